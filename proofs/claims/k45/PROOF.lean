import PyProof.Rows.All
import Wide.All
import OpenK.AllK
import PySem.Challenge.RW_wireparley_k45_whole_ways_walked
set_option linter.all false
set_option hygiene false
set_option tactic.hygienic false
set_option compiler.extract_closed false
set_option bootstrap.genMatcherCode false
set_option genSizeOf false
noncomputable section
abbrev mj:=PySem.Value
abbrev mm:=PySem.Addr
abbrev mn:=PySem.Shared
abbrev mq:=PySem.Program
abbrev mw:=PySem.World
abbrev mx:=PySem.FuncData
def nq:=@Nat.exists_eq_add_of_le'
def nu:=@List.getElem?_cons_succ
def nw:=@PySem.W.cellsFrom_some
def ny:=@List.range_succ_eq_map
def oa:=@List.drop_of_length_le
def om:=@beq_eq_false_iff_ne
def pv:=@List.take_succ
def pz:=@List.nodup_nil
def pA:=@PySem.wpAny_standAt
def pB:=@Prod.mk.injEq
def pC:=@List.sum_cons
def pE:=@Nat.le_of_eq
def pF:=@PySem.codeAny_mono
def pG:=@Nat.mul_comm
def pH:=@Nat.lt_trans
def pI:=@Nat.pow_zero
def pJ:=@Nat.lt_or_ge
def pK:=@List.any_map
def pL:=@PySem.sizeLine_eq
def pM:=@beq_iff_eq
def pN:=@PySem.wpAny_call
def pO:=@PySem.typeIs_int
def pP:=@PySem.call_meets
def pQ:=@congrArg
def pR:=@if_false
def pS:=@or_false
def pU:=@if_true
def pV:=@Iff.rfl
def pW:=@if_pos
def pX:=@if_neg
local macro_rules|`(tactic|clear 5 $t $[$a:ident]*)=>`(tactic|obtain⟨$[$a:ident],*⟩:=$t)
abbrev mh:=PySem.W.Frag
open PySem.W (codeIn)
def ua3:=@PySem.F.slot_int_bit_length
def ua4:=@List.getElem?_append_right
def ua5:=@List.getD_eq_getElem?_getD
def ua7:=@List.getElem?_eq_some_iff
def ua8:=@List.getElem?_append_left
def ub1:=@List.getElem?_eq_getElem
def ub6:=@List.getElem?_set_self
def ub7:=@PySem.Heap.get?_push_of_some
def ub9:=@Option.map_eq_some_iff
def uc0:=@List.take_of_length_le
def uc1:=@Nat.div_div_eq_div_mul
def uc3:=@List.mem_append_right
def uc5:=@List.length_replicate
def ud0:=@List.getElem?_eq_none
def ud1:=@List.mem_cons_of_mem
def ud3:=@List.getElem?_set_ne
def ud4:=@List.mem_of_getElem?
def ud8:=@PySem.Heap.get?_push_size
def ue0:=@List.replicate_succ
def ue2:=@List.getElem?_range
def ue3:=@List.take_succ_cons
def ue5:=@Nat.lt_of_lt_of_le
def ue6:=@List.mem_cons_self
def ue7:=@Bool.false_ne_true
def ue9:=@List.length_append
def uf0:=@Bool.false_eq_true
def uf1:=@List.mem_singleton
def uf4:=@Int.emod_lt_of_pos
def uf5:=@PySem.W.mg_none_of
def uf6:=@List.size_toArray
def uf7:=@List.getElem?_map
def uf8:=@Int.toNat_natCast
def uf9:=@List.flatten_cons
def ug0:=@List.append_assoc
def ug4:=@List.length_range
def ug6:=@decide_eq_true_eq
def ug7:=@of_decide_eq_true
def ug9:=@List.length_cons
def uh0:=@Nat.lt_succ_self
def uh1:=@List.length_take
def uh2:=@List.length_drop
def uh3:=@Bool.and_eq_true
def uh5:=@List.drop_length
def uh7:=@List.all_eq_true
def uh9:=@List.not_mem_nil
def ui0:=@List.any_eq_true
def ui1:=@List.getElem_mem
def ui2:=@List.cons_append
def ui3:=@List.take_length
def ui4:=@beq_self_eq_true
def ui5:=@List.mem_append
def ui7:=@List.length_map
def ui9:=@List.append_nil
def uj2:=@List.foldl_cons
def uj3:=@List.nil_append
def uj4:=@List.find?_cons
def uj5:=@List.length_nil
def uj7:=@Bool.or_eq_true
def uj8:=@Bool.eq_iff_iff
def uk0:=@List.map_append
def uk2:=@Int.emod_nonneg
def uk3:=@decide_eq_false
def uk5:=@Bool.false_and
def uk8:=@List.drop_zero
def uk9:=@decide_eq_true
def ul1:=@List.mem_cons
def ul2:=@List.map_cons
def ul3:=@Bool.or_false
def ul4:=@List.all_cons
def ul5:=@List.any_cons
def ul6:=@List.map_take
def ul7:=@Bool.false_or
def ul8:=@Bool.and_true
def ul9:=@Bool.true_and
def um0:=@Nat.add_assoc
def um1:=@Bool.and_self
def um2:=@PySem.W.mg_of
def um3:=@PySem.wpAny_holding
def um4:=@PySem.Heap.lt_size
def um5:=@Nat.ne_of_lt
def um6:=@Nat.le_trans
def um8:=@Nat.ne_of_gt
def um9:=@List.map_nil
def un0:=@List.all_map
def un1:=@Nat.pow_succ
def un3:=@List.map_map
def un6:=@Nat.le_refl
def un7:=@Nat.zero_le
def uo0:=@PySem.wpAny_bind
def uo1:=@PySem.wpAny_pure
def uo2:=@PySem.wpAny_mono
set_option Elab.async false
set_option maxRecDepth 100000
set_option maxHeartbeats 4000000
theorem oZ1{α:Sort u}{a:α}{b:Prop}:a=a\/b:=Or.inl rfl
theorem oZ2{α:Sort u}{a:α}{b:Prop}:b\/a=a:=Or.inr rfl
theorem oZ3{α:Sort u}{a:α}{b c:Prop}:b\/a=a\/c:=Or.inr (Or.inl rfl)
theorem oZ4{α:Sort u}{a:α}{b c:Prop}:b\/c\/a=a:=Or.inr (Or.inr rfl)
local macro_rules | `(tactic| walk_at"h") => `(tactic| first|exact oZ1|exact oZ2|exact oZ3|exact oZ4|assumption)
local macro_rules|`(∅)=>`(by lia)
theorem q0Ta(_:True:=by walk_at"h"):True:=.intro
def q0T:=@q0Ta._auto_1
theorem q1Ta(_:True:=by decide):True:=.intro
def q1T:=@q1Ta._auto_1
theorem q2Ta(_:True:=by intro _;rfl):True:=.intro
def q2T:=@q2Ta._auto_1
theorem q3Ta(_:True:=by rfl):True:=.intro
def q3T:=@q3Ta._auto_1
theorem q4Ta(_:True:=by with_unfolding_all rfl):True:=.intro
def q4T:=@q4Ta._auto_1
theorem q5Ta(_:True:=by exact List.cons_ne_nil _ _):True:=.intro
def q5T:=@q5Ta._auto_1
theorem q6Ta(_:True:=by exact Nat.le_of_ble_eq_true rfl):True:=.intro
def q6T:=@q6Ta._auto_1
namespace L2
inductive XB3{A0 A1 A2:Type}(P:A0->A1->A2->Prop):Prop where|mk(a0:A0)(a1:A1)(a2:A2)(h:P a0 a1 a2):XB3 P
inductive XB6{A0 A1 A2 A3 A4 A5:Type}(P:A0->A1->A2->A3->A4->A5->Prop):Prop where|mk(a0:A0)(a1:A1)(a2:A2)(a3:A3)(a4:A4)(a5:A5)(h:P a0 a1 a2 a3 a4 a5):XB6 P
inductive AB5(p0 p1 p2 p3 p4:Prop):Prop where|mk:p0->p1->p2->p3->p4->AB5 p0 p1 p2 p3 p4
inductive AB6(p0 p1 p2 p3 p4 p5:Prop):Prop where|mk:p0->p1->p2->p3->p4->p5->AB6 p0 p1 p2 p3 p4 p5
inductive AB7(p0 p1 p2 p3 p4 p5 p6:Prop):Prop where|mk:p0->p1->p2->p3->p4->p5->p6->AB7 p0 p1 p2 p3 p4 p5 p6
open PySem PySem.Spec PyProof.Rows
abbrev Key:=Sum Int Str
noncomputable def I9:Key->mj->Bool
 |.inl k,v=>Value.isInt k v
 |.inr x,v=>Value.isStrOf x v
noncomputable def jv(w:mw):Key->Int
 |.inl k=>hashInt k
 |.inr x=>hashStr w x
theorem B4:∀{k:Key}{v:mj},I9 k v=true->(∃i t,k=Sum.inl i/\v=Value.int i t)\/(∃x t,k=Sum.inr x/\v=Value.str x t)
 |.inl i,v,h=>by
   clear 5(Value.isInt_shape (k:=i) (v:=v) h)t e;exact .inl ⟨i,t,rfl,e⟩
 |.inr x,v,h=>by
   clear 5(Value.isStrOf_shape (x:=x) (v:=v) h)t e;exact .inr ⟨x,t,rfl,e⟩
theorem US(i:Int)(t:Tok):I9 (.inl i) (.int i t)=true:=by simp[I9,Value.isInt]
theorem UT(x:Str)(t:Tok):I9 (.inr x) (.str x t)=true:=by simp[I9,Value.isStrOf]
theorem dA(a b:Int):decide ((Sum.inl a:Key)=Sum.inl b)=(a==b):=by
 by_cases e:a=b
 .subst e;simp
 .have h:¬(Sum.inl a:Key)=Sum.inl b:=λq=>e (Sum.inl.inj q);rw[uk3 h];exact(om.mpr e).symm
theorem dD(a b:Str):decide ((Sum.inr a:Key)=Sum.inr b)=decide (a=b):=by
 by_cases e:a=b
 .subst e;simp
 .have h:¬(Sum.inr a:Key)=Sum.inr b:=λq=>e (Sum.inr.inj q);rw[uk3 h,uk3 e]
theorem dB(a:Int)(b:Str):decide ((Sum.inl a:Key)=Sum.inr b)=false:=uk3 (λq=>nomatch q)
theorem dC(a:Str)(b:Int):decide ((Sum.inr a:Key)=Sum.inl b)=false:=uk3 (λq=>nomatch q)
def BL(prog:mq)(w:mw):PySem.KeyKind prog w Key where
 is:=I9
 hash:=jv w
 inj:=λv a b ha hb=>by
  rcases B4 ha with⟨i,t,rfl,rfl⟩|⟨x,t,rfl,rfl⟩
  .rcases B4 hb with⟨j,u,rfl,e⟩|⟨y,u,rfl,e⟩
   .injection e with e1 _;rw[e1]
   .exact nomatch e
  .rcases B4 hb with⟨j,u,rfl,e⟩|⟨y,u,rfl,e⟩
   .exact nomatch e
   .injection e with e1 _;rw[e1]
 byValue:=λk v h=>by
  rcases B4 h with⟨i,t,rfl,rfl⟩|⟨x,t,rfl,rfl⟩<;>rfl
 pyHash:=λhv h=>by
  rcases B4 hv with⟨i,t,rfl,rfl⟩|⟨x,t,rfl,rfl⟩
  .exact wpAny_pyHash_int h
  .exact wpAny_pyHash_str h
 eqBool:=λhu hv h=>by
  rcases B4 hu with⟨i,t,rfl,rfl⟩|⟨x,t,rfl,rfl⟩
  .rcases B4 hv with⟨j,u,rfl,rfl⟩|⟨y,u,rfl,rfl⟩
   .rw[dA] at h;exact wpAny_eqBool_int h
   .rw[dB] at h;exact SeqAt.EqAt.int_str i t y u _ _ _ _ h
  .rcases B4 hv with⟨j,u,rfl,rfl⟩|⟨y,u,rfl,rfl⟩
   .rw[dC] at h;exact SeqAt.EqAt.str_int x t j u _ _ _ _ h
   .rw[dD] at h;exact wpAny_eqBool_str h
 «strs»:=λk x t v h=>by
  rcases B4 h with⟨i,u,rfl,e⟩|⟨y,u,rfl,e⟩
  .exact nomatch e
  .injection e with e1 _
   subst e1
   cases v<;>rfl
theorem SZ(prog:mq)(w:mw)(k:Key)(v:mj):(BL prog w).is k v=I9 k v:=rfl
theorem QJ(prog:mq)(w:mw)(i:Int)(t:Tok):(BL prog w).is (.inl i) (.int i t)=true:=US i t
theorem QK(prog:mq)(w:mw)(x:Str)(t:Tok):(BL prog w).is (.inr x) (.str x t)=true:=UT x t
inductive V where
 |non|bl (b:Bool)|int (i:Int)|str (x:Str)|byt (b:Array UInt8)|flt (b:UInt64)|ref (a:mm)|ty (n:String)
 deriving DecidableEq
noncomputable def RelV:V->mj->Prop
 |.non,u=>u=Value.none
 |.bl b,u=>u=Value.bool b
 |.int i,u=>∃t,u=Value.int i t
 |.str x,u=>∃t,u=Value.str x t
 |.byt b,u=>∃t,u=Value.bytes b t
 |.flt b,u=>∃t,u=Value.float b t
 |.ref a,u=>u=Value.ref a
 |.ty n,u=>u=Value.type n
abbrev Vals:List V->List mj->Prop:=Paired RelV
theorem Vals.length{xs:List V}{us:List mj}(r:Vals xs us):xs.length=us.length:=Paired.length r
theorem Vals.get:∀{xs:List V}{us:List mj}{i:Nat}{x:V},Vals xs us->xs[i]?=some x->∃u,us[i]?=some u/\RelV x u
 |_,_,_,_,.nil,e=>by simp at e
 |_,_,0,_,.cons r _,e=>by simp at e;subst e;exact⟨_,rfl,r⟩
 |_,_,i+1,x,.cons _ t,e=>by
   clear 5(Vals.get (i:=i) (x:=x) t (by simpa using e))u h1 h2;exact⟨u,by simpa using h1,h2⟩
theorem Vals.append{xs ys:List V}{us ws:List mj}(r:Vals xs us)(s:Vals ys ws):Vals (xs++ys) (us++ws):=by
 cases r with
 |nil=>exact s
 |cons r t=>exact .cons r (Vals.append t s)
theorem Vals.take:∀{xs:List V}{us:List mj} (n:Nat),Vals xs us->Vals (xs.take n) (us.take n)
 |_,_,0,_=>.nil
 |_,_,_+1,.nil=>.nil
 |_,_,n+1,.cons r t=>.cons r (Vals.take n t)
theorem Vals.drop:∀{xs:List V}{us:List mj} (n:Nat),Vals xs us->Vals (xs.drop n) (us.drop n)
 |_,_,0,r=>r
 |_,_,_+1,.nil=>.nil
 |_,_,n+1,.cons _ t=>Vals.drop n t
def RelO:Option V->Option mj->Prop
 |some v,some u=>RelV v u
 |none,none=>True
 |_,_=>False
def KV{κ:Type}:List (κ×V)->List (κ×mj)->Prop:=Paired λ(p:κ×V) (q:κ×mj)=>p.1=q.1/\RelV p.2 q.2
noncomputable def kV:Key->V
 |.inl i=>.int i
 |.inr x=>.str x
set_option genInjectivity false in inductive HO where
 /-- a list -/
 |lst (xs:List V)
 /-- a tuple (never changes) -/
 |tup (xs:List V)
 /-- a dict whose keys are ints and texts;one whose keys are tuples of ints and texts (the empty one is both) -/
 |dK (kvs:List (Key×V))|dT (kvs:List (List Key×V))
 /-- a set of ints: its members,its size -/
 |set (S:Int->Bool) (n:Nat)
 /-- an instance of the class at C,its dict at dx,its attributes -/
 |ins (C dx:mm) (fs:List (Str×V))
 /-- the dict of the instance at x -/
 |own (x:mm)
 /-- the dict of an exception -/
 |xd (fs:List (Str×V))
 /-- a bound method,f of x -/
 |met (f x:mm)
 /-- a range object lo,lo+1,.. below hi -/
 |rng (lo hi:Int)
 /-- a thing that is known to the object (the script;a dict while a loop walks it): read,never written while it is so -/
 |frz (o:Obj) (u:HO)
 /-- a code object's table -/
 |tbl (ps:Array mj)
 /-- any other thing,by what is true of its one object (a def of one's own: SetO a S n:=HO.ext λh=>..) -/
 |ext (φ:Heap->Prop)
abbrev Hp:=mm->Option HO
noncomputable def upd(H:Hp)(a:mm)(o:HO):Hp:=λb=>if b=a then some o else H b
section
variable{H:Hp}{a:mm}
theorem Be{o:HO}:upd H a o a=some o:=by unfold upd;rw[pW rfl]
variable{b:mm}
theorem Ay{o:HO}(h:b≠a):upd H a o b=H b:=by unfold upd;rw[pX h]
theorem AW{o:HO}(h:H a=some o)(h':H b=none):a≠b:=by
 intro e;subst e;rw[h] at h';cases h'
section
variable(P:mq)(w:mw)
def ObjOk(H:Hp)(h:Heap)(a:mm):HO->Prop
 |.lst xs=>xs.length<=sizeLine/\∃(its:List mj) (n:Nat),Vals xs its/\h.get? a=some {cls:=.type "list",data:=.seq its.toArray n}
 |.tup xs=>xs.length<=sizeLine/\∃its:List mj,Vals xs its/\IsTup h a its.toArray
 |.dK kvs=>kvs.length<=sizeLine/\(a==sysModules)=false/\∃vs,KV kvs vs/\h.DictOf (BL P w) a vs
 | .dT kvs=>kvs.length<=sizeLine/\(a == sysModules)=false/\∃xs:List (List Key×mm×mj),
    Paired (λ(p:List Key×V) (q:List Key×mm×mj)=>p.1=q.1/\H q.2.1=some (.tup (p.1.map kV))/\RelV p.2 q.2.2) kvs xs/\
    ∃o es ep,h.get? a=some o/\o.ExactDict/\o.data=.dict es ep/\es.toList=xs.map (entryOfKey (tupleKind (BL P w)))/\(xs.map (·.1)).Nodup
 |.set S n=>h.SetOf (intKind P w) a S n
 | .ins C dx fs=>H dx=some (.own a)/\fs.length<=1000/\dx≠a/\h.get? a=some (PySem.W.instObj C dx)/\
    ∃mA,h.Ns1 dx mA/\(∀f,RelO (fs.lookup f) (mA f))/\PySem.Within mA (fs.map (·.1))
 |.own _=>∃o,h.get? a=some o
 |.xd fs=>∃mA,h.Ns1 a mA/\∀f,RelO (fs.lookup f) (mA f)
 |.rng lo hi=>∃t u v,h.get? a=some {cls:=.type "range",data:=.fields #[.int lo t,.int hi u,.int 1 v]}
 |.frz o u=>h.get? a=some o/\ObjOk H h a u
 |.tbl ps=>h.get? a=some {cls:=.none,data:=.fields ps}
 |.met f x=>h.get? a=some (PySem.W.methodObj (.ref f) (.ref x))
 |.ext φ=>φ h/\(∃o,h.get? a=some o)/\∀h1 h2:Heap,φ h1->(∀o,h1.get? a=some o->h2.get? a=some o)->φ h2
def HOk(H:Hp)(h:Heap):Prop:=∀a o,H a=some o->ObjOk P w H h a o
end
section
variable{P:mq}{w:mw}{H H':Hp}{h h':Heap}{a:mm}{o:HO}
theorem ObjOk.lt(x:ObjOk P w H h a o):a<h.objs.size:=by
 cases o with
 |lst xs=>obtain⟨_,_,_,_,e⟩:=x;exact um4 e
 |tup xs=>obtain⟨_,_,_,p⟩:=x;exact p.lt
 |dK kvs=>obtain⟨_,_,_,_,o,_,_,e,_⟩:=x;exact um4 e
 |dT kvs=>obtain⟨_,_,_,_,o,_,_,e,_⟩:=x;exact um4 e
 |set S n=>obtain⟨o,_,_,_,e,_⟩:=x;exact um4 e
 |ins C dx fs=>obtain⟨_,_,_,e,_⟩:=x;exact um4 e
 |own y=>obtain⟨_,e⟩:=x;exact um4 e
 |xd fs=>obtain⟨_,⟨_,_,_,e,_⟩,_⟩:=x;exact um4 e
 |rng lo hi=>obtain⟨_,_,_,e⟩:=x;exact um4 e
 |frz ob u=>obtain⟨e,_⟩:=x;exact um4 e
 |tbl ps=>exact um4 (show h.get? a=some _ from x)
 |met f y=>exact um4 (show h.get? a=some _ from x)
 |ext φ=>obtain⟨_,⟨_,e⟩,_⟩:=x;exact um4 e
theorem Paired.mapP{α β:Type}{F G:α->β->Prop}:∀{l₁:List α}{l₂:List β},Paired F l₁ l₂->(∀a b,F a b->G a b)->Paired G l₁ l₂
 |_,_,.nil,_=>.nil
 |_,_,.cons r t,f=>.cons (f _ _ r) (Paired.mapP t f)
theorem ObjOk.stay(x:ObjOk P w H h a o)(k:∀b u,(b=a\/H b=some (.own a))->h.get? b=some u->h'.get? b=some u)
 (ho:∀b,H b=some (.own a)->H' b=some (.own a)) (ht:∀b xs,H b=some (.tup xs)->H' b=some (.tup xs)):ObjOk P w H' h' a o:=by
 induction o with
 |lst xs=>clear 5 x z its n r e;exact⟨z,its,n,r,k _ _ (.inl rfl) e⟩
 |tup xs=>clear 5 x z its r ob e c;exact⟨z,its,r,ob,k _ _ (.inl rfl) e,c⟩
 |dK kvs=>clear 5 x z y vs r ob es ep e c;exact⟨z,y,vs,r,ob,es,ep,k _ _ (.inl rfl) e,c⟩
 |dT kvs=>
   clear 5 x z y xs r ob es ep e c;exact⟨z,y,xs,Paired.mapP r λp q z=>⟨z.1,ht _ _ z.2.1,z.2.2⟩,ob,es,ep,k _ _ (.inl rfl) e,c⟩
 |set S n=>clear 5 x ob es ep t e c;exact⟨ob,es,ep,t,k _ _ (.inl rfl) e,c⟩
 |ins C dx fs=>
   obtain⟨d,z,ne,e,mA,⟨od,es,ep,e2,c⟩,r⟩:=x;exact⟨ho _ d,z,ne,k _ _ (.inl rfl) e,mA,⟨od,es,ep,k _ _ (.inr d) e2,c⟩,r⟩
 |own y=>clear 5 x ob e;exact⟨ob,k _ _ (.inl rfl) e⟩
 |xd fs=>obtain⟨mA,⟨od,es,ep,e,c⟩,r⟩:=x;exact⟨mA,⟨od,es,ep,k _ _ (.inl rfl) e,c⟩,r⟩
 |rng lo hi=>clear 5 x t u v e;exact⟨t,u,v,k _ _ (.inl rfl) e⟩
 |frz ob u ih=>clear 5 x e q;exact⟨k _ _ (.inl rfl) e,ih q⟩
 |tbl ps=>
   have e:h.get? a=some {cls:=.none,data:=.fields ps}:=x;show h'.get? a=some {cls:=.none,data:=.fields ps};exact k a _ (.inl rfl) e
 |met f y=>
   have e:h.get? a=some (PySem.W.methodObj (.ref f) (.ref y)):=x;show h'.get? a=some (PySem.W.methodObj (.ref f) (.ref y));exact k a _ (.inl rfl) e
 |ext φ=>obtain⟨p,⟨o,e⟩,st⟩:=x;exact⟨st _ _ p λo q=>k _ _ (.inl rfl) q,⟨o,k _ _ (.inl rfl) e⟩,st⟩
theorem HOk.lt(x:HOk P w H h)(e:H a=some o):a<h.objs.size:=(x a o e).lt
theorem HOk.fresh(x:HOk P w H h)(e:h.objs.size<=a):H a=none:=by
 cases q:H a with
 |none=>rfl
 |some u=>exact absurd (ue5 (x.lt q) e) (Nat.lt_irrefl _)
theorem HOk.kept(x:HOk P w H h)(k:∀b u,h.get? b=some u->h'.get? b=some u):HOk P w H h':=λa o e=>
 (x a o e).stay (λb u _ q=>k b u q) (λ_ q=>q) λ_ _ q=>q
theorem HOk.laid(x:HOk P w H h)(k:∀b u,h.get? b=some u->h'.get? b=some u)(hp:h.objs.size<=a)(new:ObjOk P w (upd H a o) h' a o):HOk P w (upd H a o) h':=λb u e=>by
 have hn:=x.fresh hp
 by_cases hb:b=a
 .subst hb;rw[Be] at e;cases e;exact new
 .rw[Ay hb] at e;exact(x b u e).stay (λc v _ q=>k c v q) (λc q=>by rw[Ay (AW q hn)];exact q) λc xs q=>by rw[Ay (AW q hn)];exact q
end
noncomputable def Rd(H:Hp)(a:mm)(u:HO):Prop:=H a=some u\/∃o,H a=some (.frz o u)
variable{P:mq}{w:mw}{h:Heap}
theorem Rd.ok{u:HO}(r:Rd H a u)(x:HOk P w H h):ObjOk P w H h a u:=by
 rcases r with r|⟨o,r⟩
 .exact x a u r
 .obtain⟨_,q⟩:=x a _ r;exact q
def Mut:Option HO->Prop
 |some (.lst _)=>True
 |some (.dK _)=>True
 |some (.dT _)=>True
 |some (.set _ _)=>True
 |some (.ins _ _ _)=>True
 |some (.ext _)=>True
 |_=>False
section
variable{P:mq}{w:mw}{H:Hp}{h h':Heap}{x e:mm}{o':HO}
theorem HOk.write(ok:HOk P w H h)(mu:Mut (H x))(he:e=x\/H e=some (.own x))(k:∀b u,b≠e->h.get? b=some u->h'.get? b=some u)(heo:∃u,h'.get? e=some u)
 (new:ObjOk P w (upd H x o') h' x o'):HOk P w (upd H x o') h':=λb u q=>by
 have nown:∀c y,H c=some (.own y)->c≠x:=λc y r z=>by subst z;rw[r] at mu;exact mu
 have ntup:∀c xs,H c=some (.tup xs)->c≠x:=λc xs r z=>by subst z;rw[r] at mu;exact mu
 by_cases hb:b=x
 .subst hb;rw[Be] at q;cases q;exact new
 .rw[Ay hb] at q
  by_cases hbe:b=e
  .have q':H b=some (.own x):=by
    rcases he with z|z
    .exact absurd (hbe.trans z) hb
    .rw[hbe];exact z
   rw[q] at q';cases q'
   clear 5 heo v hv;exact⟨v,by rw[hbe];exact hv⟩
  .refine(ok b u q).stay (λc v hc r=>k c v ?_ r) (λc r=>by rw[Ay (nown c b r)];exact r) λc xs r=>by rw[Ay (ntup c xs r)];exact r
   rcases hc with rfl|hc
   .exact hbe
   .rintro rfl;rcases he with z|z
    .exact nown c b hc z
    .rw[hc] at z;cases z;exact hb rfl
end
structure Un(fs ex:List mm)(H H':Hp)(h h':Heap):Prop where
 keep:∀b o,h.get? b=some o->H b=none->b∉fs->b∉ex->h'.get? b=some o
 slot:∀b o,h.get? b=some o->H b=none->b∈fs->b∉ex->∃sl,h'.get? b=some {o with slots:=sl}
 free:∀b o,h.get? b=some o->H b=none->b∉ex->H' b=none
 there:∀b o,h.get? b=some o->b∉ex->∃o',h'.get? b=some o'
 tups:∀b xs,H b=some (.tup xs)->H' b=some (.tup xs)
 frzs:∀b o u,H b=some (.frz o u)->H' b=some (.frz o u)
 tbls:∀b ps,H b=some (.tbl ps)->∃more,H' b=some (.tbl (ps++more))
section
variable{fs fs' ex ex':List mm}{H H1 H2:Hp}{h h1 h2 h':Heap}{a x e:mm}{o:HO}
theorem Un.any(u:Un fs ex H H1 h h1){b:mm}{ob:Obj}(q:h.get? b=some ob)(n:H b=none)(hx:b∉ex):∃sl,h1.get? b=some {ob with slots:=sl}:=by
 by_cases hb:b∈fs
 .exact u.slot b ob q n hb hx
 .exact⟨ob.slots,u.keep b ob q n hb hx⟩
theorem Un.kept(k:∀b u,h.get? b=some u->h'.get? b=some u):Un fs ex H H h h':=
 ⟨λb ob q _ _ _=>k b ob q,λb ob q _ _ _=>⟨ob.slots,k b ob q⟩,λ_ _ _ n _=>n,λb ob q _=>⟨ob,k b ob q⟩,λ_ _ q=>q,λ_ _ _ q=>q,λ_ ps q=>⟨#[],by rw[q];simp⟩⟩
theorem Un.refl:Un fs ex H H h h:=Un.kept λ_ _ q=>q
theorem Un.laid(k:∀b u,h.get? b=some u->h'.get? b=some u)(hp:h.objs.size<=a)(hn:H a=none):Un fs ex H (upd H a o) h h' where
 keep:=λb u q _ _ _=>k b u q
 slot:=λb u q _ _ _=>⟨u.slots,k b u q⟩
 free:=λb u q n _=>by rw[Ay (um5 (ue5 (um4 q) hp))];exact n
 there:=λb u q _=>⟨u,k b u q⟩
 tups:=λb xs q=>by rw[Ay (AW q hn)];exact q
 frzs:=λb u xs q=>by rw[Ay (AW q hn)];exact q
 tbls:=λb ps q=>⟨#[],by rw[Ay (AW q hn),q];simp⟩
theorem Un.write(mu:Mut (H x))(he:e=x\/H e=some (.own x))(k:∀b u,b≠e->h.get? b=some u->h'.get? b=some u)(heo:∃u,h'.get? e=some u):Un fs ex H (upd H x o) h h':=by
 have hx:∀b,H b=none->b≠x:=λb n z=>by subst z;rw[n] at mu;exact mu
 have hb:∀b,H b=none->b≠e:=λb n z=>by
  subst z;rcases he with r|r
  .exact hx b n r
  .rw[n] at r;cases r
 have hm:∀b u,H b=some u->¬Mut (some u)->b≠x:=λb u q nm z=>by subst z;rw[q] at mu;exact nm mu
 refine⟨λb u q n _ _=>k b u (hb b n) q,λb u q n _ _=>⟨u.slots,k b u (hb b n) q⟩,λb u q n _=>by rw[Ay (hx b n)];exact n,λb u q _=>?_,
  λb xs q=>by rw[Ay (hm b _ q λz=>z)];exact q,λb u xs q=>by rw[Ay (hm b _ q λz=>z)];exact q,λb ps q=>⟨#[],by rw[Ay (hm b _ q λz=>z),q];simp⟩⟩
 by_cases hbe:b=e
 .subst hbe;exact heo
 .exact⟨u,k b u hbe q⟩
end
noncomputable def trk(h:Heap)(H:Hp):List mm:=(List.range h.objs.size).filter λa=>(H a).isSome
def IY(h:Heap)(H:Hp):Heap:=PySem.W.hideAll h (trk h H)
theorem UH(h:Heap)(H:Hp):(IY h H).objs.size=h.objs.size:=PySem.W.hideAll_size _ _
theorem W8{o:Obj}(e:h.get? b=some o)(n:H b=none):(IY h H).get? b=some o:=
 PySem.W.hideAll_get _ e λhm=>by
  have q:(H b).isSome=true:=(List.mem_filter.mp hm).2;rw[n] at q;simp at q
theorem ad{o:Obj}(e:(IY h H).get? b=some o):h.get? b=some o/\H b=none:=by
 have e':h.get? b=some o:=PySem.W.of_hideAll (trk h H) e;refine⟨e',?_⟩
 cases q:H b with
 |none=>rfl
 |some x=>
   have hm:b∈trk h H:=List.mem_filter.mpr ⟨List.mem_range.mpr (um4 e'),by simp[q]⟩;have z:(IY h H).get? b=none:=PySem.W.hideAll_none (trk h H) hm;rw[z] at e;cases e
noncomputable def Zf(g h:Heap)(L:mm):List (mm×Obj):=(List.range h.objs.size).filterMap λa=>if a=L\/(g.get? a).isSome=true then none else(h.get? a).map λo=>(a,o)
def rest(g h:Heap)(L d:mm):List (mm×Obj):=(Zf g h L).filter λp=>decide (p.1≠d)
structure Mod(K:mh)(mg:Str->Option mj)(base:Heap):Prop where
 kin:K.In base
 glob:base.Ns mainGlobals mg
 blt:∃mb,base.Ns builtinsNs mb/\∀x:Str,x≠"__name__"->mb x=bootBuiltins x
 nolimit:base.NoLimit
structure Cx where
 prog:mq
 w:mw
 K:mh
 mg:Str->Option mj
 base:Heap
 A:Around
 N:List Str
 s₀:mn
 H₀:Hp
 env:Env
 outer:List Env
 stack:List Env
 ex:List mm
 fn:Str->Bool
 calm:Bool
 pn:List (mm×Obj)
 xe:mj->mn->Prop
noncomputable def frs(l:List Env):List mm:=l.filterMap (·.frame)
abbrev Cx.fs(X:Cx):List mm:=frs X.outer
def Vis(sc:Scope)(x:Str):Prop:=sc.names.lookup x=some .local\/sc.names.lookup x=some .cell\/sc.names.lookup x=some .free
def Loc(sc:Scope)(x:Str):Prop:=sc.names.lookup x=some .local\/sc.names.lookup x=some .cell
def i4(env:Env)(h:Heap)(m:Str->Option mj)(x:Str)(u:mj):Prop:=
 (env.kindOf x=some .local/\m x=some u)\/((env.kindOf x=some .cell\/env.kindOf x=some .free)/\∃c,env.cells.lookup x=some c/\h.IsCell c (some u))
structure Cx.Ok(X:Cx):Prop where
 mod:Mod X.K X.mg X.base
 kind:X.env.scope.kind=.function
 glob:X.env.globals=mainGlobals
 blt:X.env.builtins=builtinsNs
 above:X.s₀.heap.objs.size<=X.env.locals
 inj:∀x y c,X.env.cells.lookup x=some c->X.env.cells.lookup y=some c->x=y
 has:∀x,(X.env.kindOf x=some .cell\/X.env.kindOf x=some .free)->∃c,X.env.cells.lookup x=some c
 cab:∀x c,X.fn x=true->X.env.cells.lookup x=some c->X.s₀.heap.objs.size<=c
 hd:X.calm=true->X.A.handled=none
 frames:X.A.frames=some X.stack
 stk:X.stack=X.outer\/(X.stack=X.env::X.outer/\X.env.frame=some X.env.locals)
 exf:∀b∈X.ex,b≠X.env.locals/\∀x c,X.env.cells.lookup x=some c->c≠b
 bs:∀b o,X.base.get? b=some o->X.s₀.heap.get? b=some o/\X.H₀ b=none
 bsz:X.base.objs.size<=X.s₀.heap.objs.size
 noex:∀b o,X.base.get? b=some o->b∉X.ex
 exfs:∀b∈X.ex,b∉X.fs
 funs:X.s₀.heap.FunFrames X.base X.outer
 frf:∀b∈X.fs,X.H₀ b=none
structure Inv(X:Cx)(mi:List (mm×Obj))(σ:List (Option V))(H:Hp)(s:mn):Prop where
 ok:X.Ok
 os:s.os=X.s₀.os
 bare:AllBare s.gens
 base:Un X.fs X.ex X.H₀ H X.s₀.heap s.heap
 loc:∃m,s.heap.Ns X.env.locals m/\∀(i:Nat) (x:Str) (v:V),X.N[i]?=some x->σ[i]?=some (some v)->Vis X.env.scope x->∃u,RelV v u/\i4 X.env s.heap m x u
 cell:∀x c,X.env.cells.lookup x=some c->∃v,s.heap.IsCell c v
 free:H X.env.locals=none
 freeC:∀x c,X.env.cells.lookup x=some c->H c=none
 pin:∀p∈X.pn++mi,s.heap.get? p.1=some p.2/\H p.1=none/\p.1≠X.env.locals/\p.1∉X.fs/\∀v,p.2.data≠.cell v
 hok:HOk X.prog X.w H s.heap
 len:σ.length=X.N.length
variable{t' i:Nat}{ch:List mm}{E:mj->mn->Prop}{v:V}{u:mj}{Q:Unit->mn->Prop}
section
variable{X:Cx}{mi:List (mm×Obj)}{σ:List (Option V)}{H H':Hp}{s:mn}{h':Heap}
theorem Cx.Ok.nofr(ok:X.Ok){b:mm}{o:Obj}(e:X.base.get? b=some o):b∉X.fs:=λhb=>by
 have:=(ok.funs.mem hb).1;rw[e] at this;cases this
theorem Inv.bs(I:Inv X mi σ H s):∀b o,X.base.get? b=some o->s.heap.get? b=some o/\H b=none:=λb o e=>
 ⟨I.base.keep b o (I.ok.bs b o e).1 (I.ok.bs b o e).2 (I.ok.nofr e) (I.ok.noex b o e),I.base.free b o (I.ok.bs b o e).1 (I.ok.bs b o e).2 (I.ok.noex b o e)⟩
theorem Inv.bk(I:Inv X mi σ H s):∀b o,X.base.get? b=some o->s.heap.get? b=some o:=λb o e=>(I.bs b o e).1
theorem Inv.mod(I:Inv X mi σ H s):Mod X.K X.mg X.base:=I.ok.mod
theorem Inv.kIn(I:Inv X mi σ H s):X.K.In s.heap:=I.ok.mod.kin.keeps I.bk
theorem Inv.lt(I:Inv X mi σ H s):X.env.locals<s.heap.objs.size:=let ⟨_,hn,_⟩:=I.loc;hn.lt
theorem Inv.sz(I:Inv X mi σ H s):X.s₀.heap.objs.size<=s.heap.objs.size:=um6 I.ok.above (Nat.le_of_lt I.lt)
theorem Inv.nofs(I:Inv X mi σ H s){a:mm}(h:s.heap.objs.size<=a):a∉X.fs:=λhb=>by
 obtain⟨_,o,ho,_⟩:=I.ok.funs.mem hb;exact absurd (ue5 (um4 ho) (um6 I.sz h)) (Nat.lt_irrefl _)
theorem Inv.cne(I:Inv X mi σ H s):∀x c,X.env.cells.lookup x=some c->c≠X.env.locals:=λx c e z=>by
 clear 5(I.cell x c e)v o ho hd;obtain⟨m,⟨o',es,ep,ho',hd',_⟩,_⟩:=I.loc;rw[z,ho'] at ho;cases ho;rw[hd'] at hd;cases hd
theorem Inv.funs(I:Inv X mi σ H s):s.heap.FunFrames X.base X.outer:=by
 have all:∀(l:List Env),(∀b∈frs l,b∈X.fs)->X.s₀.heap.FunFrames X.base l->s.heap.FunFrames X.base l:=by
  intro l
  induction l with
  |nil=>intro _ _;trivial
  |cons env r ih=>
    intro hs hl;obtain⟨hk,⟨L,o,hf,hn,ho,hd⟩,hr⟩:=hl;have hL:L∈X.fs:=hs L (by unfold frs;rw[List.filterMap_cons,hf];exact ue6);obtain⟨sl,e⟩:=I.base.slot L o ho (I.ok.frf L hL) hL λz=>I.ok.exfs L z hL;exact⟨hk,⟨L,_,hf,hn,e,hd⟩,ih (λb hb=>hs b (by unfold frs;rw[List.filterMap_cons,hf];exact ud1 _ hb)) hr⟩
 exact all X.outer (λ_ hb=>hb) I.ok.funs
theorem Inv.stack(I:Inv X mi σ H s):s.heap.FunFrames X.base X.stack:=by
 rcases I.ok.stk with e|⟨e,hf⟩
 .rw[e];exact I.funs
 .rw[e];obtain⟨m,hn,_⟩:=I.loc;refine .cons (by rw[I.ok.kind];decide) hf hn ?_ I.funs;exact Heap.get?_none_of_le (um6 I.ok.bsz I.ok.above)
theorem Inv.stkSub(I:Inv X mi σ H s):∀b∈frs X.stack,b∈X.env.locals::X.fs:=λb hb=>by
 rcases I.ok.stk with e|⟨e,hf⟩
 .rw[e] at hb;exact ud1 _ hb
 .rw[e] at hb;unfold frs at hb;rw[List.filterMap_cons,hf] at hb;exact hb
theorem Inv.stkFree(I:Inv X mi σ H s):∀b∈frs X.stack,H b=none:=λb hb=>by
 rcases ul1.mp (I.stkSub b hb) with e|hb
 .rw[e];exact I.free
 .obtain⟨_,o,ho,_⟩:=I.ok.funs.mem hb;exact I.base.free b o ho (I.ok.frf b hb) λz=>I.ok.exfs b z hb
theorem Inv.step{g':Array GenState}{d':Drawn}(I:Inv X mi σ H s)
 (hch:∀b∈ch,(b∈X.ex\/X.s₀.heap.objs.size<=b)/\b≠X.env.locals/\(∀x c,X.env.cells.lookup x=some c->c≠b)/\∀p∈X.pn++mi,p.1≠b)
 (keep:∀b o,b≠X.env.locals->b∉X.fs->b∉ch->s.heap.get? b=some o->H b=none->h'.get? b=some o)
 (slot:∀b o,b≠X.env.locals->b∈X.fs->b∉ch->s.heap.get? b=some o->H b=none->∃sl,h'.get? b=some {o with slots:=sl}) (free:∀b o,b∉ch->s.heap.get? b=some o->H b=none->H' b=none)
 (there:∀b o,b∉ch->s.heap.get? b=some o->∃o',h'.get? b=some o')
 (tups:∀b xs,H b=some (.tup xs)->H' b=some (.tup xs)) (frzs:∀b o u,H b=some (.frz o u)->H' b=some (.frz o u)) (tbls:∀b ps,H b=some (.tbl ps)->∃more,H' b=some (.tbl (ps++more)))
 (ns:∀m,s.heap.Ns X.env.locals m->h'.Ns X.env.locals m) (hok:HOk X.prog X.w H' h') (hg:AllBare g') :
 Inv X mi σ H' {s with heap:=h',gens:=g',drawn:=d',toks:=t'}:=by
 have neL:∀b o,X.s₀.heap.get? b=some o->b≠X.env.locals:=λb o e=>um5 (ue5 (um4 e) I.ok.above);have neC:∀b o,X.s₀.heap.get? b=some o->b∉X.ex->b∉ch:=λb o e hx hb=>by
  rcases (hch b hb).1 with z|z
  .exact hx z
  .exact absurd (ue5 (um4 e) z) (Nat.lt_irrefl _)
 have cellK:∀x c,X.env.cells.lookup x=some c->∀v,s.heap.IsCell c v->h'.IsCell c v:=λx c e v z9=>by
  clear 5 z9 o ho hd;have nch:c∉ch:=λz=>(hch c z).2.2.1 x c e rfl
  by_cases hc:c∈X.fs
  .clear 5(slot c o (I.cne x c e) hc nch ho (I.freeC x c e))sl q;exact⟨_,q,hd⟩
  .exact⟨o,keep c o (I.cne x c e) hc nch ho (I.freeC x c e),hd⟩
 refine⟨I.ok,I.os,hg,⟨λb o e n hb hx=>?_,λb o e n hb hx=>?_,λb o e n hx=>?_,λb o e hx=>?_,λb xs e=>tups b xs (I.base.tups b xs e),λb o xs e=>frzs b o xs (I.base.frzs b o xs e),λb ps e=>?_⟩,?_,λx c e=>?_,?_,λx c e=>?_,λp hp=>?_,hok,I.len⟩
 .exact keep b o (neL b o e) hb (neC b o e hx) (I.base.keep b o e n hb hx) (I.base.free b o e n hx)
 .clear 5(I.base.slot b o e n hb hx)sl e1;clear 5(slot b _ (neL b o e) hb (neC b o e hx) e1 (I.base.free b o e n hx))sl' e2;exact⟨sl',e2⟩
 .clear 5(I.base.there b o e hx)o' e1;exact free b o' (neC b o e hx) e1 (I.base.free b o e n hx)
 .clear 5(I.base.there b o e hx)o' e1;exact there b o' (neC b o e hx) e1
 .clear 5(I.base.tbls b ps e)m1 e1;clear 5(tbls b _ e1)m2 e2;exact⟨m1++m2,by rw[e2,Array.append_assoc]⟩
 .clear 5 I.loc m hn hl;refine⟨m,ns m hn,λi x v e1 e2 e3=>?_⟩;clear 5(hl i x v e1 e2 e3)u r l;refine⟨u,r,?_⟩;rcases l with l|⟨k,c,e,z⟩
  .exact .inl l
  .exact .inr ⟨k,c,e,cellK x c e _ z⟩
 .clear 5(I.cell x c e)v z;exact⟨v,cellK x c e v z⟩
 .obtain⟨m,⟨o,_,_,ho,_⟩,_⟩:=I.loc;exact free _ o (λz=>(hch _ z).2.1 rfl) ho I.free
 .clear 5(I.cell x c e)v o ho hd;exact free c o (λz=>(hch c z).2.2.1 x c e rfl) ho (I.freeC x c e)
 .clear 5(I.pin p hp)e n ne nf d;have nch:p.1∉ch:=λz=>(hch p.1 z).2.2.2 p hp rfl;exact⟨keep p.1 p.2 ne nf nch e n,free p.1 p.2 nch e n,ne,nf,d⟩
theorem Inv.un(I:Inv X mi σ H s)(u:Un X.fs [] H H' s.heap h')(hok:HOk X.prog X.w H' h'):Inv X mi σ H' {s with heap:=h',toks:=t'}:=by
 obtain⟨m,⟨o,es,ep,ho,r⟩,_⟩:=id I.loc;clear 5(u.any ho I.free (by simp))sl hL;exact I.step (g':=s.gens) (d':=s.drawn) (ch:=[]) (λ_ z=>nomatch z) (λb o _ hb _ e n=>u.keep b o e n hb (by simp)) (λb o _ hb _ e n=>u.slot b o e n hb (by simp)) (λb o _ e n=>u.free b o e n (by simp)) (λb o _ e=>u.there b o e (by simp)) u.tups u.frzs u.tbls (λm' hm=>by
  clear 5 hm o' es' ep' ho' r';rw[ho] at ho';cases ho'
  exact⟨_,es',ep',hL,r'⟩) hok I.bare
theorem Inv.call{g':Array GenState}{d':Drawn}(I:Inv X mi σ H s)(u:Un (frs X.stack) ch H H' s.heap h')(hok:HOk X.prog X.w H' h')(hg:AllBare g')
 (hch:∀b∈ch,(b∈X.ex\/X.s₀.heap.objs.size<=b)/\b≠X.env.locals/\(∀x c,X.env.cells.lookup x=some c->c≠b)/\∀p∈X.pn++mi,p.1≠b) :
 Inv X mi σ H' {s with heap:=h',gens:=g',drawn:=d',toks:=t'}:=by
 obtain⟨m,⟨o,es,ep,ho,r⟩,_⟩:=id I.loc;obtain⟨sl,hL⟩:=u.any ho I.free λz=>(hch _ z).2.1 rfl;exact I.step (ch:=ch) hch (λb o hL hb hc e n=>u.keep b o e n (λz=>(ul1.mp (I.stkSub b z)).elim hL hb) hc) (λb o _ _ hc e n=>u.any e n hc) (λb o hc e n=>u.free b o e n hc) (λb o hc e=>u.there b o e hc) u.tups u.frzs u.tbls (λm' hm=>by
  clear 5 hm o' es' ep' ho' r';rw[ho] at ho';cases ho'
  exact⟨_,es',ep',hL,r'⟩) hok hg
theorem Inv.turned{it:mm}(I:Inv X mi σ H s)(k:∀b o,b≠it->s.heap.get? b=some o->h'.get? b=some o)(hn:H it=none)(hL:it≠X.env.locals)
 (h1:it∈X.ex\/X.s₀.heap.objs.size<=it) (h2:∀x c,X.env.cells.lookup x=some c->c≠it) (h3:∀p∈X.pn++mi,p.1≠it):Inv X mi σ H {s with heap:=h',toks:=t'}:=by
 have nit:∀b u,H b=some u->b≠it:=λb u e z=>by rw[z,hn] at e;cases e
 refine I.step (g':=s.gens) (d':=s.drawn) (ch:=[it]) (λb hb=>?_) (λb o _ _ hc e _=>k b o (λz=>hc (by simp[z])) e) (λb o _ _ hc e _=>⟨o.slots,k b o (λz=>hc (by simp[z])) e⟩) (λ_ _ _ _ n=>n)
  (λb o hc e=>⟨o,k b o (λz=>hc (by simp[z])) e⟩) (λ_ _ e=>e) (λ_ _ _ e=>e) (λb ps e=>⟨#[],by rw[e];simp⟩) (λm hm=>?_) (λb u e=>?_) I.bare
 .have e:b=it:=by simpa using hb
  subst e;exact⟨h1,hL,h2,h3⟩
 .clear 5 hm o es ep ho r;exact⟨o,es,ep,k _ o (Ne.symm hL) ho,r⟩
 .refine(I.hok b u e).stay (λc v hc q=>k c v ?_ q) (λ_ q=>q) λ_ _ q=>q;rcases hc with z|z
  .rw[z];exact nit b u e
  .exact nit c _ z
theorem Inv.tok(I:Inv X mi σ H s)(t:Nat):Inv X mi σ H {s with toks:=t}:=I.un (h':=s.heap) (t':=t) Un.refl I.hok
theorem Inv.kept{t':Nat}(I:Inv X mi σ H s)(k:∀b u,s.heap.get? b=some u->h'.get? b=some u):Inv X mi σ H {s with heap:=h',toks:=t'}:=I.un (Un.kept k) (I.hok.kept k)
theorem Inv.laid{a:mm}{o:HO}{t':Nat}(I:Inv X mi σ H s)(k:∀b u,s.heap.get? b=some u->h'.get? b=some u)(hp:s.heap.objs.size<=a)(new:ObjOk X.prog X.w (upd H a o) h' a o) :
 Inv X mi σ (upd H a o) {s with heap:=h',toks:=t'}:=I.un (Un.laid k hp (I.hok.fresh hp)) (I.hok.laid k hp new)
theorem Inv.write{x e:mm}{o:HO}{t':Nat}(I:Inv X mi σ H s)(mu:Mut (H x))(he:e=x\/H e=some (.own x))(k:∀b u,b≠e->s.heap.get? b=some u->h'.get? b=some u)(heo:∃u,h'.get? e=some u)
 (new:ObjOk X.prog X.w (upd H x o) h' x o):Inv X mi σ (upd H x o) {s with heap:=h',toks:=t'}:=I.un (Un.write mu he k heo) (I.hok.write mu he k heo new)
theorem Inv.pins_of{pins':List (mm×Obj)}(I:Inv X mi σ H s)(h:∀p∈pins',s.heap.get? p.1=some p.2/\H p.1=none/\p.1≠X.env.locals/\p.1∉X.fs/\∀v,p.2.data≠.cell v):Inv X pins' σ H s:=
 ⟨I.ok,I.os,I.bare,I.base,I.loc,I.cell,I.free,I.freeC,λp hp=>(ui5.mp hp).elim (λz=>I.pin p (List.mem_append_left _ z)) (h p),I.hok,I.len⟩
theorem Lv{N:List Str}(hN:N.Nodup){i j:Nat}{x:Str}(a:N[i]?=some x)(b:N[j]?=some x):i=j:=by
 clear 5(ua7.mp a)h1 e1;clear 5(ua7.mp b)h2 e2;exact(List.getElem_inj hN).mp (e1.trans e2.symm)
theorem Od{M:Model}{A:Around}{x:Str}(I:Inv X mi σ H s)(hN:X.N.Nodup)(hi:X.N[i]?=some x)(hx:Loc X.env.scope x)(r:RelV v u)
 (h:∀s',Inv X mi (σ.set i (some v)) H s'->(∃a,Heap.SameBut a s.heap s'.heap/\(a=X.env.locals\/X.env.cells.lookup x=some a))->Q () s') (hf:autoParam (X.fn x=true\/X.env.scope.names.lookup x=some .local) q0T):wpAny M A (storeName X.env x u) Q E s:=by
 clear 5(id I.loc)m hn hl;have hcls:(X.env.scope.kind==.class||(X.env.scope.kind==.module&&X.env.locals != X.env.globals))=false:=by rw[I.ok.kind];rfl
 have hiσ:i < σ.length:=by rw[I.len];exact(ua7.mp hi).1
 have cne:=I.cne;have tracked:∀{a:mm}{h':Heap},(∃o,s.heap.get? a=some o/\H a=none)->Heap.SameBut a s.heap h'->HOk X.prog X.w H h':=λ{a h'} ha hs b ob e=>by
  obtain⟨_,_,hfree⟩:=ha;refine(I.hok b ob e).stay (λc w' hc q=>(hs.2 c ?_).trans q) (λ_ q=>q) λ_ _ q=>q;rintro rfl;rcases hc with rfl|hc
  .rw[hfree] at e;cases e
  .rw[hfree] at hc;cases hc
 rcases hx with hk|hk
 .refine wpAny_storeName_local hk hn (λh' hn' hs=>?_) hcls;obtain⟨oL,_,_,hoL,_⟩:=id hn;refine h _ ⟨I.ok,I.os,I.bare,⟨λb o e n hb hx=>?_,λb o e n hb hx=>?_,I.base.free,λb o e hx=>?_,I.base.tups,I.base.frzs,I.base.tbls⟩,⟨_,hn',λj y v' e1 e2 e3=>?_⟩,λy c e=>?_,I.free,I.freeC,λp hp=>?_,tracked ⟨oL,hoL,I.free⟩ hs,by simpa using I.len⟩ ⟨_,hs,.inl rfl⟩
  .exact(hs.2 b (um5 (ue5 (um4 e) I.ok.above))).trans (I.base.keep b o e n hb hx)
  .clear 5(I.base.slot b o e n hb hx)sl e1;exact⟨sl,(hs.2 b (um5 (ue5 (um4 e) I.ok.above))).trans e1⟩
  .clear 5(I.base.there b o e hx)o' e1;exact⟨o',(hs.2 b (um5 (ue5 (um4 e) I.ok.above))).trans e1⟩
  .by_cases hj:j=i
   .subst hj;rw[hi] at e1;cases e1
    rw[ub6 hiσ] at e2
    cases e2
    exact⟨u,r,.inl ⟨hk,by simp⟩⟩
   .rw[ud3 (Ne.symm hj)] at e2;clear 5(hl j y v' e1 e2 e3)u' r' q;refine⟨u',r',?_⟩;rcases q with⟨k,e⟩|⟨k,c,e,z⟩
    .refine .inl ⟨k,?_⟩;have:y≠x:=λe=>hj (Lv hN e1 (e ▸ hi));simp[this,e]
    .exact .inr ⟨k,c,e,z.sameBut hs (cne y c e)⟩
  .clear 5(I.cell y c e)w' z;exact⟨w',z.sameBut hs (cne y c e)⟩
  .clear 5(I.pin p hp)e n ne nf d;exact⟨(hs.2 p.1 ne).trans e,n,ne,nf,d⟩
 .have hfn:X.fn x=true:=by
   rcases hf with z|z
   .exact z
   .rw[z] at hk;cases hk
  clear 5(I.ok.has x (.inl hk))c hc;clear 5(I.cell x c hc)w' z;refine wpAny_storeName_cell I.ok.kind hk hc z (λh' hc' hs=>?_);clear 5(id z)oc hoc hocd;refine h {s with heap:=h'} ⟨I.ok,I.os,I.bare,⟨λb o e n hb hx=>?_,λb o e n hb hx=>?_,I.base.free,λb o e hx=>?_,I.base.tups,I.base.frzs,I.base.tbls⟩,⟨m,hn.sameBut hs (Ne.symm (cne x c hc)),λj y v' e1 e2 e3=>?_⟩,λy c' e=>?_,I.free,I.freeC,λp hp=>?_,tracked ⟨oc,hoc,I.freeC x c hc⟩ hs,by simpa using I.len⟩ ⟨c,hs,.inr hc⟩
  .exact(hs.2 b (um5 (ue5 (um4 e) (I.ok.cab x c hfn hc)))).trans (I.base.keep b o e n hb hx)
  .clear 5(I.base.slot b o e n hb hx)sl e1;exact⟨sl,(hs.2 b (um5 (ue5 (um4 e) (I.ok.cab x c hfn hc)))).trans e1⟩
  .clear 5(I.base.there b o e hx)o' e1;exact⟨o',(hs.2 b (um5 (ue5 (um4 e) (I.ok.cab x c hfn hc)))).trans e1⟩
  .by_cases hj:j=i
   .subst hj;rw[hi] at e1;cases e1
    rw[ub6 hiσ] at e2
    cases e2
    exact⟨u,r,.inr ⟨.inl hk,c,hc,hc'⟩⟩
   .rw[ud3 (Ne.symm hj)] at e2;clear 5(hl j y v' e1 e2 e3)u' r' q;refine⟨u',r',?_⟩;rcases q with q|⟨k,c',e,z'⟩
    .exact .inl q
    .refine .inr ⟨k,c',e,z'.sameBut hs ?_⟩;rintro rfl;exact hj (Lv hN e1 (I.ok.inj _ _ _ e hc ▸ hi))
  .by_cases hcc:c'=c
   .subst hcc;exact⟨_,hc'⟩
   .clear 5(I.cell y c' e)w2 z2;exact⟨w2,z2.sameBut hs hcc⟩
  .clear 5(I.pin p hp)e n ne nf d;refine⟨(hs.2 p.1 ?_).trans e,n,ne,nf,d⟩;intro q;rw[q,hoc] at e;have q':oc=p.2:=Option.some.inj e;exact d w' (by rw[<-q'];exact hocd)
theorem Jp{M:Model}{A:Around}{x:Str}(I:Inv X mi σ H s)(hN:X.N.Nodup)(hi:X.N[i]?=some x)(hx:Loc X.env.scope x)(r:RelV v u)
 (h:∀s',Inv X mi (σ.set i (some v)) H s'->Q () s') (hf:autoParam (X.fn x=true\/X.env.scope.names.lookup x=some .local) q0T):wpAny M A (storeName X.env x u) Q E s:=
 Od I hN hi hx r (λs' I' _=>h s' I') hf
theorem Inv.call'{s':mn}(I:Inv X mi σ H s)(ho:s'.os=s.os)(u:Un (frs X.stack) ch H H' s.heap s'.heap)(hok:HOk X.prog X.w H' s'.heap)(hg:AllBare s'.gens)
 (hch:∀b∈ch,(b∈X.ex\/X.s₀.heap.objs.size<=b)/\b≠X.env.locals/\(∀x c,X.env.cells.lookup x=some c->c≠b)/\∀p∈X.pn++mi,p.1≠b):Inv X mi σ H' s':=by
 clear 5 s' h' g' d' t' o';have e:o'=s.os:=ho;subst e;exact I.call (g':=g') (t':=t') (d':=d') u hok hg hch
end
abbrev XK:=mj->Option mm->Hp->Prop
abbrev St:=List (Option V)
abbrev VK:=V->Hp->Prop
abbrev TE:=St->Hp->VK->Prop
abbrev TT:=St->Hp->(Bool->Hp->Prop)->Prop
abbrev TA:=St->Hp->(List V->Hp->Prop)->Prop
set_option genInjectivity false in structure Ends where
 nx:St->Hp->Prop
 rt:VK
 bk:St->Hp->Prop:=λ_ _=>False
 ct:St->Hp->Prop:=λ_ _=>False
abbrev TS:=Ends->St->Hp->Prop
inductive EP(X:Cx)(mi:List (mm×Obj))(σ:St)(Q:VK)(u:mj)(s':mn):Prop where
 |mk (v:V) (H':Hp) (i:Inv X mi σ H' s') (r:RelV v u) (q:Q v H'):EP X mi σ Q u s'
inductive TP(X:Cx)(mi:List (mm×Obj))(σ:St)(Q:Bool->Hp->Prop)(b:Bool)(s':mn):Prop where
 |mk (H':Hp) (i:Inv X mi σ H' s') (q:Q b H'):TP X mi σ Q b s'
inductive AP(X:Cx)(mi:List (mm×Obj))(σ:St)(Q:List V->Hp->Prop)(us:List mj)(s':mn):Prop where
 |mk (vs:List V) (H':Hp) (i:Inv X mi σ H' s') (r:Vals vs us) (q:Q vs H'):AP X mi σ Q us s'
def SP(X:Cx)(mi:List (mm×Obj))(D:Ends)(f:Flow)(s':mn):Prop:=
 match f with
 |.next=>∃σ' H',Inv X mi σ' H' s'/\D.nx σ' H'
 |.brk=>∃σ' H',Inv X mi σ' H' s'/\D.bk σ' H'
 |.cont=>∃σ' H',Inv X mi σ' H' s'/\D.ct σ' H'
 |.ret u=>∃v σ' H',Inv X mi σ' H' s'/\RelV v u/\D.rt v H'
def PE(X:Cx)(e:Expr)(t:TE):Prop:=
 ∀(mi:List (mm×Obj)) (s:mn) (σ:St) (H:Hp) (Q:VK),Inv X mi σ H s->t σ H Q->wpAny (model X.prog X.w) X.A (eval e X.env) (EP X mi σ Q) X.xe s
def PT(X:Cx)(e:Expr)(t:TT):Prop:=
 ∀(mi:List (mm×Obj)) (s:mn) (σ:St) (H:Hp) (Q:Bool->Hp->Prop),Inv X mi σ H s->t σ H Q->wpAny (model X.prog X.w) X.A (isTrue e X.env (eval e X.env)) (TP X mi σ Q) X.xe s
def PW(X:Cx)(e:Expr)(t:TT):Prop:=
 ∀(whole:Sem mj) (mi:List (mm×Obj)) (s:mn) (σ:St) (H:Hp) (Q:Bool->Hp->Prop),Inv X mi σ H s->t σ H Q->wpAny (model X.prog X.w) X.A (isTrue e X.env whole) (TP X mi σ Q) X.xe s
variable{X:Cx}{e:Expr}
theorem PW.pt{t:TT}(h:PW X e t):PT X e t:=h _
def PA(X:Cx)(es:List Expr)(t:TA):Prop:=
 ∀(pos:Pos) (mi:List (mm×Obj)) (s:mn) (σ:St) (H:Hp) (Q:List V->Hp->Prop),Inv X mi σ H s->t σ H Q->wpAny (model X.prog X.w) X.A (spliced (backTo pos (starEach es X.env))) (AP X mi σ Q) X.xe s
def PS(X:Cx)(st:Stmt)(t:TS):Prop:=
 ∀(mi:List (mm×Obj)) (s:mn) (σ:St) (H:Hp) (D:Ends),Inv X mi σ H s->t D σ H->wpAny (model X.prog X.w) X.A (exec st X.env) (SP X mi D) X.xe s
def PSs(X:Cx)(st:List Stmt)(t:TS):Prop:=
 ∀(mi:List (mm×Obj)) (s:mn) (σ:St) (H:Hp) (D:Ends),Inv X mi σ H s->t D σ H->wpAny (model X.prog X.w) X.A (execs st X.env) (SP X mi D) X.xe s
variable{s:mn}
theorem thn{α:Type}{t:Sem α}{Q Q':α->mn->Prop}{M:Model}{A:Around}(h:wpAny M A t Q E s)(hQ:∀a s,Q a s->Q' a s):wpAny M A t Q' E s:=uo2 h hQ λ_ _ x=>x
variable{mi:List (mm×Obj)}{σ:St}{c:Expr}
section
variable{X:Cx}
def fH(i:Nat):TE:=λσ H Q=>∃v,σ[i]?=some (some v)/\Q v H
def tC(v:V):TE:=λ_ H Q=>Q v H
theorem Kb{x:Str}{pos:Pos}(hN:X.N[i]?=some x)(hv:Vis X.env.scope x)(hd:autoParam ((x==("__debug__":Str))=false) q1T)(hcd:autoParam ((x==("__classdict__":Str))=false) q1T):PE X (.Name x pos) (fH i):=by
 intro mi s σ H Q I h;clear 5 h v e h;clear 5 I.loc m hn hl;clear 5(hl i x v hN e hv)u r l;have fin:EP X mi σ Q u s:=⟨v,H,I,r,h⟩;rcases l with⟨hk,hm⟩|⟨hk,c,hc,hcell⟩
 .exact wpAny_Name (wpAny_loadName_local I.ok.kind hk hn hm fin) hd
 .rcases hk with hk|hk
  .exact wpAny_Name (wpAny_loadName_cell I.ok.kind hk hc hcell fin) hd
  .exact wpAny_Name (wpAny_loadName_free I.ok.kind hk hc hcell fin hcd) hd
theorem Vn{i j pos}:PE X (.Constant (.int i) j pos) (tC (.int i)):=λ_ _ _ H _ I h=>wpAny_Constant_int ⟨.int i,H,I.tok _,⟨_,rfl⟩,h⟩
theorem gP{b j pos}:PE X (.Constant (.bool b) j pos) (tC (.bl b)):=λ_ _ _ H _ I h=>Constant_bool ⟨.bl b,H,I,rfl,h⟩
theorem ee{j pos}:PE X (.Constant .none j pos) (tC .non):=λ_ _ _ H _ I h=>Constant_none ⟨.non,H,I,rfl,h⟩
theorem Vo{x j pos}:PE X (.Constant (.str x) j pos) (tC (.str x)):=λ_ _ _ H _ I h=>Calls.Constant_str ⟨.str x,H,I.tok _,⟨_,rfl⟩,h⟩
def Gl(X:Cx)(x:Str):Prop:=X.env.kindOf x=some .globalImplicit
theorem Fk{x:Str}{pos:Pos}{Q:mj->mn->Prop}(I:Inv X mi σ H s)(hg:Gl X x)(hm:X.mg x=some u)(h:Q u s)
 (hd:autoParam ((x==("__debug__":Str))=false) q1T):wpAny (model X.prog X.w) X.A (eval (.Name x pos) X.env) Q E s:=
 PySem.Calls.Name_function_global I.ok.kind hg (Calls.loadGlobal_global (by rw[I.ok.glob];exact I.mod.glob.keeps I.bk) hm h) hd
theorem Ix{x:Str}{pos:Pos}{Q:mj->mn->Prop}(I:Inv X mi σ H s)(hg:Gl X x)(hm:X.mg x=none)(hv:bootBuiltins x=some u)(h:Q u s)
 (hn:autoParam (x≠"__name__") q1T) (hd:autoParam ((x==("__debug__":Str))=false) q1T):wpAny (model X.prog X.w) X.A (eval (.Name x pos) X.env) Q E s:=by
 clear 5 I.mod.blt mb h1 h2;exact PySem.Calls.Name_function_global I.ok.kind hg (Calls.loadGlobal_builtin (by rw[I.ok.glob];exact I.mod.glob.keeps I.bk) hm (by rw[I.ok.blt];exact h1.keeps I.bk) ((h2 x hn).trans hv) h) hd
theorem Nq{x:Str}{pos:Pos}(hg:Gl X x)(hm:X.mg x=some u)(r:RelV v u)(hd:autoParam ((x==("__debug__":Str))=false) q1T):PE X (.Name x pos) (tC v):=
 λ_ _ _ H _ I h=>Fk I hg hm ⟨v,H,I,r,h⟩ hd
theorem ak{x:Str}{pos:Pos}(hg:Gl X x)(hm:X.mg x=none)(hv:bootBuiltins x=some u)(r:RelV v u)(hn:autoParam (x≠"__name__") q1T)(hd:autoParam ((x==("__debug__":Str))=false) q1T):PE X (.Name x pos) (tC v):=
 λ_ _ _ H _ I h=>Ix I hg hm hv ⟨v,H,I,r,h⟩ hn hd
variable{a b:Expr}{ta tb:TE}{pos:Pos}
def tB(t:TE):TT:=λσ H Q=>t σ H λx H1=>∃c,x=.bl c/\Q c H1
theorem eJ{t:TE}(h:PE X e t)(he:autoParam (∀whole,isTrue e X.env whole=(do let v <-whole;standAt e.pos;holding [v] (truthy v))) q2T):PT X e (tB t):=by
 intro mi s σ H Q I hw;refine isTrue_plain (thn (h mi s σ H _ I hw) λv s1 z9=>?_) (he _);clear 5 z9 x H1 I1 r1 q1;clear 5 q1 d rfl q
 cases r1
 exact PySem.wpAny_truthy_bool ⟨H1,I1,q⟩
variable{tA tB':TT}{rest:List Expr}
def jK(t u:TT):TT:=λσ H Q=>t σ H λc H1=>if c=true then u σ H1 Q else Q false H1
def tOr(t u:TT):TT:=λσ H Q=>t σ H λc H1=>if c=true then Q true H1 else u σ H1 Q
def jR(t:TT):TT:=λσ H Q=>t σ H λc H1=>Q (!c) H1
theorem aI(ha:PT X a tA):PW X (.BoolOp .And [a] pos) tA:=by
 intro wh mi s σ H Q I h;refine isTrue_and (thn (ha mi s σ H Q I h) λc s1 e=>?_)
 cases c with
 |true=>exact isTrue_and_nil e
 |false=>exact e
theorem eL(ha:PT X a tA):PW X (.BoolOp .Or [a] pos) tA:=by
 intro wh mi s σ H Q I h;refine isTrue_or (thn (ha mi s σ H Q I h) λc s1 e=>?_)
 cases c with
 |false=>exact isTrue_or_nil e
 |true=>exact e
theorem eK(ha:PT X a tA)(hb:PW X (.BoolOp .And (b::rest) pos) tB'):PW X (.BoolOp .And (a::b::rest) pos) (jK tA tB'):=by
 intro wh mi s σ H Q I h;refine isTrue_and (thn (ha mi s σ H _ I h) λc s1 z9=>?_);clear 5 z9 H1 I1 q1
 cases c with
 |true=>exact hb wh mi s1 σ H1 Q I1 q1
 |false=>exact⟨H1,I1,q1⟩
theorem g7(ha:PT X a tA)(hb:PW X (.BoolOp .Or (b::rest) pos) tB'):PW X (.BoolOp .Or (a::b::rest) pos) (tOr tA tB'):=by
 intro wh mi s σ H Q I h;refine isTrue_or (thn (ha mi s σ H _ I h) λc s1 z9=>?_);clear 5 z9 H1 I1 q1
 cases c with
 |true=>exact⟨H1,I1,q1⟩
 |false=>exact hb wh mi s1 σ H1 Q I1 q1
theorem eI(ha:PT X a tA):PT X (.UnaryOp .Not a pos) (jR tA):=by
 intro mi s σ H Q I h;refine isTrue_not (thn (ha mi s σ H (λc H1=>Q (!c) H1) I h) λc s1 z=>?_);clear 5 z H1 I1 q1;exact⟨H1,I1,q1⟩
def g9(ta tb:TE):TE:=λσ H Q=>ta σ H λx H1=>∃c,x=.bl c/\if c=true then tb σ H1 Q else Q (.bl false) H1
def jS(ta tb:TE):TE:=λσ H Q=>ta σ H λx H1=>∃c,x=.bl c/\if c=true then Q (.bl true) H1 else tb σ H1 Q
def ic(ta:TE):TE:=λσ H Q=>ta σ H λx H1=>∃c,x=.bl c/\Q (.bl (!c)) H1
theorem eA{op}{t:TE}(h:PE X a t):PE X (.BoolOp op [a] pos) t:=λmi s σ H Q I hw=>BoolOp_one (h mi s σ H Q I hw)
theorem d7(ha:PE X a ta)(hb:PE X (.BoolOp .And (b::rest) pos) tb):PE X (.BoolOp .And (a::b::rest) pos) (g9 ta tb):=by
 intro mi s σ H Q I h;refine BoolOp_and (thn (ha mi s σ H _ I h) λv s1 z9=>?_);clear 5 z9 x H1 I1 r1 q1;clear 5 q1 c rfl q1
 cases r1
 refine PySem.wpAny_truthy_bool ?_
 cases c with
 |true=>exact hb mi s1 σ H1 Q I1 q1
 |false=>exact⟨.bl false,H1,I1,rfl,q1⟩
theorem gQ(ha:PE X a ta)(hb:PE X (.BoolOp .Or (b::rest) pos) tb):PE X (.BoolOp .Or (a::b::rest) pos) (jS ta tb):=by
 intro mi s σ H Q I h;refine BoolOp_or (thn (ha mi s σ H _ I h) λv s1 z9=>?_);clear 5 z9 x H1 I1 r1 q1;clear 5 q1 c rfl q1
 cases r1
 refine PySem.wpAny_truthy_bool ?_
 cases c with
 |false=>exact hb mi s1 σ H1 Q I1 q1
 |true=>exact⟨.bl true,H1,I1,rfl,q1⟩
theorem eh(ha:PE X a ta):PE X (.UnaryOp .Not a pos) (ic ta):=by
 intro mi s σ H Q I h;refine UnaryOp_ (thn (ha mi s σ H _ I h) λv s1 z9=>?_);clear 5 z9 x H1 I1 r1 q1;clear 5 q1 c rfl q1
 cases r1
 exact not_of (PySem.wpAny_truthy_bool ⟨.bl (!c),H1,I1,rfl,q1⟩)
def tIf(t:TT)(ta tb:TE):TE:=λσ H Q=>t σ H λc H1=>if c=true then ta σ H1 Q else tb σ H1 Q
theorem Xx(hc:PT X c tA)(ha:PE X a ta)(hb:PE X b tb):PE X (.IfExp c a b pos) (tIf tA ta tb):=by
 intro mi s σ H Q I h;refine wpAny_IfExp (thn (hc mi s σ H _ I h) λd s1 z9=>?_);clear 5 z9 H1 I1 q1
 cases d with
 |true=>exact ha mi s1 σ H1 Q I1 q1
 |false=>exact hb mi s1 σ H1 Q I1 q1
end
noncomputable def SqL(K:mh)(H:Hp)(a:mm)(xs:List V):Prop:=
 Rd H a (.lst xs)\/
  ∃(o:Obj) (its:Array mj) (n:Nat),K.lookup a=some o/\o.cls=.type "list"/\o.dict=none/\o.data=.seq its n/\its.size<=sizeLine/\Vals xs its.toList
noncomputable def SqT(K:mh)(H:Hp)(a:mm)(xs:List V):Prop:=
 Rd H a (.tup xs)\/
  ∃(o:Obj) (its:Array mj) (n:Nat),K.lookup a=some o/\o.cls=.type "tuple"/\o.data=.seq its n/\its.size<=sizeLine/\Vals xs its.toList
noncomputable def jd:mj->Option V
 |.none=>some .non
 |.bool b=>some (.bl b)
 |.int i _=>some (.int i)
 |.str x _=>some (.str x)
 |.bytes b _=>some (.byt b)
 |.float b _=>some (.flt b)
 |.ref a=>some (.ref a)
 |.type n=>some (.ty n)
 |_=>none
theorem RelV.abs{x:V}(r:RelV x u):jd u=some x:=by
 cases x with
 |non=>cases r;rfl
 |bl _=>cases r;rfl
 |int _=>clear 5 r t rfl;rfl
 |str _=>clear 5 r t rfl;rfl
 |byt _=>clear 5 r t rfl;rfl
 |flt _=>clear 5 r t rfl;rfl
 |ref _=>cases r;rfl
 |ty _=>cases r;rfl
theorem RelV.inj{x y:V}{u:mj}(r:RelV x u)(q:RelV y u):x=y:=Option.some.inj (r.abs.symm.trans q.abs)
theorem Vals.inj{xs ys:List V}{us:List mj}(a:Vals xs us)(b:Vals ys us):xs=ys:=by
 cases a with
 |nil=>
   cases b
   rfl
 |cons r t=>
   cases b with
   |cons r' t'=>rw[r.inj r',Vals.inj t t']
variable{K:mh}
section
variable{X:Cx}{mi:List (mm×Obj)}{σ:St}{H:Hp}{s:mn}{a:mm}{xs ys:List V}
theorem SqL.of(h:H a=some (.lst xs)):SqL K H a xs:=.inl (.inl h)
theorem SqT.of(h:H a=some (.tup xs)):SqT K H a xs:=.inl (.inl h)
theorem Inv.list(I:Inv X mi σ H s)(h:SqL X.K H a xs):∃its:List mj,Vals xs its/\PlainL s.heap a its.toArray/\xs.length<=sizeLine:=by
 rcases h with h|⟨o,its,n,hk,hc,hd,hs,hz,r⟩
 .clear 5(h.ok I.hok)z its n r e;exact⟨its,r,⟨_,n,e,rfl,rfl,rfl⟩,z⟩
 .refine⟨its.toList,r,⟨o,n,I.kIn a o hk,hc,hd,by simpa using hs⟩,?_⟩;have e:=r.length;simp only[Array.length_toList] at e;lia
theorem Inv.tuple(I:Inv X mi σ H s)(h:SqT X.K H a xs):∃its:List mj,Vals xs its/\IsTup s.heap a its.toArray/\xs.length<=sizeLine:=by
 rcases h with h|⟨o,its,n,hk,hc,hs,hz,r⟩
 .clear 5(h.ok I.hok)z its r p;exact⟨its,r,p,z⟩
 .refine⟨its.toList,r,⟨o,I.kIn a o hk,hc,n,by simpa using hs⟩,?_⟩;have e:=r.length;simp only[Array.length_toList] at e;lia
theorem Inv.list_inj(I:Inv X mi σ H s)(h:SqL X.K H a xs)(h':SqL X.K H a ys):xs=ys:=by
 obtain⟨its,r,⟨o,n,e,_,_,d⟩,_⟩:=I.list h;obtain⟨its',r',⟨o',n',e',_,_,d'⟩,_⟩:=I.list h';rw[e] at e';cases e'
 rw[d] at d';injection d' with d1 _
 have:its=its':=by simpa using pQ Array.toList d1
 subst this;exact r.inj r'
theorem Inv.tuple_inj(I:Inv X mi σ H s)(h:SqT X.K H a xs)(h':SqT X.K H a ys):xs=ys:=by
 obtain⟨its,r,⟨o,e,_,n,d⟩,_⟩:=I.tuple h;obtain⟨its',r',⟨o',e',_,n',d'⟩,_⟩:=I.tuple h';rw[e] at e';cases e'
 rw[d] at d';injection d' with d1 _
 have:its=its':=by simpa using pQ Array.toList d1
 subst this;exact r.inj r'
end
abbrev Cx.wish(X:Cx)(E:mj->mn->Prop):Cx:={X with xe:=E}
abbrev Cx.nox(X:Cx):Cx:=X.wish λ_ _=>False
theorem Cx.Ok.wish{X:Cx}(ok:X.Ok)(E:mj->mn->Prop):(X.wish E).Ok:=
 ⟨ok.mod,ok.kind,ok.glob,ok.blt,ok.above,ok.inj,ok.has,ok.cab,ok.hd,ok.frames,ok.stk,ok.exf,ok.bs,ok.bsz,ok.noex,ok.exfs,ok.funs,ok.frf⟩
theorem Cx.Ok.unwish(ok:(X.wish E).Ok):X.Ok:=
 ⟨ok.mod,ok.kind,ok.glob,ok.blt,ok.above,ok.inj,ok.has,ok.cab,ok.hd,ok.frames,ok.stk,ok.exf,ok.bs,ok.bsz,ok.noex,ok.exfs,ok.funs,ok.frf⟩
section
variable{X:Cx}{mi:List (mm×Obj)}{σ:St}{H:Hp}{s:mn}{E:mj->mn->Prop}
theorem Inv.wish(I:Inv X mi σ H s)(E:mj->mn->Prop):Inv (X.wish E) mi σ H s:=⟨I.ok.wish E,I.os,I.bare,I.base,I.loc,I.cell,I.free,I.freeC,I.pin,I.hok,I.len⟩
theorem Inv.unwish(I:Inv (X.wish E) mi σ H s):Inv X mi σ H s:=⟨I.ok.unwish,I.os,I.bare,I.base,I.loc,I.cell,I.free,I.freeC,I.pin,I.hok,I.len⟩
theorem SP.unwish{D:Ends}{f:Flow}{s':mn}(h:SP (X.wish E) mi D f s'):SP X mi D f s':=by
 cases f with
 |next=>clear 5 h σ' H' I q;exact⟨σ',H',I.unwish,q⟩
 |brk=>clear 5 h σ' H' I q;exact⟨σ',H',I.unwish,q⟩
 |cont=>clear 5 h σ' H' I q;exact⟨σ',H',I.unwish,q⟩
 |ret u=>clear 5 h v σ' H' I r q;exact⟨v,σ',H',I.unwish,r,q⟩
theorem PSs.nox{st:List Stmt}{t:TS}(h:PSs X.nox st t):PSs X st t:=λmi s σ H D I hw=>
 uo2 (h mi s σ H D (I.wish _) hw) (λ_ _ q=>q.unwish) λ_ _ z=>False.elim z
end
section
variable{X:Cx}{st:Stmt}{rest:List Stmt}{t u:TS}{e:Expr}{te:TE}{pos:Pos}
def YW:TS:=λD σ H=>D.nx σ H
def jV(t u:TS):TS:=λD σ H=>t {D with nx:=u D} σ H
theorem aF:PSs X [] YW:=λ_ _ σ H _ I h=>PySem.wpAny_execs_nil ⟨σ,H,I,h⟩
theorem XG(h1:PS X st t)(h2:PSs X rest u):PSs X (st::rest) (jV t u):=by
 intro mi s σ H D I h;refine wpAny_execs_cons (thn (h1 mi s σ H {D with nx:=u D} I h) λf s1 q=>?_)
 cases f with
 |next=>
   clear 5 q σ' H' I' q;exact h2 mi s1 σ' H' D I' q
 |ret v=>exact q
 |brk=>exact q
 |cont=>exact q
theorem RN(h1:PS X st t):PSs X [st] t:=by
 intro mi s σ H D I h;refine wpAny_execs_cons (thn (h1 mi s σ H D I h) λf s1 q=>?_)
 cases f with
 |next=>exact PySem.wpAny_execs_nil q
 |ret v=>exact q
 |brk=>exact q
 |cont=>exact q
def fA:TS:=λD σ H=>D.bk σ H
def hX:TS:=λD σ H=>D.ct σ H
theorem aC:PS X (.Pass pos) YW:=λ_ _ σ H _ I h=>wpAny_Pass ⟨σ,H,I,h⟩
theorem XB:PS X (.Break pos) fA:=λ_ _ σ H _ I h=>wpAny_Break ⟨σ,H,I,h⟩
theorem QM:PS X (.Continue pos) hX:=λ_ _ σ H _ I h=>wpAny_Continue ⟨σ,H,I,h⟩
theorem Inv.quiet(I:Inv X mi σ H s):interactive X.env=false:=by simp[interactive,I.ok.kind]
def YU(te:TE):TS:=λD σ H=>te σ H λ_ H1=>D.nx σ H1
theorem Nt(he:PE X e te)(hs:autoParam (swapsWith e none pos.line X.env=pure false) q3T):PS X (.Expr e pos) (YU te):=by
 intro mi s σ H D I h;exact wpAny_Expr_any (thn (he mi s σ H _ I h) λv s1 z9=>by clear 5 z9 x H1 I1 r1 q1;exact⟨σ,H1,I1,q1⟩) I.quiet hs
def jT(te:TE):TS:=λD σ H=>te σ H D.rt
theorem Ke(he:PE X e te):PS X (.Return (some e) pos) (jT te):=by
 intro mi s σ H D I h;exact wpAny_Return_some (thn (he mi s σ H _ I h) λv s1 z9=>by clear 5 z9 x H1 I1 r1 q1;exact⟨x,σ,H1,I1,r1,q1⟩)
def jP(c:TT)(t u:TS):TS:=λD σ H=>c σ H λb H1=>if b=true then t D σ H1 else u D σ H1
theorem g6{a b:List Stmt}{tc:TT}(hc:PT X c tc)(ha:PSs X a t)(hb:PSs X b u):PS X (.If c a b pos) (jP tc t u):=by
 intro mi s σ H D I h;refine wpAny_If (thn (hc mi s σ H _ I h) λd s1 z9=>?_);clear 5 z9 H1 I1 q1
 cases d with
 |true=>exact ha mi s1 σ H1 D I1 q1
 |false=>exact hb mi s1 σ H1 D I1 q1
end
abbrev TG:=V->St->Hp->(St->Hp->Prop)->Prop
abbrev TGs:=List V->St->Hp->(St->Hp->Prop)->Prop
def PG(X:Cx)(target:Expr)(t:TG):Prop:=
 ∀(mi:List (mm×Obj)) (s:mn) (σ:St) (H:Hp) (v:V) (u:mj) (Q:St->Hp->Prop),Inv X mi σ H s->RelV v u->t v σ H Q->
  wpAny (model X.prog X.w) X.A (assign target X.env u) (λ_ s'=>∃σ' H',Inv X mi σ' H' s'/\Q σ' H') X.xe s
def PGs(X:Cx)(ts:List Expr)(t:TGs):Prop:=
 ∀(mi:List (mm×Obj)) (s:mn) (σ:St) (H:Hp) (vs:List V) (us:List mj) (Q:St->Hp->Prop),Inv X mi σ H s->Vals vs us->t vs σ H Q->
  wpAny (model X.prog X.w) X.A (assignInOrder ((assignEach ts X.env).map (·.2)) us) (λ_ s'=>∃σ' H',Inv X mi σ' H' s'/\Q σ' H') X.xe s
abbrev Wl:=V->V->V->Hp->(Hp->Prop)->Prop
def Wj(X:Cx)(t:Wl):Prop:=
 ∀(mi:List (mm×Obj)) (s:mn) (σ:St) (H:Hp) (o i v:V) (ov iv u:mj) (Q:Hp->Prop),Inv X mi σ H s->RelV o ov->RelV i iv->RelV v u->t o i v H Q->
  wpAny (model X.prog X.w) X.A (setItem ov iv u) (λ_ s'=>∃H',Inv X mi σ H' s'/\Q H') X.xe s
variable{tg:Expr}
section
variable{X:Cx}{pos:Pos}
def Ml(i:Nat):TG:=λv σ H Q=>Q (σ.set i (some v)) H
theorem au{x:Str}(hN:X.N.Nodup)(hi:X.N[i]?=some x)(hx:Loc X.env.scope x)(hf:autoParam (X.fn x=true\/X.env.scope.names.lookup x=some .local) q0T):PG X (.Name x pos) (Ml i):=by
 intro mi s σ H v u Q I r h;exact wpAny_assign_Name (Jp I hN hi hx r (λs' I'=>⟨_,H,I',h⟩) hf)
def jl:TGs:=λvs σ H Q=>vs=[]/\Q σ H
def YD(t:TG)(u:TGs):TGs:=λvs σ H Q=>∃v r,vs=v::r/\t v σ H λσ' H'=>u r σ' H' Q
theorem aw:PGs X [] jl:=by
 intro mi s σ H vs us Q I r h;clear 5 h e h;subst e
 cases r
 exact assignInOrder_nil ⟨σ,H,I,h⟩
theorem Xz{es:List Expr}{t:TG}{u:TGs}(h1:PG X e t)(h2:PGs X es u)
 (hs:autoParam ((assignEach (e::es) X.env).map (·.2)=assign e X.env::(assignEach es X.env).map (·.2)) q3T):PGs X (e::es) (YD t u):=by
 intro mi s σ H vs us Q I r h;clear 5 h v vr e1 h;subst e1
 cases r with
 |cons r rr=>
   rw[hs];refine assignInOrder_cons (thn (h1 mi s σ H _ _ _ I r h) λ_ s1 z9=>?_);clear 5 z9 σ1 H1 I1 q1;exact h2 mi s1 σ1 H1 _ _ Q I1 rr q1
def jn(K:mh)(n:Nat)(t:TGs):TG:=λv σ H Q=>∃a xs,v=.ref a/\SqT K H a xs/\xs.length=n/\t xs σ H Q
theorem eC{es:List Expr}{k:Nat}{t:TGs}{n:Nat}(hc:X.calm=true)(h:PGs X es t)
 (hn:autoParam ((assignEach es X.env).length=n) q3T) (hst:autoParam ((assignEach es X.env).findIdx? (·.1)=none) q3T):PG X (.Tuple es k pos) (jn X.K n t):=by
 intro mi s σ H v u Q I r hw;clear 5 hw a xs e1 hq hl hw;subst e1
 cases r
 clear 5(I.tuple hq)its rv ht hz;refine assign_Tuple_tuple (I.ok.hd hc) ht (by simp[hn,<-hl,rv.length]) hst λh' hx=>?_;have I1:Inv X mi σ H {s with heap:=h'}:=I.kept (t':=s.toks) λb o e=>hx b o (um5 (um4 e)) e;exact h mi _ σ H xs _ Q I1 (by simpa using rv) hw
def jm(to ti:TE)(t:Wl):TG:=λv σ H Q=>to σ H λo H1=>ti σ H1 λi H2=>t o i v H2 λH3=>Q σ H3
theorem Vp{o i:Expr}{to ti:TE}{t:Wl}(ho:PE X o to)(hi:PE X i ti)(hs:Wj X t)
 (ha:∀v,assign (.Subscript o i pos) X.env v=(do
   let ov <-holding [v] (eval o X.env)
   let iv <-holding [v,ov] (eval i X.env)
   standAt pos
   holding [v,ov,iv] (setItem ov iv v)
   release [v,ov,iv] []):=by intro _;rfl):PG X (.Subscript o i pos) (jm to ti t):=by
 intro mi s σ H v u Q I r h;rw[ha];refine uo0 (um3 (thn (ho mi s σ H _ I h) λov s1 z9=>?_));clear 5 z9 x H1 I1 r1 q1;refine uo0 (um3 (thn (hi mi s1 σ H1 _ I1 q1) λiv s2 z9=>?_));clear 5 z9 y H2 I2 r2 q2;refine uo0 (pA (uo0 (um3 (thn (hs mi s2 σ H2 x y v ov iv u _ I2 r1 r2 r q2) λ_ s3 z9=>?_))));clear 5 z9 H3 I3 q3;exact wpAny_release ⟨σ,H3,I3,q3⟩
def Qx(te:TE)(g:TG):TS:=λD σ H=>te σ H λx H1=>g x σ H1 D.nx
theorem Vv{te:TE}{g:TG}(he:PE X e te)(hg:PG X tg g)(hs:autoParam (swapsWithSole [tg] e pos.line X.env=pure false) q3T)(hw:autoParam (swappedStores [tg] e X.env=pure none) q3T)
 (h1:autoParam ((assignEach [tg] X.env).map (·.2)=[assign tg X.env]) q3T):PS X (.Assign [tg] e pos) (Qx te g):=by
 intro mi s σ H D I h;refine wpAny_Assign_stores (thn (he mi s σ H _ I h) λv s1 z9=>?_) hs hw;clear 5 z9 x H1 I1 r1 q1;rw[h1];exact thn (hg mi s1 σ H1 x v _ I1 r1 q1) λ_ s2 q=>q
theorem Qd{x:Str}{te:TE}{pos':Pos}(hN:X.N.Nodup)(hi:X.N[i]?=some x)(hx:Loc X.env.scope x)(he:PE X e te)(hs:autoParam (swapsWith e (some (.Name x pos')) pos.line X.env=pure false) q3T)(hf:autoParam (X.fn x=true\/X.env.scope.names.lookup x=some .local) q0T) :
 PS X (.Assign [.Name x pos'] e pos) (Qx te (Ml i)):=by
 intro mi s σ H D I h;refine wpAny_Assign_Name (thn (he mi s σ H _ I h) λv s1 z9=>?_) hs;clear 5 z9 y H1 I1 r1 q1;exact Jp I1 hN hi hx r1 (λs2 I2=>⟨_,H1,I2,q1⟩) hf
end
section
variable{X:Cx}{pos:Pos}
def VX(c:TT)(tb:TS):TS:=λD σ H=>∃W:Nat->St->Hp->Prop,(∃m,W m σ H)/\∀m σ H,W m σ H->
 c σ H λb H1=>if b=true then ∃N:St->Hp->Prop,(∀σ' H',N σ' H'->∃m',m'<m/\W m' σ' H')/\tb {D with nx:=N,ct:=N,bk:=D.nx} σ H1 else D.nx σ H1
theorem XD{body:List Stmt}{tc:TT}{tb:TS}(hp:PassesOwn (model X.prog X.w) X.A X.env X.xe)(hc:PT X c tc)(hb:PSs X body tb):PS X (.While c body [] pos) (VX tc tb):=by
 intro mi s σ H D I h;obtain⟨W,⟨m0,w0⟩,turn⟩:=h;refine wpAny_While (codeAny_whileLoop (λn s'=>∃σ' H',Inv X mi σ' H' s'/\W n σ' H') ?_ m0 ⟨σ,H,I,w0⟩);rintro n s1 ⟨σ1,H1,I1,w1⟩;refine PySem.wpAny_passesOwn hp (thn (hc mi s1 σ1 H1 _ I1 (turn n σ1 H1 w1)) λb s2 z9=>?_);clear 5 z9 H2 I2 q2
 cases b with
 |true=>
   clear 5 q2 N hN q2;rw[pW rfl];refine PySem.wpAny_passesOwn hp (thn (hb mi s2 σ1 H2 _ I2 q2) λf s3 q3=>?_)
   cases f with
   |next=>
     clear 5 q3 σ3 H3 I3 n3;clear 5(hN σ3 H3 n3)m' hm w3;exact⟨m',hm,σ3,H3,I3,w3⟩
   |cont=>
     clear 5 q3 σ3 H3 I3 n3;clear 5(hN σ3 H3 n3)m' hm w3;exact⟨m',hm,σ3,H3,I3,w3⟩
   |brk=>exact q3
   |ret v=>exact q3
 |false=>
   rw[pX ue7];exact PySem.wpAny_execs_nil ⟨σ1,H2,I2,q2⟩
end
set_option genInjectivity false in structure It where
 go:Nat->Hp->Prop
 yld:Nat->Hp->V->Hp->Prop
 stop:Nat->Hp->Prop
def FpOk(X:Cx)(mi:List (mm×Obj))(H:Hp)(b:mm):Prop:=
 H b=none/\b≠X.env.locals/\b∉X.fs/\(b∈X.ex\/X.s₀.heap.objs.size<=b)/\(∀x c,X.env.cells.lookup x=some c->c≠b)/\∀p∈X.pn++mi,p.1≠b
theorem Inv.fpOk{H':Hp}(I:Inv X mi σ H s)(hb:s.heap.objs.size<=b)(hn:H' b=none):FpOk X mi H' b:=by
 refine⟨hn,um8 (ue5 I.lt hb),I.nofs hb,.inr (um6 I.sz hb),λx c e z=>?_,λp hp z=>?_⟩
 .clear 5(I.cell x c e)v q;exact absurd (ue5 q.lt (by rw[z];exact hb)) (Nat.lt_irrefl _)
 .exact absurd (ue5 (um4 (I.pin p hp).1) (by rw[z];exact hb)) (Nat.lt_irrefl _)
structure Turn(P:mq)(w:mw)(K:mh)(tg:Expr)(J:It)(fp:List mm)(it:mm)(tn:Nat->Heap->Prop):Prop where
 mem:it∈fp
 obj:∀i h,tn i h->∀b∈fp,∃o,h.get? b=some o/\∀v,o.data≠.cell v
 keep:∀i h h',tn i h->(∀b∈fp,∀o,h.get? b=some o->h'.get? b=some o)->tn i h'
 item:∀(X:Cx),X.prog=P->X.w=w->X.K=K->X.calm=true->∀(i:Nat) (mi:List (mm×Obj)) (s:mn) (σ:St) (H:Hp) (E:mj->mn->Prop),Inv X mi σ H s->(∀b∈fp,FpOk X mi H b)->tn i s.heap->J.go i H->
  wpAny (model P w) X.A (pyNext (.ref it)) (λr s1=>∃u,r=some u/\
   wpAny (model P w) X.A (letOwnedTupleGo tg (.ref it) u) (λ_ s2=>∃x H',Inv X mi σ H' s2/\RelV x u/\J.yld i H x H'/\tn (i+1) s2.heap/\∀b∈fp,H' b=none) E s1) E s
 done:∀(X:Cx),X.prog=P->X.w=w->X.K=K->X.calm=true->∀(i:Nat) (mi:List (mm×Obj)) (s:mn) (σ:St) (H:Hp) (E:mj->mn->Prop),Inv X mi σ H s->(∀b∈fp,FpOk X mi H b)->tn i s.heap->J.stop i H->
  wpAny (model P w) X.A (pyNext (.ref it)) (λr s1=>r=none/\Inv X mi σ H s1) E s
 self:∀(A:Around) (i:Nat) (s:mn) (Q:mj->mn->Prop) (E:mj->mn->Prop),tn i s.heap->Q (.ref it) s->wpAny (model P w) A (pyIter (.ref it)) Q E s
abbrev TI:=St->Hp->(It->Hp->Prop)->Prop
def PIE(X:Cx)(mi:List (mm×Obj))(σ:St)(tg:Expr)(R:It->Hp->Prop)(itv:mj)(s2:mn):Prop:=
 ∃(it:mm) (fp:List mm) (tn:Nat->Heap->Prop) (J:It) (H':Hp),itv=.ref it/\Inv X mi σ H' s2/\Turn X.prog X.w X.K tg J fp it tn/\tn 0 s2.heap/\(∀b∈fp,FpOk X mi H' b)/\R J H'
def PI(X:Cx)(tg iter:Expr)(wi:TI):Prop:=
 ∀(mi:List (mm×Obj)) (s:mn) (σ:St) (H:Hp) (R:It->Hp->Prop),Inv X mi σ H s->wi σ H R->
  wpAny (model X.prog X.w) X.A (eval iter X.env) (λv s1=>wpAny (model X.prog X.w) X.A (pyIter v) (PIE X mi σ tg R) X.xe s1) X.xe s
theorem Mn{M:Model}{A:Around}{it:mm}{o:Obj}{n:String}{vs:Array mj}(ho:s.heap.get? it=some o)(hc:o.cls=.type n)(hd:o.data=.fields vs)
 (hn:["enumerate", "zip", "dict_itemiterator", "dict_reverseitemiterator", "odict_iterator", "itertools.zip_longest", "itertools.pairwise"].contains n=false) (hQ:Q () s):wpAny M A (letOwnedTupleGo tg (.ref it) u) Q E s:=by
 unfold letOwnedTupleGo
 cases tg<;>first
  |exact uo1 hQ
  | (cases u <;> first
      |exact uo1 hQ
      | (refine uo0 (wpAny_load ho ?_)
         rw[hc,hd];show wpAny M A (if (["enumerate", "zip", "dict_itemiterator", "dict_reverseitemiterator", "odict_iterator", "itertools.zip_longest", "itertools.pairwise"].contains n&&vs[0]?==some (rawInt _))=true then _ else _) Q E s;rw[pX (by intro h;rw[hn,uk5] at h;cases h)]
         exact uo1 hQ))
noncomputable def Itl(K:mh)(a:mm):It:=
 ⟨λi H=>∃xs x,SqL K H a xs/\xs[i]?=some x,λi H x H'=>H'=H/\∀xs,SqL K H a xs->xs[i]?=some x,λi H=>∃xs,SqL K H a xs/\xs.length<=i⟩
noncomputable def Itt(K:mh)(a:mm):It:=
 ⟨λi H=>∃xs x,SqT K H a xs/\xs[i]?=some x,λi H x H'=>H'=H/\∀xs,SqT K H a xs->xs[i]?=some x,λi H=>∃xs,SqT K H a xs/\xs.length<=i⟩
noncomputable def Itr(lo:Int)(n:Nat):It:=⟨λi _=>i<n,λi H x H'=>H'=H/\x=.int (lo+i),λi _=>n<=i⟩
theorem V2(a it:mm):Turn P w K tg (Itl K a) [it] it (λi h=>h.IsListIter it a i) where
 mem:=by simp
 obj:=λi h st b hb=>by
  have e:b=it:=by simpa using hb
  subst e;clear 5 st o e c d;exact⟨o,e,λv z=>by rw[d] at z;cases z⟩
 keep:=λi h h' st k=>st.at λo e=>k it (by simp) o e
 item:=by
  intro X hP hw hK hc i mi s σ H E I hf st hg;subst hP hw hK;clear 5 hg xs x hq hx;clear 5(I.list hq)its rv p hz;clear 5(rv.get hx)u hu ru;clear 5(hf it (by simp))f0 f1 f2 f3 f4 f5;refine wpAny_pyNext_list_item st p.isList (x:=u) (by simpa using hu) λh' st' sb=>?_;have I1:Inv X mi σ H {s with heap:=h'}:=I.turned (t':=s.toks) (λb o hb e=>(sb.2 b hb).trans e) f0 f1 f3 f4 f5;clear 5(id st')o e c d;exact⟨u,rfl,Mn (s:={s with heap:=h'}) e c d (by decide) ⟨x,H,I1,ru,⟨rfl,λys hy=>by rw[I.list_inj hy hq];exact hx⟩,st',λb hb=>(hf b hb).1⟩⟩
 done:=by
  intro X hP hw hK hc i mi s σ H E I hf st hg;subst hP hw hK;clear 5 hg xs hq hx;clear 5(I.list hq)its rv p hz;clear 5(hf it (by simp))f0 f1 f2 f3 f4 f5;have hl:=rv.length;exact wpAny_pyNext_list_end (I.ok.hd hc) st p.isList (by simp;lia) λh' eb=>⟨rfl,I.turned (t':=s.toks) (λb o hb e=>eb b o hb e) f0 f1 f3 f4 f5⟩
 self:=λ_ _ _ _ _ st h=>wpAny_pyIter_listiter st h
theorem Ty(a it:mm):Turn P w K tg (Itt K a) [it] it (λi h=>h.IsTupleIter it a i) where
 mem:=by simp
 obj:=λi h st b hb=>by
  have e:b=it:=by simpa using hb
  subst e;clear 5 st o e c d;exact⟨o,e,λv z=>by rw[d] at z;cases z⟩
 keep:=λi h h' st k=>st.at λo e=>k it (by simp) o e
 item:=by
  intro X hP hw hK hc i mi s σ H E I hf st hg;subst hP hw hK;clear 5 hg xs x hq hx;clear 5(I.tuple hq)its rv p hz;clear 5(rv.get hx)u hu ru;clear 5(hf it (by simp))f0 f1 f2 f3 f4 f5;refine wpAny_pyNext_tuple_item st (show s.heap.IsTuple a its.toArray from p) (x:=u) (by simpa using hu) λh' st' sb=>?_;have I1:Inv X mi σ H {s with heap:=h'}:=I.turned (t':=s.toks) (λb o hb e=>(sb.2 b hb).trans e) f0 f1 f3 f4 f5;clear 5(id st')o e c d;exact⟨u,rfl,Mn (s:={s with heap:=h'}) e c d (by decide) ⟨x,H,I1,ru,⟨rfl,λys hy=>by rw[I.tuple_inj hy hq];exact hx⟩,st',λb hb=>(hf b hb).1⟩⟩
 done:=by
  intro X hP hw hK hc i mi s σ H E I hf st hg;subst hP hw hK;clear 5 hg xs hq hx;clear 5(I.tuple hq)its rv p hz;clear 5(hf it (by simp))f0 f1 f2 f3 f4 f5;have hl:=rv.length;exact wpAny_pyNext_tuple_end (I.ok.hd hc) st (show s.heap.IsTuple a its.toArray from p) (by simp;lia) λh' eb=>⟨rfl,I.turned (t':=s.toks) (λb o hb e=>eb b o hb e) f0 f1 f3 f4 f5⟩
 self:=λ_ _ _ _ _ st h=>wpAny_pyIter_tupleiter st h
theorem Tx(it:mm)(lo:Int)(n:Nat):Turn P w K tg (Itr lo n) [it] it (λi h=>IsRangeIter h it (lo+(i:Nat)*1) ((n:Int)-(i:Nat)) 1) where
 mem:=by simp
 obj:=λi h st b hb=>by
  have e:b=it:=by simpa using hb
  subst e;exact⟨_,st,λv z=>by
   have z':Data.fields _=Data.cell v:=z
   cases z'⟩
 keep:=λi h h' st k=>k it (by simp) _ st
 item:=by
  intro X hP hw hK hc i mi s σ H E I hf st hg;subst hP hw hK;clear 5(hf it (by simp))f0 f1 f2 f3 f4 f5;have W:=Walks.range (prog:=X.prog) (w:=X.w) (I.ok.hd hc) it lo 1 n;refine W.item i s _ _ hg st λv h' tk hv st' kk=>?_;clear 5 hv t rfl;have I1:Inv X mi σ H {s with heap:=h',toks:=tk}:=I.turned (λb o hb e=>kk b o (by simpa using hb) e) f0 f1 f3 f4 f5;refine⟨_,rfl,Mn (s:={s with heap:=h',toks:=tk}) (n:="range_iterator") st' rfl rfl (by decide) ⟨.int (lo+i),H,I1,⟨t,?_⟩,⟨rfl,rfl⟩,st',λb hb=>(hf b hb).1⟩⟩;rw[Int.mul_one]
 done:=by
  intro X hP hw hK hc i mi s σ H E I hf st hg;subst hP hw hK;clear 5(hf it (by simp))f0 f1 f2 f3 f4 f5;exact wpAny_pyNext_range_end (I.ok.hd hc) st (by have:n<=i:=hg;lia) λh' eb=>⟨rfl,I.turned (t':=s.toks) (λb o hb e=>eb b o hb e) f0 f1 f3 f4 f5⟩
 self:=λ_ _ _ _ _ st h=>wpAny_pyIter_rangeiter st h
variable{fp:List mm}
section
variable{X:Cx}{tg:Expr}
theorem Qf{R:It->Hp->Prop}{lo hi:Int}{t u v:Tok}{tk:Nat}(I:Inv X mi σ H s)(h1 : -(2 ^ 62)<=lo)(h2:lo<2 ^ 62)(h3 : -(2 ^ 62)<=hi)(h4:hi<2 ^ 62)
 (q:R (Itr lo (hi-lo).toNat) H):wpAny (model X.prog X.w) X.A (pyIter (.ref s.heap.objs.size)) (PIE X mi σ tg R) E {s with heap:=s.heap.push {cls:=.type "range",data:=.fields #[.int lo t,.int hi u,.int 1 v]},toks:=tk}:=by
 refine wpAny_pyIter_range (IsRange.new ..) (small_one h1 h2 h3 h4) ?_;have I1:Inv X mi σ H {s with heap:=s.heap.push {cls:=.type "range",data:=.fields #[.int lo t,.int hi u,.int 1 v]},toks:=tk}:=I.kept λb o e=>ub7 _ e;refine⟨(s.heap.push {cls:=.type "range",data:=.fields #[.int lo t,.int hi u,.int 1 v]}).objs.size,[(s.heap.push {cls:=.type "range",data:=.fields #[.int lo t,.int hi u,.int 1 v]}).objs.size],_,_,H,rfl,
  I1.kept (t':=tk) λb o e=>ub7 _ e,Tx _ lo (hi-lo).toNat,?_,λb hb=>?_,q⟩
 .have e1:lo+((0:Nat):Int)*1=lo:=by simp
  have e2:(((hi-lo).toNat:Nat):Int)-((0:Nat):Int)=Builtin.Range.rangeSize lo hi 1:=by rw[rangeSize_one];split<;>lia
  show IsRangeIter _ _ (lo+((0:Nat):Int)*1) ((((hi-lo).toNat:Nat):Int)-((0:Nat):Int)) 1;rw[e1,e2];exact ud8 _ rfl
 .have e:b=(s.heap.push {cls:=.type "range",data:=.fields #[.int lo t,.int hi u,.int 1 v]}).objs.size:=by simpa using hb
  subst e;exact I1.fpOk (un6 _) (I1.hok.fresh (un6 _))
def gH(ta:TA):TI:=λσ H R=>ta σ H λvs H1=>∃j:Int,vs=[.int j]/\-(2 ^ 62)<=j/\j<2 ^ 62/\R (Itr 0 j.toNat) H1
def gI(ta:TA):TI:=λσ H R=>ta σ H λvs H1=>∃i j:Int,vs=[.int i,.int j]/\(-(2 ^ 62)<=i/\i<2 ^ 62/\-(2 ^ 62)<=j/\j<2 ^ 62)/\R (Itr i (j-i).toNat) H1
theorem Vq{a:Expr}{ta:TA}{p pos:Pos}(hg:Gl X "range")(hm:X.mg "range" = none)(ha:PA X [a] ta)(hs:autoParam (starEach [a] X.env=[(false,eval a X.env)]) q3T):PI X tg (.Call (.Name "range" p) [a] [] pos) (gH ta):=by
 intro mi s σ H R I h;refine Call_ (Ix I hg hm boot_range (PyProof.Rows.callWith_type1 (thn (ha pos mi s σ H _ I h) λus s1 z9=>?_) hs rfl));clear 5 z9 vs H1 I1 r1 q1;clear 5 q1 j e q1 q2 q;subst e
 cases r1 with
 |cons r rr=>
   cases rr
   clear 5 r t rfl;exact call_range_1 (Qf I1 ∅ ∅ q1 q2 (by simpa using q))
theorem Vr{a b:Expr}{ta:TA}{p pos:Pos}(hg:Gl X "range")(hm:X.mg "range" = none)(ha:PA X [a,b] ta)(hs:autoParam (starEach [a,b] X.env=[(false,eval a X.env),(false,eval b X.env)]) q3T)(hs2:autoParam (starEach [b] X.env=[(false,eval b X.env)]) q3T) :
 PI X tg (.Call (.Name "range" p) [a,b] [] pos) (gI ta):=by
 intro mi s σ H R I h;refine Call_ (Ix I hg hm boot_range (PyProof.Rows.callWith_type1 (thn (ha pos mi s σ H _ I h) λus s1 z9=>?_) (by rw[hs,hs2]) (by rw[hs2];rfl)));clear 5 z9 vs H1 I1 r1 q1;obtain⟨i,j,e,⟨q1,q2,q3,q4⟩,q⟩:=q1;subst e
 cases r1 with
 |cons r rr=>
   cases rr with
   |cons r' rr=>
     cases rr
     clear 5 r t rfl;clear 5 r' t' rfl;exact call_range_2 (Qf I1 q1 q2 q3 q4 q)
def fE(wi:TI)(g:TG)(tb:TS):TS:=λD σ H=>wi σ H λJ H1=>∃W:Nat->Nat->St->Hp->Prop,(∃m,W 0 m σ H1)/\∀i m σ H,W i m σ H->
 (J.stop i H/\D.nx σ H)\/(J.go i H/\∃N:St->Hp->Prop,(∀σ' H',N σ' H'->∃m',m'<m/\W (i+1) m' σ' H')/\∀x H',J.yld i H x H'->g x σ H' λσ2 H2=>tb {D with nx:=N,ct:=N,bk:=D.nx} σ2 H2)
noncomputable def Kc(fp:List mm)(h:Heap):List (mm×Obj):=fp.filterMap λb=>(h.get? b).map λo=>(b,o)
theorem GJ{o:Obj}(hb:b∈fp)(e:h.get? b=some o):(b,o)∈Kc fp h:=List.mem_filterMap.mpr ⟨b,hb,by rw[e];rfl⟩
theorem Vd{p:mm×Obj}(hp:p∈Kc fp h):p.1∈fp/\h.get? p.1=some p.2:=by
 clear 5(List.mem_filterMap.mp hp)b hb e
 cases q:h.get? b with
 |none=>rw[q] at e;cases e
 |some o=>
   rw[q] at e;have e':(b,o)=p:=Option.some.inj e;subst e';exact⟨hb,q⟩
theorem Inv.pinned(I:Inv X mi σ H s)(hf:∀b∈fp,FpOk X mi H b)(ho:∀b∈fp,∃o,s.heap.get? b=some o/\∀v,o.data≠.cell v):Inv X (mi++Kc fp s.heap) σ H s:=
 I.pins_of λp hp=>(ui5.mp hp).elim (λz=>I.pin p (uc3 _ z)) λz=>by
  clear 5(Vd z)hb e;obtain⟨f0,f1,f2,_⟩:=hf p.1 hb;clear 5(ho p.1 hb)o e' d;rw[e] at e';cases e'
  exact⟨e,f0,f1,f2,d⟩
theorem Inv.unpinned{pl:List (mm×Obj)}(I:Inv X (mi++pl) σ H s):Inv X mi σ H s:=I.pins_of λp hp=>I.pin p (uc3 _ (List.mem_append_left _ hp))
theorem eG{iter:Expr}{body:List Stmt}{wi:TI}{g:TG}{tb:TS}{pos:Pos}(hp:PassesOwn (model X.prog X.w) X.A X.env X.xe)(hc:X.calm=true)(hi:PI X tg iter wi)(hg:PG X tg g)(hb:PSs X body tb)
 (hs:autoParam (∀x,foldedSetIterable iter X.env x=pure x) q2T):PS X (.For tg iter body [] pos) (fE wi g tb):=by
 intro mi s σ H D I h;refine wpAny_For (thn (hi mi s σ H _ I h) λv s1 h1=>thn h1 λitv s2 h2=>?_) hs;obtain⟨it,fp,tn,J,H2,e,I2,T,st2,f2,W,⟨m0,w0⟩,turn⟩:=h2;subst e
 -- what stays true of the iterator's objects through the loop
 have stat:∀{H':Hp},(∀b∈fp,H' b=none)->∀b∈fp,FpOk X mi H' b:=λhn b hb=>⟨hn b hb,(f2 b hb).2⟩;refine codeAny_forLoop_any (λn s'=>∃i σ' H',Inv X mi σ' H' s'/\tn i s'.heap/\(∀b∈fp,H' b=none)/\W i n σ' H') ?_ m0 ⟨0,σ,H2,I2,st2,λb hb=>(f2 b hb).1,w0⟩;rintro n s3 ⟨i,σ3,H3,I3,st3,fr3,w3⟩;rcases turn i n σ3 H3 w3 with⟨stop,qn⟩|⟨go,N,hN,step⟩
 .refine PySem.wpAny_passesOwn hp (thn (T.done X rfl rfl rfl hc i mi s3 σ3 H3 X.xe I3 (stat fr3) st3 stop) λr s4 z9=>?_);clear 5 z9 hr I4;subst hr;exact PySem.wpAny_execs_nil ⟨σ3,H3,I4,qn⟩
 .refine PySem.wpAny_passesOwn hp (thn (T.item X rfl rfl rfl hc i mi s3 σ3 H3 X.xe I3 (stat fr3) st3 go) λr s4 z9=>?_);clear 5 z9 u hr h4;subst hr;refine PySem.wpAny_passesOwn hp (thn h4 λ_ s5 z9=>?_);clear 5 z9 x H5 I5 r5 y5 st5 fr5;have I5':=I5.pinned (stat fr5) (T.obj _ _ st5);refine PySem.wpAny_passesOwn hp (thn (hg _ s5 σ3 H5 x u _ I5' r5 (step x H5 y5)) λ_ s6 z9=>?_);clear 5 z9 σ6 H6 I6 q6;refine PySem.wpAny_passesOwn hp (thn (hb _ s6 σ6 H6 _ I6 q6) λf s7 q7=>?_);have again:∀{σ7:St}{H7:Hp},Inv X (mi++Kc fp s5.heap) σ7 H7 s7->N σ7 H7->∃m,m<n/\∃i σ' H',Inv X mi σ' H' s7/\tn i s7.heap/\(∀b∈fp,H' b=none)/\W i m σ' H':=λ{σ7 H7} I7 n7=>by
   clear 5(hN σ7 H7 n7)m' hm w7;refine⟨m',hm,i+1,σ7,H7,I7.unpinned,T.keep _ _ _ st5 λb hb o e=>(I7.pin (b,o) (uc3 _ (uc3 _ (GJ hb e)))).1,λb hb=>?_,w7⟩;clear 5(T.obj _ _ st5 b hb)o e d;exact(I7.pin (b,o) (uc3 _ (uc3 _ (GJ hb e)))).2.1
  cases f with
  |next=>clear 5 q7 σ7 H7 I7 n7;exact again I7 n7
  |cont=>clear 5 q7 σ7 H7 I7 n7;exact again I7 n7
  |brk=>clear 5 q7 σ7 H7 I7 q7;exact⟨σ7,H7,I7.unpinned,q7⟩
  |ret v=>clear 5 q7 x7 σ7 H7 I7 r7 q7;exact⟨x7,σ7,H7,I7.unpinned,r7,q7⟩
end
abbrev R2:=V->V->Hp->VK->Prop
def OpR(X:Cx)(f:mj->mj->Sem mj)(r:R2):Prop:=
 ∀(mi:List (mm×Obj)) (s:mn) (σ:St) (H:Hp) (x y:V) (v u:mj) (Q:VK),Inv X mi σ H s->RelV x v->RelV y u->r x y H Q->
  wpAny (model X.prog X.w) X.A (f v u) (EP X mi σ Q) X.xe s
def UnR(X:Cx)(f:mj->Sem mj)(r:V->Hp->VK->Prop):Prop:=
 ∀(mi:List (mm×Obj)) (s:mn) (σ:St) (H:Hp) (x:V) (v:mj) (Q:VK),Inv X mi σ H s->RelV x v->r x H Q->
  wpAny (model X.prog X.w) X.A (f v) (EP X mi σ Q) X.xe s
def CQ(X:Cx)(f:mj)(r:List V->Hp->VK->Prop):Prop:=
 ∀(mi:List (mm×Obj)) (s:mn) (σ:St) (H:Hp) (xs:List V) (us:List mj) (Q:VK),Inv X mi σ H s->Vals xs us->r xs H Q->
  wpAny (model X.prog X.w) X.A (call f us) (EP X mi σ Q) X.xe s
def tOp(r:R2)(ta tb:TE):TE:=λσ H Q=>ta σ H λx H1=>tb σ H1 λy H2=>r x y H2 Q
def tUn(r:V->Hp->VK->Prop)(ta:TE):TE:=λσ H Q=>ta σ H λx H1=>r x H1 Q
def rI(C:Int->Int->Prop)(g:Int->Int->V):R2:=λx y H Q=>∃i j,x=.int i/\y=.int j/\C i j/\Q (g i j) H
def rI0(g:Int->Int->V):R2:=λx y H Q=>∃i j,x=.int i/\y=.int j/\Q (g i j) H
def rU(g:Int->V):V->Hp->VK->Prop:=λx H Q=>∃i,x=.int i/\Q (g i) H
variable{r:R2}{f:mj->mj->Sem mj}
section
variable{X:Cx}{a b c:Expr}{ta tb tc:TE}{pos:Pos}
theorem Wt(ha:PE X a ta)(hb:PE X b tb){mi:List (mm×Obj)}{s:mn}{σ:St}{H:Hp}{R:V->V->Hp->Prop}(I:Inv X mi σ H s)
 (h:ta σ H λx H1=>tb σ H1 λy H2=>R x y H2){Q:mj->mn->Prop}{f:mj->mj->Sem mj}
 (hf:∀v u s2 x y H2,Inv X mi σ H2 s2->RelV x v->RelV y u->R x y H2->wpAny (model X.prog X.w) X.A (f v u) Q X.xe s2) :
 wpAny (model X.prog X.w) X.A (eval a X.env) (λv s₁=>wpAny (model X.prog X.w) X.A (eval b X.env) (λu s₂=>wpAny (model X.prog X.w) X.A (f v u) Q X.xe s₂) X.xe s₁) X.xe s:=by
 refine thn (ha mi s σ H _ I h) λv s1 z9=>?_;clear 5 z9 x H1 I1 r1 q1;refine thn (hb mi s1 σ H1 _ I1 q1) λu s2 z9=>?_;clear 5 z9 y H2 I2 r2 q2;exact hf v u s2 x y H2 I2 r1 r2 q2
theorem Tg{op:Operator}(ho:OpR X (binaryOp op) r)(ha:PE X a ta)(hb:PE X b tb):PE X (.BinOp a op b pos) (tOp r ta tb):=by
 intro mi s σ H Q I h;exact wpAny_BinOp (Wt ha hb I h λv u s2 x y H2 I2 rx ry q=>ho mi s2 σ H2 x y v u Q I2 rx ry q)
theorem gR{op:UnaryOp}{r:V->Hp->VK->Prop}(ho:UnR X (unaryOp op) r)(ha:PE X a ta):PE X (.UnaryOp op a pos) (tUn r ta):=by
 intro mi s σ H Q I h;exact UnaryOp_ (thn (ha mi s σ H _ I h) λv s1 z9=>by clear 5 z9 x H1 I1 r1 q1;exact ho mi s1 σ H1 x v Q I1 r1 q1)
theorem opI{C:Int->Int->Prop}{g:Int->Int->Int}
 (rule:∀(i j:Int) (t u:Tok) (s:mn) (Q:mj->mn->Prop) (E:mj->mn->Prop),C i j->Q (.int (g i j) s.toks) {s with toks:=s.toks+1}->wpAny (model X.prog X.w) X.A (f (.int i t) (.int j u)) Q E s) :
 OpR X f (rI C λi j=>.int (g i j)):=by
 intro mi s σ H x y v u Q I rx ry h;clear 5 h i j rfl rfl hc q;clear 5 rx t rfl;clear 5 ry t' rfl;exact rule i j t t' s _ _ hc ⟨.int (g i j),H,I.tok _,⟨_,rfl⟩,q⟩
theorem dR{g:Int->Int->Int}
 (rule:∀(i j:Int) (t u:Tok) (s:mn) (Q:mj->mn->Prop) (E:mj->mn->Prop),Q (.int (g i j) s.toks) {s with toks:=s.toks+1}->wpAny (model X.prog X.w) X.A (f (.int i t) (.int j u)) Q E s) :
 OpR X f (rI0 λi j=>.int (g i j)):=by
 intro mi s σ H x y v u Q I rx ry h;clear 5 h i j rfl rfl q;clear 5 rx t rfl;clear 5 ry t' rfl;exact rule i j t t' s _ _ ⟨.int (g i j),H,I.tok _,⟨_,rfl⟩,q⟩
theorem Td{g:Int->Int->Bool}
 (rule:∀(i j:Int) (t u:Tok) (s:mn) (Q:mj->mn->Prop) (E:mj->mn->Prop),Q (.bool (g i j)) s->wpAny (model X.prog X.w) X.A (f (.int i t) (.int j u)) Q E s) :
 OpR X f (rI0 λi j=>.bl (g i j)):=by
 intro mi s σ H x y v u Q I rx ry h;clear 5 h i j rfl rfl q;clear 5 rx t rfl;clear 5 ry t' rfl;exact rule i j t t' s _ _ ⟨.bl (g i j),H,I,rfl,q⟩
def bV(i j:Int):Prop:=0<j/\j<1073741824
def CMul(i j:Int):Prop:=(-(2 ^ 64)<i/\i<2 ^ 64)\/(-(2 ^ 64)<j/\j<2 ^ 64)
theorem CMul.ok{i j:Int}(h:CMul i j):IntMulOk i j:=by
 rcases h with⟨h1,h2⟩|⟨h1,h2⟩
 .exact .of_left (intBits_le_64 h1 h2)
 .exact .of_right (intBits_le_64 h1 h2)
theorem two_pow_nn(k:Nat):(0:Int)<=2 ^ k:=by
 rw[two_pow_cast];exact Int.natCast_nonneg _
theorem op_add:OpR X (binaryOp .Add) (rI0 λi j=>.int (i+j)):=dR λ_ _ _ _ _ _ _ q=>add_int q
theorem d4:OpR X (binaryOp .Sub) (rI0 λi j=>.int (i-j)):=dR λ_ _ _ _ _ _ _ q=>sub_int q
theorem dY:OpR X (binaryOp .Mult) (rI CMul λi j=>.int (i*j)):=opI λ_ _ _ _ _ _ _ hc q=>mul_int q hc.ok
theorem af:OpR X (binaryOp .FloorDiv) (rI bV λi j=>.int (i/j)):=opI λi j _ _ _ _ _ hc q=>by
 have h1:(0:Int)<j:=hc.1;have h2:j<1073741824:=hc.2;exact floordiv_int ∅ (by rw[Int.fdiv_eq_ediv_of_nonneg i ∅];exact q) (.inl (PyProof.noPylong_small ∅))
theorem dX:OpR X (binaryOp .Mod) (rI (λ_ j=>0<j) λi j=>.int (i%j)):=opI λi j _ _ _ _ _ hc q=>by
 have h1:(0:Int)<j:=hc;exact mod_int' ∅ (by rw[Int.fmod_eq_emod_of_nonneg i ∅];exact q)
theorem dZ:OpR X (binaryOp .RShift) (rI (λ_ j=>0<=j) λi j=>.int (i/2 ^ j.toNat)):=opI λi j _ _ _ _ _ hc q=>
 rshift_int hc (by rw[Int.fdiv_eq_ediv_of_nonneg i (two_pow_nn _)];exact q)
theorem unI{f:mj->Sem mj}{g:Int->Int}
 (rule:∀(i:Int) (t:Tok) (s:mn) (Q:mj->mn->Prop) (E:mj->mn->Prop),Q (.int (g i) s.toks) {s with toks:=s.toks+1}->wpAny (model X.prog X.w) X.A (f (.int i t)) Q E s) :
 UnR X f (rU λi=>.int (g i)):=by
 intro mi s σ H x v Q I rx h;clear 5 h i rfl q;clear 5 rx t rfl;exact rule i t s _ _ ⟨.int (g i),H,I.tok _,⟨_,rfl⟩,q⟩
theorem fK:UnR X (unaryOp .USub) (rU λi=>.int (-i)):=unI λ_ _ _ _ _ q=>neg_int q
end
variable{r':R2}{op:CmpOp}{us:List mj}
section
variable{X:Cx}{a b c:Expr}{ta tb tc:TE}{pos:Pos}
theorem op_lt:OpR X (compareOp .Lt) (rI0 λi j=>.bl (decide (i<j))):=Td λ_ _ _ _ _ _ _ q=>lt_int q
theorem op_le:OpR X (compareOp .LtE) (rI0 λi j=>.bl (decide (i<=j))):=Td λ_ _ _ _ _ _ _ q=>le_int q
theorem op_gt:OpR X (compareOp .Gt) (rI0 λi j=>.bl (decide (j<i))):=Td λ_ _ _ _ _ _ _ q=>gt_int q
theorem op_ge:OpR X (compareOp .GtE) (rI0 λi j=>.bl (decide (j<=i))):=Td λ_ _ _ _ _ _ _ q=>ge_int q
theorem OpR.or(h:OpR X f r)(h':OpR X f r'):OpR X f (λx y H Q=>r x y H Q\/r' x y H Q):=by
 intro mi s σ H x y v u Q I rx ry q;rcases q with q|q
 .exact h mi s σ H x y v u Q I rx ry q
 .exact h' mi s σ H x y v u Q I rx ry q
theorem Ed(b:Expr){op:CmpOp}(h:autoParam (op≠.In) q1T)(h2:autoParam (op≠.NotIn) q1T):behindInMarks op b=false:=by
 have e1:(op==CmpOp.In)=false:=by cases op<;>first|rfl|exact absurd rfl h
 have e2:(op==CmpOp.NotIn)=false:=by cases op<;>first|rfl|exact absurd rfl h2
 cases b<;>simp[behindInMarks,e1,e2]
theorem am(ho:OpR X (compareOp op) r)(ha:PE X a ta)(hb:PE X b tb)(hm:behindInMarks op b=false):PE X (.Compare a [op] [b] pos) (tOp r ta tb):=by
 intro mi s σ H Q I h;exact wpAny_Compare1 (Wt ha hb I h λv u s2 x y H2 I2 rx ry q=>ho mi s2 σ H2 x y v u Q I2 rx ry q) hm
def YX(t:TE):TT:=λσ H Q=>t σ H λx H'=>∃k,x=.bl k/\Q k H'
theorem aG(ho:OpR X (compareOp op) r)(ha:PE X a ta)(hb:PE X b tb)(hm:behindInMarks op b=false):PT X (.Compare a [op] [b] pos) (YX (tOp r ta tb)):=by
 intro mi s σ H Q I h;refine wpAny_isTrue_Compare1 (thn (ha mi s σ H _ I h) λv s1 ⟨x,H1,I1,r1,q1⟩=>thn (hb mi s1 σ H1 _ I1 q1) λu s2 ⟨y,H2,I2,r2,q2⟩=>
  thn (ho mi s2 σ H2 x y v u _ I2 r1 r2 q2) λc s3 ⟨z,H3,I3,r3,k,e,q3⟩=>?_) hm
 subst e
 cases r3
 exact PySem.wpAny_truthy_bool ⟨H3,I3,q3⟩
def Qy(r r':R2)(ta tb tc:TE):TE:=λσ H Q=>ta σ H λx H1=>tb σ H1 λy H2=>r x y H2 λz H3=>∃k,z=.bl k/\
 (if k=true then tc σ H3 λw' H4=>r' y w' H4 Q else Q (.bl false) H3)
theorem Xv{op':CmpOp}(ho:OpR X (compareOp op) r)(ho':OpR X (compareOp op') r')(ha:PE X a ta)(hb:PE X b tb)(hc:PE X c tc)
 (hm:autoParam (lastMarks [op,op'] [b,c]=false) q4T):PE X (.Compare a [op,op'] [b,c] pos) (Qy r r' ta tb tc):=by
 intro mi s σ H Q I h;refine Compare_chain (thn (ha mi s σ H _ I h) λv s1 ⟨x,H1,I1,r1,q1⟩=>chain_link (thn (hb mi s1 σ H1 _ I1 q1) λu s2 ⟨y,H2,I2,r2,q2⟩=>
  thn (ho mi s2 σ H2 x y v u _ I2 r1 r2 q2) λd s3 ⟨z,H3,I3,r3,k,e,q3⟩=>?_)) hm
 subst e
 cases r3
 refine PySem.wpAny_truthy_bool ?_
 cases k with
 |false=>exact ite_ff ⟨.bl false,H3,I3,rfl,q3⟩
 |true=>exact ite_tt (chain_last (thn (hc mi s3 σ H3 _ I3 q3) λw' s4 z9=>by clear 5 z9 z' H4 I4 r4 q4;exact ho' mi s4 σ H4 y z' u w' Q I4 r2 r4 q4))
theorem XH{op':CmpOp}(ho:OpR X (compareOp op) r)(ho':OpR X (compareOp op') r')(ha:PE X a ta)(hb:PE X b tb)(hc:PE X c tc)
 (hm:autoParam (lastMarks [op,op'] [b,c]=false) q4T):PT X (.Compare a [op,op'] [b,c] pos) (YX (Qy r r' ta tb tc)):=by
 intro mi s σ H Q I h;refine isTrue_chain (thn (ha mi s σ H _ I h) λv s1 ⟨x,H1,I1,r1,q1⟩=>test_link (thn (hb mi s1 σ H1 _ I1 q1) λu s2 ⟨y,H2,I2,r2,q2⟩=>
  thn (ho mi s2 σ H2 x y v u _ I2 r1 r2 q2) λd s3 ⟨z,H3,I3,r3,k,e,q3⟩=>?_)) hm
 subst e
 cases r3
 refine PySem.wpAny_truthy_bool ?_
 cases k with
 |false=>
   clear 5 q3 k' e' q'
   cases e'
   exact ite_ff ⟨H3,I3,q'⟩
 |true=>
   refine ite_tt (test_last (thn (hc mi s3 σ H3 _ I3 q3) λw' s4 ⟨z',H4,I4,r4,q4⟩=>thn (ho' mi s4 σ H4 y z' u w' _ I4 r2 r4 q4) λd' s5 z9=>?_));clear 5 z9 z2 H5 I5 r5 k2 e2 q5;subst e2
   cases r5
   exact PySem.wpAny_truthy_bool ⟨H5,I5,q5⟩
theorem Mq:(sizeLine:Nat)<2 ^ 63:=by rw[pL];decide
theorem op_add_str:OpR X (binaryOp .Add) (λx y H Q=>∃i j,x=.str i/\y=.str j/\i.length+j.length<=sizeLine/\Q (.str (i++j)) H):=by
 intro mi s σ H x y v u Q I rx ry h;clear 5 h i j rfl rfl hz q;clear 5 rx t rfl;clear 5 ry t' rfl;exact add_str (λt' tk=>⟨.str (i++j),H,I.tok _,⟨_,rfl⟩,q⟩) hz
theorem GN{x:V}(r:Vals [x] us):∃u,us=[u]/\RelV x u:=by
 cases r with
 |cons r1 r2=>cases r2;exact⟨_,rfl,r1⟩
theorem YY{x y:V}(r:Vals [x,y] us):∃u w',us=[u,w']/\RelV x u/\RelV y w':=by
 cases r with
 |cons r1 r2=>
   cases r2 with
   |cons r3 r4=>cases r4;exact⟨_,_,rfl,r1,r3⟩
theorem Ud(hc:X.calm=true):CQ X (.builtin "min") (λxs H Q=>∃i j,xs=[.int i,.int j]/\Q (.int (if j<i then j else i)) H):=by
 intro mi s σ H xs us Q I r h;clear 5 h i j rfl q;obtain⟨u,w',rfl,⟨t,rfl⟩,⟨t',rfl⟩⟩:=YY r;refine min_two_ints (I.ok.hd hc) λh' tk k=>⟨_,H,I.kept k,?_,q⟩
 by_cases hj:j<i
 .rw[pW hj,pW hj];exact⟨_,rfl⟩
 .rw[pX hj,pX hj];exact⟨_,rfl⟩
theorem Uc:CQ X (.type "int") (λxs H Q=>(∃i,xs=[.int i]/\Q (.int i) H)\/∃k,xs=[.bl k]/\Q (.int (if k then 1 else 0)) H):=by
 intro mi s σ H xs us Q I r h;rcases h with⟨i,rfl,q⟩|⟨k,rfl,q⟩
 .clear 5(GN r)u rfl t rfl;exact call_int_int ⟨.int i,H,I,⟨_,rfl⟩,q⟩
 .obtain⟨u,rfl,r1⟩:=GN r
  cases r1
  exact call_int_bool ⟨.int (if k then 1 else 0),H,I.tok _,⟨_,rfl⟩,q⟩
theorem Wz:CQ X (.builtin "ord") (λxs H Q=>∃x,xs=[.str x]/\x.length=1/\Q (.int (x.cps.getD 0 0:Nat)) H):=by
 intro mi s σ H xs us Q I r h;clear 5 h x rfl hz q;clear 5(GN r)u rfl t rfl;exact ord_of_one hz ⟨.int _,H,I.tok _,⟨_,rfl⟩,q⟩
def bW(K:mh)(x:V)(H:Hp)(n:Nat):Prop:=
 match x with
 |.str y=>y.length<=sizeLine/\n=y.length
 |.byt y=>y.size<=sizeLine/\n=y.size
 |.ref p=>(∃xs,SqL K H p xs/\n=xs.length)\/∃xs,SqT K H p xs/\n=xs.length
 |_=>False
theorem Wy:CQ X (.builtin "len") (λxs H Q=>∃x n,xs=[x]/\bW X.K x H n/\Q (.int n) H):=by
 intro mi s σ H xs us Q I r h;clear 5 h x n rfl e q;clear 5(GN r)u rfl rx;have hl:=Mq;have hs:sizeLine=16777216:=pL
 cases x with
 |str y=>
   clear 5 rx t rfl;obtain⟨hy,e'⟩:y.length<=sizeLine/\n=y.length:=e;subst e';exact len_str ∅ ⟨.int _,H,I.tok _,⟨_,rfl⟩,q⟩
 |byt y=>
   clear 5 rx t rfl;obtain⟨hy,e'⟩:y.size<=sizeLine/\n=y.size:=e;subst e';exact PySem.W.len_bytes ∅ ⟨.int _,H,I.tok _,⟨_,rfl⟩,q⟩
 |ref p=>
   cases rx
   have e':(∃xs,SqL X.K H p xs/\n=xs.length)\/∃xs,SqT X.K H p xs/\n=xs.length:=e;rcases e' with⟨xs,hx,e'⟩|⟨xs,hx,e'⟩
   .subst e';clear 5(I.list hx)its r' pl hz;have hlen:=r'.length;exact Calls.call_len_list pl.isList (by simp only[uf6];lia) ⟨.int xs.length,H,I.tok _,⟨_,by simp only[uf6];rw[hlen]⟩,q⟩
   .subst e';clear 5(I.tuple hx)its r' pl hz;have hlen:=r'.length;exact len_tuple pl (by simp only[uf6];lia) ⟨.int xs.length,H,I.tok _,⟨_,by simp only[uf6];rw[hlen]⟩,q⟩
 |_=>exact(show False from e).elim
end
structure ObjM(h:Heap)(x dx C:mm)(mA:Str->Option mj):Prop where
 obj:h.get? x=some (PySem.W.instObj C dx)
 ns:h.Ns1 dx mA
 ne:dx≠x
set_option tactic.hygienic true in
theorem UX{dx:mm}{mA:Str->Option mj}(n:h.Ns1 dx mA):∃od,h.get? dx=some od/\∀name,PySem.W.lookIn name od=some (mA name):=by
 obtain⟨o,es,ep,ho,hd,hk,_,hm⟩:=n;refine⟨o,ho,λname=>?_⟩;have e:=hm name;unfold nsFind findBy at e;rw[<-Array.find?_toList] at e;unfold PySem.W.lookIn;rw[hd];dsimp only
 split
 .rename_i y q;rw[q] at e;exact pQ some e
 .rename_i q;rw[q] at e;have a:es.toList.any (·.refKey)=false:=by
   rw[List.any_eq_false];intro y hy;clear 5(hk y (Array.mem_toList_iff.mp hy))z t hkey;simp[DictEntry.refKey,hkey]
  have a':¬es.toList.any (·.refKey)=true:=by rw[a];exact ue7
  rw[pX a'];exact pQ some e
variable{C:mm}
theorem ObjM.look{x dx:mm}{mA:Str->Option mj}(I:ObjM h x dx C mA):∃od,PySem.W.InstAt h x (PySem.W.instObj C dx) C (some od)/\∀name,PySem.W.lookIn name od=some (mA name):=
 let ⟨od,ho,hl⟩:=UX I.ns
 ⟨od,⟨I.obj,rfl,rfl,ho⟩,hl⟩
variable{pl:Sem Bool}{kw:List (Str×mj)}
section
variable{prog:mq}{w:mw}{A:Around}{E:mj->mn->Prop}{s:mn}{K:mh}{x dx C f:mm}{mA:Str->Option mj}{name:Str}{v:mj}
theorem ZO{expr:Bool}{Q:mj->mn->Prop}(X:K.In s.heap)(I:ObjM s.heap x dx C mA)(hg:PySem.W.plainGet K C name=true)(hh:PySem.W.hasDictIn K C=true)
 (ha:PySem.W.findIn K (.ref C) name=some none) (hv:mA name=some v) (hv':PySem.W.handedIn v=true) (h:Q v {s with toks:=s.toks+1}) :
 wpAny (model prog w) A (getAttr (.ref x) name expr) Q E s:=by
 clear 5 I.look od J hl;exact PySem.W.get_value X J (PySem.W.plainGet_of hg).1 (PySem.W.findObj_own hh ha rfl (by rw[hl,hv])) hv' h
theorem W4{Q:mj×List mj->mn->Prop}(X:K.In s.heap)(I:ObjM s.heap x dx C mA)(hg:PySem.W.plainGet K C name=true)
 (hf:PySem.W.findIn K (.ref C) name=some (some (.ref f))) (ht:PySem.W.isFn K (.ref f)=true) (hv:mA name=none) (h:Q (.ref f,[.ref x]) s) :
 wpAny (model prog w) A (getMethod (.ref x) name pl) Q E s:=by
 clear 5 I.look od J hl;exact PySem.W.method_fn X J (PySem.W.plainGet_of hg).1 (PySem.W.plainGet_of hg).2 hf (pM.mp ht) (by show(PySem.W.lookIn name od).map (·.isSome)=some false;rw[hl,hv];rfl) h
theorem bw{ns:List Str}(X:K.In s.heap)(I:ObjM s.heap x dx C mA)
 (hs:PySem.W.findIn K (.ref C) "__setattr__" = some (some (.builtin "object.__setattr__"))) (hp:PySem.W.plainOver K C=true) (ht:PySem.W.takerIn K C name=some none) (hh:PySem.W.hasDictIn K C=true)
 (hw:PySem.Within mA ns) (hsz:ns.length<=sizeLine)
 (h:∀h',ObjM h' x dx C (λy=>if y=name then some v else mA y)->Heap.SameBut dx s.heap h'->Q () {s with heap:=h',toks:=s.toks+2}) :
 wpAny (model prog w) A (setAttr (.ref x) name v) Q E s:=by
 clear 5 I.look od J hl;refine PySem.W.set_plain X J hs (PySem.W.osa_open (s:={s with toks:=s.toks+1}) (r:=none) X J hp ht λb=>?_);clear 5(PySem.W.any_some hh)cd hc hd';have hx:s.heap.get? x=some ⟨.ref C,some dx,.plain,#[]⟩:=I.obj;refine uo0 (uo1 (uo0 (uo0 (wpAny_loadPart hx (uo0 (PySem.W.Looks.here (s:={s with toks:=s.toks+1}) (PySem.W.looks_clsIn X hc) ?_))))));rw[hd'];refine uo1 (a:=some dx) (uo0 (uo1 (uo0 ?_)));refine wpAny_nsSet1 (s:={s with toks:=s.toks+1}) I.ns λh' hn2 hs2=>?_;clear 5(hn2.count (PySem.Within.cons name v hw))oD esD epD hoD hdD hcD;refine uo0 (wpAny_lookBehind hoD (by rw[hdD];exact pastItsLine_dict (um6 hcD (by rw[ug9];lia))) ?_);exact uo1 (h _ ⟨(hs2.2 _ (Ne.symm I.ne)).trans I.obj,hn2,I.ne⟩ hs2)
theorem Xl{R:Result->mn->Prop}{vs:List mj}(X:K.In s.heap)(hm:PySem.W.makesIn K C=true)
 (hi:PySem.W.findIn K (.ref C) "__init__" = some (some (.ref f))) (hf:PySem.W.typeIn K (.ref f)=some (.type "function"))
 (h:codeAny (model prog w) (A.under (.builtin "type.__call__" ⟨.ref C :: vs,kw⟩)) (.call (.ref f) ⟨.ref (s.heap.objs.size + 1) :: vs,kw⟩) (PySem.W.InitBack (s.heap.objs.size + 1) R)
   {s with heap:=(s.heap.push PySem.W.emptyDict).push (PySem.W.instObj C s.heap.objs.size)}) :
 codeAny (model prog w) A (.call (.ref C) ⟨vs,kw⟩) R s:=by
 clear 5 s hh g d t os;exact PySem.W.make_core (PySem.W.makes_of X hm) (PySem.W.looks_findIn X hi) (λself=>PySem.W.bind_fn X self hf) (.inl rfl) h
end
noncomputable def D2(f:Str)(v:V):List (Str×V)->List (Str×V)
 |[]=>[(f,v)]
 |(g,x)::r=>if g=f then(g,v)::r else(g,x)::D2 f v r
theorem K5(f g:Str)(v:V):∀fs:List (Str×V),(D2 f v fs).lookup g=if g=f then some v else fs.lookup g
 |[]=>by
   show List.lookup g [(f,v)]=_
   by_cases h:g=f
   .have hb:(g==f)=true:=pM.mpr h;simp only[List.lookup,hb,pW h]
   .have hb:(g==f)=false:=om.mpr h;simp only[List.lookup,hb,pX h]
 |(k,x)::r=>by
   have ih:=K5 f g v r;rw[show D2 f v ((k,x)::r)=(if k=f then(k,v)::r else(k,x)::D2 f v r) from rfl]
   by_cases hk:k=f
   .rw[pW hk]
    by_cases h:g=k
    .have hb:(g==k)=true:=pM.mpr h;simp only[List.lookup,hb,pW (h.trans hk)]
    .have hb:(g==k)=false:=om.mpr h;simp only[List.lookup,hb,pX (λe:g=f=>h (e.trans hk.symm))]
   .rw[pX hk]
    by_cases h:g=k
    .have hb:(g==k)=true:=pM.mpr h;simp only[List.lookup,hb,pX (λe:g=f=>hk (h.symm.trans e))]
    .have hb:(g==k)=false:=om.mpr h;simp only[List.lookup,hb];exact ih
theorem JZ(f:Str)(v:V):∀fs:List (Str×V),f∈(D2 f v fs).map (·.1)/\∀g,g∈fs.map (·.1)->g∈(D2 f v fs).map (·.1)
 |[]=>⟨by simp[D2],λg h=>by simp at h⟩
 |(k,x)::r=>by
   clear 5(JZ f v r)i1 i2;rw[show D2 f v ((k,x)::r)=(if k=f then(k,v)::r else(k,x)::D2 f v r) from rfl]
   by_cases hk:k=f
   .rw[pW hk];subst hk;exact⟨by simp,λg h=>by simpa using h⟩
   .rw[pX hk];refine⟨?_,λg h=>?_⟩
    .rw[ul2];exact ud1 _ i1
    .rw[ul2] at h⊢;rcases ul1.mp h with e|e
     .exact ul1.mpr (.inl e)
     .exact ud1 _ (i2 g e)
theorem K3(f:Str)(v:V):∀fs:List (Str×V),(D2 f v fs).length<=fs.length+1
 |[]=>by simp[D2]
 |(k,x)::r=>by
   have ih:=K3 f v r;rw[show D2 f v ((k,x)::r)=(if k=f then(k,v)::r else(k,x)::D2 f v r) from rfl]
   by_cases hk:k=f
   .rw[pW hk,ug9,ug9];lia
   .rw[pX hk,ug9,ug9];lia
theorem RelO.some_of{o:Option mj}(r:RelO (some v) o):∃u,o=some u/\RelV v u:=by
 cases o with
 |none=>exact(show False from r).elim
 |some u=>exact⟨u,rfl,r⟩
theorem RelO.none_of{o:Option mj}(r:RelO none o):o=none:=by
 cases o with
 |none=>rfl
 |some u=>exact(show False from r).elim
theorem UF(r:RelV v u):PySem.W.handedIn u=true:=by
 cases v with
 |non=>cases (show u=Value.none from r);rfl
 |bl b=>cases (show u=Value.bool b from r);rfl
 |int i=>clear 5((show ∃t,u=Value.int i t from r))t e;cases e;rfl
 |str x=>clear 5((show ∃t,u=Value.str x t from r))t e;cases e;rfl
 |byt b=>clear 5((show ∃t,u=Value.bytes b t from r))t e;cases e;rfl
 |flt b=>clear 5((show ∃t,u=Value.float b t from r))t e;cases e;rfl
 |ref a=>cases (show u=Value.ref a from r);rfl
 |ty n=>cases (show u=Value.type n from r);rfl
section
variable{P:mq}{w:mw}{H H':Hp}{h h':Heap}{a C dx:mm}{fs fs':List (Str×V)}
theorem KD(hok:HOk P w H h)(e:H a=some (.ins C dx fs)):∃mA,ObjM h a dx C mA/\(∀f,RelO (fs.lookup f) (mA f))/\PySem.Within mA (fs.map (·.1))/\fs.length<=1000/\H dx=some (.own a):=by
 clear 5((show ObjOk P w H h a (.ins C dx fs) from hok a _ e))d z ne ob mA n r q;exact⟨mA,⟨ob,n,ne⟩,r,q,z,d⟩
end
structure Cls(K:mh)(C:mm):Prop where
 pg:PySem.W.plainGet K C Str.empty=true
 hd:PySem.W.hasDictIn K C=true
 po:PySem.W.plainOver K C=true
 sa:PySem.W.findIn K (.ref C) "__setattr__" = some (some (.builtin "object.__setattr__"))
theorem Cls.get{K:mh}{C:mm}(c:Cls K C)(f:Str):PySem.W.plainGet K C f=true:=c.pg
def NoAttr(K:mh)(C:mm)(f:Str):Prop:=PySem.W.findIn K (.ref C) f=some none
theorem NoAttr.taker{f:Str}(n:NoAttr K C f):PySem.W.takerIn K C f=some none:=by
 unfold PySem.W.takerIn;rw[show PySem.W.findIn K (.ref C) f=some none from n];rfl
structure Con(K:mh)(C:mm)(f:Str)(v:V)(u:mj):Prop where
 at_:PySem.W.findIn K (.ref C) f=some (some u)
 rel:RelV v u
 get:PySem.W.specialIn K u "__get__" = some none
 cp:PySem.W.copiedNames.contains f=false
structure Meth(K:mh)(C:mm)(m:Str)(f:mm):Prop where
 at_:PySem.W.findIn K (.ref C) m=some (some (.ref f))
 fn:PySem.W.isFn K (.ref f)=true
 kp:PySem.W.keepIn K (.ref f)=true
section
variable{X:Cx}{mi:List (mm×Obj)}{σ:St}{H:Hp}{s:mn}{a C dx:mm}{fs:List (Str×V)}{f:Str}{v:V}{A:Around}{E:mj->mn->Prop}
theorem SS{b:Bool}{Q:mj->mn->Prop}(I:Inv X mi σ H s)(e:H a=some (.ins C dx fs))(c:Cls X.K C)(n:NoAttr X.K C f)(l:fs.lookup f=some v)
 (h:∀u s',Inv X mi σ H s'->RelV v u->Q u s'):wpAny (model X.prog X.w) A (getAttr (.ref a) f b) Q E s:=by
 obtain⟨mA,O,r,_,_,_⟩:=KD I.hok e;clear 5(RelO.some_of (v:=v) (o:=mA f) (by rw[<-l];exact r f))u hu ru;exact ZO I.kIn O (c.get f) c.hd n hu (UF ru) (h u _ (I.tok _) ru)
theorem Mm{m:Str}{g:mm}{Q:mj×List mj->mn->Prop}(I:Inv X mi σ H s)(e:H a=some (.ins C dx fs))(c:Cls X.K C)(k:Meth X.K C m g)(l:fs.lookup m=none)
 (h:Q (.ref g,[.ref a]) s):wpAny (model X.prog X.w) A (getMethod (.ref a) m pl) Q E s:=by
 obtain⟨mA,O,r,_,_,_⟩:=KD I.hok e;have hn:mA m=none:=RelO.none_of (by rw[<-l];exact r m);exact W4 I.kIn O (c.get m) k.at_ k.fn hn h
theorem To{y:V}(I:Inv X mi σ H s)(e:H a=some (.ins C dx fs))(c:Cls X.K C)(n:NoAttr X.K C f)(hl:fs.length<1000)(ry:RelV y u)
 (h:∀s',Inv X mi σ (upd H a (.ins C dx (D2 f y fs))) s'->Q () s'):wpAny (model X.prog X.w) A (setAttr (.ref a) f u) Q E s:=by
 obtain⟨mA,O,r,wi,_,ho⟩:=KD I.hok e;have hz:(fs.map (·.1)).length<=sizeLine:=by rw[ui7,pL];lia
 refine bw I.kIn O c.sa c.po n.taker c.hd wi hz λh' O' sb=>h _ ?_;have hd:∃o,h'.get? dx=some o:=let ⟨o,_,_,e',_⟩:=O'.ns;⟨o,e'⟩;refine I.write (x:=a) (e:=dx) (by rw[e];exact True.intro) (.inr ho) (λb q hb z=>(sb.2 b hb).trans z) hd ?_;refine⟨by rw[Ay O.ne];exact ho,?_,O.ne,O'.obj,_,O'.ns,λg=>?_,λg hg=>?_⟩
 .have:=K3 f y fs;lia
 .show RelO ((D2 f y fs).lookup g) (if g=f then some u else mA g);rw[K5]
  by_cases q:g=f
  .rw[pW q,pW q];exact ry
  .rw[pX q,pX q];exact r g
 .by_cases q:g=f
  .rw[q];exact(JZ f y fs).1
  .refine(JZ f y fs).2 g (wi g λz=>hg ?_);show(if g=f then some u else mA g)=none;rw[pX q];exact z
theorem Inv.made(I:Inv X mi σ H s):Inv X mi σ (upd (upd H s.heap.objs.size (.own (s.heap.objs.size+1))) (s.heap.objs.size+1) (.ins C s.heap.objs.size []))
 {s with heap:=(s.heap.push PySem.W.emptyDict).push (PySem.W.instObj C s.heap.objs.size)}:=by
 have e1:(s.heap.push PySem.W.emptyDict).get? s.heap.objs.size=some PySem.W.emptyDict:=ud8 s.heap rfl;have e2:((s.heap.push PySem.W.emptyDict).push (PySem.W.instObj C s.heap.objs.size)).get? (s.heap.objs.size+1)=some (PySem.W.instObj C s.heap.objs.size):=by
  have:=ud8 (s.heap.push PySem.W.emptyDict) (o:=PySem.W.instObj C s.heap.objs.size) rfl
  rwa [PySem.Heap.size_push] at this
 have e3:(s.heap.push PySem.W.emptyDict).Ns s.heap.objs.size (λ_=>none):=⟨PySem.W.emptyDict,#[],_,e1,rfl,(λe he=>absurd he (by simp)),λ_=>rfl⟩;have I1:=I.laid (a:=s.heap.objs.size) (o:=.own (s.heap.objs.size+1)) (h':=s.heap.push PySem.W.emptyDict) (t':=s.toks) (λb u q=>ub7 _ q) (un6 _) ⟨_,e1⟩;refine I1.laid (a:=s.heap.objs.size+1) (o:=.ins C s.heap.objs.size []) (t':=s.toks) (λb u q=>ub7 _ q) (pE (PySem.Heap.size_push _ _)) ?_;have ne:s.heap.objs.size≠s.heap.objs.size+1:=um5 (uh0 _);refine⟨by rw[Ay ne,Be],un7 _,ne,e2,λ_=>none,(Heap.Ns1.of_empty e3).at λo q=>ub7 _ q,λ_=>True.intro,λy hy=>absurd rfl hy⟩
theorem Zi{prog:mq}{env:Env}{f:Str}{pos:Pos}{s:mn}{Q:mj->mn->Prop}(hb:attributeBase e f env (eval e env)=eval e env)
 (h:wpAny (model prog w) A (eval e env) (λo s₁=>wpAny (model prog w) A (getAttr o f true) Q E s₁) E s):wpAny (model prog w) A (eval (.Attribute e f pos) env) Q E s:=
 Attribute_any_ h (by rw[arm_eval_Attribute,hb])
end
def jL(K:mh)(ta:TE)(f:Str):TE:=λσ H Q=>ta σ H λx H1=>∃a C dx fs v,x=.ref a/\H1 a=some (.ins C dx fs)/\Cls K C/\NoAttr K C f/\fs.lookup f=some v/\Q v H1
def jI(K:mh)(ta tv:TE)(f:Str):TS:=λD σ H=>tv σ H λy H1=>ta σ H1 λx H2=>∃a C dx fs,x=.ref a/\H2 a=some (.ins C dx fs)/\Cls K C/\NoAttr K C f/\fs.length<1000/\
 D.nx σ (upd H2 a (.ins C dx (D2 f y fs)))
section
variable{X:Cx}{o e value:Expr}{f:Str}{pos pos' tpos:Pos}{ta tv:TE}
theorem d8(he:PE X e ta)(hb:attributeBase e f X.env (eval e X.env)=eval e X.env):PE X (.Attribute e f pos) (jL X.K ta f):=by
 intro mi s σ H Q I h;refine Zi hb (thn (he mi s σ H _ I h) λu s1 z9=>?_);clear 5 z9 x H1 I1 rx a C dx fs v ex ea c n l q;subst ex;obtain rfl:u=Value.ref a:=rx;exact SS I1 ea c n l λu' s2 I2 ru=>⟨v,H1,I2,ru,q⟩
theorem eF(ha:PE X o ta)(hv:PE X value tv)(hs:swapsWith value (some (.Attribute o f pos')) pos.line X.env=pure false):PS X (.Assign [.Attribute o f pos'] value pos) (jI X.K ta tv f):=by
 intro mi s σ H D I h;refine plainObj_wpAny_Assign_Attribute (thn (hv mi s σ H _ I h) λu s1 ⟨y,H1,I1,ry,q⟩=>thn (ha mi s1 σ H1 _ I1 q) λov s2 z9=>?_) hs;clear 5 z9 x H2 I2 rx a C dx fs ex ea c n l q2;subst ex;obtain rfl:ov=Value.ref a:=rx;exact To I2 ea c n l ry λs3 I3=>⟨σ,_,I3,q2⟩
end
section
variable{X:Cx}{mi:List (mm×Obj)}{σ:St}{H:Hp}{s:mn}{A:Around}{E:mj->mn->Prop}{Q:mj->mn->Prop}{c:mj}{b:Bool}
inductive TyOf(K:mh)(H:Hp):V->mj->Prop where
 |non:TyOf K H .non (.type "NoneType")
 |bl (x:Bool):TyOf K H (.bl x) (.type "bool")
 |int (i:Int):TyOf K H (.int i) (.type "int")
 |str (x:Str):TyOf K H (.str x) (.type "str")
 |flt (x:UInt64):TyOf K H (.flt x) (.type "float")
 |lst {a:mm}{xs:List V} (e:H a=some (.lst xs)):TyOf K H (.ref a) (.type "list")
 |frz {a:mm}{o:Obj}{xs:List V} (e:H a=some (.frz o (.lst xs))):TyOf K H (.ref a) (.type "list")
 |tup {a:mm}{xs:List V} (e:H a=some (.tup xs)):TyOf K H (.ref a) (.type "tuple")
 |dK {a:mm}{kvs:List (Key×V)} (e:H a=some (.dK kvs)):TyOf K H (.ref a) (.type "dict")
 |dT {a:mm}{kvs:List (List Key×V)} (e:H a=some (.dT kvs)):TyOf K H (.ref a) (.type "dict")
 | ins {a C dx:mm} {fs:List (Str×V)} (e:H a=some (.ins C dx fs)) (cl:Cls K C) (ha:PySem.W.findIn K (.ref C) "__class__" = some (some (.builtin "object.__class__")))
    (hn:PySem.W.specialIn K (.builtin "object.__class__") "__get__" = some (some (.builtin "getset_descriptor.__get__"))) (htk:PySem.W.takesIn K (.builtin "object.__class__")=some true)
    (hm:PySem.W.mroIn K C (.type "object")=some true):TyOf K H (.ref a) (.ref C)
theorem UP{x:V}{t:mj}(I:Inv X mi σ H s)(rx:RelV x u)(ty:TyOf X.K H x t)(e:PySem.W.kitOne X.K t c=some b)(h:∀tk,Q (.bool b) {s with toks:=tk}) :
 wpAny (model X.prog X.w) A (call (.builtin "isinstance") [u,c]) Q E s:=by
 cases ty with
 |non=>cases (show u=Value.none from rx);exact PySem.W.kia_one PySem.W.kitx_none I.kIn True.intro e (λz=>nomatch z) h
 |bl y=>cases (show u=Value.bool y from rx);exact PySem.W.kia_one PySem.W.kitx_bool I.kIn True.intro e (λz=>nomatch z) h
 |int i=>clear 5((show ∃t,u=Value.int i t from rx))t q;cases q;exact PySem.W.kia_one PySem.W.kitx_int I.kIn True.intro e (λz=>nomatch z) h
 |str y=>clear 5((show ∃t,u=Value.str y t from rx))t q;cases q;exact PySem.W.kia_one PySem.W.kitx_str I.kIn True.intro e (λz=>nomatch z) h
 |flt y=>clear 5((show ∃t,u=Value.float y t from rx))t q;cases q;exact PySem.W.kia_one PySem.W.kitx_float I.kIn True.intro e (λz=>nomatch z) h
 |@lst a xs ea=>
   cases (show u=Value.ref a from rx)
   obtain⟨_,_,n,_,h1⟩:=(show ObjOk X.prog X.w H s.heap a (.lst xs) from I.hok a _ ea);exact PySem.W.kia_one PySem.W.kitx_list I.kIn ⟨_,h1,rfl⟩ e (λz=>nomatch z) h
 |@frz a ob xs ea=>
   cases (show u=Value.ref a from rx)
   obtain⟨_,_,_,n,_,h1⟩:=(show ObjOk X.prog X.w H s.heap a (.frz ob (.lst xs)) from I.hok a _ ea);exact PySem.W.kia_one PySem.W.kitx_list I.kIn ⟨_,h1,rfl⟩ e (λz=>nomatch z) h
 |@tup a xs ea=>
   cases (show u=Value.ref a from rx)
   obtain⟨_,_,_,p⟩:=(show ObjOk X.prog X.w H s.heap a (.tup xs) from I.hok a _ ea);obtain⟨o,h1,h2,_⟩:=p;exact PySem.W.kia_one PySem.W.kitx_tuple I.kIn ⟨o,h1,h2⟩ e (λz=>nomatch z) h
 |@dK a kvs ea=>
   cases (show u=Value.ref a from rx)
   obtain⟨_,_,vs,_,p⟩:=(show ObjOk X.prog X.w H s.heap a (.dK kvs) from I.hok a _ ea);obtain⟨o,es,ep,h1,h2,_⟩:=p;exact PySem.W.kia_one PySem.W.kitx_dict I.kIn ⟨o,h1,h2.1⟩ e (λz=>nomatch z) h
 |@dT a kvs ea=>
   cases (show u=Value.ref a from rx)
   obtain⟨_,_,xs,_,o,es,ep,h1,h2,_⟩:=(show ObjOk X.prog X.w H s.heap a (.dT kvs) from I.hok a _ ea);exact PySem.W.kia_one PySem.W.kitx_dict I.kIn ⟨o,h1,h2.1⟩ e (λz=>nomatch z) h
 |@ins a C dx fs ea cl ha hn htk hm=>
   cases (show u=Value.ref a from rx)
   obtain⟨mA,O,_⟩:=KD I.hok ea;obtain⟨od,J,_⟩:=O.look;exact PySem.W.kia_one (PySem.W.kitx_own (cl.get _) cl.hd ha hn htk hm) I.kIn J e (λz=>nomatch z) h
end
structure Room(k:Nat)(A:Around):Prop where
 hd:A.handled=none
 dp:A.depth+3*k+5<recursionLimit
 un:A.units+16*k+200<cLine
theorem Room.mono{j k:Nat}{A:Around}(r:Room k A)(h:j<=k):Room j A:=⟨r.hd,by have:=r.dp;lia,by have:=r.un;lia⟩
theorem Room.deeper{k:Nat}{A:Around}(r:Room (k+1) A)(env:Env):Room k (A.deeper env):=
 ⟨r.hd,by have:=r.dp;show A.depth+1+3*k+5<_;lia,by have:=r.un;show A.units+3+16*k+200<_;lia⟩
theorem SX{A:Around}:(A.under (.builtin "type.__call__" ⟨.ref C::us,kw⟩)).depth=A.depth+1:=by
 first|rfl|simp[Around.under,Code.weight,Code.isCreation,Code.isGuard,Code.isCaller,Code.frames,Code.isFrame,guardIds]
theorem SY{A:Around}:(A.under (.builtin "type.__call__" ⟨.ref C::us,kw⟩)).units=A.units+1:=by
 first|rfl|simp[Around.under,Code.cUnits,Code.frames,Code.isFrame]
theorem Room.make{k:Nat}{A:Around}(r:Room (k+1) A)(C:mm)(us:List mj)(kw:List (Str×mj)):Room k (A.under (.builtin "type.__call__" ⟨.ref C::us,kw⟩)):=
 ⟨r.hd,by have:=r.dp;rw[SX];lia,by have:=r.un;rw[SY];lia⟩
theorem Room.depth{k:Nat}{A:Around}(r:Room k A):A.depth<recursionLimit:=by have:=r.dp;lia
theorem Room.units{k:Nat}{A:Around}(r:Room k A):A.units+64<cLine:=by have:=r.un;lia
def fG:TA:=λ_ H Q=>Q [] H
def hV(ta:TE)(tr:TA):TA:=λσ H Q=>ta σ H λx H1=>tr σ H1 λxs H2=>Q (x::xs) H2
section
variable{X:Cx}{e:Expr}{es:List Expr}{te:TE}{t:TA}{pos:Pos}
theorem d6:PA X [] fG:=λ_ _ _ _ H Q I h=>Calls.spliced_nil ⟨[],H,I,.nil,h⟩
theorem ai(ha:PE X e te)(hr:PA X es t)(hs:autoParam (starEach (e::es) X.env=(false,eval e X.env)::starEach es X.env) q3T):PA X (e::es) (hV te t):=by
 intro pos mi s σ H Q I h;rw[hs];show wpAny _ _ (spliced ((false,eval e X.env)::backTo pos (starEach es X.env))) _ _ s;refine Calls.spliced_cons (thn (ha mi s σ H _ I h) λu s1 z9=>?_);clear 5 z9 x H1 I1 r1 q1;exact thn (hr pos mi s1 σ H1 _ I1 q1) λus s2 ⟨xs,H2,I2,r2,q2⟩=>⟨x::xs,H2,I2,.cons r1 r2,q2⟩
def jW(t:TA):TE:=λσ H Q=>t σ H λxs H1=>xs.length<=sizeLine/\∀p,H1 p=none->Q (.ref p) (upd H1 p (.tup xs))
def jQ(t:TA):TE:=λσ H Q=>t σ H λxs H1=>xs.length<=sizeLine/\∀p,H1 p=none->Q (.ref p) (upd H1 p (.lst xs))
theorem eB{x1}(h:PA X es t):PE X (.Tuple es x1 pos) (jW t):=by
 intro mi s σ H Q I hq;refine wpAny_Tuple_spliced (thn (h pos mi s σ H _ I hq) λus s1 z9=>?_);clear 5 z9 xs H1 I1 r z q;refine⟨by rw[<-r.length];exact z,?_⟩;have hf:H1 s1.heap.objs.size=none:=I1.hok.fresh (un6 _);refine⟨.ref s1.heap.objs.size,upd H1 s1.heap.objs.size (.tup xs),I1.laid (t':=s1.toks) (λb u e=>ub7 _ e) (un6 _) ?_,rfl,q _ hf⟩;exact⟨z,us,r,⟨_,ud8 _ rfl,rfl,_,rfl⟩⟩
theorem d9(h:PA X es t):PE X (.List es pos) (jQ t):=by
 intro mi s σ H Q I hq;refine wpAny_List_spliced (thn (h pos mi s σ H _ I hq) λus s1 z9=>?_);clear 5 z9 xs H1 I1 r z q;refine⟨by rw[<-r.length];exact z,?_⟩;have hf:H1 s1.heap.objs.size=none:=I1.hok.fresh (un6 _);refine⟨.ref s1.heap.objs.size,upd H1 s1.heap.objs.size (.lst xs),I1.laid (t':=s1.toks) (λb u e=>ub7 _ e) (un6 _) ?_,rfl,q _ hf⟩;exact⟨z,us,0,r,ud8 _ rfl⟩
end
abbrev Sp:=List V->Hp->VK->XK->Prop
abbrev CXT:=List Env->Hp->mn->XK->mj->mn->Prop
structure Env0(P:mq)(w:mw)(K:mh)(mg:Str->Option mj)(base:Heap)(A:Around)(outer:List Env)(s:mn)(H:Hp):Prop where
 frames:A.frames=some outer
 mod:Mod K mg base
 bs:∀b o,base.get? b=some o->s.heap.get? b=some o/\H b=none
 bsz:base.objs.size<=s.heap.objs.size
 funs:s.heap.FunFrames base outer
 frf:∀b∈frs outer,H b=none
 hok:HOk P w H s.heap
 bare:AllBare s.gens
def CE(outer:List Env)(P:mq)(w:mw)(H:Hp)(s:mn)(Q:VK)(u:mj)(s':mn):Prop:=
 ∃v H',s'.os=s.os/\AllBare s'.gens/\Un (frs outer) [] H H' s.heap s'.heap/\HOk P w H' s'.heap/\RelV v u/\Q v H'
def CR(CX:CXT)(outer:List Env)(P:mq)(w:mw)(H:Hp)(s:mn)(Q:VK)(E:XK)(r:Result)(s':mn):Prop:=
 match r with
 |.ok (.ret u)=>CE outer P w H s Q u s'
 |.ok _=>False
 |.error e=>CX outer H s E e s'
structure FnOk(P:mq)(w:mw)(K:mh)(mg:Str->Option mj)(base:Heap)(CX:CXT)(k:Nat)(f:mm)(fd:mx)(ps:List Str)(sp:Sp):Prop where
 len:∀vs H Q E,sp vs H Q E->vs.length=ps.length
 run:∀(A:Around) (outer:List Env) (s:mn) (H:Hp) (args:Args) (us:List mj) (vs:List V) (Q:VK) (E:XK),Room k A->Env0 P w K mg base A outer s H->BindsTo s fd args (ps.zip us)->Vals vs us->sp vs H Q E->
  codeAny (model P w) A (.call (.ref f) args) (CR CX outer P w H s Q E) s
theorem FnOk.mono{P:mq}{w:mw}{K:mh}{mg:Str->Option mj}{base:Heap}{CX:CXT}{j k:Nat}{f:mm}{fd:mx}{ps:List Str}{sp:Sp}(F:FnOk P w K mg base CX j f fd ps sp)(h:j<=k) :
 FnOk P w K mg base CX k f fd ps sp:=⟨F.len,λA outer s H args us vs Q E hr=>F.run A outer s H args us vs Q E (hr.mono h)⟩
variable{mg:Str->Option mj}{base:Heap}
theorem Env0.make{A:Around}{outer:List Env}(e:Env0 P w K mg base A outer s H)(C:mm)(us:List mj)(kw:List (Str×mj)) :
 Env0 P w K mg base (A.under (.builtin "type.__call__" ⟨.ref C::us,kw⟩)) outer s H:=⟨by first|exact e.frames|(simpa[Around.under,Code.envs,Code.isFrame,pushEnvs] using e.frames),e.mod,e.bs,e.bsz,e.funs,e.frf,e.hok,e.bare⟩
section
variable{X:Cx}{mi:List (mm×Obj)}{σ:St}{H:Hp}{s s':mn}
theorem Inv.env0(I:Inv X mi σ H s):Env0 X.prog X.w X.K X.mg X.base X.A X.stack s H:=
 ⟨I.ok.frames,I.ok.mod,I.bs,um6 I.ok.bsz I.sz,I.stack,I.stkFree,I.hok,I.bare⟩
theorem Inv.after{Q:VK}(I:Inv X mi σ H s)(h:CE X.stack X.prog X.w H s Q u s'):EP X mi σ Q u s':=by
 clear 5 h v H' os bare un hok r q;clear 5 s' hh g d t os';obtain rfl:os'=s.os:=os;exact⟨v,H',I.call (h':=hh) (g':=g) (d':=d) (t':=t) (ch:=[]) un hok bare (λb z=>absurd z (by simp)),r,q⟩
end
def hJ(sp:Sp)(dvs:List V)(E:XK)(t:TA):TE:=λσ H Q=>t σ H λvs H1=>sp (vs++dvs) H1 Q E
def YV(C:mm)(m:Str)(sp:Sp)(dvs:List V)(E:XK)(ta:TE)(t:TA):TE:=λσ H Q=>ta σ H λx H1=>∃a dx fs,x=.ref a/\H1 a=some (.ins C dx fs)/\fs.lookup m=none/\
 t σ H1 λvs H2=>sp (x::(vs++dvs)) H2 Q E
def ib(C:mm)(sp:Sp)(dvs:List V)(E:XK)(t:TA):TE:=λσ H Q=>t σ H λvs H1=>∀x dx,H1 x=none->H1 dx=none->dx≠x->
 sp (.ref x::(vs++dvs)) (upd (upd H1 dx (.own x)) x (.ins C dx [])) (λv H2=>v=.non/\Q (.ref x) H2) E
def Binds(K:mh)(fd:mx)(ps:List Str)(ds:List mj):Prop:=
 ∀(s:mn) (us:List mj),K.In s.heap->(us++ds).length=ps.length->BindsTo s fd ⟨us,[]⟩ (ps.zip (us++ds))
theorem Binds.all{fd:mx}{ps:List Str}(h:∀us:List mj,us.length=ps.length->bindArgs fd ⟨us,[]⟩=pure (ps.zip us)):Binds K fd ps []:=λs us _ hl=>by
 rw[ui9] at hl⊢;exact .of_eq (h us hl)
def GU(CX:CXT)(X:Cx)(E:XK):Prop:=∀(mi:List (mm×Obj)) (σ:St) (H:Hp) (s:mn) (e:mj) (s':mn),Inv X mi σ H s->CX X.stack H s E e s'->X.xe e s'
variable{vs:List V}
section
variable{X:Cx}{CX:CXT}{k:Nat}{f C:mm}{fd:mx}{ps:List Str}{sp:Sp}{dvs:List V}{ds:List mj}{E:XK}{x m:Str}{p pos apos:Pos}{e o:Expr}{es:List Expr}{ta:TE}{t:TA}
theorem Qn{Q:VK}(F:FnOk X.prog X.w X.K X.mg X.base CX k f fd ps sp)(hr:Room k X.A)(hb:Binds X.K fd ps ds)(hd:Vals dvs ds)(hx:GU CX X E)
 (I:Inv X mi σ H s) (r:Vals vs us) (h:sp (vs++dvs) H Q E):wpAny (model X.prog X.w) X.A (call (.ref f) us) (EP X mi σ Q) X.xe s:=by
 have r2:Vals (vs++dvs) (us++ds):=r.append hd;have hl:(us++ds).length=ps.length:=by rw[<-r2.length];exact F.len _ _ _ _ h
 refine pN (pF (F.run X.A X.stack s H ⟨us,[]⟩ (us++ds) (vs++dvs) Q E hr I.env0 (hb s us I.kIn hl) r2 h) λr s' hq=>?_)
 cases r with
 |error e=>exact hx mi σ H s e s' I hq
 |ok fl=>
   cases fl with
   |ret u=>exact I.after hq
   |next=>exact False.elim hq
   |brk=>exact False.elim hq
   |cont=>exact False.elim hq
theorem RK(F:FnOk X.prog X.w X.K X.mg X.base CX k f fd ps sp)(hr:Room k X.A)(hg:Gl X x)(hm:X.mg x=some (.ref f))(hk:PySem.W.keepIn X.K (.ref f)=true)(hb:Binds X.K fd ps ds)(hd:Vals dvs ds)(hx:GU CX X E)
 (ha:PA X (e::es) t) (hdb:autoParam ((x==("__debug__":Str))=false) q1T) (he:autoParam (starEach (e::es) X.env=(false,eval e X.env)::starEach es X.env) q3T) (hpl:autoParam ((backTo pos (starEach es X.env)).any (·.1)=false) q3T) :
 PE X (.Call (.Name x p) (e::es) [] pos) (hJ sp dvs E t):=by
 intro mi s σ H Q I h;refine PySem.wpAny_Call_Name_kw (Fk I hg hm ?_ hdb);refine PySem.W.callWith_K (h₀:=X.base) I.ok.mod.kin hk (thn (ha pos mi s σ H _ I h) λus s1 z9=>?_) he hpl;clear 5 z9 vs H1 I1 r q;refine⟨I1.kIn,?_⟩;exact Qn F hr hb hd hx I1 r q
theorem aq(he:PE X o ta)(c:Cls X.K C)(hm:Meth X.K C m f)(F:FnOk X.prog X.w X.K X.mg X.base CX k f fd ps sp)(hr:Room k X.A)(hb:Binds X.K fd ps ds)(hd:Vals dvs ds)(hx:GU CX X E)(ha:PA X (e::es) t)
 (hst:autoParam (starEach (e::es) X.env=(false,eval e X.env)::starEach es X.env) q3T) (hpl:autoParam ((backTo pos (starEach es X.env)).any (·.1)=false) q3T)
 (ht:eval (.Call (.Attribute o m apos) (e :: es) [] pos) X.env=(do
   let ov <-eval o X.env
   standAt apos.atName
   let (f,first) <-holding [ov] (getMethod ov m pl)
   callWith pos f first (backTo pos (starEach (e::es) X.env)) (backToKw pos (keywordEach [] X.env))):=by rfl) :
 PE X (.Call (.Attribute o m apos) (e::es) [] pos) (YV C m sp dvs E ta t):=by
 intro mi s σ H Q I h;refine PySem.W.methodCall_KW (pl:=pl) (thn (he mi s σ H _ I h) λu s1 z9=>?_) ht;clear 5 z9 x H1 I1 rx a dx fs ex ea l q;subst ex;obtain rfl:u=Value.ref a:=rx;refine Mm I1 ea c hm l ?_;refine PySem.W.callWith_K (first:=[.ref a]) (h₀:=X.base) I.ok.mod.kin hm.kp (thn (ha pos mi s1 σ H1 _ I1 q) λus s2 z9=>?_) hst hpl;clear 5 z9 vs H2 I2 r q2;refine⟨I2.kIn,?_⟩;exact Qn (us:=.ref a::us) (vs:=.ref a::vs) F hr hb hd hx I2 (.cons rfl r) q2
theorem Xy(he:PE X o ta)(c:Cls X.K C)(hm:Meth X.K C m f)(F:FnOk X.prog X.w X.K X.mg X.base CX k f fd ps sp)(hr:Room k X.A)(hb:Binds X.K fd ps ds)(hd:Vals dvs ds)(hx:GU CX X E)
 (ht:eval (.Call (.Attribute o m apos) [] [] pos) X.env=(do
   let ov <-eval o X.env
   standAt apos.atName
   let (f,first) <-holding [ov] (getMethod ov m pl)
   callWith pos f first (backTo pos (starEach [] X.env)) (backToKw pos (keywordEach [] X.env))):=by rfl) :
 PE X (.Call (.Attribute o m apos) [] [] pos) (YV C m sp dvs E ta fG):=by
 intro mi s σ H Q I h;refine PySem.W.methodCall_KW (pl:=pl) (thn (he mi s σ H _ I h) λu s1 z9=>?_) ht;clear 5 z9 x H1 I1 rx a dx fs ex ea l q;subst ex;obtain rfl:u=Value.ref a:=rx;refine Mm I1 ea c hm l ?_;exact PySem.W.callWith_K0 (first:=[.ref a]) I1.kIn hm.kp (Qn (us:=[.ref a]) (vs:=[.ref a]) F hr hb hd hx I1 (.cons rfl .nil) q)
structure Mk(K:mh)(C f:mm):Prop where
 makes:PySem.W.makesIn K C=true
 init:PySem.W.findIn K (.ref C) "__init__" = some (some (.ref f))
 fn:PySem.W.isFn K (.ref f)=true
 kp:PySem.W.keepIn K (.ref C)=true
theorem XR{Q:VK}(M:Mk X.K C f)(F:FnOk X.prog X.w X.K X.mg X.base CX k f fd ps sp)(hr:Room (k+1) X.A)(hb:Binds X.K fd ps ds)(hd:Vals dvs ds)
 (hx:GU CX X E) (I:Inv X mi σ H s) (r:Vals vs us)
 (h:∀x dx,H x=none->H dx=none->dx≠x->sp (.ref x::(vs++dvs)) (upd (upd H dx (.own x)) x (.ins C dx [])) (λv H2=>v=.non/\Q (.ref x) H2) E) :
 wpAny (model X.prog X.w) X.A (call (.ref C) us) (EP X mi σ Q) X.xe s:=by
 have hq:=h (s.heap.objs.size+1) s.heap.objs.size (I.hok.fresh (Nat.le_succ _)) (I.hok.fresh (un6 _)) (um5 (uh0 _));have I2:=Inv.made (C:=C) I;have r2:Vals (V.ref (s.heap.objs.size+1)::(vs++dvs)) (Value.ref (s.heap.objs.size+1)::(us++ds)):=.cons rfl (r.append hd);have hl:(Value.ref (s.heap.objs.size+1)::us++ds).length=ps.length:=by
  have e:=r2.length;rw[F.len _ _ _ _ hq] at e;exact e.symm
 refine pN (Xl (f:=f) I.kIn M.makes M.init (pM.mp M.fn) (pF (F.run _ X.stack _ _ ⟨Value.ref (s.heap.objs.size+1)::us,[]⟩ (Value.ref (s.heap.objs.size+1)::(us++ds)) _ _ E (hr.make C us [])
  (I2.env0.make C us []) (hb _ (Value.ref (s.heap.objs.size+1)::us) I2.kIn hl) r2 hq) λr s' hq'=>?_))
 cases r with
 |error e=>exact hx mi σ _ _ e s' I2 hq'
 |ok fl=>
   cases fl with
   |ret u=>
     clear 5(I2.after hq')v H' I3 rv ev q3;subst ev;exact⟨rv,⟨V.ref (s.heap.objs.size+1),H',I3,rfl,q3⟩⟩
   |next=>exact False.elim hq'
   |brk=>exact False.elim hq'
   |cont=>exact False.elim hq'
theorem ap(M:Mk X.K C f)(F:FnOk X.prog X.w X.K X.mg X.base CX k f fd ps sp)(hr:Room (k+1) X.A)(hg:Gl X x)(hm:X.mg x=some (.ref C))(hb:Binds X.K fd ps ds)(hd:Vals dvs ds)(hx:GU CX X E)
 (ha:PA X (e::es) t) (hdb:autoParam ((x==("__debug__":Str))=false) q1T) (he:autoParam (starEach (e::es) X.env=(false,eval e X.env)::starEach es X.env) q3T) (hpl:autoParam ((backTo pos (starEach es X.env)).any (·.1)=false) q3T) :
 PE X (.Call (.Name x p) (e::es) [] pos) (ib C sp dvs E t):=by
 intro mi s σ H Q I h;refine PySem.wpAny_Call_Name_kw (Fk I hg hm ?_ hdb);refine PySem.W.callWith_K (h₀:=X.base) I.ok.mod.kin M.kp (thn (ha pos mi s σ H _ I h) λus s1 z9=>?_) he hpl;clear 5 z9 vs H1 I1 r q;refine⟨I1.kIn,?_⟩;exact XR M F hr hb hd hx I1 r q
end
section
variable{X:Cx}{CX:CXT}{k:Nat}{f C:mm}{fd:mx}{ps ks:List Str}{sp:Sp}{E:XK}{x m:Str}{p pos apos kpos:Pos}{e o:Expr}{es:List Expr}{kws:List Keyword}{te ta:TE}{t tk:TA}{nm:Option Str}
structure KBinds(K:mh)(fd:mx)(ps ks:List Str)(g:List mj->List mj->List mj)(gV:List V->List V->List V):Prop where
 to:∀(s:mn) (us ws:List mj),K.In s.heap->(g us ws).length=ps.length->BindsTo s fd ⟨us,ks.zip ws⟩ (ps.zip (g us ws))
 rel:∀{vs:List V}{us:List mj}{zs:List V}{ws:List mj},Vals vs us->Vals zs ws->Vals (gV vs zs) (g us ws)
variable{g:List mj->List mj->List mj}{gV:List V->List V->List V}
end
structure FnScope(N P:List Str)(sc:Scope):Prop where
 kind:sc.kind=.function
 co:sc.isCoroutine=false
 gen:sc.isGenerator=false
 nd:N.Nodup
 pre:N.take P.length=P
 par:∀x∈P,sc.names.lookup x=some .local\/sc.names.lookup x=some .cell
 nofree:∀y∈sc.names,y.2≠.free
theorem NR{kindOf:Str->Option NameKind}{x:Str}:∀{binds:List (Str×mj)}{m:Str->Option mj},(∀v,(x,v)∉binds)->bindL kindOf binds m x=m x
 |[],_,_=>rfl
 |(n,v)::r,m,h=>by
   unfold bindL;rw[NR λw hw=>h w (ud1 _ hw)]
   split
   .have:x≠n:=by rintro rfl;exact h v ue6
    simp[this]
   .rfl
theorem NP{kindOf:Str->Option NameKind}{x:Str}:∀{binds:List (Str×mj)}{m:Str->Option mj},(∀v,(x,v)∉binds)->bindC kindOf binds m x=m x
 |[],_,_=>rfl
 |(n,v)::r,m,h=>by
   unfold bindC;rw[NP λw hw=>h w (ud1 _ hw)]
   split
   .rfl
   .have:x≠n:=by rintro rfl;exact h v ue6
    simp[this]
theorem NQ{kindOf:Str->Option NameKind}{x:Str}{v:mj}:∀{P:List Str}{vs:List mj}{i:Nat}{m:Str->Option mj},P.Nodup->P[i]?=some x->vs[i]?=some v->kindOf x=some .local->
 bindL kindOf (P.zip vs) m x=some v
 |[],_,_,_,_,h,_,_=>by simp at h
 |_::_,[],_,_,_,_,h,_=>by simp at h
 |p::P,w::vs,0,m,nd,h1,h2,hk=>by
   simp at h1 h2;subst h1;subst h2;show bindL kindOf ((p,w)::P.zip vs) m p=_;unfold bindL;rw[NR λv hv=>(List.nodup_cons.mp nd).1 (List.of_mem_zip hv).1,pW hk];simp
 |p::P,w::vs,i+1,m,nd,h1,h2,hk=>by
   show bindL kindOf ((p,w)::P.zip vs) m x=_;unfold bindL;exact NQ (i:=i) (List.nodup_cons.mp nd).2 (by simpa using h1) (by simpa using h2) hk
theorem NO{kindOf:Str->Option NameKind}{x:Str}{v:mj}:∀{P:List Str}{vs:List mj}{i:Nat}{m:Str->Option mj},P.Nodup->P[i]?=some x->vs[i]?=some v->kindOf x≠some .local->
 bindC kindOf (P.zip vs) m x=some v
 |[],_,_,_,_,h,_,_=>by simp at h
 |_::_,[],_,_,_,_,h,_=>by simp at h
 |p::P,w::vs,0,m,nd,h1,h2,hk=>by
   simp at h1 h2;subst h1;subst h2;show bindC kindOf ((p,w)::P.zip vs) m p=_;unfold bindC;rw[NP λv hv=>(List.nodup_cons.mp nd).1 (List.of_mem_zip hv).1,pX hk];simp
 |p::P,w::vs,i+1,m,nd,h1,h2,hk=>by
   show bindC kindOf ((p,w)::P.zip vs) m x=_;unfold bindC;exact NO (i:=i) (List.nodup_cons.mp nd).2 (by simpa using h1) (by simpa using h2) hk
noncomputable def EX(N:List Str)(vs:List V):St:=vs.map some++List.replicate (N.length-vs.length) none
noncomputable def FO(CX:CXT)(P:mq)(w:mw)(K:mh)(mg:Str->Option mj)(base:Heap)(N:List Str)(qual:Str)(scope:Scope)(f:mm)(cd:mj)(A:Around)(outer:List Env)(s:mn)(H:Hp)(E:XK):Cx where
 prog:=P
 w:=w
 K:=K
 mg:=mg
 base:=base
 A:=A.deeper (envOfC qual scope s.heap.objs.size f cd)
 N:=N
 s₀:=s
 H₀:=H
 env:=envOfC qual scope s.heap.objs.size f cd
 outer:=outer
 stack:=envOfC qual scope s.heap.objs.size f cd::outer
 ex:=[]
 calm:=true
 fn:=λ_=>true
 pn:=[]
 xe:=λe s'=>wpAny (model P w) (A.deeper (envOfC qual scope s.heap.objs.size f cd)) (leaving (envOfC qual scope s.heap.objs.size f cd) e) (λ_ s''=>CX outer H s E e s'') (λe' s''=>CX outer H s E e' s'') s'
theorem O2{sc:Scope}{n:Nat}{x:Str}(h:sc.names.lookup x=some .cell):∃c,(cellsFrom n sc.names []).lookup x=some c:=by
 have q:=nw sc.names n [] (.inl h);exact Option.isSome_iff_exists.mp q
theorem UK{CX:CXT}{N ps:List Str}{qual:Str}{scope:Scope}{f:mm}{cd:mj}{A:Around}{outer:List Env}{s1:mn}{E:XK}
 (S:FnScope N ps scope) (hd:A.handled=none) (e0:Env0 P w K mg base A outer s H) (hl:vs.length=ps.length) (r:Vals vs us)
 (x:InCallC s s.heap.objs.size (bindL (envOfC qual scope s.heap.objs.size f cd).kindOf (ps.zip us) λ_=>none) (cellsFrom (s.heap.objs.size+1) scope.names []) (bindC (envOfC qual scope s.heap.objs.size f cd).kindOf (ps.zip us) λ_=>none) s1) :
 Inv (FO CX P w K mg base N qual scope f cd A outer s H E) [] (EX N vs) H s1:=by
 have hpl:ps.length<=N.length:=by have:=pQ List.length S.pre;rw[uh1] at this;lia
 clear 5 x.done h1 tk rfl hk;have noA:∀b:mm,b∉(FO CX P w K mg base N qual scope f cd A outer s H E).ex:=λb z=>absurd (show b∈([]:List mm) from z) (by simp);refine⟨⟨e0.mod,S.kind,rfl,rfl,un6 _,λy z c h1 h2=>?_,λy hy=>?_,λy c _ h=>?_,λ_=>hd,Around.frames_deeper e0.frames,.inr ⟨rfl,rfl⟩,λb z=>absurd z (noA b),e0.bs,e0.bsz,λb _ _=>noA b,λb z=>absurd z (noA b),e0.funs,e0.frf⟩,
  rfl,e0.bare,Un.kept hk,⟨_,x.toInCall.ns,λi y v h1 h2 h3=>?_⟩,λy c h=>⟨_,x.cell y c h⟩,e0.hok.fresh (un6 _),λy c h=>?_,λp hp=>absurd (show p∈([]:List (mm×Obj)) from hp) (by simp),e0.hok.kept hk,?_⟩
 .exact name_of_addr x.apart (PySem.mem_of_lookup h1) (PySem.mem_of_lookup h2)
 .have hy:scope.names.lookup y=some .cell\/scope.names.lookup y=some .free:=hy;rcases hy with hy|hy
  .exact O2 hy
  .exact absurd rfl (S.nofree _ (PySem.mem_of_lookup hy))
 .exact Nat.le_of_lt (x.above y c (PySem.mem_of_lookup h))
 .have hi:i<vs.length:=by
   unfold EX at h2
   by_cases hi:i<vs.length
   .exact hi
   .rw[ua4 (by simpa using hi)] at h2;rw[List.getElem?_replicate] at h2
    split at h2<;>cases h2
  have ha:vs[i]?=some v:=by
   unfold EX at h2;rw[ua8 (by simpa using hi),uf7] at h2
   cases e:vs[i]? with
   |none=>rw[e] at h2;cases h2
   |some a=>rw[e] at h2;cases h2;rfl
  clear 5(r.get ha)u hu rv;have hp:ps[i]?=some y:=by
   rw[<-S.pre,List.getElem?_take_of_lt ∅];exact h1
  have ndP:ps.Nodup:=by rw[<-S.pre];exact S.nd.sublist (List.take_sublist _ _)
  refine⟨u,rv,?_⟩;rcases S.par y (ud4 hp) with k|k
  .exact .inl ⟨k,NQ ndP hp hu k⟩
  .clear 5(O2 (n:=s.heap.objs.size+1) k)c e;refine .inr ⟨.inl k,c,e,?_⟩;have q:=x.cell y c e;rw[NO ndP hp hu (by show scope.names.lookup y≠_;rw[k];decide)] at q;exact q
 .exact e0.hok.fresh (Nat.le_of_lt (x.above y c (PySem.mem_of_lookup h)))
 .unfold EX;show _=N.length;rw[ue9,ui7,uc5];lia
theorem YB{CX:CXT}{k:Nat}{f:mm}{name qual:Str}{params:Arguments}{body:List Stmt}{scope:Scope}{dV kV doc pm cdv ct oc:mj}{an od:Option mm}
 {osl:Array (Option mj)}{N ps:List Str}{sp:Sp} (lk:K.lookup f=some ⟨oc,od,.func (PySem.W.fnOf name qual params body scope dV kV doc pm an cdv ct),osl⟩) (hcd:codeIn K cdv qual=true) (S:FnScope N ps scope)
 (len:∀vs H Q E,sp vs H Q E->vs.length=ps.length)
 (hbody:∀(A:Around) (outer:List Env) (s:mn) (H:Hp) (vs:List V) (Q:VK) (E:XK),Room k (A.deeper (envOfC qual scope s.heap.objs.size f cdv))->sp vs H Q E->
   ∃t,PSs (FO CX P w K mg base N qual scope f cdv A outer s H E) body t/\t {nx:=λ_ H'=>Q .non H',rt:=Q} (EX N vs) H) :
 FnOk P w K mg base CX (k+1) f (PySem.W.fnOf name qual params body scope dV kV doc pm an cdv ct) ps sp:=by
 refine⟨len,λA outer s H args us vs Q E hr e0 hb r hsp=>?_⟩;have hl:=len _ _ _ _ hsp;have KX:K.In s.heap:=e0.mod.kin.keeps λb o e=>(e0.bs b o e).1;have lim:s.heap.NoLimit:=e0.mod.nolimit.keeps λb o e=>(e0.bs b o e).1;have hkind:∀y∈ps.zip us,scope.names.lookup y.1=some .local\/(scope.names.lookup y.1=some .cell/\((cellsFrom (s.heap.objs.size+1) scope.names []).lookup y.1).isSome=true):=λz9 hy=>by
  clear 5 z9 n v;rcases S.par n (List.of_mem_zip hy).1 with q|q
  .exact .inl q
  .exact .inr ⟨q,nw _ _ _ (.inl q)⟩
 refine codeAny_call_function hr.depth (KX _ _ lk) rfl S.co S.gen rfl (PySem.W.codeRec_of KX hcd) (hb _ _ _ _ ?_);refine wpAny_newFunctionEnv_cells S.kind hkind λenv he s1 x=>?_;subst he;refine⟨lim.keeps x.toInCall.keep,codeAny_func ?_⟩;clear 5(hbody A outer s H vs Q E (hr.deeper _) hsp)t ht hq;have I:Inv (FO CX P w K mg base N qual scope f cdv A outer s H E) [] (EX N vs) H s1:=UK S hr.hd e0 hl r x;refine uo2 (ht [] s1 (EX N vs) H _ I hq) (λfl s' hs=>?_) λe s' hs=>hs;have fin:∀{σ':St}{H':Hp}{v:V}{u:mj},Inv (FO CX P w K mg base N qual scope f cdv A outer s H E) [] σ' H' s'->RelV v u->Q v H'->CE outer P w H s Q u s':=
  λ{σ' H' v u} J rv q=>⟨v,H',J.os,J.bare,J.base,J.hok,rv,q⟩
 cases fl with
 |ret u=>
   clear 5 hs v σ' H' J rv q;exact fin J rv q
 |next=>
   clear 5 hs σ' H' J q;exact fin (v:=V.non) (u:=Value.none) J rfl q
 |brk=>
   obtain⟨_,_,_,q⟩:=hs;exact False.elim q
 |cont=>
   obtain⟨_,_,_,q⟩:=hs;exact False.elim q
section
variable{X:Cx}{x:Str}{p pos:Pos}{e:Expr}{es:List Expr}{t:TA}{id T:String}{r:List V->Hp->VK->Prop}
def tCB(r:List V->Hp->VK->Prop)(t:TA):TE:=λσ H Q=>t σ H λvs H1=>r vs H1 Q
theorem P9(hc:CQ X (.builtin id) r)(hg:Gl X x)(hm:X.mg x=none)(hv:bootBuiltins x=some (.builtin id))(ha:PA X (e::es) t)(hn:autoParam (x≠"__name__") q1T)(hdb:autoParam ((x==("__debug__":Str))=false) q1T)
 (he:autoParam (starEach (e::es) X.env=(false,eval e X.env)::starEach es X.env) q3T) (hpl:autoParam ((backTo pos (starEach es X.env)).any (·.1)=false) q3T):PE X (.Call (.Name x p) (e::es) [] pos) (tCB r t):=by
 intro mi s σ H Q I h;refine PySem.wpAny_Call_Name_kw (Ix I hg hm hv ?_ hn hdb);exact PyProof.Rows.callWith_builtin1 (thn (ha pos mi s σ H _ I h) λus s1 z9=>by clear 5 z9 vs H1 I1 r1 q1;exact hc mi s1 σ H1 vs us Q I1 r1 q1) he hpl
theorem Ka(hc:CQ X (.type T) r)(hg:Gl X x)(hm:X.mg x=none)(hv:bootBuiltins x=some (.type T))(ha:PA X (e::es) t)(hn:autoParam (x≠"__name__") q1T)(hdb:autoParam ((x==("__debug__":Str))=false) q1T)
 (he:autoParam (starEach (e::es) X.env=(false,eval e X.env)::starEach es X.env) q3T) (hpl:autoParam ((backTo pos (starEach es X.env)).any (·.1)=false) q3T):PE X (.Call (.Name x p) (e::es) [] pos) (tCB r t):=by
 intro mi s σ H Q I h;refine PySem.wpAny_Call_Name_kw (Ix I hg hm hv ?_ hn hdb);exact PyProof.Rows.callWith_type1 (thn (ha pos mi s σ H _ I h) λus s1 z9=>by clear 5 z9 vs H1 I1 r1 q1;exact hc mi s1 σ H1 vs us Q I1 r1 q1) he hpl
end
end
end L2
namespace HT
open PySem PyProof.Rows
section
open PySem.SeqAt
open PySem.AutoSeq1 (wpAny_loadPart')
open PySem.MeetsSeq PySem.MeetsSeq2 PySem.MeetsSeq3
end
section
variable{prog:mq}{w:mw}{A:Around}{E:mj->mn->Prop}{s:mn}
noncomputable def sIx(n d:Nat):Option Int->Nat
 |none=>d
 |some v=>if v<0 then(v+(n:Int)).toNat else min v.toNat n
theorem Qp(n d:Nat):sIx n d none=d:=rfl
theorem RZ(n d k:Nat):sIx n d (some (k:Int))=min k n:=by
 show(if (k:Int)<0 then((k:Int)+(n:Int)).toNat else min (k:Int).toNat n)=min k n;rw[pX ∅,uf8]
theorem ff(n d:Nat)(hd:d<=n)(o:Option Int):sIx n d o<=n:=by
 cases o with
 |none=>exact hd
 |some v=>
   show(if v<0 then(v+(n:Int)).toNat else min v.toNat n)<=n
   by_cases hv:v<0
   .rw[pW hv];lia
   .rw[pX hv];exact Nat.min_le_right _ _
theorem QX(v:Int)(n d:Nat):(if v<0 then max (v+(n:Int)) 0 else min v (n:Int))=((sIx n d (some v):Nat):Int):=by
 show(if v<0 then max (v+(n:Int)) 0 else min v (n:Int))=(((if v<0 then(v+(n:Int)).toNat else min v.toNat n):Nat):Int)
 by_cases hv:v<0
 .simp only[pW hv];lia
 .simp only[pX hv];lia
theorem Sv(lo hi:Option Int)(n:Nat):Builtin.Slice.sliceAdjust lo hi 1 (n:Int)=(((sIx n 0 lo:Nat):Int),((sIx n n hi:Nat):Int)):=by
 have h1:¬((1:Int)<0):=by lia
 unfold Builtin.Slice.sliceAdjust;simp only[h1,pR];refine Prod.ext ?_ ?_
 .cases lo with
  |none=>rfl
  |some v=>exact QX v n 0
 .cases hi with
  |none=>rfl
  |some v=>exact QX v n n
theorem Ti(i j:Nat):Builtin.Slice.slicePlaces (i:Int) (j:Int) 1=j-i:=by
 unfold Builtin.Slice.slicePlaces;have h1:(1:Int) > 0:=by lia
 simp only[h1,pU,Int.ediv_one]
 split<;>lia
theorem MD{v:mj}{o:Option Int}{Q:Option Int->mn->Prop}(p:IsPart v o)(h:Q o s):wpAny (model prog w) A (Builtin.Slice.slicePartIndex v) Q E s:=by
 cases p with
 |none=>exact slicePart_none h
 |int i t=>exact slicePart_int h
theorem Hz{sl:mm}{vl vu:mj}{lo hi:Option Int}{n:Nat}{Q:Int×Int×Nat->mn->Prop}(hs:s.heap.IsSliceOf sl vl vu .none)(pl:IsPart vl lo)(pu:IsPart vu hi)
 (h:Q (((sIx n 0 lo:Nat):Int),1,sIx n n hi-sIx n 0 lo) s):wpAny (model prog w) A (Builtin.Slice.sliceApplied (.ref sl) (pure (n:Int))) Q E s:=by
 clear 5(id hs)os hos hcs hds;unfold Builtin.Slice.sliceApplied Builtin.Slice.sliceFields;refine uo0 (uo0 (PySem.wpAny_field hos hds (x:=vl) rfl (uo0 (PySem.wpAny_field hos hds (x:=vu) rfl (uo0 (PySem.wpAny_field hos hds (x:=.none) rfl (uo1 ?_)))))));refine uo0 (slicePart_none ?_);show wpAny _ _ (if ((1:Int)==0)=true then _ else _) _ _ s;rw[pX (by decide)];refine uo0 (MD pl (uo0 (MD pu (uo0 (uo1 ?_)))));show wpAny _ _ (match Builtin.Slice.sliceAdjust lo hi 1 (n:Int) with|(lo,hi)=>pure (lo,(1:Int),Builtin.Slice.slicePlaces lo hi 1)) _ _ s;rw[Sv lo hi n];show wpAny _ _ (pure (((sIx n 0 lo:Nat):Int),(1:Int),Builtin.Slice.slicePlaces ((sIx n 0 lo:Nat):Int) ((sIx n n hi:Nat):Int) 1)) _ _ s;rw[Ti];exact uo1 h
theorem XA(xs:Array mj)(i k:Nat):((List.range k).filterMap λ(m:Nat)=>xs[((i:Int)+(m:Int)*1).toNat]?).toArray=((xs.toList.drop i).take k).toArray:=by
 have e:(λ(m:Nat)=>xs[((i:Int)+(m:Int)*1).toNat]?)=λm=>xs[i+m]?:=by
  funext m
  have:((i:Int)+(m:Int)*1).toNat=i+m:=by lia
  rw[this]
 rw[e];have:=pick_run xs i k;rw[List.filterMap_map] at this;have e2:((λx=>xs[x]?) ∘ λx=>i+x)=λm=>xs[i+m]?:=rfl;rw[e2] at this;rw[this]
theorem KW{t sl:mm}{items:Array mj}{vl vu:mj}{lo hi:Option Int}{Q:mj->mn->Prop}(ht:IsTup s.heap t items)(hs:s.heap.IsSliceOf sl vl vu .none)(pl:IsPart vl lo)(pu:IsPart vu hi)
 (hw:¬(sIx items.size 0 lo=0/\sIx items.size items.size hi=items.size))
 (h:Q (.ref s.heap.objs.size) {s with heap:=s.heap.push {cls:=.type "tuple",data:=.seq ((items.toList.drop (sIx items.size 0 lo)).take (sIx items.size items.size hi-sIx items.size 0 lo)).toArray} })
 (hsz:items.size<=sizeLine):wpAny (model prog w) A (getItem (.ref t) (.ref sl)) Q E s:=by
 have htake:sizeOk (.seq ((items.toList.drop (sIx items.size 0 lo)).take (sIx items.size items.size hi-sIx items.size 0 lo)).toArray):=by
  show((items.toList.drop (sIx items.size 0 lo)).take (sIx items.size items.size hi-sIx items.size 0 lo)).toArray.size<=sizeLine;rw[uf6,uh1,uh2,Array.length_toList];lia
 have hj:sIx items.size items.size hi<=items.size:=ff _ _ (un6 _) hi;clear 5(id hs)os hos hcs hds;have hTs:s.TypeIs (.ref sl) "slice":=⟨os,hos,hcs⟩;unfold getItem
 try with_reducible refine um3 ?_
 first|refine uo0 (uo1 ?_)|skip
 refine uo0 (wpAny_sequenceKey ht.typeIs (by decide) ?_);refine uo0 (wpAny_callSpecial?_slot (name:=Str.ofString "__getitem__") ht.typeIs PyProof.Rows.slot_tuple_getitem
  (PySem.wpAny_call_entry PyProof.Rows.slot_tuple_getitem ht.typeIs entry_tuple_getitem ?_ (args_tuple_getitem _ _)))
 show wpAny _ _ (Builtin.Tuple.tupleItemsOf (.ref t) >>= _) _ _ s;refine uo0 (tupleItemsOf_ ht ?_);refine uo0 (wpAny_typeOf hTs ?_);rw[pW (by decide)];refine uo0 (Hz hs pl pu ?_);have hno:¬((((sIx items.size 0 lo:Nat):Int)==0&&(1:Int)==1&&(sIx items.size items.size hi-sIx items.size 0 lo)==items.size)=true):=by
  intro q;rw[uh3,uh3] at q;have q1:((sIx items.size 0 lo:Nat):Int)=0:=eq_of_beq q.1.1;have q2:sIx items.size items.size hi-sIx items.size 0 lo=items.size:=eq_of_beq q.2;exact hw ⟨by lia,by lia⟩
 show wpAny _ _ (if (((sIx items.size 0 lo:Nat):Int)==0&&(1:Int)==1&&(sIx items.size items.size hi-sIx items.size 0 lo)==items.size)=true then _ else _) _ _ s;rw[pX hno,XA]
 first
  |exact uo0 (m:=Builtin.Tuple.tupleExact _) (PySem.wpAny_newObj_type (uo1 ⟨_,rfl,uo1 h⟩) htake)
  |exact uo0 (m:=Builtin.Tuple.tupleExact _) (PySem.wpAny_newObj_type (uo0 (uo1 (uo1 ⟨_,rfl,uo1 h⟩))) htake)
  |exact uo0 (uo0 (m:=Builtin.Tuple.tupleExact _) (PySem.wpAny_newObj_type (uo1 (uo1 ⟨_,rfl,uo1 h⟩)) htake))
  |exact uo0 (uo0 (m:=Builtin.Tuple.tupleExact _) (PySem.wpAny_newObj_type (uo1 ⟨_,rfl,uo1 h⟩) htake))
end
end HT
namespace L2
open PySem PySem.Spec PyProof.Rows
abbrev TO:=St->Hp->(Option Int->Hp->Prop)->Prop
def PO(X:Cx)(e:Option Expr)(t:TO):Prop:=
 ∀(mi:List (mm×Obj)) (s:mn) (σ:St) (H:Hp) (Q:Option Int->Hp->Prop),Inv X mi σ H s->t σ H Q->
  wpAny (model X.prog X.w) X.A (evalPart e X.env) (λu s'=>∃o H',Inv X mi σ H' s'/\IsPart u o/\Q o H') X.xe s
def bE:TO:=λ_ H Q=>Q none H
def ie(t:TE):TO:=λσ H Q=>t σ H λx H1=>∃i,x=.int i/\Q (some i) H1
section
variable{X:Cx}{e:Expr}{te:TE}{lo hi:Option Expr}{tl th:TO}{pos p2:Pos}
theorem aA:PO X none bE:=by
 intro mi s σ H Q I h;rw[evalPart_none];exact uo1 ⟨none,H,I,.none,h⟩
theorem aB(h:PE X e te):PO X (some e) (ie te):=by
 intro mi s σ H Q I hw;rw[evalPart_some];refine thn (h mi s σ H _ I hw) λu s1 z9=>?_;clear 5 z9 x H1 I1 r1 q1;clear 5 q1 i rfl q;clear 5 r1 t rfl;exact⟨some i,H1,I1,.int i t,q⟩
def SlR(X:Cx)(r:V->Option Int->Option Int->Hp->VK->Prop):Prop:=
 ∀(mi:List (mm×Obj)) (s:mn) (σ:St) (H:Hp) (x:V) (v vl vu:mj) (lo hi:Option Int) (sl:mm) (Q:VK),Inv X mi σ H s->RelV x v->s.heap.IsSliceOf sl vl vu .none->IsPart vl lo->IsPart vu hi->r x lo hi H Q->
  ∃T id,typeLookup (.type T) "__getitem__" = pure (some (.builtin id))/\s.TypeIs v T/\wpAny (model X.prog X.w) X.A (getItem v (.ref sl)) (EP X mi σ Q) X.xe s
theorem SlR.or{r r':V->Option Int->Option Int->Hp->VK->Prop}(h:SlR X r)(h':SlR X r'):SlR X (λx lo hi H Q=>r x lo hi H Q\/r' x lo hi H Q):=by
 intro mi s σ H x v vl vu lo hi sl Q I rx hs pl pu q;rcases q with q|q
 .exact h mi s σ H x v vl vu lo hi sl Q I rx hs pl pu q
 .exact h' mi s σ H x v vl vu lo hi sl Q I rx hs pl pu q
def tSl(r:V->Option Int->Option Int->Hp->VK->Prop)(te:TE)(tl th:TO):TE:=λσ H Q=>te σ H λx H1=>tl σ H1 λl H2=>th σ H2 λu H3=>r x l u H3 Q
theorem Qa{r:V->Option Int->Option Int->Hp->VK->Prop}(hr:SlR X r)(he:PE X e te)(hl:PO X lo tl)(hu:PO X hi th):PE X (.Subscript e (.Slice lo hi none p2) pos) (tSl r te tl th):=by
 intro mi s σ H Q I h;refine Subscript_ (thn (he mi s σ H _ I h) λv s1 z9=>?_);clear 5 z9 x H1 I1 r1 q1;refine wpAny_Slice (thn (hl mi s1 σ H1 _ I1 q1) λvl s2 ⟨l,H2,I2,pl,q2⟩=>thn (hu mi s2 σ H2 _ I2 q2) λvu s3 z9=>?_);clear 5 z9 u H3 I3 pu q3;rw[evalPart_none];refine uo1 ?_;have I4:Inv X mi σ H3 {s3 with heap:=s3.heap.push {cls:=.type "slice",data:=.fields #[vl,vu,.none]} }:=I3.kept (t':=s3.toks) λb ob q=>ub7 _ q;clear 5(hr mi {s3 with heap:=s3.heap.push {cls:=.type "slice",data:=.fields #[vl,vu,.none]} } σ H3 x v vl vu l u s3.heap.objs.size Q I4 r1 (Heap.IsSliceOf.new ..) pl pu q3)T id hT ht hg;show wpAny (model X.prog X.w) X.A (subscriptTail e (.Slice lo hi none p2) v (.ref s3.heap.objs.size)) (EP X mi σ Q) X.xe {s3 with heap:=s3.heap.push {cls:=.type "slice",data:=.fields #[vl,vu,.none]} };exact tail_any (ops:=[.ref s3.heap.objs.size,v]) ht hT hg (by with_unfolding_all rfl)
def IS(xs:List V)(lo hi:Option Int):List V:=(xs.drop (HT.sIx xs.length 0 lo)).take (HT.sIx xs.length xs.length hi-HT.sIx xs.length 0 lo)
theorem KZ(xs:List V)(lo hi:Option Int):(IS xs lo hi).length<=xs.length:=by
 unfold IS;rw[uh1,uh2];lia
def eZ(K:mh):V->Option Int->Option Int->Hp->VK->Prop:=λx lo hi H Q=>∃a xs,x=.ref a/\SqT K H a xs/\
 ¬(HT.sIx xs.length 0 lo=0/\HT.sIx xs.length xs.length hi=xs.length)/\∀p,H p=none->Q (.ref p) (upd H p (.tup (IS xs lo hi)))
theorem ft:SlR X (eZ X.K):=by
 intro mi s σ H x v vl vu lo hi sl Q I rx hs pl pu h;clear 5 h a xs rfl hx hw q
 cases rx
 clear 5(I.tuple hx)its r ht hz;have hlen:its.toArray.size=xs.length:=by rw[uf6];exact r.length.symm
 refine⟨"tuple",_,PyProof.Rows.slot_tuple_getitem.lookup,ht.typeIs,?_⟩;refine HT.KW ht hs pl pu (by rw[hlen];exact hw) ?_ (by rw[hlen];exact hz);rw[hlen];refine⟨.ref s.heap.objs.size,_,I.laid (t':=s.toks) (o:=.tup (IS xs lo hi)) (λb ob q=>ub7 _ q) (un6 _) ?_,rfl,q _ (I.hok.fresh (un6 _))⟩;exact⟨um6 (KZ xs lo hi) hz,_,(r.drop (HT.sIx xs.length 0 lo)).take (HT.sIx xs.length xs.length hi-HT.sIx xs.length 0 lo),IsTup.new _ _⟩
end
noncomputable def ixN(n:Nat)(i:Int):Option Nat:=if 0<=i then(if i<n then some i.toNat else none) else if -(n:Int)<=i then some (i+n).toNat else none
def atI{α:Type}(xs:List α)(i:Int):Option α:=(ixN xs.length i).bind λj=>xs[j]?
theorem ZV{n:Nat}{i:Int}{j:Nat}(h:ixN n i=some j):seqIndex? i n=some j/\j<n/\-(n:Int)<=i/\i<n:=by
 unfold ixN at h
 by_cases h0:0<=i
 .rw[pW h0] at h
  by_cases h1:i<n
  .rw[pW h1] at h;have e:i.toNat=j:=Option.some.inj h;exact⟨by rw[seqIndex_of h0 h1,e],by lia,by lia,h1⟩
  .rw[pX h1] at h;cases h
 .rw[pX h0] at h
  by_cases h1 : -(n:Int)<=i
  .rw[pW h1] at h;have e:(i+n).toNat=j:=Option.some.inj h;exact⟨by rw[seqIndex_neg ∅ h1,e],by lia,h1,by lia⟩
  .rw[pX h1] at h;cases h
theorem MY{α:Type}{xs:List α}{i:Int}{v:α}(h:atI xs i=some v):∃j,seqIndex? i xs.length=some j/\xs[j]?=some v/\j<xs.length/\-(xs.length:Int)<=i/\i<xs.length:=by
 unfold atI at h
 cases e:ixN xs.length i with
 |none=>rw[e] at h;cases h
 |some j=>
   rw[e] at h;clear 5(ZV e)h1 h2 h3 h4;exact⟨j,h1,h,h2,h3,h4⟩
theorem Ku{α:Type}{xs:List α}{j:Nat}{v:α}(h:xs[j]?=some v):atI xs (j:Int)=some v:=by
 have hj:j<xs.length:=(ua7.mp h).1;have e:ixN xs.length (j:Int)=some j:=by
  unfold ixN;rw[pW ∅,pW ∅];simp
 unfold atI;rw[e];exact h
def MR(b:Expr):Prop:=∀o i,subscripted b false o i=operate [o,i] (getItem o i)
def IxR(X:Cx)(r:R2):Prop:=
 ∀(value slice:Expr) (mi:List (mm×Obj)) (s:mn) (σ:St) (H:Hp) (x y:V) (v u:mj) (Q:VK),Inv X mi σ H s->RelV x v->RelV y u->r x y H Q->
  subscripted slice false v u=operate [v,u] (getItem v u)->wpAny (model X.prog X.w) X.A (subscriptTail value slice v u) (EP X mi σ Q) X.xe s
def MtR(X:Cx)(id:String)(r:V->List V->Hp->VK->Prop):Prop:=
 ∀(mi:List (mm×Obj)) (s:mn) (σ:St) (H:Hp) (x:V) (xs:List V) (v:mj) (us:List mj) (Q:VK),Inv X mi σ H s->RelV x v->Vals xs us->r x xs H Q->
  wpAny (model X.prog X.w) X.A (call (.builtin id) (v::us)) (EP X mi σ Q) X.xe s
section
variable{X:Cx}{a b:Expr}{ta tb:TE}{pos:Pos}
theorem IxR.or{r r':R2}(h:IxR X r)(h':IxR X r'):IxR X (λx y H Q=>r x y H Q\/r' x y H Q):=by
 intro value slice mi s σ H x y v u Q I rx ry q hs;rcases q with q|q
 .exact h value slice mi s σ H x y v u Q I rx ry q hs
 .exact h' value slice mi s σ H x y v u Q I rx ry q hs
theorem YJ{r:R2}(hr:IxR X r)(ha:PE X a ta)(hb:PE X b tb)(hs:MR b):PE X (.Subscript a b pos) (tOp r ta tb):=by
 intro mi s σ H Q I h;exact Subscript_ (Wt ha hb I h λv u s2 x y H2 I2 rx ry q=>hr a b mi s2 σ H2 x y v u Q I2 rx ry q (hs _ _))
def eT(K:mh):R2:=λx y H Q=>∃p xs i v,x=.ref p/\y=.int i/\SqL K H p xs/\atI xs i=some v/\Q v H
def eV(K:mh):R2:=λx y H Q=>∃p xs i v,x=.ref p/\y=.int i/\SqT K H p xs/\atI xs i=some v/\Q v H
def eU:R2:=λx y H Q=>∃z i c,x=.str z/\y=.int i/\z.length<=sizeLine/\atI z.cps.toList i=some c/\Q (.str ⟨#[c]⟩) H
theorem ix_list:IxR X (eT X.K):=by
 intro value slice mi s σ H x y v u Q I rx ry h hs;clear 5 h p xs i z rfl rfl hq he q
 cases rx
 clear 5 ry t rfl;clear 5(I.list hq)its r pl hz;clear 5(MY he)j h1 h2 h3 h4 h5;clear 5(r.get h2)w ew rw';have hl:=r.length;have hn:=Mq;have fin:EP X mi σ Q w s:=⟨z,H,I,rw',q⟩
 by_cases h0:0<=i
 .have hj:i.toNat=j:=by
   rw[seqIndex_of h0 h5] at h1;exact Option.some.inj h1
  exact item_listR pl.isList h0 ∅ (by rw[hj];simpa using ew) fin hs
 .have hj:(i+(its.toArray.size:Int)).toNat=j:=by
   rw[seqIndex_neg ∅ h4] at h1;rw[uf6,<-hl];exact Option.some.inj h1
  exact subscriptTail_builtinR (x:=w) pl.isList.typeIs slot_list_getitem.lookup
   (wpAny_getItem_list_neg (Q:=λr s'=>r=w/\EP X mi σ Q r s') pl.isList ∅ (by rw[uf6]<;>lia) ∅ (by rw[hj];simpa using ew) ⟨rfl,fin⟩) hs
theorem ix_tup:IxR X (eV X.K):=by
 intro value slice mi s σ H x y v u Q I rx ry h hs;clear 5 h p xs i z rfl rfl hq he q
 cases rx
 clear 5 ry t rfl;clear 5(I.tuple hq)its r pl hz;clear 5(MY he)j h1 h2 h3 h4 h5;clear 5(r.get h2)w ew rw';have hl:=r.length;have hn:=Mq;have fin:EP X mi σ Q w s:=⟨z,H,I,rw',q⟩;exact subscriptTail_builtinR (x:=w) pl.typeIs slot_tuple_getitem.lookup
  (getItem_tuple (j:=j) (Q:=λr s'=>r=w/\EP X mi σ Q r s') pl ∅ ∅ (by rw[uf6,<-hl];exact h1) (by simpa using ew) ⟨rfl,fin⟩) hs
theorem dk:IxR X eU:=by
 intro value slice mi s σ H x y v u Q I rx ry h hs;clear 5 h z i c rfl rfl hz he q;clear 5 rx t rfl;clear 5 ry t' rfl;clear 5(MY he)j h1 h2 h3 h4 h5;have hl:z.cps.toList.length=z.length:=by simp[Str.length]
 rw[hl] at h1 h4 h5;have hn:=Mq;exact tail_any (typeIs_str s z t) slot_str_getitem.lookup (getItem_str (c:=c) (by
  have e1:decide (i < -(2 ^ 63:Int))=false:=uk3 ∅;have e2:decide (i ≥ 2 ^ 63)=false:=uk3 ∅;rw[e1,e2,ul3]) (by rw[h1];simpa using h2) ⟨.str ⟨#[c]⟩,H,I.tok _,⟨_,rfl⟩,q⟩) hs
def rIx(K:mh):R2:=λx y H Q=>eT K x y H Q\/eV K x y H Q\/eU x y H Q
theorem UQ:IxR X (rIx X.K):=ix_list.or (ix_tup.or dk)
theorem Qv(lo hi:Option Int)(n:Nat):(sliceBounds lo hi none n).1=((HT.sIx n 0 lo:Nat):Int)/\(sliceBounds lo hi none n).2.1=((HT.sIx n n hi:Nat):Int)/\(sliceBounds lo hi none n).2.2=1:=by
 refine⟨?_,?_,rfl⟩
 .cases lo with
  |none=>simp[sliceBounds,HT.sIx]
  |some i=>
    simp only[sliceBounds,HT.sIx,Option.getD_none,show(1:Int) > 0 by decide,pU]
    by_cases h:i<0
    .simp only[h,pU]<;>lia
    .simp only[h,pR]<;>lia
 .cases hi with
  |none=>simp[sliceBounds,HT.sIx]
  |some i=>
    simp only[sliceBounds,HT.sIx,Option.getD_none,show(1:Int) > 0 by decide,pU]
    by_cases h:i<0
    .simp only[h,pU]<;>lia
    .simp only[h,pR]<;>lia
theorem Op(its:List mj)(lo hi:Option Int):slicePick its.toArray lo hi none=((its.drop (HT.sIx its.length 0 lo)).take (HT.sIx its.length its.length hi-HT.sIx its.length 0 lo)).toArray:=by
 clear 5(Qv lo hi its.toArray.size)h1 h2 h3;unfold slicePick;rw[h1,h2,h3];simp only[sliceRange_one,pick_run,uf6]<;>rfl
def eW(K:mh):V->Option Int->Option Int->Hp->VK->Prop:=λx lo hi H Q=>∃a xs,x=.ref a/\SqL K H a xs/\∀p,H p=none->Q (.ref p) (upd H p (.lst (IS xs lo hi)))
theorem sl_list:SlR X (eW X.K):=by
 intro mi s σ H x v vl vu lo hi sl Q I rx hs pl pu h;clear 5 h a xs rfl hx q
 cases rx
 clear 5(I.list hx)its r ht hz;have hlen:=r.length;refine⟨"list",_,slot_list_getitem.lookup,ht.isList.typeIs,?_⟩;refine wpAny_getItem_list_slice ht.isList hs pl pu .none (by simp) ?_ (by rw[uf6]<;>lia);rw[Op,<-hlen];refine⟨.ref s.heap.objs.size,_,I.laid (t':=s.toks) (o:=.lst (IS xs lo hi)) (λb ob q=>ub7 _ q) (un6 _) ?_,rfl,q _ (I.hok.fresh (un6 _))⟩;exact⟨um6 (KZ xs lo hi) hz,_,0,(r.drop (HT.sIx xs.length 0 lo)).take (HT.sIx xs.length xs.length hi-HT.sIx xs.length 0 lo),ud8 _ rfl⟩
noncomputable def GI:V->Bool
 |.non=>true
 |.bl _=>true
 |.int _=>true
 |.str _=>true
 |_=>false
noncomputable def eqV:V->V->Bool
 |.non,.non=>true
 |.bl a,.bl b=>a==b
 |.bl a,.int b=>(if a then 1 else 0)==b
 |.int a,.bl b=>a==(if b then 1 else 0)
 |.int a,.int b=>a==b
 |.str a,.str b=>a==b
 |_,_=>false
theorem cL{A:Around}{s:mn}{y x:V}{u v:mj}(ry:RelV y u)(rx:RelV x v)(fy:GI y=true)(fx:GI x=true):SeqAt.EqAt A s u v (eqV y x):=by
 cases y with
 |non=>
   cases ry
   cases x with
   |non=>cases rx;exact SeqAt.EqAt.same _
   |bl b=>cases rx;exact SeqAt.EqAt.none_bool b
   |int b=>clear 5 rx t rfl;exact SeqAt.EqAt.none_int b t
   |str b=>clear 5 rx t rfl;exact SeqAt.EqAt.none_str b t
   |_=>exact absurd (show false=true from fx) ue7
 |bl a=>
   cases ry
   cases x with
   |non=>cases rx;exact SeqAt.EqAt.bool_none a
   |bl b=>cases rx;exact SeqAt.EqAt.bool_bool a b
   |int b=>clear 5 rx t rfl;exact SeqAt.EqAt.bool_int a b t
   |str b=>clear 5 rx t rfl;exact SeqAt.EqAt.bool_str a b t
   |_=>exact absurd (show false=true from fx) ue7
 |int a=>
   clear 5 ry t' rfl
   cases x with
   |non=>cases rx;exact SeqAt.EqAt.int_none a t'
   |bl b=>cases rx;exact SeqAt.EqAt.int_bool a t' b
   |int b=>clear 5 rx t rfl;exact SeqAt.EqAt.int_int a t' b t
   |str b=>clear 5 rx t rfl;exact SeqAt.EqAt.int_str a t' b t
   |_=>exact absurd (show false=true from fx) ue7
 |str a=>
   clear 5 ry t' rfl
   cases x with
   |non=>cases rx;exact SeqAt.EqAt.str_none a t'
   |bl b=>cases rx;exact SeqAt.EqAt.str_bool a t' b
   |int b=>clear 5 rx t rfl;exact SeqAt.EqAt.str_int a t' b t
   |str b=>clear 5 rx t rfl;exact SeqAt.EqAt.str_str a t' b t
   |_=>exact absurd (show false=true from fx) ue7
 |_=>exact absurd (show false=true from fy) ue7
def eqU(x:V)(u:mj):Bool:=match u with
 |.none=>eqV .non x
 |.bool b=>eqV (.bl b) x
 |.int i _=>eqV (.int i) x
 |.str z _=>eqV (.str z) x
 |_=>false
theorem Uk{x y:V}{u:mj}(r:RelV y u)(f:GI y=true):eqU x u=eqV y x:=by
 cases y with
 |non=>cases r;rfl
 |bl b=>cases r;rfl
 |int i=>clear 5 r t rfl;rfl
 |str z=>clear 5 r t rfl;rfl
 |_=>exact absurd (show false=true from f) ue7
theorem MW{x:V}:∀{xs:List V}{us:List mj},Vals xs us->xs.all GI=true->us.any (eqU x)=xs.any λy=>eqV y x
 |_,_,.nil,_=>rfl
 |y::xs,u::us,.cons r t,f=>by
   rw[ul4,uh3] at f;rw[ul5,ul5,Uk r f.1,MW t f.2]
theorem Ls{A:Around}{s:mn}{x:V}{v:mj}(rx:RelV x v)(fx:GI x=true):∀{xs:List V}{us:List mj},Vals xs us->xs.all GI=true->∀u∈us,SeqAt.EqAt A s u v (eqU x u)
 |_,_,.nil,_=>λu hu=>by cases hu
 |y::xs,u::us,.cons r t,f=>λu' hu=>by
   rw[ul4,uh3] at f;rcases ul1.mp hu with rfl|hu
   .rw[Uk r f.1];exact cL r rx f.1 fx
   .exact Ls rx fx t f.2 u' hu
def inV(x:V)(xs:List V):Bool:=xs.any λy=>eqV y x
def rIn(K:mh)(neg:Bool):R2:=λx y H Q=>∃p xs,y=.ref p/\(SqL K H p xs\/SqT K H p xs)/\GI x=true/\xs.all GI=true/\Q (.bl (if neg then !inV x xs else inV x xs)) H
theorem Vh:OpR X (compareOp .In) (rIn X.K false):=by
 intro mi s σ H x y v u Q I rx ry h;clear 5 h p xs rfl hq fx fs q
 cases ry
 rcases hq with hq|hq
 .clear 5(I.list hq)its r pl hz;refine SeqAt.in_listAt (eqU x) pl.isList (λw hw=>Ls rx fx r fs w (by simpa using hw)) ⟨.bl _,H,I,rfl,?_⟩;rw[show its.toArray.any (eqU x)=its.any (eqU x) by simp,MW r fs];exact q
 .clear 5(I.tuple hq)its r pl hz;refine SeqAt.in_tupleAt (eqU x) pl (λw hw=>Ls rx fx r fs w (by simpa using hw)) ⟨.bl _,H,I,rfl,?_⟩;rw[show its.toArray.any (eqU x)=its.any (eqU x) by simp,MW r fs];exact q
theorem OZ:CQ X (.type "list") (λxs H Q=>∃p ys,xs=[.ref p]/\(SqL X.K H p ys\/SqT X.K H p ys)/\∀l,H l=none->Q (.ref l) (upd H l (.lst ys))):=by
 intro mi s σ H xs us Q I r h;clear 5 h p ys rfl hq q;clear 5(GN r)u rfl rx
 cases rx
 have fin:∀(its:List mj),Vals ys its->ys.length<=sizeLine->∀(h':Heap) (c':Nat),(∀b o',s.heap.get? b=some o'->h'.get? b=some o')->
  h'.get? s.heap.objs.size=some {cls:=.type "list",dict:=none,data:=.seq its.toArray c',slots:=#[]}->EP X mi σ Q (.ref s.heap.objs.size) {s with heap:=h'}:=λits r' hz h' c' kp e=>
  ⟨.ref s.heap.objs.size,_,I.laid (t':=s.toks) kp (un6 _) (show ObjOk X.prog X.w _ h' _ (.lst ys) from⟨hz,its,c',r',e⟩),rfl,q _ (I.hok.fresh (un6 _))⟩
 rcases hq with hq|hq
 .clear 5(I.list hq)its r' pl hz;have hlen:=r'.length;clear 5 pl.isList o ho hc n hd;exact call_list_seq p (.inl rfl) ho hc hd (λh' c' kp e=>fin its r' hz h' c' kp e) (by simp only[uf6]<;>lia)
 .clear 5(I.tuple hq)its r' pl hz;have hlen:=r'.length;clear 5 pl o ho hc n hd;exact call_list_seq p (.inr rfl) ho hc hd (λh' c' kp e=>fin its r' hz h' c' kp e) (by simp only[uf6]<;>lia)
def tyV(K:mh)(T:String)(x:V)(H:Hp):Prop:=match x with
 |.str _=>T = "str"
 |.int _=>T = "int"
 | .ref p=>(T = "list"/\∃xs,SqL K H p xs)\/(T = "tuple"/\∃o,K.lookup p=some o/\o.cls = .type "tuple"/\o.dict=none)\/
    (T = "dict"/\((∃kvs,H p=some (.dK kvs))\/∃kvs,H p=some (.dT kvs)))\/(T = "set"/\∃S n,H p=some (.set S n))
 |_=>False
theorem fJ{mi:List (mm×Obj)}{σ:St}{H:Hp}{s:mn}{T:String}{x:V}{v:mj}(I:Inv X mi σ H s)(r:RelV x v)(ty:tyV X.K T x H) :
 s.TypeIs v T/\∀a,v=.ref a->∃ob,s.heap.get? a=some ob/\ob.dict=none:=by
 cases x with
 |str z=>
   clear 5 r t rfl
   cases (show T = "str" from ty)
   exact⟨typeIs_str s z t,λ_ e=>nomatch e⟩
 |int i=>
   clear 5 r t rfl
   cases (show T = "int" from ty)
   exact⟨pO s i t,λ_ e=>nomatch e⟩
 |ref p=>
   cases r
   rcases ty with⟨rfl,xs,hq⟩|⟨rfl,o,hk,hc,hd⟩|⟨rfl,hk⟩|⟨rfl,S,n,hk⟩
   .obtain⟨its,_,pl,_⟩:=I.list hq;refine⟨pl.isList.typeIs,λa e=>?_⟩
    cases e
    obtain⟨o,n,e,c,hd,_⟩:=pl;exact⟨o,e,hd⟩
   .refine⟨⟨o,I.kIn p o hk,hc⟩,λa e=>?_⟩
    cases e
    exact⟨o,I.kIn _ o hk,hd⟩
   .have z:∃o,s.heap.get? p=some o/\o.ExactDict:=by
     rcases hk with⟨kvs,hk⟩|⟨kvs,hk⟩
     .obtain⟨_,_,_,_,o,_,_,e,ex,_⟩:=I.hok p _ hk;exact⟨o,e,ex⟩
     .obtain⟨_,_,_,_,o,_,_,e,ex,_⟩:=I.hok p _ hk;exact⟨o,e,ex⟩
    clear 5 z o e ex;refine⟨⟨o,e,ex.1⟩,λa e2=>?_⟩
    cases e2
    exact⟨o,e,ex.2.1⟩
   .obtain⟨o,_,_,_,e,ex,_⟩:=I.hok p _ hk;refine⟨⟨o,e,ex.1⟩,λa e2=>?_⟩
    cases e2
    exact⟨o,e,ex.2.1⟩
 |_=>exact False.elim ty
def tBM(K:mh)(T:String)(r:V->List V->Hp->VK->Prop)(to:TE)(t:TA):TE:=λσ H Q=>to σ H λx H1=>tyV K T x H1/\t σ H1 λxs H2=>r x xs H2 Q
variable{o e:Expr}{es:List Expr}{to:TE}{t:TA}{name:Str}{apos cpos:Pos}{T id:String}{r:V->List V->Hp->VK->Prop}
theorem Tf(pa:PlainAttrs T)(slot:Slot T name id)(hty:typeOf (.builtin id)=pure (.type "method_descriptor"))(hm:MtR X id r)(ho:PE X o to)(ha:PA X (e::es) t)
 (hbase:autoParam (attributeBase o name X.env (eval o X.env)=eval o X.env) q3T)
 (hfew:((backTo cpos (starEach (e :: es) X.env)).all (λx=>!x.1) && (backToKw cpos (keywordEach [] X.env)).all (λx=>x.1.isSome)
   && decide ((e::es).length+([]:List Keyword).length+(if ([]:List Keyword).isEmpty then 0 else 1)<30))=true:=by rfl)
 (hline:autoParam ((apos.endLine==cpos.line)=true) q3T) (hs:autoParam (starEach (e::es) X.env=(false,eval e X.env)::starEach es X.env) q3T) (hplain:autoParam ((backTo cpos (starEach es X.env)).any (·.1)=false) q3T) :
 PE X (.Call (.Attribute o name apos) (e::es) [] cpos) (tBM X.K T r to t):=by
 intro mi s σ H Q I h;refine wpAny_Call_method_late hbase hfew hline rfl (thn (ho mi s σ H _ I h) λv s1 z9=>?_);clear 5 z9 x H1 I1 r1 ty q1;clear 5(fJ I1 r1 ty)h1 h2;refine⟨T,id,pa,slot,hty,h1,h2,?_⟩;have hA:=ha cpos mi s1 σ H1 _ I1 q1;rw[hs] at hA⊢;refine Calls.callWith_builtin (by show(false||(backTo cpos (starEach es X.env)).any (·.1))=false;rw[hplain]<;>rfl) (Calls.evalArgs_plain ?_);exact thn hA λus s2 ⟨vs,H2,I2,r2,q2⟩=>hm mi s2 σ H2 x vs v us Q I2 r1 r2 q2
/- xs.append(e),list.index on a module's tuple .. are MtR facts of 06m -/
end
def MtM(X:Cx)(id:String)(r:V->List V->Hp->VK->Prop):Prop:=
 ∀(mi:List (mm×Obj)) (s:mn) (σ:St) (H:Hp) (x:V) (xs:List V) (v:mj) (us:List mj) (Q:VK),Inv X mi σ H s->RelV x v->Vals xs us->r x xs H Q->
  wpAny (model X.prog X.w) X.A (call (.builtin id) (v::us)) (EP X mi σ Q) X.xe s
theorem Vals.one{x:V}{us:List mj}(h:Vals [x] us):∃u,us=[u]/\RelV x u:=by
 cases h with
 |cons r t=>
   cases t
   exact⟨_,rfl,r⟩
theorem Vals.rep{xs:List V}{us:List mj}(h:Vals xs us):∀k:Nat,Vals (List.replicate k xs).flatten (List.replicate k us).flatten
 |0=>.nil
 |k+1=>by
   rw[ue0,ue0,uf9,uf9];exact Vals.append h (Vals.rep h k)
section
variable{X:Cx}{mi:List (mm×Obj)}{σ:St}{H:Hp}{s:mn}{l b:mm}{xs ys zs:List V}
theorem Inv.lset{its its':List mj}{n:Nat}{f:Array mj->Array mj}{t':Nat}(I:Inv X mi σ H s)(hH:H l=some (.lst xs))
 (e:s.heap.get? l=some {cls:=.type "list",data:=.seq its.toArray n}) (hf:f its.toArray=its'.toArray) (hv:Vals ys its') (hz:ys.length<=sizeLine) :
 Inv X mi σ (upd H l (.lst ys)) {s with heap:=s.heap.update l (Obj.mapSeq f),toks:=t'}:=by
 have q:=PySem.IsL.update e f;rw[hf] at q;refine I.write (x:=l) (e:=l) (by rw[hH];exact trivial) (.inl rfl) (λb' u hb hu=>(PySem.Heap.get?_update_other s.heap (Obj.mapSeq f) (Ne.symm hb)).trans hu) ⟨_,q⟩ ?_;exact⟨hz,its',_,hv,q⟩
theorem Inv.lnew{its:List mj}{t':Nat}(I:Inv X mi σ H s)(hv:Vals ys its)(hz:ys.length<=sizeLine) :
 Inv X mi σ (upd H s.heap.objs.size (.lst ys)) {s with heap:=s.heap.push {cls:=.type "list",data:=.seq its.toArray},toks:=t'}:=
 I.laid (λ_ _ q=>ub7 _ q) (un6 _) ⟨hz,its,0,hv,ud8 _ rfl⟩
theorem Inv.fresh(I:Inv X mi σ H s):H s.heap.objs.size=none:=I.hok.fresh (un6 _)
theorem Inv.lstM(I:Inv X mi σ H s)(hH:H l=some (.lst xs)):xs.length<=sizeLine/\∃(its:List mj) (n:Nat),Vals xs its/\xs.length=its.length/\s.heap.get? l=some {cls:=.type "list",data:=.seq its.toArray n}:=by
 clear 5(I.hok l _ hH)z its n r e;exact⟨z,its,n,r,r.length,e⟩
theorem PZ{n:Nat}(h:n<=sizeLine):Builtin.List.listTooLong n=false:=by
 unfold Builtin.List.listTooLong;exact uk3 ∅
end
section
variable{X:Cx}
def RV:V->List V->Hp->VK->Prop:=λx vs H Q=>∃l xs y,x=.ref l/\vs=[y]/\H l=some (.lst xs)/\xs.length<sizeLine/\Q .non (upd H l (.lst (xs++[y])))
theorem U4:MtM X "list.append" RV:=by
 intro mi s σ H x vs v us Q I rx rv h;clear 5 h l xs y rfl rfl hH hz q
 cases rx
 clear 5 rv.one u rfl ru;clear 5(I.lstM hH)z its n r hl e;refine pP F.slot_list_append ⟨_,e,rfl⟩ F.entry_list_append (F.args_list_append_2 _ _) (PySem.list_append l its.toArray n u (by rw[uf6];lia)) ⟨e,?_⟩;refine⟨.non,_,I.lset (its':=its++[u]) hH e (by simp) (r.append (.cons ru .nil)) ?_,rfl,q⟩;rw[ue9,List.length_singleton];lia
def RW:V->List V->Hp->VK->Prop:=λx vs H Q=>∃l b xs zs,x=.ref l/\vs=[.ref b]/\H l=some (.lst xs)/\H b=some (.lst zs)/\xs.length+zs.length<=sizeLine/\Q .non (upd H l (.lst (xs++zs)))
theorem U5:MtM X "list.extend" RW:=by
 intro mi s σ H x vs v us Q I rx rv h;clear 5 h l b xs zs rfl rfl hH hB hz q
 cases rx
 clear 5 rv.one u rfl ru
 cases ru
 clear 5(I.lstM hH)z its n r hl e;clear 5(I.lstM hB)z2 its2 n2 r2 hl2 e2;have hsz:its.toArray.size+its2.toArray.size<=sizeLine:=by rw[uf6,uf6];lia
 have hlong:¬(!its.toArray.isEmpty&&Builtin.List.listTooLong (its.toArray.size+its2.toArray.size))=true:=by
  rw[PZ hsz,Bool.and_false];exact ue7
 refine pP F.slot_list_extend ⟨_,e,rfl⟩ F.entry_list_extend (F.args_list_extend_2 _ _)
  (AutoSeq1.list_extend_list_list_0 l its.toArray n b its2.toArray n2 hlong (by rw[uf6];lia) ∅) ⟨e,e2,?_⟩
 refine⟨.non,_,I.lset (its':=its++its2) hH e (by simp) (r.append r2) ?_,rfl,q⟩;rw[ue9];lia
def XI:R2:=λx y H Q=>∃l b xs zs,x=.ref l/\y=.ref b/\H l=some (.lst xs)/\H b=some (.lst zs)/\xs.length+zs.length<=sizeLine/\∀p,H p=none->Q (.ref p) (upd H p (.lst (xs++zs)))
theorem Vf:OpR X (binaryOp .Add) XI:=by
 intro mi s σ H x y v u Q I rx ry h;clear 5 h l b xs zs rfl rfl hH hB hz q
 cases rx
 cases ry
 clear 5(I.lstM hH)z its n r hl e;clear 5(I.lstM hB)z2 its2 n2 r2 hl2 e2;refine PySem.P.add_list e e2 ?_ (by rw[uf6,uf6];lia);have ea:its.toArray++its2.toArray=(its++its2).toArray:=by simp
 rw[ea];exact⟨.ref _,_,I.lnew (t':=s.toks) (r.append r2) (by rw[ue9];lia),rfl,q _ I.fresh⟩
end
section
variable{prog:mq}{w:mw}{A:Around}{E:mj->mn->Prop}{s:mn}
end
section
variable{X:Cx}
end
end L2
namespace Att
open PySem PySem.W PySem.Calls PyProof.Rows
theorem Mp{P:Params}{h:Heap}:∀(ns:List Int) (vs:List mj),WellAll P h vs (ns.map WData.int)->IntsAre vs ns:=by
 intro ns
 induction ns with
 |nil=>
   intro vs w;rw[um9] at w
   cases w
   exact .nil
 |cons n ns ih=>
   intro vs w;rw[ul2] at w
   cases w with
   |cons a b=>
     cases a
     exact .cons _ _ (ih _ b)
theorem VG{l:OpenLaw}{n:Nat}(hn:l.most=some n){P:Params}{h:Heap}{args:List WData}{vals:List mj}
 (hpre:l.row.toRowW.claim.pre args=true) (hwl:WellAll P h vals args) :
 ∃a vs ns,vals=[Value.ref a]/\args=[WData.list (ns.map WData.int)]/\h.get? a=some {cls:=.type "list",data:=.seq vs.toArray}/\IntsAre vs ns/\ns.length<=n:=by
 have hsh:WShape.hasAll [] args [.list .int]=true:=(pre_splitW hpre).1;have hc:l.pre.holds [] {args:=args}=true:=(pre_splitW hpre).2;clear 5(hasAllW_cons hsh)d r rfl h1 h2;obtain rfl:=hasAllW_nil h2;clear 5(hasW_list h1)xs rfl h3;clear 5(items_int h3)ns rfl;have hlen:ns.length<=n:=by
  unfold OpenLaw.pre at hc;have h4:(WTm.not (.lt (.lit (.int (n:Int))) (.len (.arg 0)))).holds [] {args:=[.list (ns.map .int)]}=true:=by
   have h4:=(holds_andW hc).1;rw[hn] at h4;exact h4
  have h5:=condW_of h4 (w_not (w_lt w_lit (w_len_list (w_arg rfl))));rw[ui7] at h5;refine Nat.le_of_not_lt λq=>?_;have q':(n:Int)<((ns.length:Nat):Int):=by lia
  first
   |(rw[uk9 q'] at h5;exact absurd h5 (by decide))
   |(simp at h5;lia)
 cases hwl with
 |cons w1 w2=>
   cases w2
   cases w1 with
   |list ho hall=>exact⟨_,_,ns,rfl,rfl,ho,Mp ns _ hall,hlen⟩
theorem Vu(l:OpenLaw)(args:List WData):l.row.toRowW.claim.post args (.bool true) args=true:=
 postW_of (r:=l.row.toRowW) (X:=(true==true))
  (show WShape.has [] (.bool true) .bool=true by first|rfl|decide|simp[WShape.has,WShape.arms,WShape.armsAll])
  (show(WTm.eq .res (.lit (.bool true))).value [] {args:=args,res:=some (.bool true),after:=args}=some (.bool (true==true)) from w_eq_bool (w_res rfl) w_lit) rfl
theorem attach_call{l:OpenLaw}{n:Nat}{q:mq}{loose:List Str}{XP:(Str->Option mj)->Heap->Prop}{YP:mw->Heap->Prop}{d:DefRec}
 (hn:l.most=some n) (hdf:d.params.defaults=[])
 (call:∀(w:mw) (s₀ s₁:mn) (mg mb:Str->Option mj) (fa:mm) (o:Obj) (pm cd doc:mj) (a:mm) (vs:List mj) (ns:List Int),
   Ground q loose [] XP w s₀ mg mb s₁.heap->YP w s₁.heap->
   s₁.heap.get? fa=some o->o.data=.func (docDef d.name d.params d.body d.scope pm cd doc)->s₁.heap.CodeRec cd d.name->mg d.name=some (.ref fa)->
   s₁.heap.get? a=some {cls:=.type "list",data:=.seq vs.toArray}->IntsAre vs ns->ns.length<=n->s₁.gens=#[]->
   codeAny (model l.prog w) callerA (.call (.ref fa) ⟨[.ref a],[]⟩) (λr s'=>r=.ok (.ret (.bool true))/\OldK s₁.heap s'.heap/\s'.os=s₁.os/\AllBare s'.gens) s₁) :
 WalkO q loose XP YP l.row.toRowW d [] (λf vs=>PySem.call f vs):=by
 intro w s₀ s₁ mg mb G Y fa o pm cd doc dV kV ho hd hcd hD hmg hg args vals as hpre hlay hrd hwl hlo;obtain rfl:dV=.none:=Dflts.none hD hdf;obtain rfl:kV=.none:=Dflts.noKw hD;clear 5(VG hn hpre hwl)a vs ns rfl rfl hobj hints hlen;refine enter_call (pF (call w s₀ s₁ mg mb fa o pm cd doc a vs ns G Y ho (fd_plain hd) hcd hmg hobj hints hlen hg) λr s' hq=>?_);clear 5 hq rfl h2 h3 h4;exact⟨.inl ⟨.bool true,.bool true,[],rfl,λ_=>rfl,.bool true,Vu l _,λ_=>⟨List.Pairwise.nil,λ_ hm=>(nomatch hm)⟩⟩,h2,h3,h4⟩
section
variable{prog:mq}{w:mw}{A:Around}{E:mj->mn->Prop}{s:mn}{K:Frag}
end
end Att
namespace L2
open PySem PySem.Spec PyProof.Rows
theorem Kj:∀{vs:List mj}{ns:List Int},IntsAre vs ns->Vals (ns.map V.int) vs
 |_,_,.nil=>.nil
 |_,_,.cons n t h=>.cons ⟨t,rfl⟩ (Kj h)
def Sn(H:Hp):Prop:=∀b,H b=none\/∃o xs,H b=some (.frz o (.lst xs))
section
variable{P:mq}{w:mw}{fd:mx}
theorem Xd{K:mh}{mg mb:Str->Option mj}{CX:CXT}{k:Nat}{fa a:mm}{x:Str}{sp:Sp}{s₁:mn}{vs:List mj}{ns:List Int}
 (KX:K.In s₁.heap) (hns:s₁.heap.Ns mainGlobals mg) (hb:s₁.heap.Ns builtinsNs mb) (hbb:∀x:Str,x≠"__name__"->mb x=bootBuiltins x) (hlim:s₁.heap.NoLimit) (hg:s₁.gens=#[])
 (ha:s₁.heap.get? a=some {cls:=.type "list",data:=.seq vs.toArray}) (hi:IntsAre vs ns) (hl:ns.length<=sizeLine) (hr:Room k callerA)
 (F:∀base:Heap,K.In base->base.Ns mainGlobals mg->FnOk P w K mg base CX k fa fd [x] sp) (hbind:∀(s:mn) (u:mj),BindsTo s fd ⟨[u],[]⟩ [(x,u)])
 (hsp:∀H:Hp,Sn H->SqL K H a (ns.map V.int)->sp [.ref a] H (λv _=>v=.bl true) λ_ _ _=>False)
 (hCX:∀H e s',CX [] H s₁ (λ_ _ _=>False) e s'->False) :
 codeAny (model P w) callerA (.call (.ref fa) ⟨[.ref a],[]⟩) (λr s'=>r=.ok (.ret (.bool true))/\OldK s₁.heap s'.heap/\s'.os=s₁.os/\AllBare s'.gens) s₁:=by
 have rv:=Kj hi;have lenV:=hi.length
 -- from an abstract heap in which nothing but the script may be tracked
 have core:∀H:Hp,Sn H->SqL K H a (ns.map V.int)->HOk P w H s₁.heap->(∀b,H b≠none->b=a)->(H a≠none->K.lookup a=none)->
  codeAny (model P w) callerA (.call (.ref fa) ⟨[.ref a],[]⟩) (λr s'=>r=.ok (.ret (.bool true))/\OldK s₁.heap s'.heap/\s'.os=s₁.os/\AllBare s'.gens) s₁:=by
  intro H hO hS hok hA hK;have base_of:∀{b:mm}{o:Obj},s₁.heap.get? b=some o->H b=none->(IY s₁.heap H).get? b=some o:=λe n=>W8 e n;have noA:∀{b:mm}{o:Obj}{es:Array DictEntry}{ep:Nat},s₁.heap.get? b=some o->o.data=.dict es ep->H b=none:=λ{b o es ep} e d=>by
   cases q:H b with
   |none=>rfl
   |some u=>
     have e':b=a:=hA b (by rw[q];simp);subst e';rw[ha] at e;cases e
     have d':Data.seq vs.toArray _=Data.dict es ep:=d
     cases d'
  have nsK:∀{b:mm}{m:Str->Option mj},s₁.heap.Ns b m->(IY s₁.heap H).Ns b m:=λ{b m} ⟨o,es,ep,e,d,r⟩=>⟨o,es,ep,base_of e (noA e d),d,r⟩;have hKb:K.In (IY s₁.heap H):=λb o e=>base_of (KX b o e) (by
   cases q:H b with
   |none=>rfl
   |some u=>
     have e':b=a:=hA b (by rw[q];simp);subst e';rw[hK (by rw[q];simp)] at e;cases e)
  have hM:Mod K mg (IY s₁.heap H):=⟨hKb,nsK hns,⟨mb,nsK hb,hbb⟩,let ⟨mc,h1,h2⟩:=hlim;⟨mc,nsK h1,h2⟩⟩;have e0:Env0 P w K mg (IY s₁.heap H) callerA [] s₁ H:=⟨rfl,hM,λb o e=>ad e,pE (UH _ _),trivial,λb hb=>absurd (show b∈([]:List mm) from hb) (by simp),hok,.of_eq hg⟩;refine pF ((F _ hKb (nsK hns)).run callerA [] s₁ H ⟨[.ref a],[]⟩ [.ref a] [.ref a] _ _ hr e0 (hbind s₁ (.ref a)) (.cons rfl .nil) (hsp H hO hS)) λr s' h=>?_
  cases r with
  |error e=>exact(hCX H e s' h).elim
  |ok fl=>
    cases fl with
    |next=>exact False.elim h
    |brk=>exact False.elim h
    |cont=>exact False.elim h
    |ret u=>
      clear 5 h v H' os bare un hok' r' q;have q':v=.bl true:=q;subst q';obtain rfl:u=Value.bool true:=r';refine⟨rfl,OldK.of_keep λb o e=>?_,os,bare⟩
      cases q:H b with
      |none=>exact un.keep b o e q (by intro z;exact absurd (show b∈([]:List mm) from z) (by simp)) (by simp)
      |some u=>
        rcases hO b with z|⟨ob,xs,z⟩
        .rw[q] at z;cases z
        .have z2:=un.frzs b ob _ z;obtain⟨e1,_⟩:=hok b _ z;obtain⟨e2,_⟩:=hok' b _ z2;rw[e] at e1;cases e1
         exact e2
 cases hk:K.lookup a with
 |some o=>
   -- the script is one of the module's own objects
   have e:=KX a o hk;rw[ha] at e
   cases e
   refine core (λ_=>none) (λ_=>.inl rfl) (.inr ⟨_,vs.toArray,_,hk,rfl,rfl,rfl,by rw[uf6,lenV];exact hl,by simpa using rv⟩) (λb u z=>by have z':(none:Option HO)=some u:=z;cases z') (λb z=>absurd rfl z) λz=>absurd rfl z
 |none=>
   refine core (λb=>if b=a then some (.frz {cls:=.type "list",data:=.seq vs.toArray} (.lst (ns.map V.int))) else none) (λb=>?_) (.inl (.inr ⟨{cls:=.type "list",data:=.seq vs.toArray},pW rfl⟩)) (λb u z=>?_) (λb z=>?_) λ_=>hk
   .by_cases hb:b=a
    .exact .inr ⟨_,_,pW hb⟩
    .exact .inl (pX hb)
   .by_cases hb:b=a
    .have z':=(pW hb).symm.trans z
     cases z'
     subst hb;exact⟨ha,by rw[ui7];exact hl,vs,_,rv,ha⟩
    .have z':=(pX hb).symm.trans z
     cases z'
   .by_cases hb:b=a
    .exact hb
    .exact absurd (pX hb) z
theorem bP{l:PySem.W.OpenLaw}{n k:Nat}{q:mq}{loose:List Str}{XP:(Str->Option mj)->Heap->Prop}{YP:mw->Heap->Prop}{d:DefRec}{K:Params->mh}{CX:mw->CXT}{sp:mw->Sp}{x:Str}
 (hn:l.most=some n) (hn2:n<=sizeLine) (hdf:d.params.defaults=[]) (hr:Room k callerA)
 (hY:∀(w:mw) (h:Heap),YP w h->(K w.params).In h)
 (F:∀(w:mw) (mg:Str->Option mj) (fa:mm) (h:Heap),(K w.params).In h->h.Ns mainGlobals mg->mg d.name=some (.ref fa)->
   ∃fd:mx,(∀(s:mn) (u:mj),BindsTo s fd ⟨[u],[]⟩ [(x,u)])/\
    ∀base:Heap,(K w.params).In base->base.Ns mainGlobals mg->FnOk l.prog w (K w.params) mg base (CX w) k fa fd [x] (sp w))
 (hsp:∀(w:mw) (H:Hp) (a:mm) (ns:List Int),ns.length<=n->Sn H->SqL (K w.params) H a (ns.map V.int)->sp w [.ref a] H (λv _=>v=.bl true) λ_ _ _=>False)
 (hCX:∀(w:mw) (H:Hp) (s:mn) (e:mj) (s':mn),CX w [] H s (λ_ _ _=>False) e s'->False) :
 PySem.W.WalkO q loose XP YP l.row.toRowW d [] (λf vs=>PySem.call f vs):=by
 refine Att.attach_call hn hdf λw s₀ s₁ mg mb fa o pm cd doc a vs ns G Y ho hd hcd hmg hobj hints hlen hg=>?_;have KX:=hY w _ Y;clear 5(F w mg fa _ KX G.T.g hmg)fd hb hF;exact Xd KX G.T.g G.T.b G.T.builtins G.T.nolimit hg hobj hints (um6 hlen hn2) hr hF hb (λH hO hS=>hsp w H a ns hlen hO hS) λH e s'=>hCX w H s₁ e s'
noncomputable def Iu(s:Stmt):Arguments:=match s with
 |.FunctionDef _ a _ _ _ _ _ _ _ _=>a
 |_=>{posonlyargs:=[],args:=[],vararg:=none,kwonlyargs:=[],kw_defaults:=[],kwarg:=none,defaults:=[]}
noncomputable def DG(s:Stmt):List Stmt:=match s with
 |.FunctionDef _ _ b _ _ _ _ _ _ _=>b
 |_=>[]
noncomputable def AN(s:Stmt):Scope:=match s with
 |.FunctionDef _ _ _ _ _ _ sc _ _ _=>sc
 |_=>{kind:=.function,names:=[],isGenerator:=false,isCoroutine:=false}
abbrev CX0:CXT:=λ_ _ _ _ _ _=>False
abbrev E0:XK:=λ_ _ _=>False
variable{X:Cx}
theorem KM:GU CX0 X E0:=λ_ _ _ _ _ _ _ h=>h.elim
structure Fun(K:mh)(x qual:Str)(st:Stmt)(f:mm)(fd:mx):Prop where
 ex:∃(oc:mj) (od:Option mm) (kV doc pm:mj) (an:Option mm) (cdv ct:mj) (osl:Array (Option mj)),
  fd=PySem.W.fnOf x qual (Iu st) (DG st) (AN st) .none kV doc pm an cdv ct/\K.lookup f=some ⟨oc,od,.func fd,osl⟩/\codeIn K cdv qual=true
 kp:PySem.W.keepIn K (.ref f)=true
variable{qual:Str}{f:mm}
section
variable{P:mq}{w:mw}{K:mh}{mg:Str->Option mj}{base:Heap}
theorem Fun.ok{x:Str}{st:Stmt}{N ps:List Str}{k:Nat}{sp:Sp}(F:Fun K x qual st f fd)(S:FnScope N ps (AN st))(len:∀vs H Q E,sp vs H Q E->vs.length=ps.length)
 (hbody:∀(cdv:mj) (A:Around) (outer:List Env) (s:mn) (H:Hp) (vs:List V) (Q:VK) (E:XK),Room k (A.deeper (envOfC qual (AN st) s.heap.objs.size f cdv))->sp vs H Q E->
   ∃t,PSs (FO CX0 P w K mg base N qual (AN st) f cdv A outer s H E).nox (DG st) t/\t {nx:=λ_ H'=>Q .non H',rt:=Q} (EX N vs) H):FnOk P w K mg base CX0 (k+1) f fd ps sp:=by
 clear 5 F.ex oc od kV doc pm an cdv ct osl rfl lk hcd;refine YB lk hcd S len λA outer s H vs Q E hr hsp=>?_;clear 5(hbody cdv A outer s H vs Q E hr hsp)t h q;exact⟨t,h.nox,q⟩
theorem Fun.binds{x:Str}{st:Stmt}{ps:List Str}(F:Fun K x qual st f fd)
 (h:∀(kV doc pm:mj) (an:Option mm) (cdv ct:mj) (us:List mj),us.length=ps.length->bindArgs (PySem.W.fnOf x qual (Iu st) (DG st) (AN st) .none kV doc pm an cdv ct) ⟨us,[]⟩=pure (ps.zip us)):Binds K fd ps []:=by
 clear 5 F.ex oc od kV doc pm an cdv ct osl rfl lk hcd;exact .all (h kV doc pm an cdv ct)
theorem Mj{x:Str}{st:Stmt}{oc:mj}{od an:Option mm}{osl:Array (Option mj)}{kV doc pm cdv ct:mj}(l:K.lookup f=some ⟨oc,od,.func (PySem.W.fnOf x qual (Iu st) (DG st) (AN st) .none kV doc pm an cdv ct),osl⟩)
 (c:codeIn K cdv qual=true) (k:PySem.W.keepIn K (.ref f)=true):Fun K x qual st f (PySem.W.fnOf x qual (Iu st) (DG st) (AN st) .none kV doc pm an cdv ct):=⟨⟨oc,od,kV,doc,pm,an,cdv,ct,osl,rfl,l,c⟩,k⟩
end
section
variable{X:Cx}
end
section
variable{κ:Type}[DecidableEq κ]
noncomputable def D9(kvs:List (κ×V))(k:κ):Option V:=(kvs.find? λkv=>decide (kv.1=k)).map (·.2)
noncomputable def D3(kvs:List (κ×V))(k:κ)(v:V):List (κ×V):=
 if (kvs.any λkv=>decide (kv.1=k))=true then kvs.map (λkv=>if kv.1=k then(kv.1,v) else kv) else kvs++[(k,v)]
theorem Jt{p:κ×V}{r:List (κ×V)}{k:κ}(e:p.1=k):D9 (p::r) k=some p.2:=by simp[D9,uj4,e]
theorem Js{p:κ×V}{r:List (κ×V)}{k:κ}(e:¬p.1=k):D9 (p::r) k=D9 r k:=by simp[D9,uj4,e]
theorem H9(kvs:List (κ×V))(k:κ)(v:V):(D3 kvs k v).length<=kvs.length+1:=by
 unfold D3
 split
 .rw[ui7];lia
 .rw[ue9,ug9,uj5];lia
theorem RelO.isSome_eq{o:Option V}{u:Option mj}(r:RelO o u):o.isSome=u.isSome:=by
 cases o with
 |none=>cases u with
   |none=>rfl
   |some _=>exact(show False from r).elim
 |some _=>cases u with
   |none=>exact(show False from r).elim
   |some _=>rfl
theorem KV.val{kvs:List (κ×V)}{vs:List (κ×mj)}(r:KV kvs vs)(k:κ):RelO (D9 kvs k) (valueAt vs k):=by
 unfold KV at r
 induction r with
 |nil=>exact True.intro
 |@cons p q ps qs h t ih=>
   clear 5 h h1 h2
   by_cases e:p.1=k
   .have e':q.1=k:=h1.symm.trans e;have b:valueAt (q::qs) k=some q.2:=by simp[valueAt,uj4,e']
    rw[Jt e,b];exact h2
   .have e':¬q.1=k:=λz=>e (h1.trans z);have b:valueAt (q::qs) k=valueAt qs k:=by simp[valueAt,uj4,e']
    rw[Js e,b];exact ih
theorem KV.any{kvs:List (κ×V)}{vs:List (κ×mj)}(r:KV kvs vs)(k:κ):(kvs.any λkv=>decide (kv.1=k))=vs.any λkv=>decide (kv.1=k):=by
 unfold KV at r
 induction r with
 |nil=>rfl
 |cons h t ih=>rw[ul5,ul5,ih,h.1]
theorem KV.repl{kvs:List (κ×V)}{vs:List (κ×mj)}(r:KV kvs vs)(k:κ){y:V}{u:mj}(ry:RelV y u) :
 KV (kvs.map λkv=>if kv.1=k then(kv.1,y) else kv) (vs.map λkv=>if kv.1=k then(kv.1,u) else kv):=by
 unfold KV at r⊢
 induction r with
 |nil=>exact .nil
 |@cons p q ps qs h t ih=>
   rw[ul2,ul2];refine .cons ?_ ih;clear 5 h h1 h2
   by_cases e:p.1=k
   .rw[pW e,pW (h1.symm.trans e)];exact⟨h1,ry⟩
   .rw[pX e,pX (λz=>e (h1.trans z))];exact⟨h1,h2⟩
theorem KV.put{kvs:List (κ×V)}{vs:List (κ×mj)}(r:KV kvs vs)(k:κ){y:V}{u:mj}(ry:RelV y u):KV (D3 kvs k y) (stored vs k u):=by
 unfold D3 stored;rw[r.any k]
 by_cases e:(vs.any λkv=>decide (kv.1=k))=true
 .rw[pW e,pW e];exact r.repl k ry
 .rw[pX e,pX e];exact Paired.snoc r ⟨rfl,ry⟩
theorem KV.length{kvs:List (κ×V)}{vs:List (κ×mj)}(r:KV kvs vs):kvs.length=vs.length:=Paired.length r
end
theorem HK{k:Key}{u:mj}(r:RelV (kV k) u):(BL P w).is k u=true:=by
 cases k with
 |inl i=>clear 5((show ∃t,u=Value.int i t from r))t e;subst e;exact QJ P w i t
 |inr x=>clear 5((show ∃t,u=Value.str x t from r))t e;subst e;exact QK P w x t
theorem N1{P:mq}{w:mw}:∀{ks:List Key}{us:List mj},Vals (ks.map kV) us->ItemsAre (BL P w) ks us
 |[],_,r=>by rw[um9] at r;cases r;exact .nil
 |k::ks,_,r=>by
   rw[ul2] at r
   cases r with
   |cons h t=>exact .cons (HK h) (N1 t)
abbrev KT(H:Hp):List (List Key×V)->List (List Key×mm×mj)->Prop:=Paired λp q=>p.1=q.1/\H q.2.1=some (.tup (p.1.map kV))/\RelV p.2 q.2.2
variable{H:Hp}
theorem KT.val{kvs:List (List Key×V)}{xs:List (List Key×mm×mj)}(r:KT H kvs xs)(k:List Key):RelO (D9 kvs k) ((atKey xs k).map (·.2)):=by
 induction r with
 |nil=>exact True.intro
 |@cons p q ps qs h t ih=>
   obtain⟨h1,_,h2⟩:=h
   by_cases e:p.1=k
   .have e':q.1=k:=h1.symm.trans e;have b:atKey (q::qs) k=some q.2:=by simp[atKey,uj4,e']
    rw[Jt e,b];exact h2
   .have e':¬q.1=k:=λz=>e (h1.trans z);have b:atKey (q::qs) k=atKey qs k:=by simp[atKey,uj4,e']
    rw[Js e,b];exact ih
variable{kvs:List (Key×V)}
section
variable{P:mq}{w:mw}{H:Hp}{h:Heap}{a:mm}
theorem YQ{u:HO}(ok:HOk P w H h)(e:Rd H a u):ObjOk P w H h a u:=e.ok ok
theorem SG(ok:HOk P w H h)(e:Rd H a (.dK kvs)):kvs.length<=sizeLine/\(a==sysModules)=false/\∃vs,KV kvs vs/\h.DictOf (BL P w) a vs:=
 show ObjOk P w H h a (.dK kvs) from YQ ok e
theorem IT(ok:HOk P w H h)(e:H a=some (.dK kvs)):kvs.length<=sizeLine/\(a==sysModules)=false/\∃vs,KV kvs vs/\h.DictOf (BL P w) a vs:=SG ok (.inl e)
theorem Px{ks:List Key}(ok:HOk P w H h)(e:H a=some (.tup (ks.map kV))):(tupleKind (BL P w)).is h ks a:=by
 obtain⟨_,its,r,o,h1,h2,n,h3⟩:=(show ObjOk P w H h a (.tup (ks.map kV)) from ok a _ e);exact⟨o,its.toArray,n,h1,h2,h3,by simpa using N1 r⟩
theorem Yz{kvs:List (List Key×V)}(ok:HOk P w H h)(e:Rd H a (.dT kvs)):kvs.length<=sizeLine/\(a==sysModules)=false/\
 ∃xs,KT H kvs xs/\h.DictOfH (tupleKind (BL P w)) a xs:=by
 clear 5((show ObjOk P w H h a (.dT kvs) from YQ ok e))z y xs r o es ep h1 h2 h3 h4 h5;refine⟨z,y,xs,r,o,es,ep,h1,h2,h3,h4,λx hx=>?_,h5⟩;have all:∀{l:List (List Key×V)}{m:List (List Key×mm×mj)},KT H l m->∀x∈m,(tupleKind (BL P w)).is h x.1 x.2.1:=by
  intro l m q
  induction q with
  |nil=>intro x hx;exact nomatch hx
  |@cons p q ps qs hq t ih=>
    intro x hx;rcases ul1.mp hx with e|hx
    .subst e;exact Px ok (by rw[<-hq.1];exact hq.2.1)
    .exact ih x hx
 exact all r x hx
end
def DGet(H:Hp)(a:mm)(y:V)(r:Option V):Prop:=
 (∃kvs k,Rd H a (.dK kvs)/\y=kV k/\r=D9 kvs k)\/∃kvs k b,Rd H a (.dT kvs)/\y=.ref b/\H b=some (.tup (k.map kV))/\r=D9 kvs k
theorem DGet.k{a:mm}{k:Key}(e:H a=some (.dK kvs)):DGet H a (kV k) (D9 kvs k):=.inl ⟨kvs,k,.inl e,rfl,rfl⟩
section
variable{X:Cx}{mi:List (mm×Obj)}{σ:St}{H:Hp}{s:mn}{a:mm}{y v:V}{u r:mj}{o:Option V}{A:Around}{E:mj->mn->Prop}
theorem Inv.big(I:Inv X mi σ H s):sysModules<s.heap.objs.size:=by
 have h:mainGlobals<s.heap.objs.size:=(I.mod.glob.keeps I.bk).lt;exact pH (by decide) h
theorem jg{Q:mj->mn->Prop}(hu:A.units+1<cLine)(I:Inv X mi σ H s)(g:DGet H a y o)(ry:RelV y u)(h:∀s',Inv X mi σ H s'->Q (.bool o.isSome) s') :
 wpAny (model X.prog X.w) A (compareOp .In u (.ref a)) Q E s:=by
 rcases g with⟨kvs,k,e,ey,l⟩|⟨kvs,k,b,e,ey,eb,l⟩
 .subst ey;clear 5(SG I.hok e)z hd vs rel dd;refine wpAny_in_of (HK ry) hd dd.mapOf ?_;rw[<-(rel.val k).isSome_eq,<-l];exact h _ (I.tok _)
 .subst ey
  cases (show u=Value.ref b from ry)
  clear 5(Yz I.hok e)z hd xs rel dd;refine wpAny_in_heap (tupleKind_room_in1 hu) (Px I.hok eb) hd dd ?_;have q:=(rel.val k).isSome_eq;rw[Option.isSome_map] at q;rw[<-q,<-l];exact h _ (I.tok _)
theorem Zo{Q:mj->mn->Prop}(hu:A.units+1<cLine)(I:Inv X mi σ H s)(g:DGet H a y o)(ry:RelV y u)(h:∀s',Inv X mi σ H s'->Q (.bool (!o.isSome)) s') :
 wpAny (model X.prog X.w) A (compareOp .NotIn u (.ref a)) Q E s:=by
 rcases g with⟨kvs,k,e,ey,l⟩|⟨kvs,k,b,e,ey,eb,l⟩
 .subst ey;clear 5(SG I.hok e)z hd vs rel dd;refine wpAny_notIn_of (HK ry) hd dd.mapOf ?_;rw[<-(rel.val k).isSome_eq,<-l];exact h _ (I.tok _)
 .subst ey
  cases (show u=Value.ref b from ry)
  clear 5(Yz I.hok e)z hd xs rel dd;refine wpAny_notIn_heap (tupleKind_room_in1 hu) (Px I.hok eb) hd dd ?_;have q:=(rel.val k).isSome_eq;rw[Option.isSome_map] at q;rw[<-q,<-l];exact h _ (I.tok _)
theorem Nc{h':Heap}{t':Nat}{ob:HO}(I:Inv X mi σ H s)(mu:Mut (H a))(hs:Heap.SameBut a s.heap h')(he:∃q,h'.get? a=some q)(new:ObjOk X.prog X.w (upd H a ob) h' a ob) :
 Inv X mi σ (upd H a ob) {s with heap:=h',toks:=t'}:=
 I.write (x:=a) (e:=a) mu (.inl rfl) (λb q hb z=>(hs.2 b hb).trans z) he new
theorem L9{H':Hp}{h':Heap}{vs:List (Key×mj)}(z:kvs.length<=sizeLine)(hd:(a==sysModules)=false)(rel:KV kvs vs)(dd:h'.DictOf (BL P w) a vs) :
 ObjOk P w H' h' a (.dK kvs):=⟨z,hd,vs,rel,dd⟩
end
section
variable{X:Cx}{mi:List (mm×Obj)}{σ:St}{H:Hp}{s:mn}{a:mm}{kvs:List (Key×V)}{k:Key}{u:mj}{A:Around}{E:mj->mn->Prop}
end
section
variable{X:Cx}{o i e value:Expr}{pos pos' tpos:Pos}{td ty tv:TE}
end
theorem O7(h:Heap)(hb:sysModules<h.objs.size):ObjOk P w H (h.push {cls:=.type "dict",data:=.dict #[]}) h.objs.size (.dK []):=
 ⟨un7 _,om.mpr (Ne.symm (um5 hb)),[],.nil,Heap.DictOf.new h⟩
def fD:TE:=λ_ H Q=>∀p,H p=none->Q (.ref p) (upd H p (.dK []))
section
variable{X:Cx}{pos:Pos}
theorem Xw:PE X (.Dict [] [] pos) fD:=λmi s σ H Q I h=>
 wpAny_Dict_empty ⟨.ref s.heap.objs.size,_,I.laid (a:=s.heap.objs.size) (o:=.dK []) (t':=s.toks) (λ_ _ q=>ub7 _ q) (un6 _) (O7 s.heap I.big),rfl,h _ (I.hok.fresh (un6 _))⟩
end
def MG:List (TE×TE)->St->Hp->(List (V×V)->Hp->Prop)->Prop
 |[],_,H,Q=>Q [] H
 |(tk,tv)::r,σ,H,Q=>tk σ H λx H1=>tv σ H1 λy H2=>MG r σ H2 λps H3=>Q ((x,y)::ps) H3
abbrev VV:List (V×V)->List (mj×mj)->Prop:=Paired λp q=>RelV p.1 q.1/\RelV p.2 q.2
def PPs(X:Cx)(pos:Pos)(keys:List (Option Expr))(values:List Expr)(trs:List (TE×TE)):Prop:=
 ∀(mi:List (mm×Obj)) (s:mn) (σ:St) (H:Hp) (Q:List (V×V)->Hp->Prop),Inv X mi σ H s->MG trs σ H Q->
  wpAny (model X.prog X.w) X.A (evalPairs (pairTrees keys values X.env pos)) (λvs s'=>∃ps H',Inv X mi σ H' s'/\VV ps vs/\Q ps H') X.xe s
theorem RM{pos:Pos}:PPs X pos [] [] []:=λmi s σ H Q I h=>pairTrees_nil_walk ⟨[],H,I,.nil,h⟩
theorem Qc{pos:Pos}{k v:Expr}{ks:List (Option Expr)}{vs:List Expr}{tk tv:TE}{trs:List (TE×TE)}(hk:PE X k tk)(hv:PE X v tv)(hr:PPs X pos ks vs trs) :
 PPs X pos (some k::ks) (v::vs) ((tk,tv)::trs):=λmi s σ H Q I h=>
 pairTrees_cons_walk (thn (hk mi s σ H _ I h) λu s1 ⟨x,H1,I1,rx,q1⟩=>thn (hv mi s1 σ H1 _ I1 q1) λw2 s2 ⟨y,H2,I2,ry,q2⟩=>
  thn (hr mi s2 σ H2 _ I2 q2) λws s3 ⟨ps,H3,I3,rel,q3⟩=>⟨(x,y)::ps,H3,I3,.cons ⟨rx,ry⟩ rel,q3⟩)
def Ge(kvs more:List (Key×V)):List (Key×V):=more.foldl (λacc kv=>D3 acc kv.1 kv.2) kvs
theorem KV.merge:∀{more:List (Key×V)}{rs:List (Key×mj)}{kvs:List (Key×V)}{vs:List (Key×mj)},KV more rs->KV kvs vs->KV (Ge kvs more) (merged vs rs):=by
 intro more rs kvs vs r;unfold KV at r
 induction r generalizing kvs vs with
 |nil=>intro q;exact q
 |@cons p q ps qs h t ih=>
   intro r0;have e:KV (D3 kvs p.1 p.2) (stored vs q.1 q.2):=by
    have:=r0.put p.1 h.2;rw[<-h.1];exact this
   exact ih e
theorem Jy:∀(more kvs:List (Key×V)),(Ge kvs more).length<=kvs.length+more.length
 |[],kvs=>by show kvs.length<=kvs.length+0;lia
 |p::r,kvs=>by
   have h1:=Jy r (D3 kvs p.1 p.2);have h2:=H9 kvs p.1 p.2;show(Ge (D3 kvs p.1 p.2) r).length<=_;rw[ug9];lia
theorem L5{P:mq}{w:mw}:∀{kvs:List (Key×V)}{ws:List (mj×mj)},VV (kvs.map λkv=>(kV kv.1,kv.2)) ws->∃rs,Carries (BL P w) ws rs/\KV kvs rs
 |[],_,r=>by rw[um9] at r;cases r;exact⟨[],True.intro,.nil⟩
 |p::kvs,_,r=>by
   rw[ul2] at r
   cases r with
   |@cons a b as bs h t=>
     clear 5(L5 (P:=P) (w:=w) t)rs c q;clear 5 b b1 b2;exact⟨(p.1,b2)::rs,⟨HK h.1,rfl,c⟩,.cons ⟨rfl,h.2⟩ q⟩
def ia(trs:List (TE×TE)):TE:=λσ H Q=>∀p,H p=none->MG trs σ (upd H p (.dK [])) λps H2=>H2 p=some (.dK [])/\∃kvs:List (Key×V),ps=kvs.map (λkv=>(kV kv.1,kv.2))/\kvs.length<=15/\Q (.ref p) (upd H2 p (.dK (Ge [] kvs)))
theorem RL{pos:Pos}{keys:List (Option Expr)}{values:List Expr}{trs:List (TE×TE)}(h:PPs X pos keys values trs)(hall:keys.all (·.isSome)=true)(hl:keys.length=values.length)(h0:keys≠[])
 (h15:keys.length<=15):PE X (.Dict keys values pos) (ia trs):=by
 intro mi s σ H Q I q;have hn:=I.hok.fresh (un6 s.heap.objs.size);have I1:=I.laid (a:=s.heap.objs.size) (o:=.dK []) (h':=s.heap.push {cls:=.type "dict",data:=.dict #[]}) (t':=s.toks) (λ_ _ q=>ub7 _ q) (un6 _) (O7 s.heap I.big);refine wpAny_Dict_walk (knd:=BL X.prog X.w) hall hl h0 h15 (thn (h mi _ σ _ _ I1 (q _ hn)) λws s2 z9=>?_);clear 5 z9 ps H2 I2 rel e kvs ep lk q2;subst ep;clear 5(L5 (P:=X.prog) (w:=X.w) rel)rs c rk;clear 5(IT I2.hok e)z hd vs0 r0 dd
 cases r0
 refine⟨rs,c,dd,λh' dd' hs=>⟨.ref s.heap.objs.size,_,?_,rfl,q2⟩⟩;have hz:(Ge [] kvs).length<=sizeLine:=by
  have h1:=Jy kvs [];rw[uj5] at h1;rw[pL];lia
 have he:∃q,h'.get? s.heap.objs.size=some q:=let ⟨q,_,_,hq,_⟩:=dd';⟨q,hq⟩;exact Nc I2 (by rw[e];exact True.intro) hs he (L9 hz hd (rk.merge .nil) dd')
theorem G6{env:Env}:∀(l:List (Str×NameKind)) (cs:List (Str×mm)),(∀x c,cs.lookup x=some c->env.cells.lookup x=some c)->(∀y∈l,y.2=.free->∃c,env.cells.lookup y.1=some c)->
 ∃cl,(forIn l cs λ(x:Str×NameKind) r=>(match x with|(name,kind)=>if (kind==NameKind.free)=true then do let c <-cellOf env name;pure (ForInStep.yield ((name,c)::r)) else pure (ForInStep.yield r):Sem (ForInStep (List (Str×mm)))))=pure cl/\
  (∀x c,cl.lookup x=some c->env.cells.lookup x=some c)/\(∀x c,cs.lookup x=some c->∃c',cl.lookup x=some c')/\∀y∈l,y.2=.free->∃c,cl.lookup y.1=some c
 |[],cs,h,_=>⟨cs,rfl,h,λ_ c e=>⟨c,e⟩,λ_ z=>nomatch z⟩
 |(n,k)::l,cs,h,hf=>by
   by_cases hk:k=.free
   .subst hk;clear 5(hf (n,.free) ue6 rfl)c hc;have hc':env.cells.lookup n=some c:=hc;have e:cellOf env n=pure c:=by unfold cellOf;rw[hc']
    obtain⟨cl,e1,e2,e3,e4⟩:=G6 l ((n,c)::cs) (λx c' q=>by
     rw[List.lookup_cons] at q
     by_cases hx:(x==n)=true
     .rw[hx] at q;cases q;rw[eq_of_beq hx];exact hc'
     .rw[Bool.eq_false_iff.mpr hx] at q;exact h x c' q) (λy hy=>hf y (ud1 _ hy))
    have self:((n,c)::cs).lookup n=some c:=by rw[List.lookup_cons,ui4]
    refine⟨cl,?_,e2,λx c' q=>?_,λy hy hyf=>?_⟩
    .rw[List.forIn_cons];simp only[ui4,pU,e];exact e1
    .by_cases hx:(x==n)=true
     .rw[eq_of_beq hx];exact e3 n c self
     .exact e3 x c' (by rw[List.lookup_cons,Bool.eq_false_iff.mpr hx];exact q)
    .rcases ul1.mp hy with z|z
     .subst z;exact e3 n c self
     .exact e4 y z hyf
   .have hb:(k==NameKind.free)=false:=by simpa using hk
    clear 5(G6 l cs h (λy hy=>hf y (ud1 _ hy)))cl e1 e2 e3 e4;refine⟨cl,?_,e2,e3,λy hy hyf=>?_⟩
    .rw[List.forIn_cons];simp only[hb,uf0,pR];exact e1
    .rcases ul1.mp hy with z|z
     .subst z;exact absurd hyf hk
     .exact e4 y z hyf
theorem L7{scope:Scope}{env:Env}(h:∀y∈scope.names,y.2=.free->∃c,env.cells.lookup y.1=some c) :
 ∃cl,closureFor scope env=pure cl/\(∀x c,cl.lookup x=some c->env.cells.lookup x=some c)/\∀y∈scope.names,y.2=.free->∃c,cl.lookup y.1=some c:=by
 obtain⟨cl,e1,e2,_,e4⟩:=G6 (env:=env) scope.names [] (λ_ _ q=>nomatch q) h;refine⟨cl,?_,e2,e4⟩;simp only[closureFor]
 first|(rw[e1];rfl)|(simp only[e1];rfl)|(trace_state;exact e1)
theorem O5{prog:mq}{A:Around}{R:Result->mn->Prop}{s:mn}{elt target iter:Expr}{ifs:List Expr}{scope:Scope}{pos:Pos}{it acc:mj}{env:Env}(I:Nat->mn->Prop)
 (turn:∀n s,I n s->wpAny (model prog w) A (pyNext it) (λr s₁=>match r with
   |none=>R (.ok .next) s₁
   | some v=>wpAny (model prog w) A (letOwnedTupleGo target it v) (λ_ s₁'=>wpAny (model prog w) A (assign target env v) (λ_ s₂=>
      wpAny (model prog w) A (forIn ifs true λc r=>if r=true then do let ok <-isTrue c env (eval c env);pure (ForInStep.yield ok) else pure (ForInStep.yield r)) (λok s₃=>
       if ok=true then wpAny (model prog w) A (eval elt env) (λx s₄=>
        wpAny (model prog w) A (call (.builtin "list.append") [acc,x]) (λ_ s₅=>∃m,m<n/\I m s₅) (λ_ _=>False) s₄) (λ_ _=>False) s₃
       else ∃m,m<n/\I m s₃) (λ_ _=>False) s₂) (λ_ _=>False) s₁') (λ_ _=>False) s₁) (λ_ _=>False) s)
 (n:Nat) (h:I n s) :
 codeAny (model prog w) A (.compLoop (.ListComp elt [⟨target,iter,ifs,0⟩] scope pos) 0 it acc env) R s:=by
 refine codeAny_loop rfl I (λn s hI=>?_) n h;show wpAny _ A ((compTurn (.ListComp elt [⟨target,iter,ifs,0⟩] scope pos) 0 it acc env).onRaise (λx=>do noteFrame x env;theTreesLotGoes x)) _ _ s;refine wpAny_noted ?_;rw[compTurn_list];refine uo0 (pA (uo0 (uo2 (turn n s hI) (λr s₁ h₁=>?_) λ_ _ h'=>h'.elim)))
 cases r with
 |none=>exact uo1 h₁
 |some v=>
   refine uo0 (uo2 h₁ (λ_ s₁' h₁'=>?_) λ_ _ h'=>h'.elim);refine uo0 (uo2 h₁' (λ_ s₂ h₂=>uo0 (uo2 h₂ (λok s₃ h₃=>?_) λ_ _ h'=>h'.elim)) λ_ _ h'=>h'.elim)
   cases ok with
   |false=>exact uo1 ⟨rfl,h₃⟩
   |true=>
     exact uo0 (uo0 (uo2 h₃ (λx s₄ h₄=>uo0 (uo2 h₄ (λ_ s₅ h₅=>uo1 (uo1 ⟨rfl,h₅⟩)) λ_ _ h'=>h'.elim)) λ_ _ h'=>h'.elim))
end
noncomputable def C3(X:Cx)(N':List Str)(scope:Scope)(cl:List (Str×mm))(C:mm)(s2:mn)(H2:Hp)(fp:List mm):Cx where
 prog:=X.prog
 w:=X.w
 K:=X.K
 mg:=X.mg
 base:=X.base
 A:=X.A
 N:=N'
 s₀:=s2
 H₀:=H2
 env:=compEnvC scope cl C X.env
 outer:=X.stack
 stack:=X.stack
 ex:=fp
 fn:=λx=>scope.names.lookup x==some .cell
 calm:=X.calm
 pn:=[]
 xe:=λ_ _=>False
theorem K4(h:Str->NameKind->NameKind)(x:Str):∀l:List (Str×NameKind),(l.map λp=>(p.1,h p.1 p.2)).lookup x=(l.lookup x).map (h x)
 |[]=>rfl
 |(n,k)::l=>by
   show List.lookup x ((n,h n k)::_)=_;rw[List.lookup_cons,List.lookup_cons]
   by_cases hx:(x==n)=true
   .rw[hx,eq_of_beq hx];rfl
   .rw[Bool.eq_false_iff.mpr hx];exact K4 h x l
theorem IA(scope:Scope)(env:Env)(x:Str):(relabel scope env).names.lookup x=(scope.names.lookup x).map λk=>if (k==.free&&env.scope.kind==.function&&env.kindOf x==some .cell)=true then .cell else k:=by
 rw[<-K4 (λn k=>if (k==NameKind.free&&env.scope.kind==.function&&env.kindOf n==some .cell)=true then .cell else k) x scope.names];unfold relabel;dsimp only
 congr 1
 apply List.map_congr_left;intro p _;clear 5 p n k;dsimp only
 split<;>rfl
theorem CZ{x:Str}{k:NameKind}:∀{l:List (Str×NameKind)},l.lookup x=some k->(x,k)∈l
 |(n,k')::l,h=>by
   rw[List.lookup_cons] at h
   by_cases hx:(x==n)=true
   .rw[hx] at h;cases h;rw[eq_of_beq hx];exact ue6
   .rw[Bool.eq_false_iff.mpr hx] at h;exact ud1 _ (CZ h)
theorem Qj{scope:Scope}{env:Env}{x:Str}(h:(relabel scope env).names.lookup x=some .cell\/(relabel scope env).names.lookup x=some .free):scope.names.lookup x=some .free\/scope.names.lookup x=some .cell:=by
 rw[IA] at h
 cases e:scope.names.lookup x with
 |none=>rw[e] at h;rcases h with h|h<;>cases h
 |some k=>
   by_cases hk:k=.free
   .rw[hk];exact .inl rfl
   .have hb:(k==NameKind.free)=false:=by simpa using hk
    rw[e] at h;simp only[Option.map_some,hb,uk5,uf0,pR] at h;rcases h with h|h
    .cases h;exact .inr rfl
    .cases h;exact absurd rfl hk
def PIf(X:Cx)(ifs:List Expr)(t:TT):Prop:=
 ∀(mi:List (mm×Obj)) (s:mn) (σ:St) (H:Hp) (Q:Bool->Hp->Prop),Inv X mi σ H s->t σ H Q->
  wpAny (model X.prog X.w) X.A (forIn ifs true λc r=>if r=true then do let ok <-isTrue c X.env (eval c X.env);pure (ForInStep.yield ok) else pure (ForInStep.yield r)) (TP X mi σ Q) X.xe s
def ig:TT:=λ_ H Q=>Q true H
theorem ax{X:Cx}:PIf X [] ig:=λ_ _ _ H _ I h=>wpAny_tests_nil ⟨H,I,h⟩
theorem ay{X:Cx}{c:Expr}{t:TT}(h:PT X c t):PIf X [c] t:=λmi s σ H Q I q=>wpAny_tests_one (h mi s σ H Q I q)
def VU(J:It)(g:TG)(tt:TT)(te:TE)(σ₀:St)(H1:Hp)(Fin:List V->Hp->Prop):Prop:=
 ∃W:Nat->Nat->List V->St->Hp->Prop,(∃m,W 0 m [] σ₀ H1)/\∀i m acc σ' H',W i m acc σ' H'->acc.length<=sizeLine/\
  ((J.stop i H'/\Fin acc H')\/
    (J.go i H'/\∀x H2,J.yld i H' x H2->g x σ' H2 λσ3 H3=>tt σ3 H3 λb H4=>if b=true then te σ3 H4 λv H5=>∃m',m'<m/\W (i+1) m' (acc++[v]) σ3 H5 else ∃m',m'<m/\W (i+1) m' acc σ3 H4))
def Tu(wi:TI)(g:TG)(tt:TT)(te:TE)(σf:St->St):TE:=λσ H Q=>wi σ H λJ H1=>VU J g tt te (σf σ) H1 λacc H'=>∀p,H' p=none->acc.length<=sizeLine->Q (.ref p) (upd H' p (.lst acc))
section
variable{cl:List (Str×mm)}
section
variable{M:Model}{A:Around}{E:mj->mn->Prop}{s:mn}
theorem Z7{scope:Scope}{globals:mm}{qual:Str}{env:Env}{Q:Env->mn->Prop}
 (hQ:Q (newEnv scope s.heap.objs.size globals (cellsFrom (s.heap.objs.size+1) scope.names cl) qual none .none (some env) builtinsNs) {s with heap:=pushCells (s.heap.push {cls:=.type "dict",data:=.dict #[]}) scope.names}) :
 wpAny M A (newFunctionEnv scope globals cl [] qual none .none (some env)) Q E s:=by
 simp only[newFunctionEnv,Option.isSome_some,pU];refine uo0 (wpAny_alloc ?_);refine uo0 (wpAny_layCells _ (λname kind cells=>by cases hkc:kind==NameKind.cell<;>simp[hkc]) _ _ _ _ ?_);rw[show({s with heap:=s.heap.push {cls:=.type "dict",data:=.dict #[]} }:mn).heap.objs.size=s.heap.objs.size+1 from PySem.Heap.size_push ..];exact uo0 (uo1 (uo1 hQ))
end
structure CmpOk(X:Cx)(scope:Scope)(N':List Str)(σf:St->St):Prop where
 kind:scope.kind=.function
 cf:∃k:Option Str,(∀n cl,cellsFrom n scope.names cl=match k with|none=>cl|some x=>(x,n)::cl)/\(∀y,scope.names.lookup y=some .cell->k=some y)/\(∀y,k=some y->scope.names.lookup y=some .cell)
 loc:∀y∈scope.names,y.2=.local->scope.names.lookup y.1=some .local
 free:∀y∈scope.names,y.2=.free->X.env.kindOf y.1=some .cell\/X.env.kindOf y.1=some .free
 len:∀σ:St,σ.length=X.N.length->(σf σ).length=N'.length
 vals:∀(σ:St) (j:Nat) (x:Str) (v:V),N'[j]?=some x->(σf σ)[j]?=some (some v)->∃i:Nat,X.N[i]?=some x/\σ[i]?=some (some v)/\scope.names.lookup x=some .free
variable{mi:List (mm×Obj)}{σ:St}{H2:Hp}{s2:mn}{fp:List mm}
section
variable{X:Cx}{tg elt iter:Expr}{ifs:List Expr}{scope:Scope}{pos:Pos}{N':List Str}{wi:TI}{g:TG}{tt:TT}{te:TE}{σf:St->St}
theorem cD{C:mm}(O:CmpOk X scope N' σf)(I2:Inv X mi σ H2 s2)(f2:∀b∈fp,FpOk X mi H2 b)(hC:s2.heap.objs.size<=C)
 (hlt:∀b∈fp,b<s2.heap.objs.size) (e3:∀x c,cl.lookup x=some c->X.env.cells.lookup x=some c\/s2.heap.objs.size<=c) (ei:∀x y c,cl.lookup x=some c->cl.lookup y=some c->x=y) (e5:∀x c,scope.names.lookup x=some .cell->cl.lookup x=some c->s2.heap.objs.size<=c) (e4:∀y,scope.names.lookup y=some .free\/scope.names.lookup y=some .cell->∃c,cl.lookup y=some c):(C3 X N' scope cl C s2 H2 fp).Ok where
 mod:=I2.ok.mod
 kind:=O.kind
 glob:=I2.ok.glob
 blt:=I2.ok.blt
 above:=hC
 inj:=ei
 has:=λx h=>e4 x (Qj (env:=X.env) (x:=x) h)
 cab:=λx c h e=>e5 x c (by simpa[C3] using h) e
 hd:=I2.ok.hd
 frames:=I2.ok.frames
 stk:=.inl rfl
 exf:=λb hb=>⟨um5 (ue5 (hlt b hb) hC),λx c e=>(e3 x c e).elim (λz=>(f2 b hb).2.2.2.2.1 x c z) λz=>um8 (ue5 (hlt b hb) z)⟩
 bs:=I2.bs
 bsz:=um6 I2.ok.bsz I2.sz
 noex:=λb o e hb=>by
  rcases (f2 b hb).2.2.2.1 with z|z
  .exact I2.ok.noex b o e z
  .exact absurd (ue5 (um4 (I2.ok.bs b o e).1) z) (Nat.lt_irrefl _)
 exfs:=λb hb z=>by
  rcases ul1.mp (I2.stkSub b z) with q|q
  .exact(f2 b hb).2.1 q
  .exact(f2 b hb).2.2.1 q
 funs:=I2.stack
 frf:=I2.stkFree
theorem fv(I2:Inv X mi σ H2 s2){a:mm}(h:s2.heap.objs.size<=a):a∉frs X.stack:=λhb=>by
 rcases ul1.mp (I2.stkSub a hb) with q|q
 .exact absurd (ue5 I2.lt h) (by rw[q];exact Nat.lt_irrefl _)
 .exact I2.nofs h q
theorem OM{it:mm}{tn:Nat->Heap->Prop}{J:It}{Fin:List V->Hp->Prop}{RR:mj->mm->Result->mn->Prop}{E:mj->mn->Prop}(O:CmpOk X scope N' σf)(hc:X.calm=true)
 (I2:Inv X mi σ H2 s2) (T:Turn X.prog X.w X.K tg J fp it tn) (st2:tn 0 s2.heap) (f2:∀b∈fp,FpOk X mi H2 b)
 (e2:∀x c,cl.lookup x=some c->X.env.cells.lookup x=some c) (e4:∀y∈scope.names,y.2=.free->∃c,cl.lookup y.1=some c)
 (hg:∀cl C,PG (C3 X N' scope cl C s2 H2 fp) tg g) (ht:∀cl C,PIf (C3 X N' scope cl C s2 H2 fp) ifs tt) (he:∀cl C,PE (C3 X N' scope cl C s2 H2 fp) elt te)
 (B:VU J g tt te (σf σ) H2 Fin)
 (fin:∀cl C s' σ' H' acc m,s2.heap.objs.size<=C->C≠s2.heap.objs.size->Inv (C3 X N' scope cl C s2 H2 fp) [] σ' H' s'->H' s2.heap.objs.size=none->acc.length<=sizeLine->(∃its n,Vals acc its/\s'.heap.get? s2.heap.objs.size=some { cls:=.type "list",data:=.seq its.toArray n })->Fin acc H'->s'.heap.Ns C m->
   RR (.ref s2.heap.objs.size) C (.ok .next) s') :
 wpAny (model X.prog X.w) X.A (newList []) (λacc s₃=>wpAny (model X.prog X.w) X.A (newFunctionEnv scope X.env.globals cl [] X.env.qual none .none (some X.env)) (λcenv s₄=>
  codeAny (model X.prog X.w) X.A (.compStart (.ListComp elt [⟨tg,iter,ifs,0⟩] scope pos) 0 (.ref it) acc {cenv with scope:=relabel scope X.env}) (RR acc cenv.locals) s₄) E s₃) E s2:=by
 refine PySem.wpAny_newObj_type (Z7 ?_);dsimp only;generalize hH2:s2.heap.push {cls:=.type "list",dict:=none,data:=.seq ([]:List mj).toArray}=HP;have hC:HP.objs.size=s2.heap.objs.size+1:=by rw[<-hH2,PySem.Heap.size_push]
 generalize hDD:s2.heap.objs.size=DD at *;generalize hCC:HP.objs.size=CC at *;clear 5 O.cf kc hcf hk1 hk2;obtain⟨h₁,hh₁⟩:∃h₁,h₁=pushCells (HP.push {cls:=.type "dict",data:=.dict #[]}) scope.names:=⟨_,rfl⟩;obtain⟨cs,hcs⟩:∃cs,cs=cellsFrom (CC+1) scope.names cl:=⟨_,rfl⟩;rw[<-hh₁,<-hcs];have hkp:∀b o,HP.get? b=some o->h₁.get? b=some o:=λb o e=>by rw[hh₁];exact pushCells_keeps _ _ b o (ub7 _ e)
 have hns₁:h₁.Ns CC (λ_=>none):=by rw[hh₁,<-hCC];exact(Heap.Ns.new HP (.type "dict")).keeps (pushCells_keeps _ _)
 have hcn:∀k,kc=some k->h₁.IsCell (CC+1) none:=λk hk=>by
  have ok:=cellsFrom_ok scope.names (HP.push {cls:=.type "dict",data:=.dict #[]}) (CC+1) [] ⟨λ_ _ hm=>(nomatch hm),List.Pairwise.nil⟩ (by rw[PySem.Heap.size_push,hCC];exact un6 _);rw[PySem.Heap.size_push,hCC,hcf,hk,<-hh₁] at ok;exact(ok.empty k (CC+1) ue6).1
 have hDC:DD≠CC:=by rw[hC];exact um5 (uh0 _)
 have hCle:s2.heap.objs.size<=CC:=by rw[hC,hDD];exact Nat.le_succ _
 have hlt:∀b∈fp,b<s2.heap.objs.size:=λb hb=>by obtain⟨o,e,_⟩:=T.obj _ _ st2 b hb;exact um4 e
 have hlt':∀b∈fp,b<DD:=λb hb=>by rw[<-hDD];exact hlt b hb
 have below:∀b,b<DD->b≠CC/\b≠DD:=λb hb=>⟨by rw[hC];exact um5 (Nat.lt_succ_of_lt hb),um5 hb⟩;have old:∀b o,s2.heap.get? b=some o->h₁.get? b=some o:=λb o e=>hkp b o (hH2 ▸ ub7 _ e);have hacc:h₁.get? DD=some {cls:=.type "list",data:=.seq ([]:List mj).toArray}:=by
  refine hkp _ _ ?_;rw[<-hH2,<-hDD];exact ud8 _ rfl
 have lt2:∀x c,X.env.cells.lookup x=some c->c<s2.heap.objs.size:=λx c e=>by clear 5(I2.cell x c e)v q;exact q.lt
 have hCn:s2.heap.objs.size<=CC+1:=Nat.le_succ_of_le hCle;have cs0:∀x c,cs.lookup x=some c->(kc=some x/\c=CC+1)\/(kc≠some x/\cl.lookup x=some c):=λx c e=>by
  rw[hcs,hcf] at e
  cases kc with
  |none=>exact .inr ⟨by simp,e⟩
  |some k=>
    dsimp only at e;rw[List.lookup_cons] at e
    by_cases q:(x==k)=true
    .rw[q] at e;cases e;exact .inl ⟨by rw[eq_of_beq q],rfl⟩
    .rw[Bool.eq_false_iff.mpr q] at e;exact .inr ⟨λz=>q (by cases z;simp),e⟩
 have cs1:∀x c,cl.lookup x=some c->kc≠some x->cs.lookup x=some c:=λx c e n=>by
  rw[hcs,hcf]
  cases kc with
  |none=>exact e
  |some k=>
    dsimp only;rw[List.lookup_cons,show(x==k)=false from by simpa using λz=>n (by rw[z])];exact e
 have cs2:∀k,kc=some k->cs.lookup k=some (CC+1):=λk hk=>by
  rw[hcs,hcf,hk];dsimp only;rw[List.lookup_cons,ui4]
 have fn0:∀x,scope.names.lookup x=some .free->kc≠some x:=λx h z=>by rw[hk2 x z] at h;cases h
 have ok:=cD (cl:=cs) (C:=CC) O I2 f2 hCle hlt (λx c e=>(cs0 x c e).elim (λz=>.inr (by rw[z.2];exact hCn)) λz=>.inl (e2 x c z.2))
  (λx y c h1 h2=>by
    rcases cs0 x c h1 with z|z<;>rcases cs0 y c h2 with z'|z'
    .have:=z.1.symm.trans z'.1;cases this;rfl
    .have:=lt2 y c (e2 y c z'.2);rw[z.2] at this;exact absurd (ue5 this hCn) (Nat.lt_irrefl _)
    .have:=lt2 x c (e2 x c z.2);rw[z'.2] at this;exact absurd (ue5 this hCn) (Nat.lt_irrefl _)
    .exact I2.ok.inj x y c (e2 x c z.2) (e2 y c z'.2))
  (λx c h e=>(cs0 x c e).elim (λz=>by rw[z.2];exact hCn) λz=>absurd (hk1 x h) z.1)
  (λy h=>h.elim (λz=>by clear 5(e4 _ (CZ z) rfl)c q;exact⟨c,cs1 y c q (fn0 y z)⟩) λz=>⟨_,cs2 y (hk1 y z)⟩)
 have hfs:DD∉frs X.stack:=fv I2 (by rw[hDD];exact un6 _);obtain⟨W,⟨m0,w0⟩,turn⟩:=B
 let X':Cx:=C3 X N' scope cs CC s2 H2 fp
 have I0:Inv X' [] (σf σ) H2 {s2 with heap:=h₁ }:=by
  refine⟨ok,rfl,I2.bare,Un.kept old,⟨_,hns₁,λj x v q1 q2 q3=>?_⟩,λx c e=>?_,I2.hok.fresh hCle,λx c e=>(cs0 x c e).elim (λz=>by rw[z.2];exact I2.hok.fresh hCn) (λz=>I2.freeC x c (e2 x c z.2)),(λp hp=>nomatch hp),I2.hok.kept old,O.len σ I2.len⟩
  .clear 5(O.vals σ j x v q1 q2)i n1 n2 n3;obtain⟨m,_,hl⟩:=I2.loc;have hfr:=O.free _ (CZ n3) rfl;clear 5(hl i x v n1 n2 (.inr hfr))u r l;refine⟨u,r,?_⟩;rcases l with⟨k,_⟩|⟨_,c,ec,hcell⟩
   .rcases hfr with z|z<;>(have z':=k.symm.trans z;cases z')
   .clear 5(e4 _ (CZ n3) rfl)c' ec';have z:=e2 _ _ ec';have ez:X.env.cells.lookup x=some c':=z;rw[ec] at ez
    cases ez
    refine .inr ⟨?_,c,cs1 x c ec' (fn0 x n3),?_⟩
    .show(relabel scope X.env).names.lookup x=some .cell\/(relabel scope X.env).names.lookup x=some .free;rw[IA,n3];simp only[Option.map_some]
     split
     .exact .inl rfl
     .exact .inr rfl
    .clear 5 hcell o ho hd;exact⟨o,old _ _ ho,hd⟩
  .rcases cs0 x c e with z|z
   .rw[z.2];exact⟨none,hcn x z.1⟩
   .clear 5(I2.cell x c (e2 x c z.2))v o ho hd;exact⟨v,o,old _ _ ho,hd⟩
 have loop:∀s₃:mn,s₃ = {s2 with heap:=h₁ }->
  codeAny (model X.prog X.w) X.A (.compLoop (.ListComp elt [⟨tg,iter,ifs,0⟩] scope pos) 0 (.ref it) (.ref DD) (compEnvC scope cs CC X.env)) (RR (.ref DD) CC) s₃:=by
  rintro s₃ rfl;refine O5 (λn s'=>XB6 λi acc its nn σ' H'=>AB7 (Inv X' [] σ' H' s') (tn i s'.heap) ((∀b∈fp,H' b=none)) (Vals acc its) (s'.heap.get? DD=some {cls:=.type "list",data:=.seq its.toArray nn}) (H' DD=none) (W i n acc σ' H')) ?_ m0
   ⟨0,[],[],0,σf σ,H2,I0,T.keep _ _ _ st2 (λb _ o e=>old b o e),λb hb=>(f2 b hb).1,.nil,hacc,I2.hok.fresh (by rw[hDD];exact un6 _),w0⟩
  rintro n s' ⟨i,acc,its,nn,σ3,H3,I3,st3,fr3,hv,hD,hDn,w3⟩;have I3p:Inv X' [(DD,({cls:=.type "list",data:=.seq its.toArray nn}:Obj))] σ3 H3 s':=I3.pins_of λp hp=>by
   have e:p=(DD,({cls:=.type "list",data:=.seq its.toArray nn}:Obj)):=by simpa using hp
   subst e;exact⟨hD,hDn,hDC,hfs,λv z=>nomatch z⟩
  have stat:∀{pins':List (mm×Obj)}{H':Hp},(∀p∈pins',p.1=DD)->(∀b∈fp,H' b=none)->∀b∈fp,FpOk X' pins' H' b:=λ{pins' H'} hp hn b hb=>
   ⟨hn b hb,(ok.exf b hb).1,ok.exfs b hb,.inl hb,(ok.exf b hb).2,λp hp' z=>by
    have e:p.1=DD:=hp p (by simpa[X',C3] using hp');exact absurd (hlt' b hb) (by rw[<-z,e];exact Nat.lt_irrefl _)⟩
  have one:∀p∈[(DD,({cls:=.type "list",data:=.seq its.toArray nn}:Obj))],p.1=DD:=λp hp=>by
   have e:p=(DD,({cls:=.type "list",data:=.seq its.toArray nn}:Obj)):=by simpa using hp
   rw[e]
  clear 5(turn i n acc σ3 H3 w3)hz tr;rcases tr with⟨stop,qf⟩|⟨go,step⟩
  .refine thn (T.done X' rfl rfl rfl hc i _ s' σ3 H3 (λ_ _=>False) I3p (stat one fr3) st3 stop) λr s4 z9=>?_;clear 5 z9 hr I4;subst hr;obtain⟨m4,hm4,_⟩:=I4.loc;have pD:=(I4.pin (DD,({cls:=.type "list",data:=.seq its.toArray nn}:Obj)) (by simp[X',C3])).1;have I4':Inv X' [] σ3 H3 s4:=I4.pins_of λp hp=>nomatch hp;exact fin cs CC s4 σ3 H3 acc m4 (by rw[hDD] at hCle;exact hCle) (Ne.symm hDC) I4' hDn hz ⟨its,nn,hv,pD⟩ qf hm4
  .refine thn (T.item X' rfl rfl rfl hc i _ s' σ3 H3 (λ_ _=>False) I3p (stat one fr3) st3 go) λr s4 z9=>?_;clear 5 z9 u hr h4;subst hr;refine thn h4 λ_ s5 z9=>?_;clear 5 z9 x H5 I5 r5 y5 st5 fr5;have I5':=I5.pinned (stat one fr5) (T.obj _ _ st5);refine thn (hg cs CC _ s5 σ3 H5 x u _ I5' r5 (step x H5 y5)) λ_ s6 z9=>?_;clear 5 z9 σ6 H6 I6 q6;refine thn (ht cs CC _ s6 σ6 H6 _ I6 q6) λb s7 z9=>?_;clear 5 z9 H7 I7 q7;have back:∀{H8:Hp}{s8:mn},Inv X' ([(DD,({cls:=.type "list",data:=.seq its.toArray nn}:Obj))]++Kc fp s5.heap) σ6 H8 s8->
    s8.heap.get? DD=some {cls:=.type "list",data:=.seq its.toArray nn}/\H8 DD=none/\tn (i+1) s8.heap/\(∀b∈fp,H8 b=none)/\Inv X' [] σ6 H8 s8:=λ{H8 s8} I8=>by
    have p1:=I8.pin (DD,({cls:=.type "list",data:=.seq its.toArray nn}:Obj)) (by simp[X',C3]);refine⟨p1.1,p1.2.1,T.keep _ _ _ st5 λb hb o e=>(I8.pin (b,o) (uc3 _ (uc3 _ (GJ hb e)))).1,λb hb=>?_,I8.pins_of λp hp=>nomatch hp⟩;obtain⟨o,e,_⟩:=T.obj _ _ st5 b hb;exact(I8.pin (b,o) (uc3 _ (uc3 _ (GJ hb e)))).2.1
   cases b with
   |false=>
     rw[pX ue7] at q7⊢;clear 5 q7 m' hm w7;clear 5(back I7)a1 a2 a3 a4 a5;exact⟨m',hm,i+1,acc,its,nn,σ6,H7,a5,a3,a4,hv,a1,a2,w7⟩
   |true=>
     rw[pW rfl] at q7⊢;refine thn (he cs CC _ s7 σ6 H7 _ I7 q7) λy s8 z9=>?_;clear 5 z9 v8 H8 I8 r8 m' hm w8;clear 5(back I8)a1 a2 a3 a4 a5;have hsz:its.toArray.size<=sizeLine:=by
      have e:=hv.length;simpa[e] using hz
     refine wpAny_list_append_plain (hsz:=hsz) ⟨nn,a1⟩ λh9 hl9 hs9=>?_;clear 5 hl9 n9 e9;have e9':h9.get? DD=some {cls:=.type "list",data:=.seq (its++[y]).toArray n9}:=by simpa using e9
     refine⟨m',hm,i+1,acc++[v8],its++[y],n9,σ6,H8,a5.turned (t':=s8.toks) (h':=h9) (it:=DD) (λb o hb e=>hs9.extBut b o hb e) a2 hDC (.inr (show s2.heap.objs.size<=DD by rw[hDD];exact un6 _)) (λx' c e z=>?_) (λp hp=>nomatch hp),T.keep _ _ _ a3 λb hb o e=>hs9.extBut b o (um5 (hlt' b hb)) e,a4,hv.append (.cons r8 .nil),e9',a2,w8⟩;rcases cs0 x' c e with q|q
     .rw[q.2] at z;have z2:s2.heap.objs.size<=CC:=by rw[hDD];rw[hDD] at hCle;exact hCle
      rw[hDD,<-z] at z2;exact Nat.lt_irrefl _ z2
     .have:=lt2 x' c (e2 x' c q.2);rw[hDD,z] at this;exact Nat.lt_irrefl _ this
 exact codeAny_compStart_list (loop _ rfl) (T.self _ 0 _ _ _ (T.keep _ _ _ st2 λb _ o e=>old b o e) (loop _ rfl))
end
section
variable{X:Cx}{tg elt iter:Expr}{ifs:List Expr}{scope:Scope}{pos:Pos}{N':List Str}{wi:TI}{g:TG}{tt:TT}{te:TE}{σf:St->St}
theorem NU{σ':St}{H':Hp}{s':mn}{C:mm}{acc:List V}{its:List mj}{n:Nat}{h':Heap}(I2:Inv X mi σ H2 s2)(f2:∀b∈fp,FpOk X mi H2 b)
 (hC:s2.heap.objs.size<=C) (hCD:C≠s2.heap.objs.size) (I':Inv (C3 X N' scope cl C s2 H2 fp) [] σ' H' s') (hDn:H' s2.heap.objs.size=none) (hz:acc.length<=sizeLine) (hv:Vals acc its)
 (hD:s'.heap.get? s2.heap.objs.size=some {cls:=.type "list",data:=.seq its.toArray n}) (hs:Heap.SameBut C s'.heap h') :
 Inv X mi σ (upd H' s2.heap.objs.size (.lst acc)) {s' with heap:=h'}:=by
 have U:=I'.base;have lt:∀b o,s2.heap.get? b=some o->b≠C/\b≠s2.heap.objs.size:=λb o e=>⟨um5 (ue5 (um4 e) hC),um5 (um4 e)⟩;have neD:∀b u,H' b=some u->b≠s2.heap.objs.size:=λb u e=>AW e hDn;have neC:∀b u,H' b=some u->b≠C:=λb u e=>AW e I'.free;refine I2.call' (s':={s' with heap:=h'}) (ch:=fp) I'.os ⟨λb o e n hb hx=>?_,λb o e n hb hx=>?_,λb o e n hx=>?_,λb o e hx=>?_,λb xs e=>?_,λb o u e=>?_,λb ps e=>?_⟩ ?_ I'.bare λb hb=>⟨(f2 b hb).2.2.2.1,(f2 b hb).2.1,(f2 b hb).2.2.2.2.1,(f2 b hb).2.2.2.2.2⟩
 .exact hs.extBut b o (lt b o e).1 (U.keep b o e n hb hx)
 .clear 5(U.slot b o e n hb hx)sl q;exact⟨sl,hs.extBut b _ (lt b o e).1 q⟩
 .rw[Ay (lt b o e).2];exact U.free b o e n hx
 .clear 5(U.there b o e hx)o' q;exact⟨o',hs.extBut b _ (lt b o e).1 q⟩
 .have q:=U.tups b xs e;rw[Ay (neD b _ q)];exact q
 .have q:=U.frzs b o u e;rw[Ay (neD b _ q)];exact q
 .clear 5(U.tbls b ps e)m q;exact⟨m,by rw[Ay (neD b _ q)];exact q⟩
 .intro b u e
  by_cases hb:b=s2.heap.objs.size
  .subst hb;rw[Be] at e
   cases e
   exact⟨hz,its,n,hv,hs.extBut _ _ (Ne.symm hCD) hD⟩
  .rw[Ay hb] at e;refine(I'.hok b u e).stay (λc v hc q=>hs.extBut c v ?_ q) (λc q=>by rw[Ay (neD c _ q)];exact q) λc xs q=>by rw[Ay (neD c _ q)];exact q
   rcases hc with z|z
   .rw[z];exact neC b u e
   .exact neC c _ z
theorem ao(O:CmpOk X scope N' σf)(hc:X.calm=true)(hi:PI X tg iter wi)
 (hg:∀cl C s2 H2 fp,PG (C3 X N' scope cl C s2 H2 fp) tg g) (ht:∀cl C s2 H2 fp,PIf (C3 X N' scope cl C s2 H2 fp) ifs tt) (he:∀cl C s2 H2 fp,PE (C3 X N' scope cl C s2 H2 fp) elt te)
 (hs:autoParam (∀x,foldedSetIterable iter X.env x=pure x) q2T):PE X (.ListComp elt [⟨tg,iter,ifs,0⟩] scope pos) (Tu wi g tt te σf):=by
 intro mi s σ H Q I h;obtain⟨cl,e1,e2,e4⟩:=L7 (scope:=scope) (env:=X.env) λy hy hf=>I.ok.has y.1 (O.free y hy hf);rw[eval_ListComp];refine wpAny_comprehension_free (use:=none) rfl hs e1 O.kind O.loc (thn (hi mi s σ H _ I h) λv s1 h1=>thn h1 λitv s2 h2=>?_);clear 5 h2 it fp tn J H2 rfl I2 T st2 f2 B;refine OM (RR:=λacc C=>compPost (model X.prog X.w) X.A X.xe none (EP X mi σ Q) acc C) O hc I2 T st2 f2 e2 e4 (λcl C=>hg cl C s2 H2 fp) (λcl C=>ht cl C s2 H2 fp) (λcl C=>he cl C s2 H2 fp) B ?_;intro cl' C s' σ' H' acc m hC hCD I' hDn hz hL fin hn;clear 5 hL its n hv hD;refine⟨m,hn,λh' hs'=>?_⟩;exact⟨.ref s2.heap.objs.size,upd H' _ (.lst acc),NU I2 f2 hC hCD I' hDn hz hv hD hs',rfl,fin _ hDn hz⟩
set_option tactic.hygienic true in
theorem aD{i:Nat}{y:Str}{py spos:Pos}(O:CmpOk X scope N' σf)(hc:X.calm=true)(hN:X.N.Nodup)(hiN:X.N[i]?=some y)(hx:X.env.scope.names.lookup y=some .local)(hi:PI X tg iter wi)
 (hg:∀cl C s2 H2 fp,PG (C3 X N' scope cl C s2 H2 fp) tg g) (ht:∀cl C s2 H2 fp,PIf (C3 X N' scope cl C s2 H2 fp) ifs tt) (he:∀cl C s2 H2 fp,PE (C3 X N' scope cl C s2 H2 fp) elt te)
 (hsw:autoParam (swapsWith (.ListComp elt [⟨tg,iter,ifs,0⟩] scope pos) (some (.Name y py)) spos.line X.env=pure true) q3T)
 (hs:autoParam (∀x,foldedSetIterable iter X.env x=pure x) q2T):PS X (.Assign [.Name y py] (.ListComp elt [⟨tg,iter,ifs,0⟩] scope pos) spos) (Qx (Tu wi g tt te σf) (Ml i)):=by
 intro mi s σ H D I h;obtain⟨cl,e1,e2,e4⟩:=L7 (scope:=scope) (env:=X.env) λy hy hf=>I.ok.has y.1 (O.free y hy hf);rw[exec_Assign_Name_used _ _ _ _ hsw];refine uo0 (pA (uo0 ?_));show wpAny _ X.A (do let _ <-comprehension (.ListComp elt [⟨tg,iter,ifs,0⟩] scope pos) scope X.env _ (newList []) false (eval iter X.env) (some (assign (.Name y py) X.env))) _ _ s;refine uo0 (thn (wpAny_comprehension_free (use:=some (assign (.Name y py) X.env)) (Q:=λ_ s'=>SP X mi D .next s') rfl hs e1 O.kind O.loc (thn (hi mi s σ H _ I h) λv s1 h1=>thn h1 λitv s2 h2=>?_)) (λ_ s' hq=>uo1 (uo1 hq)));clear 5 h2 it fp tn J H2 rfl I2 T st2 f2 B;refine OM (RR:=λacc C=>compPost (model X.prog X.w) X.A X.xe (some (assign (.Name y py) X.env)) (λ_ s'=>SP X mi D .next s') acc C) O hc I2 T st2 f2 e2 e4 (λcl C=>hg cl C s2 H2 fp) (λcl C=>ht cl C s2 H2 fp) (λcl C=>he cl C s2 H2 fp) B ?_;intro cl' C s' σ' H' acc m hC hCD I' hDn hz hL fin hn;clear 5 hL its n hv hD;show wpAny _ X.A (assign (.Name y py) X.env (.ref s2.heap.objs.size)) _ _ _;have I3:=NU I2 f2 hC hCD I' hDn hz hv hD (Heap.SameBut.refl ..);refine wpAny_assign_Name (Od I3 hN hiN (.inl hx) (v:=.ref s2.heap.objs.size) rfl (λs4 I4 z9=>?_) (.inr hx));clear 5 z9 a hsb ha;have hCL:C≠X.env.locals:=um8 (ue5 I2.lt hC);have hCc:∀x c,X.env.cells.lookup x=some c->c≠C:=λx c e z=>by
  clear 5(I2.cell x c e)v q;exact absurd (ue5 q.lt (by rw[z];exact hC)) (Nat.lt_irrefl _)
 have hCa:C≠a:=by
  rcases ha with z|z
  .rw[z];exact hCL
  .exact λq=>hCc _ _ z q.symm
 refine⟨m,hn.sameBut hsb hCa,λh' hs'=>?_⟩;have hnC:(upd H' s2.heap.objs.size (.lst acc)) C=none:=by rw[Ay hCD];exact I'.free
 refine⟨_,_,I4.turned (t':=s4.toks) (h':=h') (it:=C) (λb o hb e=>hs'.extBut b o hb e) hnC hCL (.inr (um6 I2.sz hC)) hCc (λp hp z=>?_),fin _ hDn hz⟩;exact absurd (ue5 (um4 (I2.pin p hp).1) (by rw[z];exact hC)) (Nat.lt_irrefl _)
end
end
set_option autoImplicit false
inductive D where
 |non|bl (b:Bool)|int (i:Int)|str (x:Str)|tup (xs:List D)|lst (xs:List D)|scr (ns:List Int)|dic|obj (k:Nat)|ty (n:String)|exc (n:Str) (xs:List D)|gts (xs:List Str)
set_option genInjectivity false in structure Cf where
 ι:List mm
 O:mm->Prop
def Cf.A(c:Cf)(a:mm):Prop:=a∈c.ι\/c.O a
def Scr(K:mh)(c:Cf)(H:Hp)(a:mm)(vs:List V):Prop:=
 ((∃o,H a=some (.frz o (.lst vs)))/\¬c.A a)\/
   ∃(o:Obj) (its:Array mj) (n:Nat),K.lookup a=some o/\o.cls=.type "list"/\o.dict=none/\o.data=.seq its n/\its.size<=sizeLine/\Vals vs its.toList
def Sj(K:mh)(a:mm)(xs:List Str):Prop:=
 ∃(o:Obj) (its:Array mj) (n:Nat),K.lookup a=some o/\o.cls=.type "tuple"/\o.data=.seq its n/\its.size<=sizeLine/\Vals (xs.map V.str) its.toList
def XIs(qx:Bool)(x C:mm)(dx:Option mm)(h:Heap):Prop:=∃(o:Obj) (vs:Array mj),h.get? x=some o/\o.cls=.ref C/\o.dict=dx/\o.data=.fields vs/\(qx=true->vs[2]?=some .none/\4<vs.size)
noncomputable def WT(n:Str):List Str:=if n = "NoTalk" then ["at"] else if n = "Broken" then ["at", "side"] else []
def XFld(c:Cf)(H:Hp)(dx:Option mm)(ns:List Str)(vs:List V):Prop:=match dx with
 |none=>vs=[]
 |some d=>H d=some (.xd (ns.zip vs))/\¬c.A d
mutual
inductive Rep(K:mh)(c:Cf)(H:Hp):V->D->Prop where
 |non:Rep K c H .non .non
 |bl (b:Bool):Rep K c H (.bl b) (.bl b)
 |int (i:Int):Rep K c H (.int i) (.int i)
 |str (x:Str):Rep K c H (.str x) (.str x)
 |ty (n:String):Rep K c H (.ty n) (.ty n)
 |tup {a:mm}{vs:List V}{ds:List D}:H a=some (.tup vs)->¬c.A a->Reps K c H vs ds->Rep K c H (.ref a) (.tup ds)
 |lst {a:mm}{vs:List V}{ds:List D}:H a=some (.lst vs)->¬c.A a->Reps K c H vs ds->Rep K c H (.ref a) (.lst ds)
 |scr {a:mm}{ns:List Int}:Scr K c H a (ns.map V.int)->Rep K c H (.ref a) (.scr ns)
 |dic {a:mm}:H a=some (.dK [])->¬c.A a->Rep K c H (.ref a) .dic
 |obj {a:mm}{k:Nat}:c.ι[k]?=some a->Rep K c H (.ref a) (.obj k)
 |exc {qx:Bool}{x C:mm}{dx:Option mm}{n:Str}{vs:List V}{ds:List D}:PySem.W.nsIn K mainGlobals n=some (some (.ref C))->H x=some (.ext (XIs qx x C dx))->¬c.A x->XFld c H dx (WT n) vs->Reps K c H vs ds->Rep K c H (.ref x) (.exc n ds)
 |gts {a:mm}{xs:List Str}:Sj K a xs->Rep K c H (.ref a) (.gts xs)
inductive Reps(K:mh)(c:Cf)(H:Hp):List V->List D->Prop where
 |nil:Reps K c H [] []
 |cons {v:V}{d:D}{vs:List V}{ds:List D}:Rep K c H v d->Reps K c H vs ds->Reps K c H (v::vs) (d::ds)
end
def Rpv(K:mh)(c:Cf)(H:Hp)(v:V):D->Prop
 |.non=>v=.non
 |.bl b=>v=.bl b
 |.int i=>v=.int i
 |.str x=>v=.str x
 |.ty n=>v=.ty n
 |.tup ds=>∃a vs,v=.ref a/\H a=some (.tup vs)/\¬c.A a/\Reps K c H vs ds
 |.lst ds=>∃a vs,v=.ref a/\H a=some (.lst vs)/\¬c.A a/\Reps K c H vs ds
 |.scr ns=>∃a,v=.ref a/\Scr K c H a (ns.map V.int)
 |.dic=>∃a,v=.ref a/\H a=some (.dK [])/\¬c.A a
 |.obj k=>∃a,v=.ref a/\c.ι[k]?=some a
 |.gts xs=>∃a,v=.ref a/\Sj K a xs
 |.exc _ _=>True
theorem Rep.rv{K:mh}{c:Cf}{H:Hp}{v:V}{d:D}(h:Rep K c H v d):Rpv K c H v d:=by cases h<;>first|rfl|trivial|exact⟨_,rfl,by assumption⟩|exact⟨_,rfl,by assumption,by assumption⟩|exact⟨_,_,rfl,by assumption,by assumption,by assumption⟩
structure Ext(c:Cf)(H:Hp)(c':Cf)(H':Hp):Prop where
 keep:∀b o,H b=some o->¬c.A b->H' b=some o
 av:∀b o,H b=some o->c'.A b->c.A b
 io:∀(k:Nat) (a:mm),c.ι[k]?=some a->c'.ι[k]?=some a
section
variable{c:Cf}{H:Hp}
theorem Ext.refl:Ext c H c H:=⟨λ_ _ h _=>h,λ_ _ _ h=>h,λ_ _ h=>h⟩
theorem Ext.trans{c1 c2:Cf}{H1 H2:Hp}(a:Ext c H c1 H1)(b:Ext c1 H1 c2 H2):Ext c H c2 H2:=by
 refine⟨λx o h n=>?_,λx o h n=>?_,λk x h=>b.io k x (a.io k x h)⟩
 .exact b.keep x o (a.keep x o h n) λz=>n (a.av x o h z)
 .by_cases q:c.A x
  .exact q
  .exact a.av x o h (b.av x o (a.keep x o h q) n)
variable{K:mh}{a:mm}{vs:List V}
theorem Scr.mono{c':Cf}{H':Hp}(e:Ext c H c' H')(h:Scr K c H a vs):Scr K c' H' a vs:=by
 rcases h with⟨⟨o,h⟩,n⟩|h
 .exact .inl ⟨⟨o,e.keep _ _ h n⟩,λz=>n (e.av _ _ h z)⟩
 .exact .inr h
theorem Scr.sq(h:Scr K c H a vs):SqL K H a vs:=by
 rcases h with⟨h,_⟩|h
 .exact .inl (.inr h)
 .exact .inr h
theorem XFld.mono{c':Cf}{H':Hp}{dx:Option mm}{ns:List Str}(e:Ext c H c' H')(h:XFld c H dx ns vs):XFld c' H' dx ns vs:=by
 cases dx with
 |none=>exact h
 |some d=>exact⟨e.keep _ _ h.1 h.2,λz=>h.2 (e.av _ _ h.1 z)⟩
mutual
theorem Rep.mono{K:mh}{c c':Cf}{H H':Hp}(e:Ext c H c' H'){v:V}{d:D}(r:Rep K c H v d):Rep K c' H' v d:=by
 cases r with
 |non=>exact .non
 |bl b=>exact .bl b
 |int i=>exact .int i
 |str x=>exact .str x
 |ty n=>exact .ty n
 |tup h n r=>exact .tup (e.keep _ _ h n) (λz=>n (e.av _ _ h z)) (Reps.mono e r)
 |lst h n r=>exact .lst (e.keep _ _ h n) (λz=>n (e.av _ _ h z)) (Reps.mono e r)
 |scr h=>exact .scr (h.mono e)
 |dic h n=>exact .dic (e.keep _ _ h n) (λz=>n (e.av _ _ h z))
 |obj h=>exact .obj (e.io _ _ h)
 |exc g h n f r=>exact .exc g (e.keep _ _ h n) (λz=>n (e.av _ _ h z)) (f.mono e) (Reps.mono e r)
 |gts h=>exact .gts h
theorem Reps.mono{K:mh}{c c':Cf}{H H':Hp}(e:Ext c H c' H'){vs:List V}{ds:List D}(r:Reps K c H vs ds):Reps K c' H' vs ds:=by
 cases r with
 |nil=>exact .nil
 |cons h t=>exact .cons (Rep.mono e h) (Reps.mono e t)
end
section
variable{K:mh}{c:Cf}{H:Hp}
theorem Reps.length:∀{vs:List V}{ds:List D},Reps K c H vs ds->vs.length=ds.length
 |_,_,.nil=>rfl
 |_,_,.cons _ t=>by simp[Reps.length t]
theorem Reps.get:∀{vs:List V}{ds:List D}{i:Nat}{v:V}{d:D},Reps K c H vs ds->vs[i]?=some v->ds[i]?=some d->Rep K c H v d
 |_,_,_,_,_,.nil,e,_=>by simp at e
 |_,_,0,_,_,.cons r _,e,e'=>by simp at e e';subst e e';exact r
 |_,_,i+1,_,_,.cons _ t,e,e'=>Reps.get (i:=i) t (by simpa using e) (by simpa using e')
theorem Reps.at:∀{vs:List V}{ds:List D}{i:Nat}{d:D},Reps K c H vs ds->ds[i]?=some d->∃v,vs[i]?=some v/\Rep K c H v d
 |_,_,_,_,.nil,e=>by simp at e
 |_,_,0,_,.cons r _,e=>by simp at e;subst e;exact⟨_,rfl,r⟩
 |_,_,i+1,_,.cons _ t,e=>by
   clear 5(Reps.at (i:=i) t (by simpa using e))v h1 h2;exact⟨v,by simpa using h1,h2⟩
theorem Reps.append{vs ws:List V}{ds es:List D}(r:Reps K c H vs ds)(s:Reps K c H ws es):Reps K c H (vs++ws) (ds++es):=by
 cases r with
 |nil=>exact s
 |cons r t=>exact .cons r (Reps.append t s)
theorem Reps.take:∀{vs:List V}{ds:List D} (n:Nat),Reps K c H vs ds->Reps K c H (vs.take n) (ds.take n)
 |_,_,0,_=>.nil
 |_,_,_+1,.nil=>.nil
 |_,_,n+1,.cons r t=>.cons r (Reps.take n t)
theorem Reps.drop:∀{vs:List V}{ds:List D} (n:Nat),Reps K c H vs ds->Reps K c H (vs.drop n) (ds.drop n)
 |_,_,0,r=>r
 |_,_,_+1,.nil=>.nil
 |_,_,n+1,.cons _ t=>Reps.drop n t
theorem Reps.ints:∀ns:List Int,Reps K c H (ns.map V.int) (ns.map D.int)
 |[]=>.nil
 |n::r=>.cons (.int n) (Reps.ints r)
theorem Reps.strs:∀ns:List Str,Reps K c H (ns.map V.str) (ns.map D.str)
 |[]=>.nil
 |n::r=>.cons (.str n) (Reps.strs r)
theorem Reps.rep{vs:List V}{ds:List D}(h:Reps K c H vs ds):∀k:Nat,Reps K c H (List.replicate k vs).flatten (List.replicate k ds).flatten
 |0=>.nil
 |k+1=>by
   rw[ue0,ue0,uf9,uf9];exact h.append (Reps.rep h k)
end
inductive Ob where
 |lst (xs:List D)
 |dct (kvs:List (Key×D))
 |ins (n:Str) (fs:List (Str×D))
set_option genInjectivity false in inductive Sl where
 |val (d:D)
 |own (xs:List D)
set_option genInjectivity false in structure T where
 env:List (Option Sl)
 S:List Ob
def KVR(K:mh)(c:Cf)(H:Hp):List (Key×V)->List (Key×D)->Prop:=Paired λp q=>p.1=q.1/\Rep K c H p.2 q.2
noncomputable def M9:List Str:=["Reader", "Side", "Lasting", "Parley", "Listener", "Relay", "Desk"]
noncomputable def atN:List Str:=["grammar", "standing", "wires", "places", "side", "said", "taken", "handed", "left", "right", "under_way", "grammars", "standings", "heard", "left_grammar", "right_grammar", "rows", "pair", "broken", "parley"]
def FldR(K:mh)(c:Cf)(H:Hp):List (Str×V)->List (Str×D)->Prop:=Paired λp q=>p.1=q.1/\Rep K c H p.2 q.2
def ObR(K:mh)(c:Cf)(H:Hp)(a:mm):Ob->Prop
 |.lst ds=>∃vs,H a=some (.lst vs)/\Reps K c H vs ds
 |.dct kvs=>∃us,H a=some (.dK us)/\KVR K c H us kvs
 |.ins n fs=>(n∈M9/\∀p∈fs,p.1∈atN)/\∃C dx us,PySem.W.nsIn K mainGlobals n=some (some (.ref C))/\H a=some (.ins C dx us)/\FldR K c H us fs
theorem ObR.mono{K:mh}{c c':Cf}{H H':Hp}{a:mm}{o:Ob}(e:Ext c H c' H')(h:ObR K c H a o)(ha:H' a=H a):ObR K c' H' a o:=by
 cases o with
 |lst ds=>clear 5 h vs h1 h2;exact⟨vs,ha.trans h1,h2.mono e⟩
 |dct kvs=>clear 5 h us h1 h2;exact⟨us,ha.trans h1,Paired.mapP h2 λ_ _ z=>⟨z.1,z.2.mono e⟩⟩
 |ins n fs=>clear 5 h h0 C dx us g h1 h2;exact⟨h0,C,dx,us,g,ha.trans h1,Paired.mapP h2 λ_ _ z=>⟨z.1,z.2.mono e⟩⟩
theorem ObR.some{o:Ob}(h:ObR K c H a o):∃u,H a=some u:=by
 cases o with
 |lst ds=>obtain⟨vs,h1,_⟩:=h;exact⟨_,h1⟩
 |dct kvs=>obtain⟨us,h1,_⟩:=h;exact⟨_,h1⟩
 |ins n fs=>obtain⟨_,_,_,_,_,h1,_⟩:=h;exact⟨_,h1⟩
structure SInv(K:mh)(c:Cf)(S:List Ob)(H:Hp):Prop where
 len:c.ι.length=S.length
 nd:c.ι.Nodup
 obs:∀(k:Nat) (a:mm) (o:Ob),c.ι[k]?=some a->S[k]?=some o->ObR K c H a o
 trk:∀b,c.O b->∃o,H b=some o
 dis:∀b,c.O b->b∉c.ι
variable{S:List Ob}
theorem SInv.trkA(s:SInv K c S H){b:mm}(h:c.A b):∃o,H b=some o:=by
 rcases h with h|h
 .clear 5(List.mem_iff_getElem.mp h)k hk e;have e1:c.ι[k]?=some b:=by rw[ub1 hk,e]
  have hk':k<S.length:=by rw[<-s.len];exact hk
  exact(s.obs k b _ e1 (ub1 hk')).some
 .exact s.trk b h
theorem SInv.free(s:SInv K c S H){b:mm}(h:H b=none):¬c.A b:=λz=>by
 clear 5(s.trkA z)o e;rw[h] at e;cases e
structure FInv(K:mh)(Oo:mm->Prop)(c:Cf)(t:T)(σ:St)(H:Hp):Prop where
 s:SInv K c t.S H
 len:t.env.length=σ.length
 sub:∀b,Oo b->c.O b
 val:∀(i:Nat) (d:D),t.env[i]?=some (some (.val d))->∃v,σ[i]?=some (some v)/\Rep K c H v d
 own:∀(i:Nat) (ds:List D),t.env[i]?=some (some (.own ds))->∃a vs,σ[i]?=some (some (.ref a))/\c.O a/\¬Oo a/\H a=some (.lst vs)/\Reps K c H vs ds
 inj:∀(i j:Nat) (ds es:List D) (a:mm),t.env[i]?=some (some (.own ds))->t.env[j]?=some (some (.own es))->σ[i]?=some (some (.ref a))->σ[j]?=some (some (.ref a))->i=j
structure Stp(Oo:mm->Prop)(c:Cf)(H:Hp)(c':Cf)(H':Hp):Prop where
 ext:Ext c H c' H'
 oo:∀b,Oo b->H' b=H b
theorem Stp.refl{Oo:mm->Prop}{c:Cf}{H:Hp}:Stp Oo c H c H:=⟨.refl,λ_ _=>rfl⟩
theorem Stp.trans{Oo:mm->Prop}{c c1 c2:Cf}{H H1 H2:Hp}(a:Stp Oo c H c1 H1)(b:Stp Oo c1 H1 c2 H2):Stp Oo c H c2 H2:=
 ⟨a.ext.trans b.ext,λx h=>(b.oo x h).trans (a.oo x h)⟩
section
variable{K:mh}{Oo:mm->Prop}{c:Cf}{t:T}{σ:St}{H:Hp}
theorem Ext.laid(s:SInv K c S H){p:mm}{o:HO}(h:H p=none):Ext c H c (upd H p o):=
 ⟨λb u e _=>by rw[Ay (AW e h)];exact e,λ_ _ _ z=>z,λ_ _ e=>e⟩
theorem SInv.laid{S:List Ob}(s:SInv K c S H){p:mm}{o:HO}(h:H p=none):SInv K c S (upd H p o):=
 ⟨s.len,s.nd,λk a u e1 e2=>by
  have q:=s.obs k a u e1 e2;clear 5 q.some w hw;exact q.mono (Ext.laid s h) (Ay (AW hw h)),
  λb z=>by clear 5(s.trk b z)u e;exact⟨u,by rw[Ay (AW e h)];exact e⟩,s.dis⟩
theorem FInv.laid(f:FInv K Oo c t σ H){p:mm}{o:HO}(h:H p=none):FInv K Oo c t σ (upd H p o):=by
 have e:=Ext.laid (o:=o) f.s h;refine⟨f.s.laid h,f.len,f.sub,λi d q=>?_,λi ds q=>?_,f.inj⟩
 .clear 5(f.val i d q)v h1 h2;exact⟨v,h1,h2.mono e⟩
 .clear 5(f.own i ds q)a vs h1 h2 h3 h4 h5;exact⟨a,vs,h1,h2,h3,by rw[Ay (AW h4 h)];exact h4,h5.mono e⟩
theorem FInv.stp_laid(f:FInv K Oo c t σ H){p:mm}{o:HO}(h:H p=none):Stp Oo c H c (upd H p o):=
 ⟨Ext.laid f.s h,λb z=>by clear 5(f.s.trk b (f.sub b z))u e;exact Ay (AW e h)⟩
set_option tactic.hygienic true
theorem FInv.set(f:FInv K Oo c t σ H){i:Nat}{v:V}{d:D}(r:Rep K c H v d):FInv K Oo c {t with env:=t.env.set i (some (.val d))} (σ.set i (some v)) H:=by
 have neq:∀{j:Nat}{x:Sl},(t.env.set i (some (.val d)))[j]?=some (some x)->(j=i/\x=.val d/\j<t.env.length)\/(j≠i/\t.env[j]?=some (some x)):=λ{j x} q=>by
  by_cases h:j=i
  .subst h;rw[List.getElem?_set] at q
   split at q
   .split at q
    .next h1=>injection q with q;injection q with q;exact .inl ⟨rfl,q.symm,h1⟩
    .cases q
   .next h1=>exact absurd rfl h1
  .rw[ud3 (Ne.symm h)] at q;exact .inr ⟨h,q⟩
 refine⟨f.s,by simp[f.len],f.sub,λj e q=>?_,λj ds q=>?_,λj k ds es a q1 q2 q3 q4=>?_⟩
 .rcases neq q with⟨rfl,z,hl⟩|⟨h,q⟩
  .cases z
   exact⟨v,by rw[ub6 (by rw[<-f.len];exact hl)],r⟩
  .clear 5(f.val j e q)u h1 h2;exact⟨u,by rw[ud3 (Ne.symm h)];exact h1,h2⟩
 .rcases neq q with⟨rfl,z,_⟩|⟨h,q⟩
  .cases z
  .clear 5(f.own j ds q)a vs h1 h2;exact⟨a,vs,by rw[ud3 (Ne.symm h)];exact h1,h2⟩
 .rcases neq q1 with⟨_,z,_⟩|⟨h,q1⟩
  .cases z
  rcases neq q2 with⟨_,z,_⟩|⟨h',q2⟩
  .cases z
  rw[ud3 (Ne.symm h)] at q3;rw[ud3 (Ne.symm h')] at q4;exact f.inj j k ds es a q1 q2 q3 q4
theorem FInv.setOwn(f:FInv K Oo c t σ H){i:Nat}{p:mm}{vs:List V}{ds:List D}(h:H p=none)(r:Reps K c H vs ds) :
 ∃c',FInv K Oo c' {t with env:=t.env.set i (some (.own ds))} (σ.set i (some (.ref p))) (upd H p (.lst vs))/\Stp Oo c H c' (upd H p (.lst vs)):=by
 let c':Cf:=⟨c.ι,λb=>c.O b\/b=p⟩
 have nA:¬c.A p:=f.s.free h;have ext:Ext c H c' (upd H p (.lst vs)):=by
  refine⟨λb u e _=>by rw[Ay (AW e h)];exact e,λb u e z=>?_,λ_ _ e=>e⟩;rcases z with z|z|z
  .exact .inl z
  .exact .inr z
  .subst z;rw[h] at e;cases e
 have stp:Stp Oo c H c' (upd H p (.lst vs)):=⟨ext,λb z=>by clear 5(f.s.trk b (f.sub b z))u e;exact Ay (AW e h)⟩;have sinv:SInv K c' t.S (upd H p (.lst vs)):=by
  refine⟨f.s.len,f.s.nd,λk a u e1 e2=>?_,λb z=>?_,λb z hb=>?_⟩
  .have q:=f.s.obs k a u e1 e2;clear 5 q.some w hw;exact q.mono ext (Ay (AW hw h))
  .rcases z with z|z
   .clear 5(f.s.trk b z)u e;exact⟨u,by rw[Ay (AW e h)];exact e⟩
   .subst z;exact⟨_,Be⟩
  .rcases z with z|z
   .exact f.s.dis b z hb
   .subst z;exact nA (.inl hb)
 have neq:∀{j:Nat}{x:Sl},(t.env.set i (some (.own ds)))[j]?=some (some x)->(j=i/\x=.own ds/\j<t.env.length)\/(j≠i/\t.env[j]?=some (some x)):=λ{j x} q=>by
  by_cases h:j=i
  .subst h;rw[List.getElem?_set] at q
   split at q
   .split at q
    .next h1=>injection q with q;injection q with q;exact .inl ⟨rfl,q.symm,h1⟩
    .cases q
   .next h1=>exact absurd rfl h1
  .rw[ud3 (Ne.symm h)] at q;exact .inr ⟨h,q⟩
 have fresh:∀(j:Nat) (es:List D),t.env[j]?=some (some (.own es))->σ[j]?≠some (some (.ref p)):=λj es q z=>by
  obtain⟨a,vs',h1,_,_,h4,_⟩:=f.own j es q;rw[h1] at z;injection z with z;injection z with z;injection z with z;subst z;rw[h] at h4;cases h4
 refine⟨c',⟨sinv,by simp[f.len],λb z=>.inl (f.sub b z),λj e q=>?_,λj es q=>?_,λj k ds' es a q1 q2 q3 q4=>?_⟩,stp⟩
 .rcases neq q with⟨_,z,_⟩|⟨hn,q⟩
  .cases z
  .clear 5(f.val j e q)u h1 h2;exact⟨u,by rw[ud3 (Ne.symm hn)];exact h1,h2.mono ext⟩
 .rcases neq q with⟨rfl,z,hl⟩|⟨hn,q⟩
  .cases z
   refine⟨p,vs,by rw[ub6 (by rw[<-f.len];exact hl)],.inr rfl,λz=>?_,Be,r.mono ext⟩;clear 5(f.s.trk p (f.sub p z))u e;rw[h] at e;cases e
  .clear 5(f.own j es q)a ws h1 h2 h3 h4 h5;exact⟨a,ws,by rw[ud3 (Ne.symm hn)];exact h1,.inl h2,h3,by rw[Ay (AW h4 h)];exact h4,h5.mono ext⟩
 .rcases neq q1 with⟨z1,z2,l1⟩|⟨n1,r1⟩
  .rcases neq q2 with⟨y1,_,_⟩|⟨n2,r2⟩
   .rw[z1,y1]
   .subst z1;rw[ub6 (by rw[<-f.len];exact l1)] at q3;injection q3 with q3;injection q3 with q3;injection q3 with q3;subst q3
    rw[ud3 (Ne.symm n2)] at q4;exact absurd q4 (fresh k es r2)
  .rcases neq q2 with⟨y1,y2,l2⟩|⟨n2,r2⟩
   .subst y1;rw[ub6 (by rw[<-f.len];exact l2)] at q4;injection q4 with q4;injection q4 with q4;injection q4 with q4;subst q4
    rw[ud3 (Ne.symm n1)] at q3;exact absurd q3 (fresh j ds' r1)
   .rw[ud3 (Ne.symm n1)] at q3;rw[ud3 (Ne.symm n2)] at q4;exact f.inj j k ds' es a r1 r2 q3 q4
theorem FInv.frz(f:FInv K Oo c t σ H){i:Nat}{ds:List D}(q:t.env[i]?=some (some (.own ds))) :
 ∃c' v,FInv K Oo c' {t with env:=t.env.set i (some (.val (.lst ds)))} σ H/\Stp Oo c H c' H/\σ[i]?=some (some v)/\Rep K c' H v (.lst ds):=by
 clear 5(f.own i ds q)a vs h1 h2 h3 h4 h5
 let c':Cf:=⟨c.ι,λb=>c.O b/\b≠a⟩
 have ext:Ext c H c' H:=⟨λ_ _ e _=>e,λb u e z=>z.elim .inl λw=>.inr w.1,λ_ _ e=>e⟩;have sinv:SInv K c' t.S H:=⟨f.s.len,f.s.nd,λk b u e1 e2=>(f.s.obs k b u e1 e2).mono ext rfl,λb z=>f.s.trk b z.1,λb z=>f.s.dis b z.1⟩;have nA:¬c'.A a:=λz=>z.elim (λw=>f.s.dis a h2 w) λw=>w.2 rfl;have hσ:σ.set i (some (.ref a))=σ:=by
  apply List.ext_getElem?;intro j
  by_cases hj:j=i
  .subst hj;rw[ub6 (by have:=(ua7.mp h1).1;exact this),h1]
  .rw[ud3 (Ne.symm hj)]
 have r:Rep K c' H (.ref a) (.lst ds):=.lst h4 nA (h5.mono ext);have f0:FInv K Oo c' {t with env:=t.env.set i (some (.val (.lst ds)))} σ H:=by
  have neq:∀{j:Nat}{x:Sl},(t.env.set i (some (.val (.lst ds))))[j]?=some (some x)->(j=i/\x=.val (.lst ds))\/(j≠i/\t.env[j]?=some (some x)):=λ{j x} q=>by
   by_cases h:j=i
   .subst h;rw[List.getElem?_set] at q
    split at q
    .split at q
     .injection q with q;injection q with q;exact .inl ⟨rfl,q.symm⟩
     .cases q
    .next h1=>exact absurd rfl h1
   .rw[ud3 (Ne.symm h)] at q;exact .inr ⟨h,q⟩
  refine⟨sinv,by simp[f.len],λb z=>⟨f.sub b z,λw=>h3 (w ▸ z)⟩,λj e q'=>?_,λj es q'=>?_,λj k ds' es b q1 q2 q3 q4=>?_⟩
  .rcases neq q' with⟨rfl,z⟩|⟨hn,q'⟩
   .cases z;exact⟨_,h1,r⟩
   .clear 5(f.val j e q')u w1 w2;exact⟨u,w1,w2.mono ext⟩
  .rcases neq q' with⟨_,z⟩|⟨hn,q'⟩
   .cases z
   .clear 5(f.own j es q')b ws w1 w2 w3 w4 w5;refine⟨b,ws,w1,⟨w2,λz=>?_⟩,w3,w4,w5.mono ext⟩;subst z;exact hn (f.inj j i es ds b q' q w1 h1)
  .rcases neq q1 with⟨_,z⟩|⟨_,q1⟩
   .cases z
   rcases neq q2 with⟨_,z⟩|⟨_,q2⟩
   .cases z
   exact f.inj j k ds' es b q1 q2 q3 q4
 exact⟨c',_,f0,⟨ext,λ_ _=>rfl⟩,h1,r⟩
theorem FInv.wrOwn(f:FInv K Oo c t σ H){i:Nat}{ds ds':List D}{vs':List V}{a:mm}(q:t.env[i]?=some (some (.own ds)))(h1:σ[i]?=some (some (.ref a)))(r:Reps K c H vs' ds') :
 FInv K Oo c {t with env:=t.env.set i (some (.own ds'))} σ (upd H a (.lst vs'))/\Stp Oo c H c (upd H a (.lst vs')):=by
 clear 5(f.own i ds q)a' vs g1 h2 h3 h4 h5;rw[h1] at g1;injection g1 with g1;injection g1 with g1;injection g1 with g1;subst g1
 have ext:Ext c H c (upd H a (.lst vs')):=⟨λb u e n=>by rw[Ay (λ(z:b=a)=>n (.inr (by rw[z];exact h2)))];exact e,λ_ _ _ z=>z,λ_ _ e=>e⟩;have stp:Stp Oo c H c (upd H a (.lst vs')):=⟨ext,λb z=>Ay λw=>h3 (w ▸ z)⟩;have sinv:SInv K c t.S (upd H a (.lst vs')):=by
  refine⟨f.s.len,f.s.nd,λk b u e1 e2=>(f.s.obs k b u e1 e2).mono ext (Ay λz=>f.s.dis a h2 (z ▸ ud4 e1)),λb z=>?_,f.s.dis⟩
  by_cases hb:b=a
  .subst hb;exact⟨_,Be⟩
  .clear 5(f.s.trk b z)u e;exact⟨u,by rw[Ay hb];exact e⟩
 have neq:∀{j:Nat}{x:Sl},(t.env.set i (some (.own ds')))[j]?=some (some x)->(j=i/\x=.own ds')\/(j≠i/\t.env[j]?=some (some x)):=λ{j x} q=>by
  by_cases h:j=i
  .subst h;rw[List.getElem?_set] at q
   split at q
   .split at q
    .injection q with q;injection q with q;exact .inl ⟨rfl,q.symm⟩
    .cases q
   .next h1=>exact absurd rfl h1
  .rw[ud3 (Ne.symm h)] at q;exact .inr ⟨h,q⟩
 refine⟨⟨sinv,by simp[f.len],f.sub,λj e q'=>?_,λj es q'=>?_,λj k es es' b q1 q2 q3 q4=>?_⟩,stp⟩
 .rcases neq q' with⟨_,z⟩|⟨_,q'⟩
  .cases z
  .clear 5(f.val j e q')u w1 w2;exact⟨u,w1,w2.mono ext⟩
 .rcases neq q' with⟨rfl,z⟩|⟨hn,q'⟩
  .cases z;exact⟨a,vs',h1,h2,h3,Be,r.mono ext⟩
  .clear 5(f.own j es q')b ws w1 w2 w3 w4 w5;have hb:b≠a:=λz=>by subst z;exact hn (f.inj j i es ds b q' q w1 h1)
   exact⟨b,ws,w1,w2,w3,by rw[Ay hb];exact w4,w5.mono ext⟩
 .have old:∀{j:Nat}{x:List D},(t.env.set i (some (.own ds')))[j]?=some (some (.own x))->∃y,t.env[j]?=some (some (.own y)):=λ{j x} q'=>by
   rcases neq q' with⟨rfl,_⟩|⟨_,q'⟩
   .exact⟨ds,q⟩
   .exact⟨x,q'⟩
  clear 5(old q1)y1 z1;clear 5(old q2)y2 z2;exact f.inj j k y1 y2 b z1 z2 q3 q4
set_option tactic.hygienic false
theorem FInv.wrObj(f:FInv K Oo c t σ H){k:Nat}{a:mm}{o:Ob}{u:HO}(e:c.ι[k]?=some a)(r:∀c' H',Ext c H c' H'->H' a=some u->ObR K c' H' a o) :
 FInv K Oo c {t with S:=t.S.set k o} σ (upd H a u)/\Stp Oo c H c (upd H a u):=by
 have hA:a∈c.ι:=ud4 e;have ext:Ext c H c (upd H a u):=⟨λb w h n=>by rw[Ay (λ(z:b=a)=>n (.inl (by rw[z];exact hA)))];exact h,λ_ _ _ z=>z,λ_ _ e=>e⟩;have neO:∀b,c.O b->b≠a:=λb z w=>f.s.dis b z (w ▸ hA);have stp:Stp Oo c H c (upd H a u):=⟨ext,λb z=>Ay (neO b (f.sub b z))⟩;have sinv:SInv K c (t.S.set k o) (upd H a u):=by
  refine⟨by simp[f.s.len],f.s.nd,λj b o' e1 e2=>?_,λb z=>?_,f.s.dis⟩
  .by_cases hj:j=k
   .subst hj;rw[e] at e1;cases e1
    have hl:j<t.S.length:=by rw[<-f.s.len];exact(ua7.mp e).1
    rw[ub6 hl] at e2;cases e2
    exact r c _ ext Be
   .rw[ud3 (Ne.symm hj)] at e2;refine(f.s.obs j b o' e1 e2).mono ext (Ay λz=>?_);subst z;clear 5(ua7.mp e1)l1 g1;clear 5(ua7.mp e)l2 g2;exact hj ((List.getElem_inj f.s.nd).mp (g1.trans g2.symm))
  .clear 5(f.s.trk b z)w h;exact⟨w,by rw[Ay (neO b z)];exact h⟩
 refine⟨⟨sinv,f.len,f.sub,λi d q=>?_,λi ds q=>?_,f.inj⟩,stp⟩
 .clear 5(f.val i d q)v h1 h2;exact⟨v,h1,h2.mono ext⟩
 .clear 5(f.own i ds q)b vs h1 h2 h3 h4 h5;exact⟨b,vs,h1,h2,h3,by rw[Ay (neO b h2)];exact h4,h5.mono ext⟩
theorem FInv.newObj(f:FInv K Oo c t σ H){p:mm}{o:Ob}{u:HO}(h:H p=none)(r:∀c' H',Ext c H c' H'->H' p=some u->ObR K c' H' p o) :
 ∃c',FInv K Oo c' {t with S:=t.S++[o]} σ (upd H p u)/\Stp Oo c H c' (upd H p u)/\c'.ι[t.S.length]?=some p:=by
 let c':Cf:=⟨c.ι++[p],c.O⟩
 have nA:¬c.A p:=f.s.free h;have ext:Ext c H c' (upd H p u):=by
  refine⟨λb w e _=>by rw[Ay (AW e h)];exact e,λb w e z=>?_,λk a e=>?_⟩
  .rcases z with z|z
   .rcases ui5.mp z with z|z
    .exact .inl z
    .rw[uf1] at z;subst z;rw[h] at e;cases e
   .exact .inr z
  .show(c.ι++[p])[k]?=some a;rw[ua8 (ua7.mp e).1];exact e
 have stp:Stp Oo c H c' (upd H p u):=⟨ext,λb z=>by clear 5(f.s.trk b (f.sub b z))w e;exact Ay (AW e h)⟩;have at_:(c.ι++[p])[t.S.length]?=some p:=by rw[<-f.s.len,ua4 (un6 _)];simp
 have sinv:SInv K c' (t.S++[o]) (upd H p u):=by
  refine⟨by simp[c',f.s.len],?_,λj b o' e1 e2=>?_,λb z=>?_,λb z hb=>?_⟩
  .show(c.ι++[p]).Nodup;exact List.nodup_append.mpr ⟨f.s.nd,by simp,λx hx y hy z=>by rw[uf1] at hy;subst z;subst hy;exact nA (.inl hx)⟩
  .have hlt:j<(t.S++[o]).length:=(ua7.mp e2).1
   by_cases hj:j<t.S.length
   .have e1':c.ι[j]?=some b:=by
     have q:(c.ι++[p])[j]?=some b:=e1;rw[ua8 (by rw[f.s.len];exact hj)] at q;exact q
    rw[ua8 hj] at e2;have q:=f.s.obs j b o' e1' e2;clear 5 q.some w hw;exact q.mono ext (Ay (AW hw h))
   .have hj':j=t.S.length:=by simp at hlt;lia
    subst hj';rw[at_] at e1;cases e1
    rw[ua4 (un6 _)] at e2;simp at e2;subst e2;exact r c' _ ext Be
  .clear 5(f.s.trk b z)w e;exact⟨w,by rw[Ay (AW e h)];exact e⟩
  .rcases ui5.mp hb with w|w
   .exact f.s.dis b z w
   .rw[uf1] at w;subst w;exact nA (.inr z)
 refine⟨c',⟨sinv,f.len,f.sub,λi d q=>?_,λi ds q=>?_,f.inj⟩,stp,at_⟩
 .clear 5(f.val i d q)v h1 h2;exact⟨v,h1,h2.mono ext⟩
 .clear 5(f.own i ds q)b vs h1 h2 h3 h4 h5;exact⟨b,vs,h1,h2,h3,by rw[Ay (AW h4 h)];exact h4,h5.mono ext⟩
theorem FInv.after(f:FInv K Oo c t σ H){c':Cf}{S':List Ob}{H':Hp}(s:SInv K c' S' H')(st:Stp c.O c H c' H')(ho:∀b,c'.O b↔c.O b):FInv K Oo c' {t with S:=S'} σ H'/\Stp Oo c H c' H':=by
 refine⟨⟨s,f.len,λb z=>(ho b).mpr (f.sub b z),λi d q=>?_,λi ds q=>?_,f.inj⟩,st.ext,λb z=>st.oo b (f.sub b z)⟩
 .clear 5(f.val i d q)v h1 h2;exact⟨v,h1,h2.mono st.ext⟩
 .clear 5(f.own i ds q)b vs h1 h2 h3 h4 h5;exact⟨b,vs,h1,(ho b).mpr h2,h3,(st.oo b h2).trans h4,h5.mono st.ext⟩
end
abbrev M(α:Type):=T->Option (α×T)
set_option genInjectivity false in inductive Out where
 |next|brk|cont|ret (d:D)
noncomputable def ret{α:Type}(a:α):M α:=λt=>some (a,t)
noncomputable def fail{α:Type}:M α:=λ_=>none
noncomputable def bnd{α β:Type}(f:M α)(g:α->M β):M β:=λt=>match f t with
 |some (a,t1)=>g a t1
 |none=>none
variable{t:T}
theorem Ag{α β:Type}{f:M α}{g:α->M β}{z:β×T}(h:bnd f g t=some z):∃a t1,f t=some (a,t1)/\g a t1=some z:=by
 unfold bnd at h
 cases e:f t with
 |none=>rw[e] at h;cases h
 |some p=>clear 5 p a t1;rw[e] at h;exact⟨a,t1,rfl,h⟩
noncomputable def LIM:Nat:=100000
theorem El:LIM<=sizeLine:=by unfold LIM;decide
theorem TW:LIM<sizeLine:=by unfold LIM;decide
section
variable(K:mh)
inductive RE(f:M D)(σ:L2.St)(H:Hp)(Q:VK):Prop where
 |mk (Oo:mm->Prop) (c:Cf) (t:T) (fi:FInv K Oo c t σ H) (r:D) (t':T) (e:f t=some (r,t')) (k:∀v H' c',FInv K Oo c' t' σ H'->Stp Oo c H c' H'->Rep K c' H' v r->Q v H'):RE f σ H Q
inductive RT(f:M Bool)(σ:L2.St)(H:Hp)(Q:Bool->Hp->Prop):Prop where
 |mk (Oo:mm->Prop) (c:Cf) (t:T) (fi:FInv K Oo c t σ H) (r:Bool) (t':T) (e:f t=some (r,t')) (k:∀H' c',FInv K Oo c' t' σ H'->Stp Oo c H c' H'->Q r H'):RT f σ H Q
inductive RA(f:M (List D))(σ:L2.St)(H:Hp)(Q:List V->Hp->Prop):Prop where
 |mk (Oo:mm->Prop) (c:Cf) (t:T) (fi:FInv K Oo c t σ H) (r:List D) (t':T) (e:f t=some (r,t')) (k:∀vs H' c',FInv K Oo c' t' σ H'->Stp Oo c H c' H'->Reps K c' H' vs r->Q vs H'):RA f σ H Q
inductive RF(f:M (List D))(σ:L2.St)(H:Hp)(Q:VK):Prop where
 |mk (Oo:mm->Prop) (c:Cf) (t:T) (fi:FInv K Oo c t σ H) (ds:List D) (t':T) (e:f t=some (ds,t')) (k:∀p vs H' c',FInv K Oo c' t' σ H'->Stp Oo c H c' H'->Reps K c' H' vs ds->H' p=none->Q (.ref p) (upd H' p (.lst vs))):RF f σ H Q
inductive RSg(μ:Cf->Hp->D->(V->Hp->Prop)->Prop)(f:M Out)(E:Ends)(σ:L2.St)(H:Hp):Prop where
 |mk (Oo:mm->Prop) (c:Cf) (t:T) (fi:FInv K Oo c t σ H) (o:Out) (t':T) (e:f t=some (o,t')) (k:∀σ' H' c',FInv K Oo c' t' σ' H'->Stp Oo c H c' H'->
 match (generalizing:=false) o with
 |.next=>E.nx σ' H'
 |.brk=>E.bk σ' H'
 |.cont=>E.ct σ' H'
 |.ret r=>μ c' H' r E.rt):RSg μ f E σ H
def μR:Cf->Hp->D->(V->Hp->Prop)->Prop:=λc H r rt=>∀v,Rep K c H v r->rt v H
def μF:Cf->Hp->D->(V->Hp->Prop)->Prop:=λc H r rt=>match r with
 |.lst ds=>∀p us,H p=none->Reps K c H us ds->rt (.ref p) (upd H p (.lst us))
 |_=>False
abbrev RS(f:M Out):TS:=RSg K (μR K) f
inductive RG(f:D->M Unit)(v:V)(σ:L2.St)(H:Hp)(Q:L2.St->Hp->Prop):Prop where
 |mk (Oo:mm->Prop) (c:Cf) (t:T) (d:D) (fi:FInv K Oo c t σ H) (r:Rep K c H v d) (t':T) (e:f d t=some ((),t')) (k:∀σ' H' c',FInv K Oo c' t' σ' H'->Stp Oo c H c' H'->Q σ' H'):RG f v σ H Q
structure ItOk(J:It)(c:Cf)(H:Hp)(ds:List D):Prop where
 go:∀c' H' (i:Nat),Ext c H c' H'->i<ds.length->J.go i H'
 yld:∀c' H' (i:Nat) x H'' d,Ext c H c' H'->ds[i]?=some d->J.yld i H' x H''->H''=H'/\Rep K c' H' x d
 stop:∀c' H',Ext c H c' H'->J.stop ds.length H'
inductive RI(f:M (List D))(σ:L2.St)(H:Hp)(R:It->Hp->Prop):Prop where
 |mk (Oo:mm->Prop) (c:Cf) (t:T) (fi:FInv K Oo c t σ H) (ds:List D) (t':T) (e:f t=some (ds,t')) (k:∀J H' c',FInv K Oo c' t' σ H'->Stp Oo c H c' H'->ItOk K J c' H' ds->R J H'):RI f σ H R
def bY(R:V->Hp->VK->Prop)(h:D->M D):Prop:=∀{Oo:mm->Prop}{c:Cf}{t:T}{σ:L2.St}{H:Hp}{x:V}{dx r:D}{t':T}{Q:VK},FInv K Oo c t σ H->Rep K c H x dx->h dx t=some (r,t')->
 (∀v H' c',FInv K Oo c' t' σ H'->Stp Oo c H c' H'->Rep K c' H' v r->Q v H')->R x H Q
def Br(R:R2)(h:D->D->M D):Prop:=∀{Oo:mm->Prop}{c:Cf}{t:T}{σ:L2.St}{H:Hp}{x y:V}{dx dy r:D}{t':T}{Q:VK},FInv K Oo c t σ H->Rep K c H x dx->Rep K c H y dy->h dx dy t=some (r,t')->
 (∀v H' c',FInv K Oo c' t' σ H'->Stp Oo c H c' H'->Rep K c' H' v r->Q v H')->R x y H Q
def Gj(R:List V->Hp->VK->Prop)(h:List D->M D):Prop:=∀{Oo:mm->Prop}{c:Cf}{t:T}{σ:L2.St}{H:Hp}{xs:List V}{ds:List D}{r:D}{t':T}{Q:VK},FInv K Oo c t σ H->Reps K c H xs ds->h ds t=some (r,t')->
 (∀v H' c',FInv K Oo c' t' σ H'->Stp Oo c H c' H'->Rep K c' H' v r->Q v H')->R xs H Q
def Sq(R:R2)(h:D->D->M (List D)):Prop:=∀{Oo:mm->Prop}{c:Cf}{t:T}{σ:L2.St}{H:Hp}{x y:V}{dx dy:D}{r:List D}{t':T}{Q:VK},FInv K Oo c t σ H->Rep K c H x dx->Rep K c H y dy->h dx dy t=some (r,t')->
 (∀p vs H' c',FInv K Oo c' t' σ H'->Stp Oo c H c' H'->Reps K c' H' vs r->H' p=none->Q (.ref p) (upd H' p (.lst vs)))->R x y H Q
def Kr(R:List V->Hp->VK->Prop)(h:List D->M (List D)):Prop:=∀{Oo:mm->Prop}{c:Cf}{t:T}{σ:L2.St}{H:Hp}{xs:List V}{ds r:List D}{t':T}{Q:VK},FInv K Oo c t σ H->Reps K c H xs ds->h ds t=some (r,t')->
 (∀p vs H' c',FInv K Oo c' t' σ H'->Stp Oo c H c' H'->Reps K c' H' vs r->H' p=none->Q (.ref p) (upd H' p (.lst vs)))->R xs H Q
end
variable{tg:Expr}{j i:Nat}{f g w:M D}{h h':D->D->M D}{R R':R2}{op:CmpOp}{σ:L2.St}
section
variable{X:Cx}{e a b:Expr}{pos:Pos}
theorem AO{t t':TE}(h:PE X e t)(i:∀σ H Q,t' σ H Q->t σ H Q):PE X e t':=λmi s σ H Q I q=>h mi s σ H Q I (i σ H Q q)
theorem LM{t t':TT}(h:PT X e t)(i:∀σ H Q,t' σ H Q->t σ H Q):PT X e t':=λmi s σ H Q I q=>h mi s σ H Q I (i σ H Q q)
theorem T0{t t':TT}(h:PW X e t)(i:∀σ H Q,t' σ H Q->t σ H Q):PW X e t':=λw mi s σ H Q I q=>h w mi s σ H Q I (i σ H Q q)
theorem TY{es:List Expr}{t t':TA}(h:PA X es t)(i:∀σ H Q,t' σ H Q->t σ H Q):PA X es t':=λpos mi s σ H Q I q=>h pos mi s σ H Q I (i σ H Q q)
theorem Bz{st:Stmt}{t t':TS}(h:PS X st t)(i:∀E σ H,t' E σ H->t E σ H):PS X st t':=λmi s σ H E I q=>h mi s σ H E I (i E σ H q)
theorem QT{st:List Stmt}{t t':TS}(h:PSs X st t)(i:∀E σ H,t' E σ H->t E σ H):PSs X st t':=λmi s σ H E I q=>h mi s σ H E I (i E σ H q)
theorem LK{t t':TG}(h:PG X e t)(i:∀v σ H Q,t' v σ H Q->t v σ H Q):PG X e t':=λmi s σ H v u Q I r q=>h mi s σ H v u Q I r (i v σ H Q q)
theorem LL{t t':TI}(h:PI X tg e t)(i:∀σ H R,t' σ H R->t σ H R):PI X tg e t':=λmi s σ H R I q=>h mi s σ H R I (i σ H R q)
def fC(d:D):M D:=ret d
theorem JS{v:V}{d:D}(h:PE X e (tC v))(r:∀c H,Rep X.K c H v d):PE X e (RE X.K (fC d)):=
 AO h λσ H Q z9=>by
  clear 5 z9 Oo c t f r' t' eq k
  cases eq
  exact k v H c f .refl (r c H)
theorem Mc{i:Int}:PE X (.Constant (.int i) j pos) (RE X.K (fC (.int i))):=JS Vn λ_ _=>.int i
theorem gm{i:Bool}:PE X (.Constant (.bool i) j pos) (RE X.K (fC (.bl i))):=JS gP λ_ _=>.bl i
theorem Me{i:Str}:PE X (.Constant (.str i) j pos) (RE X.K (fC (.str i))):=JS Vo λ_ _=>.str i
theorem cR:PE X (.Constant .none j pos) (RE X.K (fC .non)):=JS ee λ_ _=>.non
theorem Ng{x:Str}{i:Int}{tk:Tok}(hg:Gl X x)(hm:X.mg x=some (.int i tk))(hd:autoParam ((x==("__debug__":Str))=false) q1T):PE X (.Name x pos) (RE X.K (fC (.int i))):=
 JS (Nq hg hm (v:=.int i) ⟨tk,rfl⟩ hd) λ_ _=>.int i
theorem WN{x:Str}{y:Str}{tk:Tok}(hg:Gl X x)(hm:X.mg x=some (.str y tk))(hd:autoParam ((x==("__debug__":Str))=false) q1T):PE X (.Name x pos) (RE X.K (fC (.str y))):=
 JS (Nq hg hm (v:=.str y) ⟨tk,rfl⟩ hd) λ_ _=>.str y
noncomputable def W6(K:mh)(a:mm)(xs:List Str):Bool:=match K.lookup a with
 |some o=>(match o.cls with | .type n=>n == "tuple" |_=>false)&&(match o.data with | .seq its _=>decide (its.size<=15)&&decide (its.toList.length=xs.length)&&((its.toList.zip xs).all λp=>match p.1 with | .str y _=>y==p.2|_=>false)|_=>false)
 |none=>false
theorem Pn:∀{us:List mj}{xs:List Str},us.length=xs.length->((us.zip xs).all λp=>match p.1 with | .str y _=>y==p.2|_=>false)=true->Vals (xs.map V.str) us
 |[],[],_,_=>.nil
 |u::us,x::xs,h,e=>by
   rw[List.zip_cons_cons,ul4,uh3] at e;refine .cons ?_ (Pn (Nat.succ.inj h) e.2)
   cases u with
   |str y t=>have:=eq_of_beq e.1;dsimp only at this;subst this;exact⟨t,rfl⟩
   |_=>cases e.1
set_option tactic.hygienic true in
theorem db{a:mm}{xs:List Str}(h:W6 K a xs=true):Sj K a xs:=by
 unfold W6 at h
 split at h
 .next o e=>
  rw[uh3] at h;clear 5 h h1 h2
  split at h1
  .next n en=>
   split at h2
   .next its m ed=>
    rw[uh3,uh3] at h2;refine⟨o,its,m,e,by rw[en,eq_of_beq h1],ed,um6 (ug7 h2.1.1) (by decide),Pn (ug7 h2.1.2) h2.2⟩
   .cases h2
  .cases h1
 .cases h
theorem cQ{x:Str}{a:mm}{xs:List Str}(hg:Gl X x)(hm:X.mg x=some (.ref a))(hk:Sj X.K a xs)(hd:autoParam ((x==("__debug__":Str))=false) q1T):PE X (.Name x pos) (RE X.K (fC (.gts xs))):=
 JS (Nq hg hm (v:=.ref a) rfl hd) λ_ _=>.gts hk
theorem Mf{x:Str}{n:String}(hg:Gl X x)(hm:X.mg x=none)(hv:bootBuiltins x=some (.type n))(hn:autoParam (x≠"__name__") q1T)(hd:autoParam ((x==("__debug__":Str))=false) q1T):PE X (.Name x pos) (RE X.K (fC (.ty n))):=
 JS (ak hg hm hv (v:=.ty n) rfl hn hd) λ_ _=>.ty n
noncomputable def Aa(i:Nat):M D:=λt=>match t.env[i]? with
 |some (some (.val d))=>some (d,t)
 |some (some (.own ds))=>some (.lst ds,{t with env:=t.env.set i (some (.val (.lst ds)))})
 |_=>none
theorem SJ{t':T}{r:D}(h:Aa i t=some (r,t')):(t.env[i]?=some (some (.val r))/\t'=t)\/∃ds,t.env[i]?=some (some (.own ds))/\r=.lst ds/\t' = {t with env:=t.env.set i (some (.val (.lst ds)))}:=by
 unfold Aa at h
 cases e:t.env[i]? with
 |none=>rw[e] at h;cases h
 |some o=>
   cases o with
   |none=>rw[e] at h;cases h
   |some sl=>
     cases sl with
     |val d=>rw[e] at h;cases h;exact .inl ⟨rfl,rfl⟩
     |own ds=>rw[e] at h;cases h;exact .inr ⟨ds,rfl,rfl,rfl⟩
theorem Hc(i:Nat){x:Str}(hN:autoParam (X.N[i]?=some x) q3T)(hv:autoParam (Vis X.env.scope x) q0T)(hd:autoParam ((x==("__debug__":Str))=false) q1T)
 (hcd:autoParam ((x==("__classdict__":Str))=false) q1T):PE X (.Name x pos) (RE X.K (Aa i)):=
 AO (Kb hN hv hd hcd) λσ H Q z9=>by
  clear 5 z9 Oo c t f r t' eq k;rcases SJ eq with⟨q,rfl⟩|⟨ds,q,rfl,rfl⟩
  .clear 5(f.val i r q)v h1 h2;exact⟨v,h1,k v H c f .refl h2⟩
  .clear 5(f.frz q)c' v f' st h1 h2;exact⟨v,h1,k v H c' f' st h2⟩
def Ac(f g:M D)(h:D->D->M D):M D:=bnd f λx=>bnd g λy=>h x y
theorem RE.two(s:Br K R h){σ:L2.St}{H:Hp}{Q:VK}(q:RE K (Ac f g h) σ H Q):tOp R (RE K f) (RE K g) σ H Q:=by
 clear 5 q Oo c t fi r t' eq k;clear 5(Ag eq)dx t1 e1 eq;clear 5(Ag eq)dy t2 e2 eq;exact⟨Oo,c,t,fi,dx,t1,e1,λx H1 c1 f1 s1 rx=>⟨Oo,c1,t1,f1,dy,t2,e2,λy H2 c2 f2 s2 ry=>s f2 (rx.mono s2.ext) ry eq λv H' c' f' s' rv=>k v H' c' f' ((s1.trans s2).trans s') rv⟩⟩
theorem KA{op:Operator}(ho:OpR X (binaryOp op) R)(s:Br X.K R h)(ha:PE X a (RE X.K f))(hb:PE X b (RE X.K g)):PE X (.BinOp a op b pos) (RE X.K (Ac f g h)):=
 AO (Tg ho ha hb) λ_ _ _ q=>RE.two s q
theorem JT(ho:OpR X (compareOp op) R)(s:Br X.K R h)(ha:PE X a (RE X.K f))(hb:PE X b (RE X.K g))(hm:behindInMarks op b=false):PE X (.Compare a [op] [b] pos) (RE X.K (Ac f g h)):=
 AO (am ho ha hb hm) λ_ _ _ q=>RE.two s q
theorem Ov{R:R2}{f g:M D}{h:D->D->M D}(hr:IxR X R)(s:Br X.K R h)(ha:PE X a (RE X.K f))(hb:PE X b (RE X.K g))(hs:MR b):PE X (.Subscript a b pos) (RE X.K (Ac f g h)):=
 AO (YJ hr ha hb hs) λ_ _ _ q=>RE.two s q
def fUn(f:M D)(h:D->M D):M D:=bnd f h
theorem gq{op:UnaryOp}{R:V->Hp->VK->Prop}{h:D->M D}(ho:UnR X (unaryOp op) R)(s:bY X.K R h)(ha:PE X a (RE X.K f)):PE X (.UnaryOp op a pos) (RE X.K (fUn f h)):=
 AO (gR ho ha) λσ H Q z9=>by
  clear 5 z9 Oo c t fi r t' eq k;clear 5(Ag eq)dx t1 e1 eq;exact⟨Oo,c,t,fi,dx,t1,e1,λx H1 c1 f1 s1 rx=>s f1 rx eq λv H' c' f' s' rv=>k v H' c' f' (s1.trans s') rv⟩
def toB:D->M Bool
 |.bl b=>ret b
 |_=>fail
def Aj(f:M D):M Bool:=bnd f toB
theorem LA{d:D}{z:Bool×T}(h:toB d t=some z):∃b,d=.bl b/\z=(b,t):=by
 cases d with
 |bl b=>cases h;exact⟨b,rfl,rfl⟩
 |_=>cases h
theorem RT.val{Q:Bool->Hp->Prop}(q:RT K (Aj f) σ H Q):RE K f σ H λx H1=>∃k,x=.bl k/\Q k H1:=by
 clear 5 q Oo c t fi r t' eq k;clear 5(Ag eq)d t1 e1 eq;clear 5(LA eq)b rfl z
 cases z
 refine⟨Oo,c,t,fi,_,t',e1,λv H1 c1 f1 s1 rv=>?_⟩
 cases rv
 exact⟨r,rfl,k H1 c1 f1 s1⟩
theorem UD(h:PE X e (RE X.K f))(he:autoParam (∀whole,isTrue e X.env whole=(do let v <-whole;standAt e.pos;holding [v] (truthy v))) q2T):PT X e (RT X.K (Aj f)):=
 LM (eJ h he) λ_ _ _ q=>RT.val q
theorem Es{op:CmpOp}{R:R2}{f g:M D}{h:D->D->M D}(ho:OpR X (compareOp op) R)(s:Br X.K R h)(ha:PE X a (RE X.K f))(hb:PE X b (RE X.K g))(hm:behindInMarks op b=false):PT X (.Compare a [op] [b] pos) (RT X.K (Aj (Ac f g h))):=
 LM (aG ho ha hb hm) λσ H Q q=>RE.two s (RT.val q)
def Ep(f g w:M D)(h h':D->D->M D):M D:=bnd f λx=>bnd g λy=>bnd (Aj (h x y)) λk=>if k=true then bnd w λz=>h' y z else ret (.bl false)
theorem RE.chain(s:Br K R h)(s':Br K R' h'){σ:L2.St}{H:Hp}{Q:VK}(q:RE K (Ep f g w h h') σ H Q):Qy R R' (RE K f) (RE K g) (RE K w) σ H Q:=by
 clear 5 q Oo c t fi r t' eq k;clear 5(Ag eq)dx t1 e1 eq;clear 5(Ag eq)dy t2 e2 eq;clear 5(Ag eq)kb t3 e3 eq;clear 5(Ag e3)d3 t3' e3' e3;clear 5(LA e3)b3 rfl z
 cases z
 refine⟨Oo,c,t,fi,dx,t1,e1,λx H1 c1 f1 s1 rx=>⟨Oo,c1,t1,f1,dy,t2,e2,λy H2 c2 f2 s2 ry=>s f2 (rx.mono s2.ext) ry e3' λv H3 c3 f3 s3 rv=>?_⟩⟩
 cases rv
 refine⟨kb,rfl,?_⟩
 cases kb with
 |false=>
   rw[pX ue7] at eq⊢
   cases eq
   exact k _ H3 c3 f3 ((s1.trans s2).trans s3) (.bl false)
 |true=>
   rw[pW rfl] at eq⊢;clear 5(Ag eq)dz t4 e4 eq;exact⟨Oo,c3,t3,f3,dz,t4,e4,λw' H4 c4 f4 s4 rw'=>s' f4 (ry.mono (s3.trans s4).ext) rw' eq λv H' c' f' s' rv=>k v H' c' f' ((((s1.trans s2).trans s3).trans s4).trans s') rv⟩
theorem WK{d:Expr}{op':CmpOp}(ho:OpR X (compareOp op) R)(ho':OpR X (compareOp op') R')(s:Br X.K R h)(s':Br X.K R' h')(ha:PE X a (RE X.K f))(hb:PE X b (RE X.K g))(hd:PE X d (RE X.K w))
 (hm:autoParam (lastMarks [op,op'] [b,d]=false) q4T):PE X (.Compare a [op,op'] [b,d] pos) (RE X.K (Ep f g w h h')):=
 AO (Xv ho ho' ha hb hd hm) λ_ _ _ q=>RE.chain s s' q
theorem WZ{d:Expr}{op':CmpOp}(ho:OpR X (compareOp op) R)(ho':OpR X (compareOp op') R')(s:Br X.K R h)(s':Br X.K R' h')(ha:PE X a (RE X.K f))(hb:PE X b (RE X.K g))(hd:PE X d (RE X.K w))
 (hm:autoParam (lastMarks [op,op'] [b,d]=false) q4T):PT X (.Compare a [op,op'] [b,d] pos) (RT X.K (Aj (Ep f g w h h'))):=
 LM (XH ho ho' ha hb hd hm) λσ H Q q=>RE.chain s s' (RT.val q)
def Lm(f g:M Bool):M Bool:=bnd f λk=>if k=true then g else ret false
def fOr(f g:M Bool):M Bool:=bnd f λk=>if k=true then ret true else g
def Cn(f:M Bool):M Bool:=bnd f λk=>ret (!k)
def Eg(f g:M D):M D:=bnd (Aj f) λk=>if k=true then g else ret (.bl false)
def Nf(f g:M D):M D:=bnd (Aj f) λk=>if k=true then ret (.bl true) else g
def Ky(f:M D):M D:=bnd (Aj f) λk=>ret (.bl (!k))
def fIf(f:M Bool)(g h:M D):M D:=bnd f λk=>if k=true then g else h
variable{f g:M Bool}{u v w:M D}{rest:List Expr}
theorem gE(h:PW X e (RT X.K f)):PT X e (RT X.K f):=h.pt
theorem ZM(ha:PT X a (RT X.K f)):PW X (.BoolOp .And [a] pos) (RT X.K f):=aI ha
theorem c9(ha:PT X a (RT X.K f)):PW X (.BoolOp .Or [a] pos) (RT X.K f):=eL ha
theorem c8(ha:PT X a (RT X.K f))(hb:PW X (.BoolOp .And (b::rest) pos) (RT X.K g)):PW X (.BoolOp .And (a::b::rest) pos) (RT X.K (Lm f g)):=
 T0 (eK ha hb) λσ H Q z9=>by
  clear 5 z9 Oo c t fi r t' eq k;clear 5(Ag eq)kb t1 e1 eq;refine⟨Oo,c,t,fi,kb,t1,e1,λH1 c1 f1 s1=>?_⟩
  cases kb with
  |false=>rw[pX ue7] at eq⊢;cases eq;exact k H1 c1 f1 s1
  |true=>rw[pW rfl] at eq⊢;exact⟨Oo,c1,t1,f1,r,t',eq,λH2 c2 f2 s2=>k H2 c2 f2 (s1.trans s2)⟩
theorem gF(ha:PT X a (RT X.K f))(hb:PW X (.BoolOp .Or (b::rest) pos) (RT X.K g)):PW X (.BoolOp .Or (a::b::rest) pos) (RT X.K (fOr f g)):=
 T0 (g7 ha hb) λσ H Q z9=>by
  clear 5 z9 Oo c t fi r t' eq k;clear 5(Ag eq)kb t1 e1 eq;refine⟨Oo,c,t,fi,kb,t1,e1,λH1 c1 f1 s1=>?_⟩
  cases kb with
  |true=>rw[pW rfl] at eq⊢;cases eq;exact k H1 c1 f1 s1
  |false=>rw[pX ue7] at eq⊢;exact⟨Oo,c1,t1,f1,r,t',eq,λH2 c2 f2 s2=>k H2 c2 f2 (s1.trans s2)⟩
theorem c7(ha:PT X a (RT X.K f)):PT X (.UnaryOp .Not a pos) (RT X.K (Cn f)):=
 LM (eI ha) λσ H Q z9=>by
  clear 5 z9 Oo c t fi r t' eq k;clear 5(Ag eq)kb t1 e1 eq
  cases eq
  exact⟨Oo,c,t,fi,kb,_,e1,λH1 c1 f1 s1=>k H1 c1 f1 s1⟩
theorem LB{f:M D}{kb:Bool}{t1:T}(h:Aj f t=some (kb,t1)):f t=some (.bl kb,t1):=by
 clear 5(Ag h)d t2 e1 e2;clear 5(LA e2)b rfl z
 cases z
 exact e1
theorem cU{op:PySem.BoolOp}(h:PE X a (RE X.K u)):PE X (.BoolOp op [a] pos) (RE X.K u):=eA h
theorem cM(ha:PE X a (RE X.K u))(hb:PE X (.BoolOp .And (b::rest) pos) (RE X.K v)):PE X (.BoolOp .And (a::b::rest) pos) (RE X.K (Eg u v)):=
 AO (d7 ha hb) λσ H Q z9=>by
  clear 5 z9 Oo c t fi r t' eq k;clear 5(Ag eq)kb t1 e1 eq;refine⟨Oo,c,t,fi,_,t1,LB e1,λx H1 c1 f1 s1 rx=>?_⟩
  cases rx
  refine⟨kb,rfl,?_⟩
  cases kb with
  |false=>rw[pX ue7] at eq⊢;cases eq;exact k _ H1 c1 f1 s1 (.bl false)
  |true=>rw[pW rfl] at eq⊢;exact⟨Oo,c1,t1,f1,r,t',eq,λy H2 c2 f2 s2 ry=>k y H2 c2 f2 (s1.trans s2) ry⟩
theorem gn(ha:PE X a (RE X.K u))(hb:PE X (.BoolOp .Or (b::rest) pos) (RE X.K v)):PE X (.BoolOp .Or (a::b::rest) pos) (RE X.K (Nf u v)):=
 AO (gQ ha hb) λσ H Q z9=>by
  clear 5 z9 Oo c t fi r t' eq k;clear 5(Ag eq)kb t1 e1 eq;refine⟨Oo,c,t,fi,_,t1,LB e1,λx H1 c1 f1 s1 rx=>?_⟩
  cases rx
  refine⟨kb,rfl,?_⟩
  cases kb with
  |true=>rw[pW rfl] at eq⊢;cases eq;exact k _ H1 c1 f1 s1 (.bl true)
  |false=>rw[pX ue7] at eq⊢;exact⟨Oo,c1,t1,f1,r,t',eq,λy H2 c2 f2 s2 ry=>k y H2 c2 f2 (s1.trans s2) ry⟩
theorem cS(ha:PE X a (RE X.K u)):PE X (.UnaryOp .Not a pos) (RE X.K (Ky u)):=
 AO (eh ha) λσ H Q z9=>by
  clear 5 z9 Oo c t fi r t' eq k;clear 5(Ag eq)kb t1 e1 eq
  cases eq
  refine⟨Oo,c,t,fi,_,_,LB e1,λx H1 c1 f1 s1 rx=>?_⟩
  cases rx
  exact⟨kb,rfl,k _ H1 c1 f1 s1 (.bl (!kb))⟩
theorem WO{d:Expr}(hc:PT X d (RT X.K f))(ha:PE X a (RE X.K u))(hb:PE X b (RE X.K v)):PE X (.IfExp d a b pos) (RE X.K (fIf f u v)):=
 AO (Xx hc ha hb) λσ H Q z9=>by
  clear 5 z9 Oo c t fi r t' eq k;clear 5(Ag eq)kb t1 e1 eq;refine⟨Oo,c,t,fi,kb,t1,e1,λH1 c1 f1 s1=>?_⟩
  cases kb with
  |false=>rw[pX ue7] at eq⊢;exact⟨Oo,c1,t1,f1,r,t',eq,λy H2 c2 f2 s2 ry=>k y H2 c2 f2 (s1.trans s2) ry⟩
  |true=>rw[pW rfl] at eq⊢;exact⟨Oo,c1,t1,f1,r,t',eq,λy H2 c2 f2 s2 ry=>k y H2 c2 f2 (s1.trans s2) ry⟩
end
variable{n:Nat}{p:Pos}
section
variable{X:Cx}{e a b:Expr}{es:List Expr}{pos:Pos}
def Ad:M (List D):=ret []
def Ab(f:M D)(g:M (List D)):M (List D):=bnd f λd=>bnd g λds=>ret (d::ds)
theorem Iv:PA X [] (RA X.K Ad):=TY d6 λσ H Q z9=>by
 clear 5 z9 Oo c t fi r t' eq k
 cases eq
 exact k [] H c fi .refl .nil
theorem Zx{g:M (List D)}(ha:PE X e (RE X.K f))(hr:PA X es (RA X.K g))(hs:autoParam (starEach (e::es) X.env=(false,eval e X.env)::starEach es X.env) q3T):PA X (e::es) (RA X.K (Ab f g)):=
 TY (ai ha hr hs) λσ H Q z9=>by
  clear 5 z9 Oo c t fi r t' eq k;clear 5(Ag eq)d t1 e1 eq;clear 5(Ag eq)ds t2 e2 eq
  cases eq
  exact⟨Oo,c,t,fi,d,t1,e1,λx H1 c1 f1 s1 rx=>⟨Oo,c1,t1,f1,ds,_,e2,λxs H2 c2 f2 s2 rxs=>k _ H2 c2 f2 (s1.trans s2) (.cons (rx.mono s2.ext) rxs)⟩⟩
def lim{α:Type}(n:Nat)(a:α):M α:=λt=>if n<=LIM then some (a,t) else none
set_option tactic.hygienic true in
theorem E4{α:Type}{a:α}{z:α×T}(h:lim n a t=some z):n<=LIM/\z=(a,t):=by
 unfold lim at h
 split at h
 .next h1=>cases h;exact⟨h1,rfl⟩
 .cases h
def AJ(f:M (List D)):M D:=bnd f λds=>lim ds.length (.tup ds)
theorem JU{x1:Nat}{f:M (List D)}(h:PA X es (RA X.K f)):PE X (.Tuple es x1 pos) (RE X.K (AJ f)):=
 AO (eB h) λσ H Q z9=>by
  clear 5 z9 Oo c t fi r t' eq k;clear 5(Ag eq)ds t1 e1 eq;clear 5(E4 eq)hl z
  cases z
  refine⟨Oo,c,t,fi,ds,_,e1,λxs H1 c1 f1 s1 rxs=>⟨by rw[rxs.length];exact um6 hl El,λp hp=>?_⟩⟩;exact k _ _ c1 (f1.laid hp) (s1.trans (f1.stp_laid hp)) (.tup Be (f1.s.free hp) (rxs.mono (Ext.laid f1.s hp)))
def A9(f:M (List D)):M (List D):=bnd f λds=>lim ds.length ds
theorem Us{f:M (List D)}(h:PA X es (RA X.K f)):PE X (.List es pos) (RF X.K (A9 f)):=
 AO (d9 h) λσ H Q z9=>by
  clear 5 z9 Oo c t fi r t' eq k;clear 5(Ag eq)ds t1 e1 eq;clear 5(E4 eq)hl z
  cases z
  exact⟨Oo,c,t,fi,_,_,e1,λxs H1 c1 f1 s1 rxs=>⟨by rw[rxs.length];exact um6 hl El,λp hp=>k p xs H1 c1 f1 s1 rxs hp⟩⟩
def Au(f:M (List D)):M D:=bnd f λds=>ret (.lst ds)
theorem Ra{f:M (List D)}(h:PE X e (RF X.K f)):PE X e (RE X.K (Au f)):=
 AO h λσ H Q z9=>by
  clear 5 z9 Oo c t fi r t' eq k;clear 5(Ag eq)ds t1 e1 eq
  cases eq
  exact⟨Oo,c,t,fi,ds,_,e1,λp xs H1 c1 f1 s1 rxs hp=>k _ _ c1 (f1.laid hp) (s1.trans (f1.stp_laid hp)) (.lst Be (f1.s.free hp) (rxs.mono (Ext.laid f1.s hp)))⟩
noncomputable def Ta(o:Ob):M D:=λt=>some (.obj t.S.length,{t with S:=t.S++[o]})
def Gn(f:M (List D)):M D:=bnd f λds=>Ta (.lst ds)
theorem cT{f:M (List D)}(h:PE X e (RF X.K f)):PE X e (RE X.K (Gn f)):=
 AO h λσ H Q z9=>by
  clear 5 z9 Oo c t fi r t' eq k;clear 5(Ag eq)ds t1 e1 eq
  cases eq
  refine⟨Oo,c,t,fi,ds,_,e1,λp xs H1 c1 f1 s1 rxs hp=>?_⟩;obtain⟨c2,f2,s2,e2⟩:=f1.newObj (o:=.lst ds) (u:=.lst xs) hp λc' H' ex hu=>⟨xs,hu,rxs.mono ex⟩;exact k _ _ c2 f2 (s1.trans s2) (.obj e2)
abbrev Fn:=List D->List Ob->Option (D×List Ob)
inductive spF(K:mh)(f:Fn)(vs:List V)(H:Hp)(Q:VK)(E:XK):Prop where
 |mk (c:Cf) (ds:List D) (S:List Ob) (si:SInv K c S H) (rs:Reps K c H vs ds) (r:D) (S':List Ob) (e:f ds S=some (r,S')) (k:∀v H' c',SInv K c' S' H'->Stp c.O c H c' H'->(∀b,c'.O b↔c.O b)->Rep K c' H' v r->Q v H'):spF K f vs H Q E
def Af(g:Fn)(f:M (List D)):M D:=bnd f λds t=>match g ds t.S with
 |some (r,S')=>some (r,{t with S:=S'})
 |none=>none
theorem HH{g:Fn}{ds:List D}{r:D}{t':T}(h:(match g ds t.S with|some (r,S')=>some (r,{t with S:=S'})|none=>none:Option (D×T))=some (r,t')):∃S',g ds t.S=some (r,S')/\t' = {t with S:=S'}:=by
 cases e:g ds t.S with
 |none=>rw[e] at h;cases h
 |some p=>clear 5 p r' S';rw[e] at h;cases h;exact⟨S',rfl,rfl⟩
theorem Zy{k:Nat}{fa:mm}{fd:mx}{ps:List Str}{g:Fn}{f:M (List D)}{x:Str}(F:FnOk X.prog X.w X.K X.mg X.base CX0 k fa fd ps (spF X.K g))(hr:Room k X.A)(hg:Gl X x)(hm:X.mg x=some (.ref fa))(hk:PySem.W.keepIn X.K (.ref fa)=true)(hb:Binds X.K fd ps [])
 (ha:PA X (e::es) (RA X.K f)) (hdb:autoParam ((x==("__debug__":Str))=false) q1T) (he:autoParam (starEach (e::es) X.env=(false,eval e X.env)::starEach es X.env) q3T) (hpl:autoParam ((backTo pos (starEach es X.env)).any (·.1)=false) q3T) :
 PE X (.Call (.Name x p) (e::es) [] pos) (RE X.K (Af g f)):=
 AO (RK F hr hg hm hk hb .nil KM ha hdb he hpl) λσ H Q z9=>by
  clear 5 z9 Oo c t fi r t' eq kk;clear 5(Ag eq)ds t1 e1 eq;clear 5(HH eq)S' e2 rfl;refine⟨Oo,c,t,fi,ds,t1,e1,λvs H1 c1 f1 s1 rvs=>?_⟩;show spF X.K g (vs++[]) H1 Q E0;rw[ui9];refine⟨c1,ds,t1.S,f1.s,rvs,r,S',e2,λv H' c' si st ho rv=>?_⟩;clear 5(f1.after si st ho)f2 s2;exact kk v H' c' f2 (s1.trans s2) rv
def fB(f:M (List D))(h:List D->M D):M D:=bnd f h
theorem RE.callB{f:M (List D)}{h:List D->M D}{R:List V->Hp->VK->Prop}(s:Gj K R h){σ:L2.St}{H:Hp}{Q:VK}(q:RE K (fB f h) σ H Q):tCB R (RA K f) σ H Q:=by
 clear 5 q Oo c t fi r t' eq k;clear 5(Ag eq)ds t1 e1 eq;exact⟨Oo,c,t,fi,ds,t1,e1,λxs H1 c1 f1 s1 rxs=>s f1 rxs eq λv H' c' f' s' rv=>k v H' c' f' (s1.trans s') rv⟩
def fBF(f:M (List D))(h:List D->M (List D)):M (List D):=bnd f h
theorem RF.callB{f:M (List D)}{h:List D->M (List D)}{R:List V->Hp->VK->Prop}(s:Kr K R h){σ:L2.St}{H:Hp}{Q:VK}(q:RF K (fBF f h) σ H Q):tCB R (RA K f) σ H Q:=by
 clear 5 q Oo c t fi r t' eq k;clear 5(Ag eq)ds t1 e1 eq;exact⟨Oo,c,t,fi,ds,t1,e1,λxs H1 c1 f1 s1 rxs=>s f1 rxs eq λp vs H' c' f' s' rv hp=>k p vs H' c' f' (s1.trans s') rv hp⟩
theorem RF.two{h:D->D->M (List D)}(s:Sq K R h){σ:L2.St}{H:Hp}{Q:VK}(q:RF K (bnd f λx=>bnd g λy=>h x y) σ H Q):tOp R (RE K f) (RE K g) σ H Q:=by
 clear 5 q Oo c t fi r t' eq k;clear 5(Ag eq)dx t1 e1 eq;clear 5(Ag eq)dy t2 e2 eq;exact⟨Oo,c,t,fi,dx,t1,e1,λx H1 c1 f1 s1 rx=>⟨Oo,c1,t1,f1,dy,t2,e2,λy H2 c2 f2 s2 ry=>s f2 (rx.mono s2.ext) ry eq λp vs H' c' f' s' rv hp=>k p vs H' c' f' ((s1.trans s2).trans s') rv hp⟩⟩
end
variable{μ:Cf->Hp->D->(V->Hp->Prop)->Prop}
section
variable{X:Cx}{e a b:Expr}{pos:Pos}{st:Stmt}{sts:List Stmt}
noncomputable def Ae(f g:M Out):M Out:=λt=>match f t with
 |some (.next,t1)=>g t1
 |z=>z
def As:M Out:=ret .next
theorem Rm:PSs X [] (RSg X.K μ As):=QT aF λE σ H z9=>by
 clear 5 z9 Oo c t fi o t' eq k
 cases eq
 exact k σ H c fi .refl
theorem Pj{μ:Cf->Hp->D->(V->Hp->Prop)->Prop}{f g:M Out}(h1:PS X st (RSg X.K μ f))(h2:PSs X sts (RSg X.K μ g)):PSs X (st::sts) (RSg X.K μ (Ae f g)):=
 QT (XG h1 h2) λE σ H z9=>by
  clear 5 z9 Oo c t fi o t' eq k;unfold Ae at eq
  cases e1:f t with
  |none=>rw[e1] at eq;cases eq
  |some p=>
    clear 5 p o1 t1;rw[e1] at eq;refine⟨Oo,c,t,fi,o1,t1,e1,λσ1 H1 c1 f1 s1=>?_⟩
    cases o1 with
    |next=>exact⟨Oo,c1,t1,f1,o,t',eq,λσ2 H2 c2 f2 s2=>k σ2 H2 c2 f2 (s1.trans s2)⟩
    |brk=>cases eq;exact k σ1 H1 c1 f1 s1
    |cont=>cases eq;exact k σ1 H1 c1 f1 s1
    |ret d=>cases eq;exact k σ1 H1 c1 f1 s1
theorem FR{μ:Cf->Hp->D->(V->Hp->Prop)->Prop}{f:M Out}(h1:PS X st (RSg X.K μ f)):PSs X [st] (RSg X.K μ f):=RN h1
def Al(f:M D):M Out:=bnd f λd=>ret (.ret d)
theorem UB(h:PE X e (RE X.K f)):PS X (.Return (some e) pos) (RS X.K (Al f)):=
 Bz (Ke h) λE σ H z9=>by
  clear 5 z9 Oo c t fi o t' eq k;clear 5(Ag eq)d t1 e1 eq
  cases eq
  exact⟨Oo,c,t,fi,d,_,e1,λv H1 c1 f1 s1 rv=>k σ H1 c1 f1 s1 v rv⟩
theorem Rg:PS X (.Pass pos) (RSg X.K μ As):=Bz aC λE σ H z9=>by
 clear 5 z9 Oo c t fi o t' eq k
 cases eq
 exact k σ H c fi .refl
theorem K0:PS X (.Continue pos) (RSg X.K μ (ret .cont)):=Bz QM λE σ H z9=>by
 clear 5 z9 Oo c t fi o t' eq k
 cases eq
 exact k σ H c fi .refl
theorem WW:PS X (.Break pos) (RSg X.K μ (ret .brk)):=Bz XB λE σ H z9=>by
 clear 5 z9 Oo c t fi o t' eq k
 cases eq
 exact k σ H c fi .refl
def DQ(f:M D):M Out:=bnd f λ_=>ret .next
theorem Ni(h:PE X e (RE X.K f))(hs:autoParam (swapsWith e none pos.line X.env=pure false) q3T):PS X (.Expr e pos) (RSg X.K μ (DQ f)):=
 Bz (Nt h hs) λE σ H z9=>by
  clear 5 z9 Oo c t fi o t' eq k;clear 5(Ag eq)d t1 e1 eq
  cases eq
  exact⟨Oo,c,t,fi,d,_,e1,λv H1 c1 f1 s1 rv=>k σ H1 c1 f1 s1⟩
def ifS(f:M Bool)(g h:M Out):M Out:=bnd f λk=>if k=true then g else h
theorem YC{μ:Cf->Hp->D->(V->Hp->Prop)->Prop}{f:M Bool}{g h:M Out}{sa sb:List Stmt}(hc:PT X e (RT X.K f))(ha:PSs X sa (RSg X.K μ g))(hb:PSs X sb (RSg X.K μ h)):PS X (.If e sa sb pos) (RSg X.K μ (ifS f g h)):=
 Bz (g6 hc ha hb) λE σ H z9=>by
  clear 5 z9 Oo c t fi o t' eq k;clear 5(Ag eq)kb t1 e1 eq;refine⟨Oo,c,t,fi,kb,t1,e1,λH1 c1 f1 s1=>?_⟩
  cases kb with
  |true=>rw[pW rfl] at eq⊢;exact⟨Oo,c1,t1,f1,o,t',eq,λσ2 H2 c2 f2 s2=>k σ2 H2 c2 f2 (s1.trans s2)⟩
  |false=>rw[pX ue7] at eq⊢;exact⟨Oo,c1,t1,f1,o,t',eq,λσ2 H2 c2 f2 s2=>k σ2 H2 c2 f2 (s1.trans s2)⟩
noncomputable def Ar(i:Nat)(d:D):M Unit:=λt=>some ((),{t with env:=t.env.set i (some (.val d))})
def Aq(i:Nat)(f:M D):M Out:=bnd f λd=>bnd (Ar i d) λ_=>ret .next
theorem RS.set{μ:Cf->Hp->D->(V->Hp->Prop)->Prop}{K:mh}{i:Nat}{f:M D}{E:Ends}{σ:L2.St}{H:Hp}(q:RSg K μ (Aq i f) E σ H):Qx (RE K f) (Ml i) E σ H:=by
 clear 5 q Oo c t fi o t' eq k;clear 5(Ag eq)d t1 e1 eq
 cases eq
 exact⟨Oo,c,t,fi,d,t1,e1,λv H1 c1 f1 s1 rv=>k _ H1 c1 (f1.set rv) s1⟩
theorem Pi{μ:Cf->Hp->D->(V->Hp->Prop)->Prop}{i:Nat}{x:Str}{f:M D}{pos':Pos}(hN:X.N.Nodup)(hi:X.N[i]?=some x)(hx:Loc X.env.scope x)(he:PE X e (RE X.K f))(hs:autoParam (swapsWith e (some (.Name x pos')) pos.line X.env=pure false) q3T)(hf:autoParam (X.fn x=true\/X.env.scope.names.lookup x=some .local) q0T) :
 PS X (.Assign [.Name x pos'] e pos) (RSg X.K μ (Aq i f)):=Bz (Qd hN hi hx he hs hf) λ_ _ _ q=>RS.set q
def D1(i:Nat)(f:M (List D)):M Out:=bnd f λds t=>some (.next,{t with env:=t.env.set i (some (.own ds))})
theorem RS.own{f:M (List D)}{E:Ends}(q:RSg K μ (D1 i f) E σ H):Qx (RF K f) (Ml i) E σ H:=by
 clear 5 q Oo c t fi o t' eq k;clear 5(Ag eq)ds t1 e1 eq
 cases eq
 refine⟨Oo,c,t,fi,ds,t1,e1,λp vs H1 c1 f1 s1 rv hp=>?_⟩;clear 5(f1.setOwn (i:=i) hp rv)c2 f2 s2;exact k _ _ c2 f2 (s1.trans s2)
theorem cZ{x:Str}{f:M (List D)}{pos':Pos}(hN:X.N.Nodup)(hi:X.N[i]?=some x)(hx:Loc X.env.scope x)(he:PE X e (RF X.K f))(hs:autoParam (swapsWith e (some (.Name x pos')) pos.line X.env=pure false) q3T)(hf:autoParam (X.fn x=true\/X.env.scope.names.lookup x=some .local) q0T) :
 PS X (.Assign [.Name x pos'] e pos) (RSg X.K μ (D1 i f)):=Bz (Qd hN hi hx he hs hf) λ_ _ _ q=>RS.own q
theorem BC{x:Str}(hN:X.N.Nodup)(hi:X.N[i]?=some x)(hx:Loc X.env.scope x)(hf:autoParam (X.fn x=true\/X.env.scope.names.lookup x=some .local) q0T):PG X (.Name x pos) (RG X.K (Ar i)):=
 LK (au hN hi hx hf) λv σ H Q z9=>by
  clear 5 z9 Oo c t d fi rv t' eq k
  cases eq
  exact k _ H c (fi.set rv) .refl
def Dh(f:M D)(g:D->M Unit):M Out:=bnd f λd=>bnd (g d) λ_=>ret .next
theorem cX{g:D->M Unit}(he:PE X e (RE X.K f))(hg:PG X tg (RG X.K g))(hs:autoParam (swapsWithSole [tg] e pos.line X.env=pure false) q3T)(hw:autoParam (swappedStores [tg] e X.env=pure none) q3T)(hp:autoParam ((assignEach [tg] X.env).map (·.2)=[assign tg X.env]) q3T) :
 PS X (.Assign [tg] e pos) (RSg X.K μ (Dh f g)):=
 Bz (by first|exact Vv he hg hs hw|exact Vv he hg hs hw hp) λE σ H z9=>by
  clear 5 z9 Oo c t fi o t' eq k;clear 5(Ag eq)d t1 e1 eq;clear 5(Ag eq)u t2 e2 eq
  cases eq
  exact⟨Oo,c,t,fi,d,t1,e1,λv H1 c1 f1 s1 rv=>⟨Oo,c1,t1,d,f1,rv,_,e2,λσ2 H2 c2 f2 s2=>k σ2 H2 c2 f2 (s1.trans s2)⟩⟩
inductive RGs(K:mh)(f:List D->M Unit)(vs:List V)(σ:L2.St)(H:Hp)(Q:L2.St->Hp->Prop):Prop where
 |mk (Oo:mm->Prop) (c:Cf) (t:T) (ds:List D) (fi:FInv K Oo c t σ H) (r:Reps K c H vs ds) (t':T) (e:f ds t=some ((),t')) (k:∀σ' H' c',FInv K Oo c' t' σ' H'->Stp Oo c H c' H'->Q σ' H'):RGs K f vs σ H Q
theorem QS{ts:List Expr}{t t':TGs}(h:PGs X ts t)(i:∀v σ H Q,t' v σ H Q->t v σ H Q):PGs X ts t':=λmi s σ H vs us Q I r q=>h mi s σ H vs us Q I r (i vs σ H Q q)
def Db:List D->M Unit
 |[]=>ret ()
 |_=>fail
def A1(f:D->M Unit)(g:List D->M Unit):List D->M Unit
 |d::ds=>bnd (f d) λ_=>g ds
 |[]=>fail
theorem Rb:PGs X [] (RGs X.K Db):=QS aw λvs σ H Q z9=>by
 clear 5 z9 Oo c t ds fi rv t' eq k
 cases rv with
 |nil=>cases eq;exact⟨rfl,k σ H c fi .refl⟩
 |cons _ _=>cases eq
theorem RGs.cons{K:mh}{f:D->M Unit}{g:List D->M Unit}{vs:List V}{σ:L2.St}{H:Hp}{Q:L2.St->Hp->Prop}(q:RGs K (A1 f g) vs σ H Q):YD (RG K f) (RGs K g) vs σ H Q:=by
 clear 5 q Oo c t ds fi rv t' eq k
 cases rv with
 |nil=>cases eq
 |cons r rs=>
   clear 5(Ag eq)u t1 e1 eq;exact⟨_,_,rfl,Oo,c,t,_,fi,r,t1,e1,λσ1 H1 c1 f1 s1=>⟨Oo,c1,t1,_,f1,rs.mono s1.ext,t',eq,λσ2 H2 c2 f2 s2=>k σ2 H2 c2 f2 (s1.trans s2)⟩⟩
set_option tactic.hygienic true in
def C8(st:D->M Unit)(b:M Out):List D->M Out
 |[]=>ret .next
 |d::r=>λt=>match st d t with
   |none=>none
   |some (_,t1)=>match b t1 with
     |some (.next,t2)=>C8 st b r t2
     |some (.cont,t2)=>C8 st b r t2
     |some (.brk,t2)=>some (.next,t2)
     |some (.ret x,t2)=>some (.ret x,t2)
     |none=>none
def Bx(f:M (List D))(st:D->M Unit)(b:M Out):M Out:=bnd f λds=>C8 st b ds
theorem RS.for{f:M (List D)}{g:D->M Unit}{b:M Out}{E:Ends}(q:RSg K μ (Bx f g b) E σ H):fE (RI K f) (RG K g) (RSg K μ b) E σ H:=by
 clear 5 q Oo c t fi o t' eq k;clear 5(Ag eq)ds t1 e1 eq;refine⟨Oo,c,t,fi,ds,t1,e1,λJ H1 c1 f1 s1 it=>?_⟩;refine⟨λi m σ' H'=>m=ds.length-i/\i<=ds.length/\∃c' t2,FInv K Oo c' t2 σ' H'/\Stp Oo c1 H1 c' H'/\C8 g b (ds.drop i) t2=some (o,t'),⟨_,rfl,un7 _,c1,t1,f1,.refl,by rw[uk8];exact eq⟩,?_⟩;rintro i m σ' H' ⟨rfl,hi,c',t2,f2,s2,e2⟩
 by_cases hlt:i<ds.length
 .refine .inr ⟨it.go c' H' i s2.ext hlt,λσ3 H3=>∃c3 t3,FInv K Oo c3 t3 σ3 H3/\Stp Oo c1 H1 c3 H3/\C8 g b (ds.drop (i+1)) t3=some (o,t'),λσ3 H3 h=>⟨ds.length-(i+1),by lia,rfl,hlt,h⟩,λx H'' hy=>?_⟩;clear 5(it.yld c' H' i x H'' _ s2.ext (ub1 hlt) hy)rfl rx;rw[List.drop_eq_getElem_cons hlt] at e2;unfold C8 at e2
  cases e3:g ds[i] t2 with
  |none=>rw[e3] at e2;cases e2
  |some p=>
    clear 5 p u t3;rw[e3] at e2
    try dsimp only at e2
    refine⟨Oo,c',t2,_,f2,rx,t3,e3,λσ3 H3 c3 f3 s3=>?_⟩
    cases e4:b t3 with
    |none=>rw[e4] at e2;cases e2
    |some p=>
      clear 5 p o4 t4;rw[e4] at e2
      try dsimp only at e2
      refine⟨Oo,c3,t3,f3,o4,t4,e4,λσ5 H5 c5 f5 s5=>?_⟩;have s':=(s2.trans s3).trans s5
      cases o4 with
      |next=>exact⟨c5,t4,f5,s',e2⟩
      |cont=>exact⟨c5,t4,f5,s',e2⟩
      |brk=>cases e2;exact k σ5 H5 c5 f5 (s1.trans s')
      |ret r=>cases e2;exact k σ5 H5 c5 f5 (s1.trans s')
 .have hi':i=ds.length:=by lia
  subst hi';rw[uh5] at e2
  cases e2
  exact .inl ⟨it.stop c' H' s2.ext,k σ' H' c' f2 (s1.trans s2)⟩
theorem Ph{μ:Cf->Hp->D->(V->Hp->Prop)->Prop}{tg iter:Expr}{body:List Stmt}{f:M (List D)}{g:D->M Unit}{b:M Out}(hp:PassesOwn (model X.prog X.w) X.A X.env X.xe)(hc:X.calm=true)(hi:PI X tg iter (RI X.K f))(hg:PG X tg (RG X.K g))(hb:PSs X body (RSg X.K μ b))
 (hs:autoParam (∀x,foldedSetIterable iter X.env x=pure x) q2T):PS X (.For tg iter body [] pos) (RSg X.K μ (Bx f g b)):=
 Bz (eG hp hc hi hg hb hs) λ_ _ _ q=>RS.for q
theorem ItOk.lst{K:mh}{c:Cf}{H:Hp}{p:mm}{ds:List D}(r:∀c' H',Ext c H c' H'->∃vs,SqL K H' p vs/\Reps K c' H' vs ds):ItOk K (Itl K p) c H ds:=by
 refine⟨λc' H' i ex hi=>?_,λc' H' i x H'' d ex hd hy=>?_,λc' H' ex=>?_⟩
 .clear 5(r c' H' ex)vs h1 h2;obtain⟨v,e,_⟩:=h2.at (ub1 hi);exact⟨vs,v,h1,e⟩
 .clear 5(r c' H' ex)vs h1 h2;clear 5 hy rfl h;exact⟨rfl,h2.get (h vs h1) hd⟩
 .clear 5(r c' H' ex)vs h1 h2;exact⟨vs,h1,by rw[h2.length];exact un6 _⟩
theorem ItOk.tup{K:mh}{c:Cf}{H:Hp}{p:mm}{ds:List D}(r:∀c' H',Ext c H c' H'->∃vs,SqT K H' p vs/\Reps K c' H' vs ds):ItOk K (Itt K p) c H ds:=by
 refine⟨λc' H' i ex hi=>?_,λc' H' i x H'' d ex hd hy=>?_,λc' H' ex=>?_⟩
 .clear 5(r c' H' ex)vs h1 h2;obtain⟨v,e,_⟩:=h2.at (ub1 hi);exact⟨vs,v,h1,e⟩
 .clear 5(r c' H' ex)vs h1 h2;clear 5 hy rfl h;exact⟨rfl,h2.get (h vs h1) hd⟩
 .clear 5(r c' H' ex)vs h1 h2;exact⟨vs,h1,by rw[h2.length];exact un6 _⟩
end
theorem FInv.leave{Oo:mm->Prop}(f:FInv K Oo c t σ H):SInv K ⟨c.ι,Oo⟩ t.S H/\Ext c H ⟨c.ι,Oo⟩ H:=by
 have ext:Ext c H ⟨c.ι,Oo⟩ H:=⟨λ_ _ e _=>e,λb o _ z=>z.elim .inl λw=>.inr (f.sub b w),λ_ _ e=>e⟩;exact⟨⟨f.s.len,f.s.nd,λk a o e1 e2=>(f.s.obs k a o e1 e2).mono ext rfl,λb z=>f.s.trk b (f.sub b z),λb z=>f.s.dis b (f.sub b z)⟩,ext⟩
noncomputable def env0(m:Nat)(ds:List D):List (Option Sl):=ds.map (λd=>some (.val d))++List.replicate (m-ds.length) none
def fnOf(n m:Nat)(g:M Out):Fn:=λds S=>if ds.length=n then(match g ⟨env0 m ds,S⟩ with
 |some (.ret r,t)=>some (r,t.S)
 |some (.next,t)=>some (.non,t.S)
 |_=>none) else none
theorem IW{ds:List D}{N:List Str}(s:SInv K c S H)(r:Reps K c H vs ds):FInv K c.O c ⟨env0 N.length ds,S⟩ (L2.EX N vs) H:=by
 have hlen:vs.length=ds.length:=r.length;have none_:∀{i:Nat}{x:Sl},(env0 N.length ds)[i]?=some (some x)->∃d,ds[i]?=some d/\x=.val d:=λ{i x} q=>by
  unfold env0 at q
  by_cases hi:i<ds.length
  .rw[ua8 (by simpa using hi),uf7,ub1 hi] at q;simp at q;exact⟨ds[i],ub1 hi,q.symm⟩
  .rw[ua4 (by simpa using hi),List.getElem?_replicate] at q
   split at q<;>simp at q
 refine⟨s,by simp[env0,L2.EX,hlen],λ_ z=>z,λi d q=>?_,λi es q=>?_,λi j es _ a q _ _ _=>?_⟩
 .obtain⟨d',h1,h2⟩:=none_ q
  cases h2
  clear 5(r.at h1)v h3 h4;refine⟨v,?_,h4⟩;unfold L2.EX;have hi:=(ua7.mp h3).1;rw[ua8 (by simpa using hi),uf7,h3];rfl
 .obtain⟨_,_,h2⟩:=none_ q;cases h2
 .obtain⟨_,_,h2⟩:=none_ q;cases h2
set_option tactic.hygienic true in
theorem gC{P:mq}{w:mw}{mg:Str->Option mj}{base:Heap}{x qual:Str}{st:Stmt}{fa:mm}{fd:mx}{N ps:List Str}{k:Nat}{g:M Out}(F:Fun K x qual st fa fd)(S:FnScope N ps (AN st))
 (hb:∀(cdv:mj) (A:Around) (outer:List Env) (s:mn) (H:Hp) (E:XK),Room k (A.deeper (PyProof.Rows.envOfC qual (AN st) s.heap.objs.size fa cdv))->
   PSs (FO CX0 P w K mg base N qual (AN st) fa cdv A outer s H E).nox (DG st) (RS K g)):FnOk P w K mg base CX0 (k+1) fa fd ps (spF K (fnOf ps.length N.length g)):=by
 have hlen:∀{ds:List D}{S:List Ob}{z:D×List Ob},fnOf ps.length N.length g ds S=some z->ds.length=ps.length:=λ{ds S z} h=>by
  unfold fnOf at h
  split at h
  .next h1=>exact h1
  .cases h
 refine F.ok S (λvs H Q E h=>?_) (λcdv A outer s H vs Q E hr h=>?_)
 .obtain⟨c,ds,S,si,rs,r,S',e,_⟩:=h;rw[rs.length];exact hlen e
 clear 5 h c ds S0 si rs r S' e kk;refine⟨RS K g,hb cdv A outer s H E hr,?_⟩;have hl:=hlen e;unfold fnOf at e;rw[pW hl] at e
 cases eg:g ⟨env0 N.length ds,S0⟩ with
 |none=>rw[eg] at e;cases e
 |some p=>
   clear 5 p o t;rw[eg] at e;refine⟨c.O,c,_,IW si rs,o,t,eg,λσ' H' c' f' s'=>?_⟩;clear 5 f'.leave si' ext';have st':Stp c.O c H ⟨c'.ι,c.O⟩ H':=⟨s'.ext.trans ext',s'.oo⟩
   cases o with
   |next=>cases e;exact kk .non H' _ si' st' (λ_=>pV) .non
   |ret d=>cases e;exact λv rv=>kk v H' _ si' st' (λ_=>pV) (rv.mono ext')
   |brk=>cases e
   |cont=>cases e
variable{fr:List Nat}
section
variable{X:Cx}{e a b:Expr}{pos:Pos}
def items:D->M (List D)
 |.lst ds=>ret ds
 |.tup ds=>ret ds
 |.scr ns=>ret (ns.map .int)
 |_=>fail
noncomputable def Bf(lo:Int)(n:Nat):List D:=(List.range n).map λi=>.int (lo+(i:Nat))
theorem ItOk.rng{lo:Int}:ItOk K (Itr lo n) c H (Bf lo n):=by
 refine⟨λc' H' i ex hi=>?_,λc' H' i x H'' d ex hd hy=>?_,λc' H' ex=>?_⟩
 .have:i<n:=by simpa[Bf] using hi
  exact this
 .clear 5 hy rfl rfl;refine⟨rfl,?_⟩;have hi:i<n:=by
   have:=(ua7.mp hd).1;simpa[Bf] using this
  have:d=.int (lo+(i:Nat)):=by
   rw[Bf,uf7,ue2 hi] at hd;simpa using hd.symm
  rw[this];exact .int _
 .show n<=(Bf lo n).length;simp[Bf]
noncomputable def small(i:Int):Bool:=decide (-(2 ^ 62)<=i)&&decide (i<2 ^ 62)
def Nw:List D->M (List D)
 |[.int j]=>λt=>if small j=true then some (Bf 0 j.toNat,t) else none
 |_=>fail
def Nx:List D->M (List D)
 |[.int i,.int j]=>λt=>if (small i&&small j)=true then some (Bf i (j-i).toNat,t) else none
 |_=>fail
def BQ(f:M (List D)):M (List D):=bnd f Nw
def IV(f:M (List D)):M (List D):=bnd f Nx
theorem HM{i:Int}(h:small i=true) : -(2 ^ 62)<=i/\i<2 ^ 62:=by
 unfold small at h;rw[uh3] at h;exact⟨ug7 h.1,ug7 h.2⟩
set_option tactic.hygienic true
theorem Uv{f:M (List D)}(hg:Gl X "range")(hm:X.mg "range" = none)(ha:PA X [a] (RA X.K f))(hs:autoParam (starEach [a] X.env=[(false,eval a X.env)]) q3T):PI X tg (.Call (.Name "range" p) [a] [] pos) (RI X.K (BQ f)):=
 LL (Vq hg hm ha hs) λσ H R z9=>by
  clear 5 z9 Oo c t fi ds t' eq k;clear 5(Ag eq)xs t1 e1 eq;refine⟨Oo,c,t,fi,xs,t1,e1,λvs H1 c1 f1 s1 rv=>?_⟩;unfold Nw at eq
  split at eq
  .next j=>
   split at eq
   .next hs=>
    cases eq
    cases rv with
    |cons r rs=>
      cases rs
      cases r
      clear 5(HM hs)h1 h2;exact⟨j,rfl,h1,h2,k _ H1 c1 f1 s1 ItOk.rng⟩
   .cases eq
  .cases eq
theorem Uw{f:M (List D)}(hg:Gl X "range")(hm:X.mg "range" = none)(ha:PA X [a,b] (RA X.K f))(hs:autoParam (starEach [a,b] X.env=[(false,eval a X.env),(false,eval b X.env)]) q3T)(hs2:autoParam (starEach [b] X.env=[(false,eval b X.env)]) q3T):PI X tg (.Call (.Name "range" p) [a,b] [] pos) (RI X.K (IV f)):=
 LL (Vr hg hm ha hs hs2) λσ H R z9=>by
  clear 5 z9 Oo c t fi ds t' eq k;clear 5(Ag eq)xs t1 e1 eq;refine⟨Oo,c,t,fi,xs,t1,e1,λvs H1 c1 f1 s1 rv=>?_⟩;unfold Nx at eq
  split at eq
  .next i j=>
   split at eq
   .next hs=>
    cases eq
    rw[uh3] at hs
    cases rv with
    |cons r rs=>
      cases r
      cases rs with
      |cons r rs=>
        cases rs
        cases r
        clear 5(HM hs.1)h1 h2;clear 5(HM hs.2)h3 h4;exact⟨i,j,rfl,⟨h1,h2,h3,h4⟩,k _ H1 c1 f1 s1 ItOk.rng⟩
   .cases eq
  .cases eq
def Cp(st:D->M Unit)(tst:M Bool)(elt:M D):List D->M (List D)
 |[]=>ret []
 |d::r=>bnd (st d) λ_=>bnd tst λk=>if k=true then bnd elt λx=>bnd (Cp st tst elt r) λxs=>ret (x::xs) else Cp st tst elt r
noncomputable def ii:Option (Option Sl)->Option Sl
 |some (some (.val d))=>some (.val d)
 |_=>none
def cenv(n:Nat)(fr:List Nat)(env:List (Option Sl)):List (Option Sl):=List.replicate n none++fr.map λi=>ii env[i]?
noncomputable def G7(n:Nat)(fr:List Nat)(σ:L2.St):L2.St:=List.replicate n none++fr.map λi=>(σ[i]?).join
def A5(n:Nat)(fr:List Nat)(f:M (List D))(st:D->M Unit)(tst:M Bool)(elt:M D):M (List D):=bnd f λds t=>match Cp st tst elt ds ⟨cenv n fr t.env,t.S⟩ with
 |some (xs,t')=>if xs.length<=LIM then some (xs,{t with S:=t'.S}) else none
 |none=>none
set_option tactic.hygienic false
theorem Lk{env:List (Option Sl)}{x:Sl}(h:(cenv n fr env)[j]?=some (some x)):∃i d,n<=j/\fr[j-n]?=some i/\env[i]?=some (some (.val d))/\x=.val d:=by
 unfold cenv at h
 by_cases hj:j<n
 .rw[ua8 (by simpa using hj),List.getElem?_replicate] at h
  split at h<;>simp at h
 .rw[ua4 (by simpa using hj),uc5,uf7] at h
  cases e:fr[j-n]? with
  |none=>rw[e] at h;simp at h
  |some i=>
    rw[e] at h;simp only[Option.map_some,Option.some.injEq] at h
    cases e2:env[i]? with
    |none=>rw[e2] at h;cases h
    |some o=>
      cases o with
      |none=>rw[e2] at h;cases h
      |some sl=>
        cases sl with
        |own _=>rw[e2] at h;cases h
        |val d=>rw[e2] at h;cases h;exact⟨i,d,by lia,rfl,e2,rfl⟩
theorem SO{Oo:mm->Prop}(f:FInv K Oo c t σ H):FInv K c.O c ⟨cenv n fr t.env,t.S⟩ (G7 n fr σ) H:=by
 refine⟨f.s,by simp[cenv,G7],λ_ z=>z,λj d q=>?_,λj es q=>?_,λj _ es _ _ q _ _ _=>?_⟩
 .obtain⟨i,d',h0,h1,h2,h3⟩:=Lk q
  cases h3
  clear 5(f.val i d h2)v h4 h5;refine⟨v,?_,h5⟩;unfold G7;rw[ua4 (by simpa using h0),uc5,uf7,h1];simp[h4]
 .obtain⟨_,_,_,_,_,h⟩:=Lk q;cases h
 .obtain⟨_,_,_,_,_,h⟩:=Lk q;cases h
set_option tactic.hygienic true in
theorem RF.comp{f:M (List D)}{st:D->M Unit}{tst:M Bool}{elt:M D}{Q:VK}(q:RF K (A5 n fr f st tst elt) σ H Q):Tu (RI K f) (RG K st) (RT K tst) (RE K elt) (G7 n fr) σ H Q:=by
 clear 5 q Oo c t fi xs t' eq k;clear 5(Ag eq)ds t1 e1 eq;refine⟨Oo,c,t,fi,ds,t1,e1,λJ H1 c1 f1 s1 it=>?_⟩
 cases e3:Cp st tst elt ds ⟨cenv n fr t1.env,t1.S⟩ with
 |none=>rw[e3] at eq;cases eq
 |some p=>
   clear 5 p ys t3;rw[e3] at eq;dsimp only at eq
   split at eq
   case isFalse=>cases eq
   next hl=>
   cases eq
   refine⟨λi m acc σ' H'=>m=ds.length-i/\i<=ds.length/\∃c' t2 zs rest,FInv K c1.O c' t2 σ' H'/\Stp c1.O c1 H1 c' H'/\Reps K c' H' acc zs/\Cp st tst elt (ds.drop i) t2=some (rest,t3)/\xs=zs++rest,
    ⟨_,rfl,un7 _,c1,_,[],xs,SO f1,.refl,.nil,by rw[uk8];exact e3,rfl⟩,?_⟩
   rintro i m acc σ' H' ⟨rfl,hi,c',t2,zs,rest,f2,s2,ra,e2,ez⟩;have hacc:acc.length<=sizeLine:=by
    have:zs.length<=xs.length:=by rw[ez,ue9];exact Nat.le_add_right _ _
    rw[ra.length];exact um6 this (um6 hl El)
   refine⟨hacc,?_⟩
   by_cases hlt:i<ds.length
   .refine .inr ⟨it.go c' H' i s2.ext hlt,λx H'' hy=>?_⟩;clear 5(it.yld c' H' i x H'' _ s2.ext (ub1 hlt) hy)rfl rx;rw[List.drop_eq_getElem_cons hlt] at e2;unfold Cp at e2;clear 5(Ag e2)u t4 e4 e2;clear 5(Ag e2)kb t5 e5 e2;refine⟨c1.O,c',t2,_,f2,rx,t4,e4,λσ3 H3 c3 f3 s3=>⟨c1.O,c3,t4,f3,kb,t5,e5,λH4 c4 f4 s4=>?_⟩⟩
    cases kb with
    |false=>
      rw[pX ue7] at e2⊢;exact⟨ds.length-(i+1),by lia,rfl,hlt,c4,t5,zs,rest,f4,(s2.trans s3).trans s4,ra.mono (s3.trans s4).ext,e2,ez⟩
    |true=>
      rw[pW rfl] at e2⊢;clear 5(Ag e2)x6 t6 e6 e2;clear 5(Ag e2)r7 t7 e7 e2
      cases e2
      refine⟨c1.O,c4,t5,f4,x6,t6,e6,λv H5 c5 f5 s5 rv=>?_⟩;exact⟨ds.length-(i+1),by lia,rfl,hlt,c5,t6,zs++[x6],r7,f5,((s2.trans s3).trans s4).trans s5,(ra.mono ((s3.trans s4).trans s5).ext).append (.cons rv .nil),e7,by rw[ez,ug0];rfl⟩
   .have hi':i=ds.length:=by lia
    subst hi';rw[uh5] at e2
    cases e2
    refine .inl ⟨it.stop c' H' s2.ext,λp hp _=>?_⟩;clear 5 f2.leave si ext;clear 5(f1.after si ⟨s2.ext.trans ext,s2.oo⟩ (λ_=>pV))f6 s6;rw[ui9] at ez;subst ez;exact k p acc H' _ f6 (s1.trans s6) (ra.mono ext) hp
end
end
open PySem.SeqAt
noncomputable def eq0:D->D->Option Bool
 |.int a,.int b=>some (a==b)
 |.str a,.str b=>some (a==b)
 |.bl a,.bl b=>some (a==b)
 |.non,.non=>some true
 |.non,.tup _=>some false
 |_,_=>none
noncomputable def C5(f:D->D->Option Bool):List D->List D->Option Bool
 |x::xs,y::ys=>match f x y,C5 f xs ys with
   |some a,some b=>some (a&&b)
   |_,_=>none
 |_,_=>some true
def eqN:Nat->D->D->Option Bool
 |0,x,y=>eq0 x y
 |n+1,.tup xs,.tup ys=>(C5 (eqN n) xs ys).map λb=>b&&xs.length==ys.length
 |n+1,.lst xs,.lst ys=>if xs.length=ys.length then C5 (eqN n) xs ys else some false
 |_+1,x,y=>eq0 x y
noncomputable def ej(f:D->D->Option Bool)(xs ys:List D)(j:Nat):Bool:=match xs[j]?,ys[j]? with
 |some d,some e=>(f d e).getD true
 |_,_=>true
theorem Em{f:D->D->Option Bool}:∀{xs ys:List D}{b:Bool},C5 f xs ys=some b->b=(List.range (min xs.length ys.length)).all (ej f xs ys)/\∀(j:Nat) d e,xs[j]?=some d->ys[j]?=some e->∃k,f d e=some k
 |[],ys,b,h=>by
   have h:some true=some b:=by simpa[C5] using h
   cases h
   refine⟨by simp,λj d e q _=>by simp at q⟩
 |x::xs,[],b,h=>by
   have h:some true=some b:=by simpa[C5] using h
   cases h
   refine⟨by simp,λj d e _ q=>by simp at q⟩
 |x::xs,y::ys,b,h=>by
   unfold C5 at h
   cases e1:f x y with
   |none=>rw[e1] at h;cases h
   |some a=>
     cases e2:C5 f xs ys with
     |none=>rw[e1,e2] at h;cases h
     |some c=>
       rw[e1,e2] at h
       cases h
       clear 5(Em e2)h1 h2;refine⟨?_,λj d e q1 q2=>?_⟩
       .have hm:min (x::xs).length (y::ys).length=min xs.length ys.length+1:=by simp[Nat.succ_min_succ]
        rw[hm,ny,ul4,un0,h1];have:ej f (x::xs) (y::ys) 0=a:=by simp[ej,e1]
        rw[this];rfl
       .cases j with
        |zero=>simp at q1 q2;subst q1 q2;exact⟨a,e1⟩
        |succ j=>exact h2 j d e (by simpa using q1) (by simpa using q2)
section
variable{P:mq}{w:mw}{H:Hp}{vs:List V}
theorem Hg{h:Heap}{a:mm}(o:HOk P w H h)(e:H a=some (.lst vs)):∃its:List mj,Vals vs its/\h.IsList a its.toArray:=by
 obtain⟨_,its,n,r,q⟩:=o a _ e;exact⟨its,r,_,q,rfl,n,rfl⟩
theorem GO{h:Heap}{a:mm}(o:HOk P w H h)(e:H a=some (.tup vs)):∃its:List mj,Vals vs its/\h.IsTuple a its.toArray:=by
 obtain⟨_,its,r,q⟩:=o a _ e;exact⟨its,r,q⟩
theorem MI{its:List mj}{j:Nat}(r:Vals vs its)(h:j<its.toArray.size):∃v,vs[j]?=some v/\RelV v its.toArray[j]:=by
 have h':j<its.length:=by simpa using h
 have hl:j<vs.length:=by rw[r.length];exact h'
 clear 5(r.get (ub1 hl))u e1 e2;refine⟨vs[j],ub1 hl,?_⟩;rw[ub1 h'] at e1
 cases e1
 simpa using e2
variable{b:Bool}
theorem Uj{f:D->D->Option Bool}{xs ys:List D}(h:C5 f xs ys=some b)(ht:∀(j:Nat) d e k,xs[j]?=some d->ys[j]?=some e->f d e=some k->k=true):b=true:=by
 clear 5(Em h)h1 h2;rw[h1,uh7];intro j hj;have hj':=List.mem_range.mp hj;have l1:j<xs.length:=by lia
 have l2:j<ys.length:=by lia
 clear 5(h2 j _ _ (ub1 l1) (ub1 l2))k ek;have:=ht j _ _ k (ub1 l1) (ub1 l2) ek;unfold ej;rw[ub1 l1,ub1 l2];simp[ek,this]
theorem JQ{x y:D}(e:eq0 x y=some b):(∃i j,x=.int i/\y=.int j/\(i==j)=b)\/(∃i j,x=.str i/\y=.str j/\(i==j)=b)\/(∃i j,x=.bl i/\y=.bl j/\(i==j)=b)\/(x=.non/\y=.non/\true=b)\/(∃ys,x=.non/\y=.tup ys/\false=b):=by
 unfold eq0 at e
 split at e
 .cases e;exact .inl ⟨_,_,rfl,rfl,rfl⟩
 .cases e;exact .inr (.inl ⟨_,_,rfl,rfl,rfl⟩)
 .cases e;exact .inr (.inr (.inl ⟨_,_,rfl,rfl,rfl⟩))
 .cases e;exact .inr (.inr (.inr (.inl ⟨rfl,rfl,rfl⟩)))
 .cases e;exact .inr (.inr (.inr (.inr ⟨_,rfl,rfl,rfl⟩)))
 .cases e
theorem JR{n:Nat}{x y:D}(e:eqN n x y=some b):eq0 x y=some b\/(∃m xs ys,n=m+1/\x=.lst xs/\y=.lst ys/\(if xs.length=ys.length then C5 (eqN m) xs ys else some false)=some b)\/∃m xs ys b',n=m+1/\x=.tup xs/\y=.tup ys/\C5 (eqN m) xs ys=some b'/\(b'&&xs.length==ys.length)=b:=by
 unfold eqN at e
 split at e
 .exact .inl e
 .clear 5(ub9.mp e)b' e1 e2;exact .inr (.inr ⟨_,_,_,b',rfl,rfl,rfl,e1,e2⟩)
 .exact .inr (.inl ⟨_,_,_,rfl,rfl,rfl,e⟩)
 .exact .inl e
variable{K:mh}{c:Cf}
theorem Q6:∀(n:Nat){v:V}{d e:D}{b:Bool},Rep K c H v d->Rep K c H v e->eqN n d e=some b->b=true
 :=by
  intro n
  induction n using Nat.strongRecOn with
  |ind n ih=>
  intro v d e b rd re q;have items:∀{m:Nat}{vs:List V}{ds es:List D}{b':Bool},n=m+1->Reps K c H vs ds->Reps K c H vs es->C5 (eqN m) ds es=some b'->b'=true:=λ{m vs ds es b'} hm r1 r2 e'=>
   Uj e' λj d e k q1 q2 ek=>by
    clear 5(r1.at q1)v g1 g2;exact ih m ∅ g2 (r2.get g1 q2) ek
  rcases JR q with q0|⟨m,ds,es,hm,rfl,rfl,q0⟩|⟨m,ds,es,b',hm,rfl,rfl,q1,q2⟩
  .rcases JQ q0 with⟨i,j,rfl,rfl,rfl⟩|⟨i,j,rfl,rfl,rfl⟩|⟨i,j,rfl,rfl,rfl⟩|⟨rfl,rfl,rfl⟩|⟨ys,rfl,rfl,rfl⟩
   .have h:=rd.rv.symm.trans re.rv;cases h;simp
   .have h:=rd.rv.symm.trans re.rv;cases h;simp
   .have h:=rd.rv.symm.trans re.rv;cases h;simp
   .rfl
   .obtain⟨a,vs,e,_⟩:=re.rv;cases (show V.non=_ from rd.rv.symm.trans e)
  .obtain⟨a,vs,rfl,h1,_,h3⟩:=rd.rv
   .obtain⟨_,ws,k,g1,_,g3⟩:=re.rv
    .  cases k
       rw[h1] at g1;cases g1
       rw[pW (h3.length.symm.trans g3.length)] at q0;exact items hm h3 g3 q0
  .obtain⟨a,vs,rfl,h1,_,h3⟩:=rd.rv
   .obtain⟨_,ws,k,g1,_,g3⟩:=re.rv
    .  cases k
       rw[h1] at g1;cases g1
       rw[<-q2,items hm h3 g3 q1,h3.length.symm.trans g3.length];simp
theorem Nd{s:mn}(hok:HOk P w H s.heap):∀(n:Nat){A:Around}{x y:V}{u v:mj}{dx dy:D}{b:Bool},RelV x u->RelV y v->Rep K c H x dx->Rep K c H y dy->eqN n dx dy=some b->A.units+n<cLine->
 RcAt A s u v b/\(EqAt A s u v b)
 :=by
  intro n
  induction n using Nat.strongRecOn with
  |ind n ih=>
  intro A x y u v dx dy b ru rv rx ry e hu;have items:∀{m:Nat}{vs ws:List V}{is js:List mj}{ds es:List D}{b':Bool},n=m+1->Vals vs is->Vals ws js->Reps K c H vs ds->Reps K c H ws es->C5 (eqN m) ds es=some b'->
   ∀j (h1:j<is.toArray.size) (h2:j<js.toArray.size),EqAt A.in1 s is.toArray[j] js.toArray[j] (ej (eqN m) ds es j):=λ{m vs ws is js ds es b'} hm r1 r2 q1 q2 e' j h1 h2=>by
   clear 5(MI r1 h1)v1 a1 a2;clear 5(MI r2 h2)v2 b1 b2;clear 5(ua7.mp a1)l1 g1;clear 5(ua7.mp b1)l2 g2;have k1:ds[j]?=some (ds[j]'(by rw[<-q1.length];exact l1)):=ub1 _;have k2:es[j]?=some (es[j]'(by rw[<-q2.length];exact l2)):=ub1 _;clear 5((Em e').2 j _ _ k1 k2)kk ek;have:ej (eqN m) ds es j=kk:=by unfold ej;rw[k1,k2];simp[ek]
   rw[this];have hu':A.in1.units+m<cLine:=by
    have:A.in1.units=A.units+1:=by first|rfl|exact Around.units_in1 _|simp[Around.in1,Around.units]
    lia
   exact(ih m ∅ a2 b2 (q1.get a1 k1) (q2.get b1 k2) ek hu').2
  have hu0:A.units<cLine:=by lia
  have conc:∀{p q:mm}{k:Bool},p≠q->RcAt A s (.ref p) (.ref q) k->RcAt A s (.ref p) (.ref q) k/\EqAt A s (.ref p) (.ref q) k:=λhn h=>⟨h,EqAt.of_refs hn h⟩;rcases JR e with e0|⟨m,ds,es,hm,rfl,rfl,e0⟩|⟨m,ds,es,b',hm,rfl,rfl,e1,e2⟩
  .rcases JQ e0 with⟨i,j,rfl,rfl,rfl⟩|⟨i,j,rfl,rfl,rfl⟩|⟨i,j,rfl,rfl,rfl⟩|⟨rfl,rfl,rfl⟩|⟨ys,rfl,rfl,rfl⟩
   .cases (show x=_ from rx.rv);cases (show y=_ from ry.rv);clear 5 ru t' rfl;clear 5 rv t rfl;exact⟨RcAt.int_int _ _ _ _,EqAt.int_int _ _ _ _⟩
   .cases (show x=_ from rx.rv);cases (show y=_ from ry.rv);clear 5 ru t' rfl;clear 5 rv t rfl;exact⟨RcAt.str_str _ _ _ _,EqAt.str_str _ _ _ _⟩
   .cases (show x=_ from rx.rv);cases (show y=_ from ry.rv);cases ru;cases rv;exact⟨RcAt.bool_bool _ _,EqAt.bool_bool _ _⟩
   .cases (show x=_ from rx.rv);cases (show y=_ from ry.rv);cases ru;cases rv;exact⟨RcAt.none_none,EqAt.same _⟩
   .cases (show x=_ from rx.rv);obtain⟨_,_,rfl,h1,_⟩:=ry.rv;cases ru;cases rv;clear 5(GO hok h1)its r l;exact⟨RcAt.none_tuple l hu0,EqAt.none_tuple l hu0⟩
  .obtain⟨p,vs,rfl,g1,g2,g3⟩:=rx.rv
   .obtain⟨q,ws,rfl,h1,h2,h3⟩:=ry.rv
    .
     cases ru
     cases rv
     clear 5(Hg hok g1)is r1 l1;clear 5(Hg hok h1)js r2 l2;have hs1:is.toArray.size=ds.length:=by rw[<-g3.length,r1.length];simp
     have hs2:js.toArray.size=es.length:=by rw[<-h3.length,r2.length];simp
     by_cases hl:ds.length=es.length
     .rw[pW hl] at e0;have hsz:is.toArray.size=js.toArray.size:=by rw[hs1,hs2,hl]
      have rc:=RcAt.lists l1 l2 hsz hu0 (items hm r1 r2 g3 h3 e0);have eb:(List.range is.toArray.size).all (ej (eqN m) ds es)=b:=by rw[(Em e0).1,hs1,<-hl,Nat.min_self]
      rw[eb] at rc
      by_cases hpq:p=q
      .refine⟨rc,?_⟩;subst hpq;rw[Q6 n rx ry e];exact EqAt.same _
      .exact conc hpq rc
     .rw[pX hl] at e0
      cases e0
      have hsz:(is.toArray.size != js.toArray.size)=true:=by rw[hs1,hs2];simpa using hl
      refine conc (λz=>hl ?_) (RcAt.lists_lengths l1 l2 hsz hu0);subst z;rw[g1] at h1;cases h1
      rw[<-g3.length,<-h3.length]
  .obtain⟨p,vs,rfl,g1,g2,g3⟩:=rx.rv
   .obtain⟨q,ws,rfl,h1,h2,h3⟩:=ry.rv
    .
     cases ru
     cases rv
     clear 5(GO hok g1)is r1 l1;clear 5(GO hok h1)js r2 l2;have hs1:is.toArray.size=ds.length:=by rw[<-g3.length,r1.length];simp
     have hs2:js.toArray.size=es.length:=by rw[<-h3.length,r2.length];simp
     have rc:=RcAt.tuples l1 l2 hu0 (items hm r1 r2 g3 h3 e1);have eb:((List.range (min is.toArray.size js.toArray.size)).all (ej (eqN m) ds es)&&is.toArray.size==js.toArray.size)=b:=by rw[hs1,hs2,<-(Em e1).1];exact e2
     rw[eb] at rc
     by_cases hpq:p=q
     .refine⟨rc,?_⟩;subst hpq;rw[Q6 n rx ry e];exact EqAt.same _
     .exact conc hpq rc
theorem Z6{s:mn}(hok:HOk P w H s.heap)(n:Nat){A:Around}{x y:V}{u v:mj}{dx dy:D}{b:Bool}(ru:RelV x u)(rv:RelV y v)(rx:Rep K c H x dx)(ry:Rep K c H y dy)(e:eqN n dx dy=some b)(hu:A.units+n<cLine) :
 RcNeAt A s u v (!b):=by
 have items:∀{m:Nat}{vs ws:List V}{is js:List mj}{ds es:List D}{b':Bool},n=m+1->Vals vs is->Vals ws js->Reps K c H vs ds->Reps K c H ws es->C5 (eqN m) ds es=some b'->
  ∀j (h1:j<is.toArray.size) (h2:j<js.toArray.size),EqAt A.in1 s is.toArray[j] js.toArray[j] (ej (eqN m) ds es j):=λ{m vs ws is js ds es b'} hm r1 r2 q1 q2 e' j h1 h2=>by
  clear 5(MI r1 h1)v1 a1 a2;clear 5(MI r2 h2)v2 b1 b2;clear 5(ua7.mp a1)l1 g1;clear 5(ua7.mp b1)l2 g2;have k1:ds[j]?=some (ds[j]'(by rw[<-q1.length];exact l1)):=ub1 _;have k2:es[j]?=some (es[j]'(by rw[<-q2.length];exact l2)):=ub1 _;clear 5((Em e').2 j _ _ k1 k2)kk ek;have:ej (eqN m) ds es j=kk:=by unfold ej;rw[k1,k2];simp[ek]
  rw[this];have hu':A.in1.units+m<cLine:=by
   have:A.in1.units=A.units+1:=rfl;lia
  exact(Nd hok m a2 b2 (q1.get a1 k1) (q2.get b1 k2) ek hu').2
 have hu0:A.units<cLine:=by lia
 rcases JR e with e0|⟨m,ds,es,hm,rfl,rfl,e0⟩|⟨m,ds,es,b',hm,rfl,rfl,e1,e2⟩
 .rcases JQ e0 with⟨i,j,rfl,rfl,rfl⟩|⟨i,j,rfl,rfl,rfl⟩|⟨i,j,rfl,rfl,rfl⟩|⟨rfl,rfl,rfl⟩|⟨ys,rfl,rfl,rfl⟩
  .cases (show x=_ from rx.rv);cases (show y=_ from ry.rv);clear 5 ru t' rfl;clear 5 rv t rfl;exact RcNeAt.int_int _ _ _ _
  .cases (show x=_ from rx.rv);cases (show y=_ from ry.rv);clear 5 ru t' rfl;clear 5 rv t rfl;exact RcNeAt.str_str _ _ _ _
  .cases (show x=_ from rx.rv);cases (show y=_ from ry.rv);cases ru;cases rv;exact RcNeAt.bool_bool _ _
  .cases (show x=_ from rx.rv);cases (show y=_ from ry.rv);cases ru;cases rv;exact RcNeAt.none_none
  .cases (show x=_ from rx.rv);obtain⟨_,_,rfl,h1,_⟩:=ry.rv;cases ru;cases rv;clear 5(GO hok h1)its r l;exact RcNeAt.none_tuple l hu0
 .obtain⟨p,vs,rfl,g1,g2,g3⟩:=rx.rv
  .obtain⟨q,ws,rfl,h1,h2,h3⟩:=ry.rv
   .
    cases ru
    cases rv
    clear 5(Hg hok g1)is r1 l1;clear 5(Hg hok h1)js r2 l2;have hs1:is.toArray.size=ds.length:=by rw[<-g3.length,r1.length];simp
    have hs2:js.toArray.size=es.length:=by rw[<-h3.length,r2.length];simp
    by_cases hl:ds.length=es.length
    .rw[pW hl] at e0;have hsz:is.toArray.size=js.toArray.size:=by rw[hs1,hs2,hl]
     have rc:=RcNeAt.lists l1 l2 hsz hu0 (items hm r1 r2 g3 h3 e0);rw[show(List.range is.toArray.size).all (ej (eqN m) ds es)=b by rw[(Em e0).1,hs1,<-hl,Nat.min_self]] at rc;exact rc
    .rw[pX hl] at e0
     cases e0
     exact RcNeAt.lists_lengths l1 l2 (by rw[hs1,hs2];simpa using hl) hu0
 .obtain⟨p,vs,rfl,g1,g2,g3⟩:=rx.rv
  .obtain⟨q,ws,rfl,h1,h2,h3⟩:=ry.rv
   .
    cases ru
    cases rv
    clear 5(GO hok g1)is r1 l1;clear 5(GO hok h1)js r2 l2;have hs1:is.toArray.size=ds.length:=by rw[<-g3.length,r1.length];simp
    have hs2:js.toArray.size=es.length:=by rw[<-h3.length,r2.length];simp
    have rc:=RcNeAt.tuples l1 l2 hu0 (items hm r1 r2 g3 h3 e1);have eb:((List.range (min is.toArray.size js.toArray.size)).all (ej (eqN m) ds es)&&is.toArray.size==js.toArray.size)=b:=by rw[hs1,hs2,<-(Em e1).1];exact e2
    rw[eb] at rc;exact rc
def EQD:Nat:=40
def neD(x y:D):M D:=λt=>(eqN EQD x y).map λb=>(.bl (!b),t)
def Tk(K:mh)(g:Bool->Bool):R2:=λx y H Q=>∃c dx dy b,Rep K c H x dx/\Rep K c H y dy/\eqN EQD dx dy=some b/\Q (.bl (g b)) H
theorem P6{X:Cx}(hu:X.A.units+64<cLine):OpR X (compareOp .Eq) (Tk X.K id):=by
 intro mi s σ H x y v u Q I rx ry h;clear 5 h c dx dy b q1 q2 e q;have hu':X.A.units+EQD<cLine:=by unfold EQD;lia
 exact(Nd I.hok EQD rx ry q1 q2 e hu').1 X.prog X.w _ _ ⟨.bl b,H,I,rfl,q⟩
theorem P8{X:Cx}(hu:X.A.units+64<cLine):OpR X (compareOp .NotEq) (Tk X.K (!·)):=by
 intro mi s σ H x y v u Q I rx ry h;clear 5 h c dx dy b q1 q2 e q;have hu':X.A.units+EQD<cLine:=by unfold EQD;lia
 exact Z6 I.hok EQD rx ry q1 q2 e hu' X.prog X.w _ _ ⟨.bl (!b),H,I,rfl,q⟩
end
section
variable{g:Int->Int->D}{t:T}{z:D×T}{X:Cx}{c:Cf}{H:Hp}
section
variable{K:mh}
def i2(g:Int->Int->D):D->D->M D
 |.int i,.int j=>ret (g i j)
 |_,_=>fail
theorem df{x y:D}(h:i2 g x y t=some z):∃i j,x=.int i/\y=.int j/\z=(g i j,t):=by
 cases x with
 |int i=>cases y with
   |int j=>cases h;exact⟨i,j,rfl,rfl,rfl⟩
   |_=>cases h
 |_=>cases h
theorem fg{gV:Int->Int->V}(hr:∀i j c H,Rep K c H (gV i j) (g i j)):Br K (rI0 gV) (i2 g):=λ{Oo c t σ H x y dx dy r t' Q} f rx ry eq k=>by
 clear 5(df eq)i j rfl rfl z
 cases z
 cases rx
 cases ry
 exact⟨i,j,rfl,rfl,k _ H c f .refl (hr i j c H)⟩
def i2C(C:Int->Int->Bool)(g:Int->Int->D):D->D->M D
 |.int i,.int j=>λt=>if C i j=true then some (g i j,t) else none
 |_,_=>fail
theorem ZP{C:Int->Int->Bool}{x y:D}(h:i2C C g x y t=some z):∃i j,x=.int i/\y=.int j/\C i j=true/\z=(g i j,t):=by
 cases x with
 |int i=>cases y with
   |int j=>
     unfold i2C at h;dsimp only at h
     by_cases hc:C i j=true
     .rw[pW hc] at h;cases h;exact⟨i,j,rfl,rfl,hc,rfl⟩
     .rw[pX hc] at h;cases h
   |_=>cases h
 |_=>cases h
theorem NA{P:Int->Int->Prop}{C:Int->Int->Bool}{gV:Int->Int->V}(hP:∀i j,C i j=true->P i j)(hr:∀i j c H,Rep K c H (gV i j) (g i j)):Br K (rI P gV) (i2C C g):=λ{Oo c t σ H x y dx dy r t' Q} f rx ry eq k=>by
 clear 5(ZP eq)i j rfl rfl hc z
 cases z
 cases rx
 cases ry
 exact⟨i,j,rfl,rfl,hP i j hc,k _ H c f .refl (hr i j c H)⟩
def Di:=i2 λi j=>.int (i-j)
noncomputable def Ot(_ j:Int):Bool:=decide (0<j)&&decide (j<1073741824)
def B6:=i2C Ot λi j=>.int (i/j)
def B1:=i2C (λ_ j=>decide (0<j)) λi j=>.int (i%j)
noncomputable def YK(i j:Int):Bool:=decide (0<=j)&&decide (j<=1000000)&&decide (i.natAbs<2 ^ 64)
def jG:=i2C YK λi j=>.int (i ^ j.toNat)
noncomputable def GK(i j:Int):Bool:=(decide (-(2 ^ 64)<i)&&decide (i<2 ^ 64))||(decide (-(2 ^ 64)<j)&&decide (j<2 ^ 64))
def Qs:=i2C (λ_ j=>decide (0<=j)) λi j=>.int (i/2 ^ j.toNat)
theorem bp:Br K (rI0 λi j=>.int (i-j)) Di:=fg λi j _ _=>.int _
theorem XV:Br K (rI bV λi j=>.int (i/j)) B6:=NA (λi j h=>by
 unfold Ot at h;rw[uh3] at h;exact⟨ug7 h.1,ug7 h.2⟩) λi j _ _=>.int _
theorem bh:Br K (rI (λ_ j=>0<j) λi j=>.int (i%j)) B1:=NA (λi j h=>ug7 h) λi j _ _=>.int _
theorem bo:Br K (rI (λ_ j=>0<=j) λi j=>.int (i/2 ^ j.toNat)) Qs:=NA (λi j h=>ug7 h) λi j _ _=>.int _
theorem U6{i j:Int}(h:GK i j=true):CMul i j:=by
 unfold GK at h;rw[uj7,uh3,uh3] at h;rcases h with h|h
 .exact .inl ⟨ug7 h.1,ug7 h.2⟩
 .exact .inr ⟨ug7 h.1,ug7 h.2⟩
def Ij:D->M D
 |.int i=>ret (.int (-i))
 |_=>fail
theorem bj:bY K (rU λi=>.int (-i)) Ij:=λ{Oo c t σ H x dx r t' Q} f rx eq k=>by
 cases rx with
 |int i=>cases eq;exact⟨i,rfl,k _ H c f .refl (.int _)⟩
 |_=>cases eq
def b8:D->D->M D
 |.int i,.int j=>ret (.int (i+j))
 |.str x,.str y=>lim (x.length+y.length) (.str (x++y))
 |.lst xs,.lst ys=>lim (xs.length+ys.length) (.lst (xs++ys))
 |_,_=>fail
def aJ:R2:=λx y H Q=>∃i j,x=.str i/\y=.str j/\i.length+j.length<=sizeLine/\Q (.str (i++j)) H
def Tj(K:mh):R2:=λx y H Q=>rI0 (λi j=>.int (i+j)) x y H Q\/(aJ x y H Q\/XI x y H Q)
theorem ae:OpR X (binaryOp .Add) (Tj X.K):=op_add.or (op_add_str.or Vf)
theorem aW:Br K (Tj K) b8:=λ{Oo c t σ H x y dx dy r t' Q} f rx ry eq k=>by
 cases rx with
 |int i=>
   cases ry with
   |int j=>cases eq;exact .inl ⟨i,j,rfl,rfl,k _ H c f .refl (.int _)⟩
   |_=>cases eq
 |str i=>
   cases ry with
   |str j=>
     clear 5(E4 eq)h z
     cases z
     exact .inr (.inl ⟨i,j,rfl,rfl,um6 h El,k _ H c f .refl (.str _)⟩)
   |_=>cases eq
 |@lst a vs ds h1 h2 h3=>
   cases ry with
   |@lst b ws es g1 g2 g3=>
     clear 5(E4 eq)h z
     cases z
     refine .inr (.inr ⟨a,b,vs,ws,rfl,rfl,h1,g1,?_,λp hp=>?_⟩)
     .rw[h3.length,g3.length];exact um6 h El
     .exact k _ _ c (f.laid hp) (f.stp_laid hp) (.lst Be (f.s.free hp) ((h3.append g3).mono (Ext.laid f.s hp)))
   |_=>cases eq
 |_=>cases eq
def Lj:D->D->M (List D)
 |.lst xs,.lst ys=>lim (xs.length+ys.length) (xs++ys)
 |_,_=>fail
theorem XU:Sq K XI Lj:=λ{Oo c t σ H x y dx dy r t' Q} f rx ry eq k=>by
 cases rx with
 |@lst a vs ds h1 h2 h3=>
   cases ry with
   |@lst b ws es g1 g2 g3=>
     clear 5(E4 eq)h z
     cases z
     refine⟨a,b,vs,ws,rfl,rfl,h1,g1,?_,λp hp=>k p _ H c f .refl (h3.append g3) hp⟩;rw[h3.length,g3.length];exact um6 h El
   |_=>cases eq
 |_=>cases eq
def isC:D->D->M D
 |x,.non=>λt=>some (.bl (match x with | .non=>true|_=>false),t)
 |x,.bl b=>λt=>some (.bl (match x with | .bl c=>c==b|_=>false),t)
 |_,_=>fail
def UN(x y:D):M D:=bnd (isC x y) λd=>match d with | .bl b=>ret (.bl (!b))|_=>fail
def rIs(g:Bool->Bool):R2:=λx y H Q=>(y=.non\/∃b,y=.bl b)/\Q (.bl (g (decide (x=y)))) H
theorem Zk{x y:V}{v u:mj}(rx:RelV x v)(ry:RelV y u)(hy:y=.non\/∃b,y=.bl b):plainIs v u=true/\(v==u)=decide (x=y):=by
 rcases hy with rfl|⟨b,rfl⟩
 .cases ry
  cases x with
  |non=>cases rx;exact⟨rfl,by simp⟩
  |bl _=>cases rx;exact⟨rfl,by simp⟩
  |int _=>clear 5 rx t rfl;exact⟨rfl,by simp⟩
  |str _=>clear 5 rx t rfl;exact⟨rfl,by simp⟩
  |byt _=>clear 5 rx t rfl;exact⟨rfl,by simp⟩
  |flt _=>clear 5 rx t rfl;exact⟨rfl,by simp⟩
  |ref _=>cases rx;exact⟨rfl,by simp⟩
  |ty _=>cases rx;exact⟨rfl,by simp⟩
 .cases ry
  cases x with
  |non=>cases rx;exact⟨rfl,by simp⟩
  |bl c=>cases rx;exact⟨rfl,by simp;cases c<;>cases b<;>rfl⟩
  |int _=>clear 5 rx t rfl;exact⟨rfl,by simp⟩
  |str _=>clear 5 rx t rfl;exact⟨rfl,by simp⟩
  |byt _=>clear 5 rx t rfl;exact⟨rfl,by simp⟩
  |flt _=>clear 5 rx t rfl;exact⟨rfl,by simp⟩
  |ref _=>cases rx;exact⟨rfl,by simp⟩
  |ty _=>cases rx;exact⟨rfl,by simp⟩
theorem Vi:OpR X (compareOp .Is) (rIs id):=by
 intro mi s σ H x y v u Q I rx ry h;clear 5 h hy q;clear 5(Zk rx ry hy)h1 h2;exact wpAny_is_plain h1 ⟨.bl _,H,I,by rw[h2];rfl,q⟩
set_option tactic.hygienic true in
theorem ZS{x y:V}{dx dy:D}(rx:Rep K c H x dx)(ry:Rep K c H y dy)(eq:isC dx dy t=some z):(y=.non\/∃b,y=.bl b)/\z=(.bl (decide (x=y)),t):=by
 cases ry with
 |non=>
   refine⟨.inl rfl,?_⟩
   cases rx<;>(cases eq;first|rfl|simp)
 |bl b=>
   refine⟨.inr ⟨b,rfl⟩,?_⟩
   cases rx<;>(cases eq;first|rfl|simp)
   next a=>cases a<;>cases b<;>rfl
 |_=>cases eq
theorem VJ:Br K (rIs id) isC:=λ{Oo c t σ H x y dx dy r t' Q} f rx ry eq k=>by
 clear 5(ZS rx ry eq)h z
 cases z
 exact⟨h,k _ H c f .refl (.bl _)⟩
noncomputable def Mi:D->Bool
 |.non=>true | .bl _=>true | .int _=>true | .str _=>true|_=>false
noncomputable def MB:D->Option (List D)
 |.lst ds=>some ds
 |.tup ds=>some ds
 |.gts xs=>some (xs.map .str)
 |_=>none
noncomputable def toV:D->V
 |.bl b=>.bl b | .int i=>.int i | .str x=>.str x|_=>.non
theorem F3{v:V}{d:D}(r:Rep K c H v d)(h:Mi d=true):v=toV d:=by cases r<;>first|rfl|cases h
theorem Fc{c:Cf}{H:Hp}:∀{vs:List V}{ds:List D},Reps K c H vs ds->ds.all Mi=true->vs=ds.map toV
 |_,_,.nil,_=>rfl
 |_,_,.cons r t,h=>by
   rw[ul4,uh3] at h;rw[ul2,F3 r h.1,Fc t h.2]
theorem FQ:∀d:D,GI (toV d)=true:=λd=>by cases d<;>rfl
def inD(neg:Bool)(x y:D):M D:=λt=>match MB y with
 |some ds=>if Mi x=true/\ds.all Mi=true then some (.bl (if neg then !inV (toV x) (ds.map toV) else inV (toV x) (ds.map toV)),t) else none
 |none=>none
set_option tactic.hygienic true in
theorem fh{neg:Bool}:Br K (rIn K neg) (inD neg):=λ{Oo c t σ H x y dx dy r t' Q} f rx ry eq k=>by
 unfold inD at eq
 cases ry with
 |@lst a vs ds h1 h2 h3=>
   dsimp only[MB] at eq
   split at eq
   .next h=>
    cases eq
    refine⟨a,vs,rfl,.inl (SqL.of h1),?_,?_,?_⟩
    .rw[F3 rx h.1];exact FQ _
    .rw[Fc h3 h.2,un0,uh7];exact λd _=>FQ d
    .rw[F3 rx h.1,Fc h3 h.2];exact k _ H c f .refl (.bl _)
   .cases eq
 |@tup a vs ds h1 h2 h3=>
   dsimp only[MB] at eq
   split at eq
   .next h=>
    cases eq
    refine⟨a,vs,rfl,.inr (SqT.of h1),?_,?_,?_⟩
    .rw[F3 rx h.1];exact FQ _
    .rw[Fc h3 h.2,un0,uh7];exact λd _=>FQ d
    .rw[F3 rx h.1,Fc h3 h.2];exact k _ H c f .refl (.bl _)
   .cases eq
 |@gts a xs hk=>
   dsimp only[MB] at eq
   split at eq
   .next h=>
    cases eq
    have h3:Reps K c H (xs.map V.str) (xs.map D.str):=Reps.strs xs;refine⟨a,_,rfl,.inr (.inr hk),?_,?_,?_⟩
    .rw[F3 rx h.1];exact FQ _
    .rw[Fc h3 h.2,un0,uh7];exact λd _=>FQ d
    .rw[F3 rx h.1,Fc h3 h.2];exact k _ H c f .refl (.bl _)
   .cases eq
 |_=>cases eq
def ixD:D->D->M D
 |.lst ds,.int i=>λt=>(atI ds i).map λd=>(d,t)
 |.tup ds,.int i=>λt=>(atI ds i).map λd=>(d,t)
 |.scr ns,.int i=>λt=>(atI ns i).map λn=>(.int n,t)
 |.str x,.int i=>λt=>if x.length<=LIM then(atI x.cps.toList i).map λn=>(.str ⟨#[n]⟩,t) else none
 |.obj k,.int i=>λt=>match t.S[k]? with
   |some (.lst ds)=>(atI ds i).map λd=>(d,t)
   |_=>none
 |_,_=>fail
theorem IM{vs:List V}{ds:List D}{i:Int}{d:D}(r:Reps K c H vs ds)(h:atI ds i=some d):∃v,atI vs i=some v/\Rep K c H v d:=by
 unfold atI at h⊢;clear 5(Option.bind_eq_some_iff.mp h)j h1 h2;clear 5(r.at h2)v h3 h4;exact⟨v,by rw[r.length,h1];exact h3,h4⟩
theorem Zh{α β:Type}(g:α->β)(xs:List α)(i:Int):atI (xs.map g) i=(atI xs i).map g:=by
 unfold atI;rw[ui7]
 cases ixN xs.length i with
 |none=>rfl
 |some j=>simp
theorem dj{dx dy r:D}{t':T}(eq:ixD dx dy t=some (r,t')):∃i,dy=.int i/\((∃ds,dx=.lst ds)\/(∃ds,dx=.tup ds)\/(∃ns,dx=.scr ns)\/(∃z,dx=.str z)\/∃k,dx=.obj k):=by
 unfold ixD at eq
 split at eq
 .exact⟨_,rfl,.inl ⟨_,rfl⟩⟩
 .exact⟨_,rfl,.inr (.inl ⟨_,rfl⟩)⟩
 .exact⟨_,rfl,.inr (.inr (.inl ⟨_,rfl⟩))⟩
 .exact⟨_,rfl,.inr (.inr (.inr (.inl ⟨_,rfl⟩)))⟩
 .exact⟨_,rfl,.inr (.inr (.inr (.inr ⟨_,rfl⟩)))⟩
 .cases eq
set_option tactic.hygienic true in
theorem VL:Br K (rIx K) ixD:=λ{Oo c t σ H x y dx dy r t' Q} f rx ry eq k=>by
 clear 5(dj eq)i rfl hd
 cases ry
 rcases hd with⟨ds,rfl⟩|⟨ds,rfl⟩|⟨ns,rfl⟩|⟨z,rfl⟩|⟨kk,rfl⟩
 .obtain⟨a,vs,rfl,h1,h2,h3⟩:=rx.rv
  clear 5(ub9.mp eq)d e1 e2
  cases e2
  clear 5(IM h3 e1)v e3 e4;exact .inl ⟨a,vs,i,v,rfl,rfl,SqL.of h1,e3,k _ H c f .refl e4⟩
 .obtain⟨a,vs,rfl,h1,h2,h3⟩:=rx.rv
  clear 5(ub9.mp eq)d e1 e2
  cases e2
  clear 5(IM h3 e1)v e3 e4;exact .inr (.inl ⟨a,vs,i,v,rfl,rfl,SqT.of h1,e3,k _ H c f .refl e4⟩)
 .obtain⟨a,rfl,h1⟩:=rx.rv
  clear 5(ub9.mp eq)n e1 e2
  cases e2
  exact .inl ⟨a,_,i,.int n,rfl,rfl,h1.sq,by rw[Zh,e1];rfl,k _ H c f .refl (.int n)⟩
 .cases rx
  unfold ixD at eq;dsimp only at eq
  split at eq
  .next hl=>
   clear 5(ub9.mp eq)n e1 e2
   cases e2
   exact .inr (.inr ⟨z,i,n,rfl,rfl,um6 hl El,e1,k _ H c f .refl (.str _)⟩)
  .cases eq
 .obtain⟨a,rfl,h1⟩:=rx.rv
  unfold ixD at eq;dsimp only at eq
  cases es:t.S[kk]? with
  |none=>rw[es] at eq;cases eq
  |some o=>
    rw[es] at eq
    cases o with
    |dct _|ins _ _=>cases eq
    |lst ds=>
      clear 5(ub9.mp eq)d e1 e2
      cases e2
      clear 5(f.s.obs kk a _ h1 es)vs g1 g2;clear 5(IM g2 e1)v e3 e4;exact .inl ⟨a,vs,i,v,rfl,rfl,SqL.of g1,e3,k _ H c f .refl e4⟩
end
variable{f:M D}{id:String}{R:List V->Hp->VK->Prop}{p:Pos}
section
variable{X:Cx}{e a b:Expr}{es:List Expr}{pos:Pos}
inductive RO(K:mh)(f:M (Option Int))(σ:L2.St)(H:Hp)(Q:Option Int->Hp->Prop):Prop where
 |mk (Oo:mm->Prop) (c:Cf) (t:T) (fi:FInv K Oo c t σ H) (r:Option Int) (t':T) (e:f t=some (r,t')) (k:∀H' c',FInv K Oo c' t' σ H'->Stp Oo c H c' H'->Q r H'):RO K f σ H Q
theorem TZ{oe:Option Expr}{t t':TO}(h:PO X oe t)(i:∀σ H Q,t' σ H Q->t σ H Q):PO X oe t':=λmi s σ H Q I q=>h mi s σ H Q I (i σ H Q q)
def fNo:M (Option Int):=ret none
def asI:D->M (Option Int)
 |.int i=>ret (some i)
 |_=>fail
def GH(f:M D):M (Option Int):=bnd f asI
theorem ZG:PO X none (RO X.K fNo):=TZ aA λσ H Q z9=>by
 clear 5 z9 Oo c t fi r t' eq k
 cases eq
 exact k H c fi .refl
theorem ZH(h:PE X e (RE X.K f)):PO X (some e) (RO X.K (GH f)):=TZ (aB h) λσ H Q z9=>by
 clear 5 z9 Oo c t fi r t' eq k;clear 5(Ag eq)d t1 e1 eq;refine⟨Oo,c,t,fi,d,t1,e1,λv H1 c1 f1 s1 rv=>?_⟩
 cases rv with
 |int i=>cases eq;exact⟨i,rfl,k H1 c1 f1 s1⟩
 |_=>cases eq
def Ss(K:mh)(R:V->Option Int->Option Int->Hp->VK->Prop)(h:D->Option Int->Option Int->M D):Prop:=∀{Oo:mm->Prop}{c:Cf}{t:T}{σ:L2.St}{H:Hp}{x:V}{dx r:D}{lo hi:Option Int}{t':T}{Q:VK},FInv K Oo c t σ H->Rep K c H x dx->h dx lo hi t=some (r,t')->
 (∀v H' c',FInv K Oo c' t' σ H'->Stp Oo c H c' H'->Rep K c' H' v r->Q v H')->R x lo hi H Q
def fSl(f:M D)(l u:M (Option Int))(h:D->Option Int->Option Int->M D):M D:=bnd f λx=>bnd l λlo=>bnd u λhi=>h x lo hi
theorem Pb{R:V->Option Int->Option Int->Hp->VK->Prop}{h:D->Option Int->Option Int->M D}{l u:M (Option Int)}{lo hi:Option Expr}{p2:Pos}(hr:SlR X R)(s:Ss X.K R h)(he:PE X e (RE X.K f))(hl:PO X lo (RO X.K l))(hu:PO X hi (RO X.K u)):PE X (.Subscript e (.Slice lo hi none p2) pos) (RE X.K (fSl f l u h)):=
 AO (Qa hr he hl hu) λσ H Q z9=>by
  clear 5 z9 Oo c t fi r t' eq k;clear 5(Ag eq)d t1 e1 eq;clear 5(Ag eq)ol t2 e2 eq;clear 5(Ag eq)oh t3 e3 eq;exact⟨Oo,c,t,fi,d,t1,e1,λv H1 c1 f1 s1 rv=>⟨Oo,c1,t1,f1,ol,t2,e2,λH2 c2 f2 s2=>⟨Oo,c2,t2,f2,oh,t3,e3,λH3 c3 f3 s3=>
   s f3 (rv.mono (s2.trans s3).ext) eq λv H' c' f' s' rv'=>k v H' c' f' (((s1.trans s2).trans s3).trans s') rv'⟩⟩⟩
def BS{α:Type}(xs:List α)(lo hi:Option Int):List α:=(xs.drop (HT.sIx xs.length 0 lo)).take (HT.sIx xs.length xs.length hi-HT.sIx xs.length 0 lo)
def slD:D->Option Int->Option Int->M D
 |.lst ds,lo,hi=>ret (.lst (BS ds lo hi))
 |.scr ns,lo,hi=>ret (.lst ((BS ns lo hi).map .int))
 |.tup ds,lo,hi=>λt=>if HT.sIx ds.length 0 lo=0/\HT.sIx ds.length ds.length hi=ds.length then none else some (.tup (BS ds lo hi),t)
 |_,_,_=>fail
theorem F4{K:mh}{vs:List V}{ds:List D}(r:Reps K c H vs ds)(lo hi:Option Int):Reps K c H (IS vs lo hi) (BS ds lo hi):=by
 unfold IS BS;rw[r.length];exact(r.drop _).take _
theorem WC{α β:Type}(g:α->β)(xs:List α)(lo hi:Option Int):BS (xs.map g) lo hi=(BS xs lo hi).map g:=by
 unfold BS;rw[ui7,ul6,List.map_drop]
theorem NV(ns:List Int)(lo hi:Option Int):IS (ns.map V.int) lo hi=(BS ns lo hi).map V.int:=WC V.int ns lo hi
def XJ(K:mh):V->Option Int->Option Int->Hp->VK->Prop:=λx lo hi H Q=>eW K x lo hi H Q\/eZ K x lo hi H Q
theorem sl2:SlR X (XJ X.K):=sl_list.or ft
set_option tactic.hygienic true in
theorem fj{K:mh}:Ss K (XJ K) slD:=λ{Oo c t σ H x dx r lo hi t' Q} f rx eq k=>by
 cases rx with
 |@lst p vs ds h1 h2 h3=>
   cases eq
   exact .inl ⟨p,vs,rfl,SqL.of h1,λq hq=>k _ _ c (f.laid hq) (f.stp_laid hq) (.lst Be (f.s.free hq) ((F4 h3 lo hi).mono (Ext.laid f.s hq)))⟩
 |@scr p ns h1=>
   cases eq
   refine .inl ⟨p,_,rfl,h1.sq,λq hq=>k _ _ c (f.laid hq) (f.stp_laid hq) (.lst Be (f.s.free hq) ?_)⟩;rw[NV];exact Reps.ints _
 |@tup p vs ds h1 h2 h3=>
   unfold slD at eq;dsimp only at eq
   split at eq
   .cases eq
   .next hn=>
    cases eq
    exact .inr ⟨p,vs,rfl,SqT.of h1,by rw[h3.length];exact hn,λq hq=>k _ _ c (f.laid hq) (f.stp_laid hq) (.tup Be (f.s.free hq) ((F4 h3 lo hi).mono (Ext.laid f.s hq)))⟩
 |_=>cases eq
theorem ji{h:List D->M D}{f:M (List D)}{x:Str}(hc:CQ X (.builtin id) R)(s:Gj X.K R h)(hg:Gl X x)(hm:X.mg x=none)(hv:bootBuiltins x=some (.builtin id))(ha:PA X (e::es) (RA X.K f))(hn:autoParam (x≠"__name__") q1T)(hdb:autoParam ((x==("__debug__":Str))=false) q1T)
 (he:autoParam (starEach (e::es) X.env=(false,eval e X.env)::starEach es X.env) q3T) (hpl:autoParam ((backTo pos (starEach es X.env)).any (·.1)=false) q3T):PE X (.Call (.Name x p) (e::es) [] pos) (RE X.K (fB f h)):=
 AO (P9 hc hg hm hv ha hn hdb he hpl) λ_ _ _ q=>RE.callB s q
theorem jj{h:List D->M D}{f:M (List D)}{x:Str}(hc:CQ X (.type id) R)(s:Gj X.K R h)(hg:Gl X x)(hm:X.mg x=none)(hv:bootBuiltins x=some (.type id))(ha:PA X (e::es) (RA X.K f))(hn:autoParam (x≠"__name__") q1T)(hdb:autoParam ((x==("__debug__":Str))=false) q1T)
 (he:autoParam (starEach (e::es) X.env=(false,eval e X.env)::starEach es X.env) q3T) (hpl:autoParam ((backTo pos (starEach es X.env)).any (·.1)=false) q3T):PE X (.Call (.Name x p) (e::es) [] pos) (RE X.K (fB f h)):=
 AO (Ka hc hg hm hv ha hn hdb he hpl) λ_ _ _ q=>RE.callB s q
theorem jk{h:List D->M (List D)}{f:M (List D)}{x:Str}(hc:CQ X (.type id) R)(s:Kr X.K R h)(hg:Gl X x)(hm:X.mg x=none)(hv:bootBuiltins x=some (.type id))(ha:PA X (e::es) (RA X.K f))(hn:autoParam (x≠"__name__") q1T)(hdb:autoParam ((x==("__debug__":Str))=false) q1T)
 (he:autoParam (starEach (e::es) X.env=(false,eval e X.env)::starEach es X.env) q3T) (hpl:autoParam ((backTo pos (starEach es X.env)).any (·.1)=false) q3T):PE X (.Call (.Name x p) (e::es) [] pos) (RF X.K (fBF f h)):=
 AO (Ka hc hg hm hv ha hn hdb he hpl) λ_ _ _ q=>RF.callB s q
theorem gz{op:Operator}{R:R2}{g:M D}{h:D->D->M (List D)}(ho:OpR X (binaryOp op) R)(s:Sq X.K R h)(ha:PE X a (RE X.K f))(hb:PE X b (RE X.K g)):PE X (.BinOp a op b pos) (RF X.K (bnd f λx=>bnd g λy=>h x y)):=
 AO (Tg ho ha hb) λ_ _ _ q=>RF.two s q
end
section
variable{K:mh}
theorem FH{xs:List V}{d:D}(r:Reps K c H xs [d]):∃v,xs=[v]/\Rep K c H v d:=by
 cases r with
 |cons r rs=>cases rs;exact⟨_,rfl,r⟩
theorem YR{xs:List V}{d e:D}(r:Reps K c H xs [d,e]):∃v u,xs=[v,u]/\Rep K c H v d/\Rep K c H u e:=by
 cases r with
 |cons r rs=>
   clear 5(FH rs)u rfl q;exact⟨_,u,rfl,r,q⟩
def A0:List D->M D
 |[.lst ds]=>ret (.int ds.length)
 |[.tup ds]=>ret (.int ds.length)
 |[.scr ns]=>ret (.int ns.length)
 |[.str x]=>lim x.length (.int x.length)
 |[.obj k]=>λt=>match t.S[k]? with
   |some (.lst ds)=>some (.int ds.length,t)
   |_=>none
 |_=>fail
theorem bb:Gj K (λxs H Q=>∃x n,xs=[x]/\bW K x H n/\Q (.int n) H) A0:=λ{Oo c t σ H xs ds r t' Q} f rx eq k=>by
 match ds,rx,eq with
 |[],_,eq=>cases eq
 |d0::_::_,_,eq=>cases d0<;>cases eq
 |[d],rx,eq=>
   clear 5(FH rx)v rfl rv
   cases rv with
   |@lst a vs ds h1 h2 h3=>cases eq;exact⟨_,ds.length,rfl,.inl ⟨vs,SqL.of h1,h3.length.symm⟩,k _ H c f .refl (.int _)⟩
   |@tup a vs ds h1 h2 h3=>cases eq;exact⟨_,ds.length,rfl,.inr ⟨vs,SqT.of h1,h3.length.symm⟩,k _ H c f .refl (.int _)⟩
   |@scr a ns h1=>cases eq;exact⟨_,ns.length,rfl,.inl ⟨_,h1.sq,by simp⟩,k _ H c f .refl (.int _)⟩
   |str x=>
     clear 5(E4 eq)hl z
     cases z
     exact⟨_,x.length,rfl,⟨um6 hl El,rfl⟩,k _ H c f .refl (.int _)⟩
   |@obj a kk h1=>
     unfold A0 at eq;dsimp only at eq
     cases es:t.S[kk]? with
     |none=>rw[es] at eq;cases eq
     |some o=>
       rw[es] at eq
       cases o with
       |dct _|ins _ _=>cases eq
       |lst ds=>
         cases eq
         clear 5(f.s.obs kk a _ h1 es)vs g1 g2;exact⟨_,ds.length,rfl,.inl ⟨vs,SqL.of g1,g2.length.symm⟩,k _ H c f .refl (.int _)⟩
   |_=>cases eq
noncomputable def tyD:D->Option String
 |.non=>some "NoneType"
 |.bl _=>some "bool"
 |.int _=>some "int"
 |.str _=>some "str"
 |.lst _=>some "list"
 |.tup _=>some "tuple"
 |.dic=>some "dict"
 |_=>none
noncomputable def Hj(n m:String):Option Bool:=match m with
 | "int"=>some (n == "int" || n == "bool")
 | "bool"=>some (n == "bool")
 | "str"=>some (n == "str")
 | "list"=>some (n == "list")
 | "tuple"=>some (n == "tuple")
 | "dict"=>some (n == "dict")
 |_=>none
def Dw:List D->M D
 |[d,.ty m]=>λt=>match tyD d with
   |some n=>(Hj n m).map λb=>(.bl b,t)
   |none=>none
 |_=>fail
theorem ZZ{d:D}{n m:String}{b:Bool}(h1:tyD d=some n)(h2:Hj n m=some b):PySem.W.kitOne K (.type n) (.type m)=some b:=by
 have hm:m = "int"\/m = "bool"\/m = "str"\/m = "list"\/m = "tuple"\/m = "dict":=by
  unfold Hj at h2
  split at h2<;>simp_all
 have hn:n = "NoneType"\/n = "bool"\/n = "int"\/n = "str"\/n = "list"\/n = "tuple"\/n = "dict":=by
  cases d<;>simp[tyD] at h1<;>simp[<-h1]
 rcases hm with rfl|rfl|rfl|rfl|rfl|rfl<;>rcases hn with rfl|rfl|rfl|rfl|rfl|rfl|rfl<;>(cases h2;rfl)
def eS(K:mh):List V->Hp->VK->Prop:=λxs H Q=>∃x n t b,xs=[x,.ty n]/\TyOf K H x t/\PySem.W.kitOne K t (.type n)=some b/\Q (.bl b) H
theorem Wx:CQ X (.builtin "isinstance") (eS X.K):=by
 intro mi s σ H xs us Q I r h;clear 5 h x n t b rfl ty e q;clear 5(YY r)u w' rfl rx rt
 cases rt
 exact UP I rx ty e λtk=>⟨.bl b,H,I.tok tk,rfl,q⟩
set_option tactic.hygienic true in
theorem ba:Gj K (eS K) Dw:=λ{Oo c t σ H xs ds r t' Q} f rx eq k=>by
 unfold Dw at eq
 split at eq
 .next d m=>
  clear 5(YR rx)v u rfl rv ru
  cases ru
  cases et:tyD d with
  |none=>rw[et] at eq;cases eq
  |some n=>
    rw[et] at eq;clear 5(ub9.mp eq)b e1 e2
    cases e2
    refine⟨v,m,.type n,b,rfl,?_,ZZ et e1,k _ H c f .refl (.bl b)⟩
    cases rv<;>first|(cases et;first|exact .non|exact .bl _|exact .int _|exact .str _|exact .lst ‹_› | exact .tup ‹_› | exact .dK ‹_›)|cases et
 .cases eq
def jZ:List D->M D
 |[.lst ds]=>ret (.tup ds)
 |[.tup ds]=>ret (.tup ds)
 |[.obj k]=>λt=>match t.S[k]? with
   |some (.lst ds)=>some (.tup ds,t)
   |_=>none
 |_=>fail
def CK:List D->M (List D)
 |[.lst ds]=>ret ds
 |[.tup ds]=>ret ds
 |[.scr ns]=>ret (ns.map .int)
 |[.obj k]=>λt=>match t.S[k]? with
   |some (.lst ds)=>some (ds,t)
   |_=>none
 |_=>fail
theorem bf:Kr K (λxs H Q=>∃p ys,xs=[.ref p]/\(SqL K H p ys\/SqT K H p ys)/\∀l,H l=none->Q (.ref l) (upd H l (.lst ys))) CK:=λ{Oo c t σ H xs ds r t' Q} f rx eq k=>by
 match ds,rx,eq with
 |[],_,eq=>cases eq
 |d0::_::_,_,eq=>cases d0<;>cases eq
 |[d],rx,eq=>
   clear 5(FH rx)v rfl rv
   cases rv with
   |@lst a vs ds h1 h2 h3=>cases eq;exact⟨a,vs,rfl,.inl (SqL.of h1),λq hq=>k q vs H c f .refl h3 hq⟩
   |@tup a vs ds h1 h2 h3=>cases eq;exact⟨a,vs,rfl,.inr (SqT.of h1),λq hq=>k q vs H c f .refl h3 hq⟩
   |@scr a ns h1=>cases eq;exact⟨a,_,rfl,.inl h1.sq,λq hq=>k q _ H c f .refl (Reps.ints ns) hq⟩
   |@obj a kk h1=>
     unfold CK at eq;dsimp only at eq
     cases es:t.S[kk]? with
     |none=>rw[es] at eq;cases eq
     |some o=>
       rw[es] at eq
       cases o with
       |dct _|ins _ _=>cases eq
       |lst ds=>
         cases eq
         clear 5(f.s.obs kk a _ h1 es)vs g1 g2;exact⟨a,vs,rfl,.inl (SqL.of g1),λq hq=>k q vs H c f .refl g2 hq⟩
   |_=>cases eq
def Nj:List D->M D
 |[.int i]=>ret (.int i)
 |[.bl b]=>ret (.int (if b then 1 else 0))
 |_=>fail
theorem a9:Gj K (λxs H Q=>(∃i,xs=[.int i]/\Q (.int i) H)\/∃k,xs=[.bl k]/\Q (.int (if k then 1 else 0)) H) Nj:=λ{Oo c t σ H xs ds r t' Q} f rx eq k=>by
 match ds,rx,eq with
 |[],_,eq=>cases eq
 |d0::_::_,_,eq=>cases d0<;>cases eq
 |[d],rx,eq=>
   clear 5(FH rx)v rfl rv
   cases rv with
   |int i=>cases eq;exact .inl ⟨i,rfl,k _ H c f .refl (.int _)⟩
   |bl b=>cases eq;exact .inr ⟨b,rfl,k _ H c f .refl (.int _)⟩
   |_=>cases eq
def jb:List D->M D
 |[.int i]=>ret (.int (if i<0 then -i else i))
 |_=>fail
def Lu:List D->M D
 |[.int i,.int j]=>ret (.int (if j<i then j else i))
 |_=>fail
def jA:List D->M D
 |[.int i,.int j]=>ret (.int (if j > i then j else i))
 |_=>fail
set_option tactic.hygienic true
theorem bg:Gj K (λxs H Q=>∃i j,xs=[.int i,.int j]/\Q (.int (if j<i then j else i)) H) Lu:=λ{Oo c t σ H xs ds r t' Q} f rx eq k=>by
 unfold Lu at eq
 split at eq
 .next i j=>
  clear 5(YR rx)v u rfl rv ru
  cases rv;cases ru;cases eq
  exact⟨i,j,rfl,k _ H c f .refl (.int _)⟩
 .cases eq
def Lx:List D->M D
 |[.str x]=>λt=>if x.length=1 then some (.int (x.cps.getD 0 0:Nat),t) else none
 |_=>fail
theorem bn:Gj K (λxs H Q=>∃x,xs=[.str x]/\x.length=1/\Q (.int (x.cps.getD 0 0:Nat)) H) Lx:=λ{Oo c t σ H xs ds r t' Q} f rx eq k=>by
 match ds,rx,eq with
 |[],_,eq=>cases eq
 |d0::_::_,_,eq=>cases d0<;>cases eq
 |[d],rx,eq=>
   clear 5(FH rx)v rfl rv
   cases rv with
   |str x=>
     unfold Lx at eq;dsimp only at eq
     split at eq
     .next h=>cases eq;exact⟨x,rfl,h,k _ H c f .refl (.int _)⟩
     .cases eq
   |_=>cases eq
end
end
open AutoSeq1 (wpAny_loadPart')
open AutoSeq1 (wpAny_loadPart')
theorem MtM.or{X:Cx}{id:String}{r r':V->List V->Hp->VK->Prop}(h:MtM X id r)(h':MtM X id r'):MtM X id (λx xs H Q=>r x xs H Q\/r' x xs H Q):=by
 intro mi s σ H x xs v us Q I rx rv q;rcases q with q|q
 .exact h mi s σ H x xs v us Q I rx rv q
 .exact h' mi s σ H x xs v us Q I rx rv q
section
variable{X:Cx}{a b c d:Expr}{ta tb tc td:TE}{pos:Pos}
end
section
variable{K:mh}
def AL(x y:D):M D:=b8 x y
def YL(K:mh):R2:=Tj K
theorem RJ{X:Cx}:OpR X (binaryOp .Add) (YL X.K):=ae
theorem Qq:Br K (YL K) AL:=aW
def Xn:D->D->M D
 |.int i,.int j=>λt=>if GK i j=true then some (.int (i*j),t) else none
 |_,_=>fail
def Tl(K:mh):R2:=rI CMul (λi j=>.int (i*j))
theorem op_mul3{X:Cx}:OpR X (binaryOp .Mult) (Tl X.K):=dY
set_option tactic.hygienic true in
theorem bi:Br K (Tl K) Xn:=λ{Oo c t σ H x y dx dy r t' Q} f rx ry eq k=>by
 cases rx with
 |int i=>
   cases ry with
   |int j=>
     unfold Xn at eq;dsimp only at eq
     split at eq
     .next h=>cases eq;exact⟨i,j,rfl,rfl,U6 h,k _ H c f .refl (.int _)⟩
     .cases eq
   |_=>cases eq
 |_=>cases eq
end
section
variable{K:mh}{μ:Cf->Hp->D->(V->Hp->Prop)->Prop}
section
variable{X:Cx}{e a b:Expr}{pos:Pos}
def Dg(xs:List D):List D->Option (List D)
 |[d]=>if xs.length<LIM then some (xs++[d]) else none
 |_=>none
def E1(xs:List D):List D->Option (List D)
 |[.lst ys]=>if xs.length+ys.length<=LIM then some (xs++ys) else none
 |_=>none
def ownM(i:Nat)(h:List D->List D->Option (List D))(g:M (List D)):M Out:=λt=>match t.env[i]? with
 | some (some (.own _))=>bnd g (λds t1=>match t1.env[i]? with
   |some (some (.own xs))=>(h xs ds).map λys=>(.next,{t1 with env:=t1.env.set i (some (.own ys))})
   |_=>none) t
 |_=>none
def Su(K:mh)(R:V->List V->Hp->VK->Prop)(h:List D->List D->Option (List D)):Prop:=∀{c:Cf}{S:List Ob}{H:Hp}{a:mm}{vs us:List V}{xs ds ys:List D}{Q:VK},SInv K c S H->H a=some (.lst vs)->Reps K c H vs xs->Reps K c H us ds->h xs ds=some ys->
 (∀ws,Reps K c H ws ys->Q .non (upd H a (.lst ws)))->R (.ref a) us H Q
set_option tactic.hygienic true in
theorem aX:Su K RV Dg:=λ{c S H a vs us xs ds ys Q} s h r rs e k=>by
 unfold Dg at e
 split at e
 .next d=>
  split at e
  .next hl=>
   cases e
   clear 5(FH rs)v rfl rv;exact⟨a,vs,v,rfl,rfl,h,by rw[r.length];exact ue5 hl El,k _ (r.append (.cons rv .nil))⟩
  .cases e
 .cases e
def YM(K:mh):V->List V->Hp->VK->Prop:=RW
theorem Rw{X:Cx}:MtM X "list.extend" (YM X.K):=U5
set_option tactic.hygienic true
theorem R3:Su K (YM K) E1:=λ{c S H a vs us xs ds ys Q} s h r rs e k=>by
 unfold E1 at e
 split at e
 .split at e
  .next hl=>
   cases e
   clear 5(FH rs)v rfl rv
   obtain⟨_,_,rfl,h1,h2,h3⟩:=rv.rv
   exact⟨a,_,vs,_,rfl,rfl,h,h1,by rw[r.length,h3.length];exact um6 hl El,k _ (r.append h3)⟩
  .cases e
 .cases e
theorem RS.ownM{μ:Cf->Hp->D->(V->Hp->Prop)->Prop}{K:mh}{i:Nat}{h:List D->List D->Option (List D)}{g:M (List D)}{R:V->List V->Hp->VK->Prop}(s:Su K R h){E:Ends}{σ:L2.St}{H:Hp}(q:RSg K μ (L2.ownM i h g) E σ H):YU (tBM K "list" R (fH i) (RA K g)) E σ H:=by
 clear 5 q Oo c t fi o t' eq k;unfold L2.ownM at eq
 split at eq
 .next xs0 e0=>
  clear 5(Ag eq)ds t1 e1 eq;clear 5(fi.own i xs0 e0)a vs0 h1 h2 h3 h4 h5;refine⟨.ref a,h1,.inl ⟨rfl,vs0,SqL.of h4⟩,Oo,c,t,fi,ds,t1,e1,λus H1 c1 f1 s1 rus=>?_⟩
  split at eq
  .next xs ex=>
   clear 5(ub9.mp eq)ys ey ez
   cases ez
   clear 5(f1.own i xs ex)a' vs g1 g2 g3 g4 g5;rw[h1] at g1;injection g1 with g1;injection g1 with g1;injection g1 with g1;subst g1
   refine s f1.s g4 g5 rus ey λws rws=>?_;clear 5(f1.wrOwn ex h1 rws)f2 s2;exact k σ _ c1 f2 (s1.trans s2)
  .cases eq
 .cases eq
set_option tactic.hygienic false
theorem Uy(i:Nat){x:Str}{es:List Expr}{g:M (List D)}{px apos cpos:Pos}(ha:PA X (e::es) (RA X.K g))(hN:autoParam (X.N[i]?=some x) q3T)(hv:autoParam (Vis X.env.scope x) q0T)(hd:autoParam ((x==("__debug__":Str))=false) q1T)
 (hcd:autoParam ((x==("__classdict__":Str))=false) q1T)
 (hbase:autoParam (attributeBase (.Name x px) "append" X.env (eval (.Name x px) X.env)=eval (.Name x px) X.env) q3T)
 (hfew:autoParam (((backTo cpos (starEach (e::es) X.env)).all (λx=>!x.1)&&(backToKw cpos (keywordEach [] X.env)).all (λx=>x.1.isSome)&&decide ((e::es).length+([]:List Keyword).length+(if ([]:List Keyword).isEmpty then 0 else 1)<30))=true) q3T)
 (hline:autoParam ((apos.endLine==cpos.line)=true) q3T) (hs:autoParam (starEach (e::es) X.env=(false,eval e X.env)::starEach es X.env) q3T) (hplain:autoParam ((backTo cpos (starEach es X.env)).any (·.1)=false) q3T) :
 PS X (.Expr (.Call (.Attribute (.Name x px) "append" apos) (e::es) [] cpos) pos) (RSg X.K μ (ownM i Dg g)):=
 Bz (Nt (Tf PySem.F.plainAttrs_list PySem.F.slot_list_append PySem.F.type_list_append U4 (Kb hN hv hd hcd) ha hbase hfew hline hs hplain)) λ_ _ _ q=>RS.ownM aX q
theorem Uz(i:Nat){x:Str}{es:List Expr}{g:M (List D)}{px apos cpos:Pos}(ha:PA X (e::es) (RA X.K g))(hN:autoParam (X.N[i]?=some x) q3T)(hv:autoParam (Vis X.env.scope x) q0T)(hd:autoParam ((x==("__debug__":Str))=false) q1T)
 (hcd:autoParam ((x==("__classdict__":Str))=false) q1T)
 (hbase:autoParam (attributeBase (.Name x px) "extend" X.env (eval (.Name x px) X.env)=eval (.Name x px) X.env) q3T)
 (hfew:autoParam (((backTo cpos (starEach (e::es) X.env)).all (λx=>!x.1)&&(backToKw cpos (keywordEach [] X.env)).all (λx=>x.1.isSome)&&decide ((e::es).length+([]:List Keyword).length+(if ([]:List Keyword).isEmpty then 0 else 1)<30))=true) q3T)
 (hline:autoParam ((apos.endLine==cpos.line)=true) q3T) (hs:autoParam (starEach (e::es) X.env=(false,eval e X.env)::starEach es X.env) q3T) (hplain:autoParam ((backTo cpos (starEach es X.env)).any (·.1)=false) q3T) :
 PS X (.Expr (.Call (.Attribute (.Name x px) "extend" apos) (e::es) [] cpos) pos) (RSg X.K μ (ownM i E1 g)):=
 Bz (Nt (Tf PySem.F.plainAttrs_list PySem.F.slot_list_extend PySem.F.type_list_extend Rw (Kb hN hv hd hcd) ha hbase hfew hline hs hplain)) λ_ _ _ q=>RS.ownM R3 q
def objM(h:List D->List D->Option (List D))(f:M D)(g:M (List D)):M D:=bnd f λo=>match o with
 |.obj k=>λt=>match t.S[k]? with
   | some (.lst _)=>bnd g (λds t1=>match t1.S[k]? with
     |some (.lst xs)=>(h xs ds).map λys=>(.non,{t1 with S:=t1.S.set k (.lst ys)})
     |_=>none) t
   |_=>none
 |_=>fail
set_option tactic.hygienic true in
theorem RE.objM{K:mh}{h:List D->List D->Option (List D)}{f:M D}{g:M (List D)}{R:V->List V->Hp->VK->Prop}(s:Su K R h){σ:L2.St}{H:Hp}{Q:VK}(q:RE K (L2.objM h f g) σ H Q):tBM K "list" R (RE K f) (RA K g) σ H Q:=by
 clear 5 q Oo c t fi r t' eq k;clear 5(Ag eq)o t0 e0 eq;refine⟨Oo,c,t,fi,o,t0,e0,λx H0 c0 f0 s0 rx=>?_⟩
 cases rx with
 |@obj a kk hk=>
   dsimp only at eq
   split at eq
   .next xs0 ex0=>
    clear 5(Ag eq)ds t1 e1 eq;clear 5(f0.s.obs kk a _ hk ex0)vs0 g0 g0';refine⟨.inl ⟨rfl,vs0,SqL.of g0⟩,Oo,c0,t0,f0,ds,t1,e1,λus H1 c1 f1 s1 rus=>?_⟩
    split at eq
    .next xs ex=>
     clear 5(ub9.mp eq)ys ey ez
     cases ez
     have hk1:=s1.ext.io _ _ hk;clear 5(f1.s.obs kk a _ hk1 ex)vs g1 g2;refine s f1.s g1 g2 rus ey λws rws=>?_;obtain⟨f2,s2⟩:=f1.wrObj (o:=.lst ys) (u:=.lst ws) hk1 λc' H' ext hu=>⟨ws,hu,rws.mono ext⟩;exact k _ _ c1 f2 ((s0.trans s1).trans s2) .non
    .cases eq
   .cases eq
 |_=>cases eq
def fu(o i d:D):M Unit:=match o,i with
 |.obj k,.int j=>λt=>match t.S[k]? with
   |some (.lst xs)=>(ixN xs.length j).map λn=>((),{t with S:=t.S.set k (.lst (xs.set n d))})
   |_=>none
 |_,_=>fail
def stD(f g:M D)(d:D):M Unit:=bnd f λo=>bnd g λi=>fu o i d
end
variable{H:Hp}
section
variable{X:Cx}{e a b tg iter elt:Expr}{ifs:List Expr}{pos:Pos}{scope:Scope}{N':List Str}{n:Nat}{fr:List Nat}{f:M (List D)}{st:D->M Unit}{tst:M Bool}{el:M D}
def DL:M Bool:=ret true
theorem ZA:PIf X [] (RT X.K DL):=λmi s σ H Q I z9=>by
 clear 5 z9 Oo c t fi r t' eq k;exact ax mi s σ H Q I (by cases eq;exact k H c fi .refl)
theorem ZB{g:M Bool}(h:PT X e (RT X.K g)):PIf X [e] (RT X.K g):=ay h
theorem CF(O:CmpOk X scope N' (G7 n fr))(hc:X.calm=true)(hi:PI X tg iter (RI X.K f))
 (hg:∀cl C s2 H2 fp,PG (C3 X N' scope cl C s2 H2 fp) tg (RG X.K st)) (ht:∀cl C s2 H2 fp,PIf (C3 X N' scope cl C s2 H2 fp) ifs (RT X.K tst)) (he:∀cl C s2 H2 fp,PE (C3 X N' scope cl C s2 H2 fp) elt (RE X.K el))
 (hs:autoParam (∀x,foldedSetIterable iter X.env x=pure x) q2T):PE X (.ListComp elt [⟨tg,iter,ifs,0⟩] scope pos) (RF X.K (A5 n fr f st tst el)):=
 AO (ao O hc hi hg ht he hs) λ_ _ _ q=>RF.comp q
theorem RF.ofPure{f:M (List D)}{σ:L2.St}{Q:VK}(q:RE K (Au f) σ H Q):RF K f σ H Q:=by
 clear 5 q Oo c t fi r t' eq k;clear 5(Ag eq)ds t1 e1 eq
 cases eq
 exact⟨Oo,c,t,fi,ds,_,e1,λp xs H1 c1 f1 s1 rxs hp=>k _ _ c1 (f1.laid hp) (s1.trans (f1.stp_laid hp)) (.lst Be (f1.s.free hp) (rxs.mono (Ext.laid f1.s hp)))⟩
theorem ZK{i:Nat}{y:Str}{py spos:Pos}(O:CmpOk X scope N' (G7 n fr))(hc:X.calm=true)(hN:X.N.Nodup)(hiN:X.N[i]?=some y)(hx:X.env.scope.names.lookup y=some .local)(hi:PI X tg iter (RI X.K f))
 (hg:∀cl C s2 H2 fp,PG (C3 X N' scope cl C s2 H2 fp) tg (RG X.K st)) (ht:∀cl C s2 H2 fp,PIf (C3 X N' scope cl C s2 H2 fp) ifs (RT X.K tst)) (he:∀cl C s2 H2 fp,PE (C3 X N' scope cl C s2 H2 fp) elt (RE X.K el))
 (hsw:autoParam (swapsWith (.ListComp elt [⟨tg,iter,ifs,0⟩] scope pos) (some (.Name y py)) spos.line X.env=pure true) q3T)
 (hs:autoParam (∀x,foldedSetIterable iter X.env x=pure x) q2T):PS X (.Assign [.Name y py] (.ListComp elt [⟨tg,iter,ifs,0⟩] scope pos) spos) (RSg X.K μ (Aq i (Au (A5 n fr f st tst el)))):=
 Bz (aD O hc hN hiN hx hi hg ht he hsw hs) λE σ H q=>RF.comp (RF.ofPure (RS.set q))
theorem QY(tgs:List Str)(frn:List (Nat×Str))(hk:scope.kind=.function)(hcf:∃k:Option Str,(∀n cl,cellsFrom n scope.names cl=match k with|none=>cl|some x=>(x,n)::cl)/\(∀y,scope.names.lookup y=some .cell->k=some y)/\(∀y,k=some y->scope.names.lookup y=some .cell))(hloc:(scope.names.all λy=>y.2 != .local||scope.names.lookup y.1==some .local)=true)
 (hfree:(scope.names.all λy=>y.2 != .free||X.env.kindOf y.1==some .cell||X.env.kindOf y.1==some .free)=true)
 (hf:(frn.all λp=>X.N[p.1]?==some p.2&&scope.names.lookup p.2==some .free)=true):CmpOk X scope (tgs++frn.map (·.2)) (G7 tgs.length (frn.map (·.1))):=by
 rw[uh7] at hloc hfree hf;refine⟨hk,hcf,λy hy hl=>?_,λy hy hl=>?_,λσ _=>by simp[G7],λσ j x v h1 h2=>?_⟩
 .have:=hloc y hy;simpa[hl] using this
 .have:=hfree y hy;simpa[hl] using this
 .unfold G7 at h2
  by_cases hj:j<tgs.length
  .rw[ua8 (by simpa using hj),List.getElem?_replicate] at h2
   split at h2<;>simp at h2
  .rw[ua4 (by simpa using hj),uc5,uf7,uf7] at h2;rw[ua4 (by simpa using hj),uf7] at h1
   cases e:frn[j-tgs.length]? with
   |none=>rw[e] at h1;cases h1
   |some p=>
     rw[e] at h1 h2;simp only[Option.map_some,Option.some.injEq] at h1 h2;have hp:=hf p (ud4 e);rw[uh3] at hp;refine⟨p.1,by rw[<-h1];simpa using hp.1,?_,by rw[<-h1];simpa using hp.2⟩
     cases e2:σ[p.1]? with
     |none=>rw[e2] at h2;cases h2
     |some o=>rw[e2] at h2;simpa using h2
theorem NT:∀(l:List (Str×NameKind)),(l.all λy=>y.2 != .cell)=true->∀(n:Nat) (cl:List (Str×mm)),cellsFrom n l cl=cl
 |[],_,_,_=>rfl
 |(x,k)::l,h,n,cl=>by
   rw[ul4,uh3] at h;rw[cellsFrom,pX (by simpa using h.1)];exact NT l h.2 n cl
theorem C4(tgs:List Str)(frn:List (Nat×Str))(hk:scope.kind=.function)(hcell:(scope.names.all λy=>y.2 != .cell)=true)(hloc:(scope.names.all λy=>y.2 != .local||scope.names.lookup y.1==some .local)=true)
 (hfree:(scope.names.all λy=>y.2 != .free||X.env.kindOf y.1==some .cell||X.env.kindOf y.1==some .free)=true)
 (hf:(frn.all λp=>X.N[p.1]?==some p.2&&scope.names.lookup p.2==some .free)=true):CmpOk X scope (tgs++frn.map (·.2)) (G7 tgs.length (frn.map (·.1))):=
 QY tgs frn hk ⟨none,λn cl=>NT _ hcell n cl,λy h=>by
  rw[uh7] at hcell;have:=hcell _ (CZ h);simp at this,λy h=>by cases h⟩ hloc hfree hf
theorem WA(k:Str)(tgs:List Str)(frn:List (Nat×Str))(hk:scope.kind=.function)(hcf:∀n cl,cellsFrom n scope.names cl=(k,n)::cl)(hck:(scope.names.all λy=>y.2 != .cell||y.1==k)=true)(hlk:scope.names.lookup k=some .cell)(hloc:(scope.names.all λy=>y.2 != .local||scope.names.lookup y.1==some .local)=true)
 (hfree:(scope.names.all λy=>y.2 != .free||X.env.kindOf y.1==some .cell||X.env.kindOf y.1==some .free)=true)
 (hf:(frn.all λp=>X.N[p.1]?==some p.2&&scope.names.lookup p.2==some .free)=true):CmpOk X scope (tgs++frn.map (·.2)) (G7 tgs.length (frn.map (·.1))):=
 QY tgs frn hk ⟨some k,hcf,λy h=>by
  rw[uh7] at hck;have:=hck _ (CZ h);simp at this;rw[this],λy h=>by cases h;exact hlk⟩ hloc hfree hf
end
mutual
noncomputable def BR:D->Bool
 |.tup xs=>F1 xs
 |.lst xs=>F1 xs
 |.obj _=>false
 |.scr _=>false
 |.exc _ _=>false
 |.gts _=>false
 |_=>true
noncomputable def F1:List D->Bool
 |[]=>true
 |d::r=>BR d&&F1 r
end
def c0:Cf:=⟨[],λ_=>False⟩
theorem M0(a:mm):¬c0.A a:=λh=>h.elim (λz=>nomatch z) λz=>z
mutual
theorem Hw{K:mh}{c:Cf}{H:Hp}{v:V}{d:D}(r:Rep K c H v d)(p:BR d=true):Rep K c0 H v d:=by
 cases r with
 |non=>exact .non
 |bl b=>exact .bl b
 |int i=>exact .int i
 |str x=>exact .str x
 |ty n=>exact .ty n
 |tup h n r=>exact .tup h (M0 _) (KO r (by simpa[BR] using p))
 |lst h n r=>exact .lst h (M0 _) (KO r (by simpa[BR] using p))
 |scr h=>simp[BR] at p
 |dic h n=>exact .dic h (M0 _)
 |obj h=>simp[BR] at p
 |exc _ _ _ _ _=>simp[BR] at p
 |gts _=>simp[BR] at p
theorem KO{K:mh}{c:Cf}{H:Hp}{vs:List V}{ds:List D}(r:Reps K c H vs ds)(p:F1 ds=true):Reps K c0 H vs ds:=by
 cases r with
 |nil=>exact .nil
 |cons h t=>
   simp only[F1,uh3] at p;exact .cons (Hw h p.1) (KO t p.2)
end
noncomputable def D7(S:List Ob):D->D
 |.obj k=>match S[k]? with
   |some (.lst ds)=>.lst ds
   |_=>.obj k
 |d=>d
noncomputable def Xb:D->Bool
 |.obj _=>true
 |_=>false
def eqS(g:Bool->Bool)(x y:D):M D:=λt=>
 if (Xb x||Xb y)=true then(if (BR (D7 t.S x)&&BR (D7 t.S y))=true then(eqN EQD (D7 t.S x) (D7 t.S y)).map λb=>(.bl (g b),t) else none)
 else(eqN EQD x y).map λb=>(.bl (g b),t)
set_option tactic.hygienic true
theorem B8{c:Cf}{S:List Ob}{v:V}{d:D}(s:SInv K c S H)(r:Rep K c H v d)(p:BR (D7 S d)=true):Rep K c0 H v (D7 S d):=by
 cases r with
 |@obj a k hk=>
   unfold D7 at p⊢;dsimp only at p⊢
   split
   .next ds e=>
    rw[e] at p;clear 5(s.obs k a _ hk e)vs h1 h2;exact .lst h1 (M0 _) (KO h2 (by simpa[BR] using p))
   .next h=>
    split at p
    .next ds e=>exact absurd e (h ds)
    .simp[BR] at p
 |non=>exact .non
 |bl b=>exact .bl b
 |int b=>exact .int b
 |str b=>exact .str b
 |ty b=>exact .ty b
 |tup h n q=>exact Hw (.tup h n q) p
 |lst h n q=>exact Hw (.lst h n q) p
 |scr h=>exact Hw (c:=c) (.scr h) p
 |dic h n=>exact Hw (.dic h n) p
 |exc a b n f q=>exact Hw (.exc a b n f q) p
 |gts h=>exact Hw (c:=c) (.gts h) p
theorem KQ{g:Bool->Bool}:Br K (Tk K g) (eqS g):=λ{Oo c t σ H x y dx dy r t' Q} f rx ry eq k=>by
 unfold eqS at eq
 split at eq
 .split at eq
  .next hp=>
   rw[uh3] at hp;clear 5(ub9.mp eq)b e1 e2
   cases e2
   exact⟨c0,_,_,b,B8 f.s rx hp.1,B8 f.s ry hp.2,e1,k _ H c f .refl (.bl (g b))⟩
  .cases eq
 .obtain⟨b,e1,e2⟩:=ub9.mp eq
  cases e2
  exact⟨c,dx,dy,b,rx,ry,e1,k _ H c f .refl (.bl (g b))⟩
set_option tactic.hygienic false
theorem UU{a:mm}{ns:List Int}{f:Fn}{S':List Ob}(hO:Sn H)(hS:SqL K H a (ns.map V.int))(e:f [.scr ns] []=some (.bl true,S')):spF K f [.ref a] H (λv _=>v=.bl true) λ_ _ _=>False:=by
 refine⟨c0,[.scr ns],[],⟨rfl,List.Pairwise.nil,λk a o h=>by simp[c0] at h,λb z=>z.elim,λb z=>z.elim⟩,.cons (.scr ?_) .nil,.bl true,S',e,λv H' c' _ _ _ rv=>by cases rv;rfl⟩;rcases hS with (h|h)|h
 .rcases hO a with z|⟨o,xs,z⟩
  .rw[z] at h;cases h
  .rw[z] at h;cases h
 .exact .inl ⟨h,M0 _⟩
 .exact .inr h
end
section
variable{prog:mq}{w:mw}{A:Around}{E:mj->mn->Prop}{s:mn}
theorem Ma{it l:mm}{items:Array mj}(hne:l≠it):∀(n i:Nat) (s:mn) (Q:List mj->mn->Prop),s.heap.IsListIter it l i->s.heap.IsList l items->i+n<=items.size->
 (∀h',h'.IsListIter it l (i+n)->Heap.SameBut it s.heap h'->Q ((items.toList.drop i).take n) {s with heap:=h'})->wpAny (model prog w) A (draw (.ref it) n) Q E s
 |0,i,s,Q,hit,_,_,hQ=>uo1 (by simpa using hQ s.heap hit (Heap.SameBut.refl ..))
 |n+1,i,s,Q,hit,ht,hle,hQ=>by
   have hlt:i<items.size:=by lia
   refine uo0 (wpAny_pyNext_list_item hit ht (x:=items[i]) (by simp[hlt]) λh1 hit1 hs1=>?_);refine uo0 (um3 (Ma hne n (i+1) _ _ hit1 (ht.extBut hs1.extBut hne) ∅ λh2 hit2 hs2=>uo1 ?_));have hd:items.toList.drop i=items[i]::items.toList.drop (i+1):=by simp[List.drop_eq_getElem_cons,hlt]
   have:=hQ h2 (by rw[show i+(n+1)=i+1+n by lia];exact hit2) (hs1.trans hs2);rw[hd,ue3] at this;exact this
theorem QB{l:mm}{items:Array mj}{targets:List (Bool×(mj->Sem Unit))}{Q:Unit->mn->Prop}(hh:A.handled=none)(ht:s.heap.IsList l items)(hn:targets.length=items.size)(hstar:targets.findIdx? (·.1)=none)
 (h:∀h',Heap.ExtBut s.heap.objs.size s.heap h'->wpAny (model prog w) A (assignInOrder (targets.map (·.2)) items.toList) Q E {s with heap:=h'}):wpAny (model prog w) A (unpack (.ref l) targets) Q E s:=by
 have hlt:l≠s.heap.objs.size:=by obtain⟨o,ho,_⟩:=ht;exact um5 (um4 ho)
 unfold unpack;rw[hn,hstar];refine uo0 (um3 ?_);unfold unpackItems;refine uo0 ?_;unfold notIterableAtAll;refine uo0 (PySem.wpAny_specialOf ht.typeIs PySem.F.slot_list_iter.lookup ?_);refine uo1 ?_;simp only[uf0,pR];refine uo0 (um3 (PySem.wpAny_pyIter_list ht ?_));have hp:Heap.IsList (s.heap.push {cls:=.type "list_iterator",data:=.fields #[.ref l,.int 0 0]}) l items:=by
  clear 5 ht o ho r;exact⟨o,ub7 _ ho,r⟩
 refine uo0 (um3 (Ma hlt items.size 0 _ _ ⟨_,ud8 _ rfl,rfl,rfl⟩ hp ∅ λh1 hit1 hs1=>?_));have hall:List.take items.size (List.drop 0 items.toList)=items.toList:=by
  rw[uk8];exact uc0 (by simp)
 rw[hall];rw[pX (by simp)];have ht1:Heap.IsList h1 l items:=hp.extBut hs1.extBut hlt;refine uo0 (um3 (wpAny_pyNext_list_end hh hit1 ht1 (by simp) λh2 he2=>?_));simp only[Option.isSome_none,uf0,pR];exact uo1 (h h2 λb o hb e=>he2 b o hb (hs1.extBut b o hb (ub7 _ e)))
end
section
variable{X:Cx}{pos:Pos}
def gUn(K:mh)(n:Nat)(t:TGs):TG:=λv σ H Q=>∃a xs,v=.ref a/\(SqT K H a xs\/SqL K H a xs)/\xs.length=n/\t xs σ H Q
theorem gS{es:List Expr}{k:Nat}{t:TGs}{n:Nat}(hc:X.calm=true)(h:PGs X es t)
 (hn:autoParam ((assignEach es X.env).length=n) q3T) (hst:autoParam ((assignEach es X.env).findIdx? (·.1)=none) q3T):PG X (.Tuple es k pos) (gUn X.K n t):=by
 intro mi s σ H v u Q I r hw;obtain⟨a,xs,e1,hq|hq,hl,hw⟩:=hw
 .exact eC hc h hn hst mi s σ H v u Q I r ⟨a,xs,e1,hq,hl,hw⟩
 .subst e1
  cases r
  clear 5(I.list hq)its rv ht hz;rw[assign_Tuple];refine uo0 (pA (QB (I.ok.hd hc) ht.isList (by simp[hn,<-hl,rv.length]) hst λh' hx=>?_));have I1:Inv X mi σ H {s with heap:=h'}:=I.kept (t':=s.toks) λb o e=>hx b o (um5 (um4 e)) e;exact h mi _ σ H xs _ Q I1 (by simpa using rv) hw
end
section
open HT
variable{prog:mq}{w:mw}{A:Around}{E:mj->mn->Prop}{s:mn}
theorem JC{t sl:mm}{items:Array mj}{vl vu:mj}{lo hi:Option Int}{Q:mj->mn->Prop}(ht:IsTup s.heap t items)(hs:s.heap.IsSliceOf sl vl vu .none)(pl:IsPart vl lo)(pu:IsPart vu hi)
 (hw:sIx items.size 0 lo=0/\sIx items.size items.size hi=items.size) (h:Q (.ref t) s):wpAny (model prog w) A (getItem (.ref t) (.ref sl)) Q E s:=by
 clear 5(id hs)os hos hcs hds;have hTs:s.TypeIs (.ref sl) "slice":=⟨os,hos,hcs⟩;unfold getItem
 try with_reducible refine um3 ?_
 first|refine uo0 (uo1 ?_)|skip
 refine uo0 (wpAny_sequenceKey ht.typeIs (by decide) ?_);refine uo0 (wpAny_callSpecial?_slot (name:=Str.ofString "__getitem__") ht.typeIs PyProof.Rows.slot_tuple_getitem
  (PySem.wpAny_call_entry PyProof.Rows.slot_tuple_getitem ht.typeIs entry_tuple_getitem ?_ (args_tuple_getitem _ _)))
 show wpAny _ _ (Builtin.Tuple.tupleItemsOf (.ref t) >>= _) _ _ s;refine uo0 (tupleItemsOf_ ht ?_);refine uo0 (wpAny_typeOf hTs ?_);rw[pW (by decide)];refine uo0 (Hz hs pl pu ?_);have hyes:(((sIx items.size 0 lo:Nat):Int)==0&&(1:Int)==1&&(sIx items.size items.size hi-sIx items.size 0 lo)==items.size)=true:=by
  rw[hw.1,hw.2];simp
 show wpAny _ _ (if (((sIx items.size 0 lo:Nat):Int)==0&&(1:Int)==1&&(sIx items.size items.size hi-sIx items.size 0 lo)==items.size)=true then _ else _) _ _ s;rw[pW hyes];refine uo0 (m:=Builtin.Tuple.tupleIsExact _) ?_;unfold Builtin.Tuple.tupleIsExact;refine uo0 (wpAny_typeOf ht.typeIs (uo1 ?_));rw[pW (by decide)]
 first
  |exact uo0 (wpAny_rule (uo1 ⟨_,rfl,uo1 h⟩))
  |exact uo0 (wpAny_rule (uo0 (uo1 (uo1 ⟨_,rfl,uo1 h⟩))))
end
section
variable{X:Cx}
def fb(K:mh):V->Option Int->Option Int->Hp->VK->Prop:=λx lo hi H Q=>∃a xs,x=.ref a/\SqT K H a xs/\(HT.sIx xs.length 0 lo=0/\HT.sIx xs.length xs.length hi=xs.length)/\Q (.ref a) H
theorem bz:SlR X (fb X.K):=by
 intro mi s σ H x v vl vu lo hi sl Q I rx hs pl pu h;clear 5 h a xs rfl hx hw q
 cases rx
 clear 5(I.tuple hx)its r ht hz;have hlen:its.toArray.size=xs.length:=by rw[uf6];exact r.length.symm
 exact⟨"tuple",_,PyProof.Rows.slot_tuple_getitem.lookup,ht.typeIs,JC ht hs pl pu (by rw[hlen];exact hw) ⟨.ref a,H,I,rfl,q⟩⟩
end
noncomputable def Its(z:Str):It:=⟨λi _=>i<z.cps.size,λi H x H'=>H'=H/\∃c,z.cps[i]?=some c/\x=.str ⟨#[c]⟩,λi _=>i=z.cps.size⟩
theorem Qz{P:mq}{w:mw}{K:mh}{tg:Expr}{T:String}{x:Str}{t:Tok}(it:mm)(hT:["enumerate", "zip", "dict_itemiterator", "dict_reverseitemiterator", "odict_iterator", "itertools.zip_longest", "itertools.pairwise"].contains T=false)
 (W:∀A:Around,A.handled=none->Walks P w A it [it] [it] x.cps.size (SignAt x) (λi h=>h.IsStrIter it T x t i))
 (self:∀(A:Around) (i:Nat) (s:mn) (Q:mj->mn->Prop) (E:mj->mn->Prop),s.heap.IsStrIter it T x t i->Q (.ref it) s->wpAny (model P w) A (pyIter (.ref it)) Q E s) :
 Turn P w K tg (Its x) [it] it (λi h=>h.IsStrIter it T x t i) where
 mem:=by simp
 obj:=λi h st b hb=>by
  have e:b=it:=by simpa using hb
  subst e;clear 5 st o e c d;exact⟨o,e,λv z=>by rw[d] at z;cases z⟩
 keep:=λi h h' st k=>by
  clear 5 st o e r;exact⟨o,k it (by simp) o e,r⟩
 item:=by
  intro X hP hw hK hc i mi s σ H E I hf st hg;subst hP hw hK;clear 5(hf it (by simp))f0 f1 f2 f3 f4 f5;refine(W X.A (I.ok.hd hc)).item i s _ _ hg st λv h' tk hv st' kk=>?_;clear 5 hv c u hcc rfl;have I1:Inv X mi σ H {s with heap:=h',toks:=tk}:=I.turned (λb o hb e=>kk b o (by simpa using hb) e) f0 f1 f3 f4 f5;clear 5(id st')o e ec ed;exact⟨_,rfl,Mn (s:={s with heap:=h',toks:=tk}) e ec ed hT ⟨.str ⟨#[c]⟩,H,I1,⟨u,rfl⟩,⟨rfl,c,hcc,rfl⟩,st',λb hb=>(hf b hb).1⟩⟩
 done:=by
  intro X hP hw hK hc i mi s σ H E I hf st hg;subst hP hw hK;clear 5(hf it (by simp))f0 f1 f2 f3 f4 f5;have hg':i=x.cps.size:=hg;subst hg';exact(W X.A (I.ok.hd hc)).done s _ _ st λh' tk kk=>⟨rfl,I.turned (λb o hb e=>kk b o (by simpa using hb) e) f0 f1 f3 f4 f5⟩
 self:=λA i s Q E st h=>self A i s Q E st h
section
variable{X:Cx}{tg:Expr}{pos:Pos}
def jr(K:mh)(tl:TE):TI:=λσ H R=>tl σ H λx H1=>(∃a,x=.ref a/\(∃xs,SqL K H1 a xs)/\R (Itl K a) H1)\/(∃a,x=.ref a/\(∃xs,SqT K H1 a xs)/\R (Itt K a) H1)\/∃z,x=.str z/\R (Its z) H1
theorem eD{l:Expr}{tl:TE}(hl:PE X l tl):PI X tg l (jr X.K tl):=by
 intro mi s σ H R I h;refine thn (hl mi s σ H _ I h) λv s1 z9=>?_;clear 5 z9 x H1 I1 r1 q1;have fp:∀b∈[s1.heap.objs.size],FpOk X mi H1 b:=λb hb=>by
  have e:b=s1.heap.objs.size:=by simpa using hb
  subst e;exact I1.fpOk (un6 _) (I1.hok.fresh (un6 _))
 rcases q1 with⟨a,rfl,⟨xs,hq⟩,q⟩|⟨a,rfl,⟨xs,hq⟩,q⟩|⟨z,rfl,q⟩
 .cases r1
  clear 5(I1.list hq)its rv p hz;refine PySem.wpAny_pyIter_list p.isList ?_;exact⟨s1.heap.objs.size,[s1.heap.objs.size],_,_,H1,rfl,I1.kept (t':=s1.toks) λb o e=>ub7 _ e,V2 a _,⟨_,ud8 _ rfl,rfl,rfl⟩,fp,q⟩
 .cases r1
  clear 5(I1.tuple hq)its rv p hz;refine wpAny_pyIter_tuple (show s1.heap.IsTuple a its.toArray from p) ?_;exact⟨s1.heap.objs.size,[s1.heap.objs.size],_,_,H1,rfl,I1.kept (t':=s1.toks) λb o e=>ub7 _ e,Ty a _,⟨_,ud8 _ rfl,rfl,rfl⟩,fp,q⟩
 .obtain⟨t,rfl⟩:=r1
  cases ha:z.cps.all (· < 128)
  .refine wpAny_pyIter_wide ha ?_;exact⟨s1.heap.objs.size,[s1.heap.objs.size],_,_,H1,rfl,I1.kept (t':=s1.toks) λb o e=>ub7 _ e,Qz (T:="str_iterator") (x:=z) (t:=t) _ (by decide) (λA hA=>Walks.strWide hA _ z t) (λ_ _ _ _ _ st h=>wpAny_pyIter_striter_wide st h),⟨_,ud8 _ rfl,rfl,rfl⟩,fp,q⟩
  .refine wpAny_pyIter_ascii ha ?_;exact⟨s1.heap.objs.size,[s1.heap.objs.size],_,_,H1,rfl,I1.kept (t':=s1.toks) λb o e=>ub7 _ e,Qz (T:="str_ascii_iterator") (x:=z) (t:=t) _ (by decide) (λA hA=>Walks.strAscii hA _ z t) (λ_ _ _ _ _ st h=>wpAny_pyIter_striter_ascii st h),⟨_,ud8 _ rfl,rfl,rfl⟩,fp,q⟩
def YO:R2:=λx y H Q=>∃z k,x=.str z/\y=.int k/\MulOk z k/\Q (.str (Txt.mul z k)) H
theorem ah:OpR X (binaryOp .Mult) YO:=by
 intro mi s σ H x y v u Q I rx ry h;clear 5 h z k rfl rfl hk q;clear 5 rx t rfl;clear 5 ry t' rfl;exact SB.mul hk λt2 tk=>⟨.str _,H,I.tok tk,⟨t2,rfl⟩,q⟩
def eY:V->Option Int->Option Int->Hp->VK->Prop:=λx lo hi H Q=>∃z,x=.str z/\z.length<=sizeLine/\Q (.str (Txt.slice z lo hi)) H
theorem sl_str:SlR X eY:=by
 intro mi s σ H x v vl vu lo hi sl Q I rx hs pl pu h;clear 5 h z rfl hz q;clear 5 rx t rfl;refine⟨"str",_,PySem.F.slot_str_getitem.lookup,typeIs_str _ _ _,?_⟩;have part:∀{v:mj}{o:Option Int},IsPart v o->∃l:Option (Int×Tok),v=partValue l/\l.map (·.1)=o:=λ{v o} p=>by
  cases p with
  |none=>exact⟨none,rfl,rfl⟩
  |int i t=>exact⟨some (i,t),rfl,rfl⟩
 clear 5(part pl)l rfl el;clear 5(part pu)u rfl eu;refine wpAny_getItem_str_slice (l:=l) (u:=u) (st:=none) (by clear 5 hs o h1 h2 h3;exact⟨o,h1,h2,h3⟩) rfl ?_;unfold sliceMade slicePicked;rw[el,eu];show(if ((1:Int)==1&&(Builtin.Str.strSliceIndices lo hi 1 z.length).length==z.length)=true then Made.val (.str z t) else Made.str ⟨((Builtin.Str.strSliceIndices lo hi 1 z.length).filterMap (z.cps[·]?)).toArray⟩).post _ s;have hle:=Txt.slice_le z lo hi;unfold Txt.slice at q hle
 by_cases hc:((1:Int)==1&&(Builtin.Str.strSliceIndices lo hi 1 z.length).length==z.length)=true
 .rw[pW hc] at q⊢;exact⟨.str z,H,I,⟨t,rfl⟩,q⟩
 .rw[pX hc] at q hle⊢;exact⟨um6 hle hz,.str _,H,I.tok _,⟨_,rfl⟩,q⟩
def Jl(g:Int->Int->Bool)(h:List Nat->List Nat->Bool):R2:=λx y H Q=>(∃i j,x=.int i/\y=.int j/\Q (.bl (g i j)) H)\/∃i j,x=.str i/\y=.str j/\Q (.bl (h i.cps.toList j.cps.toList)) H
theorem Vj:OpR X (compareOp .Lt) (Jl (λi j=>decide (i<j)) λi j=>decide (i<j)):=op_lt.or λmi s σ H x y v u Q I rx ry h=>by
 clear 5 h i j rfl rfl q;clear 5 rx t rfl;clear 5 ry t' rfl;exact P.lt_str ⟨.bl _,H,I,rfl,q⟩
theorem P7:OpR X (compareOp .LtE) (Jl (λi j=>decide (i<=j)) λi j=>!(decide (j<i))):=op_le.or λmi s σ H x y v u Q I rx ry h=>by
 clear 5 h i j rfl rfl q;clear 5 rx t rfl;clear 5 ry t' rfl;exact P.le_str ⟨.bl _,H,I,rfl,q⟩
theorem Vg:OpR X (compareOp .Gt) (Jl (λi j=>decide (j<i)) λi j=>decide (j<i)):=op_gt.or λmi s σ H x y v u Q I rx ry h=>by
 clear 5 h i j rfl rfl q;clear 5 rx t rfl;clear 5 ry t' rfl;exact P.gt_str ⟨.bl _,H,I,rfl,q⟩
theorem dS:OpR X (compareOp .GtE) (Jl (λi j=>decide (j<=i)) λi j=>!(decide (i<j))):=op_ge.or λmi s σ H x y v u Q I rx ry h=>by
 clear 5 h i j rfl rfl q;clear 5 rx t rfl;clear 5 ry t' rfl;exact P.ge_str ⟨.bl _,H,I,rfl,q⟩
end
def Ec:D->M (List D)
 |.lst ds=>ret ds
 |.scr ns=>ret (ns.map .int)
 |.tup ds=>ret ds
 |.str x=>ret (x.cps.toList.map λc=>.str ⟨#[c]⟩)
 |.gts xs=>ret (xs.map .str)
 |_=>fail
def BT(f:M D):M (List D):=bnd f Ec
def CB:D->D->M D
 |.str x,.int k=>λt=>if small k=true/\x.length*k.toNat<=LIM/\k<=LIM/\x.length<=LIM then some (.str (Txt.mul x k),t) else none
 |x,y=>Xn x y
def Fd:D->Option Int->Option Int->M D
 |.str x,lo,hi=>lim x.length (.str (Txt.slice x lo hi))
 |.tup ds,lo,hi=>ret (.tup (BS ds lo hi))
 |x,lo,hi=>slD x lo hi
def O4(g:Int->Int->Bool)(h:List Nat->List Nat->Bool):D->D->M D
 |.int i,.int j=>ret (.bl (g i j))
 |.str x,.str y=>ret (.bl (h x.cps.toList y.cps.toList))
 |_,_=>fail
def ltA:=O4 (λi j=>decide (i<j)) (λi j=>decide (i<j))
def leA:=O4 (λi j=>decide (i<=j)) (λi j=>!(decide (j<i)))
def gtA:=O4 (λi j=>decide (j<i)) (λi j=>decide (j<i))
def geA:=O4 (λi j=>decide (j<=i)) (λi j=>!(decide (i<j)))
def unS(n:Nat)(g:List D->M Unit):D->M Unit
 |.tup ds=>if ds.length=n then g ds else fail
 |.lst ds=>if ds.length=n then g ds else fail
 |_=>fail
def jh:M D:=fC .dic
section
variable{μ:Cf->Hp->D->(V->Hp->Prop)->Prop}{K:mh}{n:Nat}{g:List D->M Unit}{es:List Expr}
section
variable{X:Cx}{e a b:Expr}{pos:Pos}{st:Stmt}
theorem Rf:PS X st (RSg X.K μ fail):=λmi s σ H E I ⟨Oo,c,t,fi,o,t',eq,k⟩=>by cases eq
theorem ItOk.str{K:mh}{c:Cf}{H:Hp}{x:Str}:ItOk K (Its x) c H (x.cps.toList.map λc=>.str ⟨#[c]⟩):=by
 refine⟨λc' H' i ex hi=>?_,λc' H' i y H'' d ex hd hy=>?_,λc' H' ex=>?_⟩
 .show i<x.cps.size;simpa using hi
 .clear 5 hy rfl n hn rfl;refine⟨rfl,?_⟩;have:d=.str ⟨#[n]⟩:=by
   rw[uf7] at hd;have hn':x.cps.toList[i]?=some n:=by simpa using hn
   rw[hn'] at hd;simpa using hd.symm
  rw[this];exact .str _
 .show _=x.cps.size;simp
theorem Uu{tg:Expr}{f:M D}(h:PE X e (RE X.K f)):PI X tg e (RI X.K (BT f)):=
 LL (eD h) λσ H R z9=>by
  clear 5 z9 Oo c t fi ds t' eq k;clear 5(Ag eq)d t1 e1 eq;refine⟨Oo,c,t,fi,d,t1,e1,λv H1 c1 f1 s1 rv=>?_⟩
  cases rv with
  |@lst p vs ds' h1 h2 h3=>
    cases eq
    exact .inl ⟨p,rfl,⟨vs,SqL.of h1⟩,k _ H1 c1 f1 s1 (ItOk.lst λc' H' ex=>⟨vs,SqL.of (ex.keep _ _ h1 h2),h3.mono ex⟩)⟩
  |@scr p ns h1=>
    cases eq
    exact .inl ⟨p,rfl,⟨_,h1.sq⟩,k _ H1 c1 f1 s1 (ItOk.lst λc' H' ex=>⟨_,(h1.mono ex).sq,Reps.ints ns⟩)⟩
  |@tup p vs ds' h1 h2 h3=>
    cases eq
    exact .inr (.inl ⟨p,rfl,⟨vs,SqT.of h1⟩,k _ H1 c1 f1 s1 (ItOk.tup λc' H' ex=>⟨vs,SqT.of (ex.keep _ _ h1 h2),h3.mono ex⟩)⟩)
  |str x=>
    cases eq
    exact .inr (.inr ⟨x,rfl,k _ H1 c1 f1 s1 ItOk.str⟩)
  |@gts p xs hk=>
    cases eq
    exact .inr (.inl ⟨p,rfl,⟨_,.inr hk⟩,k _ H1 c1 f1 s1 (ItOk.tup λc' H' ex=>⟨_,.inr hk,Reps.strs xs⟩)⟩)
  |_=>cases eq
theorem RG.un{v:V}{σ:L2.St}{H:Hp}{Q:L2.St->Hp->Prop}(q:RG K (unS n g) v σ H Q):gUn K n (RGs K g) v σ H Q:=by
 clear 5 q Oo c t d fi rv t' eq k
 cases rv with
 |@tup a vs ds h1 h2 h3=>
   unfold unS at eq
   by_cases hn:ds.length=n
   .dsimp only at eq;rw[pW hn] at eq;exact⟨a,vs,rfl,.inl (SqT.of h1),by rw[h3.length];exact hn,Oo,c,t,ds,fi,h3,t',eq,k⟩
   .dsimp only at eq;rw[pX hn] at eq;cases eq
 |@lst a vs ds h1 h2 h3=>
   unfold unS at eq
   by_cases hn:ds.length=n
   .dsimp only at eq;rw[pW hn] at eq;exact⟨a,vs,rfl,.inr (SqL.of h1),by rw[h3.length];exact hn,Oo,c,t,ds,fi,h3,t',eq,k⟩
   .dsimp only at eq;rw[pX hn] at eq;cases eq
 |_=>cases eq
theorem YA{k:Nat}(hc:X.calm=true)(h:PGs X es (RGs X.K g))(hn:autoParam ((assignEach es X.env).length=n) q3T)(hst:autoParam ((assignEach es X.env).findIdx? (·.1)=none) q3T):PG X (.Tuple es k pos) (RG X.K (unS n g)):=
 LK (gS hc h hn hst) λ_ _ _ _ q=>RG.un q
theorem Ln{f:D->M Unit}(h1:PG X e (RG X.K f))(h2:PGs X es (RGs X.K g))(hs:autoParam ((assignEach (e::es) X.env).map (·.2)=assign e X.env::(assignEach es X.env).map (·.2)) q3T):PGs X (e::es) (RGs X.K (A1 f g)):=
 QS (Xz h1 h2 hs) λ_ _ _ _ q=>RGs.cons q
end
section
variable{K:mh}
def YN(K:mh):R2:=λx y H Q=>Tl K x y H Q\/YO x y H Q
theorem ag{X:Cx}:OpR X (binaryOp .Mult) (YN X.K):=op_mul3.or ah
theorem QL{x:Str}{k:Int}(h:small k=true/\x.length*k.toNat<=LIM/\k<=LIM/\x.length<=LIM):MulOk x k:=by
 clear 5(HM h.1)g1 g2;have hL:LIM=100000:=rfl;refine⟨?_,λh1 _=>?_,λh1 _=>?_⟩
 .rw[Bool.or_eq_false_iff];exact⟨uk3 ∅,uk3 ∅⟩
 .have h2:k<=100000:=by have:=h.2.2.1;rw[hL] at this;exact this
  have h3:x.length<=100000:=by have:=h.2.2.2;rw[hL] at this;exact this
  have h4:(92233720368547:Int)<=(2 ^ 63-1)/k:=by
   rw[Int.le_ediv_iff_mul_le ∅];lia
  lia
 .have h5:=h.2.1;rw[hL] at h5;unfold Builtin.Str.tooLong
  first|exact uk3 (by unfold sizeLine;lia)|(unfold sizeLine;exact uk3 ∅)
set_option tactic.hygienic true in
theorem XW:Br K (YN K) CB:=λ{Oo c t σ H x y dx dy r t' Q} f rx ry eq k=>by
 unfold CB at eq
 split at eq
 .next z kk=>
  split at eq
  .next h=>
   cases eq
   cases rx
   cases ry
   exact .inr ⟨z,kk,rfl,rfl,QL h,k _ H c f .refl (.str _)⟩
  .cases eq
 .exact .inl (bi f rx ry eq k)
def XL(K:mh):V->Option Int->Option Int->Hp->VK->Prop:=λx lo hi H Q=>XJ K x lo hi H Q\/(eY x lo hi H Q\/fb K x lo hi H Q)
theorem sl3{X:Cx}:SlR X (XL X.K):=sl2.or (sl_str.or bz)
theorem SF{α:Type}{xs:List α}{lo hi:Option Int}(h:HT.sIx xs.length 0 lo=0/\HT.sIx xs.length xs.length hi=xs.length):BS xs lo hi=xs:=by
 unfold BS;rw[h.1,h.2];simp
set_option tactic.hygienic true in
theorem R6:Ss K (XL K) Fd:=λ{Oo c t σ H x dx r lo hi t' Q} f rx eq k=>by
 unfold Fd at eq
 split at eq
 .next z=>
  clear 5(E4 eq)h e
  cases e
  cases rx
  exact .inr (.inl ⟨z,rfl,um6 h El,k _ H c f .refl (.str _)⟩)
 .next ds=>
  cases eq
  obtain⟨p,vs,rfl,h1,h2,h3⟩:=rx.rv
  by_cases hw:HT.sIx ds.length 0 lo=0/\HT.sIx ds.length ds.length hi=ds.length
  .rw[SF hw] at k;exact .inr (.inr ⟨p,vs,rfl,SqT.of h1,by rw[h3.length];exact hw,k _ H c f .refl (.tup h1 h2 h3)⟩)
  .exact .inl (.inr ⟨p,vs,rfl,SqT.of h1,by rw[h3.length];exact hw,λq hq=>k _ _ c (f.laid hq) (f.stp_laid hq) (.tup Be (f.s.free hq) ((F4 h3 lo hi).mono (Ext.laid f.s hq)))⟩)
 .exact .inl (fj f rx eq k)
theorem KP{g:Int->Int->Bool}{h:List Nat->List Nat->Bool}:Br K (Jl g h) (O4 g h):=λ{Oo c t σ H x y dx dy r t' Q} f rx ry eq k=>by
 cases rx with
 |int i=>cases ry with
   |int j=>cases eq;exact .inl ⟨i,j,rfl,rfl,k _ H c f .refl (.bl _)⟩
   |_=>cases eq
 |str i=>cases ry with
   |str j=>cases eq;exact .inr ⟨i,j,rfl,rfl,k _ H c f .refl (.bl _)⟩
   |_=>cases eq
 |_=>cases eq
theorem R5:Br K (Jl (λi j=>decide (i<j)) λi j=>decide (i<j)) ltA:=KP
theorem NB:Br K (Jl (λi j=>decide (i<=j)) λi j=>!(decide (j<i))) leA:=KP
theorem R4:Br K (Jl (λi j=>decide (j<i)) λi j=>decide (j<i)) gtA:=KP
theorem aY:Br K (Jl (λi j=>decide (j<=i)) λi j=>!(decide (i<j))) geA:=KP
end
variable{fa:mm}{fd:mx}
theorem Ux{P:mq}{w:mw}{mg:Str->Option mj}{base:Heap}{x qual:Str}{st:Stmt}{N ps:List Str}{k m:Nat}{g:M Out}(e1:ps.length=n)(e2:N.length=m)(F:Fun K x qual st fa fd)(S:FnScope N ps (AN st))
 (hb:∀(cdv:mj) (A:Around) (outer:List Env) (s:mn) (H:Hp) (E:XK),Room k (A.deeper (PyProof.Rows.envOfC qual (AN st) s.heap.objs.size fa cdv))->
   PSs (FO CX0 P w K mg base N qual (AN st) fa cdv A outer s H E).nox (DG st) (RS K g)):FnOk P w K mg base CX0 (k+1) fa fd ps (spF K (fnOf n m g)):=by
 subst e1 e2;exact gC F S hb
theorem VF{P:mq}{w:mw}{mg:Str->Option mj}{base:Heap}{ps:List Str}{k:Nat}{f g:Fn}(e:f=g)(h:FnOk P w K mg base CX0 k fa fd ps (spF K g)):FnOk P w K mg base CX0 k fa fd ps (spF K f):=by rw[e];exact h
theorem ck:bootBuiltins "len" = some (.builtin "len"):=by decide +kernel
theorem Oh:bootBuiltins "isinstance" = some (.builtin "isinstance"):=by decide +kernel
theorem cy:bootBuiltins "ord" = some (.builtin "ord"):=by decide +kernel
theorem cq:bootBuiltins "min" = some (.builtin "min"):=by decide +kernel
theorem T7:bootBuiltins "sorted" = some (.builtin "sorted"):=by decide +kernel
theorem cA:bootBuiltins "sum" = some (.builtin "sum"):=by decide +kernel
theorem T6:bootBuiltins "int" = some (.type "int"):=by decide +kernel
theorem cz:bootBuiltins "str" = some (.type "str"):=by decide +kernel
theorem Zm:bootBuiltins "bool" = some (.type "bool"):=by decide +kernel
theorem QW:bootBuiltins "list" = some (.type "list"):=by decide +kernel
theorem Wv:bootBuiltins "tuple" = some (.type "tuple"):=by decide +kernel
noncomputable def Bm:Expr->Bool
 |.Starred _ _=>true
 |_=>false
theorem Bu{e:Expr}{env:Env}(h:Bm e=false):starEach (e::es) env=(false,eval e env)::starEach es env:=by
 cases e<;>first|rfl|cases h
def Bo(es:List Expr):Bool:=es.all λe=>!Bm e
theorem Bd:∀{es:List Expr}{env:Env}{p:Pos},Bo es=true->(backTo p (starEach es env)).any (·.1)=false/\(backTo p (starEach es env)).all (λx=>!x.1)=true
 |[],env,p,_=>⟨rfl,rfl⟩
 |e::es,env,p,h=>by
   have h':Bm e=false/\Bo es=true:=by
    rw[Bo,ul4,uh3] at h;exact⟨by simpa using h.1,h.2⟩
   clear 5(Bd (es:=es) (env:=env) (p:=p) h'.2)h1 h2;rw[Bu h'.1];refine⟨?_,?_⟩
   .show(false||(backTo p (starEach es env)).any (·.1))=false;rw[h1];rfl
   .show(!false&&(backTo p (starEach es env)).all (λx=>!x.1))=true;rw[h2];rfl
variable{f:M (List D)}{p:Pos}{id:String}{R:List V->Hp->VK->Prop}
section
variable{X:Cx}{e a b:Expr}{es:List Expr}{pos:Pos}
theorem C6{f:M D}{g:M (List D)}(ha:PE X e (RE X.K f))(hr:PA X es (RA X.K g))(hs:autoParam (Bm e=false) q3T):PA X (e::es) (RA X.K (Ab f g)):=Zx ha hr (Bu hs)
theorem WJ{k:Nat}{ps:List Str}{g:Fn}{x:Str}(F:FnOk X.prog X.w X.K X.mg X.base CX0 k fa fd ps (spF X.K g))(hr:Room k X.A)(hg:Gl X x)(hm:X.mg x=some (.ref fa))(hk:PySem.W.keepIn X.K (.ref fa)=true)(hb:Binds X.K fd ps [])
 (ha:PA X (e::es) (RA X.K f)) (hdb:autoParam ((x==("__debug__":Str))=false) q1T) (h1:autoParam (Bm e=false) q3T) (h2:autoParam (Bo es=true) q3T) :
 PE X (.Call (.Name x p) (e::es) [] pos) (RE X.K (Af g f)):=Zy F hr hg hm hk hb ha hdb (Bu h1) (Bd h2).1
theorem Kz{h:List D->M D}{x:Str}(hc:CQ X (.builtin id) R)(s:Gj X.K R h)(hg:Gl X x)(hm:X.mg x=none)(hv:bootBuiltins x=some (.builtin id))(ha:PA X (e::es) (RA X.K f))(hn:autoParam (x≠"__name__") q1T)(hdb:autoParam ((x==("__debug__":Str))=false) q1T)
 (h1:autoParam (Bm e=false) q3T) (h2:autoParam (Bo es=true) q3T):PE X (.Call (.Name x p) (e::es) [] pos) (RE X.K (fB f h)):=ji hc s hg hm hv ha hn hdb (Bu h1) (Bd h2).1
theorem gk{h:List D->M D}{x:Str}(hc:CQ X (.type id) R)(s:Gj X.K R h)(hg:Gl X x)(hm:X.mg x=none)(hv:bootBuiltins x=some (.type id))(ha:PA X (e::es) (RA X.K f))(hn:autoParam (x≠"__name__") q1T)(hdb:autoParam ((x==("__debug__":Str))=false) q1T)
 (h1:autoParam (Bm e=false) q3T) (h2:autoParam (Bo es=true) q3T):PE X (.Call (.Name x p) (e::es) [] pos) (RE X.K (fB f h)):=jj hc s hg hm hv ha hn hdb (Bu h1) (Bd h2).1
theorem gy{h:List D->M (List D)}{x:Str}(hc:CQ X (.type id) R)(s:Kr X.K R h)(hg:Gl X x)(hm:X.mg x=none)(hv:bootBuiltins x=some (.type id))(ha:PA X (e::es) (RA X.K f))(hn:autoParam (x≠"__name__") q1T)(hdb:autoParam ((x==("__debug__":Str))=false) q1T)
 (h1:autoParam (Bm e=false) q3T) (h2:autoParam (Bo es=true) q3T):PE X (.Call (.Name x p) (e::es) [] pos) (RF X.K (fBF f h)):=jk hc s hg hm hv ha hn hdb (Bu h1) (Bd h2).1
theorem SL{tg:Expr}(hg:Gl X "range")(hm:X.mg "range" = none)(ha:PA X [a] (RA X.K f))(h1:autoParam (Bm a=false) q3T):PI X tg (.Call (.Name "range" p) [a] [] pos) (RI X.K (BQ f)):=Uv hg hm ha (Bu h1)
theorem SM{tg:Expr}(hg:Gl X "range")(hm:X.mg "range" = none)(ha:PA X [a,b] (RA X.K f))(h1:autoParam (Bm a=false) q3T)(h2:autoParam (Bm b=false) q3T):PI X tg (.Call (.Name "range" p) [a,b] [] pos) (RI X.K (IV f)):=
 Uw hg hm ha (by rw[Bu h1,Bu h2];rfl) (Bu h2)
theorem Ur{cpos:Pos}(h1:Bm e=false)(h2:Bo es=true)(h3:es.length<20):((backTo cpos (starEach (e::es) X.env)).all (λx=>!x.1)&&(backToKw cpos (keywordEach [] X.env)).all (λx=>x.1.isSome)&&decide ((e::es).length+([]:List Keyword).length+(if ([]:List Keyword).isEmpty then 0 else 1)<30))=true:=by
 rw[(Bd (es:=e::es) (env:=X.env) (p:=cpos) (by rw[Bo,ul4,h1];exact h2)).2];show(true&&true&&decide (es.length+1+0+0<30))=true;simp;lia
theorem SQ(i:Nat){x:Str}{g:M (List D)}{px apos cpos:Pos}(ha:PA X (e::es) (RA X.K g))(hN:autoParam (X.N[i]?=some x) q3T)(hv:autoParam (Vis X.env.scope x) q0T)(hd:autoParam ((x==("__debug__":Str))=false) q1T)
 (hcd:autoParam ((x==("__classdict__":Str))=false) q1T) (hline:autoParam ((apos.endLine==cpos.line)=true) q3T) (h1:autoParam (Bm e=false) q3T) (h2:autoParam (Bo es=true) q3T) (h3:autoParam (es.length<20) q1T) :
 PS X (.Expr (.Call (.Attribute (.Name x px) "append" apos) (e::es) [] cpos) pos) (RSg X.K μ (ownM i Dg g)):=Uy i ha hN hv hd hcd rfl (Ur h1 h2 h3) hline (Bu h1) (Bd h2).1
theorem SR(i:Nat){x:Str}{g:M (List D)}{px apos cpos:Pos}(ha:PA X (e::es) (RA X.K g))(hN:autoParam (X.N[i]?=some x) q3T)(hv:autoParam (Vis X.env.scope x) q0T)(hd:autoParam ((x==("__debug__":Str))=false) q1T)
 (hcd:autoParam ((x==("__classdict__":Str))=false) q1T) (hline:autoParam ((apos.endLine==cpos.line)=true) q3T) (h1:autoParam (Bm e=false) q3T) (h2:autoParam (Bo es=true) q3T) (h3:autoParam (es.length<20) q1T) :
 PS X (.Expr (.Call (.Attribute (.Name x px) "extend" apos) (e::es) [] cpos) pos) (RSg X.K μ (ownM i E1 g)):=Uz i ha hN hv hd hcd rfl (Ur h1 h2 h3) hline (Bu h1) (Bd h2).1
end
end
end L2
namespace HT
open PySem PySem.Spec L2 PyProof.Rows
section
variable{prog:mq}{w:mw}{A:Around}{E:mj->mn->Prop}{s:mn}
end
end HT
namespace L2
open PySem PySem.Spec PyProof.Rows
section
variable{X:Cx}{e ek:Expr}{p2 pos:Pos}{te:TE}{tk:TO}
end
section
variable{X:Cx}
end
section
variable{X:Cx}
end
section
variable{X:Cx}
end
section
variable{X:Cx}{K:mh}
noncomputable def Gc:List D->Option (List Int)
 |[]=>some []
 |.int i::r=>(Gc r).map (i :: ·)
 |_=>none
theorem Ps{c:Cf}{H:Hp}:∀{ds:List D}{vs:List V}{ns:List Int},Reps K c H vs ds->Gc ds=some ns->vs=ns.map V.int
 |[],_,ns,r,e=>by
   cases r
   cases e
   rfl
 |d::ds,_,ns,r,e=>by
   cases r with
   |cons r1 r2=>
     cases r1 with
     |int i=>
       clear 5(ub9.mp e)zs e1 rfl;rw[Ps r2 e1];rfl
     |_=>cases e
end
def Vz:R2:=λx y H Q=>∃a kvs k v,x=.ref a/\y=.str k/\H a=some (.dK kvs)/\D9 kvs (Sum.inr k:Key)=some v/\Q v H
def eN:V->V->V->Hp->(Hp->Prop)->Prop:=λo i v H Q=>∃a kvs k,o=.ref a/\i=.str k/\H a=some (.dK kvs)/\kvs.length<sizeLine/\Q (upd H a (.dK (D3 kvs (Sum.inr k:Key) v)))
section
variable{X:Cx}
theorem dh:IxR X Vz:=by
 intro value slice mi s σ H x y v u Q I rx ry h hs;clear 5 h a kvs k z rfl rfl e l q
 cases rx
 obtain⟨_,_,vs,rel,dd⟩:=IT I.hok e;have g:DGet H a (kV (Sum.inr k:Key)) (some z):=by rw[<-l];exact DGet.k e
 have hT:=dd.typeIs;unfold subscriptTail;refine uo0 ?_;rw[getitemInPython_of_ne hT.not_modules];refine uo0 (PySem.wpAny_specialOf hT PySem.F.slot_dict_getitem.lookup ?_);have get:wpAny (model X.prog X.w) X.A (getItem (.ref a) u) (EP X mi σ Q) X.xe s:=by
  clear 5(RelO.some_of (v:=z) (o:=valueAt vs (Sum.inr k:Key)) (by rw[<-l];exact rel.val _))w' hw rw';exact wpAny_getItem_of (HK (k:=(Sum.inr k:Key)) ry) dd.mapOf hw ⟨z,H,I.tok _,rw',q⟩
 have fin:wpAny (model X.prog X.w) X.A (subscripted slice false (.ref a) u) (λr s₃=>wpAny (model X.prog X.w) X.A (letTemporaryGo value (.ref a) r >>= λ_=>pure r) (EP X mi σ Q) X.xe s₃) X.xe s:=by
  rw[hs];exact wpAny_operating (uo2 get (λr s₃ h₃=>uo0 (wpAny_letTemporaryGo (uo1 h₃))) λ_ _ x=>x)
 first
  |exact uo1 (uo0 fin)
  |exact uo0 (uo1 (uo0 fin))
  |exact uo0 fin
theorem bu:Wj X eN:=by
 intro mi s σ H o i v ov iv u Q I ro ri rv h;clear 5 h a kvs k rfl rfl e l q
 cases ro
 clear 5(IT I.hok e)z hd vs rel dd;have hz:vs.length<=sizeLine:=by rw[<-rel.length];exact z
 have hl:(D3 kvs (Sum.inr k:Key) v).length<=sizeLine:=by have:=H9 kvs (Sum.inr k:Key) v;lia
 refine wpAny_setItem_pairs (hsz:=hz) (HK (k:=(Sum.inr k:Key)) ri) dd λh' dd' hs=>⟨_,?_,q⟩;have he:∃q,h'.get? a=some q:=let ⟨q,_,_,hq,_⟩:=dd';⟨q,hq⟩;exact Nc I (by rw[e];exact True.intro) hs he (L9 hl hd (rel.put _ rv) dd')
end
noncomputable def AR(kvs:List (Key×D))(k:Key):Option D:=(kvs.find? λkv=>decide (kv.1=k)).map (·.2)
noncomputable def BJ(kvs:List (Key×D))(k:Key)(d:D):List (Key×D):=
 if (kvs.any λkv=>decide (kv.1=k))=true then kvs.map (λkv=>if kv.1=k then(kv.1,d) else kv) else kvs++[(k,d)]
def B0:D->D->M D
 |.obj n,.str x=>λt=>match t.S[n]? with
   |some (.dct kvs)=>(AR kvs (.inr x)).map λd=>(d,t)
   |_=>none
 |_,_=>fail
def IE:D->D->D->M Unit
 |.obj n,.str x,d=>λt=>match t.S[n]? with
   |some (.dct kvs)=>if kvs.length<LIM then some ((),{t with S:=t.S.set n (.dct (BJ kvs (.inr x) d))}) else none
   |_=>none
 |_,_,_=>fail
def GM(f g:M D)(d:D):M Unit:=bnd f λo=>bnd g λi=>IE o i d
def EU:List (Str×M D)->M (List (Key×D))
 |[]=>ret []
 |(k,f)::r=>bnd f λd=>bnd (EU r) λps=>ret ((.inr k,d)::ps)
def kvMerge(ps:List (Key×D)):List (Key×D):=ps.foldl (λacc kv=>BJ acc kv.1 kv.2) []
def Fi(n:Nat)(ps:List (Key×D)):M D:=λt=>match t.S[n]? with
 |some (.dct [])=>if ps.length<=15 then some (.obj n,{t with S:=t.S.set n (.dct (kvMerge ps))}) else none
 |_=>none
def GG(l:List (Str×M D)):M D:=λt=>bnd (EU l) (Fi t.S.length) {t with S:=t.S++[.dct []]}
def G9(i:Nat)(g:M D):M D:=λt=>match t.env[i]? with
 | some (some (.own _))=>bnd g (λj t1=>match j,t1.env[i]? with
   |.int j,some (some (.own xs))=>(atI xs j).map λd=>(d,t1)
   |_,_=>none) t
 |_=>none
section
variable{K:mh}{c:Cf}{H:Hp}
theorem KVR.get{us:List (Key×V)}{kvs:List (Key×D)}(r:KVR K c H us kvs)(k:Key){d:D}(e:AR kvs k=some d):∃v,D9 us k=some v/\Rep K c H v d:=by
 unfold KVR at r
 induction r with
 |nil=>simp[AR] at e
 |@cons p q ps qs h t ih=>
   by_cases hk:p.1=k
   .have hq:q.1=k:=h.1.symm.trans hk;have:AR (q::qs) k=some q.2:=by simp[AR,uj4,hq]
    rw[this] at e;cases e
    exact⟨p.2,Jt hk,h.2⟩
   .have hq:¬q.1=k:=λz=>hk (h.1.trans z);have:AR (q::qs) k=AR qs k:=by simp[AR,uj4,hq]
    rw[this] at e;rw[Js hk];exact ih e
theorem KVR.any{us:List (Key×V)}{kvs:List (Key×D)}(r:KVR K c H us kvs)(k:Key):(us.any λkv=>decide (kv.1=k))=(kvs.any λkv=>decide (kv.1=k)):=by
 unfold KVR at r
 induction r with
 |nil=>rfl
 |@cons p q ps qs h t ih=>rw[ul5,ul5,ih,h.1]
theorem KVR.put{us:List (Key×V)}{kvs:List (Key×D)}(r:KVR K c H us kvs)(k:Key){v:V}{d:D}(rv:Rep K c H v d):KVR K c H (D3 us k v) (BJ kvs k d):=by
 unfold D3 BJ;rw[r.any k]
 by_cases q:(kvs.any λkv=>decide (kv.1=k))=true
 .rw[pW q,pW q];clear q;unfold KVR at r⊢
  induction r with
  |nil=>exact .nil
  |@cons p q ps qs h t ih=>
    rw[ul2,ul2];refine .cons ?_ ih
    by_cases e:p.1=k
    .rw[pW e,pW (h.1.symm.trans e)];exact⟨h.1,rv⟩
    .rw[pX e,pX (λz=>e (h.1.trans z))];exact h
 .rw[pX q,pX q];exact Paired.snoc r ⟨rfl,rv⟩
theorem KVR.length{us:List (Key×V)}{kvs:List (Key×D)}(r:KVR K c H us kvs):us.length=kvs.length:=Paired.length r
theorem KVR.mono{c':Cf}{H':Hp}{us:List (Key×V)}{kvs:List (Key×D)}(e:Ext c H c' H')(r:KVR K c H us kvs):KVR K c' H' us kvs:=Paired.mapP r λ_ _ z=>⟨z.1,z.2.mono e⟩
theorem KVR.merge:∀{ps:List (Key×D)}{us:List (Key×V)}{acc:List (Key×D)}{ua:List (Key×V)},KVR K c H us ps->KVR K c H ua acc->KVR K c H (Ge ua us) (ps.foldl (λacc kv=>BJ acc kv.1 kv.2) acc):=by
 intro ps us acc ua r;unfold KVR at r
 induction r generalizing acc ua with
 |nil=>intro q;exact q
 |@cons p q ps qs h t ih=>
   intro r0;refine ih ?_;show KVR K c H (D3 ua p.1 p.2) (BJ acc q.1 q.2);have:=KVR.put r0 p.1 h.2;rw[<-h.1];exact this
set_option tactic.hygienic true in
theorem VI:Br K Vz B0:=λ{Oo c t σ H x y dx dy r t' Q} f rx ry eq k=>by
 unfold B0 at eq
 split at eq
 .next n z=>
  cases ry
  obtain⟨a,rfl,hk⟩:=rx.rv
  split at eq
  .next kvs es=>
   clear 5(ub9.mp eq)d e1 e2
   cases e2
   clear 5(f.s.obs _ a _ hk es)us g1 g2;clear 5(g2.get _ e1)v e3 e4;exact⟨a,us,z,v,rfl,rfl,g1,e3,k _ H c f .refl e4⟩
  .cases eq
 .cases eq
end
section
variable{X:Cx}{pos:Pos}{e:Expr}
set_option tactic.hygienic true in
theorem Ut{o i:Expr}{f g:M D}(ho:PE X o (RE X.K f))(hi:PE X i (RE X.K g))
 (ha:∀v,assign (.Subscript o i pos) X.env v=(do
   let ov <-holding [v] (eval o X.env)
   let iv <-holding [v,ov] (eval i X.env)
   standAt pos
   holding [v,ov,iv] (setItem ov iv v)
   release [v,ov,iv] []):=by intro _;rfl):PG X (.Subscript o i pos) (RG X.K (GM f g)):=
 LK (Vp ho hi bu ha) λv σ H Q z9=>by
  clear 5 z9 Oo c t d fi rv t' eq k;clear 5(Ag eq)d0 t1 e1 eq;clear 5(Ag eq)di t2 e2 eq;refine⟨Oo,c,t,fi,_,t1,e1,λx H1 c1 f1 s1 rx=>⟨Oo,c1,t1,f1,di,t2,e2,λy H2 c2 f2 s2 ry=>?_⟩⟩;unfold IE at eq
  split at eq
  .next n z dd=>
   cases ry
   obtain⟨a,rfl,hk⟩:=rx.rv
   split at eq
   .next kvs es=>
    split at eq
    .next hl=>
     cases eq
     have hk2:=s2.ext.io _ _ hk;clear 5(f2.s.obs _ a _ hk2 es)us g1 g2;refine⟨a,us,z,rfl,rfl,g1,by rw[g2.length];exact pH hl TW,?_⟩;have rv2:=rv.mono (s1.trans s2).ext;obtain⟨f3,s3⟩:=f2.wrObj (o:=.dct (BJ kvs (.inr z) d)) (u:=.dK (D3 us (.inr z) v)) hk2 λc' H' ext hu=>⟨_,hu,(g2.put _ rv2).mono ext⟩;exact k σ _ c2 f3 ((s1.trans s2).trans s3)
    .cases eq
   .cases eq
  .cases eq
def RP(K:mh)(f:M (List (Key×D)))(σ:St)(H:Hp)(Q:List (V×V)->Hp->Prop):Prop:=
 ∃Oo c t,FInv K Oo c t σ H/\∃ps t',f t=some (ps,t')/\∀us H' c',FInv K Oo c' t' σ H'->Stp Oo c H c' H'->KVR K c' H' us ps->Q (us.map λkv=>(kV kv.1,kv.2)) H'
def PPf(X:Cx)(pos:Pos)(keys:List (Option Expr))(values:List Expr)(f:M (List (Key×D))):Prop:=
 ∃trs,PPs X pos keys values trs/\∀σ H Q,RP X.K f σ H Q->MG trs σ H Q
theorem ZJ:PPf X pos [] [] (EU []):=⟨[],RM,λσ H Q z9=>by
 clear 5 z9 Oo c t fi ps t' eq k
 cases eq
 exact k [] H c fi .refl .nil⟩
theorem WV{k:Str}{j:Nat}{kp:Pos}{v:Expr}{ks:List (Option Expr)}{vs:List Expr}{f:M D}{r:List (Str×M D)}(hv:PE X v (RE X.K f))(hr:PPf X pos ks vs (EU r)) :
 PPf X pos (some (.Constant (.str k) j kp)::ks) (v::vs) (EU ((k,f)::r)):=by
 clear 5 hr trs h1 h2;refine⟨_,Qc Vo hv h1,λσ H Q z9=>?_⟩;clear 5 z9 Oo c t fi ps t' eq kk;clear 5(Ag eq)d t1 e1 eq;clear 5(Ag eq)qs t2 e2 eq
 cases eq
 refine⟨Oo,c,t,fi,d,t1,e1,λy H1 c1 f1 s1 ry=>?_⟩;refine h2 σ H1 _ ⟨Oo,c1,t1,f1,qs,_,e2,λus H2 c2 f2 s2 ru=>?_⟩;exact kk ((.inr k,y)::us) H2 c2 f2 (s1.trans s2) (.cons ⟨rfl,ry.mono s2.ext⟩ ru)
set_option tactic.hygienic true
theorem Zz{keys:List (Option Expr)}{values:List Expr}{l:List (Str×M D)}(h:PPf X pos keys values (EU l))(hall:autoParam (keys.all (·.isSome)=true) q3T)(hl:autoParam (keys.length=values.length) q3T)(h0:autoParam (keys≠[]) q5T)
 (h15:autoParam (keys.length<=15) q6T):PE X (.Dict keys values pos) (RE X.K (GG l)):=by
 clear 5 h trs h1 h2;refine AO (RL h1 hall hl h0 h15) λσ H Q z9=>?_;clear 5 z9 Oo c t fi r t' eq k;intro p hp;obtain⟨c1,f1,s1,e1⟩:=fi.newObj (o:=.dct []) (u:=.dK []) hp λc' H' ex hu=>⟨[],hu,.nil⟩;clear 5(Ag eq)ps t2 e2 eq;refine h2 σ _ _ ⟨Oo,c1,_,f1,ps,t2,e2,λus H2 c2 f2 s2 ru=>?_⟩;unfold Fi at eq
 split at eq
 .next es=>
  split at eq
  .next hl15=>
   cases eq
   have hk2:=s2.ext.io _ _ e1;clear 5(f2.s.obs _ p _ hk2 es)u0 g1 g2
   cases g2
   refine⟨g1,us,rfl,by rw[ru.length];exact hl15,?_⟩;obtain⟨f3,s3⟩:=f2.wrObj (o:=.dct (kvMerge ps)) (u:=.dK (Ge [] us)) hk2 λc' H' ext hu=>⟨_,hu,(KVR.merge ru .nil).mono ext⟩;exact k _ _ c2 f3 (s1.trans (s2.trans s3)) (.obj hk2)
  .cases eq
 .cases eq
theorem WP(i:Nat){x:Str}{ix:Expr}{g:M D}{px:Pos}(hi:PE X ix (RE X.K g))(hs:MR ix)(hN:autoParam (X.N[i]?=some x) q3T)(hv:autoParam (Vis X.env.scope x) q0T)(hd:autoParam ((x==("__debug__":Str))=false) q1T)
 (hcd:autoParam ((x==("__classdict__":Str))=false) q1T):PE X (.Subscript (.Name x px) ix pos) (RE X.K (G9 i g)):=
 AO (YJ ix_list (Kb hN hv hd hcd) hi hs) λσ H Q z9=>by
  clear 5 z9 Oo c t fi r t' eq k;unfold G9 at eq
  split at eq
  .next xs0 e0=>
   clear 5(Ag eq)j t1 e1 eq;clear 5(fi.own i xs0 e0)a vs0 h1 h2 h3 h4 h5;refine⟨.ref a,h1,Oo,c,t,fi,j,t1,e1,λy H1 c1 f1 s1 ry=>?_⟩
   split at eq
   .next j' xs ex=>
    clear 5(ub9.mp eq)d en ez
    cases ez
    cases ry
    clear 5(f1.own i xs ex)a' vs g1 g2 g3 g4 g5;rw[h1] at g1;injection g1 with g1;injection g1 with g1;injection g1 with g1;subst g1
    clear 5(IM g5 en)v e3 e4;exact⟨a,vs,j',v,rfl,rfl,SqL.of g4,e3,k _ H1 c1 f1 s1 e4⟩
   .cases eq
  .cases eq
end
section
variable{X:Cx}
end
section
variable{X:Cx}{pos:Pos}{e:Expr}{es:List Expr}
end
section
variable{prog:mq}{w:mw}{A:Around}{I:mm}{fp wr:List mm}{G:Array GenState->Array GenState->Prop}{n:Nat}{P:Nat->mj->Prop}{St:Nat->mn->Prop}
end
section
variable{X:Cx}
end
section
variable{X:Cx}{pos:Pos}{e:Expr}
end
noncomputable def Ee(f:M Bool)(b:M Out):Nat->M Out
 |0=>λ_=>none
 |n+1=>λt=>match f t with
   |none=>none
   |some (false,t1)=>some (.next,t1)
   |some (true,t1)=>match b t1 with
     |some (.next,t2)=>Ee f b n t2
     |some (.cont,t2)=>Ee f b n t2
     |some (.brk,t2)=>some (.next,t2)
     |some (.ret x,t2)=>some (.ret x,t2)
     |none=>none
def IL:Nat:=1000000
def IF(f:M Bool)(b:M Out):M Out:=Ee f b IL
theorem RS.while{μ:Cf->Hp->D->(V->Hp->Prop)->Prop}{K:mh}{f:M Bool}{b:M Out}{E:Ends}{σ:L2.St}{H:Hp}(q:RSg K μ (IF f b) E σ H):VX (RT K f) (RSg K μ b) E σ H:=by
 clear 5 q Oo c t fi o t' eq k;refine⟨λm σ' H'=>∃c' t2,FInv K Oo c' t2 σ' H'/\Stp Oo c H c' H'/\Ee f b m t2=some (o,t'),⟨IL,c,t,fi,.refl,eq⟩,?_⟩;rintro m σ' H' ⟨c',t2,f2,s2,e2⟩
 cases m with
 |zero=>cases e2
 |succ m=>
 rw[Ee] at e2;dsimp only at e2
 cases ef:f t2 with
 |none=>rw[ef] at e2;cases e2
 |some p=>
 clear 5 p r t3;rw[ef] at e2;refine⟨Oo,c',t2,f2,r,t3,ef,λH3 c3 f3 s3=>?_⟩
 cases r with
 |false=>
   cases e2
   exact k σ' H3 c3 f3 (s2.trans s3)
 |true=>
   rw[pW rfl];dsimp only at e2;refine⟨λσ4 H4=>∃c4 t4,FInv K Oo c4 t4 σ4 H4/\Stp Oo c H c4 H4/\Ee f b m t4=some (o,t'),λσ4 H4 h=>⟨m,uh0 m,h⟩,?_⟩
   cases eb:b t3 with
   |none=>rw[eb] at e2;cases e2
   |some p=>
   clear 5 p ob t4;rw[eb] at e2;refine⟨Oo,c3,t3,f3,ob,t4,eb,λσ4 H4 c4 f4 s4=>?_⟩
   cases ob with
   |next=>exact⟨c4,t4,f4,(s2.trans s3).trans s4,e2⟩
   |cont=>exact⟨c4,t4,f4,(s2.trans s3).trans s4,e2⟩
   |brk=>
     cases e2
     exact k σ4 H4 c4 f4 ((s2.trans s3).trans s4)
   |ret x=>
     cases e2
     exact k σ4 H4 c4 f4 ((s2.trans s3).trans s4)
section
variable{X:Cx}{pos:Pos}
theorem WX{μ:Cf->Hp->D->(V->Hp->Prop)->Prop}{e:Expr}{body:List Stmt}{f:M Bool}{b:M Out}(hp:PassesOwn (model X.prog X.w) X.A X.env X.xe)(hc:PT X e (RT X.K f))(hb:PSs X body (RSg X.K μ b)):PS X (.While e body [] pos) (RSg X.K μ (IF f b)):=
 Bz (XD hp hc hb) λ_ _ _ q=>RS.while q
end
theorem K7(ns:List Int):∀n:Nat,n<=ns.length->preSum (λi=>ns.getD i 0) n=(ns.take n).sum
 |0,_=>by simp[preSum]
 |n+1,h=>by
   rw[preSum,K7 ns n ∅,pv,ub1 ∅,List.sum_append];simp[ua5,ub1 (show n<ns.length by lia)]
theorem Ue{X:Cx}(hc:X.calm=true):CQ X (.builtin "sum") (λxs H Q=>∃(p:mm) (ns:List Int),xs=[.ref p]/\SqL X.K H p (ns.map V.int)/\Q (.int ns.sum) H):=by
 intro mi s σ H xs us Q I r h;clear 5 h p ns rfl hq q;clear 5(GN r)u rfl rx
 cases rx
 clear 5(I.list hq)its rv pl hz;have hl:=rv.length;rw[ui7] at hl;have hlist:=pl.isList;have lp:p<s.heap.objs.size:=by obtain⟨o,ho,_⟩:=hlist;exact um4 ho
 refine call_sum_walkAnyS (PySem.wpAny_pyIter_list hlist ?_);refine⟨s.heap.objs.size,_,_,_,_,_,_,λi=>ns.getD i 0,rfl,(Walks.list (by simp[I.ok.hd hc]) s.heap.objs.size p (um5 lp) its.toArray).toS,⟨⟨_,ud8 _ rfl,rfl,rfl⟩,hlist.push _⟩,?_,?_,?_⟩
 .intro b hb;simp only[ul1,uh9,pS] at hb;show b<(s.heap.push _).objs.size;rw[PySem.Heap.size_push];rcases hb with rfl|rfl
  .exact uh0 _
  .exact Nat.lt_succ_of_lt lp
 .intro i v e;have e':its[i]?=some v:=by simpa using e
  obtain⟨hi,_⟩:=ua7.mp e';have hy:(ns.map V.int)[i]?=some (.int (ns.getD i 0)):=by
   rw[uf7,ua5,ub1 ∅];rfl
  clear 5(rv.get hy)w' ew rw';rw[e'] at ew;cases ew
  exact rw'
 .intro s' t' mv;clear 5 s' h' g' d' tk' os';obtain rfl:g'=s.gens:=mv.gens;obtain rfl:d'=s.drawn:=mv.drawn;obtain rfl:os'=s.os:=mv.os;have e:preSum (λi=>ns.getD i 0) its.toArray.size=ns.sum:=by
   rw[K7 ns _ (by simp;lia),uc0 (by simp;lia)]
  refine⟨.int ns.sum,H,I.kept (t':=tk') λb o e=>?_,⟨t',by rw[e]⟩,q⟩;have lb:=um4 e;exact mv.heap b o (by simp only[ul1,uh9,pS];exact um5 lb) (ub7 _ e)
def Ki:List D->M D
 |[.lst ds]=>λt=>match Gc ds with
   |some ns=>some (.int ns.sum,t)
   |none=>none
 |_=>fail
set_option tactic.hygienic true in
theorem XY{K:mh}:Gj K (λxs H Q=>∃(p:mm) (ns:List Int),xs=[.ref p]/\SqL K H p (ns.map V.int)/\Q (.int ns.sum) H) Ki:=λ{Oo c t σ H xs ds r t' Q} f rx eq k=>by
 unfold Ki at eq
 split at eq
 .next es=>
  split at eq
  .next ns e=>
   cases eq
   clear 5(FH rx)v rfl rv
   obtain⟨a,ws,rfl,g1,g2,g3⟩:=rv.rv
   have:=Ps g3 e;subst this;exact⟨a,ns,rfl,SqL.of g1,k _ H c f .refl (.int _)⟩
  .cases eq
 .cases eq
noncomputable def rngS(a b c:Int):Nat:=(Builtin.Range.rangeSize a b c).toNat
noncomputable def Wi(lo c:Int)(n:Nat):It:=⟨λi _=>i<n,λi H x H'=>H'=H/\x=.int (lo+i*c),λi _=>n<=i⟩
theorem V3{P:mq}{w:mw}{K:mh}{tg:Expr}(it:mm)(lo c:Int)(n:Nat):Turn P w K tg (Wi lo c n) [it] it (λi h=>IsRangeIter h it (lo+(i:Nat)*c) ((n:Int)-(i:Nat)) c) where
 mem:=by simp
 obj:=λi h st b hb=>by
  obtain rfl:b=it:=by simpa using hb
  exact⟨_,st,λv z=>by have z':Data.fields _=Data.cell v:=z;cases z'⟩
 keep:=λi h h' st k=>k it (by simp) _ st
 item:=by
  intro X hP hw hK hc i mi s σ H E I hf st hg;subst hP hw hK;clear 5(hf it (by simp))f0 f1 f2 f3 f4 f5;have Wk:=Walks.range (prog:=X.prog) (w:=X.w) (I.ok.hd hc) it lo c n;refine Wk.item i s _ _ hg st λv h' tk hv st' kk=>?_;clear 5 hv t rfl;have I1:Inv X mi σ H {s with heap:=h',toks:=tk}:=I.turned (λb o hb e=>kk b o (by simpa using hb) e) f0 f1 f3 f4 f5;exact⟨_,rfl,Mn (s:={s with heap:=h',toks:=tk}) (n:="range_iterator") st' rfl rfl (by decide) ⟨.int (lo+i*c),H,I1,⟨t,rfl⟩,⟨rfl,rfl⟩,st',λb hb=>(hf b hb).1⟩⟩
 done:=by
  intro X hP hw hK hc i mi s σ H E I hf st hg;subst hP hw hK;clear 5(hf it (by simp))f0 f1 f2 f3 f4 f5;exact wpAny_pyNext_range_end (I.ok.hd hc) st (by have:n<=i:=hg;lia) λh' eb=>⟨rfl,I.turned (t':=s.toks) (λb o hb e=>eb b o hb e) f0 f1 f3 f4 f5⟩
 self:=λ_ _ _ _ _ st h=>wpAny_pyIter_rangeiter st h
section
variable{X:Cx}{tg:Expr}
def gJ(ta:TA):TI:=λσ H R=>ta σ H λvs H1=>∃a b c:Int,vs=[.int a,.int b,.int c]/\c≠0/\c.natAbs<1073741824/\Builtin.Range.small a b c=true/\0<=Builtin.Range.rangeSize a b c/\R (Wi a c (rngS a b c)) H1
theorem Vs{e:Expr}{es:List Expr}{ta:TA}{p pos:Pos}(hg:Gl X "range")(hm:X.mg "range" = none)(ha:PA X (e::es) ta)(he:starEach (e::es) X.env=(false,eval e X.env)::starEach es X.env)(hpl:(backTo pos (starEach es X.env)).any (·.1)=false) :
 PI X tg (.Call (.Name "range" p) (e::es) [] pos) (gJ ta):=by
 intro mi s σ H R I h;refine Call_ (Ix I hg hm boot_range (PyProof.Rows.callWith_type1 (thn (ha pos mi s σ H _ I h) λus s1 z9=>?_) he hpl));clear 5 z9 vs H1 I1 r1 q1;clear 5 q1 a b c ev h0 h1 hs hz q;subst ev
 cases r1 with
 |cons r1 rr=>
 cases rr with
 |cons r2 rr=>
 cases rr with
 |cons r3 rr=>
 cases rr
 clear 5 r1 t rfl;clear 5 r2 u rfl;clear 5 r3 v rfl;refine call_range_3 h0 ?_ (.inl (PyProof.noPylong_small h1));generalize hN:({cls:=.type "range",data:=.fields #[.int a t,.int b u,.int c v]}:Obj)=N;have hfr:N.isFreed=false:=by rw[<-hN];rfl
 refine wpAny_pyIter_range (a:=a) (b:=b) (c:=c) (t:=t) (u:=u) (v:=v) (by subst hN;exact ud8 _ rfl) hs ?_;have I2:Inv X mi σ H1 {s1 with heap:=s1.heap.push N,toks:=s1.toks}:=I1.kept λb o e=>ub7 _ e;refine⟨(s1.heap.push N).objs.size,[(s1.heap.push N).objs.size],_,_,H1,rfl,I2.kept (t':=s1.toks) λb o e=>ub7 _ e,V3 _ a c (rngS a b c),?_,λb' hb=>?_,q⟩
 .have e1:a+((0:Nat):Int)*c=a:=by simp
  have e2:((rngS a b c:Nat):Int)-((0:Nat):Int)=Builtin.Range.rangeSize a b c:=by unfold rngS;lia
  show IsRangeIter _ _ (a+((0:Nat):Int)*c) (((rngS a b c:Nat):Int)-((0:Nat):Int)) c;rw[e1,e2];exact ud8 _ rfl
 .obtain rfl:b'=(s1.heap.push N).objs.size:=by simpa using hb
  exact I2.fpOk (un6 _) (I2.hok.fresh (un6 _))
end
def Qm:List D->M (List D)
 |[.int a,.int b,.int c]=>λt=>if (c≠0/\c.natAbs<1073741824)/\Builtin.Range.small a b c=true/\0<=Builtin.Range.rangeSize a b c then some ((List.range (rngS a b c)).map (λi:Nat=>D.int (a+i*c)),t) else none
 |_=>fail
def Mb(f:M (List D)):M (List D):=bnd f Qm
section
variable{K:mh}
theorem ItOk.rngC{c:Cf}{H:Hp}(lo st:Int)(n:Nat):ItOk K (Wi lo st n) c H ((List.range n).map (λi:Nat=>D.int (lo+i*st))):=by
 refine⟨λc' H' i ex hi=>?_,λc' H' i x H'' d ex hd hy=>?_,λc' H' ex=>?_⟩
 .show i<n;simpa using hi
 .clear 5 hy rfl rfl;rw[uf7] at hd;clear 5(ub9.mp hd)k hk rfl;clear 5(ua7.mp hk)hlt ek;rw[List.getElem_range] at ek;subst ek;exact⟨rfl,.int _⟩
 .show n<=_;simp
variable{f:M (List D)}
section
variable{X:Cx}{pos:Pos}{e:Expr}{es:List Expr}
set_option tactic.hygienic true in
theorem SN{tg:Expr}{p:Pos}(hg:Gl X "range")(hm:X.mg "range" = none)(ha:PA X (e::es) (RA X.K f))(h1:autoParam (Bm e=false) q3T)(h2:autoParam (Bo es=true) q3T):PI X tg (.Call (.Name "range" p) (e::es) [] pos) (RI X.K (Mb f)):=
 LL (Vs hg hm ha (Bu h1) (Bd h2).1) λσ H R z9=>by
  clear 5 z9 Oo c t fi ds t' eq k;clear 5(Ag eq)xs t1 e1 eq;refine⟨Oo,c,t,fi,xs,t1,e1,λvs H1 c1 f1 s1 rv=>?_⟩;unfold Qm at eq
  split at eq
  .next a b cc=>
   split at eq
   .next hs=>
    cases eq
    cases rv with
    |cons r1 rv=>
    cases rv with
    |cons r2 rv=>
    cases rv with
    |cons r3 rv=>
    cases rv
    cases r1
    cases r2
    cases r3
    exact⟨a,b,cc,rfl,hs.1.1,hs.1.2,hs.2.1,hs.2.2,k _ H1 c1 f1 s1 (ItOk.rngC a cc _)⟩
   .cases eq
  .cases eq
end
noncomputable def F0(H:Hp)(a:mm):Hp:=λb=>if b=a then none else H b
theorem Xs{H:Hp}{a:mm}{o:HO}(h:H a=some o):upd (F0 H a) a o=H:=by
 funext b
 by_cases e:b=a
 .subst e;rw[Be];exact h.symm
 .rw[Ay e];unfold F0;rw[pX e]
section
variable{K:mh}{Oo:mm->Prop}{c:Cf}{t:T}{σ:L2.St}{H:Hp}
theorem FInv.out(f:FInv K Oo c t σ H){i:Nat}{ds:List D}(e:t.env[i]?=some (some (.own ds))){a:mm}(ha:σ[i]?=some (some (.ref a))) :
 FInv K Oo ⟨c.ι,λb=>c.O b/\b≠a⟩ {t with env:=t.env.set i none} σ (F0 H a)/\Stp Oo c H ⟨c.ι,λb=>c.O b/\b≠a⟩ (F0 H a):=by
 clear 5(f.own i ds e)a' vs g1 g2 g3 g4 g5;rw[ha] at g1;injection g1 with g1;injection g1 with g1;injection g1 with g1;subst g1
 have ni:a∉c.ι:=f.s.dis a g2;have ext:Ext c H ⟨c.ι,λb=>c.O b/\b≠a⟩ (F0 H a):=by
  refine⟨λb o hb hn=>?_,λb o hb z=>?_,λk b h=>h⟩
  .unfold F0;rw[pX λz=>hn (by rw[z];exact .inr g2)];exact hb
  .rcases z with z|z
   .exact .inl z
   .exact .inr z.1
 have stp:Stp Oo c H ⟨c.ι,λb=>c.O b/\b≠a⟩ (F0 H a):=⟨ext,λb hb=>by unfold F0;rw[pX λz=>g3 (by rw[<-z];exact hb)]⟩;have old:∀{j:Nat}{x:Sl},(t.env.set i none)[j]?=some (some x)->j≠i/\t.env[j]?=some (some x):=λ{j x} q=>by
  by_cases h:j=i
  .subst h;rw[List.getElem?_set] at q
   split at q
   .split at q<;>simp at q
   .contradiction
  .exact⟨h,by rw[ud3 (Ne.symm h)] at q;exact q⟩
 refine⟨⟨⟨f.s.len,f.s.nd,λk b o e1 e2=>?_,λb hb=>?_,λb hb=>f.s.dis b hb.1⟩,by simpa using f.len,λb hb=>⟨f.sub b hb,λz=>g3 (by rw[<-z];exact hb)⟩,λj d q=>?_,λj es q=>?_,λj k es fs b q1 q2 q3 q4=>?_⟩,stp⟩
 .refine(f.s.obs k b o e1 e2).mono ext ?_;unfold F0;rw[pX λz=>ni (by rw[<-z];exact ud4 e1)]
 .clear 5(f.s.trk b hb.1)o ho;exact⟨o,by unfold F0;rw[pX hb.2];exact ho⟩
 .clear 5(f.val j d (old q).2)v h1 h2;exact⟨v,h1,h2.mono ext⟩
 .clear 5(old q)nj q';clear 5(f.own j es q')b us k1 k2 k3 k4 k5;have nb:b≠a:=λz=>nj (f.inj j i es ds a q' e (by rw[k1,z]) ha);exact⟨b,us,k1,⟨k2,nb⟩,k3,by unfold F0;rw[pX nb];exact k4,k5.mono ext⟩
 .exact f.inj j k es fs b (old q1).2 (old q2).2 q3 q4
end
noncomputable def Hx(i:Nat):M Out:=λt=>match t.env[i]? with
 |some (some (.own xs))=>some (.ret (.lst xs),{t with env:=t.env.set i none})
 |_=>none
def Jm(f:M (List D)):M Out:=bnd f λds=>ret (.ret (.lst ds))
variable{g:Fn}{fa:mm}{fd:mx}
section
variable{X:Cx}{pos:Pos}{e:Expr}{es:List Expr}
theorem Rh(h:PE X e (RF X.K f)):PS X (.Return (some e) pos) (RSg X.K (μF X.K) (Jm f)):=
 Bz (Ke h) λE σ H z9=>by
  clear 5 z9 Oo c t fi o t' eq k;clear 5(Ag eq)ds t1 e1 eq
  cases eq
  exact⟨Oo,c,t,fi,ds,_,e1,λp us H1 c1 f1 s1 ru hp=>k σ H1 c1 f1 s1 p us hp ru⟩
set_option tactic.hygienic true
theorem UC(i:Nat){x:Str}{px:Pos}(hN:autoParam (X.N[i]?=some x) q3T)(hv:autoParam (Vis X.env.scope x) q0T)(hd:autoParam ((x==("__debug__":Str))=false) q1T)
 (hcd:autoParam ((x==("__classdict__":Str))=false) q1T):PS X (.Return (some (.Name x px)) pos) (RSg X.K (μF X.K) (Hx i)):=
 Bz (Ke (Kb hN hv hd hcd)) λE σ H z9=>by
  clear 5 z9 Oo c t fi o t' eq k;unfold Hx at eq
  split at eq
  .next xs ex=>
   cases eq
   clear 5(fi.own i xs ex)a vs h1 h2 h3 h4 h5;refine⟨.ref a,h1,?_⟩;clear 5(fi.out ex h1)f2 s2;have:=k σ (F0 H a) _ f2 s2 a vs (by unfold F0;rw[pW rfl]) (h5.mono s2.ext);rw[Xs h4] at this;exact this
  .cases eq
inductive spFF(K:mh)(f:Fn)(vs:List V)(H:Hp)(Q:VK)(E:XK):Prop where
 |mk (c:Cf) (ds:List D) (S:List Ob) (si:SInv K c S H) (rp:Reps K c H vs ds) (rs:List D) (S':List Ob) (e:f ds S=some (.lst rs,S')) (k:∀p us H' c',SInv K c' S' H'->Stp c.O c H c' H'->(∀b,c'.O b↔c.O b)->Reps K c' H' us rs->H' p=none->Q (.ref p) (upd H' p (.lst us))):spFF K f vs H Q E
def Eb(g:Fn)(f:M (List D)):M (List D):=bnd f λds t=>match g ds t.S with
 |some (.lst rs,S')=>some (rs,{t with S:=S'})
 |_=>none
theorem SA{ds:List D}{t:T}{rs:List D}{t':T}(h:(match g ds t.S with|some (.lst rs,S')=>some (rs,{t with S:=S'})|_=>none:Option (List D×T))=some (rs,t')):∃S',g ds t.S=some (.lst rs,S')/\t' = {t with S:=S'}:=by
 split at h
 .next rs' S' e=>cases h;exact⟨S',e,rfl⟩
 .cases h
set_option tactic.hygienic false
theorem WQ{k:Nat}{ps:List Str}{x:Str}{p:Pos}(F:FnOk X.prog X.w X.K X.mg X.base CX0 k fa fd ps (spFF X.K g))(hr:Room k X.A)(hg:Gl X x)(hm:X.mg x=some (.ref fa))(hk:PySem.W.keepIn X.K (.ref fa)=true)(hb:Binds X.K fd ps [])
 (ha:PA X (e::es) (RA X.K f)) (hdb:autoParam ((x==("__debug__":Str))=false) q1T) (h1:autoParam (Bm e=false) q3T) (h2:autoParam (Bo es=true) q3T) :
 PE X (.Call (.Name x p) (e::es) [] pos) (RF X.K (Eb g f)):=
 AO (RK F hr hg hm hk hb .nil KM ha hdb (Bu h1) (Bd h2).1) λσ H Q z9=>by
  clear 5 z9 Oo c t fi rs t' eq kk;clear 5(Ag eq)ds t1 e1 eq;clear 5(SA eq)S' e2 rfl;refine⟨Oo,c,t,fi,ds,t1,e1,λvs H1 c1 f1 s1 rvs=>?_⟩;show spFF X.K g (vs++[]) H1 Q E0;rw[ui9];refine⟨c1,ds,t1.S,f1.s,rvs,rs,S',e2,λp us H' c' si st ho ru hp=>?_⟩;clear 5(f1.after si st ho)f2 s2;exact kk p us H' c' f2 (s1.trans s2) ru hp
end
set_option tactic.hygienic true in
theorem ZE{P:mq}{w:mw}{mg:Str->Option mj}{base:Heap}{x qual:Str}{st:Stmt}{N ps:List Str}{k n m:Nat}{g:M Out}(e1:ps.length=n)(e2:N.length=m)(F:Fun K x qual st fa fd)(S:FnScope N ps (AN st))
 (hb:∀(cdv:mj) (A:Around) (outer:List Env) (s:mn) (H:Hp) (E:XK),Room k (A.deeper (PyProof.Rows.envOfC qual (AN st) s.heap.objs.size fa cdv))->
   PSs (FO CX0 P w K mg base N qual (AN st) fa cdv A outer s H E).nox (DG st) (RSg K (μF K) g)):FnOk P w K mg base CX0 (k+1) fa fd ps (spFF K (fnOf n m g)):=by
 subst e1 e2;have hlen:∀{ds:List D}{S:List Ob}{z:D×List Ob},fnOf ps.length N.length g ds S=some z->ds.length=ps.length:=λ{ds S z} h=>by
  unfold fnOf at h
  split at h
  .next h1=>exact h1
  .cases h
 refine F.ok S (λvs H Q E h=>?_) (λcdv A outer s H vs Q E hr h=>?_)
 .obtain⟨c,ds,S,si,rs,r,S',e,_⟩:=h;rw[rs.length];exact hlen e
 clear 5 h c ds S0 si rs r S' e kk;refine⟨RSg K (μF K) g,hb cdv A outer s H E hr,?_⟩;have hl:=hlen e;unfold fnOf at e;rw[pW hl] at e
 cases eg:g ⟨env0 N.length ds,S0⟩ with
 |none=>rw[eg] at e;cases e
 |some p=>
   clear 5 p o t;rw[eg] at e;refine⟨c.O,c,_,IW si rs,o,t,eg,λσ' H' c' f' s'=>?_⟩;clear 5 f'.leave si' ext';have st':Stp c.O c H ⟨c'.ι,c.O⟩ H':=⟨s'.ext.trans ext',s'.oo⟩
   cases o with
   |next=>cases e
   |ret d=>
     cases e
     exact λp us hp ru=>kk p us H' _ si' st' (λ_=>pV) (ru.mono ext') hp
   |brk=>cases e
   |cont=>cases e
theorem aQ{P:mq}{w:mw}{mg:Str->Option mj}{base:Heap}{ps:List Str}{k:Nat}{f:Fn}(e:f=g)(h:FnOk P w K mg base CX0 k fa fd ps (spFF K g)):FnOk P w K mg base CX0 k fa fd ps (spFF K f):=by rw[e];exact h
end
section
variable{X:Cx}
theorem aj{o:Expr}{to:TE}{apos cpos:Pos}(ho:PE X o to)(hbase:autoParam (attributeBase o "bit_length" X.env (eval o X.env)=eval o X.env) q3T)(hline:autoParam ((apos.endLine==cpos.line)=true) q3T) :
 PE X (.Call (.Attribute o "bit_length" apos) [] [] cpos) (λσ H Q=>to σ H λv H1=>∃i,v=.int i/\Q (.int (Builtin.Int.intBits i:Nat)) H1):=by
 intro mi s σ H Q I h;refine Call_method0 hbase hline (thn (ho mi s σ H _ I h) λu s1 z9=>?_);clear 5 z9 v H1 I1 rv i ex q;subst ex;clear 5 rv t rfl;exact⟨"int", "int.bit_length",PySem.F.plainAttrs_int,ua3,PySem.F.type_int_bit_length,pO _ _ _,(λ_ e=>nomatch e),
  method0_gives ua3 PySem.F.entry_int_bit_length (pO _ _ _) (PySem.F.args_int_bit_length_1 _) (PySem.AutoIntG2.int_bit_length_int_0 i t) ⟨.int (Builtin.Int.intBits i:Nat),H1,I1.tok _,⟨_,rfl⟩,q⟩⟩
end
def LU:D->M D
 |.int i=>ret (.int (Builtin.Int.intBits i:Nat))
 |_=>fail
section
variable{X:Cx}{pos:Pos}{e:Expr}{es:List Expr}
set_option tactic.hygienic true in
theorem Uo{o:Expr}{f:M D}{apos cpos:Pos}(ho:PE X o (RE X.K f))(hbase:autoParam (attributeBase o "bit_length" X.env (eval o X.env)=eval o X.env) q3T)(hline:autoParam ((apos.endLine==cpos.line)=true) q3T) :
 PE X (.Call (.Attribute o "bit_length" apos) [] [] cpos) (RE X.K (fUn f LU)):=
 AO (aj ho hbase hline) λσ H Q z9=>by
  clear 5 z9 Oo c t fi r t' eq k;clear 5(Ag eq)d t1 e1 eq;refine⟨Oo,c,t,fi,d,t1,e1,λx H1 c1 f1 s1 rx=>?_⟩;unfold LU at eq
  split at eq
  .next i=>
   cases eq
   cases rx
   exact⟨i,rfl,k _ H1 c1 f1 s1 (.int _)⟩
  .cases eq
end
section
variable{X:Cx}{b elt:Expr}{pos:Pos}
end
structure ItOk2(K:mh)(J:It)(c:Cf)(H:Hp)(ds:List D):Prop where
 go:∀c' H' (i:Nat),Ext c H c' H'->i<ds.length->J.go i H'
 yld:∀c' H' (i:Nat) x H'' d,Ext c H c' H'->ds[i]?=some d->J.yld i H' x H''->∃p vs es,x=.ref p/\H' p=none/\H''=upd H' p (.tup vs)/\d=.tup es/\Reps K c' H' vs es
 stop:∀c' H',Ext c H c' H'->J.stop ds.length H'
inductive RI2(K:mh)(f:M (List D))(σ:L2.St)(H:Hp)(R:It->Hp->Prop):Prop where
 |mk (Oo:mm->Prop) (c:Cf) (t:T) (fi:FInv K Oo c t σ H) (ds:List D) (t':T) (e:f t=some (ds,t')) (k:∀J H' c',FInv K Oo c' t' σ H'->Stp Oo c H c' H'->ItOk2 K J c' H' ds->R J H'):RI2 K f σ H R
section
variable{X:Cx}{pos:Pos}{e:Expr}
end
section
variable{X:Cx}
end
section
variable{X:Cx}{pos:Pos}{e:Expr}{es:List Expr}
end
section
variable{X:Cx}{e ek:Expr}{p2 pos:Pos}{te:TE}{tk:TO}
end
section
variable{X:Cx}
end
section
variable{X:Cx}
end
noncomputable def IN:List D->Option (List Bool)
 |[]=>some []
 |.bl b::r=>(IN r).map (b :: ·)
 |_=>none
theorem QV{K:mh}{c:Cf}{H:Hp}:∀{ds:List D}{vs:List V}{bs:List Bool},Reps K c H vs ds->IN ds=some bs->vs=bs.map V.bl
 |[],_,bs,r,e=>by cases r;cases e;rfl
 |d::ds,_,bs,r,e=>by
   cases r with
   |cons r1 r2=>
     cases r1 with
     |bl b=>
       rw[IN] at e;clear 5(ub9.mp e)bs' e1 rfl;rw[ul2,QV r2 e1]
     |_=>cases e
section
variable{X:Cx}{pos:Pos}
end
section
variable{X:Cx}
end
section
variable{X:Cx}
end
noncomputable def Lo(n:Int):List Int->List Int
 |[]=>[n]
 |m::r=>if n<=m then n::m::r else m::Lo n r
def srtZ:List Int->List Int
 |[]=>[]
 |n::r=>Lo n (srtZ r)
theorem JX(n:Int):∀l:List Int,(Lo n l).Perm (n::l)
 |[]=>.refl _
 |m::r=>by
   rw[Lo]
   split
   .exact .refl _
   .exact((JX n r).cons m).trans (.swap n m r)
theorem HN:∀l:List Int,(srtZ l).Perm l
 |[]=>.refl _
 |n::r=>(JX n _).trans ((HN r).cons n)
set_option tactic.hygienic true in
theorem Po(n:Int):∀l:List Int,l.Pairwise (·<=·)->(Lo n l).Pairwise (·<=·)
 |[],_=>by simp[Lo]
 |m::r,h=>by
   rw[List.pairwise_cons] at h;rw[Lo]
   split
   .next z=>
    rw[List.pairwise_cons,List.pairwise_cons];refine⟨λa ha=>?_,h.1,h.2⟩;rcases ul1.mp ha with rfl|ha
    .exact z
    .exact Int.le_trans z (h.1 a ha)
   .next z=>
    rw[List.pairwise_cons];refine⟨λa ha=>?_,Po n r h.2⟩;rcases ul1.mp ((JX n r).mem_iff.mp ha) with rfl|ha
    .lia
    .exact h.1 a ha
theorem Lz:∀l:List Int,(srtZ l).Pairwise (·<=·)
 |[]=>.nil
 |n::r=>Po n _ (Lz r)
theorem R8:∀{a b:List Int},a.Perm b->a.Pairwise (·<=·)->b.Pairwise (·<=·)->a=b
 |[],b,p,_,_=>p.nil_eq
 |x::a,[],p,_,_=>absurd p.length_eq (by simp)
 |x::a,y::b,p,h1,h2=>by
   rw[List.pairwise_cons] at h1 h2;have e:x=y:=by
    rcases ul1.mp (p.mem_iff.mp ue6) with e|m1
    .exact e
    .rcases ul1.mp (p.mem_iff.mpr ue6) with e|m2
     .exact e.symm
     .exact Int.le_antisymm (h1.1 y m2) (h2.1 x m1)
   subst e;rw[R8 ((List.perm_cons x).mp p) h1.2 h2.2]
section
variable{X:Cx}
end
section
variable{X:Cx}
end
section
variable{X:Cx}{pos:Pos}{e:Expr}{es:List Expr}
theorem gu{id:String}{R:List V->Hp->VK->Prop}{h:List D->M (List D)}{f:M (List D)}{x:Str}{p:Pos}(hc:CQ X (.builtin id) R)(s:Kr X.K R h)(hg:Gl X x)(hm:X.mg x=none)(hv:bootBuiltins x=some (.builtin id))(ha:PA X (e::es) (RA X.K f))(hn:autoParam (x≠"__name__") q1T)(hdb:autoParam ((x==("__debug__":Str))=false) q1T)
 (h1:autoParam (Bm e=false) q3T) (h2:autoParam (Bo es=true) q3T):PE X (.Call (.Name x p) (e::es) [] pos) (RF X.K (fBF f h)):=
 AO (P9 hc hg hm hv ha hn hdb (Bu h1) (Bd h2).1) λ_ _ _ q=>RF.callB s q
end
def Vy:R2:=λx y H Q=>∃a kvs k v,x=.ref a/\y=.int k/\H a=some (.dK kvs)/\D9 kvs (Sum.inl k:Key)=some v/\Q v H
def eM:V->V->V->Hp->(Hp->Prop)->Prop:=λo i v H Q=>∃a kvs k,o=.ref a/\i=.int k/\H a=some (.dK kvs)/\kvs.length<sizeLine/\Q (upd H a (.dK (D3 kvs (Sum.inl k:Key) v)))
def eP(neg:Bool):R2:=λx y H Q=>∃a kvs k,x=.int k/\y=.ref a/\H a=some (.dK kvs)/\Q (.bl (if neg then !(D9 kvs (Sum.inl k:Key)).isSome else(D9 kvs (Sum.inl k:Key)).isSome)) H
section
variable{X:Cx}
theorem dg:IxR X Vy:=by
 intro value slice mi s σ H x y v u Q I rx ry h hs;clear 5 h a kvs k z rfl rfl e l q
 cases rx
 obtain⟨_,_,vs,rel,dd⟩:=IT I.hok e;have g:DGet H a (kV (Sum.inl k:Key)) (some z):=by rw[<-l];exact DGet.k e
 have hT:=dd.typeIs;unfold subscriptTail;refine uo0 ?_;rw[getitemInPython_of_ne hT.not_modules];refine uo0 (PySem.wpAny_specialOf hT PySem.F.slot_dict_getitem.lookup ?_);have get:wpAny (model X.prog X.w) X.A (getItem (.ref a) u) (EP X mi σ Q) X.xe s:=by
  clear 5(RelO.some_of (v:=z) (o:=valueAt vs (Sum.inl k:Key)) (by rw[<-l];exact rel.val _))w' hw rw';exact wpAny_getItem_of (HK (k:=(Sum.inl k:Key)) ry) dd.mapOf hw ⟨z,H,I.tok _,rw',q⟩
 have fin:wpAny (model X.prog X.w) X.A (subscripted slice false (.ref a) u) (λr s₃=>wpAny (model X.prog X.w) X.A (letTemporaryGo value (.ref a) r >>= λ_=>pure r) (EP X mi σ Q) X.xe s₃) X.xe s:=by
  rw[hs];exact wpAny_operating (uo2 get (λr s₃ h₃=>uo0 (wpAny_letTemporaryGo (uo1 h₃))) λ_ _ x=>x)
 first
  |exact uo1 (uo0 fin)
  |exact uo0 (uo1 (uo0 fin))
  |exact uo0 fin
theorem bq:Wj X eM:=by
 intro mi s σ H o i v ov iv u Q I ro ri rv h;clear 5 h a kvs k rfl rfl e l q
 cases ro
 clear 5(IT I.hok e)z hd vs rel dd;have hz:vs.length<=sizeLine:=by rw[<-rel.length];exact z
 have hl:(D3 kvs (Sum.inl k:Key) v).length<=sizeLine:=by have:=H9 kvs (Sum.inl k:Key) v;lia
 refine wpAny_setItem_pairs (hsz:=hz) (HK (k:=(Sum.inl k:Key)) ri) dd λh' dd' hs=>⟨_,?_,q⟩;have he:∃q,h'.get? a=some q:=let ⟨q,_,_,hq,_⟩:=dd';⟨q,hq⟩;exact Nc I (by rw[e];exact True.intro) hs he (L9 hl hd (rel.put _ rv) dd')
theorem Vl(hu:X.A.units+64<cLine):OpR X (compareOp .NotIn) (eP true):=by
 intro mi s σ H x y v u Q I rx ry h;clear 5 h a kvs k rfl rfl e q
 cases ry
 exact Zo ∅ I (DGet.k (k:=(Sum.inl k:Key)) e) rx λs' I'=>⟨.bl _,H,I',rfl,q⟩
open PySem.W PySem.Calls in
theorem WB{P:mq}{w:mw}{A:Around}{E:mj->mn->Prop}{s:mn}{T:String}{r d:mm}{n:Nat}{Pr:Nat->mj->Prop}{OK:Heap->Prop}{R:List mj->mn->Prop}(K:KdlSrc P w T r d n Pr OK)(hh:A.handled=none)(ok:OK s.heap)(hn:n<=sizeLine)
 (go:∀(h':Heap) (tk:Nat) (acc:Array mj),(∀b o,s.heap.get? b=some o->h'.get? b=some o)->s.heap.objs.size<=h'.objs.size->ItemsOf Pr acc n->R acc.toList {s with heap:=h',toks:=tk}):wpAny (model P w) A (collect (.ref r)) R E s:=by
 have lt:=K.there _ ok;unfold collect;refine uo0 (wpAny_runValue (codeAny_builtin entry_proto_collect' ?_));rw[Around.under_plainId PySem.F.plain_proto_collect _];show wpAny _ A.in1 (newList [] >>= λx=>again (.builtin "list.__iadd__" ⟨[x,.ref r],[]⟩)) _ _ s;refine uo0 (PySem.wpAny_newObj_type ?_);refine uo1 ⟨plainId_quiet PySem.F.plain_list_iadd _,codeAny_builtin entry_list_iadd' ?_⟩;rw[Around.under_plainId PySem.F.plain_list_iadd _];have h1:(s.heap.push {cls:=.type "list",data:=.seq ([]:List mj).toArray}).get? s.heap.objs.size=some {cls:=.type "list",data:=.seq #[]}:=ud8 _ rfl;show wpAny _ A.in1 (Builtin.List.listExtendWith (.ref s.heap.objs.size) (.ref r) (.ref s.heap.objs.size)) _ _ _;have main:=kdl_extend (A:=A) (s:={s with heap:=s.heap.push {cls:=.type "list",data:=.seq ([]:List mj).toArray} })
  (R:=λ(q:Result) (s':mn)=>∃(h':Heap) (tk:Nat) (acc':Array mj) (c':Nat),q = .ok (.ret (.ref s.heap.objs.size))/\s' = { s with heap:=h',toks:=tk }/\(∀b o,s.heap.get? b=some o->h'.get? b=some o)/\
    h'.get? s.heap.objs.size=some {cls:=.type "list",dict:=none,data:=.seq acc' c',slots:=#[]}/\ItemsOf Pr acc' n)
  K hh (K.keep _ _ ok λb _ o e=>ub7 _ e) s.heap.objs.size (um8 lt.1) (um8 lt.2) (.ref s.heap.objs.size) 0 h1
  (λh' tk acc' c' kp at' it=>⟨h',tk,acc',c',rfl,rfl,λb o e=>kp b o (um5 (um4 e)) (ub7 _ e),at',it⟩) hn
 refine uo2 main (λfin s' x=>?_) λe s' x=>(by obtain⟨_,_,_,_,e',_⟩:=x;cases e')
 cases fin with
 |done f=>
   clear 5 x h' tk acc' c' e rfl kp at' it
   cases e
   show wpAny _ A (load s.heap.objs.size >>= _) _ _ _;refine uo0 (wpAny_load at' ?_);exact uo1 (go h' tk acc' kp (Nat.le_of_lt (um4 at')) it)
 |again c₁=>
   refine⟨x.1,pF x.2 λq s₂ y=>?_⟩;clear 5 y h' tk acc' c' rfl rfl kp at' it;show wpAny _ A (load s.heap.objs.size >>= _) _ _ _;refine uo0 (wpAny_load at' ?_);exact uo1 (go h' tk acc' kp (Nat.le_of_lt (um4 at')) it)
theorem ZY{P:mq}{w:mw}{k:Int}{v:mj}(h:(BL P w).is (.inl k) v=true):∃t,v=.int k t:=by
 rw[SZ] at h;rcases B4 h with⟨i,t,e1,e2⟩|⟨x,t,e1,e2⟩
 .cases e1;exact⟨t,e2⟩
 .cases e1
theorem JY:∀{ns:List Int}{vs:List mj},vs.length=ns.length->(∀(i:Nat) v,vs[i]?=some v->∃t,v=.int (ns.getD i 0) t)->IntsAre vs ns
 |[],[],_,_=>.nil
 |[],_::_,h,_=>by cases h
 |_::_,[],h,_=>by cases h
 |n::ns,v::vs,h,g=>by
   clear 5(g 0 v rfl)t rfl;exact .cons n t (JY (by simpa using h) λi v e=>by simpa using g (i+1) v (by simpa using e))
theorem SD(hc:X.calm=true):CQ X (.builtin "sorted") (λxs H Q=>XB3 λ(p:mm) (kvs:List (Key×V)) (ns:List Int)=>AB5 (xs=[.ref p]) (H p=some (.dK kvs)) (kvs.map (·.1)=ns.map (λn=>(Sum.inl n:Key))) (ns.length<64) (∀l,H l=none->Q (.ref l) (upd H l (.lst ((srtZ ns).map V.int))))):=by
 intro mi s σ H xs us Q I r h;clear 5 h p kvs ns rfl hq hk h64 q;clear 5(GN r)u rfl rx
 cases rx
 clear 5(IT I.hok hq)hz lo vs rel dd;clear 5 dd.dictAt ep hat;have hln:kvs.length=ns.length:=by have:=pQ List.length hk;rwa [ui7,ui7] at this
 have hlv:vs.length=ns.length:=by rw[<-rel.length];exact hln
 have hkv:vs.map (·.1)=ns.map (λn=>(Sum.inl n:Key)):=by
  rw[<-hk];clear hk hln hlv hat dd hq hz;unfold KV at rel
  induction rel with
  |nil=>rfl
  |@cons a b as bs h1 _ ih=>rw[ul2,ul2,ih,h1.1]
 have h63:ns.length<=sizeLine:=by have:64<=sizeLine:=(by decide);lia
 refine Calls.call_function_entry kind_sorted plain_sorted entry_sorted (args_sorted1 _) ?_;unfold Builtin.«sorted»;refine uo0 (m:=checkCount "sorted" 1 1 _) (uo1 ?_);refine uo0 (WB (PySem.W.kdl_dict (knd:=BL X.prog X.w) lo) (I.ok.hd hc) hat ∅ λh' tk acc kp szl hacc=>?_);have hI:IntsAre acc.toList ns:=by
  refine JY (by rw[Array.length_toList,hacc.1,hlv]) λi v e=>?_;clear 5(hacc.2 i v (by rw[<-Array.getElem?_toList];exact e))k x e1 e2;have e3:(vs.map (·.1))[i]?=some k:=by rw[uf7,e1];rfl
  rw[hkv,uf7] at e3;clear 5(ub9.mp e3)n e4 e5;subst e5;rw[ua5,e4];exact ZY e2
 have hla:acc.toList.length=ns.length:=IntsAre.length hI;refine uo0 (wpAny_newList ?_ ∅);have atN:(h'.push (seqObj "list" acc.toList.toArray 0)).get? h'.objs.size=some (seqObj "list" acc.toList.toArray 0):=ud8 _ rfl;refine uo0 (um3 (PySem.wpAny_call_entry slot_list_sort ⟨_,atN,rfl⟩ entry_list_sort (list_sort_tree atN hI ∅ λout ns' a1 a2 a3=>⟨_,rfl,?_⟩) (args_list_sort _)));clear 5(sortedHeap_at (vs:=acc.toList) (out:=out) atN)e he;have es:ns'=srtZ ns:=R8 (a2.trans (HN ns).symm) a3 (Lz ns);subst es;have hlen:(srtZ ns).length=ns.length:=(HN ns).length_eq;have kp2:∀b o,s.heap.get? b=some o->(sortedHeap (h'.push (seqObj "list" acc.toList.toArray 0)) h'.objs.size acc.toList out).get? b=some o:=λb o eb=>by
  have lb:=um4 (kp b o eb);rw[sortedHeap_old (um5 lb) (by rw[PySem.Heap.size_push];exact Nat.lt_succ_of_lt lb)];exact ub7 _ (kp b o eb)
 refine uo1 ⟨_,rfl,.ref h'.objs.size,_,I.laid (t':=tk) kp2 szl (show ObjOk X.prog X.w _ _ _ (.lst ((srtZ ns).map V.int)) from⟨?_,out.toList,e,Kj a1,he⟩),rfl,q _ (I.hok.fresh szl)⟩;rw[ui7,hlen];exact h63
end
def HI:D->D->M D
 |.obj n,.int k=>λt=>match t.S[n]? with
   |some (.dct kvs)=>(AR kvs (.inl k)).map λd=>(d,t)
   |_=>none
 |_,_=>fail
def HA:D->D->D->M Unit
 |.obj n,.int k,d=>λt=>match t.S[n]? with
   |some (.dct kvs)=>if kvs.length<LIM then some ((),{t with S:=t.S.set n (.dct (BJ kvs (.inl k) d))}) else none
   |_=>none
 |_,_,_=>fail
def ME(f g:M D)(d:D):M Unit:=bnd f λo=>bnd g λi=>HA o i d
def Dk:List (Int×M D)->M (List (Key×D))
 |[]=>ret []
 |(k,f)::r=>bnd f λd=>bnd (Dk r) λps=>ret ((.inl k,d)::ps)
def DH(l:List (Int×M D)):M D:=λt=>bnd (Dk l) (Fi t.S.length) {t with S:=t.S++[.dct []]}
def inK(neg:Bool):D->D->M D
 |.int k,.obj n=>λt=>match t.S[n]? with
   |some (.dct kvs)=>some (.bl (if neg then !(AR kvs (.inl k)).isSome else(AR kvs (.inl k)).isSome),t)
   |_=>none
 |_,_=>fail
noncomputable def keysI:List (Key×D)->Option (List Int)
 |[]=>some []
 |(.inl k,_)::r=>(keysI r).map (k :: ·)
 |_=>none
def ID:List D->M (List D)
 |[.obj n]=>λt=>match t.S[n]? with
   |some (.dct kvs)=>match keysI kvs with
     |some ns=>if ns.length<64 then some ((srtZ ns).map D.int,t) else none
     |none=>none
   |_=>none
 |_=>fail
section
variable{K:mh}{c:Cf}{H:Hp}
theorem KVR.has{us:List (Key×V)}{kvs:List (Key×D)}(r:KVR K c H us kvs)(k:Key):(D9 us k).isSome=(AR kvs k).isSome:=by
 unfold KVR at r
 induction r with
 |nil=>rfl
 |@cons p q ps qs h t ih=>
   by_cases hk:p.1=k
   .have hq:q.1=k:=h.1.symm.trans hk;rw[Jt hk];simp[AR,uj4,hq]
   .have hq:¬q.1=k:=λz=>hk (h.1.trans z);have:AR (q::qs) k=AR qs k:=by simp[AR,uj4,hq]
    rw[this,Js hk];exact ih
theorem KVR.keys{us:List (Key×V)}{kvs:List (Key×D)}(r:KVR K c H us kvs){ns:List Int}(e:keysI kvs=some ns):us.map (·.1)=ns.map (λn=>(Sum.inl n:Key)):=by
 unfold KVR at r
 induction r generalizing ns with
 |nil=>cases e;rfl
 |@cons p q ps qs h t ih=>
   clear 5 q qk qd
   cases qk with
   |inr x=>cases e
   |inl k=>
     rw[keysI] at e;clear 5(ub9.mp e)ms e1 e2;subst e2;rw[ul2,ul2,ih e1]
     congr 1
     exact h.1
set_option tactic.hygienic true
theorem VH:Br K Vy HI:=λ{Oo c t σ H x y dx dy r t' Q} f rx ry eq k=>by
 unfold HI at eq
 split at eq
 .next n z=>
  cases ry
  obtain⟨a,rfl,hk⟩:=rx.rv
  split at eq
  .next kvs es=>
   clear 5(ub9.mp eq)d e1 e2
   cases e2
   clear 5(f.s.obs _ a _ hk es)us g1 g2;clear 5(g2.get _ e1)v e3 e4;exact⟨a,us,z,v,rfl,rfl,g1,e3,k _ H c f .refl e4⟩
  .cases eq
 .cases eq
theorem aZ{neg:Bool}:Br K (eP neg) (inK neg):=λ{Oo c t σ H x y dx dy r t' Q} f rx ry eq k=>by
 unfold inK at eq
 split at eq
 .next z n=>
  cases rx
  obtain⟨a,rfl,hk⟩:=ry.rv
  split at eq
  .next kvs es=>
   cases eq
   clear 5(f.s.obs _ a _ hk es)us g1 g2;refine⟨a,us,z,rfl,rfl,g1,?_⟩;rw[g2.has];exact k _ H c f .refl (.bl _)
  .cases eq
 .cases eq
theorem VM:Kr K (λxs H Q=>XB3 λ(p:mm) (kvs:List (Key×V)) (ns:List Int)=>AB5 (xs=[.ref p]) (H p=some (.dK kvs)) (kvs.map (·.1)=ns.map (λn=>(Sum.inl n:Key))) (ns.length<64) (∀l,H l=none->Q (.ref l) (upd H l (.lst ((srtZ ns).map V.int))))) ID:=λ{Oo c t σ H xs ds r t' Q} f rx eq k=>by
 unfold ID at eq
 split at eq
 .next n=>
  split at eq
  .next kvs es=>
   split at eq
   .next ns ek=>
    split at eq
    .next h64=>
     cases eq
     clear 5(FH rx)v rfl rv
     obtain⟨a,rfl,hk⟩:=rv.rv
     clear 5(f.s.obs _ a _ hk es)us g1 g2;exact⟨a,us,ns,rfl,g1,g2.keys ek,h64,λq hq=>k q _ H c f .refl (Reps.ints _) hq⟩
    .cases eq
   .cases eq
  .cases eq
 .cases eq
end
section
variable{X:Cx}{pos:Pos}{e b:Expr}
set_option tactic.hygienic true in
theorem SK{o i:Expr}{f g:M D}(ho:PE X o (RE X.K f))(hi:PE X i (RE X.K g))
 (ha:∀v,assign (.Subscript o i pos) X.env v=(do
   let ov <-holding [v] (eval o X.env)
   let iv <-holding [v,ov] (eval i X.env)
   standAt pos
   holding [v,ov,iv] (setItem ov iv v)
   release [v,ov,iv] []):=by intro _;rfl):PG X (.Subscript o i pos) (RG X.K (ME f g)):=
 LK (Vp ho hi bq ha) λv σ H Q z9=>by
  clear 5 z9 Oo c t d fi rv t' eq k;clear 5(Ag eq)d0 t1 e1 eq;clear 5(Ag eq)di t2 e2 eq;refine⟨Oo,c,t,fi,_,t1,e1,λx H1 c1 f1 s1 rx=>⟨Oo,c1,t1,f1,di,t2,e2,λy H2 c2 f2 s2 ry=>?_⟩⟩;unfold HA at eq
  split at eq
  .next n z dd=>
   cases ry
   obtain⟨a,rfl,hk⟩:=rx.rv
   split at eq
   .next kvs es=>
    split at eq
    .next hl=>
     cases eq
     have hk2:=s2.ext.io _ _ hk;clear 5(f2.s.obs _ a _ hk2 es)us g1 g2;refine⟨a,us,z,rfl,rfl,g1,by rw[g2.length];exact pH hl TW,?_⟩;have rv2:=rv.mono (s1.trans s2).ext;obtain⟨f3,s3⟩:=f2.wrObj (o:=.dct (BJ kvs (.inl z) d)) (u:=.dK (D3 us (.inl z) v)) hk2 λc' H' ext hu=>⟨_,hu,(g2.put _ rv2).mono ext⟩;exact k σ _ c2 f3 ((s1.trans s2).trans s3)
    .cases eq
   .cases eq
  .cases eq
theorem ZI:PPf X pos [] [] (Dk []):=⟨[],RM,λσ H Q z9=>by
 clear 5 z9 Oo c t fi ps t' eq k
 cases eq
 exact k [] H c fi .refl .nil⟩
theorem WU{k:Int}{j:Nat}{kp:Pos}{v:Expr}{ks:List (Option Expr)}{vs:List Expr}{f:M D}{r:List (Int×M D)}(hv:PE X v (RE X.K f))(hr:PPf X pos ks vs (Dk r)) :
 PPf X pos (some (.Constant (.int k) j kp)::ks) (v::vs) (Dk ((k,f)::r)):=by
 clear 5 hr trs h1 h2;refine⟨_,Qc Vn hv h1,λσ H Q z9=>?_⟩;clear 5 z9 Oo c t fi ps t' eq kk;clear 5(Ag eq)d t1 e1 eq;clear 5(Ag eq)qs t2 e2 eq
 cases eq
 refine⟨Oo,c,t,fi,d,t1,e1,λy H1 c1 f1 s1 ry=>?_⟩;refine h2 σ H1 _ ⟨Oo,c1,t1,f1,qs,_,e2,λus H2 c2 f2 s2 ru=>?_⟩;exact kk ((.inl k,y)::us) H2 c2 f2 (s1.trans s2) (.cons ⟨rfl,ry.mono s2.ext⟩ ru)
set_option tactic.hygienic true in
theorem WM{keys:List (Option Expr)}{values:List Expr}{l:List (Int×M D)}(h:PPf X pos keys values (Dk l))(hall:autoParam (keys.all (·.isSome)=true) q3T)(hl:autoParam (keys.length=values.length) q3T)(h0:autoParam (keys≠[]) q5T)
 (h15:autoParam (keys.length<=15) q6T):PE X (.Dict keys values pos) (RE X.K (DH l)):=by
 clear 5 h trs h1 h2;refine AO (RL h1 hall hl h0 h15) λσ H Q z9=>?_;clear 5 z9 Oo c t fi r t' eq k;intro p hp;obtain⟨c1,f1,s1,e1⟩:=fi.newObj (o:=.dct []) (u:=.dK []) hp λc' H' ex hu=>⟨[],hu,.nil⟩;clear 5(Ag eq)ps t2 e2 eq;refine h2 σ _ _ ⟨Oo,c1,_,f1,ps,t2,e2,λus H2 c2 f2 s2 ru=>?_⟩;unfold Fi at eq
 split at eq
 .next es=>
  split at eq
  .next hl15=>
   cases eq
   have hk2:=s2.ext.io _ _ e1;clear 5(f2.s.obs _ p _ hk2 es)u0 g1 g2
   cases g2
   refine⟨g1,us,rfl,by rw[ru.length];exact hl15,?_⟩;obtain⟨f3,s3⟩:=f2.wrObj (o:=.dct (kvMerge ps)) (u:=.dK (Ge [] us)) hk2 λc' H' ext hu=>⟨_,hu,(KVR.merge ru .nil).mono ext⟩;exact k _ _ c2 f3 (s1.trans (s2.trans s3)) (.obj hk2)
  .cases eq
 .cases eq
theorem Up:PE X (.Dict [] [] pos) (RE X.K (DH [])):=
 AO Xw λσ H Q z9=>by
  clear 5 z9 Oo c t fi r t' eq k;intro p hp;obtain⟨c1,f1,s1,e1⟩:=fi.newObj (o:=.dct []) (u:=.dK []) hp λc' H' ex hu=>⟨[],hu,.nil⟩;have e2:DH [] t=some (.obj t.S.length,{t with S:=t.S++[.dct []]}):=by
   simp[DH,Dk,bnd,L2.ret,Fi,kvMerge]
  rw[e2] at eq
  cases eq
  exact k _ _ c1 f1 s1 (.obj e1)
end
noncomputable def tb(led:Bool)(pl:List Nat):SetTable:={mask:=7,place:=pl.toArray,dummies:=#[],finger:=0,led:=led,moves:=0,plain:=true}
noncomputable def pls:Nat->List (List Nat)
 |0=>[[]]
 |k+1=>(pls k).flatMap λl=>(List.range 8).filterMap λj=>if l.all (· < j) then some (l++[j]) else none
section
variable{P:mq}{w:mw}{A:Around}{E:mj->mn->Prop}{s:mn}
end
section
variable{P:mq}{w:mw}{A:Around}{I:mm}{fp wr:List mm}{G:Array GenState->Array GenState->Prop}{n:Nat}{Pr:Nat->mj->Prop}{St:Nat->mn->Prop}
end
section
variable{P:mq}{w:mw}{A:Around}{E:mj->mn->Prop}{s:mn}
end
section
variable{prog:mq}{w:mw}{A:Around}
end
section
variable{X:Cx}
end
section
variable{X:Cx}{pos:Pos}{e:Expr}
end
section
variable{P:mq}{w:mw}{A:Around}{E:mj->mn->Prop}{s:mn}
structure ZT(h:Heap)(z TI TO i1 i2 t1 t2:mm)(n:Nat):Prop where
 zz:IsZip h z TI TO .none
 ti:IsPair h TI (.ref i1) (.ref i2)
 ot:∃a b,IsPair h TO a b
 p1:h.IsTupleIter i1 t1 n
 p2:h.IsTupleIter i2 t2 n
end
section
variable{P:mq}{w:mw}{A:Around}{E:mj->mn->Prop}{s:mn}
end
section
variable{X:Cx}{e a b tg iter elt:Expr}{ifs:List Expr}{pos:Pos}{scope:Scope}{N':List Str}{n:Nat}{fr:List Nat}{f:M (List D)}{st:D->M Unit}{tst:M Bool}{el:M D}
end
def FI(S:List Ob):D->D
 |.tup ds=>.tup (ds.map (D7 S))
 |d=>D7 S d
theorem N6{K:mh}{c:Cf}{S:List Ob}{H:Hp}(s:SInv K c S H):∀{vs:List V}{ds:List D},Reps K c H vs ds->F1 (ds.map (D7 S))=true->Reps K c0 H vs (ds.map (D7 S))
 |_,_,.nil,_=>.nil
 |_,_,.cons h t,p=>by
   simp only[ul2,F1,uh3] at p;exact .cons (B8 s h p.1) (N6 s t p.2)
theorem Qk{K:mh}{c:Cf}{S:List Ob}{H:Hp}{v:V}{d:D}(s:SInv K c S H)(r:Rep K c H v d)(p:BR (FI S d)=true):Rep K c0 H v (FI S d):=by
 cases r with
 |tup h n q=>exact .tup h (M0 _) (N6 s q (by simpa[FI,BR] using p))
 |@obj a k hk=>exact B8 s (.obj hk) p
 |non=>exact B8 s .non p
 |bl b=>exact B8 s (.bl b) p
 |int b=>exact B8 s (.int b) p
 |str b=>exact B8 s (.str b) p
 |ty b=>exact B8 s (.ty b) p
 |lst h n q=>exact B8 s (.lst h n q) p
 |scr h=>exact B8 s (.scr h) p
 |dic h n=>exact B8 s (.dic h n) p
 |exc a b n f q=>exact B8 s (.exc a b n f q) p
 |gts h=>exact B8 s (.gts h) p
def eqT(g:Bool->Bool)(x y:D):M D:=λt=>if (BR (FI t.S x)&&BR (FI t.S y))=true then(eqN EQD (FI t.S x) (FI t.S y)).map λb=>(.bl (g b),t) else none
set_option tactic.hygienic true in
theorem R0{K:mh}{g:Bool->Bool}:Br K (Tk K g) (eqT g):=λ{Oo c t σ H x y dx dy r t' Q} f rx ry eq k=>by
 unfold eqT at eq
 split at eq
 .next hp=>
  rw[uh3] at hp;clear 5(ub9.mp eq)b e1 e2
  cases e2
  exact⟨c0,_,_,b,Qk f.s rx hp.1,Qk f.s ry hp.2,e1,k _ H c f .refl (.bl (g b))⟩
 .cases eq
section
variable{X:Cx}{elt:Expr}{pos:Pos}{e:Expr}{es:List Expr}
theorem Uq{o:Expr}{f:M D}{g:M (List D)}{apos cpos:Pos}(ho:PE X o (RE X.K f))(ha:PA X (e::es) (RA X.K g))
 (hbase:autoParam (attributeBase o "extend" X.env (eval o X.env)=eval o X.env) q3T)
 (hfew:autoParam (((backTo cpos (starEach (e::es) X.env)).all (λx=>!x.1)&&(backToKw cpos (keywordEach [] X.env)).all (λx=>x.1.isSome)&&decide ((e::es).length+([]:List Keyword).length+(if ([]:List Keyword).isEmpty then 0 else 1)<30))=true) q3T)
 (hline:autoParam ((apos.endLine==cpos.line)=true) q3T) (hs:autoParam (starEach (e::es) X.env=(false,eval e X.env)::starEach es X.env) q3T) (hplain:autoParam ((backTo cpos (starEach es X.env)).any (·.1)=false) q3T) :
 PE X (.Call (.Attribute o "extend" apos) (e::es) [] cpos) (RE X.K (objM E1 f g)):=
 AO (Tf PySem.F.plainAttrs_list PySem.F.slot_list_extend PySem.F.type_list_extend Rw ho ha hbase hfew hline hs hplain) λ_ _ _ q=>RE.objM R3 q
end
section
variable{X:Cx}{mi:List (mm×Obj)}{σ:St}{H:Hp}{s:mn}{a:mm}{kvs:List (Key×V)}{o:Obj}
end
section
variable{X:Cx}
end
section
variable{X:Cx}
theorem Ub(hc:X.calm=true):CQ X (.builtin "any") (λxs H Q=>∃(p:mm) (bs:List Bool),xs=[.ref p]/\SqL X.K H p (bs.map V.bl)/\Q (.bl (bs.any id)) H):=by
 intro mi s σ H xs us Q I r h;clear 5 h p bs rfl hq q;clear 5(GN r)u rfl rx
 cases rx
 clear 5(I.list hq)its rv pl hz;have hl:=rv.length;rw[ui7] at hl;have hlist:=pl.isList;have lp:p<s.heap.objs.size:=by obtain⟨o,ho,_⟩:=hlist;exact um4 ho
 refine call_any_walkS (PySem.wpAny_pyIter_list hlist ?_);refine⟨s.heap.objs.size,_,_,_,_,_,_,λi=>bs.getD i false,rfl,(Walks.list (by simp[I.ok.hd hc]) s.heap.objs.size p (um5 lp) its.toArray).toS,⟨⟨_,ud8 _ rfl,rfl,rfl⟩,hlist.push _⟩,?_,?_⟩
 .intro i v s2 Q2 E2 e hQ;have e':its[i]?=some v:=by simpa using e
  obtain⟨hi,_⟩:=ua7.mp e';have hy:(bs.map V.bl)[i]?=some (.bl (bs.getD i false)):=by
   rw[uf7,ua5,ub1 ∅];rfl
  clear 5(rv.get hy)w' ew rw';rw[e'] at ew;cases ew
  cases rw'
  exact PySem.wpAny_truthy_bool hQ
 .intro s' mv;clear 5 s' h' g' d' tk' os';obtain rfl:g'=s.gens:=mv.gens;obtain rfl:d'=s.drawn:=mv.drawn;obtain rfl:os'=s.os:=mv.os;have e:(List.range its.toArray.size).any (λi=>bs.getD i false)=bs.any id:=by
   rw[uf6,<-hl];clear q hq rv hl hz;rw[uj8,ui0,ui0];constructor
   .rintro⟨i,hi,h⟩;rw[List.mem_range] at hi;rw[ua5,ub1 hi] at h;exact⟨_,ui1 hi,h⟩
   .rintro⟨b,hb,h⟩;clear 5(List.mem_iff_getElem.mp hb)i hi rfl;refine⟨i,List.mem_range.mpr hi,?_⟩;rw[ua5,ub1 hi];exact h
  refine⟨.bl (bs.any id),H,I.kept (t':=tk') λb o e=>?_,by rw[e];rfl,q⟩;have lb:=um4 e;exact mv.heap b o (by simp only[ul1,uh9,pS];exact um5 lb) (ub7 _ e)
end
open SeqAt
def MV:List D->M D
 |[.lst ds]=>λt=>match IN ds with
   |some bs=>some (.bl (bs.any id),t)
   |none=>none
 |_=>fail
set_option tactic.hygienic true in
theorem XT{K:mh}:Gj K (λxs H Q=>∃(p:mm) (bs:List Bool),xs=[.ref p]/\SqL K H p (bs.map V.bl)/\Q (.bl (bs.any id)) H) MV:=λ{Oo c t σ H xs ds r t' Q} f rx eq k=>by
 unfold MV at eq
 split at eq
 .next es=>
  split at eq
  .next bs e=>
   cases eq
   clear 5(FH rx)v rfl rv
   obtain⟨a,ws,rfl,g1,g2,g3⟩:=rv.rv
   have:=QV g3 e;subst this;exact⟨a,bs,rfl,SqL.of g1,k _ H c f .refl (.bl _)⟩
  .cases eq
 .cases eq
theorem cj:bootBuiltins "any" = some (.builtin "any"):=by decide +kernel
section
variable{X:Cx}{pos:Pos}
end
structure ZL(h:Heap)(z TI TO i1 i2 t1 t2:mm)(n:Nat):Prop where
 zz:IsZip h z TI TO .none
 ti:IsPair h TI (.ref i1) (.ref i2)
 ot:∃a b,IsPair h TO a b
 p1:h.IsListIter i1 t1 n
 p2:h.IsListIter i2 t2 n
section
variable{X:Cx}{a b:Expr}{pos:Pos}
end
open PySem.W
section
variable{prog:mq}{w:mw}{A:Around}{h:Heap}{g:Array GenState}{d:Drawn}{t:Nat}{os:OsState}{R:Result->mn->Prop}
variable{nm q:Str}{C N fI:mm}{bs bm bmB:List mj}{hdct:Bool}{sn:List Str}{sub:List mj}{ab:Bool}{col:Option Bool}{dd:Option mm}{k0 k1 k2 k3 k5:Option mj}{B newId initId:String}{mN:Str->Option mj}
abbrev Ul(C tp:mm):Obj:={cls:=.ref C,data:=.fields #[.ref tp,.none,.none,.none,.bool false,.none]}
abbrev Ms(h:Heap)(C:mm)(us:List mj):Heap:=(h.push {cls:=.type "tuple",data:=.seq us.toArray}).push (Ul C h.objs.size)
end
open PySem.Builtin PySem.Builtin.ObjectAttr
section
variable{prog:mq}{w:mw}{A:Around}{s:mn}{K:mh}{x C P tp:mm}{R:Result->mn->Prop}{name:Str}{v:mj}{tk:Tok}{cd:ClassData}
end
section
variable{qx:Bool}
def XRec(qx:Bool)(h:Heap)(x C:mm)(dx:Option mm)(tb:mj):Prop:=∃(o:Obj) (vs:Array mj),h.get? x=some o/\o.cls=.ref C/\o.dict=dx/\o.data=.fields vs/\vs[1]?=some tb/\(qx=true->vs[2]?=some .none/\4<vs.size)
theorem cH{qx:Bool}{vs:Array mj}{v:mj}(h:qx=true->vs[2]?=some .none/\4<vs.size):qx=true->(vs.setIfInBounds 1 v)[2]?=some .none/\4<(vs.setIfInBounds 1 v).size:=λz=>by
 rw[Array.getElem?_setIfInBounds_ne (by decide),Array.size_setIfInBounds];exact h z
theorem XRec.to{qx:Bool}{h:Heap}{x C:mm}{dx:Option mm}{tb:mj}(r:XRec true h x C dx tb):XRec qx h x C dx tb:=by
 clear 5 r o vs h1 h2 h3 h4 h5 h6;exact⟨o,vs,h1,h2,h3,h4,h5,λ_=>h6 rfl⟩
def XTb(h:Heap)(T:mm):Prop:=∃(o:Obj) (ts:Array mj),h.get? T=some o/\o.data=.fields ts/\ts[3]?=some .none
structure XKeep(fs ch:List mm)(h h':Heap):Prop where
 keep:∀b o,b∉ch->b∉fs->h.get? b=some o->h'.get? b=some o
 slot:∀b o,b∉ch->h.get? b=some o->∃sl,h'.get? b=some {o with slots:=sl}
section
variable{M:Model}{A:Around}{E:mj->mn->Prop}{s:mn}{env:Env}{outer:List Env}{base:Heap}{L x C:mm}{dx:Option mm}{tb:mj}{Q:Unit->mn->Prop}
theorem PK{o:Obj}{vs:Array mj}(hd:o.data=.fields vs)(f:Array mj->Array mj):(o.mapFields f).data=.fields (f vs)/\(o.mapFields f).cls=o.cls/\(o.mapFields f).dict=o.dict:=by
 clear 5 o c d dt sl
 cases hd
 exact⟨rfl,rfl,rfl⟩
end
end
section
variable{qx:Bool}
abbrev VE:List mj:=[.type "ValueError",.type "Exception",.type "BaseException",.type "object"]
structure XCl(K:mh)(C:mm)(bm:List mj):Prop where
 ex:∃cd dd k0 k1 k2 k3 k5,K.lookup C=some {cls:=.type "type",dict:=dd,data:=.cls cd,slots:=#[k0,k1,k2,k3,some (.builtin "ValueError.__new__"),k5]}/\cd.mro=.ref C::bm/\cd.hasDel=false/\cd.hasDict=true/\nsOkIn K cd.ns=true
 tl:tailIn K VE bm=true
noncomputable def OC(K:mh)(C:mm)(bm:List mj):Bool:=tailIn K VE bm&&match K.lookup C with
 | some ⟨.type "type",_,.cls cd,sl⟩=>(match sl.toList with
   |[_,_,_,_,some (.builtin n),_]=>n == "ValueError.__new__" && cd.mro==.ref C::bm && !cd.hasDel&&cd.hasDict&&nsOkIn K cd.ns
   |_=>false)
 |_=>false
variable{K:mh}{C:mm}{bm:List mj}
set_option tactic.hygienic true in
theorem XCl.of_in(q:OC K C bm=true):XCl K C bm:=by
 unfold OC at q;rw[uh3] at q;refine⟨?_,q.1⟩;have q:=q.2
 split at q
 .rename_i dd cd sl ho
  split at q
  .rename_i k0 k1 k2 k3 n k5 hs;simp only[uh3,pM,Bool.not_eq_true'] at q;obtain⟨⟨⟨⟨rfl,h1⟩,h2⟩,h3⟩,h4⟩:=q;have hsl:sl=#[k0,k1,k2,k3,some (.builtin "ValueError.__new__"),k5]:=by
    cases sl
    exact pQ Array.mk hs
   exact⟨cd,dd,k0,k1,k2,k3,k5,by rw[ho,hsl],h1,h2,h3,h4⟩
  .cases q
 .cases q
theorem XCl.obj{K:mh}{C:mm}{bm:List mj}{h:Heap}(c:XCl K C bm)(X:K.In h):∃nm q N bs sn sub ab col dd k0 k1 k2 k3 k5,h.get? C=some (excClassObj nm q C N bs bm true sn sub ab col dd k0 k1 k2 k3 k5 "ValueError.__new__")/\h.Ns N (h.nsMap N):=by
 obtain⟨⟨nm,bs,mro,ns,qn,hd,sn,sub,ab,col,del⟩,dd,k0,k1,k2,k3,k5,h1,h2,h3,h4,h5⟩:=c.ex;dsimp only at h2 h3 h4 h5;subst h2 h3 h4;exact⟨nm,qn,ns,bs,sn,sub,ab,col,dd,k0,k1,k2,k3,k5,X _ _ h1,.of_isNs (isNs_of_in X h5)⟩
variable{h:Heap}
theorem XCl.tail(c:XCl K C bm)(X:K.In h):OwnTail h VE bm:=tail_of_in X c.tl
theorem XCl.has(c:XCl K C bm)(X:K.In h):(Value.ref C::bm).contains (.type "BaseException")=true:=by
 rw[List.contains_cons,(c.tail X).hasType (b:=true) (by decide +kernel),Bool.or_true]
section
variable{M:Model}{A:Around}{E:mj->mn->Prop}{env:Env}{K:mh}{C:mm}{bm:List mj}{s:mn}
theorem XN{t:Sem mj}{Q:Flow->mn->Prop}(c:XCl K C bm)(hh:A.handled=none)
 (h:wpAny M A t (λv s1=>∃x dx,v=.ref x/\K.In s1.heap/\XRec qx s1.heap x C dx .none/\E v s1) E s):wpAny M A (raiseStmt env (some t) none) Q E s:=by
 unfold raiseStmt;refine uo0 (uo2 h (λv s1 q=>?_) λ_ _ z=>z);obtain⟨x,dx,rfl,X,⟨o,vs,hx,hc,hd,hdt,h1,_⟩,hE⟩:=q;obtain⟨nm,q,N,bs,sn,sub,ab,col,dd,k0,k1,k2,k3,k5,hC,_⟩:=c.obj X;have hb:=c.has X;clear 5 s1 hp g d tk os
 repeat (first
  |(with_reducible refine PySem.wpAny_loadPart_at hx ?_;rw[hc])
  |with_reducible refine PySem.wpAny_loadPart_at hC ?_
  |(with_reducible refine PySem.wpAny_isSubtype_exc hC ?_;rw[hb])
  |with_reducible refine PySem.wpAny_field hx hdt h1 ?_
  |wp_step)
 exact wpAny_raiseNew_none hh hE
end
def CX1(qx:Bool)(P:mq)(w:mw):CXT:=λouter H s E e s'=>∃(x C:mm) (dx:Option mm) (T:mm) (H':Hp),e=.ref x/\s'.os=s.os/\AllBare s'.gens/\Un (frs outer) [] H H' s.heap s'.heap/\HOk P w H' s'.heap/\
 H' x=some (.ext (L2.XIs qx x C dx))/\s.heap.objs.size<=x/\s.heap.objs.size<=T/\T≠x/\H' T=none/\XRec qx s'.heap x C dx (.ref T)/\XTb s'.heap T/\E (.ref x) dx H'
variable{dx:Option mm}
theorem XRec.is{x:mm}{tb:mj}(r:XRec qx h x C dx tb):L2.XIs qx x C dx h:=by
 obtain⟨o,vs,h1,h2,h3,h4,_,h5⟩:=r;exact⟨o,vs,h1,h2,h3,h4,h5⟩
theorem XIs.stay{x:mm}{h1 h2:Heap}(r:L2.XIs qx x C dx h1)(k:∀o,h1.get? x=some o->h2.get? x=some o):L2.XIs qx x C dx h2:=by
 clear 5 r o vs e q;exact⟨o,vs,k o e,q⟩
theorem Um{P:mq}{w:mw}{H:Hp}{x:mm}(r:L2.XIs qx x C dx h):ObjOk P w H h x (.ext (L2.XIs qx x C dx)):=
 ⟨r,let ⟨o,_,e,_⟩:=r;⟨o,e⟩,λ_ _ q k=>XIs.stay q k⟩
section
variable{X:Cx}{mi:List (mm×Obj)}{σ:St}{H H':Hp}{s s':mn}{h':Heap}{x C T:mm}{dx:Option mm}{ch:List mm}
theorem Yk(k:XKeep (frs X.stack) ch s.heap h')(hT:∀b∈ch,b=x\/b=T):Un (frs X.stack) (x::T::[]) H H s.heap h':=by
 have nch:∀b:mm,b∉(x::T::[])->b∉ch:=λb hb z=>hb (by rcases hT b z with rfl|rfl<;>simp);refine⟨λb o e n hb hx=>k.keep b o (nch b hx) hb e,λb o e n hb hx=>k.slot b o (nch b hx) e,λb o e n _=>n,λb o e hx=>?_,λ_ _ e=>e,λ_ _ _ e=>e,λb ps e=>⟨#[],by rw[e];simp⟩⟩;clear 5(k.slot b o (nch b hx) e)sl q;exact⟨_,q⟩
theorem Inv.left(I:Inv X mi σ H s)(hx:H x=some (.ext (L2.XIs qx x C dx)))(hT:H T=none)(nx:X.s₀.heap.objs.size<=x)(nT:X.s₀.heap.objs.size<=T)(k:XKeep (frs X.stack) ch s.heap h')(hc:∀b∈ch,b=x\/b=T)(r:L2.XIs qx x C dx h')
 (oT:∀y c,X.env.cells.lookup y=some c->c≠T) (lT:T≠X.env.locals) (pT:∀p∈X.pn++mi,p.1≠T):Inv X mi σ H {s with heap:=h'}:=by
 have nfr:∀b u,H b=some u->b∉frs X.stack:=λb u e z=>by rw[I.stkFree b z] at e;cases e
 refine I.call (g':=s.gens) (t':=s.toks) (d':=s.drawn) (ch:=[x,T]) (Yk k hc) (λb u e=>?_) I.bare λb hb=>?_
 .by_cases hb:b=x
  .subst hb;rw[hx] at e;cases e;exact Um r
  .refine(I.hok b u e).stay (λc v hcc q=>k.keep c v ?_ ?_ q) (λ_ q=>q) λ_ _ q=>q
   .intro z;rcases hcc with rfl|hcc
    .rcases hc c z with q|q
     .exact hb q
     .rw[q,hT] at e;cases e
    .rcases hc c z with q|q
     .rw[q,hx] at hcc;cases hcc
     .rw[q,hT] at hcc;cases hcc
   .rcases hcc with rfl|hcc
    .exact nfr _ _ e
    .exact nfr _ _ hcc
 .have q:b=x\/b=T:=by simpa using hb
  rcases q with rfl|rfl
  .exact⟨.inr nx,(λz=>by rw[z,I.free] at hx;cases hx),(λy c e z=>by subst z;rw[I.freeC y c e] at hx;cases hx),λp hp z=>by rw[<-z,(I.pin p hp).2.1] at hx;cases hx⟩
  .exact⟨.inr nT,lT,oT,pT⟩
theorem Inv.raised(I:Inv X mi σ H s){E:XK}{e:mj}(q:CX1 qx X.prog X.w X.stack H s E e s'):∃(x C:mm) (dx:Option mm) (T:mm) (H':Hp),e=.ref x/\Inv X mi σ H' s'/\H' x=some (.ext (L2.XIs qx x C dx))/\s.heap.objs.size<=x/\s.heap.objs.size<=T/\T≠x/\H' T=none/\XRec qx s'.heap x C dx (.ref T)/\XTb s'.heap T/\E (.ref x) dx H':=by
 clear 5 q x C dx T H' he os bare un hok hx nx nT ne hT r tb q;clear 5 s' hh g d t os';obtain rfl:os'=s.os:=os;exact⟨x,C,dx,T,H',he,I.call (h':=hh) (g':=g) (d':=d) (t':=t) (ch:=[]) un hok bare (λb z=>absurd z (by simp)),hx,nx,nT,ne,hT,r,tb,q⟩
theorem Inv.newT(I:Inv X mi σ H s)(h:s.heap.objs.size<=T):T≠X.env.locals/\(∀y c,X.env.cells.lookup y=some c->c≠T)/\∀p∈X.pn++mi,p.1≠T:=by
 have far:∀b o,s.heap.get? b=some o->b≠T:=λb o e z=>absurd (ue5 (um4 e) h) (by rw[z];exact Nat.lt_irrefl _);refine⟨λz=>absurd I.lt (by rw[<-z];exact Nat.not_lt.mpr h),λy c e=>?_,λp hp=>far _ _ (I.pin p hp).1⟩;obtain⟨v,o,ho,_⟩:=I.cell y c e;exact far c o ho
end
section
variable{P:mq}{w:mw}{K:mh}{mg:Str->Option mj}{base:Heap}{N:List Str}{qual:Str}{scope:Scope}{f:mm}{cd:mj}{A:Around}{outer:List Env}{s₀:mn}{H₀:Hp}{E:XK}
end
end
structure XAt(K:mh)(C P:mm)(f:Str):Prop where
 cl:XCl K C (.ref P::VE)
 set:findIn K (.ref C) "__setattr__" = some (some (.builtin "object.__setattr__"))
 no:findIn K (.ref C) f=some none
section
variable{qx:Bool}
structure XMk(K:mh)(C P f:mm):Prop where
 cl:XCl K C (.ref P::VE)
 init:∃cd,clsIn K C=some cd/\nsIn K cd.ns "__init__" = some (some (.ref f))
 fn:isFn K (.ref f)=true
 kp:keepIn K (.ref C)=true
section
variable{X:Cx}{k:Nat}{f C P:mm}{fd:mx}{mi:List (mm×Obj)}{σ:St}{H:Hp}{s:mn}{Q:mj->mn->Prop}{us:List mj}{vs:List V}{a:Str}{ps:List Str}{v:V}{u:mj}
end
end
section
variable{qx:Bool}
section
variable{M:Model}{A:Around}{E:mj->mn->Prop}{K:mh}{s:mn}{x C C':mm}{bm bm':List mj}{dx:Option mm}{tb:mj}
theorem PL{Q:Bool->mn->Prop}(c:XCl K C bm)(c':XCl K C' bm')(X:K.In s.heap)(hx:XRec qx s.heap x C dx tb)(h:Q ((Value.ref C::bm).contains (.ref C')) s):wpAny M A (excMatches (.ref x) (.ref C')) Q E s:=by
 obtain⟨nm,q,N,bs,sn,sub,ab,col,dd,k0,k1,k2,k3,k5,hC,_⟩:=c.obj X;obtain⟨nm',q',N',bs',sn',sub',ab',col',dd',k0',k1',k2',k3',k5',hC',_⟩:=c'.obj X;have hb:=c'.has X;clear 5 hx o vs ho hc hd hdt h1;clear 5 s hp g d tk os;have ty:(⟨hp,g,d,tk,os⟩:mn).TypeIs (.ref C') "type":=⟨_,hC',rfl⟩;have nt:=tc_notTuple
 cases hbb:(Value.ref C::bm).contains (.ref C')<;>(
  rw[hbb] at h;unfold excMatches
  repeat (first
   |(with_reducible refine PySem.wpAny_loadPart_at ho ?_;rw[hc])
   |with_reducible refine PySem.wpAny_loadPart_at hC' ?_
   |(with_reducible refine PySem.wpAny_isSubtype_exc hC' ?_;rw[hb])
   |(with_reducible refine PySem.wpAny_isSubtype_exc hC ?_;rw[hbb])
   |wp_step)
  exact h)
end
end
section
variable{qx:Bool}
def Wn(h:Heap)(T:mm)(fl:mj):Prop:=∃(o:Obj) (ts:Array mj),h.get? T=some o/\o.data=.fields ts/\ts[3]?=some fl
section
variable{M:Model}{A:Around}{E:mj->mn->Prop}{s:mn}{env:Env}{outer:List Env}{base:Heap}{L x C:mm}{dx:Option mm}{tb:mj}{Q:Unit->mn->Prop}
theorem NX{hadNext:Bool}{hd:mj}(hfr:A.frames=some (env::outer))(hl:s.heap.FunFrames base (env::outer))(hf:env.frame=some L)(hx:XRec qx s.heap x C dx tb)
 (h:∀h' T,s.heap.objs.size<=T->T≠x->XRec qx h' x C dx (.ref T)->Wn h' T (rawInt L)->XKeep (frs (env::outer)) [x] s.heap h'->Q () {s with heap:=h'}) :
 wpAny M A (do let fo <-frameOf env;let at' <-entryPlaceOf L hadNext;let en <-EntryCells.newEntry hd fo .none (rawInt L) .none at';setField (.ref x) 1 en) Q E s:=by
 clear 5 hx ox vs gx cx dxe dtx tbx xc;have v1:1<vs.size:=(Array.getElem?_eq_some_iff.mp tbx).1;have nfr:x∉frs (env::outer):=λz=>by
  obtain⟨_,o2,g2,n2⟩:=hl.mem z;rw[gx] at g2;cases g2
  exact n2 vs dtx
 refine uo0 (wpAny_frameOf_fun hfr hl hf λh1 so=>?_);refine uo0 (wpAny_entryPlaceOf λat' ip=>?_);unfold EntryCells.newEntry newFields;refine uo0 (PySem.wpAny_newObj_type ?_ (ip.sizeOk5 _ _ _ _ _));generalize hne:(Obj.mk (Value.type "traceback") none (Data.fields ([hd,Value.ref L,Value.none,rawInt L,Value.none]++if at'.isEmpty=true then List.replicate 6 Value.none else at').toArray) #[])=nob;have dn:nob.data=.fields ([hd,Value.ref L,Value.none,rawInt L,Value.none]++if at'.isEmpty=true then List.replicate 6 Value.none else at').toArray:=by rw[<-hne]
 have gx1:h1.get? x=some ox:=(so.2.1 x nfr).trans gx;have gx2:(h1.push nob).get? x=some ox:=ub7 _ gx1;have nex:h1.objs.size≠x:=um8 (um4 gx1);refine PySem.wpAny_setField gx2 dtx v1 ?_;clear 5(PK dtx (·.setIfInBounds 1 (Value.ref h1.objs.size)))m1 m2 m3;have gx3:=PySem.Heap.get?_update_self (Obj.mapFields (·.setIfInBounds 1 (Value.ref h1.objs.size))) gx2 (PySem.Obj.isFreed_of_fields m1);have gT2:(h1.push nob).get? h1.objs.size=some nob:=ud8 h1 (PySem.Obj.isFreed_of_fields dn);have gT3:=(PySem.Heap.get?_update_other (h1.push nob) (Obj.mapFields (·.setIfInBounds 1 (Value.ref h1.objs.size))) (Ne.symm nex)).trans gT2;have vx:(vs.setIfInBounds 1 (Value.ref h1.objs.size))[1]?=some (.ref h1.objs.size):=by simp[v1]
 have old:∀b o,b≠x->h1.get? b=some o->((h1.push nob).update x (Obj.mapFields (·.setIfInBounds 1 (Value.ref h1.objs.size)))).get? b=some o:=λb o hb e=>by
  rw[PySem.Heap.get?_update_other _ _ (Ne.symm hb)];exact ub7 _ e
 refine h _ h1.objs.size (pE so.1.symm) nex ⟨_,_,gx3,m2.trans cx,m3.trans dxe,m1,vx,cH xc⟩ ⟨_,_,gT3,dn,?_⟩ ⟨λb o hb hbf e=>old b o (λz=>hb (by simp[z])) ((so.2.1 b hbf).trans e),λb o hb e=>?_⟩
 .rw[List.getElem?_toArray];rfl
 .clear 5(so.2.2 b o e)sl e1;exact⟨sl,old b _ (λz=>hb (by simp[z])) e1⟩
end
structure XOn(qx:Bool)(X:Cx)(mi:List (mm×Obj))(H:Hp)(s:mn)(x C:mm)(dx:Option mm)(T:Option mm)(fl:mj):Prop where
 hx:H x=some (.ext (L2.XIs qx x C dx))
 nx:X.s₀.heap.objs.size<=x
 rc:XRec qx s.heap x C dx (match T with|some a=>.ref a|none=>.none)
 tb:∀a,T=some a->a≠x/\H a=none/\X.s₀.heap.objs.size<=a/\(a≠X.env.locals/\(∀y c,X.env.cells.lookup y=some c->c≠a)/\∀p∈X.pn++mi,p.1≠a)/\Wn s.heap a fl
 fo:fl=.none\/fl=rawInt X.env.locals
section
variable{M:Model}{A:Around}{Er:mj->mn->Prop}{X:Cx}{mi:List (mm×Obj)}{σ:St}{H:Hp}{s:mn}{x C:mm}{dx T:Option mm}{fl:mj}{Q:Unit->mn->Prop}
theorem IB(fr:Option mm)(I:Inv X mi σ H s){a:mm}(o:XOn qx X mi H s x C dx (some a) fl)(hfr:fr=none\/fr=some X.env.locals)
 (k:∀h',Inv X mi σ H {s with heap:=h'}->XOn qx X mi H {s with heap:=h'} x C dx (some a) (fr.elim Value.none λf=>rawInt f)->Q () {s with heap:=h'}):wpAny M A (setFlight (.ref x) fr) Q Er s:=by
 clear 5(id o.rc)ox vs gx cx dxe dtx tbx xc;clear 5(o.tb a rfl)ne hT nT oT ot ts gT dT t3;unfold setFlight;refine uo0 (PySem.wpAny_field gx dtx tbx ?_);rw[pW (show(Value.ref a != Value.none)=true from rfl)];refine PySem.wpAny_setField gT dT (Array.getElem?_eq_some_iff.mp t3).1 ?_;clear 5(PK dT (·.setIfInBounds 3 (fr.elim Value.none λf=>rawInt f)))m1 m2 m3;have gT2:=PySem.Heap.get?_update_self (Obj.mapFields (·.setIfInBounds 3 (fr.elim Value.none λf=>rawInt f))) gT (PySem.Obj.isFreed_of_fields m1);have oth:∀b,b≠a->(s.heap.update a (Obj.mapFields (·.setIfInBounds 3 (fr.elim Value.none λf=>rawInt f)))).get? b=s.heap.get? b:=λb z=>PySem.Heap.get?_update_other _ _ (Ne.symm z);have rc':XRec qx (s.heap.update a (Obj.mapFields (·.setIfInBounds 3 (fr.elim Value.none λf=>rawInt f)))) x C dx (.ref a):=⟨ox,vs,(oth x (Ne.symm ne)).trans gx,cx,dxe,dtx,tbx,xc⟩;refine k _ (I.left o.hx hT o.nx nT (ch:=[a]) ⟨λb u hb _ e=>(oth b (by simpa using hb)).trans e,λb u hb e=>⟨u.slots,(oth b (by simpa using hb)).trans e⟩⟩ (λb hb=>.inr (by simpa using hb)) rc'.is oT.2.1 oT.1 oT.2.2) ⟨o.hx,o.nx,rc',λa' e=>?_,?_⟩
 .cases e
  exact⟨ne,hT,nT,oT,_,_,gT2,m1,by rw[Array.getElem?_setIfInBounds_self,pW (Array.getElem?_eq_some_iff.mp t3).1]⟩
 .rcases hfr with rfl|rfl
  .exact .inl rfl
  .exact .inr rfl
theorem Lw(hA:A.frames=some X.stack)(I:Inv X mi σ H s)(hs:X.stack=X.env::X.outer)(hf:X.env.frame=some X.env.locals)(o:XOn qx X mi H s x C dx T fl)
 (k:∀h' a,Inv X mi σ H {s with heap:=h'}->XOn qx X mi H {s with heap:=h'} x C dx (some a) (rawInt X.env.locals)->Q () {s with heap:=h'}):wpAny M A (noteFrame (.ref x) X.env) Q Er s:=by
 clear 5(id o.rc)ox vs gx cx dxe dtx tbx xc;have fin:∀(s1:mn) (hh:∃h1,s1 = {s with heap:=h1}) (ch:List mm) (h':Heap) (a:mm),Inv X mi σ H s1->s1.heap.objs.size<=a->a≠x->XRec qx h' x C dx (.ref a)->Wn h' a (rawInt X.env.locals)->XKeep (frs (X.env::X.outer)) [x] s1.heap h'->Q () {s1 with heap:=h'}:=by
  rintro s1 ⟨h1,rfl⟩ ch h' a I1 l1 l2 l3 l4 l5;clear 5(I1.newT l1)o1 o2 o3;have J:=I1.left o.hx (I1.hok.fresh l1) o.nx (um6 I1.sz l1) (ch:=[x]) (hs ▸ l5) (λb hb=>.inl (by simpa using hb)) l3.is o2 o1 o3;exact k h' a J ⟨o.hx,o.nx,l3,λa' e=>by cases e;exact⟨l2,I1.hok.fresh l1,um6 I1.sz l1,⟨o1,o2,o3⟩,l4⟩,.inr rfl⟩
 unfold noteFrame;simp only[hf];refine uo0 (PySem.wpAny_field gx dtx tbx ?_)
 cases T with
 |none=>
   rw[pX (by decide)];exact NX (hA.trans (pQ some hs)) (hs ▸ I.stack) hf o.rc λh' a l1 l2 l3 l4 l5=>fin s ⟨s.heap,rfl⟩ [] h' a I l1 l2 l3 l4 l5
 |some T₀=>
   clear 5(o.tb T₀ rfl)ne hT nT oT ot ts gT dT t3;rw[pW (show(Value.ref T₀ != Value.none)=true from rfl)];refine uo0 (PySem.wpAny_field gT dT t3 ?_);rcases o.fo with rfl|rfl
   .rw[pX (show ¬((Value.none==rawInt X.env.locals)=true) from by simp[rawInt])];refine uo0 (PySem.wpAny_setField gT dT (Array.getElem?_eq_some_iff.mp t3).1 ?_);have oth:∀b,b≠T₀->(s.heap.update T₀ (Obj.mapFields (·.setIfInBounds 3 Value.none))).get? b=s.heap.get? b:=λb z=>PySem.Heap.get?_update_other _ _ (Ne.symm z);have rc':XRec qx (s.heap.update T₀ (Obj.mapFields (·.setIfInBounds 3 Value.none))) x C dx (.ref T₀):=⟨ox,vs,(oth x (Ne.symm ne)).trans gx,cx,dxe,dtx,tbx,xc⟩;have J:=I.left o.hx hT o.nx nT (ch:=[T₀]) ⟨λb u hb _ e=>(oth b (by simpa using hb)).trans e,λb u hb e=>⟨u.slots,(oth b (by simpa using hb)).trans e⟩⟩ (λb hb=>.inr (by simpa using hb)) rc'.is oT.2.1 oT.1 oT.2.2;exact NX (s:={s with heap:=s.heap.update T₀ (Obj.mapFields (·.setIfInBounds 3 Value.none))}) (hA.trans (pQ some hs)) (hs ▸ J.stack) hf rc' λh' a l1 l2 l3 l4 l5=>fin _ ⟨_,rfl⟩ [] h' a J l1 l2 l3 l4 l5
   .rw[pW (show(rawInt X.env.locals==rawInt X.env.locals)=true from by first|(simp;done)|exact ui4 _)];exact uo1 (k s.heap T₀ I ⟨o.hx,o.nx,o.rc,o.tb,.inr rfl⟩)
end
def XE(qx:Bool)(X:Cx)(E:St->XK):mj->mn->Prop:=λe s=>∃mi σ H x C dx T fl,e=.ref x/\Inv X mi σ H s/\XOn qx X mi H s x C dx T fl/\E σ (.ref x) dx H
def Ff(CX:CXT)(X:Cx)(E:St->XK):Prop:=∀(mi:List (mm×Obj)) (σ:St) (H:Hp) (s:mn) (e:mj) (s':mn),Inv X mi σ H s->CX X.stack H s (E σ) e s'->X.xe e s'
section
variable{M:Model}{X:Cx}{E:St->XK}
theorem XE.own(hs:X.stack=X.env::X.outer)(hf:X.env.frame=some X.env.locals):PassesOwn M X.A X.env (XE qx X E):=by
 rintro e s ⟨mi,σ,H,x,C,dx,T,fl,rfl,I,o,q⟩;refine Lw I.ok.frames I hs hf o λh' a I' o'=>?_;clear 5(id o'.rc)ox vs gx cx dxe dtx tbx xc;unfold cameBackBy;refine uo0 (PySem.wpAny_field gx dtx tbx ?_);rw[pX (show ¬((Value.ref a==Value.none)=true) from by intro z;cases z)]
 rw[hf];exact IB _ I' o' (.inr rfl) λh'' I'' o''=>⟨mi,σ,H,x,C,dx,some a,_,rfl,I'',o'',q⟩
theorem XE.pass:Ff (CX1 qx X.prog X.w) (X.wish (XE qx X E)) E:=by
 intro mi σ H s e s' I q;clear 5(I.unwish.raised q)x C dx T H' rfl J hx nx nT ne hT r tb q;exact⟨mi,σ,H',x,C,dx,some T,.none,rfl,J,⟨hx,um6 I.sz nx,r,λa e=>by cases e;exact⟨ne,hT,um6 I.sz nT,I.unwish.newT nT,tb⟩,.inl rfl⟩,q⟩
end
section
variable{P:mq}{w:mw}{K:mh}{mg:Str->Option mj}{base:Heap}
abbrev cxX(qx:Bool)(P:mq)(w:mw)(K:mh)(mg:Str->Option mj)(base:Heap)(N:List Str)(qual:Str)(scope:Scope)(f:mm)(cd:mj)(A:Around)(outer:List Env)(s:mn)(H:Hp)(E:XK):Cx:=
 (FO (CX1 qx P w) P w K mg base N qual scope f cd A outer s H E).wish (XE qx (FO (CX1 qx P w) P w K mg base N qual scope f cd A outer s H E) λ_=>E)
theorem XE.leaves{N:List Str}{qual:Str}{scope:Scope}{f:mm}{cd:mj}{A:Around}{outer:List Env}{s₀:mn}{H₀:Hp}{E:XK}{e:mj}{s:mn}
 (h:XE qx (FO (CX1 qx P w) P w K mg base N qual scope f cd A outer s₀ H₀ E) (λ_=>E) e s):(FO (CX1 qx P w) P w K mg base N qual scope f cd A outer s₀ H₀ E).xe e s:=by
 clear 5 h mi σ H x C dx T fl rfl I o q;refine uo0 (Lw I.ok.frames I rfl rfl o λh' a I' o'=>?_);refine IB none I' o' (.inl rfl) λh'' I'' o''=>?_;clear 5(o''.tb a rfl)ne hT nT oT tb;exact⟨x,C,dx,a,H,rfl,I''.os,I''.bare,I''.base,I''.hok,o''.hx,o''.nx,nT,ne,hT,o''.rc,tb,q⟩
theorem Fun.okX{x qual:Str}{st:Stmt}{f:mm}{fd:mx}{N ps:List Str}{k:Nat}{sp:Sp}(F:Fun K x qual st f fd)(S:FnScope N ps (AN st))(len:∀vs H Q E,sp vs H Q E->vs.length=ps.length)
 (hbody:∀(cdv:mj) (A:Around) (outer:List Env) (s:mn) (H:Hp) (vs:List V) (Q:VK) (E:XK),Room k (A.deeper (envOfC qual (AN st) s.heap.objs.size f cdv))->sp vs H Q E->
   ∃t,PSs (cxX qx P w K mg base N qual (AN st) f cdv A outer s H E) (DG st) t/\t {nx:=λ_ H'=>Q .non H',rt:=Q} (EX N vs) H):FnOk P w K mg base (CX1 qx P w) (k+1) f fd ps sp:=by
 clear 5 F.ex oc od kV doc pm an cdv ct osl rfl lk hcd;refine YB lk hcd S len λA outer s H vs Q E hr hsp=>?_;clear 5(hbody cdv A outer s H vs Q E hr hsp)t h q;exact⟨t,λmi s1 σ H1 D I hw=>uo2 (h mi s1 σ H1 D (I.wish _) hw) (λ_ _ q=>q.unwish) λ_ _ z=>z.leaves,q⟩
end
section
variable{X:Cx}{CX:CXT}{k:Nat}{f:mm}{fd:mx}{ps:List Str}{sp:Sp}{E:St->XK}{x:Str}{p pos:Pos}{e:Expr}{es:List Expr}{t:TA}
def VW(sp:Sp)(E:St->XK)(t:TA):TE:=λσ H Q=>t σ H λvs H1=>sp vs H1 Q (E σ)
theorem Xu(F:FnOk X.prog X.w X.K X.mg X.base CX k f fd ps sp)(hr:Room k X.A)(hg:Gl X x)(hm:X.mg x=some (.ref f))(hk:PySem.W.keepIn X.K (.ref f)=true)(hb:Binds X.K fd ps [])(hx:Ff CX X E)
 (ha:PA X (e::es) t) (hdb:autoParam ((x==("__debug__":Str))=false) q1T) (he:autoParam (starEach (e::es) X.env=(false,eval e X.env)::starEach es X.env) q3T) (hpl:autoParam ((backTo pos (starEach es X.env)).any (·.1)=false) q3T) :
 PE X (.Call (.Name x p) (e::es) [] pos) (VW sp E t):=by
 intro mi s σ H Q I h;refine PySem.wpAny_Call_Name_kw (Fk I hg hm ?_ hdb);refine PySem.W.callWith_K (h₀:=X.base) I.ok.mod.kin hk (thn (ha pos mi s σ H _ I h) λus s1 z9=>?_) he hpl;clear 5 z9 vs H1 I1 r q;refine⟨I1.kIn,?_⟩;have hl:(us++[]).length=ps.length:=by rw[ui9,<-r.length];exact F.len _ _ _ _ q
 refine pN (pF (F.run X.A X.stack s1 H1 ⟨us,[]⟩ us vs Q (E σ) hr I1.env0 (by have:=hb s1 us I1.kIn hl;rwa [ui9] at this) r q) λr s' hq=>?_)
 cases r with
 |error e=>exact hx mi σ H1 s1 e s' I1 hq
 |ok fl=>
   cases fl with
   |ret u=>exact I1.after hq
   |next=>exact False.elim hq
   |brk=>exact False.elim hq
   |cont=>exact False.elim hq
end
end
section
variable{qx:Bool}
def PM(qx:Bool)(X:Cx)(e:Expr)(C:mm)(t:St->Hp->(mm->Option mm->Hp->Prop)->Prop):Prop:=
 ∀(mi:List (mm×Obj)) (s:mn) (σ:St) (H:Hp) (Q:mm->Option mm->Hp->Prop),Inv X mi σ H s->t σ H Q->
  wpAny (model X.prog X.w) X.A (eval e X.env) (λv s1=>XB3 λx dx H1=>AB6 (v=.ref x) (Inv X mi σ H1 s1) (H1 x=some (.ext (L2.XIs qx x C dx))) (X.s₀.heap.objs.size<=x) (XRec true s1.heap x C dx .none) (Q x dx H1)) X.xe s
def LN(qx:Bool)(X:Cx)(E:St->XK):Prop:=∀(mi:List (mm×Obj)) (σ:St) (H:Hp) (s:mn) (x C:mm) (dx:Option mm),Inv X mi σ H s->XOn qx X mi H s x C dx none .none->E σ (.ref x) dx H->X.xe (.ref x) s
theorem XE.raises{X:Cx}{E:St->XK}:LN qx (X.wish (XE qx X E)) E:=λmi σ H s x C dx I o q=>⟨mi,σ,H,x,C,dx,none,.none,rfl,I.unwish,⟨o.hx,o.nx,o.rc,o.tb,o.fo⟩,q⟩
theorem XC{X:Cx}{e:Expr}{C:mm}{bm:List mj}{t:St->Hp->(mm->Option mm->Hp->Prop)->Prop}{E:St->XK}{pos:Pos}(hc:X.calm=true)(c:XCl X.K C bm)(hx:LN qx X E)(h:PM qx X e C t)
 (ho:autoParam (evalOpt (some e) X.env=some (eval e X.env)) q3T):PS X (.Raise (some e) none pos) (λ_ σ H=>t σ H λx dx H1=>E σ (.ref x) dx H1):=by
 intro mi s σ H D I q;rw[arm_exec_Raise,ho];refine uo0 (pA ?_);refine XN (qx:=true) c (I.ok.hd hc) ?_;refine uo0 (uo2 (h mi s σ H _ I q) (λv s1 z9=>?_) λ_ _ z=>z);clear 5 z9 x dx H1 e1 I1 hx1 nx r q1;subst e1;refine uo0 (pA (uo1 ⟨x,dx,rfl,I1.kIn,r,hx mi σ H1 s1 x C dx I1 ⟨hx1,nx,r.to,(λa e=>by cases e),.inl rfl⟩ q1⟩))
set_option tactic.hygienic true in
theorem Tb{K:mh}{h:Heap}{N:mm}{m:Str->Option mj}{n:Str}(X:K.In h)(G:h.Ns N m)(e:nsIn K N n=some none):m n=none:=by
 obtain⟨o,es,ep,ho,hd,_,hf⟩:=G;unfold nsIn at e
 split at e
 .next c d es' n' sl q=>
  have z:=X _ _ q;rw[ho] at z
  cases z
  cases hd
  split at e
  .cases e
  .next he=>rw[<-hf];unfold nsFind findBy;rw[<-Array.find?_toList,he];rfl
 .cases e
section
variable{prog:mq}{w:mw}{A:Around}{E:mj->mn->Prop}{h:Heap}{g:Array GenState}{d:Drawn}{t:Nat}{os:OsState}{Q:mj->mn->Prop}
variable{nm q:Str}{C N:mm}{bs bm bmB:List mj}{hdct:Bool}{sn:List Str}{sub:List mj}{ab:Bool}{col:Option Bool}{dd:Option mm}{k0 k1 k2 k3 k5:Option mj}{B newId initId:String}{mN:Str->Option mj}
theorem UZ(F:ExcBaseFacts B newId initId bmB)(T:OwnTail h bmB bm){us:List mj}(hC:h.get? C=some (excClassObj nm q C N bs bm hdct sn sub ab col dd k0 k1 k2 k3 k5 newId))(hn:h.Ns N mN)(hni:mN "__init__" = none)(hus:us.length<=sizeLine)
 (hq:∀h' tp,(∀b o,h.get? b=some o->h'.get? b=some o)->h'.get? (h.objs.size+1)=some (Ul C tp)->Q (.ref (h.objs.size+1)) ⟨h',g,d,t,os⟩) :
 wpAny (model prog w) A (call (.ref C) us) Q E ⟨h,g,d,t,os⟩:=by
 have c1:=tc_lookup;have c2:=tc_bind (.ref C);have ty:(⟨h,g,d,t,os⟩:mn).TypeIs (.ref C) "type":=⟨_,hC,rfl⟩;refine pN (codeAny_of_tree ?_);show wpAny _ _ (callAny (.ref C) _) _ _ _
 repeat (any_goals (first
  |assumption
  |with_reducible refine PySem.wpAny_loadPart_at hC ?_
  |wp_step))
 refine⟨rfl,codeAny_call_builtin_at (Code.quiet_builtin _ (by decide +kernel)) entry_typeCall (wpAny_check_type_call_sub hC ?_)⟩
 repeat (first
  |with_reducible refine PySem.wpAny_loadPart_at hC ?_
  |with_reducible refine wpAny_madeBy_exc hC ?_
  |wp_step)
 refine codeAny_call_builtin_code (Code.quiet_builtin _ F.quiet) (wpAny_check_new_subT F T hC (codeAny_exc_new_subT F T hC ?_ hus))
 change wpAny _ _ _ _ _ (Shared.mk (Ms h C us) g d t os)
 have kp:∀b o,h.get? b=some o->(Ms h C us).get? b=some o:=λb o e=>ub7 _ (ub7 _ e);have he:(Ms h C us).get? (h.objs.size+1)=some {cls:=.ref C,data:=.fields #[.ref h.objs.size,.none,.none,.none,.bool false,.none]}:=by heap_get
 have n1:(Ms h C us).Ns N mN:=hn.keeps kp;have cC:(Value.ref C::bm).contains (.ref C)=true:=by simp
 unfold isInstance
 repeat (first
  |with_reducible refine PySem.wpAny_loadPart_at he ?_
  |(with_reducible refine PySem.wpAny_isSubtype_exc (kp _ _ hC) ?_;rw[cC])
  |wp_step)
 show wpAny _ _ (typeLookup (.ref C) _) _ _ _;refine wpAny_typeLookup_tail (kp _ _ hC) n1 (T.keeps kp) F.mroIs F.init.lookup ?_;rw[hni];refine um3 (uo0 (wpAny_of_eq (F.init.bind _) (uo0 (pN (codeAny_call_builtin F.init.plain F.initEntry (wpAny_check_init_subT F (T.keeps kp) (kp _ _ hC) he rfl ?_))))))
 wp_walk
 refine hq _ ((Ms h C us).objs.size) (λb o hb=>?_) ?_
 .rw[PySem.Heap.get?_update_other _ _ (um8 (Nat.lt_succ_of_lt (um4 hb)))];exact ub7 _ (kp b o hb)
 .rw[PySem.Heap.get?_update_self _ (ub7 _ he) rfl];rfl
end
section
variable{X:Cx}{k:Nat}{f C P:mm}{fd:mx}{a:Str}{ps:List Str}{n:Str}{p pos:Pos}{e:Expr}{es:List Expr}
set_option tactic.hygienic true in
theorem az{t:TA}{bm:List mj}{cd:ClassData}(c:XCl X.K C bm)(hk:keepIn X.K (.ref C)=true)(hcd:clsIn X.K C=some cd)(hni:nsIn X.K cd.ns "__init__" = some none)(hg:Gl X n)(hm:X.mg n=some (.ref C))(ha:PA X (e::es) t)
 (hdb:autoParam ((n==("__debug__":Str))=false) q1T) (h1:autoParam (starEach (e::es) X.env=(false,eval e X.env)::starEach es X.env) q3T) (hpl:autoParam ((backTo pos (starEach es X.env)).any (·.1)=false) q3T) :
 PM qx X (.Call (.Name n p) (e::es) [] pos) C (λσ H Q=>t σ H λvs H1=>vs.length<=1000/\∀x,H1 x=none->Q x none (upd H1 x (.ext (L2.XIs qx x C none)))):=by
 intro mi s σ H Q I h;refine PySem.wpAny_Call_Name_kw (Fk I hg hm ?_ hdb);refine PySem.W.callWith_K (h₀:=X.base) I.ok.mod.kin hk (thn (ha pos mi s σ H _ I h) λus s1 z9=>?_) h1 hpl;clear 5 z9 vs H1 I1 r hl q;refine⟨I1.kIn,?_⟩;clear 5(c.obj I1.kIn)nm q' N bs sn sub ab col dd k0 k1 k2 k3 k5 hC hN;have hni':s1.heap.nsMap N "__init__" = none:=by
  unfold clsIn at hcd
  split at hcd
  .next l=>
   cases hcd
   have z:=I1.kIn _ _ l;rw[hC] at z
   cases z
   exact Tb I1.kIn hN hni
  .cases hcd
 clear 5 s1 hh g d tk os;refine UZ PySem.F.excBase_ValueError (c.tail I1.kIn) hC hN hni' (by show us.length<=sizeLine;rw[<-r.length];exact um6 hl (by decide)) λh' tp kp ht=>?_;have xr:XRec true h' (hh.objs.size+1) C none .none:=⟨_,_,ht,rfl,rfl,rfl,rfl,λ_=>⟨rfl,by show 4<6;decide⟩⟩;exact⟨_,none,_,rfl,I1.laid (h':=h') (t':=tk) kp (Nat.le_succ _) (Um xr.to.is),Be,um6 I1.sz (Nat.le_succ _),xr,q _ (I1.hok.fresh (Nat.le_succ _))⟩
end
end
section
variable{qx:Bool}
abbrev Cx.mark(X:Cx)(x:mm):Cx:={X with A:=X.A.mark (some (.ref x)),calm:=false,xe:=λ_ _=>False}
section
variable{X:Cx}{mi:List (mm×Obj)}{σ:St}{H:Hp}{s:mn}{D:Ends}
theorem Inv.mark(I:Inv X mi σ H s)(x:mm):Inv (X.mark x) mi σ H s:=
 ⟨⟨I.ok.mod,I.ok.kind,I.ok.glob,I.ok.blt,I.ok.above,I.ok.inj,I.ok.has,I.ok.cab,(λz=>by cases z),I.ok.frames,I.ok.stk,I.ok.exf,I.ok.bs,I.ok.bsz,I.ok.noex,I.ok.exfs,I.ok.funs,I.ok.frf⟩,I.os,I.bare,I.base,I.loc,I.cell,I.free,I.freeC,I.pin,I.hok,I.len⟩
theorem Inv.unmark{x:mm}(J:X.Ok)(I:Inv (X.mark x) mi σ H s):Inv X mi σ H s:=⟨J,I.os,I.bare,I.base,I.loc,I.cell,I.free,I.freeC,I.pin,I.hok,I.len⟩
theorem Inv.repin{pn' pins':List (mm×Obj)}{xe:mj->mn->Prop}(I:Inv X mi σ H s)(h:∀p∈pn'++pins',p∈X.pn++mi):Inv {X with pn:=pn',xe:=xe} pins' σ H s:=
 ⟨⟨I.ok.mod,I.ok.kind,I.ok.glob,I.ok.blt,I.ok.above,I.ok.inj,I.ok.has,I.ok.cab,I.ok.hd,I.ok.frames,I.ok.stk,I.ok.exf,I.ok.bs,I.ok.bsz,I.ok.noex,I.ok.exfs,I.ok.funs,I.ok.frf⟩,I.os,I.bare,I.base,I.loc,I.cell,I.free,I.freeC,λp hp=>I.pin p (h p hp),I.hok,I.len⟩
theorem SP.unmark{x:mm}(J:X.Ok){f:Flow}(h:SP (X.mark x) mi D f s):SP X mi D f s:=by
 cases f with
 |next=>clear 5 h σ' H' I q;exact⟨σ',H',I.unmark J,q⟩
 |brk=>clear 5 h σ' H' I q;exact⟨σ',H',I.unmark J,q⟩
 |cont=>clear 5 h σ' H' I q;exact⟨σ',H',I.unmark J,q⟩
 |ret u=>clear 5 h v σ' H' I r q;exact⟨v,σ',H',I.unmark J,r,q⟩
theorem Jr{M:Model}{A:Around}{E:mj->mn->Prop}{i:Nat}{n:Str}{pos:Pos}{Q:Unit->mn->Prop}(I:Inv X mi σ H s)(hN:X.N.Nodup)(hi:X.N[i]?=some n)(hk:X.env.scope.names.lookup n=some .local)
 (h:∀s',Inv X mi (σ.set i none) H s'->Q () s'):wpAny M A (do bindName X.env n .none;unbindBehindTheSuite X.env n pos) Q E s:=by
 refine uo0 (wpAny_bindName (Jp (v:=.non) I hN hi (.inl hk) rfl (λs1 I1=>?_) (.inr hk)));unfold unbindBehindTheSuite;have hiσ:i < σ.length:=by rw[I.len];exact(ua7.mp hi).1
 clear 5(id I1.loc)m hn hl;have hcls:(X.env.scope.kind==.class||(X.env.scope.kind==.module&&X.env.locals != X.env.globals))=false:=by rw[I.ok.kind];rfl
 obtain⟨u0,_,lk⟩:=hl i n .non hi (by rw[ub6 hiσ]) (.inl hk);have hv:m n=some u0:=by
  rcases lk with⟨_,e⟩|⟨k,_⟩
  .exact e
  .have k:X.env.scope.names.lookup n=some .cell\/X.env.scope.names.lookup n=some .free:=k;rw[hk] at k;rcases k with k|k<;>cases k
 refine wpAny_onRaise (wpAny_unbindName_local hk hn hv hcls λh' u hn' hs=>?_);have cne:=I1.cne;have tracked:HOk X.prog X.w H h':=λb ob e=>by
  refine(I1.hok b ob e).stay (λc w' hc q=>(hs.2 c ?_).trans q) (λ_ q=>q) λ_ _ q=>q;rintro rfl;rcases hc with rfl|hc
  .rw[I1.free] at e;cases e
  .rw[I1.free] at hc;cases hc
 have far:∀b o,X.s₀.heap.get? b=some o->b≠X.env.locals:=λb o e=>um5 (ue5 (um4 e) I1.ok.above);refine h _ ⟨I1.ok,I1.os,I1.bare,⟨λb o e n hb hx=>?_,λb o e n hb hx=>?_,I1.base.free,λb o e hx=>?_,I1.base.tups,I1.base.frzs,I1.base.tbls⟩,⟨_,hn',λj y v' e1 e2 e3=>?_⟩,λy c e=>?_,I1.free,I1.freeC,λp hp=>?_,tracked,by simpa using I.len⟩
 .exact(hs.2 b (far b o e)).trans (I1.base.keep b o e n hb hx)
 .clear 5(I1.base.slot b o e n hb hx)sl e1;exact⟨sl,(hs.2 b (far b o e)).trans e1⟩
 .clear 5(I1.base.there b o e hx)o' e1;exact⟨o',(hs.2 b (far b o e)).trans e1⟩
 .by_cases hj:j=i
  .subst hj;rw[ub6 hiσ] at e2
   cases e2
  .rw[ud3 (Ne.symm hj)] at e2;clear 5(hl j y v' e1 (by rw[ud3 (Ne.symm hj)];exact e2) e3)u' r' q;refine⟨u',r',?_⟩;rcases q with⟨k,e⟩|⟨k,c,e,z⟩
   .refine .inl ⟨k,?_⟩;have:y≠n:=λe=>hj (Lv hN e1 (e ▸ hi));simp[this,e]
   .exact .inr ⟨k,c,e,z.sameBut hs (cne y c e)⟩
 .clear 5(I1.cell y c e)w' z;exact⟨w',z.sameBut hs (cne y c e)⟩
 .clear 5(I1.pin p hp)e n ne nf d;exact⟨(hs.2 p.1 ne).trans e,n,ne,nf,d⟩
end
def PH(qx:Bool)(X:Cx)(hs:List ExceptHandler)(th:mm->mm->Option mm->TS):Prop:=∀(mi:List (mm×Obj)) (s:mn) (σ:St) (H:Hp) (x C:mm) (dx:Option mm) (T:mm) (D:Ends),Inv X mi σ H s->XOn qx X mi H s x C dx (some T) .none->th x C dx D σ H->
 wpAny (model X.prog X.w) X.A (handleBy (.ref x) X.env hs) (SP X mi D) X.xe s
noncomputable def Ends.unset(D:Ends)(i:Nat):Ends:={nx:=λσ H=>D.nx (σ.set i none) H,rt:=D.rt,bk:=λσ H=>D.bk (σ.set i none) H,ct:=λσ H=>D.ct (σ.set i none) H}
section
variable{X:Cx}{n v:Str}{C':mm}{bm':List mj}{p pos:Pos}{b₀:Stmt}{suite:List Stmt}{rest:List ExceptHandler}{ts:mm->TS}{tr:mm->mm->Option mm->TS}{i:Nat}
def jM(K:mh)(C':mm)(i:Nat)(ts:mm->TS)(tr:mm->mm->Option mm->TS):mm->mm->Option mm->TS:=λx C dx D σ H=>∃bm,XCl K C bm/\
 if (Value.ref C::bm).contains (.ref C')=true then ts x (D.unset i) (σ.set i (some (.ref x))) H else tr x C dx D σ H
theorem gU(hg:Gl X n)(hm:X.mg n=some (.ref C'))(c':XCl X.K C' bm')(hN:X.N.Nodup)(hi:X.N[i]?=some v)(hl:X.env.scope.names.lookup v=some .local)(hb:∀x,PSs (X.mark x) (b₀::suite) (ts x))(hr:PH qx X rest tr)
 (hdb:autoParam ((n==("__debug__":Str))=false) q1T):PH qx X (.ExceptHandler (some (.Name n p)) (some v) (b₀::suite) pos::rest) (jM X.K C' i ts tr):=by
 intro mi s σ H x C dx T D I o ⟨bm,c,q⟩;have Im:=I.mark x;refine wpAny_handleBy_cons (codeAny_handlers_test (Fk Im hg hm ?_ hdb)) (by intro z;cases z)
 refine PL c c' I.kIn o.rc ?_
 cases hc:(Value.ref C::bm).contains (.ref C') with
 |false=>
   rw[hc,pX (by decide)] at q;exact hr mi s σ H x C dx T D I o q
 |true=>
   rw[hc,pW rfl] at q;refine codeAny_handlers_suite_as ?_;refine IB none I o (.inl rfl) λh1 I1 o1=>?_;refine Jp (v:=.ref x) I1 hN hi (.inl hl) rfl (λs2 I2=>?_) (.inr hl);refine uo2 (hb x mi s2 _ H _ (I2.mark x) q) (λf s3 z=>?_) λ_ _ z=>z.elim;show wpAny _ _ _ _ _ _;have J:=I.ok
   cases f with
   |next=>clear 5 z σ' H' I' q';exact Jr (I'.unmark J) hN hi hl λs4 I4=>⟨_,H',I4,q'⟩
   |brk=>clear 5 z σ' H' I' q';exact Jr (I'.unmark J) hN hi hl λs4 I4=>⟨_,H',I4,q'⟩
   |cont=>clear 5 z σ' H' I' q';exact Jr (I'.unmark J) hN hi hl λs4 I4=>⟨_,H',I4,q'⟩
   |ret u=>clear 5 z w σ' H' I' r q';exact Jr (I'.unmark J) hN hi hl λs4 I4=>⟨w,_,H',I4,r,q'⟩
def jN(K:mh)(C':mm)(ts:TS)(tr:mm->mm->Option mm->TS):mm->mm->Option mm->TS:=λx C dx D σ H=>∃bm,XCl K C bm/\
 if (Value.ref C::bm).contains (.ref C')=true then ts D σ H else tr x C dx D σ H
theorem gW{ts:TS}(hg:Gl X n)(hm:X.mg n=some (.ref C'))(c':XCl X.K C' bm')(hb:∀x,PSs (X.mark x) (b₀::suite) ts)(hr:PH qx X rest tr)
 (hdb:autoParam ((n==("__debug__":Str))=false) q1T):PH qx X (.ExceptHandler (some (.Name n p)) none (b₀::suite) pos::rest) (jN X.K C' ts tr):=by
 intro mi s σ H x C dx T D I o ⟨bm,c,q⟩;have Im:=I.mark x;refine wpAny_handleBy_cons (codeAny_handlers_test (Fk Im hg hm ?_ hdb)) (by intro z;cases z)
 refine PL c c' I.kIn o.rc ?_
 cases hc:(Value.ref C::bm).contains (.ref C') with
 |false=>
   rw[hc,pX (by decide)] at q;exact hr mi s σ H x C dx T D I o q
 |true=>
   rw[hc,pW rfl] at q;refine codeAny_handlers_suite ?_;refine IB none I o (.inl rfl) λh1 I1 o1=>?_;exact uo2 (hb x mi _ _ H _ (I1.mark x) q) (λf s3 z=>z.unmark I.ok) λ_ _ z=>z.elim
theorem eH{body:List Stmt}{h₀:ExceptHandler}{hs:List ExceptHandler}{tb:(St->XK)->TS}{th:mm->mm->Option mm->TS}(h1:X.stack=X.env::X.outer)(h2:X.env.frame=some X.env.locals)
 (hb:∀(pn:List (mm×Obj)) (E:St->XK),PSs {X with pn:=pn,xe:=XE qx {X with pn:=pn} E} body (tb E)) (hh:PH qx X (h₀::hs) th) :
 PS X (.Try body (h₀::hs) [] [] pos) (λD σ H=>tb (λσ' v dx H'=>∀x C,v=.ref x->H' x=some (.ext (L2.XIs qx x C dx))->(∃h,L2.XIs qx x C dx h)->th x C dx D σ' H') D σ H):=by
 intro mi s σ H D I q;refine wpAny_Try_except ?_;refine uo2 (hb (X.pn++mi) _ [] s σ H D (I.repin λp hp=>by simpa using hp) q) (λf s1 z=>?_) λe s1 z=>?_
 .have back:∀{σ':St}{H':Hp},Inv {X with pn:=X.pn++mi,xe:=XE qx {X with pn:=X.pn++mi} (λσ' v dx H'=>∀x C,v=.ref x->H' x=some (.ext (L2.XIs qx x C dx))->(∃h,L2.XIs qx x C dx h)->th x C dx D σ' H')} [] σ' H' s1->Inv X mi σ' H' s1:=λJ=>J.repin (X:={X with pn:=X.pn++mi,xe:=_}) (pn':=X.pn) (pins':=mi) (xe:=X.xe) λp hp=>by simpa using hp
  cases f with
  |next=>clear 5 z σ' H' J q';exact PySem.wpAny_execs_nil ⟨σ',H',back J,q'⟩
  |brk=>clear 5 z σ' H' J q';exact⟨σ',H',back J,q'⟩
  |cont=>clear 5 z σ' H' J q';exact⟨σ',H',back J,q'⟩
  |ret u=>clear 5 z w σ' H' J r q';exact⟨w,σ',H',back J,r,q'⟩
 .clear 5 z pins' σ' H' x C dx T fl rfl J o q';have J1:Inv X mi σ' H' s1:=J.repin (X:={X with pn:=X.pn++mi}) (pn':=X.pn) (pins':=mi) (xe:=X.xe) λp hp=>by
   simp only[ui5] at hp⊢;exact .inl hp
  have o1:XOn qx X mi H' s1 x C dx T fl:=⟨o.hx,o.nx,o.rc,λa e=>by
   obtain⟨z1,z2,z3,⟨y1,y2,y3⟩,z5⟩:=o.tb a e;exact⟨z1,z2,z3,⟨y1,y2,λp hp=>y3 p (by simp only[ui5] at hp⊢;exact .inl hp)⟩,z5⟩,o.fo⟩
  refine Lw J1.ok.frames J1 h1 h2 o1 λh' a I' o'=>IB none I' o' (.inl rfl) λh'' I'' o''=>?_;exact hh mi _ σ' H' x C dx a D I'' o'' (q' x C rfl o.hx ⟨_,o.rc.is⟩)
end
end
section
variable{qx:Bool}
noncomputable def BI:D->Bool
 |.exc _ _=>true
 |_=>false
def exE(E:XK)(v:V)(H:Hp):Prop:=∀x dx,v=.ref x->E (.ref x) dx H
section
variable(K:mh)
inductive RX(E:L2.St->XK)(f:M D)(σ:L2.St)(H:Hp)(Q:VK):Prop where
 |mk (Oo:mm->Prop) (c:Cf) (t:T) (fi:FInv K Oo c t σ H) (r:D) (t':T) (e:f t=some (r,t')) (k:∀v H' c',FInv K Oo c' t' σ H'->Stp Oo c H c' H'->Rep K c' H' v r->if BI r=true then exE (E σ) v H' else Q v H'):RX E f σ H Q
def μX(E:XK):Cf->Hp->D->(V->Hp->Prop)->Prop:=λc H r rt=>∀v,Rep K c H v r->if BI r=true then exE E v H else rt v H
inductive RSX(E:L2.St->XK)(f:M Out)(D:Ends)(σ:L2.St)(H:Hp):Prop where
 |mk (Oo:mm->Prop) (c:Cf) (t:T) (fi:FInv K Oo c t σ H) (o:Out) (t':T) (e:f t=some (o,t')) (k:∀σ' H' c',FInv K Oo c' t' σ' H'->Stp Oo c H c' H'->
 match (generalizing:=false) o with
 |.next=>D.nx σ' H'
 |.brk=>D.bk σ' H'
 |.cont=>D.ct σ' H'
 |.ret r=>∀v,Rep K c' H' v r->if BI r=true then exE (E σ') v H' else D.rt v H'):RSX E f D σ H
inductive spX(f:Fn)(vs:List V)(H:Hp)(Q:VK)(E:XK):Prop where
 |mk (c:Cf) (ds:List D) (S:List Ob) (si:SInv K c S H) (rs:Reps K c H vs ds) (r:D) (S':List Ob) (e:f ds S=some (r,S')) (k:∀v H' c',SInv K c' S' H'->Stp c.O c H c' H'->(∀b,c'.O b↔c.O b)->Rep K c' H' v r->if BI r=true then exE E v H' else Q v H'):spX f vs H Q E
end
variable{fa:mm}{fd:mx}
section
variable{P:mq}{w:mw}{K:mh}{mg:Str->Option mj}{base:Heap}
set_option tactic.hygienic true in
theorem ZF{x qual:Str}{st:Stmt}{N ps:List Str}{k n m:Nat}{g:M Out}(e1:ps.length=n)(e2:N.length=m)(F:Fun K x qual st fa fd)(S:FnScope N ps (AN st))
 (hb:∀(cdv:mj) (A:Around) (outer:List Env) (s:mn) (H:Hp) (E:XK),Room k (A.deeper (PyProof.Rows.envOfC qual (AN st) s.heap.objs.size fa cdv))->
   Ff (CX1 qx P w) (cxX qx P w K mg base N qual (AN st) fa cdv A outer s H E) (λ_=>E)->LN qx (cxX qx P w K mg base N qual (AN st) fa cdv A outer s H E) (λ_=>E)->
   PassesOwn (model P w) (cxX qx P w K mg base N qual (AN st) fa cdv A outer s H E).A (cxX qx P w K mg base N qual (AN st) fa cdv A outer s H E).env (cxX qx P w K mg base N qual (AN st) fa cdv A outer s H E).xe->
   PSs (cxX qx P w K mg base N qual (AN st) fa cdv A outer s H E) (DG st) (RSg K (μX K E) g)):FnOk P w K mg base (CX1 qx P w) (k+1) fa fd ps (spX K (fnOf n m g)):=by
 subst e1 e2;have hlen:∀{ds:List D}{S:List Ob}{z:D×List Ob},fnOf ps.length N.length g ds S=some z->ds.length=ps.length:=λ{ds S z} h=>by
  unfold fnOf at h
  split at h
  .next h1=>exact h1
  .cases h
 refine F.okX S (λvs H Q E h=>?_) (λcdv A outer s H vs Q E hr h=>?_)
 .obtain⟨c,ds,S,si,rs,r,S',e,_⟩:=h;rw[rs.length];exact hlen e
 clear 5 h c ds S0 si rs r S' e kk;refine⟨RSg K (μX K E) g,hb cdv A outer s H E hr XE.pass XE.raises (XE.own rfl rfl),?_⟩;have hl:=hlen e;unfold fnOf at e;rw[pW hl] at e
 cases eg:g ⟨env0 N.length ds,S0⟩ with
 |none=>rw[eg] at e;cases e
 |some p=>
   clear 5 p o t;rw[eg] at e;refine⟨c.O,c,_,IW si rs,o,t,eg,λσ' H' c' f' s'=>?_⟩;clear 5 f'.leave si' ext';have st':Stp c.O c H ⟨c'.ι,c.O⟩ H':=⟨s'.ext.trans ext',s'.oo⟩
   cases o with
   |next=>cases e;exact kk .non H' _ si' st' (λ_=>pV) .non
   |ret d=>cases e;exact λv rv=>kk v H' _ si' st' (λ_=>pV) (rv.mono ext')
   |brk=>cases e
   |cont=>cases e
theorem aR{ps:List Str}{k:Nat}{f g:Fn}(e:f=g)(h:FnOk P w K mg base (CX1 qx P w) k fa fd ps (spX K g)):FnOk P w K mg base (CX1 qx P w) k fa fd ps (spX K f):=by rw[e];exact h
end
variable{f g:M D}{r:D}
section
variable{X:Cx}{e a b:Expr}{es:List Expr}{pos:Pos}{E:L2.St->XK}{st:Stmt}
theorem Oz{E:XK}{f:M Out}(h:PS X st (RSX X.K (λ_=>E) f)):PS X st (RSg X.K (μX X.K E) f):=Bz h λD σ H z9=>by
 clear 5 z9 Oo c t fi o t' eq k;refine⟨Oo,c,t,fi,o,t',eq,λσ' H' c' f' s'=>?_⟩;have q:=k σ' H' c' f' s'
 cases o<;>exact q
theorem ZN{k:Nat}{ps:List Str}{g:Fn}{f:M (List D)}{x:Str}{p:Pos}(F:FnOk X.prog X.w X.K X.mg X.base (CX1 qx X.prog X.w) k fa fd ps (spX X.K g))(hr:Room k X.A)(hg:Gl X x)(hm:X.mg x=some (.ref fa))(hk:PySem.W.keepIn X.K (.ref fa)=true)(hb:Binds X.K fd ps [])
 (hx:Ff (CX1 qx X.prog X.w) X E) (ha:PA X (e::es) (RA X.K f)) (hdb:autoParam ((x==("__debug__":Str))=false) q1T) (h1:autoParam (Bm e=false) q3T) (h2:autoParam (Bo es=true) q3T) :
 PE X (.Call (.Name x p) (e::es) [] pos) (RX X.K E (Af g f)):=
 AO (Xu F hr hg hm hk hb hx ha hdb (Bu h1) (Bd h2).1) λσ H Q z9=>by
  clear 5 z9 Oo c t fi r t' eq kk;clear 5(Ag eq)ds t1 e1 eq;clear 5(HH eq)S' e2 rfl;refine⟨Oo,c,t,fi,ds,t1,e1,λvs H1 c1 f1 s1 rvs=>?_⟩;refine⟨c1,ds,t1.S,f1.s,rvs,r,S',e2,λv H' c' si st ho rv=>?_⟩;clear 5(f1.after si st ho)f2 s2;exact kk v H' c' f2 (s1.trans s2) rv
def nxD(f:M D):M D:=bnd f λd=>if BI d=true then fail else ret d
theorem P4{t t':T}(h:nxD f t=some (r,t')):f t=some (r,t')/\BI r=false:=by
 clear 5(Ag h)d t1 e1 h
 by_cases hx:BI d=true
 .rw[pW hx] at h;cases h
 .rw[pX hx] at h;cases h;exact⟨e1,by simpa using hx⟩
theorem UJ{A B:Prop}(h:BI r=false)(q:if BI r=true then A else B):B:=by rw[pX (by rw[h];decide)] at q;exact q
def MZ(g:M D)(h:D->M D):M D:=bnd g λy=>if BI y=true then ret y else nxD (h y)
theorem RX.bind{K:mh}{h:D->M D}{σ:L2.St}{H:Hp}{Q:VK}{Oo:mm->Prop}{c:Cf}{t t':T}(fi:FInv K Oo c t σ H)(eq:MZ g h t=some (r,t'))
 (k:∀v H' c',FInv K Oo c' t' σ H'->Stp Oo c H c' H'->Rep K c' H' v r->if BI r=true then exE (E σ) v H' else Q v H'){R:V->Hp->Prop}
 (s:∀y dy t1 H1 c1,FInv K Oo c1 t1 σ H1->Stp Oo c H c1 H1->Rep K c1 H1 y dy->h dy t1=some (r,t')->(∀v H' c',FInv K Oo c' t' σ H'->Stp Oo c1 H1 c' H'->Rep K c' H' v r->Q v H')->R y H1):RX K E g σ H R:=by
 clear 5(Ag eq)dy t1 e1 eq;refine⟨Oo,c,t,fi,dy,t1,e1,λy H1 c1 f1 s1 ry=>?_⟩
 by_cases hx:BI dy=true
 .rw[pW hx] at eq⊢
  cases eq
  have:=k y H1 c1 f1 s1 ry;rw[pW hx] at this;exact this
 .rw[pX hx] at eq⊢;clear 5(P4 eq)e2 e3;exact s y dy t1 H1 c1 f1 s1 ry e2 λv H' c' f' s' rv=>UJ e3 (k v H' c' f' (s1.trans s') rv)
def Kw(f g:M D)(h:D->D->M D):M D:=bnd f λx=>MZ g λy=>h x y
theorem RX.two{K:mh}{h:D->D->M D}{R:R2}(s:Br K R h){σ:L2.St}{H:Hp}{Q:VK}(q:RX K E (Kw f g h) σ H Q):tOp R (RE K f) (RX K E g) σ H Q:=by
 clear 5 q Oo c t fi r t' eq k;clear 5(Ag eq)dx t1 e1 eq;refine⟨Oo,c,t,fi,dx,t1,e1,λx H1 c1 f1 s1 rx=>?_⟩;exact RX.bind f1 eq (λv H' c' f' s' rv=>k v H' c' f' (s1.trans s') rv) λy dy t2 H2 c2 f2 s2 ry e2 kk=>s f2 (rx.mono s2.ext) ry e2 kk
theorem gG{op:Operator}{R:R2}{h:D->D->M D}(ho:OpR X (binaryOp op) R)(s:Br X.K R h)(ha:PE X a (RE X.K f))(hb:PE X b (RX X.K E g)):PE X (.BinOp a op b pos) (RX X.K E (Kw f g h)):=
 AO (Tg ho ha hb) λ_ _ _ q=>RX.two s q
theorem Rk(h:PE X e (RX X.K E f)):PS X (.Return (some e) pos) (RSX X.K E (Al f)):=
 Bz (Ke h) λD σ H z9=>by
  clear 5 z9 Oo c t fi o t' eq k;clear 5(Ag eq)d t1 e1 eq
  cases eq
  exact⟨Oo,c,t,fi,d,_,e1,λv H1 c1 f1 s1 rv=>k σ H1 c1 f1 s1 v rv⟩
def ES(i:Nat)(f:M D):M Out:=bnd f λd=>if BI d=true then ret (.ret d) else bnd (Ar i d) λ_=>ret .next
theorem Rl{i:Nat}{x:Str}{pos':Pos}(hN:X.N.Nodup)(hi:X.N[i]?=some x)(hx:Loc X.env.scope x)(he:PE X e (RX X.K E f))(hs:autoParam (swapsWith e (some (.Name x pos')) pos.line X.env=pure false) q3T)(hf:autoParam (X.fn x=true\/X.env.scope.names.lookup x=some .local) q0T) :
 PS X (.Assign [.Name x pos'] e pos) (RSX X.K E (ES i f)):=Bz (Qd hN hi hx he hs hf) λD σ H z9=>by
 clear 5 z9 Oo c t fi o t' eq k;clear 5(Ag eq)d t1 e1 eq;refine⟨Oo,c,t,fi,d,t1,e1,λv H1 c1 f1 s1 rv=>?_⟩
 by_cases hx:BI d=true
 .rw[pW hx] at eq⊢
  cases eq
  have:=k σ H1 c1 f1 s1 v rv;rw[pW hx] at this;exact this
 .rw[pX hx] at eq⊢
  cases eq
  exact k _ H1 c1 (f1.set rv) s1
theorem WY{f:M Out}(h:PS X st (RSX X.K E f)):PSs X [st] (RSX X.K E f):=RN h
end
end
structure XGet(K:mh)(C:mm):Prop where
 ga:findIn K (.ref C) "__getattribute__" = some (some (.builtin "BaseException.__getattribute__"))
 gt:findIn K (.ref C) "__getattr__" = some none
 mb:mroIn K C (.type "BaseException")=some true
 mo:mroIn K C (.type "object")=some true
 hd:hasDictIn K C=true
section
variable{prog:mq}{w:mw}{A:Around}{E:mj->mn->Prop}{s:mn}{K:mh}{x C:mm}{ox:Obj}{od:Option Obj}{name:Str}{tk:Tok}{Q:mj->mn->Prop}{R:Result->mn->Prop}
end
section
variable{qx:Bool}
abbrev Ci:List Str:=["Short", "Broken"]
structure XM(K:mh)(mg:Str->Option mj)(P:mm)(ca:Str->mm):Prop where
 pm:mg "ParleyError" = some (.ref P)
 pc:XCl K P VE
 ns:∀n∈Ci,nsIn K mainGlobals n=some (some (.ref (ca n)))
 ms:∀n∈Ci,mg n=some (.ref (ca n))
 cl:∀n∈Ci,XCl K (ca n) (.ref P::VE)
 inj:∀n∈Ci,∀m∈Ci,ca n=ca m->n=m
 np:∀n∈Ci,ca n≠P
 kp:∀n∈Ci,keepIn K (.ref (ca n))=true
 gt:∀n∈Ci,XGet K (ca n)
 gc:∀n∈Ci,findIn K (.ref (ca n)) "__class__" = some (some (.builtin "object.__class__"))
 na:∀n∈Ci,findIn K (.ref (ca n)) "at" = some none
 nd:∀n∈Ci,findIn K (.ref (ca n)) "side" = some none
noncomputable def Ik(n m:Str):Bool:=m == "ParleyError" || m == "ValueError" || n==m
theorem JP{a b:mm}{r:List mj}:(Value.ref a::r).contains (.ref b)=(a==b||r.contains (.ref b)):=by
 rw[List.contains_cons]
 congr 1
 by_cases h:a=b
 .subst h;simp
 .rw[om.mpr h,om.mpr (λz:Value.ref b=Value.ref a=>h (Value.ref.inj z).symm)]
theorem bZ{b:mm}:VE.contains (.ref b)=false:=rfl
section
variable{K:mh}{mg:Str->Option mj}{P:mm}{ca:Str->mm}
theorem XM.subE(x:XM K mg P ca){n m:Str}(hn:n∈Ci)(hm:m∈Ci):(Value.ref (ca n)::.ref P::VE).contains (.ref (ca m))=Ik n m:=by
 rw[JP,JP,bZ,om.mpr (Ne.symm (x.np m hm)),ul3,ul3];have h1:(m==("ParleyError":Str))=false/\(m==("ValueError":Str))=false:=by
  simp only[Ci,ul1,uh9,pS] at hm;rcases hm with rfl|rfl<;>exact⟨by decide,by decide⟩
 unfold Ik;rw[h1.1,h1.2,ul7,ul7]
 by_cases h:n=m
 .subst h;rw[ui4,ui4]
 .rw[om.mpr h,om.mpr λz=>h (x.inj n hn m hm z)]
theorem XM.of(x:XM K mg P ca){n:Str}{C:mm}(hn:n∈Ci)(h:nsIn K mainGlobals n=some (some (.ref C))):C=ca n:=by
 rw[x.ns n hn] at h;injection h with h;injection h with h;injection h with h
 exact h.symm
end
theorem bT{q1 q2:Bool}{x C C':mm}{dx dx':Option mm}(h:XIs q1 x C dx=XIs q2 x C' dx')(e:∃h,XIs q1 x C dx h):C=C'/\dx=dx':=by
 clear 5 e hh o vs e1 e2 e3 e4;have q:XIs q2 x C' dx' hh:=by rw[<-h];exact⟨o,vs,e1,e2,e3,e4⟩
 clear 5 q o' vs' q1 q2 q3 q4;rw[e1] at q1;cases q1
 rw[e2] at q2;cases q2
 exact⟨rfl,e3.symm.trans q3⟩
section
variable{X:Cx}{e:Expr}{es:List Expr}{pos p pos2:Pos}{E:L2.St->XK}{P:mm}{ca:Str->mm}
def XN0(K:mh)(C:mm):Prop:=∃cd,clsIn K C=some cd/\nsIn K cd.ns "__init__" = some none
def Kf(n:Str)(f:M (List D)):M Out:=bnd f λds=>if ds.length<=1000 then ret (.ret (.exc n [])) else fail
set_option tactic.hygienic true in
theorem UA{n:Str}{f:M (List D)}(x:XM X.K X.mg P ca)(hn:n∈Ci)(hf:WT n=[])(xn:XN0 X.K (ca n))(hc:X.calm=true)(hx:LN qx X E)(hg:Gl X n)(ha:PA X (e::es) (RA X.K f))
 (hdb:autoParam ((n==("__debug__":Str))=false) q1T) (h1:autoParam (Bm e=false) q3T) (h2:autoParam (Bo es=true) q3T):PS X (.Raise (some (.Call (.Name n p) (e::es) [] pos)) none pos2) (RSX X.K E (Kf n f)):=by
 clear 5 xn cd hcd hni;refine Bz (XC hc (x.cl n hn) hx (az (x.cl n hn) (x.kp n hn) hcd hni hg (x.ms _ hn) ha hdb (Bu h1) (Bd h2).1)) λD σ H z9=>?_;clear 5 z9 Oo c t fi o t' eq k;clear 5(Ag eq)ds t1 e1 eq;refine⟨Oo,c,t,fi,ds,t1,e1,λvs H1 c1 f1 s1 rvs=>?_⟩
 split at eq
 .next hl=>
  cases eq
  refine⟨by rw[rvs.length];exact hl,λy hy=>?_⟩;have f3:=f1.laid (o:=.ext (XIs qx y (ca n) none)) hy;exact k σ _ c1 f3 (s1.trans (f1.stp_laid hy)) (.ref y) (.exc (x.ns _ hn) Be (f1.s.free hy) (vs:=[]) rfl .nil) y none rfl
 .cases eq
end
section
variable{X:Cx}{pos p:Pos}{P:mm}{ca:Str->mm}{μ:Cf->Hp->D->(V->Hp->Prop)->Prop}
inductive RH(K:mh)(ca:Str->mm)(μ:Cf->Hp->D->(V->Hp->Prop)->Prop)(h:D->M Out)(x C:mm)(dx:Option mm)(E:Ends)(σ:L2.St)(H:Hp):Prop where
 | mk (Oo:mm->Prop) (c:Cf) (t:T) (n:Str) (ds:List D) (fi:FInv K Oo c t σ H) (hn:n∈Ci) (hC:C=ca n) (rp:Rep K c H (.ref x) (.exc n ds)) (o:Out) (t':T) (e:h (.exc n ds) t=some (o,t')) (k:∀σ' H' c',FInv K Oo c' t' σ' H'->Stp Oo c H c' H'->
   match (generalizing:=false) o with
   |.next=>E.nx σ' H'
   |.brk=>E.bk σ' H'
   |.cont=>E.ct σ' H'
   |.ret r=>μ c' H' r E.rt):RH K ca μ h x C dx E σ H
noncomputable def unE(i:Nat)(t:T):T:={t with env:=t.env.set i none}
set_option tactic.hygienic true in
theorem FInv.unset{K:mh}{Oo:mm->Prop}{c:Cf}{t:T}{σ:L2.St}{H:Hp}(f:FInv K Oo c t σ H)(i:Nat):FInv K Oo c (unE i t) (σ.set i none) H:=by
 have neq:∀{j:Nat}{x:Sl},(t.env.set i none)[j]?=some (some x)->j≠i/\t.env[j]?=some (some x):=λ{j x} q=>by
  by_cases h:j=i
  .subst h;rw[List.getElem?_set] at q
   split at q
   .split at q
    .injection q with q;cases q
    .cases q
   .next h1=>exact absurd rfl h1
  .rw[ud3 (Ne.symm h)] at q;exact⟨h,q⟩
 refine⟨f.s,by simp[unE,f.len],f.sub,λj e q=>?_,λj ds q=>?_,λj k ds es a q1 q2 q3 q4=>?_⟩
 .clear 5(neq q)h q;clear 5(f.val j e q)u h1 h2;exact⟨u,by rw[ud3 (Ne.symm h)];exact h1,h2⟩
 .clear 5(neq q)h q;clear 5(f.own j ds q)a vs h1 h2;exact⟨a,vs,by rw[ud3 (Ne.symm h)];exact h1,h2⟩
 .clear 5(neq q1)h q1;clear 5(neq q2)h' q2;rw[ud3 (Ne.symm h)] at q3;rw[ud3 (Ne.symm h')] at q4;exact f.inj j k ds es a q1 q2 q3 q4
def hAs(n':Str)(i:Nat)(s:M Out)(r:D->M Out):D->M Out:=λe t=>match e with
 | .exc n ds=>if Ik n n'=true then (match s { t with env:=t.env.set i (some (.val (.exc n ds))) } with
   |some (o,t2)=>some (o,unE i t2)
   |none=>none) else r (.exc n ds) t
 |_=>none
def hNo(n':Str)(s:M Out)(r:D->M Out):D->M Out:=λe t=>match e with
 |.exc n ds=>if Ik n n'=true then s t else r (.exc n ds) t
 |_=>none
noncomputable def de:D->M Out:=λ_ _=>none
theorem cV:PH qx X [] (RH X.K ca μ de):=by
 rintro _ _ _ _ _ _ _ _ _ _ _ ⟨_,_,_,_,_,_,_,_,_,_,_,e,_⟩
 cases e
theorem gA{n' v:Str}{C':mm}{bm':List mj}{i:Nat}{b₀:Stmt}{suite:List Stmt}{rest:List ExceptHandler}{s:M Out}{r:D->M Out}(x:XM X.K X.mg P ca)(hg:Gl X n')(hm:X.mg n'=some (.ref C'))(c':XCl X.K C' bm')(hs:∀n∈Ci,(Value.ref (ca n)::.ref P::VE).contains (.ref C')=Ik n n')
 (hN:X.N.Nodup) (hi:X.N[i]?=some v) (hl:X.env.scope.names.lookup v=some .local) (hb:∀x,PSs (X.mark x) (b₀::suite) (RSg X.K μ s)) (hr:PH qx X rest (RH X.K ca μ r)) (hdb:autoParam ((n'==("__debug__":Str))=false) q1T) :
 PH qx X (.ExceptHandler (some (.Name n' p)) (some v) (b₀::suite) pos::rest) (RH X.K ca μ (hAs n' i s r)):=by
 intro mi s0 σ H y C dx T D I o q;refine gU hg hm c' hN hi hl hb hr hdb mi s0 σ H y C dx T D I o ?_;clear 5 q Oo c t n ds fi hn rfl rv o1 t' eq k;refine⟨_,x.cl n hn,?_⟩;rw[hs n hn];unfold hAs at eq;dsimp only at eq
 by_cases hb':Ik n n'=true
 .rw[pW hb'] at eq⊢
  cases e1:s {t with env:=t.env.set i (some (.val (.exc n ds)))} with
  |none=>rw[e1] at eq;cases eq
  |some z=>
    clear 5 z o2 t2;rw[e1] at eq
    cases eq
    refine⟨Oo,c,_,fi.set rv,o1,t2,e1,λσ' H' c2 f2 s2=>?_⟩;have:=k _ H' c2 (f2.unset i) s2
    cases o1<;>exact this
 .rw[pX hb'] at eq⊢;exact⟨Oo,c,t,n,ds,fi,hn,rfl,rv,o1,t',eq,k⟩
theorem gB{n':Str}{C':mm}{bm':List mj}{b₀:Stmt}{suite:List Stmt}{rest:List ExceptHandler}{s:M Out}{r:D->M Out}(x:XM X.K X.mg P ca)(hg:Gl X n')(hm:X.mg n'=some (.ref C'))(c':XCl X.K C' bm')(hs:∀n∈Ci,(Value.ref (ca n)::.ref P::VE).contains (.ref C')=Ik n n')
 (hb:∀x,PSs (X.mark x) (b₀::suite) (RSg X.K μ s)) (hr:PH qx X rest (RH X.K ca μ r)) (hdb:autoParam ((n'==("__debug__":Str))=false) q1T) :
 PH qx X (.ExceptHandler (some (.Name n' p)) none (b₀::suite) pos::rest) (RH X.K ca μ (hNo n' s r)):=by
 intro mi s0 σ H y C dx T D I o q;refine gW hg hm c' hb hr hdb mi s0 σ H y C dx T D I o ?_;clear 5 q Oo c t n ds fi hn rfl rv o1 t' eq k;refine⟨_,x.cl n hn,?_⟩;rw[hs n hn];unfold hNo at eq;dsimp only at eq
 by_cases hb':Ik n n'=true
 .rw [pW hb'] at eq ⊢;exact ⟨Oo,c,t,fi,o1,t',eq,λσ' H' c2 f2 s2=>by
   have:=k _ H' c2 f2 s2
   cases o1<;>exact this⟩
 .rw[pX hb'] at eq⊢;exact⟨Oo,c,t,n,ds,fi,hn,rfl,rv,o1,t',eq,k⟩
noncomputable def HB(b:M Out)(h:D->M Out):M Out:=λt=>match b t with
 |some (.ret (.exc n ds),t1)=>if n∈Ci then h (.exc n ds) t1 else none
 |z=>z
set_option tactic.hygienic true in
theorem c6{body:List Stmt}{h₀:ExceptHandler}{hs:List ExceptHandler}{b:M Out}{h:D->M Out}(x:XM X.K X.mg P ca)(hμ:∀c H r rt,BI r=false->(∀v,Rep X.K c H v r->rt v H)=μ c H r rt)(h1:X.stack=X.env::X.outer)(h2:X.env.frame=some X.env.locals)
 (hb:∀(pn:List (mm×Obj)) (E:L2.St->XK),Ff (CX1 qx X.prog X.w) {X with pn:=pn,xe:=XE qx {X with pn:=pn} E} E->PSs {X with pn:=pn,xe:=XE qx {X with pn:=pn} E} body (RSX X.K E b)) (hh:PH qx X (h₀::hs) (RH X.K ca μ h)):PS X (.Try body (h₀::hs) [] [] pos) (RSg X.K μ (HB b h)):=
 Bz (eH h1 h2 (λpn E=>hb pn E (XE.pass (X:={X with pn:=pn}))) hh) λD σ H z9=>by
  clear 5 z9 Oo c t fi o t' eq k;unfold HB at eq
  cases e1:b t with
  |none=>rw[e1] at eq;cases eq
  |some z=>
    clear 5 z o1 t1;rw[e1] at eq;refine⟨Oo,c,t,fi,o1,t1,e1,λσ1 H1 c1 f1 s1=>?_⟩
    cases o1 with
    |next=>cases eq;exact k σ1 H1 c1 f1 s1
    |brk=>cases eq;exact k σ1 H1 c1 f1 s1
    |cont=>cases eq;exact k σ1 H1 c1 f1 s1
    |ret r=>
      intro v rv
      cases hx:BI r with
      |false=>
        rw[pX (by decide)];have eq':some (Out.ret r,t1)=some (o,t'):=by cases r<;>first|exact eq|cases hx
        cases eq'
        have q:=k σ1 H1 c1 f1 s1;have q:μ c1 H1 r D.rt:=q;rw[<-hμ _ _ _ _ hx] at q;exact q v rv
      |true=>
        rw[pW rfl];intro y dx hv y' C hy' hC hex
        cases rv with
        |@exc q0 x0 C0 dx0 n vs ds g hx0 hA fl rs=>
          cases hv
          cases hy'
          dsimp only at eq
          split at eq
          .next hn=>
           rw[hx0] at hC;injection hC with hC;injection hC with hC
           clear 5(bT hC.symm hex)e2 e3;have:=x.of hn g;exact⟨Oo,c1,t1,n,ds,f1,hn,e2.trans this,.exc g hx0 hA fl rs,o,t',eq,λσ' H' c' f' s'=>k σ' H' c' f' (s1.trans s')⟩
          .cases eq
        |_=>cases hx
end
end
section
variable{qx:Bool}
section
variable{X:Cx}{P:mm}{ca:Str->mm}{a:Expr}{f:M D}{p pos q:Pos}
end
end
section
variable{qx:Bool}
def TR(K:mh)(P c:mm):Bool:=OC K c (.ref P::VE)&&keepIn K (.ref c)&&findIn K (.ref c) "__getattribute__" == some (some (.builtin "BaseException.__getattribute__"))&&findIn K (.ref c) "__getattr__" == some none&&mroIn K c (.type "BaseException")==some true
 && mroIn K c (.type "object")==some true&&hasDictIn K c&&findIn K (.ref c) "__class__" == some (some (.builtin "object.__class__"))&&findIn K (.ref c) "at" == some none&&findIn K (.ref c) "side" == some none
structure XOne(K:mh)(P c:mm):Prop where
 cl:XCl K c (.ref P::VE)
 kp:keepIn K (.ref c)=true
 gt:XGet K c
 gc:findIn K (.ref c) "__class__" = some (some (.builtin "object.__class__"))
 na:findIn K (.ref c) "at" = some none
 nd:findIn K (.ref c) "side" = some none
variable{K:mh}
theorem Sf{P c:mm}(h:TR K P c=true):XOne K P c:=by
 unfold TR at h;simp only[uh3,pM] at h;obtain⟨⟨⟨⟨⟨⟨⟨⟨⟨h1,h2⟩,h3⟩,h4⟩,h5⟩,h6⟩,h7⟩,h8⟩,h9⟩,h10⟩:=h;exact⟨.of_in h1,h2,⟨h3,h4,h5,h6,h7⟩,h8,h9,h10⟩
noncomputable def OY(c1 c2:mm):Str->mm:=λn=>if n = "Short" then c1 else c2
theorem DE{Q:Str->Prop}(h1:Q "Short")(h2:Q "Broken"):∀n∈Ci,Q n:=by
 intro n hn;simp only[Ci,ul1,uh9,pS] at hn;rcases hn with rfl|rfl<;>assumption
def TQ(K:mh)(P:mm)(cs:List mm):Bool:=OC K P VE&&cs.all (TR K P)
theorem iY{h:Heap}{mg:Str->Option mj}{P c1 c2:mm}(X:K.In h)(G:h.Ns mainGlobals mg)(p:nsIn K mainGlobals "ParleyError" = some (some (.ref P)))(a1:nsIn K mainGlobals "Short" = some (some (.ref c1)))(a2:nsIn K mainGlobals "Broken" = some (some (.ref c2)))(q:TQ K P [c1,c2]=true)(nd:[P,c1,c2].Nodup):XM K mg P (OY c1 c2):=by
 unfold TQ at q;simp only[ul4,List.all_nil,ul8,uh3] at q;clear 5 q q0 q1 q2;have o1:=Sf q1;have o2:=Sf q2;have inj:∀n∈Ci,∀m∈Ci,OY c1 c2 n=OY c1 c2 m->n=m:=by
  simp only[List.nodup_cons,ul1,uh9,pS,not_or,pz,and_true] at nd;obtain⟨⟨n1,n2⟩,m12,_⟩:=nd;have h1:OY c1 c2 "Short" = c1:=rfl;have h2:OY c1 c2 "Broken" = c2:=rfl;refine DE ?_ ?_<;>refine DE ?_ ?_<;>intro e<;>first|rfl|(exfalso;rw[h1] at e)|(exfalso;rw[h2] at e)
  all_goals (first|rw[h1] at e|rw[h2] at e)
  all_goals (first|contradiction|(have e:=e.symm;contradiction))
 refine⟨mg_of X G p,.of_in q0,DE a1 a2,DE (mg_of X G a1) (mg_of X G a2),DE o1.cl o2.cl,inj,?_,
  DE o1.kp o2.kp,DE o1.gt o2.gt,DE o1.gc o2.gc,DE o1.na o2.na,DE o1.nd o2.nd⟩
 simp only[List.nodup_cons,ul1,uh9,pS,not_or] at nd;obtain⟨⟨n1,n2⟩,_⟩:=nd;exact DE (Ne.symm n1) (Ne.symm n2)
noncomputable def BF(s:Stmt)(k:Nat):Stmt:=match s with
 |.ClassDef _ _ _ body _ _ _ _ _ _ _=>body.getD k (.Pass ⟨0,0,0,0⟩)
 |_=>.Pass ⟨0,0,0,0⟩
noncomputable def PY(K:mh)(C:mm):Bool:=match clsIn K C with
 |some cd=>nsIn K cd.ns "__init__" == some none
 |none=>false
set_option tactic.hygienic true in
theorem gf{C:mm}(h:PY K C=true):XN0 K C:=by
 unfold PY at h
 split at h
 .next cd e=>exact⟨cd,e,pM.mp h⟩
 .cases h
end
inductive Kd where
 |pl|fr|ex|er
abbrev okK(k:Kd)(P:mq)(w:mw)(K:mh)(mg:Str->Option mj)(base:Heap)(n:Nat)(fa:mm)(fd:mx)(ps:List Str)(f:Fn):Prop:=match k with
 |.pl=>FnOk P w K mg base CX0 n fa fd ps (spF K f)
 |.fr=>FnOk P w K mg base CX0 n fa fd ps (spFF K f)
 |.ex=>FnOk P w K mg base (CX1 true P w) n fa fd ps (spX K f)
 |.er=>FnOk P w K mg base (CX1 false P w) n fa fd ps (spX K f)
section
variable{X:Cx}{e a b:Expr}{pos:Pos}{f g:M D}
theorem Ri{E:XK}(h:PE X e (RE X.K f)):PS X (.Return (some e) pos) (RSg X.K (μX X.K E) (Al (nxD f))):=
 Bz (Ke h) λD σ H z9=>by
  clear 5 z9 Oo c t fi o t' eq k;clear 5(Ag eq)d t1 e1 eq
  cases eq
  clear 5(P4 e1)e2 e3;exact⟨Oo,c,t,fi,d,_,e2,λv H1 c1 f1 s1 rv=>UJ e3 (k σ H1 c1 f1 s1 v rv)⟩
end
theorem dH{K:mh}:∀(c:Cf) (H:Hp) (r:D) (rt:V->Hp->Prop),BI r=false->(∀v,Rep K c H v r->rt v H)=μR K c H r rt:=λ_ _ _ _ _=>rfl
section
variable{qx:Bool}
section
variable{X:Cx}{P:mm}{ca:Str->mm}{a:Expr}{es:List Expr}{f:M D}{p pos q:Pos}{i:Nat}{ns:List Str}
end
end
section
variable{qx:Bool}
section
variable{prog:mq}{w:mw}{A:Around}{s:mn}{K:mh}{x C P dx:mm}{ox:Obj}{od:Option Obj}{R:Result->mn->Prop}{name:Str}{v:mj}{tk:Tok}{cd:ClassData}
end
section
variable{X:Cx}{k:Nat}{f C P:mm}{fd:mx}{mi:List (mm×Obj)}{σ:St}{H:Hp}{s:mn}{Q:mj->mn->Prop}{us:List mj}{vs:List V}{a b:Str}{ps:List Str}{v v2:V}{u u2:mj}
end
section
variable{X:Cx}{k:Nat}{f C P:mm}{fd:mx}{a b:Str}{ps:List Str}{n:Str}{p pos:Pos}{e e':Expr}
end
end
section
variable{qx:Bool}
section
variable{X:Cx}{e e':Expr}{pos p pos2:Pos}{E:L2.St->XK}{P:mm}{ca:Str->mm}
end
end
section
variable{X:Cx}{a b:Expr}{pos:Pos}
end
section
variable{prog:mq}{w:mw}{A:Around}{E:mj->mn->Prop}{env:Env}{K:mh}{C:mm}{bm:List mj}{s:mn}
end
section
variable{X:Cx}{mi:List (mm×Obj)}{σ:St}{H:Hp}{s s':mn}{qx:Bool}{x C:mm}{dx T:Option mm}{fl:mj}
end
section
variable{X:Cx}{n v:Str}{C' C2:mm}{bm' bm2:List mj}{p pos p2:Pos}{e cN:Expr}{rest:List ExceptHandler}{t:St->Hp->(mm->Option mm->Hp->Prop)->Prop}{tr:mm->mm->Option mm->TS}{i:Nat}{E:St->XK}
end
structure FnOkH(P:mq)(w:mw)(K:mh)(mg:Str->Option mj)(base:Heap)(CX:CXT)(k:Nat)(f:mm)(fd:mx)(ps:List Str)(sp:Sp):Prop where
 len:∀vs H Q E,sp vs H Q E->vs.length=ps.length
 run:∀(z:mm) (A:Around) (outer:List Env) (s:mn) (H:Hp) (args:Args) (us:List mj) (vs:List V) (Q:VK) (E:XK),Room k A->Env0 P w K mg base A outer s H->BindsTo s fd args (ps.zip us)->Vals vs us->sp vs H Q E->
  codeAny (model P w) (A.mark (some (.ref z))) (.call (.ref f) args) (CR CX outer P w H s Q E) s
section
variable{qx:Bool}{X:Cx}{k:Nat}{f C P:mm}{fd:mx}{mi:List (mm×Obj)}{σ:St}{H:Hp}{s:mn}{Q:mj->mn->Prop}{us:List mj}{vs:List V}{a b:Str}{ps:List Str}{v v2:V}{u u2:mj}{n:Str}{p pos:Pos}{e e':Expr}
end
section
variable{X:Cx}{pos p p2 p3 p4:Pos}{P:mm}{ca:Str->mm}{E:XK}{e e' cN:Expr}
end
section
variable{prog:mq}{w:mw}{A:Around}{E:mj->mn->Prop}{s:mn}
variable{I:mm}{fp wr:List mm}{G:Array GenState->Array GenState->Prop}{n:Nat}{P:Nat->mj->Prop}{St:Nat->mn->Prop}
end
section
variable{X:Cx}
end
section
variable{X:Cx}{pos:Pos}{e:Expr}
end
def eR(neg:Bool):R2:=λx y H Q=>∃a kvs k,x=.str k/\y=.ref a/\H a=some (.dK kvs)/\Q (.bl (if neg then !(D9 kvs (Sum.inr k:Key)).isSome else(D9 kvs (Sum.inr k:Key)).isSome)) H
section
variable{X:Cx}
theorem dU(hu:X.A.units+64<cLine):OpR X (compareOp .In) (eR false):=by
 intro mi s σ H x y v u Q I rx ry h;clear 5 h a kvs k rfl rfl e q
 cases ry
 exact jg ∅ I (DGet.k (k:=(Sum.inr k:Key)) e) rx λs' I'=>⟨.bl _,H,I',rfl,q⟩
theorem SC:CQ X (.type "dict") (λxs H Q=>∃(p:mm) (kvs:List (Key×V)),xs=[.ref p]/\H p=some (.dK kvs)/\∀l,H l=none->Q (.ref l) (upd H l (.dK kvs))):=by
 intro mi s σ H xs us0 Q I r h;clear 5 h p kvs rfl e q;clear 5(GN r)u rfl rx
 cases rx
 clear 5(IT I.hok e)hz hp vs rel dd;refine kt_call_dict hp dd (by rw[<-rel.length];exact hz) λh' hD sb=>?_;have nm:(s.heap.objs.size==sysModules)=false:=by
  have:=I.big;rw[om];exact um8 this
 have hk:∀b o,s.heap.get? b=some o->h'.get? b=some o:=λb o eb=>by
  rw[sb.2 b (um5 (um4 eb))];exact ub7 _ eb
 exact⟨.ref s.heap.objs.size,_,I.laid (t':=s.toks) hk (un6 _) (L9 hz nm rel hD),rfl,q _ (I.hok.fresh (un6 _))⟩
end
def inS(neg:Bool):D->D->M D
 |.str k,.obj n=>λt=>match t.S[n]? with
   |some (.dct kvs)=>some (.bl (if neg then !(AR kvs (.inr k)).isSome else(AR kvs (.inr k)).isSome),t)
   |_=>none
 |_,_=>fail
def Kv:List D->M D
 |[.obj n]=>λt=>match t.S[n]? with
   |some (.dct kvs)=>some (.obj t.S.length,{t with S:=t.S++[.dct kvs]})
   |_=>none
 |_=>fail
section
variable{K:mh}
set_option tactic.hygienic true in
theorem a8{neg:Bool}:Br K (eR neg) (inS neg):=λ{Oo c t σ H x y dx dy r t' Q} f rx ry eq k=>by
 unfold inS at eq
 split at eq
 .next z n=>
  cases rx
  obtain⟨a,rfl,hk⟩:=ry.rv
  split at eq
  .next kvs es=>
   cases eq
   clear 5(f.s.obs _ a _ hk es)us g1 g2;refine⟨a,us,z,rfl,rfl,g1,?_⟩;rw[g2.has];exact k _ H c f .refl (.bl _)
  .cases eq
 .cases eq
end
section
variable{X:Cx}{pos:Pos}{e:Expr}
set_option tactic.hygienic true in
theorem WL{f:M (List D)}{p:Pos}(hg:Gl X "dict")(hm:X.mg "dict" = none)(ha:PA X [e] (RA X.K f))(h1:autoParam (Bm e=false) q3T) :
 PE X (.Call (.Name "dict" p) [e] [] pos) (RE X.K (fB f Kv)):=
 AO (Ka SC hg hm (by decide +kernel) ha (by decide) (by decide) (Bu h1) rfl) λσ H Q z9=>by
  clear 5 z9 Oo c t fi r t' eq k;clear 5(Ag eq)as t1 e1 eq;unfold Kv at eq
  split at eq
  .next n=>
   split at eq
   .next kvs es=>
    cases eq
    refine⟨Oo,c,t,fi,_,_,e1,λvs H1 c1 f1 s1 rv=>?_⟩;clear 5(FH rv)v rfl rw1
    obtain⟨a,rfl,hk⟩:=rw1.rv
    clear 5(f1.s.obs _ a _ hk es)us g1 g2;refine⟨a,us,rfl,g1,λl hnl=>?_⟩;obtain⟨c2,f2,s2,eo⟩:=f1.newObj (o:=.dct kvs) (u:=.dK us) hnl λc' H' ex hu=>⟨_,hu,g2.mono ex⟩;exact k _ _ c2 f2 (s1.trans s2) (.obj eo)
   .cases eq
  .cases eq
end
section
variable{X:Cx}
end
def CM(K:mh):Prop:=∀n∈M9,∀C,nsIn K mainGlobals n=some (some (.ref C))->Cls K C/\∀f∈atN,NoAttr K C f
noncomputable def Hv(f:Str)(v:D):List (Str×D)->List (Str×D)
 |[]=>[(f,v)]
 |(g,x)::r=>if g=f then(g,v)::r else(g,x)::Hv f v r
section
variable{K:mh}{c:Cf}{H:Hp}
theorem FldR.len:∀{us:List (Str×V)}{fs:List (Str×D)},FldR K c H us fs->us.length=fs.length
 |_,_,.nil=>rfl
 |_,_,.cons _ t=>by rw[ug9,ug9,FldR.len t]
theorem FldR.look{f:Str}{d:D}:∀{us:List (Str×V)}{fs:List (Str×D)},FldR K c H us fs->fs.lookup f=some d->∃v,us.lookup f=some v/\Rep K c H v d
 |_,_,.nil,e=>by cases e
 |(g,x)::us,(g',y)::fs,.cons ⟨h1,h2⟩ t,e=>by
   have h1:g=g':=h1;subst h1
   by_cases q:(f==g)=true
   .simp only[List.lookup,q] at e⊢
    cases e
    exact⟨_,rfl,h2⟩
   .have q:(f==g)=false:=by simpa using q
    simp only[List.lookup,q] at e⊢;exact FldR.look t e
theorem FldR.none{f:Str}:∀{us:List (Str×V)}{fs:List (Str×D)},FldR K c H us fs->(∀p∈fs,p.1≠f)->us.lookup f=none
 |_,_,.nil,_=>rfl
 |(g,x)::us,(g',y)::fs,.cons ⟨h1,h2⟩ t,e=>by
   have h1:g=g':=h1;subst h1;have q:(f==g)=false:=by
    have:=e (g,y) (.head _);simpa using λz:f=g=>this z.symm
   simp only[List.lookup,q];exact FldR.none t λp hp=>e p (.tail _ hp)
theorem FldR.put{f:Str}{v:V}{d:D}(r:Rep K c H v d):∀{us:List (Str×V)}{fs:List (Str×D)},FldR K c H us fs->FldR K c H (D2 f v us) (Hv f d fs)
 |_,_,.nil=>.cons ⟨rfl,r⟩ .nil
 |(g,x)::us,(g',y)::fs,.cons ⟨h1,h2⟩ t=>by
   have h1:g=g':=h1;subst h1;show FldR K c H (if g=f then(g,v)::us else(g,x)::D2 f v us) (if g=f then(g,d)::fs else(g,y)::Hv f d fs)
   by_cases q:g=f
   .rw[pW q,pW q];exact .cons ⟨rfl,r⟩ t
   .rw[pX q,pX q];exact .cons ⟨rfl,h2⟩ (FldR.put r t)
theorem FldR.mono{c':Cf}{H':Hp}(e:Ext c H c' H'){us:List (Str×V)}{fs:List (Str×D)}(h:FldR K c H us fs):FldR K c' H' us fs:=Paired.mapP h λ_ _ z=>⟨z.1,z.2.mono e⟩
theorem RU{f:Str}{v:D}(hf:f∈atN):∀{fs:List (Str×D)},(∀p∈fs,p.1∈atN)->∀p∈Hv f v fs,p.1∈atN
 |[],_=>λp hp=>by rw[show Hv f v []=[(f,v)] from rfl,uf1] at hp;subst hp;exact hf
 |(g,x)::r,h=>λp hp=>by
   rw[show Hv f v ((g,x)::r)=(if g=f then(g,v)::r else(g,x)::Hv f v r) from rfl] at hp
   split at hp
   .rcases ul1.mp hp with e|e
    .subst e;exact h (g,x) (.head _)
    .exact h p (.tail _ e)
   .rcases ul1.mp hp with e|e
    .subst e;exact h (g,x) (.head _)
    .exact RU hf (λp hp=>h p (.tail _ hp)) p e
end
noncomputable def Hh{α:Type}(d:D)(h:Nat->Str->List (Str×D)->M α):M α:=λt=>match d with
 |.obj k=>match t.S[k]? with
   |some (.ins n fs)=>h k n fs t
   |_=>none
 |_=>none
theorem JW{α:Type}{d:D}{h:Nat->Str->List (Str×D)->M α}{t:T}{z:α×T}(e:Hh d h t=some z):∃k n fs,d=.obj k/\t.S[k]?=some (.ins n fs)/\h k n fs t=some z:=by
 cases d with
 |obj k=>
   rw[show Hh (.obj k) h t=(match t.S[k]? with|some (.ins n fs)=>h k n fs t|_=>none) from rfl] at e
   cases es:t.S[k]? with
   |none=>rw[es] at e;cases e
   |some o=>
     rw[es] at e
     cases o with
     |ins n fs=>exact⟨k,n,fs,rfl,es,e⟩
     |_=>cases e
 |_=>cases e
def Bt(f:Str)(a:M D):M D:=bnd a λd=>Hh d λ_ _ fs t=>(fs.lookup f).map λv=>(v,t)
def Dq(f:Str)(gv ga:M D):M Out:=bnd gv λv=>bnd ga λd=>Hh d λk n fs t=>if fs.length<1000 then some (.next,{t with S:=t.S.set k (.ins n (Hv f v fs))}) else none
def IU(n:Str)(g:Fn)(f:M (List D)):M D:=bnd f λds t=>match g (.obj t.S.length::ds) (t.S++[.ins n []]) with
 |some (.non,S')=>some (.obj t.S.length,{t with S:=S'})
 |_=>none
def AG(n:Str)(g:Fn)(o:M D)(f:M (List D)):M D:=bnd o λd=>Hh d λ_ n' _=>if n'=n then bnd f λds t=>match g (d::ds) t.S with
 |some (r,S')=>some (r,{t with S:=S'})
 |none=>none else fail
theorem KN{K:mh}{c:Cf}{H:Hp}{v:V}{k:Nat}(h:Rep K c H v (.obj k)):∃a,v=.ref a/\c.ι[k]?=some a:=by
 obtain⟨_,rfl,e⟩:=h.rv
 exact⟨_,rfl,e⟩
section
variable{X:Cx}{CX:CXT}{k:Nat}{f C:mm}{fd:mx}{ps:List Str}{sp:Sp}{E:St->XK}{x m:Str}{p pos apos:Pos}{e o:Expr}{es:List Expr}{ta:TE}{t:TA}
theorem aS{mi:List (mm×Obj)}{σ:St}{H:Hp}{s:mn}{Q:VK}{us:List mj}{vs:List V}(F:FnOk X.prog X.w X.K X.mg X.base CX k f fd ps sp)(hr:Room k X.A)(hb:Binds X.K fd ps [])(hx:Ff CX X E)
 (I:Inv X mi σ H s) (r:Vals vs us) (h:sp vs H Q (E σ)):wpAny (model X.prog X.w) X.A (call (.ref f) us) (EP X mi σ Q) X.xe s:=by
 have hl:(us++[]).length=ps.length:=by rw[ui9,<-r.length];exact F.len _ _ _ _ h
 refine pN (pF (F.run X.A X.stack s H ⟨us,[]⟩ us vs Q (E σ) hr I.env0 (by have:=hb s us I.kIn hl;rwa [ui9] at this) r h) λr s' hq=>?_)
 cases r with
 |error e=>exact hx mi σ H s e s' I hq
 |ok fl=>
   cases fl with
   |ret u=>exact I.after hq
   |next=>exact False.elim hq
   |brk=>exact False.elim hq
   |cont=>exact False.elim hq
abbrev IH(X:Cx)(o:Expr)(m:Str)(es:List Expr)(apos pos:Pos)(pl:Sem Bool):Prop:=eval (.Call (.Attribute o m apos) es [] pos) X.env=(do
 let ov <-eval o X.env
 standAt apos.atName
 let (f,first) <-holding [ov] (getMethod ov m pl)
 callWith pos f first (backTo pos (starEach es X.env)) (backToKw pos (keywordEach [] X.env)))
structure ByCls(K:mh)(C:mm)(m:Str)(f:mm):Prop where
 ga:specialIn K (.ref C) "__getattribute__" = some (some (.builtin "type.__getattribute__"))
 rd:readsIn K C (.type "type")=true
 at_:(match findCls K (.ref C) (.type "type") m with|some (.val (.ref g))=>g==f|_=>false)=true
 kp:keepIn K (.ref f)=true
set_option tactic.hygienic true in
theorem ByCls.found{K:mh}{C f:mm}{m:Str}(b:ByCls K C m f):findCls K (.ref C) (.type "type") m=some (.val (.ref f)):=by
 have q:=b.at_
 split at q
 .next e=>rw[e];rw[pM.mp q]
 .cases q
theorem Xt{pl:Sem Bool}(F:FnOk X.prog X.w X.K X.mg X.base CX k f fd ps sp)(hr:Room k X.A)(hg:Gl X x)(hm:X.mg x=some (.ref C))(bc:ByCls X.K C m f)(hb:Binds X.K fd ps [])(hx:Ff CX X E)(ha:PA X (e::es) t)
 (hdb:(x==("__debug__":Str))=false) (hst:starEach (e::es) X.env=(false,eval e X.env)::starEach es X.env) (hpl:(backTo pos (starEach es X.env)).any (·.1)=false) (ht:IH X (.Name x p) m (e::es) apos pos pl) :
 PE X (.Call (.Attribute (.Name x p) m apos) (e::es) [] pos) (VW sp E t):=by
 intro mi s σ H Q I h;refine PySem.W.methodCall_KW (pl:=pl) (Fk I hg hm ?_ hdb) ht;refine method_cls I.kIn bc.ga (cls_value I.kIn bc.rd bc.found rfl ?_);have I0:=I.tok (s.toks+1);refine PySem.W.callWith_K (first:=[]) (h₀:=X.base) I.ok.mod.kin bc.kp (thn (ha pos mi _ σ H _ I0 h) λus s2 z9=>?_) hst hpl;clear 5 z9 vs H2 I2 r q2;refine⟨I2.kIn,?_⟩;exact aS (us:=us) (vs:=vs) F hr hb hx I2 r q2
end
section
variable{n:Str}{h:Fn}{pl:Sem Bool}
section
variable{X:Cx}{e o a value:Expr}{es:List Expr}{pos pos' apos p:Pos}{f:Str}{g gv ga:M D}{fl:M (List D)}{C:mm}
theorem cO(cm:CM X.K)(hf:f∈atN)(he:PE X e (RE X.K g))(hb:attributeBase e f X.env (eval e X.env)=eval e X.env):PE X (.Attribute e f pos) (RE X.K (Bt f g)):=
 AO (d8 he hb) λσ H Q z9=>by
  clear 5 z9 Oo c t fi r t' eq kk;clear 5(Ag eq)d t1 e1 eq;clear 5(JW eq)k n fs rfl es eq;clear 5(ub9.mp eq)y e2 e3
  cases e3
  refine⟨Oo,c,t,fi,.obj k,_,e1,λv H1 c1 f1 s1 rv=>?_⟩;clear 5(KN rv)b rfl hk;obtain⟨⟨hn,hat⟩,C,dx,us,g1,g2,g3⟩:=f1.s.obs k b _ hk es;clear 5(g3.look e2)w l1 l2;exact⟨b,C,dx,us,w,rfl,g2,(cm n hn C g1).1,(cm n hn C g1).2 f hf,l1,kk w H1 c1 f1 s1 l2⟩
set_option tactic.hygienic true
theorem cY{μ:Cf->Hp->D->(V->Hp->Prop)->Prop}(cm:CM X.K)(hf:f∈atN)(ha:PE X o (RE X.K ga))(hv:PE X value (RE X.K gv))(hs:autoParam (swapsWith value (some (.Attribute o f pos')) pos.line X.env=pure false) q3T) :
 PS X (.Assign [.Attribute o f pos'] value pos) (RSg X.K μ (Dq f gv ga)):=
 Bz (eF ha hv hs) λD σ H z9=>by
  clear 5 z9 Oo c t fi r t' eq kk;clear 5(Ag eq)d t1 e1 eq;clear 5(Ag eq)d2 t2 e2 eq;clear 5(JW eq)k n fs rfl es eq
  split at eq
  .next hl=>
   cases eq
   refine⟨Oo,c,t,fi,d,t1,e1,λv H1 c1 f1 s1 rv=>⟨Oo,c1,t1,f1,.obj k,t2,e2,λx H2 c2 f2 s2 rx=>?_⟩⟩;clear 5(KN rx)b rfl hk;obtain⟨⟨hn,hat⟩,C,dx,us,g1,g2,g3⟩:=f2.s.obs k b _ hk es;refine⟨b,C,dx,us,rfl,g2,(cm n hn C g1).1,(cm n hn C g1).2 f hf,by rw[g3.len];exact hl,?_⟩;obtain⟨f3,s3⟩:=f2.wrObj (o:=.ins n (Hv f d fs)) (u:=.ins C dx (D2 f v us)) hk λc' H' ext hu=>⟨⟨hn,RU hf hat⟩,C,dx,_,g1,hu,(FldR.put (rv.mono s2.ext) g3).mono ext⟩;exact kk σ _ c2 f3 ((s1.trans s2).trans s3)
  .cases eq
theorem U0{ds:List D}{t:T}{r:D}{t':T}(e:(match h (.obj t.S.length::ds) (t.S++[.ins n []]) with|some (.non,S')=>some (.obj t.S.length,{t with S:=S'})|_=>none:Option (D×T))=some (r,t')) :
 ∃S',h (.obj t.S.length::ds) (t.S++[.ins n []])=some (.non,S')/\r=.obj t.S.length/\t' = {t with S:=S'}:=by
 split at e
 .next S' q=>cases e;exact⟨S',q,rfl,rfl⟩
 .cases e
set_option tactic.hygienic false
theorem Q9{k:Nat}{fa:mm}{fd:mx}{ps:List Str}(hn:n∈M9)(hC:nsIn X.K mainGlobals n=some (some (.ref C)))(M:Mk X.K C fa)(F:FnOk X.prog X.w X.K X.mg X.base CX0 k fa fd ps (spF X.K h))(hr:Room (k+1) X.A)(hg:Gl X n)(hm:X.mg n=some (.ref C))(hb:Binds X.K fd ps [])
 (ha:PA X (e::es) (RA X.K fl)) (hdb:autoParam ((n==("__debug__":Str))=false) q1T) (h1:autoParam (Bm e=false) q3T) (h2:autoParam (Bo es=true) q3T):PE X (.Call (.Name n p) (e::es) [] pos) (RE X.K (IU n h fl)):=
 AO (ap M F hr hg hm hb .nil KM ha hdb (Bu h1) (Bd h2).1) λσ H Q z9=>by
  clear 5 z9 Oo c t fi r t' eq kk;clear 5(Ag eq)ds t1 e1 eq;clear 5(U0 eq)S' e2 rfl rfl;refine⟨Oo,c,t,fi,ds,t1,e1,λvs H1 c1 f1 s1 rvs x dx hx hdx ne=>?_⟩;rw[ui9];have f2:=f1.laid (p:=dx) (o:=.own x) hdx;have s2:=f1.stp_laid (p:=dx) (o:=.own x) hdx;have hx2:upd H1 dx (.own x) x=none:=by rw[Ay (Ne.symm ne)];exact hx
  obtain⟨c3,f3,s3,e3⟩:=f2.newObj (o:=.ins n []) (u:=.ins C dx []) hx2 λc' H' ext hu=>⟨⟨hn,λp hp=>by cases hp⟩,C,dx,[],hC,hu,.nil⟩;refine⟨c3,.obj t1.S.length::ds,_,f3.s,.cons (.obj e3) ((rvs.mono s2.ext).mono s3.ext),.non,S',e2,λv H' c' si st ho rv=>?_⟩;clear 5(f3.after si st ho)f4 s4
  cases rv
  exact⟨rfl,kk _ H' c' f4 ((s1.trans s2).trans (s3.trans s4)) (.obj (st.ext.io _ _ e3))⟩
structure MAt(K:mh)(n m:Str)(C fa:mm):Prop where
 cl:n∈M9
 at_:nsIn K mainGlobals n=some (some (.ref C))
 me:Meth K C m fa
 na:m∉atN
theorem N2{d:D}{t:T}{r:D}{t':T}(e:Hh d (λ_ n' _=>if n'=n then bnd fl λds t=>match h (d::ds) t.S with|some (r,S')=>some (r,{t with S:=S'})|none=>none else fail) t=some (r,t')) :
 ∃k fs ds t1 S',d=.obj k/\t.S[k]?=some (.ins n fs)/\fl t=some (ds,t1)/\h (d::ds) t1.S=some (r,S')/\t' = {t1 with S:=S'}:=by
 clear 5(JW e)k n' fs rfl es q
 by_cases hn:n'=n
 .subst hn;rw[pW rfl] at q;clear 5(Ag q)ds t1 e1 q;clear 5(HH q)S' e2 rfl;exact⟨k,fs,ds,t1,S',rfl,es,e1,e2,rfl⟩
 .rw[pX hn] at q;cases q
section
variable{k:Nat}{fa:mm}{fd:mx}{ps:List Str}{h:Fn}{n m:Str}{qx:Bool}{E:L2.St->XK}
theorem DI(cm:CM X.K)(ma:MAt X.K n m C fa)(F:FnOk X.prog X.w X.K X.mg X.base CX0 k fa fd ps (spF X.K h))(hr:Room k X.A)(hb:Binds X.K fd ps [])(he:PE X o (RE X.K g))(ha:PA X (e::es) (RA X.K fl))
 (h1:autoParam (Bm e=false) q3T) (h2:autoParam (Bo es=true) q3T) (ht:autoParam (IH X o m (e::es) apos pos pl) q3T):PE X (.Call (.Attribute o m apos) (e::es) [] pos) (RE X.K (AG n h g fl)):=
 AO (aq (pl:=pl) he (cm n ma.cl C ma.at_).1 ma.me F hr hb .nil KM ha (Bu h1) (Bd h2).1 ht) λσ H Q z9=>by
  clear 5 z9 Oo c t fi r t' eq kk;clear 5(Ag eq)d t1 e1 eq;clear 5(N2 eq)j fs ds t2 S' rfl es e2 e3 rfl;refine⟨Oo,c,t,fi,.obj j,t1,e1,λv H1 c1 f1 s1 rv=>?_⟩;clear 5(KN rv)b rfl hk;obtain⟨⟨_,hat⟩,C',dx,us,g1,g2,g3⟩:=f1.s.obs j b _ hk es;rw[ma.at_] at g1
  cases g1
  refine⟨b,dx,us,rfl,g2,g3.none λp hp z=>ma.na (z ▸ hat p hp),Oo,c1,t1,f1,ds,t2,e2,λvs H2 c2 f2 s2 rvs=>?_⟩;show spF X.K h (V.ref b::(vs++[])) H2 Q E0;rw[ui9];refine⟨c2,.obj j::ds,t2.S,f2.s,.cons (.obj (s2.ext.io _ _ hk)) rvs,r,S',e3,λv H' c' si st ho rv=>?_⟩;clear 5(f2.after si st ho)f3 s3;exact kk v H' c' f3 ((s1.trans s2).trans s3) rv
theorem DR(cm:CM X.K)(ma:MAt X.K n m C fa)(F:FnOk X.prog X.w X.K X.mg X.base CX0 k fa fd ps (spF X.K h))(hr:Room k X.A)(hb:Binds X.K fd ps [])(he:PE X o (RE X.K g))(ht:autoParam (IH X o m [] apos pos pl) q3T) :
 PE X (.Call (.Attribute o m apos) [] [] pos) (RE X.K (AG n h g (ret []))):=
 AO (Xy (pl:=pl) he (cm n ma.cl C ma.at_).1 ma.me F hr hb .nil KM ht) λσ H Q z9=>by
  clear 5 z9 Oo c t fi r t' eq kk;clear 5(Ag eq)d t1 e1 eq;clear 5(N2 eq)j fs ds t2 S' rfl es e2 e3 rfl
  cases e2
  refine⟨Oo,c,t,fi,.obj j,t1,e1,λv H1 c1 f1 s1 rv=>?_⟩;clear 5(KN rv)b rfl hk;obtain⟨⟨_,hat⟩,C',dx,us,g1,g2,g3⟩:=f1.s.obs j b _ hk es;rw[ma.at_] at g1
  cases g1
  refine⟨b,dx,us,rfl,g2,g3.none λp hp z=>ma.na (z ▸ hat p hp),?_⟩;refine⟨c1,[.obj j],t1.S,f1.s,.cons (.obj hk) .nil,r,S',e3,λv H' c' si st ho rv=>?_⟩;clear 5(f1.after si st ho)f3 s3;exact kk v H' c' f3 (s1.trans s3) rv
theorem WI{x:Str}(F:FnOk X.prog X.w X.K X.mg X.base CX0 k fa fd ps (spF X.K h))(hr:Room k X.A)(hg:Gl X x)(hm:X.mg x=some (.ref C))(bc:ByCls X.K C m fa)(hb:Binds X.K fd ps [])(ha:PA X (e::es) (RA X.K fl))
 (hdb:autoParam ((x==("__debug__":Str))=false) q1T) (h1:autoParam (Bm e=false) q3T) (h2:autoParam (Bo es=true) q3T) (ht:autoParam (IH X (.Name x p) m (e::es) apos pos pl) q3T):PE X (.Call (.Attribute (.Name x p) m apos) (e::es) [] pos) (RE X.K (Af h fl)):=
 AO (Xt (pl:=pl) (E:=λ_=>E0) F hr hg hm bc hb (λmi σ H s e s'=>KM mi σ H s e s') ha hdb (Bu h1) (Bd h2).1 ht) λσ H Q z9=>by
  clear 5 z9 Oo c t fi r t' eq kk;clear 5(Ag eq)ds t1 e1 eq;clear 5(HH eq)S' e2 rfl;refine⟨Oo,c,t,fi,ds,t1,e1,λvs H1 c1 f1 s1 rvs=>?_⟩;refine⟨c1,ds,t1.S,f1.s,rvs,r,S',e2,λv H' c' si st ho rv=>?_⟩;clear 5(f1.after si st ho)f2 s2;exact kk v H' c' f2 (s1.trans s2) rv
end
end
variable{K:mh}
theorem Ve{k:Kd}{P:mq}{w:mw}{mg:Str->Option mj}{base:Heap}{n:Nat}{fa:mm}{fd:mx}{ps:List Str}{f:Fn}(h:okK k P w K mg base n fa fd ps f):okK k P w K mg base (n+1) fa fd ps f:=by
 cases k<;>exact FnOk.mono h (Nat.le_succ _)
def O3(K:mh)(C:mm):Bool:=plainGet K C Str.empty&&hasDictIn K C&&plainOver K C&&findIn K (.ref C) "__setattr__" == some (some (.builtin "object.__setattr__"))&&atN.all λf=>findIn K (.ref C) f==some none
variable{C:mm}
theorem Zn(h:O3 K C=true):Cls K C/\∀f∈atN,NoAttr K C f:=by
 unfold O3 at h;simp only[uh3,pM,uh7] at h;obtain⟨⟨⟨⟨a,b⟩,c⟩,d⟩,e⟩:=h;exact⟨⟨a,b,c,d⟩,λf hf=>e f hf⟩
theorem gj(h:∀n∈M9,nsIn K mainGlobals n=some none\/∃C,nsIn K mainGlobals n=some (some (.ref C))/\O3 K C=true):CM K:=λn hn C e=>by
 rcases h n hn with q|⟨C',q,b⟩
 .rw[e] at q;cases q
 .rw[e] at q;cases q;exact Zn b
noncomputable def Ox(K:mh)(C:mm):Bool:=makesIn K C&&keepIn K (.ref C)
theorem YF{f:mm}(h:Ox K C=true)(i:findIn K (.ref C) "__init__" = some (some (.ref f)))(hf:isFn K (.ref f)=true):Mk K C f:=by
 unfold Ox at h;simp only[uh3] at h;exact⟨h.1,i,hf,h.2⟩
noncomputable def byB(K:mh)(C:mm)(m:Str):Bool:=specialIn K (.ref C) "__getattribute__" == some (some (.builtin "type.__getattribute__"))&&readsIn K C (.type "type")&&match findCls K (.ref C) (.type "type") m,findIn K (.ref C) m with|some (.val (.ref g)),some (some (.ref f))=>g==f|_,_=>false
set_option tactic.hygienic true in
theorem gi{f:mm}{m:Str}(h:byB K C m=true)(i:findIn K (.ref C) m=some (some (.ref f)))(k:keepIn K (.ref f)=true):ByCls K C m f:=by
 unfold byB at h;simp only[uh3,pM] at h;obtain⟨⟨a,b⟩,c⟩:=h;refine⟨a,b,?_,k⟩;rw[i] at c
 split at c
 .next g f' e1 e2=>
  cases e2
  rw[e1];exact c
 .cases c
end
section
variable{K:mh}
def NE:D->Option Int->Option Int->M D
 |.obj k,lo,hi=>λt=>match t.S[k]? with
   |some (.lst ds)=>some (.lst (BS ds lo hi),t)
   |_=>none
 |x,lo,hi=>Fd x lo hi
set_option tactic.hygienic true in
theorem XX:Ss K (XL K) NE:=λ{Oo c t σ H x dx r lo hi t' Q} f rx eq k=>by
 unfold NE at eq
 split at eq
 .next kk=>
  obtain⟨a,rfl,h1⟩:=rx.rv
  split at eq
  .next ds es=>
   cases eq
   clear 5(f.s.obs kk a _ h1 es)vs g1 g2;exact .inl (.inl ⟨a,vs,rfl,SqL.of g1,λq hq=>k _ _ c (f.laid hq) (f.stp_laid hq) (.lst Be (f.s.free hq) ((F4 g2 lo hi).mono (Ext.laid f.s hq)))⟩)
  .cases eq
 .exact R6 f rx eq k
end
abbrev Gd:=Option (Nat×List D)
def Gon(g:Gd)(S:List Ob):Prop:=∀k xs,g=some (k,xs)->S[k]?=some (.lst xs)
structure ItOk3(K:mh)(J:It)(g:Gd)(c:Cf)(H:Hp)(ds:List D):Prop where
 go:∀c' H' S' (i:Nat),Ext c H c' H'->SInv K c' S' H'->Gon g S'->i<ds.length->J.go i H'
 yld:∀c' H' S' (i:Nat) x H'' d,Ext c H c' H'->SInv K c' S' H'->Gon g S'->ds[i]?=some d->J.yld i H' x H''->∃p vs es,x=.ref p/\H' p=none/\H''=upd H' p (.tup vs)/\d=.tup es/\Reps K c' H' vs es
 stop:∀c' H' S',Ext c H c' H'->SInv K c' S' H'->Gon g S'->J.stop ds.length H'
inductive RI3(K:mh)(f:M (Gd×List D))(σ:L2.St)(H:Hp)(R:It->Hp->Prop):Prop where
 |mk (Oo:mm->Prop) (c:Cf) (t:T) (fi:FInv K Oo c t σ H) (p:Gd×List D) (t':T) (e:f t=some (p,t')) (k:∀J H' c',FInv K Oo c' t' σ H'->Stp Oo c H c' H'->ItOk3 K J p.1 c' H' p.2->R J H'):RI3 K f σ H R
section
variable{X:Cx}{e a b tg iter elt:Expr}{ifs:List Expr}{pos:Pos}{scope:Scope}{N':List Str}{n:Nat}{fr:List Nat}{st:D->M Unit}{tst:M Bool}{el:M D}
end
structure ItOkG(K:mh)(J:It)(g:Gd)(c:Cf)(H:Hp)(ds:List D):Prop where
 go:∀c' H' S' (i:Nat),Ext c H c' H'->SInv K c' S' H'->Gon g S'->i<ds.length->J.go i H'
 yld:∀c' H' S' (i:Nat) x H'' d,Ext c H c' H'->SInv K c' S' H'->Gon g S'->ds[i]?=some d->J.yld i H' x H''->H''=H'/\Rep K c' H' x d
 stop:∀c' H' S',Ext c H c' H'->SInv K c' S' H'->Gon g S'->J.stop ds.length H'
section
variable{X:Cx}{e a b tg iter elt:Expr}{ifs:List Expr}{pos:Pos}{scope:Scope}{N':List Str}{n:Nat}{fr:List Nat}{st:D->M Unit}{tst:M Bool}{el:M D}
end
section
variable{X:Cx}{k:Nat}{f l I S:mm}{fd:mx}{ps:List Str}{sp:Sp}{mi:List (mm×Obj)}{σ:St}{H:Hp}{s:mn}{Q:VK}{oS oI oS' oI':Obj}{h':Heap}{t':Nat}
end
section
variable{K:mh}{g:Fn}
end
section
variable{X:Cx}{e:Expr}{pos:Pos}
def slF:D->Option Int->Option Int->M (List D)
 |.lst ds,lo,hi=>ret (BS ds lo hi)
 |.scr ns,lo,hi=>ret ((BS ns lo hi).map .int)
 |.obj k,lo,hi=>λt=>match t.S[k]? with
   |some (.lst ds)=>some (BS ds lo hi,t)
   |_=>none
 |_,_,_=>fail
def SI(f:M D)(l u:M (Option Int)):M (List D):=bnd f λd=>bnd l λa=>bnd u λb=>slF d a b
set_option tactic.hygienic true in
theorem WR{f:M D}{l u:M (Option Int)}{lo hi:Option Expr}{p2:Pos}(he:PE X e (RE X.K f))(hl:PO X lo (RO X.K l))(hu:PO X hi (RO X.K u)):PE X (.Subscript e (.Slice lo hi none p2) pos) (RF X.K (SI f l u)):=
 AO (Qa sl2 he hl hu) λσ H Q z9=>by
  clear 5 z9 Oo c t fi r t' eq k;clear 5(Ag eq)d t1 e1 eq;clear 5(Ag eq)ol t2 e2 eq;clear 5(Ag eq)oh t3 e3 eq;refine⟨Oo,c,t,fi,d,t1,e1,λv H1 c1 f1 s1 rv=>⟨Oo,c1,t1,f1,ol,t2,e2,λH2 c2 f2 s2=>⟨Oo,c2,t2,f2,oh,t3,e3,λH3 c3 f3 s3=>?_⟩⟩⟩;have rv3:=rv.mono (s2.trans s3).ext;have st:=(s1.trans s2).trans s3
  cases rv3 with
  |@lst p vs ds h1 h2 h3=>
    cases eq
    exact .inl ⟨p,vs,rfl,SqL.of h1,λq hq=>k q _ _ c3 f3 st (F4 h3 ol oh) hq⟩
  |@scr p ns h1=>
    cases eq
    refine .inl ⟨p,_,rfl,h1.sq,λq hq=>k q _ _ c3 f3 st ?_ hq⟩;rw[NV];exact Reps.ints _
  |@obj a kk h1=>
    unfold slF at eq;dsimp only at eq
    split at eq
    .next ds es=>
     cases eq
     clear 5(f3.s.obs kk a _ h1 es)vs g1 g2;exact .inl ⟨a,vs,rfl,SqL.of g1,λq hq=>k q _ _ c3 f3 st (F4 g2 ol oh) hq⟩
    .cases eq
  |_=>cases eq
end
section
variable{X:Cx}{e elt tg iter:Expr}{pos:Pos}{scope:Scope}{N':List Str}{ifs:List Expr}{n:Nat}{fr:List Nat}{f:M (List D)}{st:D->M Unit}{tst:M Bool}{el:M D}
end
section
variable{X:Cx}{e:Expr}
end
section
variable{X:Cx}{e el eu ek:Expr}{p2 pos:Pos}{te:TE}{tl tu tk:TO}
end
section
variable{X:Cx}{elt tg iter:Expr}{pos:Pos}{scope:Scope}{N':List Str}{ifs:List Expr}{n:Nat}{fr:List Nat}{st:D->M Unit}{tst:M Bool}{el:M D}
end
abbrev EnO(h:Heap)(e it:mm)(i:Int)(x:mj)(a:mm)(q:Bool):Prop:=h.get? e=some {cls:=.type "enumerate",dict:=none,data:=.fields #[rawInt a,.bool q,.ref it,rawInt i,.none,x],slots:=#[]}
section
variable{prog:mq}{w:mw}{A:Around}{E:mj->mn->Prop}{s:mn}
end
inductive EnS(h:Heap)(e it:mm)(i:Nat):Prop where
 |new (old:mj) (z:i=0) (h1:IsEnum h e it i old)
 |out (old:mj) (a0:mm) (q:Bool) (h1:EnO h e it i old a0 q)
section
variable{A:Around}{s:mn}
end
end L2
namespace PySem
open Sem (wp)
section
variable{prog:mq}{w:mw}{A:Around}{E:mj->mn->Prop}{s:mn}
end
end PySem
namespace L2
open PySem PySem.Spec PyProof.Rows
section
variable{X:Cx}{e:Expr}{ta:TA}{p p2 pos2 pos:Pos}
end
section
variable{X:Cx}{K:mh}{e:Expr}{p p2 pos2 pos:Pos}
end
section
variable{X:Cx}{a b:Expr}{pos:Pos}{f:M Bool}{u v:M D}
end
section
variable{X:Cx}{a b:Expr}{pos:Pos}
end
theorem NY{n:Nat}:∀(bs as:List Str),∃b,C5 (eqN n) (bs.map D.str) (as.map D.str)=some b/\(b&&(bs.map D.str).length==(as.map D.str).length)=decide (bs=as)
 |[],[]=>⟨true,by simp[C5],by simp⟩
 |[],_::_=>⟨true,by simp[C5],by simp⟩
 |_::_,[]=>⟨true,by simp[C5],by simp⟩
 |x::bs,y::as=>by
   clear 5(NY (n:=n) bs as)b h1 h2;have h0:eqN n (.str x) (.str y)=some (x==y):=by cases n<;>rfl
   refine⟨(x==y)&&b,by rw[ul2,ul2,C5,h0,h1],?_⟩;rw[ul2,ul2,ug9,ug9];rw[show((bs.map D.str).length+1==(as.map D.str).length+1)=((bs.map D.str).length==(as.map D.str).length) by rw[uj8];simp,Bool.and_assoc,h2,uj8];simp
theorem Zw{n:Nat}{bs as:List Str}:eqN (n+1) (.tup (bs.map D.str)) (.tup (as.map D.str))=some (decide (bs=as)):=by
 clear 5(NY (n:=n) bs as)b h1 h2;rw[eqN,h1,<-h2];rfl
noncomputable def eTx(H:Hp)(as:List Str):mj->Bool
 |.ref a=>match H a with
   |some (.tup vs)=>decide (vs=as.map V.str)
   |_=>false
 |_=>false
theorem Ql{K:mh}{c:Cf}{H:Hp}:∀{b:List Str}{vs:List V},Reps K c H vs (b.map D.str)->vs=b.map V.str
 |[],_,h=>by cases h;rfl
 |x::b,_,h=>by
   cases h with
   |cons h1 h2=>
     cases h1
     rw[Ql h2];rfl
abbrev Tz(bs:List (List Str)):List D:=bs.map λb=>D.tup (b.map D.str)
theorem K8:∀{a b:List Str},a.map V.str=b.map V.str->a=b
 |[],[],_=>rfl
 |[],_::_,h=>by cases h
 |_::_,[],h=>by cases h
 |x::a,y::b,h=>by
   rw[ul2,ul2] at h;injection h with h1 h2
   injection h1 with h1
   rw[h1,K8 h2]
theorem Ru{P:mq}{w:mw}{K:mh}{c:Cf}{H:Hp}{s:mn}{A:Around}{x:V}{v:mj}{as:List Str}(hok:HOk P w H s.heap)(rx:RelV x v)(qx:Rep K c H x (.tup (as.map D.str)))(hu:A.units+EQD<cLine) :
 ∀{bs:List (List Str)}{vs:List V}{its:List mj},Vals vs its->Reps K c H vs (Tz bs)->(∀u∈its,SeqAt.EqAt A s u v (eTx H as u))/\its.any (eTx H as)=bs.any λb=>decide (b=as)
 |[],_,_,r,h=>by
   cases h;cases r
   refine⟨λu hu=>?_,rfl⟩
   cases hu
 |b::bs,_,_,r,h=>by
   cases h with
   |cons h1 h2=>
     cases r with
     |cons r1 r2=>
       clear 5(Ru hok rx qx hu r2 h2)m1 m2;have h1':=h1
       obtain⟨a,ws,rfl,g1,g2,g3⟩:=h1.rv
       have e:=Ql g3;have r1':=r1
       cases r1
       have e2:eTx H as (.ref a)=decide (b=as):=by
        unfold eTx;simp only[g1];rw[e,uj8,ug6,ug6];exact⟨K8,λz=>by rw[z]⟩
       have q:=(Nd hok EQD (A:=A) r1' rx h1' qx Zw hu).2;refine⟨λu hu=>?_,by rw[ul5,ul5,e2,m2]⟩;rcases ul1.mp hu with rfl|hu
       .rw[e2];exact q
       .exact m1 u hu
def eQ(K:mh):R2:=λx y H Q=>∃c as bs,Rep K c H x (.tup (as.map D.str))/\Rep K c H y (.lst (Tz bs))/\Q (.bl (!(bs.any λb=>decide (b=as)))) H
theorem Vk{X:Cx}(hu:X.A.units+64<cLine):OpR X (compareOp .NotIn) (eQ X.K):=by
 intro mi s σ H x y v u Q I rx ry h;clear 5 h c as bs q1 q2 q
 obtain⟨p,vs,rfl,h1,h2,h3⟩:=q2.rv
 cases ry
 clear 5(Hg I.hok h1)its r pl;clear 5(Ru (A:=X.A.in1) I.hok rx q1 (by rw[show X.A.in1.units=X.A.units+1 from rfl];unfold EQD;lia) r h3)m1 m2;refine SeqAt.notIn_listAt (eTx H as) pl (λw hw=>m1 w (by simpa using hw)) ⟨.bl _,H,I,rfl,?_⟩;rw[show its.toArray.any (eTx H as)=its.any (eTx H as) by simp,m2];exact q
noncomputable def Tt:List D->Option (List Str)
 |[]=>some []
 |.str x::r=>(Tt r).map (x :: ·)
 |_=>none
theorem R9:∀{ds:List D}{xs:List Str},Tt ds=some xs->ds=xs.map D.str
 |[],xs,h=>by cases h;rfl
 |d::r,xs,h=>by
   cases d with
   |str x=>
     rw[Tt] at h;clear 5(ub9.mp h)ys h1 rfl;rw[R9 h1];rfl
   |_=>cases h
def OA:D->Option (List Str)
 |.tup ds=>Tt ds
 |_=>none
theorem QA{d:D}{xs:List Str}(h:OA d=some xs):d=.tup (xs.map D.str):=by
 cases d with
 |tup ds=>rw[R9 h]
 |_=>cases h
def KI:List D->Option (List (List Str))
 |[]=>some []
 |d::r=>(OA d).bind λa=>(KI r).map (a :: ·)
theorem PC:∀{ds:List D}{bs:List (List Str)},KI ds=some bs->ds=Tz bs
 |[],bs,h=>by cases h;rfl
 |d::r,bs,h=>by
   rw[KI] at h;clear 5(Option.bind_eq_some_iff.mp h)a h1 h2;clear 5(ub9.mp h2)ys h3 rfl;rw[QA h1,PC h3];rfl
def Xj:D->Option (List (List Str))
 |.lst ds=>KI ds
 |_=>none
theorem Z4{d:D}{bs:List (List Str)}(h:Xj d=some bs):d=.lst (Tz bs):=by
 cases d with
 |lst ds=>rw[PC h]
 |_=>cases h
def inP(x y:D):M D:=λt=>(OA x).bind λa=>(Xj y).map λbs=>(.bl (!(bs.any λb=>decide (b=a))),t)
theorem a7{K:mh}:Br K (eQ K) inP:=λ{Oo c t σ H x y dx dy r t' Q} f rx ry eq k=>by
 unfold inP at eq;clear 5(Option.bind_eq_some_iff.mp eq)a e1 eq;clear 5(ub9.mp eq)bs e2 eq
 cases eq
 have ex:=QA e1;have ey:=Z4 e2;subst ex ey;exact⟨c,a,bs,rx,ry,k _ H c f .refl (.bl _)⟩
abbrev vw(d:L2.D):Option L2.Sl:=some (.val d)
abbrev md(i:Int):L2.M L2.D:=L2.fC (.int i)
end L2
namespace LW
inductive XN11{A0 A1 A2 A3 A4 A5 A6 A7 A8 A9 A10:Type}(P:A0->A1->A2->A3->A4->A5->A6->A7->A8->A9->A10->Prop):Prop where|mk(a0:A0)(a1:A1)(a2:A2)(a3:A3)(a4:A4)(a5:A5)(a6:A6)(a7:A7)(a8:A8)(a9:A9)(a10:A10)(h:P a0 a1 a2 a3 a4 a5 a6 a7 a8 a9 a10):XN11 P
inductive XN12{A0 A1 A2 A3 A4 A5 A6 A7 A8 A9 A10 A11:Type}(P:A0->A1->A2->A3->A4->A5->A6->A7->A8->A9->A10->A11->Prop):Prop where|mk(a0:A0)(a1:A1)(a2:A2)(a3:A3)(a4:A4)(a5:A5)(a6:A6)(a7:A7)(a8:A8)(a9:A9)(a10:A10)(a11:A11)(h:P a0 a1 a2 a3 a4 a5 a6 a7 a8 a9 a10 a11):XN12 P
inductive XN3{A0 A1 A2:Type}(P:A0->A1->A2->Prop):Prop where|mk(a0:A0)(a1:A1)(a2:A2)(h:P a0 a1 a2):XN3 P
inductive XN4{A0 A1 A2 A3:Type}(P:A0->A1->A2->A3->Prop):Prop where|mk(a0:A0)(a1:A1)(a2:A2)(a3:A3)(h:P a0 a1 a2 a3):XN4 P
inductive XN5{A0 A1 A2 A3 A4:Type}(P:A0->A1->A2->A3->A4->Prop):Prop where|mk(a0:A0)(a1:A1)(a2:A2)(a3:A3)(a4:A4)(h:P a0 a1 a2 a3 a4):XN5 P
inductive XN6{A0 A1 A2 A3 A4 A5:Type}(P:A0->A1->A2->A3->A4->A5->Prop):Prop where|mk(a0:A0)(a1:A1)(a2:A2)(a3:A3)(a4:A4)(a5:A5)(h:P a0 a1 a2 a3 a4 a5):XN6 P
inductive XN7{A0 A1 A2 A3 A4 A5 A6:Type}(P:A0->A1->A2->A3->A4->A5->A6->Prop):Prop where|mk(a0:A0)(a1:A1)(a2:A2)(a3:A3)(a4:A4)(a5:A5)(a6:A6)(h:P a0 a1 a2 a3 a4 a5 a6):XN7 P
inductive XN8{A0 A1 A2 A3 A4 A5 A6 A7:Type}(P:A0->A1->A2->A3->A4->A5->A6->A7->Prop):Prop where|mk(a0:A0)(a1:A1)(a2:A2)(a3:A3)(a4:A4)(a5:A5)(a6:A6)(a7:A7)(h:P a0 a1 a2 a3 a4 a5 a6 a7):XN8 P
inductive XN14{A0 A1 A2 A3 A4 A5 A6 A7 A8 A9 A10 A11 A12 A13:Type}(P:A0->A1->A2->A3->A4->A5->A6->A7->A8->A9->A10->A11->A12->A13->Prop):Prop where|mk(a0:A0)(a1:A1)(a2:A2)(a3:A3)(a4:A4)(a5:A5)(a6:A6)(a7:A7)(a8:A8)(a9:A9)(a10:A10)(a11:A11)(a12:A12)(a13:A13)(h:P a0 a1 a2 a3 a4 a5 a6 a7 a8 a9 a10 a11 a12 a13):XN14 P
inductive AN3(p0 p1 p2:Prop):Prop where|mk:p0->p1->p2->AN3 p0 p1 p2
inductive AN4(p0 p1 p2 p3:Prop):Prop where|mk:p0->p1->p2->p3->AN4 p0 p1 p2 p3
inductive AN5(p0 p1 p2 p3 p4:Prop):Prop where|mk:p0->p1->p2->p3->p4->AN5 p0 p1 p2 p3 p4
inductive AN6(p0 p1 p2 p3 p4 p5:Prop):Prop where|mk:p0->p1->p2->p3->p4->p5->AN6 p0 p1 p2 p3 p4 p5
inductive AN7(p0 p1 p2 p3 p4 p5 p6:Prop):Prop where|mk:p0->p1->p2->p3->p4->p5->p6->AN7 p0 p1 p2 p3 p4 p5 p6
inductive AN8(p0 p1 p2 p3 p4 p5 p6 p7:Prop):Prop where|mk:p0->p1->p2->p3->p4->p5->p6->p7->AN8 p0 p1 p2 p3 p4 p5 p6 p7
open PySem L2
def Ih:M Out:=
 (Al (Eg (fB (Ab (Aa 0) (Ab (fC (.ty "int")) Ad)) Dw) (Ky (fB (Ab (Aa 0) (Ab (fC (.ty "bool")) Ad)) Dw))))
def Ex(OT:Fn):M Out:=
 (Al (Eg (Af OT (Ab (Aa 0) Ad)) (Ep (Aa 1) (Aa 0) (Aa 2) leA leA)))
def PF(M4 OR OQ OS Ck:Fn):M Out:=
 (Ae (Aq 2 (Ac (Aa 0) (md 0) ixD))
 (Ae (ifS (Aj (Ac (Aa 2) (fC (.str "nothing")) (eqS id)))
   (Al (Ac (Aa 1) (fC .non) isC))
   As)
 (Ae (ifS (Aj (Ac (Aa 2) (fC (.str "number")) (eqS id)))
   (Al (Af Ck (Ab (Aa 1) (Ab (Ac (Aa 0) (md 1) ixD) (Ab (Ac (Aa 0) (md 2) ixD) Ad)))))
   As)
 (Ae (ifS (Aj (Ac (Aa 2) (fC (.str "text")) (eqS id)))
   (Al (Af OS (Ab (Aa 0) (Ab (Aa 1) Ad))))
   As)
 (Ae (ifS (Aj (Ac (Aa 2) (fC (.str "list")) (eqS id)))
   (Al (Af OQ (Ab (Aa 0) (Ab (Aa 1) Ad))))
   As)
 (Ae (ifS (Aj (Ac (Aa 2) (fC (.str "pair")) (eqS id)))
   (Al (Af OR (Ab (Aa 0) (Ab (Aa 1) Ad))))
   As)
 (Al (Af M4 (Ab (Aa 0) (Ab (Aa 1) Ad))))))))))
def Ig(IP:Fn):M Out:=
 (Ae (ifS (fOr (Cn (Aj (fB (Ab (Aa 1) (Ab (fC (.ty "str")) Ad)) Dw))) (Aj (Ac (fB (Ab (Aa 1) Ad) A0) (Ac (Aa 0) (md 1) ixD) gtA)))
   (Al (fC (.bl false)))
   As)
 (Ae (Bx (BT (Aa 1)) (Ar 2)
   (ifS (Cn (Aj (Af IP (Ab (fB (Ab (Aa 2) Ad) Lx) Ad))))
   (Al (fC (.bl false)))
   As))
 (Al (fC (.bl true)))))
def J2:M Out:=
 (Al (Eg (Ep (md 32) (Aa 0) (md 126) leA leA) (Ac (Aa 0) (md 37) (eqS λb=>!b))))
def Ic(Fh:Fn):M Out:=
 (Ae (ifS (fOr (Cn (Aj (fB (Ab (Aa 1) (Ab (fC (.ty "list")) Ad)) Dw))) (Aj (Ac (fB (Ab (Aa 1) Ad) A0) (Ac (Aa 0) (md 2) ixD) gtA)))
   (Al (fC (.bl false)))
   As)
 (Ae (Bx (BT (Aa 1)) (Ar 2)
   (ifS (Cn (Aj (Af Fh (Ab (Ac (Aa 0) (md 1) ixD) (Ab (Aa 2) Ad)))))
   (Al (fC (.bl false)))
   As))
 (Al (fC (.bl true)))))
def Ie(Fh:Fn):M Out:=
 (Ae (ifS (fOr (Cn (Aj (fB (Ab (Aa 1) (Ab (fC (.ty "tuple")) Ad)) Dw))) (Aj (Ac (fB (Ab (Aa 1) Ad) A0) (md 2) (eqS λb=>!b))))
   (Al (fC (.bl false)))
   As)
 (Al (Eg (Af Fh (Ab (Ac (Aa 0) (md 1) ixD) (Ab (Ac (Aa 1) (md 0) ixD) Ad))) (Af Fh (Ab (Ac (Aa 0) (md 2) ixD) (Ab (Ac (Aa 1) (md 1) ixD) Ad))))))
def Gu(Fh Ck:Fn):M Out:=
 (Ae (ifS (fOr (Cn (Aj (fB (Ab (Aa 1) (Ab (fC (.ty "tuple")) Ad)) Dw))) (Aj (Ac (fB (Ab (Aa 1) Ad) A0) (md 3) (eqS λb=>!b))))
   (Al (fC (.bl false)))
   As)
 (Ae (ifS (fOr (Cn (Aj (fB (Ab (Ac (Aa 1) (md 0) ixD) (Ab (fC (.ty "str")) Ad)) Dw))) (Aj (Ac (Ac (Aa 1) (md 0) ixD) (fC (.str "of")) (eqS λb=>!b))))
   (Al (fC (.bl false)))
   As)
 (Ae (ifS (Cn (Aj (Af Ck (Ab (Ac (Aa 1) (md 1) ixD) (Ab (md 0) (Ab (Ac (fB (Ab (Ac (Aa 0) (md 1) ixD) Ad) A0) (md 1) Di) Ad))))))
   (Al (fC (.bl false)))
   As)
 (Al (Af Fh (Ab (Ac (Ac (Aa 0) (md 1) ixD) (Ac (Aa 1) (md 1) ixD) ixD) (Ab (Ac (Aa 1) (md 2) ixD) Ad)))))))
def FZ(CJ HV:Fn):M Out:=
 (Ae (Aq 2 (Af HV (Ab (Aa 0) (Ab (Aa 1) Ad))))
 (Ae (ifS (Aj (Ac (fB (Ab (Aa 2) Ad) A0) (md 0) (eqS id)))
   (Al (md 0))
   As)
 (Al (Af CJ (Ab (Aa 0) (Ab (Ac (Aa 2) (fUn (md 1) Ij) ixD) Ad))))))
def Je(CJ Gm:Fn):M Out:=
 (Ae (Aq 2 (md 0))
 (Ae (D1 3 (A9 Ad))
 (Ae (Bx (BQ (Ab (fB (Ab (Aa 1) Ad) A0) Ad)) (Ar 4)
   (Ae (Aq 5 (Af Gm (Ab (Ac (Aa 0) (Aa 2) ixD) (Ab (Ac (Aa 1) (Aa 4) ixD) Ad))))
 (Ae (ifS (Aj (Ac (Aa 5) (fC .non) isC))
   fail
   As)
 (Ae (Aq 6 (AJ (Ab (Aa 2) (Ab (Aa 5) Ad))))
 (Ae (ownM 3 Dg (Ab (Aa 6) Ad))
 (Aq 2 (Af CJ (Ab (Aa 0) (Ab (Aa 6) Ad)))))))))
 (Al (Aa 3)))))
def Hs:M Out:=
 (Al (Ac (Ac (Ac (Ac (Aa 0) (Ac (Aa 1) (md 0) ixD) ixD) (md 1) ixD) (Ac (Aa 1) (md 1) ixD) ixD) (md 2) ixD))
def Hq(Fh FM:Fn):M Out:=
 (Ae (ifS (fOr (Cn (Aj (fB (Ab (Aa 1) (Ab (fC (.ty "tuple")) Ad)) Dw))) (Aj (Ac (fB (Ab (Aa 1) Ad) A0) (md 3) (eqS λb=>!b))))
   (Al (fC .non))
   As)
 (Ae (ifS (fOr (Cn (Aj (fB (Ab (Ac (Aa 1) (md 0) ixD) (Ab (fC (.ty "str")) Ad)) Dw))) (Aj (Ac (Ac (Aa 1) (md 0) ixD) (Ac (Aa 0) (md 0) ixD) (eqS λb=>!b))))
   (Al (fC .non))
   As)
 (Ae (Aq 2 (Af FM (Ab (Aa 0) (Ab (Ac (Aa 1) (md 1) ixD) Ad))))
 (Ae (ifS (fOr (Aj (Ac (Aa 2) (fC .non) isC)) (Cn (Aj (Af Fh (Ab (Ac (Ac (Ac (Aa 0) (md 1) ixD) (Aa 2) ixD) (md 1) ixD) (Ab (Ac (Aa 1) (md 2) ixD) Ad))))))
   (Al (fC .non))
   As)
 (Al (Aa 2))))))
def Gv(BM:Fn):M Out:=
 (Ae (ifS (Cn (Aj (fB (Ab (Aa 1) (Ab (fC (.ty "str")) Ad)) Dw)))
   (Al (fC .non))
   As)
 (Ae (Aq 2 (Af BM (Ab (Aa 0) Ad)))
 (Ae (Bx (BQ (Ab (fB (Ab (Aa 2) Ad) A0) Ad)) (Ar 3)
   (ifS (Aj (Ac (Ac (Ac (Aa 2) (Aa 3) ixD) (md 0) ixD) (Aa 1) (eqS id)))
   (Al (Aa 3))
   As))
 (Al (fC .non)))))
def Jg(BH:Fn):M Out:=
 (Al (fIf (Aj (Af BH (Ab (Aa 0) Ad))) (AJ Ad) (Ac (Aa 0) (md 1) ixD)))
def Lq:M Out:=
 (Al (Ac (Ac (Aa 0) (md 0) ixD) (fC (.str "end")) (eqS id)))
def Jc(L4 BH:Fn):M Out:=
 (Al (Af BH (Ab (Ac (Aa 0) (Af L4 (Ab (Aa 0) (Ab (Aa 1) Ad))) ixD) Ad)))
def Jb(Fv:Fn):M Out:=
 (Ae (ifS (Aj (Ac (Aa 1) (md 0) ltA))
   (Al (md 0))
   As)
 (Al (Ac (Ac (Af Fv (Ab (Aa 0) (Ab (Aa 1) Ad))) (Aa 1) ixD) (md 0) ixD)))
def FW(DF EM:Fn):M Out:=
 (Ae (D1 2 (A9 (Ab (Af EM (Ab (Aa 0) Ad)) Ad)))
 (Ae (Bx (BQ (Ab (Aa 1) Ad)) (Ar 3)
   (ownM 2 Dg (Ab (Af DF (Ab (Aa 0) (Ab (G9 2 (Aa 3)) Ad))) Ad)))
 (Al (Aa 2))))
def E7(BH:Fn):M Out:=
 (Al (Au (A5 1 [] (BT (Aa 0)) (Ar 0) DL (fIf (Aj (Af BH (Ab (Aa 0) Ad))) (md 1) (md 0)))))
def DY(BM B5:Fn):M Out:=
 (Al (Au (A5 1 [1] (BT (Aa 0)) (Ar 0) DL (Af B5 (Ab (Af BM (Ab (Aa 0) Ad)) (Ab (Aa 1) Ad))))))
def FV:M Out:=
 (Al (fB (Ab (Au (A5 1 [1] (BT (Aa 0)) (Ar 0) DL (Ac (Aa 1) (Ac (Aa 0) (md 2) ixD) ixD))) Ad) Ki))
def Lr(B5 KU BM Fv HU:Fn):M Out:=
 (Ae (ifS (Cn (Aj (Ep (md 0) (Aa 2) (Af HU (Ab (Aa 0) (Ab (Aa 1) Ad))) leA ltA)))
   fail
   As)
 (Ae (Aq 3 (Af Fv (Ab (Aa 0) (Ab (Aa 1) Ad))))
 (Ae (D1 4 (A9 Ad))
 (Ae (Aq 5 (md 0))
 (Ae (Aq 6 (Aa 2))
 (Ae (Bx (Mb (Ab (Ac (Aa 1) (md 1) Di) (Ab (fUn (md 1) Ij) (Ab (fUn (md 1) Ij) Ad)))) (Ar 7)
   (Ae (Aq 8 (Af BM (Ab (Ac (Aa 0) (Aa 5) ixD) Ad)))
 (Ae (Aq 9 (Af KU (Ab (Aa 8) (Ab (Ac (Aa 3) (Aa 7) ixD) (Ab (Aa 6) Ad)))))
 (Ae (Aq 6 (Ac (Aa 6) (Af B5 (Ab (fSl (Aa 8) fNo (GH (Aa 9)) Fd) (Ab (Ac (Aa 3) (Aa 7) ixD) Ad))) Di))
 (Ae (ownM 4 Dg (Ab (Ac (Ac (Aa 8) (Aa 9) ixD) (md 0) ixD) Ad))
 (Aq 5 (Ac (Ac (Aa 8) (Aa 9) ixD) (md 2) ixD)))))))
 (Hx 4)))))))
def Fa(B5:Fn):M Out:=
 (Ae (Aq 3 (md 0))
 (Ae (IF (Aj (Ac (Aa 2) (Af B5 (Ab (fSl (Aa 0) fNo (GH (Ac (Aa 3) (md 1) AL)) Fd) (Ab (Aa 1) Ad))) geA))
   (Aq 3 (Ac (Aa 3) (md 1) AL)))
 (Al (Aa 3))))
def Ii(DF B5 BM EM M7:Fn):M Out:=
 (Ae (Aq 2 (Af M7 (Ab (Aa 0) (Ab (Aa 1) Ad))))
 (Ae (Aq 3 (Af EM (Ab (Aa 0) Ad)))
 (Ae (Aq 4 (md 0))
 (Ae (Bx (Mb (Ab (Ac (fB (Ab (Aa 2) Ad) A0) (md 1) Di) (Ab (fUn (md 1) Ij) (Ab (fUn (md 1) Ij) Ad)))) (Ar 5)
   (Ae (Aq 6 (Af BM (Ab (Ac (Aa 0) (Ac (Ac (Aa 2) (Aa 5) ixD) (md 0) ixD) ixD) Ad)))
 (Ae (Aq 4 (Ac (Aa 4) (Af B5 (Ab (fSl (Aa 6) fNo (GH (Ac (Ac (Aa 2) (Aa 5) ixD) (md 1) ixD)) Fd) (Ab (Aa 3) Ad))) AL))
 (Aq 3 (Af DF (Ab (Aa 0) (Ab (Aa 3) Ad)))))))
 (Al (Aa 4))))))
def Gx(BH CJ FM:Fn):M Out:=
 (Ae (Aq 2 (md 0))
 (Ae (D1 3 (A9 Ad))
 (Ae (Bx (BT (Aa 1)) (Ar 4)
   (Ae (Aq 5 (Af FM (Ab (Ac (Aa 0) (Aa 2) ixD) (Ab (Aa 4) Ad))))
 (Ae (ifS (Aj (Ac (Aa 5) (fC .non) isC))
   fail
   As)
 (Ae (Aq 6 (AJ (Ab (Aa 2) (Ab (Aa 5) Ad))))
 (Ae (ownM 3 Dg (Ab (Aa 6) Ad))
 (Aq 2 (Af CJ (Ab (Aa 0) (Ab (Aa 6) Ad)))))))))
 (Ae (ifS (Cn (Aj (Af BH (Ab (Ac (Aa 0) (Aa 2) ixD) Ad))))
   fail
   As)
 (Al (Aa 3))))))
def FE(Cm FN L1:Fn):M Out:=
 (Ae (Aq 2 (Ac (Aa 0) (md 0) ixD))
 (Ae (ifS (Aj (Ac (Aa 2) (fC (.str "nothing")) (eqS id)))
   (Jm (A9 Ad))
   As)
 (Ae (ifS (Aj (Ac (Aa 2) (fC (.str "number")) (eqS id)))
   (Jm (Eb L1 (Ab (Ac (Aa 1) (Ac (Aa 0) (md 1) ixD) Di) (Ab (Af FN (Ab (Ac (Ac (Aa 0) (md 2) ixD) (Ac (Aa 0) (md 1) ixD) Di) Ad)) Ad))))
   As)
 (Ae (ifS (Aj (Ac (Aa 2) (fC (.str "text")) (eqS id)))
   (Jm (bnd (Au (A9 (Ab (fB (Ab (Aa 1) Ad) A0) Ad))) λx=>bnd (Au (A5 1 [] (BT (Aa 1)) (Ar 0) DL (fB (Ab (Aa 0) Ad) Lx))) λy=>Lj x y))
   As)
 (Ae (ifS (Aj (Ac (Aa 2) (fC (.str "list")) (eqS id)))
   (Ae (D1 3 (A9 (Ab (fB (Ab (Aa 1) Ad) A0) Ad)))
 (Ae (Bx (BT (Aa 1)) (Ar 4)
   (ownM 3 E1 (Ab (Au (Eb Cm (Ab (Ac (Aa 0) (md 1) ixD) (Ab (Aa 4) Ad)))) Ad)))
 (Hx 3)))
   As)
 (Ae (ifS (Aj (Ac (Aa 2) (fC (.str "pair")) (eqS id)))
   (Jm (bnd (Au (Eb Cm (Ab (Ac (Aa 0) (md 1) ixD) (Ab (Ac (Aa 1) (md 0) ixD) Ad)))) λx=>bnd (Au (Eb Cm (Ab (Ac (Aa 0) (md 2) ixD) (Ab (Ac (Aa 1) (md 1) ixD) Ad)))) λy=>Lj x y))
   As)
 (Jm (bnd (Au (A9 (Ab (Ac (Aa 1) (md 1) ixD) Ad))) λx=>bnd (Au (Eb Cm (Ab (Ac (Ac (Aa 0) (md 1) ixD) (Ac (Aa 1) (md 1) ixD) ixD) (Ab (Ac (Aa 1) (md 2) ixD) Ad)))) λy=>Lj x y))))))))
def Gy:M Out:=
 (Al (Ac (Ac (fUn (Aa 0) LU) (md 7) AL) (md 8) B6))
def FY(IQ:Fn):M Out:=
 (Jm (A5 1 [0,1] (IV (Ab (md 1) (Ab (Ac (Aa 1) (md 1) AL) Ad))) (Ar 0) DL (Ac (Af IQ (Ab (Aa 1) (Ab (Ac (Aa 2) (Aa 0) Di) Ad))) (md 256) B1)))
def J3:M Out:=
 (Al (Ac (Aa 0) (Ac (md 8) (Aa 1) CB) Qs))
def Ek(M5 OW OV OX M6:Fn):M Out:=
 (Ae (Aq 3 (Ac (Aa 0) (md 0) ixD))
 (Ae (ifS (Aj (Ac (Aa 3) (fC (.str "nothing")) (eqS id)))
   (Al (nxD (AJ (Ab (fC .non) (Ab (Aa 2) Ad)))))
   As)
 (Ae (ifS (Aj (Ac (Aa 3) (fC (.str "number")) (eqS id)))
   (Al (Af M6 (Ab (Aa 0) (Ab (Aa 1) (Ab (Aa 2) Ad)))))
   As)
 (Ae (ifS (Aj (Ac (Aa 3) (fC (.str "text")) (eqS id)))
   (Al (Af OX (Ab (Aa 0) (Ab (Aa 1) (Ab (Aa 2) Ad)))))
   As)
 (Ae (ifS (Aj (Ac (Aa 3) (fC (.str "list")) (eqS id)))
   (Al (Af OV (Ab (Aa 0) (Ab (Aa 1) (Ab (Aa 2) Ad)))))
   As)
 (Ae (ifS (Aj (Ac (Aa 3) (fC (.str "pair")) (eqS id)))
   (Al (Af OW (Ab (Aa 0) (Ab (Aa 1) (Ab (Aa 2) Ad)))))
   As)
 (Al (Af M5 (Ab (Aa 0) (Ab (Aa 1) (Ab (Aa 2) Ad)))))))))))
def Hm:M Out:=
 (Ae (ifS (Aj (Ac (Aa 1) (fB (Ab (Aa 0) Ad) A0) geA))
   (Kf "Short" (Ab (fC (.str "the bytes end within a value")) Ad))
   As)
 (Al (nxD (Ac (Aa 0) (Aa 1) ixD))))
def EI(Sy Ea:Fn):M Out:=
 (Ae (ES 3 (Af Ea (Ab (Ac (Aa 0) (md 1) ixD) (Ab (Aa 1) (Ab (Aa 2) Ad)))))
 (Ae (Aq 4 (Ac (Aa 2) (md 1) AL))
 (Ae (Aq 5 (fC (.str "")))
 (Ae (Bx (BQ (Ab (Aa 3) Ad)) (Ar 6)
   (ES 5 (Kw (Aa 5) (Af Sy (Ab (Aa 1) (Ab (Ac (Aa 4) (Aa 6) AL) Ad))) AL)))
 (Al (nxD (AJ (Ab (Aa 5) (Ab (Ac (Aa 4) (Aa 3) AL) Ad)))))))))
def EG(Cb Ea:Fn):M Out:=
 (Ae (ES 3 (Af Ea (Ab (Ac (Aa 0) (md 2) ixD) (Ab (Aa 1) (Ab (Aa 2) Ad)))))
 (Ae (Aq 4 (Ac (Aa 2) (md 1) AL))
 (Ae (D1 5 (A9 Ad))
 (Ae (Bx (BQ (Ab (Aa 3) Ad)) (Ar 6)
   (Ae (ES 7 (Af Cb (Ab (Ac (Aa 0) (md 1) ixD) (Ab (Aa 1) (Ab (Aa 4) Ad)))))
 (Ae (ownM 5 Dg (Ab (Ac (Aa 7) (md 0) ixD) Ad))
 (Aq 4 (Ac (Aa 7) (md 1) ixD)))))
 (Al (nxD (AJ (Ab (Aa 5) (Ab (Aa 4) Ad)))))))))
def EH(Cb:Fn):M Out:=
 (Ae (ES 3 (Af Cb (Ab (Ac (Aa 0) (md 1) ixD) (Ab (Aa 1) (Ab (Aa 2) Ad)))))
 (Ae (ES 4 (Af Cb (Ab (Ac (Aa 0) (md 2) ixD) (Ab (Aa 1) (Ab (Ac (Aa 3) (md 1) ixD) Ad)))))
 (Al (nxD (AJ (Ab (AJ (Ab (Ac (Aa 3) (md 0) ixD) (Ab (Ac (Aa 4) (md 0) ixD) Ad))) (Ab (Ac (Aa 4) (md 1) ixD) Ad)))))))
def DZ(Cb Ea:Fn):M Out:=
 (Ae (ES 3 (Af Ea (Ab (Ac (fB (Ab (Ac (Aa 0) (md 1) ixD) Ad) A0) (md 1) Di) (Ab (Aa 1) (Ab (Aa 2) Ad)))))
 (Ae (ES 4 (Af Cb (Ab (Ac (Ac (Aa 0) (md 1) ixD) (Aa 3) ixD) (Ab (Aa 1) (Ab (Ac (Aa 2) (md 1) AL) Ad)))))
 (Al (nxD (AJ (Ab (AJ (Ab (fC (.str "of")) (Ab (Aa 3) (Ab (Ac (Aa 4) (md 0) ixD) Ad)))) (Ab (Ac (Aa 4) (md 1) ixD) Ad)))))))
def Jf(EZ HV:Fn):M Out:=
 (Ae (Aq 2 (GG [("left",(Gn (A9 Ad))),("right",(Gn (A9 Ad)))]))
 (Ae (Aq 3 (Af HV (Ab (Aa 0) (Ab (Aa 1) Ad))))
 (Ae (Bx (BQ (Ab (fB (Ab (Aa 3) Ad) A0) Ad)) (Ar 4)
   (Ae (Aq 5 (Ac (Aa 0) (Ac (Ac (Aa 3) (Aa 4) ixD) (md 0) ixD) ixD))
 (DQ (objM E1 (Ac (Aa 2) (Ac (Aa 5) (md 0) ixD) B0) (Ab (Af EZ (Ab (Aa 5) (Ab (Ac (Ac (Aa 3) (Aa 4) ixD) (md 1) ixD) (Ab (Ac (Ac (Aa 1) (Aa 4) ixD) (md 2) ixD) Ad)))) Ad)))))
 (Al (AJ (Ab (Ac (Aa 2) (fC (.str "left")) B0) (Ab (Ac (Aa 2) (fC (.str "right")) B0) Ad)))))))
def FF(Cm:Fn):M Out:=
 (Al (Ac (Au (A9 (Ab (Aa 1) Ad))) (Au (Eb Cm (Ab (Ac (Ac (Ac (Aa 0) (md 1) ixD) (Aa 1) ixD) (md 1) ixD) (Ab (Aa 2) Ad)))) AL))
def FX(BH:Fn):M Out:=
 (Al (Au (A5 1 [] (BT (Aa 0)) (Ar 0) DL (fIf (Aj (Af BH (Ab (Aa 0) Ad))) (Aa 0) (AJ (Ab (Ac (Aa 0) (md 0) ixD) (Ab (Au (fBF (Ab (Ac (Aa 0) (md 1) ixD) Ad) CK)) Ad)))))))
def Fz(LZ:Fn):M Out:=
 (Ae (Dq "grammar" (Af LZ (Ab (Aa 1) Ad)) (Aa 0))
 (Ae (Dq "standing" (md 0) (Aa 0))
 (Ae (Dq "wires" (DH []) (Aa 0))
 (Ae (Dq "places" (DH []) (Aa 0))
 (Bx (BT (Aa 2)) (Ar 3)
   (Ae (Dh (Gn (A9 Ad)) (GM (Bt "wires" (Aa 0)) (Aa 3)))
 (Dh (md 0) (GM (Bt "places" (Aa 0)) (Aa 3)))))))))
def DJ:M Out:=
 (Al (Bt "standing" (Aa 0)))
def CA:M Out:=
 (Al (Ac (fB (Ab (Ac (Bt "wires" (Aa 0)) (Aa 1) B0) Ad) A0) (Ac (Bt "places" (Aa 0)) (Aa 1) B0) Di))
def Xk:M Out:=
 (IF (Aj (fC (.bl true)))
   As)
def Ho:M Out:=
 (Al (fIf (Aj (Ac (Aa 0) (fC (.str "left")) (eqS id))) (fC (.str "right")) (fC (.str "left"))))
def Go(BA JM:Fn):M Out:=
 (Ae (DQ (Af JM (Ab (Aa 0) (Ab (Aa 1) (Ab (AJ (Ab (Af BA (Ab (Aa 2) Ad)) Ad)) Ad)))))
 (Dq "side" (Aa 2) (Aa 0)))
def Gp(Oj:Fn):M Out:=
 (Al (AG "Side" Oj (Aa 0) (Ab (Aa 1) (Ab (Aa 2) Ad))))
def FU(M2:Fn):M Out:=
 (Al (AG "Side" M2 (Aa 0) (Ab (Aa 1) Ad)))
def J4(BM:Fn):M Out:=
 (Ae (Aq 1 (DH [(0,(Au (A9 Ad)))]))
 (Ae (Aq 2 (Au (A9 (Ab (md 0) Ad))))
 (Ae (IF (Aj (Ac (fB (Ab (Aa 2) Ad) A0) (md 0) gtA))
   (Ae (D1 3 (A9 Ad))
 (Ae (Bx (BT (Aa 2)) (Ar 4)
   (Bx (BT (Af BM (Ab (Ac (Aa 0) (Aa 4) ixD) Ad))) (Ar 5)
   (ifS (Aj (Ac (Ac (Aa 5) (md 2) ixD) (Aa 1) (inK true)))
   (Ae (Dh (Ac (Ac (Aa 1) (Aa 4) HI) (Au (A9 (Ab (Ac (Aa 5) (md 0) ixD) Ad))) AL) (ME (Aa 1) (Ac (Aa 5) (md 2) ixD)))
 (ownM 3 Dg (Ab (Ac (Aa 5) (md 2) ixD) Ad)))
   As)))
 (Aq 2 (Aa 3)))))
 (Al (Aa 1)))))
def Ej:M Out:=
 (Ae (ifS (Aj (Ac (Aa 1) (fB (Ab (Aa 0) Ad) A0) ltA))
   (Al (Ac (Aa 0) (Aa 1) ixD))
   As)
 (Al (Ac (Ac (Ac (Ac (md 23) (Aa 1) CB) (Aa 1) CB) (Ac (md 13) (Aa 1) CB) AL) (md 5) AL)))
def Gq:M Out:=
 (Ae (Aq 2 (Ac (Ac (Ac (Ac (Ac (Aa 0) (md 48271) CB) (Ac (Ac (md 7919) (Aa 1) CB) (Aa 1) CB) AL) (Ac (md 104729) (Aa 1) CB) AL) (md 11) AL) (md 2147483647) B1))
 (Ae (Aq 2 (Ac (Ac (Aa 2) (Aa 2) CB) (md 2147483629) B1))
 (Al (Ac (Ac (Ac (Aa 2) (Aa 2) CB) (Ac (Aa 2) (md 1000003) CB) AL) (Aa 0) AL))))
def Gs:M Out:=
 (Ae (ifS (Aj (Ac (Ac (Ac (Aa 0) (Aa 1) ixD) (md 0) ixD) (fC (.str "end")) (eqS id)))
   (Al (Au (A9 Ad)))
   As)
 (Al (Au (A5 1 [] (BT (Ac (Ac (Aa 0) (Aa 1) ixD) (md 1) ixD)) (Ar 0) DL (Ac (Aa 0) (md 2) ixD)))))
def C9(EW:Fn):M Out:=
 (Ae (Aq 2 (Ac (Aa 0) (md 7) B1))
 (Ae (Aq 0 (Ac (Aa 0) (md 7) B6))
 (Ae (ifS (fOr (Aj (Ac (Aa 2) (md 2) ltA)) (Aj (Ac (Aa 1) (md 0) (eqS id))))
   (Ae (Aq 3 (Ac (Ac (Aa 0) (md 9) B1) (md 4) Di))
 (Al (Au (A9 (Ab (AJ (Ab (fC (.str "number")) (Ab (Aa 3) (Ab (Ac (Aa 3) (Ac (Au (A9 (Ab (md 0) (Ab (md 1) (Ab (md 255) (Ab (md 256) (Ab (md 300) (Ab (md 70000) Ad)))))))) (Ac (Ac (Aa 0) (md 9) B6) (md 6) B1) ixD) AL) Ad)))) (Ab (Ac (Aa 0) (md 54) B6) Ad))))))
   As)
 (Ae (ifS (Aj (Ac (Aa 2) (md 2) (eqS id)))
   (Al (Au (A9 (Ab (AJ (Ab (fC (.str "nothing")) Ad)) (Ab (Aa 0) Ad)))))
   As)
 (Ae (ifS (Aj (Ac (Aa 2) (md 3) (eqS id)))
   (Al (Au (A9 (Ab (AJ (Ab (fC (.str "text")) (Ab (Ac (Aa 0) (md 4) B1) Ad))) (Ab (Ac (Aa 0) (md 4) B6) Ad)))))
   As)
 (Ae (Dh (Af EW (Ab (Aa 0) (Ab (Ac (Aa 1) (md 1) Di) Ad))) (unS 2 (A1 (Ar 4) (A1 (Ar 0) Db))))
 (Ae (ifS (Aj (Ac (Aa 2) (md 4) (eqS id)))
   (Al (Au (A9 (Ab (AJ (Ab (fC (.str "list")) (Ab (Aa 4) (Ab (Ac (Aa 0) (md 4) B1) Ad)))) (Ab (Ac (Aa 0) (md 4) B6) Ad)))))
   As)
 (Ae (Dh (Af EW (Ab (Aa 0) (Ab (Ac (Aa 1) (md 1) Di) Ad))) (unS 2 (A1 (Ar 5) (A1 (Ar 0) Db))))
 (Ae (ifS (Aj (Ac (Aa 2) (md 5) (eqS id)))
   (Al (Au (A9 (Ab (AJ (Ab (fC (.str "pair")) (Ab (Aa 4) (Ab (Aa 5) Ad)))) (Ab (Aa 0) Ad)))))
   As)
 (Al (Au (A9 (Ab (AJ (Ab (fC (.str "choice")) (Ab (AJ (Ab (Aa 4) (Ab (Aa 5) Ad))) Ad))) (Ab (Aa 0) Ad))))))))))))))
def E8(Dj:Fn):M Out:=
 (Ae (Aq 2 (Ac (Aa 0) (md 0) ixD))
 (Ae (ifS (Aj (Ac (Aa 2) (fC (.str "nothing")) (eqS id)))
   (Al (Au (A9 (Ab (fC .non) (Ab (Aa 1) Ad)))))
   As)
 (Ae (ifS (Aj (Ac (Aa 2) (fC (.str "number")) (eqS id)))
   (Ae (Aq 3 (Ac (Ac (Ac (Aa 0) (md 2) ixD) (Ac (Aa 0) (md 1) ixD) Di) (md 1) AL))
 (Al (Au (A9 (Ab (Ac (Ac (Aa 0) (md 1) ixD) (Ac (Aa 1) (Aa 3) B1) AL) (Ab (Ac (Aa 1) (Aa 3) B6) Ad))))))
   As)
 (Ae (ifS (Aj (Ac (Aa 2) (fC (.str "text")) (eqS id)))
   (Ae (Aq 4 (Ac (Aa 1) (Ac (Ac (Aa 0) (md 1) ixD) (md 1) AL) B1))
 (Ae (Aq 5 (Ac (Ac (fC (.str " az~Q0")) (Ac (Ac (Aa 1) (md 7) B6) (md 6) B1) ixD) (Aa 4) CB))
 (Al (Au (A9 (Ab (Aa 5) (Ab (Ac (Ac (Aa 1) (md 7) B6) (Ac (Ac (Aa 0) (md 1) ixD) (md 1) AL) B6) Ad)))))))
   As)
 (Ae (ifS (Aj (Ac (Aa 2) (fC (.str "list")) (eqS id)))
   (Ae (Aq 4 (Ac (Aa 1) (Ac (Ac (Aa 0) (md 2) ixD) (md 1) AL) B1))
 (Ae (Aq 1 (Ac (Aa 1) (Ac (Ac (Aa 0) (md 2) ixD) (md 1) AL) B6))
 (Ae (D1 6 (A9 Ad))
 (Ae (Bx (BQ (Ab (Aa 4) Ad)) (Ar 7)
   (Ae (Dh (Af Dj (Ab (Ac (Aa 0) (md 1) ixD) (Ab (Ac (Aa 1) (Aa 7) AL) Ad))) (unS 2 (A1 (Ar 8) (A1 (Ar 1) Db))))
 (ownM 6 Dg (Ab (Aa 8) Ad))))
 (Al (Au (A9 (Ab (Aa 6) (Ab (Aa 1) Ad)))))))))
   As)
 (Ae (ifS (Aj (Ac (Aa 2) (fC (.str "pair")) (eqS id)))
   (Ae (Dh (Af Dj (Ab (Ac (Aa 0) (md 1) ixD) (Ab (Aa 1) Ad))) (unS 2 (A1 (Ar 8) (A1 (Ar 1) Db))))
 (Ae (Dh (Af Dj (Ab (Ac (Aa 0) (md 2) ixD) (Ab (Aa 1) Ad))) (unS 2 (A1 (Ar 9) (A1 (Ar 1) Db))))
 (Al (Au (A9 (Ab (AJ (Ab (Aa 8) (Ab (Aa 9) Ad))) (Ab (Aa 1) Ad)))))))
   As)
 (Ae (Aq 7 (Ac (Aa 1) (fB (Ab (Ac (Aa 0) (md 1) ixD) Ad) A0) B1))
 (Ae (Dh (Af Dj (Ab (Ac (Ac (Aa 0) (md 1) ixD) (Aa 7) ixD) (Ab (Ac (Aa 1) (fB (Ab (Ac (Aa 0) (md 1) ixD) Ad) A0) B6) Ad))) (unS 2 (A1 (Ar 8) (A1 (Ar 1) Db))))
 (Al (Au (A9 (Ab (AJ (Ab (fC (.str "of")) (Ab (Aa 7) (Ab (Aa 8) Ad)))) (Ab (Aa 1) Ad)))))))))))))
def Ew(EW C1 Ol:Fn):M Out:=
 (Ae (Aq 3 (Ac (md 1) (Ac (Af C1 (Ab (Aa 0) (Ab (md 0) Ad))) (md 6) B1) AL))
 (Ae (D1 4 (A9 Ad))
 (Ae (Bx (BQ (Ab (Aa 3) Ad)) (Ar 5)
   (Ae (Aq 6 (Af C1 (Ab (Aa 0) (Ab (Ac (Aa 1) (Aa 5) AL) Ad))))
 (Ae (ifS (Aj (Ac (Ac (Ac (Af C1 (Ab (Aa 0) (Ab (md 0) Ad))) (md 6) B6) (md 2) B1) (md 1) (eqS id)))
   (Aq 6 (Af Ol (Ab (Aa 6) (Ab (Aa 5) Ad))))
   As)
 (Ae (Aq 7 (Ac (Aa 6) (md 5) B1))
 (Ae (Aq 6 (Ac (Aa 6) (md 5) B6))
 (Ae (ifS (fOr (Lm (Aj (Ac (Aa 7) (md 0) (eqS id))) (Aj (Ac (Aa 5) (md 0) gtA))) (Lm (Aj (Aa 2)) (Aj (Ac (Aa 5) (Ac (Aa 3) (md 1) Di) (eqS id)))))
   (Ae (ownM 4 Dg (Ab (AJ (Ab (fC (.str "end")) Ad)) Ad))
 (ret .cont))
   As)
 (Ae (D1 8 (A9 Ad))
 (Ae (Bx (BQ (Ab (Ac (md 1) (Ac (Aa 6) (md 3) B1) AL) Ad)) (Ar 9)
   (Ae (Aq 6 (Ac (Aa 6) (md 3) B6))
 (Ae (Aq 10 (Ac (Aa 6) (Aa 3) B1))
 (Ae (Dh (Af EW (Ab (Ac (Aa 6) (Aa 3) B6) (Ab (md 2) Ad))) (unS 2 (A1 (Ar 11) (A1 (Ar 6) Db))))
 (ownM 8 Dg (Ab (AJ (Ab (Ac (Ac (fC (.str "abc")) (Aa 9) ixD) (Ac (md 1) (Ac (Aa 5) (md 3) B1) AL) CB) (Ab (Aa 11) (Ab (Aa 10) Ad)))) Ad))))))
 (ownM 4 Dg (Ab (AJ (Ab (Ac (Au (A9 (Ab (fC (.str "left")) (Ab (fC (.str "right")) Ad)))) (Ac (Aa 6) (md 2) B1) ixD) (Ab (Aa 8) Ad))) Ad))))))))))
 (Al (Aa 4)))))
def E6(BA M1:Fn):M Out:=
 (Al (AG "Side" M1 (Aa 0) (Ab (Af BA (Ab (Bt "side" (Aa 0)) Ad)) (Ab (Aa 1) Ad))))
def CP(BA Jz:Fn):M Out:=
 (Al (AG "Side" Jz (Aa 0) (Ab (Af BA (Ab (Bt "side" (Aa 0)) Ad)) Ad)))
def FC(Ft:Fn):M Out:=
 (Ae (ES 3 (Af Ft (Ab (Aa 1) (Ab (Aa 2) Ad))))
 (Ae (ifS (Aj (Ac (Aa 3) (Aa 0) gtA))
   fail
   As)
 (Al (nxD (Aa 3)))))
def D0(IQ Ft FN:Fn):M Out:=
 (Ae (Aq 3 (Ac (Ac (Aa 0) (md 2) ixD) (Ac (Aa 0) (md 1) ixD) Di))
 (Ae (Aq 4 (Af FN (Ab (Aa 3) Ad)))
 (Ae (Aq 5 (md 0))
 (Ae (Bx (BQ (Ab (Aa 4) Ad)) (Ar 6)
   (Ae (ES 5 (Kw (Ac (Aa 5) (md 256) CB) (Af Ft (Ab (Aa 1) (Ab (Ac (Aa 2) (Aa 6) AL) Ad))) AL))
 (ifS (Aj (Ac (Aa 5) (Af IQ (Ab (Aa 3) (Ab (Ac (Ac (Aa 4) (md 1) Di) (Aa 6) Di) Ad))) gtA))
   fail
   As)))
 (Al (nxD (AJ (Ab (Ac (Ac (Aa 0) (md 1) ixD) (Aa 5) AL) (Ab (Ac (Aa 2) (Aa 4) AL) Ad)))))))))
def Hr(IP Ft:Fn):M Out:=
 (Ae (ES 2 (Af Ft (Ab (Aa 0) (Ab (Aa 1) Ad))))
 (Ae (ifS (Cn (Aj (Af IP (Ab (Aa 2) Ad))))
   fail
   As)
 (Al (nxD (Ac (fC (.str " !\"#$ &'()*+,-./0123456789:;<=>?@ABCDEFGHIJKLMNOPQRSTUVWXYZ[\\]^_`abcdefghijklmnopqrstuvwxyz{|}~")) (Ac (Aa 2) (md 32) Di) ixD)))))
def ER(Cb:Fn):M Out:=
 (Ae (ifS (Aj (Ac (Aa 2) (fB (Ab (Aa 1) Ad) A0) geA))
   (Al (fC .non))
   As)
 (Ae (ifS (Aj (Ac (Ac (Aa 1) (Aa 2) ixD) (fB (Ab (Ac (Aa 0) (md 1) ixD) Ad) A0) geA))
   fail
   As)
 (Ae (Aq 3 (Ac (Ac (Aa 0) (md 1) ixD) (Ac (Aa 1) (Aa 2) ixD) ixD))
 (Ae (HB (ES 4 (Af Cb (Ab (Ac (Aa 3) (md 1) ixD) (Ab (Aa 1) (Ab (Ac (Aa 2) (md 1) AL) Ad))))) (hNo "Short" (Al (fC .non)) (hAs "Broken" 5 fail de)))
 (Al (AJ (Ab (AJ (Ab (Ac (Aa 0) (md 0) ixD) (Ab (Ac (Aa 3) (md 0) ixD) (Ab (Ac (Aa 4) (md 0) ixD) Ad)))) (Ab (Ac (Aa 3) (md 2) ixD) (Ab (Ac (Aa 4) (md 1) ixD) Ad)))))))))
def Ht(IR:Fn):M Out:=
 (Ae (Aq 3 (Af IR (Ab (Aa 0) (Ab (md 0) (Ab (GG [("left",(Aa 1)),("right",(Aa 2))]) (Ab (GG [("left",(md 0)),("right",(md 0))]) Ad))))))
 (Al (AJ (Ab (Ac (Aa 3) (md 0) ixD) (Ab (Ac (Aa 3) (md 1) ixD) (Ab (AJ (Ab (Ac (Ac (Aa 3) (md 2) ixD) (fC (.str "left")) B0) (Ab (Ac (Ac (Aa 3) (md 2) ixD) (fC (.str "right")) B0) Ad))) Ad))))))
def Ey(L3:Fn):M Out:=
 (Ae (D1 4 (A9 Ad))
 (Ae (Aq 5 (Aa 1))
 (Ae (Aq 6 (fB (Ab (Aa 3) Ad) Kv))
 (Ae (IF (Aj (Ac (Ac (Ac (Aa 0) (Aa 5) ixD) (md 0) ixD) (Aa 2) (inS false)))
   (Ae (Aq 7 (Ac (Ac (Aa 0) (Aa 5) ixD) (md 0) ixD))
 (Ae (Aq 8 (Af L3 (Ab (Ac (Aa 0) (Aa 5) ixD) (Ab (Ac (Aa 2) (Aa 7) B0) (Ab (Ac (Aa 6) (Aa 7) B0) Ad)))))
 (Ae (ifS (Aj (Ac (Aa 8) (fC .non) isC))
   (ret .brk)
   As)
 (Ae (ownM 4 Dg (Ab (Ac (Aa 8) (md 0) ixD) Ad))
 (Ae (Aq 5 (Ac (Aa 8) (md 1) ixD))
 (Dh (Ac (Aa 8) (md 2) ixD) (GM (Aa 6) (Aa 7)))))))))
 (Al (AJ (Ab (Aa 4) (Ab (Aa 5) (Ab (Aa 6) Ad)))))))))
def E9(JO:Fn):M Out:=
 (Ae (ifS (fOr (Cn (Aj (fB (Ab (Aa 0) (Ab (fC (.ty "tuple")) Ad)) Dw))) (Aj (Ac (fB (Ab (Aa 0) Ad) A0) (Aa 2) (eqS λb=>!b))))
   (Al (fC (.bl false)))
   As)
 (Al (Eg (Af JO (Ab (Ac (Aa 0) (md 0) ixD) (Ab (AJ (Ab (Aa 1) Ad)) Ad))) (Af JO (Ab (Ac (Aa 0) (md 1) ixD) (Ab (fC (.gts ["left", "right"])) Ad))))))
def Cs:M Out:=
 (Al (Eg (fB (Ab (Aa 0) (Ab (fC (.ty "str")) Ad)) Dw) (Ac (Aa 0) (Aa 1) (inD false))))
def E5(IR:Fn):M Out:=
 (Ae (DQ (objM E1 (Ac (Bt "wires" (Aa 0)) (Aa 1) B0) (Ab (Aa 2) Ad)))
 (Ae (Aq 3 (Af IR (Ab (Bt "grammar" (Aa 0)) (Ab (Bt "standing" (Aa 0)) (Ab (Bt "wires" (Aa 0)) (Ab (Bt "places" (Aa 0)) Ad))))))
 (Ae (Dq "standing" (Ac (Aa 3) (md 1) ixD) (Aa 0))
 (Ae (Dq "places" (Ac (Aa 3) (md 2) ixD) (Aa 0))
 (Al (Ac (Aa 3) (md 0) ixD))))))
def FB(EZ CJ Gm:Fn):M Out:=
 (Ae (Aq 3 (Ac (Bt "grammar" (Aa 0)) (Bt "standing" (Aa 0)) ixD))
 (Ae (Aq 4 (Af Gm (Ab (Aa 3) (Ab (AJ (Ab (Bt "side" (Aa 0)) (Ab (Aa 1) (Ab (Aa 2) Ad)))) Ad))))
 (Ae (ifS (Aj (Ac (Aa 4) (fC .non) isC))
   fail
   As)
 (Ae (Dq "standing" (Af CJ (Ab (Bt "grammar" (Aa 0)) (Ab (AJ (Ab (Bt "standing" (Aa 0)) (Ab (Aa 4) Ad))) Ad))) (Aa 0))
 (Al (Af EZ (Ab (Aa 3) (Ab (Aa 4) (Ab (Aa 2) Ad)))))))))
def CO:M Out:=
 (Al (Ac (Ac (Ac (Bt "grammar" (Aa 0)) (Bt "standing" (Aa 0)) ixD) (md 0) ixD) (Bt "side" (Aa 0)) (eqS id)))
def Cl(BH:Fn):M Out:=
 (Al (Af BH (Ab (Ac (Bt "grammar" (Aa 0)) (Bt "standing" (Aa 0)) ixD) Ad)))
def Eh(GY:Fn):M Out:=
 (Ae (Dq "left" (IU "Side" GY (Ab (Aa 1) (Ab (fC (.str "left")) Ad))) (Aa 0))
 (Ae (Dq "right" (IU "Side" GY (Ab (Aa 1) (Ab (fC (.str "right")) Ad))) (Aa 0))
 (Dq "under_way" (GG [("left",(Gn (A9 Ad))),("right",(Gn (A9 Ad)))]) (Aa 0))))
def BU:M Out:=
 (Al (fIf (Aj (Ac (Aa 1) (fC (.str "left")) (eqS id))) (Bt "left" (Aa 0)) (Bt "right" (Aa 0))))
def EV(NS JB JA:Fn):M Out:=
 (Ae (ifS (Aj (Af NS (Ab (Aa 1) (Ab (fC (.str "say")) (Ab (md 4) Ad)))))
   (Al (AG "Parley" JA (Aa 0) (Ab (Ac (Aa 1) (md 1) ixD) (Ab (Ac (Aa 1) (md 2) ixD) (Ab (Ac (Aa 1) (md 3) ixD) Ad)))))
   As)
 (Ae (ifS (Aj (Af NS (Ab (Aa 1) (Ab (fC (.str "take")) (Ab (md 3) Ad)))))
   (Al (AG "Parley" JB (Aa 0) (Ab (Ac (Aa 1) (md 1) ixD) (Ab (Ac (Aa 1) (md 2) ixD) Ad))))
   As)
 fail))
def Eu(CN QE:Fn):M Out:=
 (Ae (Aq 4 (AG "Side" QE (AG "Parley" CN (Aa 0) (Ab (Aa 1) Ad)) (Ab (Aa 2) (Ab (Aa 3) Ad))))
 (Ae (DQ (objM E1 (Ac (Bt "under_way" (Aa 0)) (Aa 1) B0) (Ab (Aa 4) Ad)))
 (Al (Aa 4))))
def Ev(BA CN OP Ck:Fn):M Out:=
 (Ae (Aq 3 (Ac (Bt "under_way" (Aa 0)) (Af BA (Ab (Aa 1) Ad)) B0))
 (Ae (ifS (Cn (Aj (Af Ck (Ab (Aa 2) (Ab (md 1) (Ab (fB (Ab (Aa 3) Ad) A0) Ad))))))
   fail
   As)
 (Ae (Aq 4 (AG "Side" OP (AG "Parley" CN (Aa 0) (Ab (Aa 1) Ad)) (Ab (fSl (Aa 3) fNo (GH (Aa 2)) NE) Ad)))
 (Ae (Dh (Gn (SI (Aa 3) (GH (Aa 2)) fNo)) (GM (Bt "under_way" (Aa 0)) (Af BA (Ab (Aa 1) Ad))))
 (Al (Aa 4))))))
def FA(BA CN LX:Fn):M Out:=
 (Ae (Aq 1 (Au (A5 1 [0] (BT (fC (.gts ["left", "right"]))) (Ar 0) (Aj (AG "Side" LX (AG "Parley" CN (Aa 1) (Ab (Aa 0) Ad)) (ret []))) (AJ (Ab (fC (.str "say")) (Ab (Aa 0) Ad))))))
 (Ae (Aq 2 (Au (A5 1 [0] (BT (fC (.gts ["left", "right"]))) (Ar 0) (Aj (Ac (fB (Ab (Ac (Bt "under_way" (Aa 1)) (Af BA (Ab (Aa 0) Ad)) B0) Ad) A0) (md 0) gtA)) (AJ (Ab (fC (.str "take")) (Ab (Aa 0) Ad))))))
 (Al (Ac (Aa 1) (Aa 2) AL))))
def DX(Fs HG GA:Fn):M Out:=
 (Ae (Aq 1 (Eg (AG "Side" GA (Bt "left" (Aa 0)) (ret [])) (AG "Side" GA (Bt "right" (Aa 0)) (ret []))))
 (Ae (Aq 2 (Ac (AG "Side" HG (Bt "left" (Aa 0)) (ret [])) (AG "Side" HG (Bt "right" (Aa 0)) (ret [])) AL))
 (Al (Eg (Aa 1) (Eg (Ac (Aa 2) (md 0) (eqS id)) (Ac (AG "Parley" Fs (Aa 0) (ret [])) (AJ (Ab (md 0) (Ab (md 0) Ad))) (eqS id)))))))
def Ei(HF:Fn):M Out:=
 (Al (AJ (Ab (AG "Side" HF (Bt "left" (Aa 0)) (ret [])) (Ab (AG "Side" HF (Bt "right" (Aa 0)) (ret [])) Ad))))
def BX:M Out:=
 (Al (AJ (Ab (fB (Ab (Ac (Bt "under_way" (Aa 0)) (fC (.str "left")) B0) Ad) A0) (Ab (fB (Ab (Ac (Bt "under_way" (Aa 0)) (fC (.str "right")) B0) Ad) A0) Ad))))
def Jd(BM:Fn):M Out:=
 (Al (fB (Ab (Au (A5 1 [1] (BT (Af BM (Ab (Aa 0) Ad))) (Ar 0) DL (Ac (Aa 1) (Ac (Aa 0) (md 2) ixD) ixD))) Ad) MV))
def Ia(Ww:Fn):M Out:=
 (DQ (Af Ww (Ab (md 0) Ad)))
def Ib(BH QG:Fn):M Out:=
 (Ae (Aq 1 (Au (A5 1 [] (BT (Aa 0)) (Ar 0) DL (Af BH (Ab (Aa 0) Ad)))))
 (Ae (Bx (BQ (Ab (fB (Ab (Aa 0) Ad) A0) Ad)) (Ar 2)
   (Aq 1 (Au (A5 1 [1] (BT (Aa 0)) (Ar 0) DL (Nf (Af BH (Ab (Aa 0) Ad)) (Af QG (Ab (Aa 0) (Ab (Aa 1) Ad))))))))
 (Al (Au (A5 1 [1] (BQ (Ab (fB (Ab (Aa 0) Ad) A0) Ad)) (Ar 0) (Aj (Ac (Aa 1) (Aa 0) ixD)) (Aa 0))))))
def DA(GX Fs:Fn):M Out:=
 (Bx (BT (Au (A9 (Ab (AJ (Ab (fC (.str "left")) (Ab (md 1) Ad))) (Ab (AJ (Ab (fC (.str "right")) (Ab (md 0) Ad))) Ad))))) (unS 2 (A1 (Ar 1) (A1 (Ar 2) Db)))
   (Ae (Aq 3 (Ac (AG "Parley" Fs (Aa 0) (ret [])) (Aa 2) ixD))
 (ifS (Aj (Ac (Aa 3) (md 0) gtA))
   (DQ (AG "Parley" GX (Aa 0) (Ab (AJ (Ab (fC (.str "take")) (Ab (Aa 1) (Ab (Aa 3) Ad)))) Ad)))
   As)))
def EQ(Om:Fn):M Out:=
 (Ae (D1 2 (A9 (Ab (Au (A5 1 [] (BT (Aa 0)) (Ar 0) DL (fB (Ab (Ac (Ac (Aa 0) (md 0) ixD) (fC (.str "end")) (eqS id)) Ad) Nj))) Ad)))
 (Ae (Bx (BQ (Ab (Aa 1) Ad)) (Ar 3)
   (Ae (Aq 4 (G9 2 (fUn (md 1) Ij)))
 (ownM 2 Dg (Ab (Au (A5 1 [4,0] (BQ (Ab (fB (Ab (Aa 0) Ad) A0) Ad)) (Ar 0) DL (fB (Ab (Au (A5 1 [1] (BT (Af Om (Ab (Aa 2) (Ab (Aa 0) Ad)))) (Ar 0) DL (Ac (Aa 1) (Aa 0) ixD))) Ad) Ki))) Ad))))
 (Al (Aa 2))))
def FD(GB GX Oi Dj JN:Fn):M Out:=
 (Ae (Aq 4 (IU "Parley" JN (Ab (Au (fBF (Ab (Aa 0) Ad) CK)) Ad)))
 (Ae (D1 5 (A9 Ad))
 (Ae (Aq 6 (GG [("left",(Au (A9 Ad))),("right",(Au (A9 Ad)))]))
 (Ae (Aq 7 (md 0))
 (Ae (Bx (BT (Aa 1)) (Ar 8)
   (Ae (Dh (Ac (Aa 0) (Aa 7) ixD) (unS 2 (A1 (Ar 9) (A1 (Ar 10) Db))))
 (Ae (Aq 11 (Ac (Au (A5 1 [8] (BT (Aa 10)) (Ar 0) (Aj (Ac (Ac (Aa 0) (md 0) ixD) (Aa 1) (eqS id))) (Aa 0))) (md 0) ixD))
 (Ae (Aq 12 (Ac (Af Dj (Ab (Ac (Aa 11) (md 1) ixD) (Ab (Aa 2) Ad))) (md 0) ixD))
 (Ae (ifS (fOr (Cn (Aj (Aa 3))) (Aj (Ac (AJ (Ab (fC (.str "say")) (Ab (Aa 9) Ad))) (AG "Parley" Oi (Aa 4) (ret [])) inP)))
   (DQ (Af GB (Ab (Aa 4) Ad)))
   As)
 (Ae (Dh (Ac (Ac (Aa 6) (Aa 9) B0) (AG "Parley" GX (Aa 4) (Ab (AJ (Ab (fC (.str "say")) (Ab (Aa 9) (Ab (Aa 8) (Ab (Aa 12) Ad))))) Ad)) AL) (GM (Aa 6) (Aa 9)))
 (Ae (ownM 5 Dg (Ab (AJ (Ab (Aa 9) (Ab (Aa 8) (Ab (Aa 12) Ad)))) Ad))
 (Ae (Aq 7 (Ac (Aa 11) (md 2) ixD))
 (Aq 2 (Ac (Ac (Aa 2) (md 3) B6) (Ac (Ac (md 7) (Aa 2) CB) (md 1009) B1) AL))))))))))
 (Ae (DQ (Af GB (Ab (Aa 4) Ad)))
 (Al (Au (A9 (Ab (Aa 4) (Ab (Aa 5) (Ab (AJ (Ab (Ac (Aa 6) (fC (.str "left")) B0) (Ab (Ac (Aa 6) (fC (.str "right")) B0) Ad))) (Ab (Aa 7) Ad)))))))))))))
def Ef(Sz QF QH KS EY GZ:Fn):M Out:=
 (Ae (Dh (Af GZ (Ab (Aa 0) (Ab (Aa 1) (Ab (Aa 2) (Ab (Ac (Ac (Aa 2) (md 2) B1) (md 1) (eqS id)) Ad))))) (unS 4 (A1 (Ar 3) (A1 (Ar 4) (A1 (Ar 5) (A1 (Ar 6) Db))))))
 (Ae (ifS (fOr (Cn (Aj (AG "Parley" KS (Aa 3) (ret [])))) (fOr (Aj (Ac (AG "Parley" EY (Aa 3) (ret [])) (AJ (Ab (Aa 6) (Ab (Aa 6) Ad))) (eqS λb=>!b))) (Aj (Ac (Ac (Ac (Aa 0) (Aa 6) ixD) (md 0) ixD) (fC (.str "end")) (eqS λb=>!b)))))
   (Al (fC (.bl false)))
   As)
 (Ae (ifS (fOr (Cn (Aj (Af QF (Ab (Au (fBF (Ab (Aa 0) Ad) CK)) (Ab (Au (fBF (Ab (Aa 4) Ad) CK)) Ad))))) (Aj (Ac (Af QH (Ab (Au (fBF (Ab (Aa 0) Ad) CK)) (Ab (Au (fBF (Ab (Aa 4) Ad) CK)) Ad))) (Aa 5) (eqT λb=>!b))))
   (Al (fC (.bl false)))
   As)
 (Ae (Aq 7 (AJ (Ab (fB (Ab (Ac (Aa 5) (md 0) ixD) Ad) A0) (Ab (fB (Ab (Ac (Aa 5) (md 1) ixD) Ad) A0) Ad))))
 (Al (Ac (Af Sz (Ab (Au (fBF (Ab (Aa 0) Ad) CK)) (Ab (Au (fBF (Ab (Ac (Aa 5) (md 0) ixD) Ad) CK)) (Ab (Au (fBF (Ab (Ac (Aa 5) (md 1) ixD) Ad) CK)) Ad)))) (AJ (Ab (Aa 4) (Ab (Aa 6) (Ab (Aa 7) Ad)))) (eqT id)))))))
def Hn(T9 C1 GZ EY Sx Li OU Ua HU M3 LY:Fn):M Out:=
 (Ae (Aq 1 (Af LY (Ab (Aa 0) (Ab (md 2) (Ab (fC (.bl true)) Ad)))))
 (Ae (Aq 2 (Af M3 (Ab (Aa 1) (Ab (md 7) Ad))))
 (Ae (Bx (BQ (Ab (md 8) Ad)) (Ar 3)
   (Ae (Aq 4 (Af HU (Ab (Au (fBF (Ab (Aa 1) Ad) CK)) (Ab (Aa 3) Ad))))
 (Ae (ifS (Aj (Ac (Aa 4) (Ac (Ac (Aa 2) (Aa 3) ixD) (md 0) ixD) (eqS λb=>!b)))
   (Al (fC (.bl false)))
   As)
 (Bx (BQ (Ab (fB (Ab (md 3) (Ab (Aa 4) Ad)) Lu) Ad)) (Ar 5)
   (Ae (Aq 6 (Ac (Af C1 (Ab (Aa 0) (Ab (Ac (Ac (md 9) (Ac (md 3) (Aa 3) CB) AL) (Aa 5) AL) Ad))) (Aa 4) B1))
 (Ae (Aq 7 (Au (Eb Ua (Ab (Au (fBF (Ab (Aa 1) Ad) CK)) (Ab (Aa 3) (Ab (Aa 6) Ad))))))
 (Ae (ifS (fOr (Aj (Ac (Af OU (Ab (Au (fBF (Ab (Aa 1) Ad) CK)) (Ab (Au (fBF (Ab (Aa 7) Ad) CK)) Ad))) (Aa 6) (eqS λb=>!b))) (Aj (Ac (fB (Ab (Aa 7) Ad) A0) (Aa 3) (eqS λb=>!b))))
   (Al (fC (.bl false)))
   As)
 (ifS (Cn (Aj (Af Li (Ab (Aa 1) (Ab (Aa 7) (Ab (Af C1 (Ab (Aa 0) (Ab (Ac (Ac (md 10) (Aa 3) AL) (Aa 5) AL) Ad))) Ad))))))
   (Al (fC (.bl false)))
   As))))))))
 (Ae (Aq 8 (Af Sx (Ab (Au (fBF (Ab (Aa 1) Ad) CK)) Ad)))
 (Ae (Bx (BT (Au (fBF (Ab (Aa 8) Ad) ID))) (Ar 9)
   (ifS (Aj (Ac (AG "Parley" EY (Ac (Af GZ (Ab (Aa 1) (Ab (Ac (Aa 8) (Aa 9) HI) (Ab (Af C1 (Ab (Aa 0) (Ab (md 8) Ad))) (Ab (fC (.bl false)) Ad))))) (md 0) ixD) (ret [])) (AJ (Ab (Aa 9) (Ab (Aa 9) Ad))) (eqS λb=>!b)))
   (Al (fC (.bl false)))
   As))
 (Ae (Aq 10 (Af T9 (Ab (Au (fBF (Ab (Aa 1) Ad) CK)) Ad)))
 (Al (Ac (Aa 10) (Au (A5 1 [2] (BQ (Ab (fB (Ab (Aa 1) Ad) A0) Ad)) (Ar 0) (Aj (Ac (fB (Ab (Au (A5 1 [0] (BT (Aa 1)) (Ar 0) DL (Ac (Aa 0) (Aa 1) ixD))) Ad) Ki) (md 0) gtA)) (Aa 0))) (eqS id)))))))))
end LW
namespace L2
open PySem
def W{α:Type}(m:M α)(t:T)(P:α->T->Prop):Prop:=∃a t',m t=some (a,t')/\P a t'
def Wf(g:Fn)(ds:List D)(S:List Ob)(P:D->List Ob->Prop):Prop:=∃r S',g ds S=some (r,S')/\P r S'
theorem W.mono{α:Type}{m:M α}{t:T}{P Q:α->T->Prop}(h:W m t P)(i:∀a t',P a t'->Q a t'):W m t Q:=by
 clear 5 h a t' e p;exact⟨a,t',e,i a t' p⟩
theorem Wf.mono{g:Fn}{ds:List D}{S:List Ob}{P Q:D->List Ob->Prop}(h:Wf g ds S P)(i:∀r S',P r S'->Q r S'):Wf g ds S Q:=by
 clear 5 h a t' e p;exact⟨a,t',e,i a t' p⟩
section
variable{α β:Type}
theorem Ax{m:M α}{t:T}{P:α->T->Prop}{a:α}{t':T}(e:m t=some (a,t')):W m t P↔P a t':=by
 constructor
 .rintro⟨a',t1,e',p⟩;rw[e] at e';cases e';exact p
 .exact λp=>⟨a,t',e,p⟩
theorem Fr{m:M α}{t:T}{P:α->T->Prop}(e:m t=none):W m t P↔False:=by
 constructor
 .rintro⟨a',t1,e',p⟩;rw[e] at e';cases e'
 .exact False.elim
@[simp] theorem W_ret {a:α}{t:T}{P:α->T->Prop}:W (ret a) t P↔P a t:=Ax rfl
@[simp] theorem W_fail {t:T}{P:α->T->Prop}:W (fail:M α) t P↔False:=Fr rfl
@[simp] theorem W_bnd {f:M α}{g:α->M β}{t:T}{P:β->T->Prop}:W (bnd f g) t P↔W f t λa t1=>W (g a) t1 P:=by
 constructor
 .rintro⟨b,t',e,p⟩;clear 5(Ag e)a t1 e1 e2;exact⟨a,t1,e1,b,t',e2,p⟩
 .rintro⟨a,t1,e1,b,t',e2,p⟩;exact⟨b,t',by unfold bnd;rw[e1];exact e2,p⟩
@[simp] theorem Yv {c:Prop} [Decidable c] {f g:M α}{t:T}{P:α->T->Prop}:W (if c then f else g) t P↔if c then W f t P else W g t P:=by split<;>rfl
@[simp] theorem ld {n:Nat}{a:α}{t:T}{P:α->T->Prop}:W (lim n a) t P↔n<=LIM/\P a t:=by
 unfold lim;constructor
 .rintro⟨a',t',e,p⟩
  split at e
  .cases e;exact⟨by assumption,p⟩
  .cases e
 .rintro⟨h,p⟩;exact⟨a,t,by simp only[h,pU],p⟩
end
section
variable{t:T}{env:List (Option Sl)}{S:List Ob}
@[simp] theorem W_fC {d:D}{P:D->T->Prop}:W (fC d) t P↔P d t:=Ax rfl
@[simp] theorem T2 {i:Nat}{P:D->T->Prop}:W (Aa i) t P↔match t.env[i]? with
 |some (some (.val d))=>P d t
 |some (some (.own ds))=>P (.lst ds) ⟨t.env.set i (vw (.lst ds)),t.S⟩
 |_=>False:=by
 cases e:t.env[i]? with
 |none=>exact Fr (by unfold Aa;simp[e])
 |some o=>
   cases o with
   |none=>exact Fr (by unfold Aa;simp[e])
   |some sl=>
     cases sl with
     |val d=>exact Ax (by unfold Aa;simp[e])
     |own ds=>exact Ax (by unfold Aa;simp[e])
@[simp] theorem W_fBin {f g:M D}{h:D->D->M D}{P:D->T->Prop}:W (Ac f g h) t P↔W f t λx t1=>W g t1 λy t2=>W (h x y) t2 P:=by simp[Ac]
@[simp] theorem W_fUn {f:M D}{h:D->M D}{P:D->T->Prop}:W (fUn f h) t P↔W f t λx t1=>W (h x) t1 P:=by simp[fUn]
@[simp] theorem W_toB {b:Bool}{P:Bool->T->Prop}:W (toB (.bl b)) t P↔P b t:=Ax rfl
@[simp] theorem W_fTst {f:M D}{P:Bool->T->Prop}:W (Aj f) t P↔W f t λx t1=>W (toB x) t1 P:=by simp[Aj]
@[simp] theorem W_fChain {f g w:M D}{h h':D->D->M D}{P:D->T->Prop}:W (Ep f g w h h') t P↔W f t λx t1=>W g t1 λy t2=>W (h x y) t2 λk t3=>W (toB k) t3 λk t4=>if k=true then W w t4 λz t5=>W (h' y z) t5 P else P (.bl false) t4:=by
 simp[Ep]
@[simp] theorem W_fAnd {f g:M Bool}{P:Bool->T->Prop}:W (Lm f g) t P↔W f t λk t1=>if k=true then W g t1 P else P false t1:=by simp[Lm]
@[simp] theorem W_fOr {f g:M Bool}{P:Bool->T->Prop}:W (fOr f g) t P↔W f t λk t1=>if k=true then P true t1 else W g t1 P:=by simp[fOr]
@[simp] theorem W_fNot {f:M Bool}{P:Bool->T->Prop}:W (Cn f) t P↔W f t λk t1=>P (!k) t1:=by simp[Cn]
@[simp] theorem W_fAndV {f g:M D}{P:D->T->Prop}:W (Eg f g) t P↔W f t λx t1=>W (toB x) t1 λk t2=>if k=true then W g t2 P else P (.bl false) t2:=by simp[Eg]
@[simp] theorem W_fOrV {f g:M D}{P:D->T->Prop}:W (Nf f g) t P↔W f t λx t1=>W (toB x) t1 λk t2=>if k=true then P (.bl true) t2 else W g t2 P:=by simp[Nf]
@[simp] theorem W_fNotV {f:M D}{P:D->T->Prop}:W (Ky f) t P↔W f t λx t1=>W (toB x) t1 λk t2=>P (.bl (!k)) t2:=by simp[Ky]
@[simp] theorem W_fIf {f:M Bool}{g h:M D}{P:D->T->Prop}:W (fIf f g h) t P↔W f t λk t1=>if k=true then W g t1 P else W h t1 P:=by simp[fIf]
@[simp] theorem W_fNil {P:List D->T->Prop}:W Ad t P↔P [] t:=Ax rfl
@[simp] theorem W_fCons {f:M D}{g:M (List D)}{P:List D->T->Prop}:W (Ab f g) t P↔W f t λd t1=>W g t1 λds t2=>P (d::ds) t2:=by simp[Ab]
@[simp] theorem W_fTup {f:M (List D)}{P:D->T->Prop}:W (AJ f) t P↔W f t λds t1=>ds.length<=LIM/\P (.tup ds) t1:=by simp[AJ]
@[simp] theorem W_fLst {f:M (List D)}{P:List D->T->Prop}:W (A9 f) t P↔W f t λds t1=>ds.length<=LIM/\P ds t1:=by simp[A9]
@[simp] theorem W_fPure {f:M (List D)}{P:D->T->Prop}:W (Au f) t P↔W f t λds t1=>P (.lst ds) t1:=by simp[Au]
@[simp] theorem W_newOb {o:Ob}{P:D->T->Prop}:W (Ta o) t P↔P (.obj t.S.length) ⟨t.env,t.S++[o]⟩:=Ax rfl
@[simp] theorem b6 {f:M (List D)}{P:D->T->Prop}:W (Gn f) t P↔W f t λds t1=>W (Ta (.lst ds)) t1 P:=by simp[Gn]
@[simp] theorem W_fCall {g:Fn}{f:M (List D)}{P:D->T->Prop}:W (Af g f) t P↔W f t λds t1=>Wf g ds t1.S λr S'=>P r ⟨t1.env,S'⟩:=by
 unfold Af;rw[W_bnd];constructor
 .rintro⟨ds,t1,e1,r,t',e2,p⟩;refine⟨ds,t1,e1,?_⟩;dsimp only at e2
  cases e:g ds t1.S with
  |none=>rw[e] at e2;cases e2
  |some z=>clear 5 z r' S';rw[e] at e2;cases e2;exact⟨r,_,e,p⟩
 .rintro⟨ds,t1,e1,r,S',e2,p⟩;exact⟨ds,t1,e1,r,_,by simp only[e2],p⟩
@[simp] theorem W_fB {f:M (List D)}{h:List D->M D}{P:D->T->Prop}:W (fB f h) t P↔W f t λds t1=>W (h ds) t1 P:=by simp[fB]
@[simp] theorem W_fBF {f:M (List D)}{h:List D->M (List D)}{P:List D->T->Prop}:W (fBF f h) t P↔W f t λds t1=>W (h ds) t1 P:=by simp[fBF]
@[simp] theorem W_seqS {f g:M Out}{P:Out->T->Prop}:W (Ae f g) t P↔W f t λo t1=>match o with
 |.next=>W g t1 P
 |.brk=>P .brk t1
 |.cont=>P .cont t1
 |.ret d=>P (.ret d) t1:=by
 unfold Ae;constructor
 .rintro⟨o,t',e,p⟩;dsimp only at e
  cases e1:f t with
  |none=>rw[e1] at e;cases e
  |some z=>
    clear 5 z o1 t1;rw[e1] at e;refine⟨o1,t1,e1,?_⟩
    cases o1 with
    |next=>exact⟨o,t',e,p⟩
    |brk=>cases e;exact p
    |cont=>cases e;exact p
    |ret d=>cases e;exact p
 .rintro⟨o,t1,e,p⟩
  cases o with
  |next=>clear 5 p o t' e' p;exact⟨o,t',by simp only[e];exact e',p⟩
  |brk=>exact⟨_,_,by simp only[e],p⟩
  |cont=>exact⟨_,_,by simp only[e],p⟩
  |ret d=>exact⟨_,_,by simp only[e],p⟩
set_option tactic.hygienic true in
@[simp] theorem W_skipS {P:Out->T->Prop}:W As t P↔P .next t:=Ax rfl
@[simp] theorem W_retS {f:M D}{P:Out->T->Prop}:W (Al f) t P↔W f t λd t1=>P (.ret d) t1:=by simp[Al]
set_option tactic.hygienic true in
@[simp] theorem W_dropS {f:M D}{P:Out->T->Prop}:W (DQ f) t P↔W f t λd t1=>P .next t1:=by simp[DQ]
@[simp] theorem W_ifS {f:M Bool}{g h:M Out}{P:Out->T->Prop}:W (ifS f g h) t P↔W f t λk t1=>if k=true then W g t1 P else W h t1 P:=by simp[ifS]
@[simp] theorem W_putV {i:Nat}{d:D}{P:Unit->T->Prop}:W (Ar i d) t P↔P () ⟨t.env.set i (vw d),t.S⟩:=Ax rfl
@[simp] theorem W_setS {i:Nat}{f:M D}{P:Out->T->Prop}:W (Aq i f) t P↔W f t λd t1=>P .next ⟨t1.env.set i (vw d),t1.S⟩:=by
 simp only[Aq,W_bnd,W_ret,W_putV]
@[simp] theorem W_ownS {i:Nat}{f:M (List D)}{P:Out->T->Prop}:W (D1 i f) t P↔W f t λds t1=>P .next ⟨t1.env.set i (some (.own ds)),t1.S⟩:=by
 unfold D1;rw[W_bnd];have:∀(ds:List D) (t1:T),W (λt:T=>some (Out.next,({t with env:=t.env.set i (some (.own ds))}:T))) t1 P↔P .next ⟨t1.env.set i (some (.own ds)),t1.S⟩:=λds t1=>Ax rfl;simp only[this]
set_option tactic.hygienic true in
@[simp] theorem W_asgS {f:M D}{g:D->M Unit}{P:Out->T->Prop}:W (Dh f g) t P↔W f t λd t1=>W (g d) t1 λ_ t2=>P .next t2:=by simp[Dh]
@[simp] theorem W_putNil {P:Unit->T->Prop}:W (Db []) t P↔P () t:=Ax rfl
@[simp] theorem W_putCons {f:D->M Unit}{g:List D->M Unit}{d:D}{ds:List D}{P:Unit->T->Prop}:W (A1 f g (d::ds)) t P↔W (f d) t λ_ t1=>W (g ds) t1 P:=by simp[A1]
@[simp] theorem W_unS_lst {n:Nat}{g:List D->M Unit}{ds:List D}{P:Unit->T->Prop}:W (unS n g (.lst ds)) t P↔ds.length=n/\W (g ds) t P:=by
 unfold unS;simp only[Yv,W_fail];split<;>simp[*]
@[simp] theorem W_unS_tup {n:Nat}{g:List D->M Unit}{ds:List D}{P:Unit->T->Prop}:W (unS n g (.tup ds)) t P↔ds.length=n/\W (g ds) t P:=by
 unfold unS;simp only[Yv,W_fail];split<;>simp[*]
@[simp] theorem W_forS {f:M (List D)}{st:D->M Unit}{b:M Out}{P:Out->T->Prop}:W (Bx f st b) t P↔W f t λds t1=>W (C8 st b ds) t1 P:=by simp[Bx]
set_option tactic.hygienic true
@[simp] theorem W_forL_nil {st:D->M Unit}{b:M Out}{P:Out->T->Prop}:W (C8 st b []) t P↔P .next t:=Ax rfl
theorem W_forL_cons{st:D->M Unit}{b:M Out}{d:D}{r:List D}{P:Out->T->Prop}:W (C8 st b (d::r)) t P↔W (st d) t λ_ t1=>W b t1 λo t2=>match o with
 |.next=>W (C8 st b r) t2 P
 |.cont=>W (C8 st b r) t2 P
 |.brk=>P .next t2
 |.ret x=>P (.ret x) t2:=by
 constructor
 .rintro⟨o,t',e,p⟩;unfold C8 at e
  cases e1:st d t with
  |none=>rw[e1] at e;cases e
  |some z=>
    clear 5 z u t1;rw[e1] at e
    try dsimp only at e
    refine⟨u,t1,e1,?_⟩
    cases e2:b t1 with
    |none=>rw[e2] at e;cases e
    |some z=>
      clear 5 z o2 t2;rw[e2] at e
      try dsimp only at e
      refine⟨o2,t2,e2,?_⟩
      cases o2 with
      |next=>exact⟨o,t',e,p⟩
      |cont=>exact⟨o,t',e,p⟩
      |brk=>cases e;exact p
      |ret x=>cases e;exact p
 .rintro⟨u,t1,e1,o,t2,e2,p⟩
  cases o with
  |next=>clear 5 p o t' e' p;exact⟨o,t',by unfold C8;simp only[e1,e2];exact e',p⟩
  |cont=>clear 5 p o t' e' p;exact⟨o,t',by unfold C8;simp only[e1,e2];exact e',p⟩
  |brk=>exact⟨_,_,by unfold C8;simp only[e1,e2],p⟩
  |ret x=>exact⟨_,_,by unfold C8;simp only[e1,e2],p⟩
theorem BG{st:D->M Unit}{b:M Out}{P:Out->T->Prop}(I:List D->T->Prop):∀(ds:List D) (t:T),I ds t->
 (∀d r t,I (d :: r) t->d∈ds->W (st d) t λ_ t1=>W b t1 λo t2=>match o with
   |.next=>I r t2
   |.cont=>I r t2
   |.brk=>P .next t2
   |.ret x=>P (.ret x) t2)->(∀t,I [] t->P .next t)->W (C8 st b ds) t P
 |[],t,h,_,fin=>W_forL_nil.mpr (fin t h)
 |d::r,t,h,turn,fin=>by
   rw[W_forL_cons];refine(turn d r t h ue6).mono λ_ t1 h1=>h1.mono λo t2 h2=>?_
   cases o with
   |next=>exact BG I r t2 h2 (λd' r' t' h' m=>turn d' r' t' h' (ud1 _ m)) fin
   |cont=>exact BG I r t2 h2 (λd' r' t' h' m=>turn d' r' t' h' (ud1 _ m)) fin
   |brk=>exact h2
   |ret x=>exact h2
set_option tactic.hygienic false
@[simp] theorem W_fComp {n:Nat}{fr:List Nat}{f:M (List D)}{st:D->M Unit}{tst:M Bool}{elt:M D}{P:List D->T->Prop}:W (A5 n fr f st tst elt) t P↔W f t λds t1=>W (Cp st tst elt ds) ⟨cenv n fr t1.env,t1.S⟩ λxs t'=>xs.length<=LIM/\P xs ⟨t1.env,t'.S⟩:=by
 unfold A5;rw[W_bnd];constructor
 .rintro⟨ds,t1,e1,xs,t',e2,p⟩;refine⟨ds,t1,e1,?_⟩;dsimp only at e2
  cases e:Cp st tst elt ds ⟨cenv n fr t1.env,t1.S⟩ with
  |none=>rw[e] at e2;cases e2
  |some z=>
    clear 5 z ys t3;rw[e] at e2;dsimp only at e2
    split at e2
    .cases e2;exact⟨_,_,e,by assumption,p⟩
    .cases e2
 .rintro⟨ds,t1,e1,xs,t',e2,h,p⟩;exact⟨ds,t1,e1,xs,_,by simp only[e2,h,pU],p⟩
@[simp] theorem W_compL_nil {st:D->M Unit}{tst:M Bool}{elt:M D}{P:List D->T->Prop}:W (Cp st tst elt []) t P↔P [] t:=Ax rfl
theorem DC{st:D->M Unit}{tst:M Bool}{elt:M D}{d:D}{r:List D}{P:List D->T->Prop}:W (Cp st tst elt (d::r)) t P↔W (st d) t λ_ t1=>W tst t1 λk t2=>
 if k=true then W elt t2 λx t3=>W (Cp st tst elt r) t3 λxs t4=>P (x::xs) t4 else W (Cp st tst elt r) t2 P:=by
 rw[Cp];simp
theorem OH{st:D->M Unit}{tst:M Bool}{elt:M D}{P:List D->T->Prop}(I:List D->List D->T->Prop):∀(ds:List D) (acc:List D) (t:T),I acc ds t->
 (∀acc d r t,I acc (d::r) t->d∈ds->W (st d) t λ_ t1=>W tst t1 λk t2=>if k=true then W elt t2 λx t3=>I (acc++[x]) r t3 else I acc r t2)->
 (∀acc t,I acc [] t->P acc t)->W (Cp st tst elt ds) t λxs t'=>P (acc++xs) t'
 |[],acc,t,h,_,fin=>W_compL_nil.mpr (by rw[ui9];exact fin acc t h)
 |d::r,acc,t,h,turn,fin=>by
   rw[DC];have turn':∀acc d' r' t',I acc (d'::r') t'->d'∈r->_:=λacc d' r' t' h' m=>turn acc d' r' t' h' (ud1 _ m);refine(turn acc d r t h ue6).mono λ_ t1 h1=>h1.mono λk t2 h2=>?_
   cases k with
   |true=>
     rw[pW rfl] at h2⊢;refine h2.mono λx t3 h3=>(OH I r (acc++[x]) t3 h3 turn' fin).mono λxs t4 h4=>?_;rw[ug0] at h4;exact h4
   |false=>
     rw[pX ue7] at h2⊢;exact OH I r acc t2 h2 turn' fin
theorem Ai{n m:Nat}{g:M Out}{ds:List D}{P:D->List Ob->Prop}(h:ds.length=n)(w:W g ⟨env0 m ds,S⟩ λo t=>match o with
 |.ret r=>P r t.S
 |.next=>P .non t.S
 |_=>False):Wf (fnOf n m g) ds S P:=by
 clear 5 w o t e p
 cases o with
 |ret r=>exact⟨r,t.S,by unfold fnOf;rw[pW h,e],p⟩
 |next=>exact⟨.non,t.S,by unfold fnOf;rw[pW h,e],p⟩
 |brk=>exact p.elim
 |cont=>exact p.elim
@[simp] theorem W_tTru {P:Bool->T->Prop}:W DL t P↔P true t:=Ax rfl
@[simp] theorem kW {P:D->T->Prop}:W jh t P↔P .dic t:=Ax rfl
end
section
variable{t:T}{P:D->T->Prop}
theorem Os{α β:Type}{o:Option β}{g:β->α×T}{Q:α->T->Prop}{m:M α}(e:m t=o.map g):W m t Q↔∃b,o=some b/\Q (g b).1 (g b).2:=by
 constructor
 .rintro⟨a,t',e',p⟩;rw[e] at e';clear 5(ub9.mp e')b h1 h2;exact⟨b,h1,by rw[h2];exact p⟩
 .rintro⟨b,h,p⟩;exact⟨_,_,by rw[e,h];rfl,p⟩
theorem Wm{α:Type}{c:Prop}[Decidable c]{z:α×T}{Q:α->T->Prop}{m:M α}(e:m t=if c then some z else none):W m t Q↔c/\Q z.1 z.2:=by
 constructor
 .rintro⟨a,t',e',p⟩;rw[e] at e'
  split at e'
  .cases e';exact⟨by assumption,p⟩
  .cases e'
 .rintro⟨h,p⟩;exact⟨_,_,by rw[e,pW h],p⟩
theorem OI{α β:Type}{o:Option β}(f:β->α){Q:α->T->Prop}{m:M α}(e:m t=o.map λb=>(f b,t)):W m t Q↔∃b,o=some b/\Q (f b) t:=Os (g:=λb=>(f b,t)) e
theorem Kt{α:Type}{c:Prop}[Decidable c]{a:α}{Q:α->T->Prop}{m:M α}(e:m t=if c then some (a,t) else none):W m t Q↔c/\Q a t:=Wm (z:=(a,t)) e
@[simp] theorem W_ix_tup {ds:List D}{i:Int}:W (ixD (.tup ds) (.int i)) t P↔∃d,atI ds i=some d/\P d t:=OI id rfl
@[simp] theorem W_ix_lst {ds:List D}{i:Int}:W (ixD (.lst ds) (.int i)) t P↔∃d,atI ds i=some d/\P d t:=OI id rfl
@[simp] theorem W_ix_scr {ns:List Int}{i:Int}:W (ixD (.scr ns) (.int i)) t P↔∃n,atI ns i=some n/\P (.int n) t:=OI D.int rfl
@[simp] theorem W_ix_str {x:Str}{i:Int}:W (ixD (.str x) (.int i)) t P↔x.length<=LIM/\∃n,atI x.cps.toList i=some n/\P (.str ⟨#[n]⟩) t:=by
 by_cases h:x.length<=LIM
 .have:ixD (.str x) (.int i) t=(atI x.cps.toList i).map λn=>(.str ⟨#[n]⟩,t):=by simp only[ixD,h,pU]
  rw[Os this];simp[h]
 .rw[Fr (by simp only[ixD,h,pR])];simp[h]
@[simp] theorem W_ix_obj {k:Nat}{i:Int}:W (ixD (.obj k) (.int i)) t P↔∃ds,t.S[k]?=some (.lst ds)/\∃d,atI ds i=some d/\P d t:=by
 cases e:t.S[k]? with
 |none=>rw[Fr (by simp only[ixD,e])];simp
 |some o=>
   cases o with
   |dct _|ins _ _=>rw[Fr (by simp only[ixD,e])];simp
   |lst ds=>
     have:ixD (.obj k) (.int i) t=(atI ds i).map λd=>(d,t):=by simp only[ixD,e]
     rw[Os this];simp
@[simp] theorem GF {α:Type}{a:α}{r:List α}:atI (a::r) 0=some a:=by simp[atI,ixN]
@[simp] theorem Yw {α:Type}{a b:α}{r:List α}:atI (a::b::r) 1=some b:=by
 have:(1:Int)<((a::b::r).length:Nat):=by simp;lia
 simp only[atI,ixN,this,pU,show(0:Int)<=1 by decide];rfl
@[simp] theorem Yx {α:Type}{a b c:α}{r:List α}:atI (a::b::c::r) 2=some c:=by
 have:(2:Int)<((a::b::c::r).length:Nat):=by simp;lia
 simp only[atI,ixN,this,pU,show(0:Int)<=2 by decide];rfl
@[simp] theorem W_len_lst {ds:List D}:W (A0 [.lst ds]) t P↔P (.int ds.length) t:=Ax rfl
@[simp] theorem W_len_tup {ds:List D}:W (A0 [.tup ds]) t P↔P (.int ds.length) t:=Ax rfl
@[simp] theorem W_len_scr {ds:List Int}:W (A0 [.scr ds]) t P↔P (.int ds.length) t:=Ax rfl
@[simp] theorem W_len_str {x:Str}:W (A0 [.str x]) t P↔x.length<=LIM/\P (.int x.length) t:=by simp[A0]
@[simp] theorem W_len_obj {k:Nat}:W (A0 [.obj k]) t P↔∃ds,t.S[k]?=some (.lst ds)/\P (.int ds.length) t:=by
 cases e:t.S[k]? with
 |none=>rw[Fr (by simp only[A0,e])];simp
 |some o=>
   cases o with
   |dct _|ins _ _=>rw[Fr (by simp only[A0,e])];simp
   |lst ds=>rw[Ax (a:=.int ds.length) (t':=t) (by simp only[A0,e])];simp
@[simp] theorem W_isi {d:D}{m:String}:W (Dw [d,.ty m]) t P↔∃n,tyD d=some n/\∃b,Hj n m=some b/\P (.bl b) t:=by
 cases e:tyD d with
 |none=>rw[Fr (by simp only[Dw,e])];simp
 |some n=>
   have:Dw [d,.ty m] t=(Hj n m).map λb=>(.bl b,t):=by simp only[Dw,e]
   rw[Os this];simp
noncomputable def HJ:D->Bool
 |.non=>true
 |_=>false
noncomputable def ju(b:Bool):D->Bool
 |.bl c=>c==b
 |_=>false
@[simp] theorem W_is_non {x:D}:W (isC x .non) t P↔P (.bl (HJ x)) t:=Ax (by cases x<;>rfl)
@[simp] theorem kT {x:D}{b:Bool}:W (isC x (.bl b)) t P↔P (.bl (ju b x)) t:=Ax (by cases x<;>rfl)
@[simp] theorem kS {x y:D}:W (UN x y) t P↔W (isC x y) t λd t1=>W (toB d) t1 λb t2=>P (.bl (!b)) t2:=by
 unfold UN;rw[W_bnd];constructor
 .exact λh=>h.mono λd t1 h1=>by
   cases d with
   |bl b=>simpa using h1
   |_=>exact(W_fail.mp h1).elim
 .exact λh=>h.mono λd t1 h1=>by
   cases d with
   |bl b=>simpa using h1
   |_=>obtain⟨_,_,e,_⟩:=h1;cases e
@[simp] theorem W_add_int {i j:Int}:W (AL (.int i) (.int j)) t P↔P (.int (i+j)) t:=Ax rfl
@[simp] theorem W_sub_int {i j:Int}:W (Di (.int i) (.int j)) t P↔P (.int (i-j)) t:=Ax rfl
@[simp] theorem W_lt_int {i j:Int}:W (ltA (.int i) (.int j)) t P↔P (.bl (decide (i<j))) t:=Ax rfl
@[simp] theorem W_le_int {i j:Int}:W (leA (.int i) (.int j)) t P↔P (.bl (decide (i<=j))) t:=Ax rfl
@[simp] theorem W_gt_int {i j:Int}:W (gtA (.int i) (.int j)) t P↔P (.bl (decide (j<i))) t:=Ax rfl
@[simp] theorem W_ge_int {i j:Int}:W (geA (.int i) (.int j)) t P↔P (.bl (decide (j<=i))) t:=Ax rfl
@[simp] theorem i8 {i j:Str}:W (ltA (.str i) (.str j)) t P↔P (.bl (decide (i.cps.toList<j.cps.toList))) t:=Ax rfl
@[simp] theorem i6 {i j:Str}:W (gtA (.str i) (.str j)) t P↔P (.bl (decide (j.cps.toList<i.cps.toList))) t:=Ax rfl
@[simp] theorem W_neg {i:Int}:W (Ij (.int i)) t P↔P (.int (-i)) t:=Ax rfl
@[simp] theorem W_fdiv {i j:Int}:W (B6 (.int i) (.int j)) t P↔(0<j/\j<1073741824)/\P (.int (i/j)) t:=by
 rw[Wm (m:=B6 (.int i) (.int j)) (c:=Ot i j=true) (z:=(.int (i/j),t)) rfl];simp[Ot]
@[simp] theorem W_mod {i j:Int}:W (B1 (.int i) (.int j)) t P↔0<j/\P (.int (i%j)) t:=by
 rw[Wm (m:=B1 (.int i) (.int j)) (c:=decide (0<j)=true) (z:=(.int (i%j),t)) rfl];simp
@[simp] theorem lg {i j:Int}:W (jG (.int i) (.int j)) t P↔YK i j=true/\P (.int (i ^ j.toNat)) t:=Kt rfl
@[simp] theorem W_mul_int {i j:Int}:W (CB (.int i) (.int j)) t P↔GK i j=true/\P (.int (i*j)) t:=Kt rfl
@[simp] theorem W_mul_str {x:Str}{k:Int}:W (CB (.str x) (.int k)) t P↔(small k=true/\x.length*k.toNat<=LIM/\k<=LIM/\x.length<=LIM)/\P (.str (Txt.mul x k)) t:=Kt rfl
theorem Nm{i j:Int}(h1 : -18446744073709551616<i)(h2:i<18446744073709551616):GK i j=true:=by simp[GK,h1,h2]
theorem Rx{i j:Int}(h1 : -18446744073709551616<j)(h2:j<18446744073709551616):GK i j=true:=by simp[GK,h1,h2]
theorem Bq{k:Int}(h1 : -4611686018427387904<=k)(h2:k<4611686018427387904):small k=true:=by simp[small,h1,h2]
@[simp] theorem W_add_str {x y:Str}:W (AL (.str x) (.str y)) t P↔x.length+y.length<=LIM/\P (.str (x++y)) t:=by
 have:AL (.str x) (.str y)=lim (x.length+y.length) (.str (x++y)):=rfl;rw[this];simp
@[simp] theorem W_add_lst {x y:List D}:W (AL (.lst x) (.lst y)) t P↔x.length+y.length<=LIM/\P (.lst (x++y)) t:=by
 have:AL (.lst x) (.lst y)=lim (x.length+y.length) (.lst (x++y)):=rfl;rw[this];simp
@[simp] theorem W_cat {x y:List D}{Q:List D->T->Prop}:W (Lj (.lst x) (.lst y)) t Q↔x.length+y.length<=LIM/\Q (x++y) t:=by
 have:Lj (.lst x) (.lst y)=lim (x.length+y.length) (x++y):=rfl;rw[this];simp
@[simp] theorem lc {i:Int}:W (jb [.int i]) t P↔P (.int (if i<0 then -i else i)) t:=Ax rfl
@[simp] theorem W_min {i j:Int}:W (Lu [.int i,.int j]) t P↔P (.int (if j<i then j else i)) t:=Ax rfl
@[simp] theorem lf {i j:Int}:W (jA [.int i,.int j]) t P↔P (.int (if j > i then j else i)) t:=Ax rfl
@[simp] theorem iZ {i:Int}:W (Nj [.int i]) t P↔P (.int i) t:=Ax rfl
@[simp] theorem W_int_bl {b:Bool}:W (Nj [.bl b]) t P↔P (.int (if b then 1 else 0)) t:=Ax rfl
@[simp] theorem W_ord {x:Str}:W (Lx [.str x]) t P↔x.length=1/\P (.int (x.cps.getD 0 0:Nat)) t:=Kt rfl
@[simp] theorem i3 {ds:List D}:W (jZ [.lst ds]) t P↔P (.tup ds) t:=Ax rfl
@[simp] theorem W_lst_lst {ds:List D}{Q:List D->T->Prop}:W (CK [.lst ds]) t Q↔Q ds t:=Ax rfl
@[simp] theorem i0 {ds:List D}{Q:List D->T->Prop}:W (CK [.tup ds]) t Q↔Q ds t:=Ax rfl
@[simp] theorem W_eq_str {g:Bool->Bool}{x y:Str}:W (eqS g (.str x) (.str y)) t P↔P (.bl (g (x==y))) t:=Ax rfl
@[simp] theorem W_eq_int {g:Bool->Bool}{x y:Int}:W (eqS g (.int x) (.int y)) t P↔P (.bl (g (x==y))) t:=Ax rfl
@[simp] theorem kQ {g:Bool->Bool}{x y:Bool}:W (eqS g (.bl x) (.bl y)) t P↔P (.bl (g (x==y))) t:=Ax rfl
@[simp] theorem i5 {g:Bool->Bool}{x:List D}:W (eqS g (.lst x) (.lst [])) t P↔P (.bl (g x.isEmpty)) t:=by
 refine Ax ?_
 cases x<;>rfl
theorem J7{a b:String}:Str.ofString a=Str.ofString b↔a=b:=by
 constructor
 .intro h;rw[Str.ofString_eq_toList,Str.ofString_eq_toList] at h;injection h with h
  have h:=pQ Array.toList h;simp only at h;have hinj:∀xs ys:List Char,xs.map Char.toNat=ys.map Char.toNat->xs=ys:=by
   intro xs
   induction xs with
   |nil=>intro ys h;cases ys with|nil=>rfl|cons _ _=>simp at h
   |cons x xs ih=>
     intro ys h
     cases ys with
     |nil=>simp at h
     |cons y ys=>
       simp only[ul2,List.cons.injEq] at h;rw[ih ys h.2,Char.toNat_inj.mp h.1]
  exact String.toList_inj.mp (hinj _ _ (by simpa using h))
 .exact λh=>by rw[h]
@[simp] theorem dM {a b:String}:(Str.ofString a==Str.ofString b)=(a==b):=by
 rw[uj8,pM,pM,J7]
@[simp] theorem W_sl_lst {ds:List D}{lo hi:Option Int}:W (Fd (.lst ds) lo hi) t P↔P (.lst (BS ds lo hi)) t:=Ax rfl
@[simp] theorem i9 {ds:List Int}{lo hi:Option Int}:W (Fd (.scr ds) lo hi) t P↔P (.lst ((BS ds lo hi).map .int)) t:=Ax rfl
@[simp] theorem ja {x:Str}{lo hi:Option Int}:W (Fd (.str x) lo hi) t P↔x.length<=LIM/\P (.str (Txt.slice x lo hi)) t:=by
 have:Fd (.str x) lo hi=lim x.length (.str (Txt.slice x lo hi)):=rfl;rw[this];simp
@[simp] theorem W_sl_tup {ds:List D}{lo hi:Option Int}:W (Fd (.tup ds) lo hi) t P↔P (.tup (BS ds lo hi)) t:=Ax rfl
@[simp] theorem W_fSl {f:M D}{l u:M (Option Int)}{h:D->Option Int->Option Int->M D}:W (fSl f l u h) t P↔W f t λx t1=>W l t1 λlo t2=>W u t2 λhi t3=>W (h x lo hi) t3 P:=by simp[fSl]
@[simp] theorem W_fNo {Q:Option Int->T->Prop}:W fNo t Q↔Q none t:=Ax rfl
@[simp] theorem W_asI {i:Int}{Q:Option Int->T->Prop}:W (asI (.int i)) t Q↔Q (some i) t:=Ax rfl
@[simp] theorem W_fPart {f:M D}{Q:Option Int->T->Prop}:W (GH f) t Q↔W f t λx t1=>W (asI x) t1 Q:=by simp[GH]
@[simp] theorem W_fItA {f:M D}{Q:List D->T->Prop}:W (BT f) t Q↔W f t λx t1=>W (Ec x) t1 Q:=by simp[BT]
@[simp] theorem W_it_lst {ds:List D}{Q:List D->T->Prop}:W (Ec (.lst ds)) t Q↔Q ds t:=Ax rfl
@[simp] theorem W_it_tup {ds:List D}{Q:List D->T->Prop}:W (Ec (.tup ds)) t Q↔Q ds t:=Ax rfl
@[simp] theorem i7 {ds:List Int}{Q:List D->T->Prop}:W (Ec (.scr ds)) t Q↔Q (ds.map .int) t:=Ax rfl
@[simp] theorem W_it_str {x:Str}{Q:List D->T->Prop}:W (Ec (.str x)) t Q↔Q (x.cps.toList.map λc=>.str ⟨#[c]⟩) t:=Ax rfl
@[simp] theorem W_fRng1 {f:M (List D)}{Q:List D->T->Prop}:W (BQ f) t Q↔W f t λx t1=>W (Nw x) t1 Q:=by simp[BQ]
@[simp] theorem W_fRng2 {f:M (List D)}{Q:List D->T->Prop}:W (IV f) t Q↔W f t λx t1=>W (Nx x) t1 Q:=by simp[IV]
@[simp] theorem W_rng1 {j:Int}{Q:List D->T->Prop}:W (Nw [.int j]) t Q↔small j=true/\Q (Bf 0 j.toNat) t:=Kt rfl
@[simp] theorem W_rng2 {i j:Int}{Q:List D->T->Prop}:W (Nx [.int i,.int j]) t Q↔(small i&&small j)=true/\Q (Bf i (j-i).toNat) t:=Kt rfl
set_option tactic.hygienic true in
@[simp] theorem W_ownM {i:Nat}{h:List D->List D->Option (List D)}{g:M (List D)}{Q:Out->T->Prop}:W (ownM i h g) t Q↔(∃xs,t.env[i]?=some (some (.own xs)))/\W g t λds t1=>∃xs,t1.env[i]?=some (some (.own xs))/\∃ys,h xs ds=some ys/\Q .next ⟨t1.env.set i (some (.own ys)),t1.S⟩:=by
 constructor
 .rintro⟨o,t',e,p⟩;unfold ownM at e
  split at e
  .next xs e0=>
   refine⟨⟨xs,e0⟩,?_⟩;clear 5(Ag e)ds t1 e1 e;refine⟨ds,t1,e1,?_⟩
   split at e
   .next ys e2=>
    clear 5(ub9.mp e)zs e3 e4
    cases e4
    exact⟨ys,e2,zs,e3,p⟩
   .cases e
  .cases e
 .rintro⟨⟨xs,e0⟩,ds,t1,e1,ys,e2,zs,e3,p⟩;exact⟨_,_,by unfold ownM bnd;simp only[e0,e1,e2,e3,Option.map_some],p⟩
@[simp] theorem app1_one {xs:List D}{d:D}{ys:List D}:Dg xs [d]=some ys↔xs.length<LIM/\xs++[d]=ys:=by
 unfold Dg;split<;>simp[*]
@[simp] theorem lh {f g:M D}{d:D}{Q:Unit->T->Prop}:W (stD f g d) t Q↔W f t λo t1=>W g t1 λi t2=>W (fu o i d) t2 Q:=by simp[stD]
end
section
variable{t:T}{P:D->T->Prop}{Q:List D->T->Prop}{R:Out->T->Prop}{B:Bool->T->Prop}{U:Unit->T->Prop}
def FT(k:Bool)(A B:Prop):Prop:=if k=true then A else B
theorem HZ{k:Bool}{A B:Prop}(h:k=true)(a:A):FT k A B:=by unfold FT;rw[pW h];exact a
theorem EO{k:Bool}{A B:Prop}(h:k=false)(b:B):FT k A B:=by unfold FT;rw[pX (by rw[h];exact ue7)];exact b
theorem EN{k:Bool}{A B:Prop}(a:k=true->A)(b:k=false->B):FT k A B:=by cases h:k with
 |true=>exact HZ rfl (a h)
 |false=>exact EO rfl (b h)
def EB(g:M Out)(R:Out->T->Prop)(o:Out)(t1:T):Prop:=match o with
 |.next=>W g t1 R
 |o=>R o t1
variable{t1:T}
set_option tactic.hygienic true in
theorem Fl{g:M Out}(h:W g t1 R):EB g R .next t1:=h
theorem XZ{g:M Out}{d:D}(h:R (.ret d) t1):EB g R (.ret d) t1:=h
theorem kG{f g:M Out}(h:W f t (EB g R)):W (Ae f g) t R:=W_seqS.mpr (h.mono λo t1 h1=>by cases o<;>exact h1)
set_option tactic.hygienic true in
theorem iP(h:R .next t):W As t R:=W_skipS.mpr h
variable{f:M D}
theorem kE(h:W f t λd t1=>R (.ret d) t1):W (Al f) t R:=W_retS.mpr h
set_option tactic.hygienic true in
theorem iC(h:W f t λd t1=>R .next t1):W (DQ f) t R:=W_dropS.mpr h
theorem wIf{f:M Bool}{g h:M Out}(w:W f t λk t1=>FT k (W g t1 R) (W h t1 R)):W (ifS f g h) t R:=W_ifS.mpr w
theorem kH{i:Nat}(h:W f t λd t1=>R .next ⟨t1.env.set i (vw d),t1.S⟩):W (Aq i f) t R:=W_setS.mpr h
theorem kD{i:Nat}{f:M (List D)}(h:W f t λd t1=>R .next ⟨t1.env.set i (some (.own d)),t1.S⟩):W (D1 i f) t R:=W_ownS.mpr h
set_option tactic.hygienic true in
theorem j4{g:D->M Unit}(h:W f t λd t1=>W (g d) t1 λ_ t2=>R .next t2):W (Dh f g) t R:=W_asgS.mpr h
theorem j7{f:M (List D)}{st:D->M Unit}{b:M Out}(h:W f t λds t1=>W (C8 st b ds) t1 R):W (Bx f st b) t R:=W_forS.mpr h
theorem wC{d:D}(h:P d t):W (fC d) t P:=W_fC.mpr h
theorem Gz{i:Nat}{d:D}(e:t.env[i]?=some (vw d))(h:P d t):W (Aa i) t P:=by rw[T2,e];exact h
variable{ds:List D}
theorem iU{i:Nat}(e:t.env[i]?=some (some (.own ds)))(h:P (.lst ds) ⟨t.env.set i (vw (.lst ds)),t.S⟩):W (Aa i) t P:=by rw[T2,e];exact h
variable{g:M D}
theorem NI{h:D->D->M D}(w:W f t λx t1=>W g t1 λy t2=>W (h x y) t2 P):W (Ac f g h) t P:=W_fBin.mpr w
theorem wUn{h:D->M D}(w:W f t λx t1=>W (h x) t1 P):W (fUn f h) t P:=W_fUn.mpr w
theorem CL{α β:Type}{f:M α}{g:α->M β}{K:β->T->Prop}(w:W f t λx t1=>W (g x) t1 K):W (bnd f g) t K:=W_bnd.mpr w
theorem TK{b:Bool}(h:B b t):W (toB (.bl b)) t B:=W_toB.mpr h
theorem TM(h:W f t λx t1=>W (toB x) t1 B):W (Aj f) t B:=W_fTst.mpr h
theorem fO{w:M D}{h h':D->D->M D}(q:W f t λx t1=>W g t1 λy t2=>W (h x y) t2 λk t3=>W (toB k) t3 λk t4=>FT k (W w t4 λz t5=>W (h' y z) t5 P) (P (.bl false) t4)):W (Ep f g w h h') t P:=W_fChain.mpr q
theorem j0{f g:M Bool}(h:W f t λk t1=>FT k (W g t1 B) (B false t1)):W (Lm f g) t B:=W_fAnd.mpr h
theorem wOr{f g:M Bool}(h:W f t λk t1=>FT k (B true t1) (W g t1 B)):W (fOr f g) t B:=W_fOr.mpr h
theorem kz{f:M Bool}(h:W f t λk t1=>B (!k) t1):W (Cn f) t B:=W_fNot.mpr h
theorem iu(h:W f t λx t1=>W (toB x) t1 λk t2=>FT k (W g t2 P) (P (.bl false) t2)):W (Eg f g) t P:=W_fAndV.mpr h
theorem kB(h:W f t λx t1=>W (toB x) t1 λk t2=>FT k (P (.bl true) t2) (W g t2 P)):W (Nf f g) t P:=W_fOrV.mpr h
theorem iI(h:W f t λx t1=>W (toB x) t1 λk t2=>P (.bl (!k)) t2):W (Ky f) t P:=W_fNotV.mpr h
theorem kf{f:M Bool}{h:M D}(w:W f t λk t1=>FT k (W g t1 P) (W h t1 P)):W (fIf f g h) t P:=W_fIf.mpr w
theorem NL(h:Q [] t):W Ad t Q:=W_fNil.mpr h
theorem F9{g:M (List D)}(h:W f t λd t1=>W g t1 λds t2=>Q (d::ds) t2):W (Ab f g) t Q:=W_fCons.mpr h
def J0(n:Nat)(A:Prop):Prop:=n<=LIM/\A
variable{n:Nat}
theorem Bi{A:Prop}(h:n<=LIM)(a:A):J0 n A:=⟨h,a⟩
theorem kK{f:M (List D)}(h:W f t λds t1=>J0 ds.length (P (.tup ds) t1)):W (AJ f) t P:=W_fTup.mpr h
theorem kr{f:M (List D)}(h:W f t λds t1=>J0 ds.length (Q ds t1)):W (A9 f) t Q:=W_fLst.mpr h
theorem iL{f:M (List D)}(h:W f t λds t1=>P (.lst ds) t1):W (Au f) t P:=W_fPure.mpr h
theorem kA{f:M (List D)}(h:W f t λds t1=>P (.obj t1.S.length) ⟨t1.env,t1.S++[.lst ds]⟩):W (Gn f) t P:=by rw[b6];exact h.mono λds t1 h=>W_newOb.mpr h
theorem MJ{g:Fn}{f:M (List D)}(h:W f t λds t1=>Wf g ds t1.S λr S'=>P r ⟨t1.env,S'⟩):W (Af g f) t P:=W_fCall.mpr h
theorem wB{f:M (List D)}{h:List D->M D}(w:W f t λds t1=>W (h ds) t1 P):W (fB f h) t P:=W_fB.mpr w
theorem wBF{f:M (List D)}{h:List D->M (List D)}(w:W f t λds t1=>W (h ds) t1 Q):W (fBF f h) t Q:=W_fBF.mpr w
theorem LD{i:Nat}{d:D}(h:U () ⟨t.env.set i (vw d),t.S⟩):W (Ar i d) t U:=W_putV.mpr h
theorem bL(h:U () t):W (Db []) t U:=W_putNil.mpr h
theorem Yp{f:D->M Unit}{g:List D->M Unit}{d:D}(h:W (f d) t λ_ t1=>W (g ds) t1 U):W (A1 f g (d::ds)) t U:=W_putCons.mpr h
theorem kN{g:List D->M Unit}(e:ds.length=n)(h:W (g ds) t U):W (unS n g (.lst ds)) t U:=W_unS_lst.mpr ⟨e,h⟩
theorem kO{g:List D->M Unit}(e:ds.length=n)(h:W (g ds) t U):W (unS n g (.tup ds)) t U:=W_unS_tup.mpr ⟨e,h⟩
theorem iB{fr:List Nat}{f:M (List D)}{st:D->M Unit}{tst:M Bool}{elt:M D}(h:W f t λds t1=>W (Cp st tst elt ds) ⟨cenv n fr t1.env,t1.S⟩ λxs t'=>J0 xs.length (Q xs ⟨t1.env,t'.S⟩)):W (A5 n fr f st tst elt) t Q:=W_fComp.mpr h
theorem TL(h:B true t):W DL t B:=W_tTru.mpr h
variable{i:Int}
theorem EE{d:D}(e:atI ds i=some d)(h:P d t):W (ixD (.tup ds) (.int i)) t P:=W_ix_tup.mpr ⟨d,e,h⟩
theorem A4{d:D}(e:atI ds i=some d)(h:P d t):W (ixD (.lst ds) (.int i)) t P:=W_ix_lst.mpr ⟨d,e,h⟩
theorem TD(h:P (.int ds.length) t):W (A0 [.lst ds]) t P:=W_len_lst.mpr h
theorem Y8(h:P (.int ds.length) t):W (A0 [.tup ds]) t P:=W_len_tup.mpr h
theorem iG{ds:List Int}(h:P (.int ds.length) t):W (A0 [.scr ds]) t P:=W_len_scr.mpr h
theorem Ju{k:Nat}(e:t.S[k]?=some (.lst ds))(h:P (.int ds.length) t):W (A0 [.obj k]) t P:=W_len_obj.mpr ⟨ds,e,h⟩
theorem Y7{x:Str}(e:x.length<=LIM)(h:P (.int x.length) t):W (A0 [.str x]) t P:=W_len_str.mpr ⟨e,h⟩
theorem kl{d:D}{m n:String}{b:Bool}(e:tyD d=some n)(e':Hj n m=some b)(h:P (.bl b) t):W (Dw [d,.ty m]) t P:=W_isi.mpr ⟨n,e,b,e',h⟩
theorem kj{x:D}(h:P (.bl (HJ x)) t):W (isC x .non) t P:=W_is_non.mpr h
variable{j:Int}
theorem ij(h:P (.int (i+j)) t):W (AL (.int i) (.int j)) t P:=W_add_int.mpr h
theorem iS(h:P (.int (i-j)) t):W (Di (.int i) (.int j)) t P:=W_sub_int.mpr h
theorem kt(h:P (.bl (decide (i<j))) t):W (ltA (.int i) (.int j)) t P:=W_lt_int.mpr h
theorem kq(h:P (.bl (decide (i<=j))) t):W (leA (.int i) (.int j)) t P:=W_le_int.mpr h
theorem j9(h:P (.bl (decide (j<i))) t):W (gtA (.int i) (.int j)) t P:=W_gt_int.mpr h
theorem j8(h:P (.bl (decide (j<=i))) t):W (geA (.int i) (.int j)) t P:=W_ge_int.mpr h
theorem ky(h:P (.int (-i)) t):W (Ij (.int i)) t P:=W_neg.mpr h
theorem NJ(h1:0<j)(h2:j<1073741824)(h:P (.int (i/j)) t):W (B6 (.int i) (.int j)) t P:=W_fdiv.mpr ⟨⟨h1,h2⟩,h⟩
theorem LC(h1:0<j)(h:P (.int (i%j)) t):W (B1 (.int i) (.int j)) t P:=W_mod.mpr ⟨h1,h⟩
theorem ML(h1:GK i j=true)(h:P (.int (i*j)) t):W (CB (.int i) (.int j)) t P:=W_mul_int.mpr ⟨h1,h⟩
theorem Zb{x:Str}{k:Int}(h1:small k=true/\x.length*k.toNat<=LIM/\k<=LIM/\x.length<=LIM)(h:P (.str (Txt.mul x k)) t):W (CB (.str x) (.int k)) t P:=W_mul_str.mpr ⟨h1,h⟩
theorem ir{x y:Str}(h:J0 (x.length+y.length) (P (.str (x++y)) t)):W (AL (.str x) (.str y)) t P:=W_add_str.mpr h
theorem im{x y:List D}(h:J0 (x.length+y.length) (P (.lst (x++y)) t)):W (AL (.lst x) (.lst y)) t P:=W_add_lst.mpr h
theorem j5{x y:List D}(h:J0 (x.length+y.length) (Q (x++y) t)):W (Lj (.lst x) (.lst y)) t Q:=W_cat.mpr h
theorem ku(h:P (.int (if j<i then j else i)) t):W (Lu [.int i,.int j]) t P:=W_min.mpr h
theorem iE{i:Bool}(h:P (.int (if i then 1 else 0)) t):W (Nj [.bl i]) t P:=W_int_bl.mpr h
theorem fV{x:Str}(e:x.length=1)(h:P (.int (x.cps.getD 0 0:Nat)) t):W (Lx [.str x]) t P:=W_ord.mpr ⟨e,h⟩
theorem iH(h:Q ds t):W (CK [.lst ds]) t Q:=W_lst_lst.mpr h
theorem Yl{g:Bool->Bool}{x y:Str}(h:P (.bl (g (x==y))) t):W (eqS g (.str x) (.str y)) t P:=W_eq_str.mpr h
theorem fQ{g:Bool->Bool}{x y:Int}(h:P (.bl (g (x==y))) t):W (eqS g (.int x) (.int y)) t P:=W_eq_int.mpr h
theorem fX{lo hi:Option Int}(h:P (.lst (BS ds lo hi)) t):W (Fd (.lst ds) lo hi) t P:=W_sl_lst.mpr h
theorem fZ{lo hi:Option Int}(h:P (.tup (BS ds lo hi)) t):W (Fd (.tup ds) lo hi) t P:=W_sl_tup.mpr h
theorem wSl{l u:M (Option Int)}{h:D->Option Int->Option Int->M D}(w:W f t λx t1=>W l t1 λlo t2=>W u t2 λhi t3=>W (h x lo hi) t3 P):W (fSl f l u h) t P:=W_fSl.mpr w
variable{K:Option Int->T->Prop}
theorem wNo(h:K none t):W fNo t K:=W_fNo.mpr h
theorem j3(h:K (some i) t):W (asI (.int i)) t K:=W_asI.mpr h
theorem iK(h:W f t λx t1=>W (asI x) t1 K):W (GH f) t K:=W_fPart.mpr h
theorem km(h:W f t λx t1=>W (Ec x) t1 Q):W (BT f) t Q:=W_fItA.mpr h
theorem Yn(h:Q ds t):W (Ec (.lst ds)) t Q:=W_it_lst.mpr h
theorem fT(h:Q ds t):W (Ec (.tup ds)) t Q:=W_it_tup.mpr h
theorem kn{x:Str}(h:Q (x.cps.toList.map λc=>.str ⟨#[c]⟩) t):W (Ec (.str x)) t Q:=W_it_str.mpr h
theorem iM{f:M (List D)}(h:W f t λx t1=>W (Nw x) t1 Q):W (BQ f) t Q:=W_fRng1.mpr h
theorem iN{f:M (List D)}(h:W f t λx t1=>W (Nx x) t1 Q):W (IV f) t Q:=W_fRng2.mpr h
theorem ET(e:small j=true)(h:Q (Bf 0 j.toNat) t):W (Nw [.int j]) t Q:=W_rng1.mpr ⟨e,h⟩
theorem fW(e:(small i&&small j)=true)(h:Q (Bf i (j-i).toNat) t):W (Nx [.int i,.int j]) t Q:=W_rng2.mpr ⟨e,h⟩
theorem iJ{i:Nat}{xs:List D}{h:List D->List D->Option (List D)}{g:M (List D)}(e:t.env[i]?=some (some (.own xs)))(w:W g t λds t1=>∃xs,t1.env[i]?=some (some (.own xs))/\∃ys,h xs ds=some ys/\R .next ⟨t1.env.set i (some (.own ys)),t1.S⟩):W (ownM i h g) t R:=W_ownM.mpr ⟨⟨xs,e⟩,w⟩
theorem j2{i:Nat}{xs:List D}{d:D}{A:List D->Prop}(e:t1.env[i]?=some (some (.own xs)))(w:J0 (xs.length+1) (A (xs++[d]))):∃xs,t1.env[i]?=some (some (.own xs))/\∃ys,Dg xs [d]=some ys/\A ys:=
 ⟨xs,e,_,app1_one.mpr ⟨w.1,rfl⟩,w.2⟩
end
section
variable{i:Nat}{g:Fn}{d':D}
section
variable{t:T}{P:D->T->Prop}{B:Bool->T->Prop}{Q:List D->T->Prop}
theorem iT{n:Int}{ds:List D}{d:D}(e:t.env[i]?=some (vw (.tup ds)))(a:atI ds n=some d)(h:P d t):W (Ac (Aa i) (md n) ixD) t P:=NI (Gz e (wC (EE a h)))
theorem iF{x y:Str}{ds:List D}{g:Bool->Bool}(e:t.env[i]?=some (vw (.tup (.str y::ds))))(h:B (g (y==x)) t):W (Aj (Ac (Ac (Aa i) (md 0) ixD) (fC (.str x)) (eqS g))) t B:=TM (NI (NI (Gz e (wC (EE GF (wC (Yl (TK h))))))))
theorem gd{x y:Str}{g:Bool->Bool}(e:t.env[i]?=some (vw (.str y)))(h:B (g (y==x)) t):W (Aj (Ac (Aa i) (fC (.str x)) (eqS g))) t B:=TM (NI (Gz e (wC (Yl (TK h)))))
theorem gb{x y:Int}{g:Bool->Bool}(e:t.env[i]?=some (vw (.int y)))(h:B (g (y==x)) t):W (Aj (Ac (Aa i) (md x) (eqS g))) t B:=TM (NI (Gz e (wC (fQ (TK h)))))
theorem bH{d:D}(e:t.env[i]?=some (vw d))(h:Wf g [d] t.S λr S'=>P r ⟨t.env,S'⟩):W (Af g (Ab (Aa i) Ad)) t P:=MJ (F9 (Gz e (NL h)))
theorem bI{j:Nat}{d:D}(e:t.env[i]?=some (vw d))(e':t.env[j]?=some (vw d'))(h:Wf g [d,d'] t.S λr S'=>P r ⟨t.env,S'⟩):W (Af g (Ab (Aa i) (Ab (Aa j) Ad))) t P:=MJ (F9 (Gz e (F9 (Gz e' (NL h)))))
theorem bK{d:D}(e:t.env[i]?=some (vw d))(h:Wf g [d,d'] t.S λr S'=>P r ⟨t.env,S'⟩):W (Af g (Ab (Aa i) (Ab (fC d') Ad))) t P:=MJ (F9 (Gz e (F9 (wC (NL h)))))
theorem bJ{j k:Nat}{d d'':D}(e:t.env[i]?=some (vw d))(e':t.env[j]?=some (vw d'))(e'':t.env[k]?=some (vw d''))(h:Wf g [d,d',d''] t.S λr S'=>P r ⟨t.env,S'⟩):W (Af g (Ab (Aa i) (Ab (Aa j) (Ab (Aa k) Ad)))) t P:=MJ (F9 (Gz e (F9 (Gz e' (F9 (Gz e'' (NL h)))))))
end
end
end L2
namespace LW
open PySem L2
set_option compiler.extract_closed false
local macro_rules | `(tactic| clear 31 $t*)=>`(tactic| with_reducible first $[| refine $t ?_]*)
local macro_rules | `(tactic| clear 32 $t*)=>`(tactic| ((with_reducible first $[| refine' $t ?wv ?_]*);(case wv=>exact rfl)))
local macro_rules | `(tactic| clear 33 $t*)=>`(tactic| ((with_reducible first $[| refine' $t ?wv ?_]*);(case wv=>decide)))
local macro_rules | `(tactic| walk_at"w1")=>`(tactic| first
 |clear 32 iF gd bH
 |clear 32 gb bK
 |((with_reducible refine' iT ?wv ?wu ?_);(case wv=>exact rfl);(case wu=>first|exact rfl|exact GF|exact Yw|exact Yx))
 |((with_reducible refine' bI ?wv ?wu ?_);(case wv=>exact rfl);(case wu=>exact rfl))
 |((with_reducible refine' bJ ?wv ?wu ?wt ?_);(case wv=>exact rfl);(case wu=>exact rfl);(case wt=>exact rfl))
 |clear 31 kG Fl XZ kH NI wC F9 NL wIf TM TK kE MJ Yl fQ ij iS iP wB wBF iL kK kr kA j4 j7 j0 wOr kz iu kB iI kf fO wUn ky kj kt kq j9 j8 TD Y8 iG ku iE iH ir im j5 wSl wNo iK j3 fX fZ km Yn fT kn iM iN LD bL Yp iB TL kD CL iC
 |clear 32 Gz HZ kN iJ j2
 |clear 32 EO iU kO
 |((with_reducible first|refine' EE ?wv ?_|refine' A4 ?wv ?_);(case wv=>first|exact rfl|exact GF|exact Yw|exact Yx))
 |((with_reducible refine Bi ?wv ?_);(case wv=>exact Nat.le_of_ble_eq_true rfl))
 |((with_reducible refine' kl ?wv ?wu ?_);(case wv=>exact rfl);(case wu=>exact rfl))
 |((with_reducible refine NJ ?wv ?wu ?_);(case wv=>decide);(case wu=>decide))
 |clear 33 LC ET fW)
local macro_rules | `(tactic| right)=>`(tactic| repeat (walk_at"w1"))
structure DeckAt(k c:Nat)(S:List Ob):Prop where
 ne:k≠c
 at_:∃(cells:List Int) (par pos:Int),S[k]?=some (.lst [.obj c,.int par,.int pos])/\S[c]?=some (.lst (cells.map .int))/\cells≠[]/\0<=pos
variable{n:Nat}
theorem Co{i:Int}(h0:0<=i)(h1:i<n):ixN n i=some i.toNat:=by simp[ixN,h0,h1]
variable{S:List Ob}
theorem KB{k:Nat}{o o':Ob}(h:S[k]?=some o):(S.set k o')[k]?=some o':=by
 obtain⟨hl,_⟩:=ua7.mp h;exact ub6 hl
set_option genInjectivity false in inductive Sh where
 |nothing|number (lo hi:Int)|text (m:Int)|list (s:Sh) (m:Int)|pair (s r:Sh)|choice (ss:List Sh)
mutual
noncomputable def Sh.d:Sh->D
 |.nothing=>.tup [.str "nothing"]
 |.number lo hi=>.tup [.str "number",.int lo,.int hi]
 |.text m=>.tup [.str "text",.int m]
 |.list s m=>.tup [.str "list",s.d,.int m]
 |.pair s r=>.tup [.str "pair",s.d,r.d]
 |.choice ss=>.tup [.str "choice",.tup (shD ss)]
noncomputable def shD:List Sh->List D
 |[]=>[]
 |s::r=>s.d::shD r
end
mutual
noncomputable def Sh.depth:Sh->Nat
 |.nothing=>1
 |.number _ _=>1
 |.text _=>1
 |.list s _=>s.depth+1
 |.pair s r=>max s.depth r.depth+1
 |.choice ss=>GL ss+1
noncomputable def GL:List Sh->Nat
 |[]=>0
 |s::r=>max s.depth (GL r)
end
theorem EK:∀ss:List Sh,(shD ss).length=ss.length
 |[]=>rfl
 |s::r=>by simp[shD,EK r]
theorem IC:∀(ss:List Sh) (k:Nat),(shD ss)[k]?=(ss[k]?).map Sh.d
 |[],k=>by simp[shD]
 |s::r,0=>by simp[shD]
 |s::r,k+1=>by simp[shD,IC r k]
theorem CY:∀(ss:List Sh) (k:Nat) (s:Sh),ss[k]?=some s->s.depth<=GL ss
 |[],k,s,h=>by simp at h
 |s::r,0,s',h=>by simp at h;subst h;simp[GL];lia
 |s::r,k+1,s',h=>by
   have:=CY r k s' (by simpa using h);simp[GL];lia
theorem Sh.depth_pos(s:Sh):1<=s.depth:=by cases s<;>simp[Sh.depth]
noncomputable def Cj(n:Nat):Bool:=decide (32<=n)&&decide (n<=126)&&decide (n≠37)
noncomputable def IZ:Str->Bool:=λo=>o==("of":Str)
mutual
def Ak:Sh->D->Bool
 |.nothing,d=>HJ d
 |.number lo hi,d=>match d with
   |.int i=>decide (lo<=i)&&decide (i<=hi)
   |_=>false
 |.text m,d=>match d with
   |.str x=>decide ((x.length:Int)<=m)&&x.cps.toList.all Cj
   |_=>false
 |.list s m,d=>match d with
   |.lst ds=>decide ((ds.length:Int)<=m)&&ds.all λe=>Ak s e
   |_=>false
 |.pair s r,d=>match d with
   |.tup [a,b]=>Ak s a&&Ak r b
   |_=>false
 |.choice ss,d=>match d with
   |.tup [.str o,.int k,x]=>IZ o&&(decide (0<=k)&&decide (k<ss.length))&&Mh ss k.toNat x
   |_=>false
def Mh:List Sh->Nat->D->Bool
 |[],_,_=>false
 |s::_,0,d=>Ak s d
 |_::r,k+1,d=>Mh r k d
end
theorem CV:∀(ss:List Sh) (k:Nat) (s:Sh) (d:D),ss[k]?=some s->Mh ss k d=Ak s d
 |[],k,s,d,h=>by simp at h
 |s::r,0,s',d,h=>by simp at h;subst h;simp[Mh]
 |s::r,k+1,s',d,h=>by rw[Mh];exact CV r k s' d (by simpa using h)
mutual
noncomputable def okD:D->Bool
 |.str x=>decide (x.length<=90000)
 |.tup xs=>oks xs
 |.lst xs=>oks xs
 |.obj _=>false
 |.scr _=>false
 |.exc _ _=>false
 |.gts _=>false
 |.ty _=>false
 |_=>true
noncomputable def oks:List D->Bool
 |[]=>true
 |d::r=>okD d&&oks r
end
theorem KJ:∀{xs:List D},oks xs=true->∀d∈xs,okD d=true
 |x::r,h,d,m=>by
   rw[oks,uh3] at h;rcases ul1.mp m with z|z
   .subst z;exact h.1
   .exact KJ h.2 d z
abbrev Pure1(f:Fn)(ds:List D)(r:D):Prop:=∀S,Wf f ds S λv S'=>v=r/\S'=S
variable{ds:List D}
theorem Pure1.use{f:Fn}{r:D}(h:Pure1 f ds r){S:List Ob}{P:D->List Ob->Prop}(p:P r S):Wf f ds S P:=(h S).mono λ_ _ ⟨e1,e2⟩=>by subst e1 e2;exact p
noncomputable def UM:D->Bool
 |.int _=>true
 |_=>false
theorem Pt{d:D}(h:okD d=true):Pure1 (fnOf 1 1 Ih) [d] (.bl (UM d)):=by
 intro S;refine Ai rfl ?_;unfold Ih
 cases d<;>first|(simp[okD] at h;done)|(right;exact⟨rfl,rfl⟩)
noncomputable def Fo(lo hi:Int):D->Bool
 |.int i=>decide (lo<=i)&&decide (i<=hi)
 |_=>false
def QR(f:Fn):Prop:=∀d,okD d=true->Pure1 f [d] (.bl (UM d))
def GV(f:Fn):Prop:=∀d lo hi,okD d=true->Pure1 f [d,.int lo,.int hi] (.bl (Fo lo hi d))
variable{c:Fn}
theorem Wh(hc:QR c):GV (fnOf 3 3 (Ex c)):=by
 intro d lo hi h S;refine Ai rfl ?_;unfold Ex;right;refine(hc d h).use ?_
 cases d with
 |int i=>
   right;refine EN (λe=>?_) λe=>?_
   .right;exact⟨by simp only[Fo,e,ul9],rfl⟩
   .exact⟨by simp only[Fo,e,uk5],rfl⟩
 |_=>right;exact⟨rfl,rfl⟩
def LP(f:Fn):Prop:=∀n:Nat,Pure1 f [.int n] (.bl (Cj n))
theorem SU:LP (fnOf 1 1 J2):=by
 intro n S;refine Ai rfl ?_;unfold J2;right;have c1:decide ((32:Int)<=n)=decide (32<=n):=decide_eq_decide.mpr ∅;have c2:decide ((n:Int)<=126)=decide (n<=126):=decide_eq_decide.mpr ∅;have c3:(!((n:Int)==37))=decide (n≠37):=by
  by_cases h:n=37
  .subst h;rfl
  .have:¬((n:Int)=37):=by lia
   simp[h,this]
 rw[c1];refine EN (λe=>?_) λe=>?_
 .right;rw[c2];refine EN (λe'=>?_) λe'=>?_
  .right;exact⟨by simp only[Cj,e,e',c3,ul9],rfl⟩
  .exact⟨by simp only[Cj,e,e',uk5,Bool.and_false],rfl⟩
 .right;exact⟨by simp only[Cj,e,uk5],rfl⟩
def OG(f:Fn):Prop:=∀m d,okD d=true->Pure1 f [(Sh.text m).d,d] (.bl (Ak (.text m) d))
theorem Pg(hc:LP c):OG (fnOf 2 3 (Ig c)):=by
 intro m d h S;refine Ai rfl ?_;unfold Ig;rw[Sh.d]
 cases d with
 |str x=>
   have hx:x.length<=LIM:=um6 (by simpa[okD] using h) (show 90000<=LIM by decide);right;refine Y7 hx ?_;right;refine EN (λe=>?_) λe=>?_
   .right;have:¬((x.length:Int)<=m):=by have:=ug7 e;lia
    exact⟨by simp[Ak,this],rfl⟩
   .right;have e':(x.length:Int)<=m:=by have:=of_decide_eq_false e;lia
    refine BG (λr t=>t.S=S/\∃cs:List Nat,r=cs.map (λc=>D.str ⟨#[c]⟩)/\(x.cps.toList.all Cj=cs.all Cj)/\∃z,t.env=[vw (.tup [.str "text",.int m]),vw (.str x),z]) _ _ ⟨rfl,x.cps.toList,rfl,rfl,_,rfl⟩ ?_ ?_
    .rintro d r t ⟨hs,cs,hr,hall,z,ht⟩ _;clear 5 t env S2;subst hs ht
     cases cs with
     |nil=>simp at hr
     |cons c cs=>
       simp only[ul2,List.cons.injEq] at hr;clear 5 hr rfl rfl;right;refine fV rfl ?_;right;refine(hc c).use ?_;right;refine EN (λq=>?_) λq=>?_
       .right;have q':Cj c=false:=by simpa using q
        refine⟨?_,rfl⟩;simp only[Ak,hall,ul4,q',uk5,Bool.and_false]
       .right;have q':Cj c=true:=by simpa using q
        exact⟨rfl,cs,rfl,by rw[hall,ul4,q',ul9],_,rfl⟩
    .rintro t ⟨hs,cs,hr,hall,z,ht⟩;clear 5 t env S2;subst hs ht;have:cs=[]:=by cases cs with|nil=>rfl|cons _ _=>simp at hr
     subst this;right;exact⟨by simp[Ak,e',hall],rfl⟩
 |obj _=>simp[okD] at h
 |scr _=>simp[okD] at h
 |ty _=>simp[okD] at h
 |exc _ _=>simp[okD] at h
 |gts _=>simp[okD] at h
 |_=>right;exact⟨by simp[Ak],rfl⟩
def Il(f:Fn)(n:Nat):Prop:=∀s:Sh,s.depth<=n->∀d,okD d=true->Pure1 f [s.d,d] (.bl (Ak s d))
def TX(f:Fn)(n:Nat):Prop:=∀(s:Sh) (m:Int),s.depth<=n->∀d,okD d=true->Pure1 f [(Sh.list s m).d,d] (.bl (Ak (.list s m) d))
theorem Pe(hc:Il c n):TX (fnOf 2 3 (Ic c)) n:=by
 intro s m hs d h S;refine Ai rfl ?_;unfold Ic;rw[Sh.d]
 cases d with
 |lst ds=>
   have hx:∀d∈ds,okD d=true:=KJ (by simpa[okD] using h);right;refine EN (λe=>?_) λe=>?_
   .right;have:¬((ds.length:Int)<=m):=by have:=ug7 e;lia
    exact⟨by simp[Ak,this],rfl⟩
   .right;have e':(ds.length:Int)<=m:=by have:=of_decide_eq_false e;lia
    refine BG (λr t=>t.S=S/\(ds.all (λe=>Ak s e)=r.all λe=>Ak s e)/\∃z,t.env=[vw (.tup [.str "list",s.d,.int m]),vw (.lst ds),z]) _ _ ⟨rfl,rfl,_,rfl⟩ ?_ ?_
    .rintro d r t ⟨hS,hall,z,ht⟩ hm;clear 5 t env S2;subst hS ht;right;refine(hc s hs d (hx d hm)).use ?_;right;refine EN (λq=>?_) λq=>?_
     .right;have q':Ak s d=false:=by simpa using q
      refine⟨?_,rfl⟩;simp only[Ak,hall,ul4,q',uk5,Bool.and_false]
     .right;have q':Ak s d=true:=by simpa using q
      exact⟨rfl,by rw[hall,ul4,q',ul9],_,rfl⟩
    .rintro t ⟨hS,hall,z,ht⟩;clear 5 t env S2;subst hS ht;right;exact⟨by simp only[Ak,e',decide_true,hall,List.all_nil,ul9],rfl⟩
 |obj _=>simp[okD] at h
 |scr _=>simp[okD] at h
 |ty _=>simp[okD] at h
 |exc _ _=>simp[okD] at h
 |gts _=>simp[okD] at h
 |_=>right;exact⟨by simp[Ak],rfl⟩
def T1(f:Fn)(n:Nat):Prop:=∀(s r:Sh),s.depth<=n->r.depth<=n->∀d,okD d=true->Pure1 f [(Sh.pair s r).d,d] (.bl (Ak (.pair s r) d))
theorem Pf(hc:Il c n):T1 (fnOf 2 2 (Ie c)) n:=by
 intro s r hs hr d h S;refine Ai rfl ?_;unfold Ie;rw[Sh.d]
 cases d with
 |tup ds=>
   have hx:∀d∈ds,okD d=true:=KJ (by simpa[okD] using h);right
   match ds,hx with
   |[],_=>right;exact⟨by simp[Ak],rfl⟩
   |[a],_=>right;exact⟨by simp[Ak],rfl⟩
   |[a,b],hx=>
     right;refine(hc s hs a (hx a (by simp))).use ?_;right;refine EN (λe=>?_) λe=>?_
     .right;refine(hc r hr b (hx b (by simp))).use ?_;exact⟨by simp only[Ak,e,ul9],rfl⟩
     .exact⟨by simp only[Ak,e,uk5],rfl⟩
   |a::b::e::l,_=>
     refine HZ ?_ ?_
     .show(!(((a::b::e::l).length:Int)==2))=true;simp;lia
     right;exact⟨by simp[Ak],rfl⟩
 |obj _=>simp[okD] at h
 |scr _=>simp[okD] at h
 |ty _=>simp[okD] at h
 |exc _ _=>simp[okD] at h
 |gts _=>simp[okD] at h
 |_=>right;exact⟨by simp[Ak],rfl⟩
def OD(f:Fn)(n:Nat):Prop:=∀(ss:List Sh),GL ss<=n->∀d,okD d=true->Pure1 f [(Sh.choice ss).d,d] (.bl (Ak (.choice ss) d))
theorem Nh{c':Fn}(hc:Il c n)(hw:GV c'):OD (fnOf 2 2 (Gu c c')) n:=by
 intro ss hs d h S;refine Ai rfl ?_;unfold Gu;rw[Sh.d]
 cases d with
 |tup ds=>
   have hx:∀d∈ds,okD d=true:=KJ (by simpa[okD] using h);right
   match ds,hx with
   |[],_=>right;exact⟨by simp[Ak],rfl⟩
   |[a],_=>right;exact⟨by simp[Ak],rfl⟩
   |[a,b],_=>right;exact⟨by simp[Ak],rfl⟩
   |[a,b,e],hx=>
     right;have ha:=hx a (by simp)
     cases a with
     |str o=>
       right;refine EN (λq=>?_) λq=>?_
       .right;have q':IZ o=false:=by simpa[IZ] using q
        refine⟨?_,rfl⟩
        cases b<;>simp only[Ak,q',uk5]
       .right;have q':IZ o=true:=by simpa[IZ] using q
        refine(hw b 0 _ (hx b (by simp))).use ?_;right
        cases b with
        |int k=>
          refine EN (λq=>?_) λq=>?_
          .right;refine⟨?_,rfl⟩;have:(decide (0<=k)&&decide (k<(ss.length:Int)))=false:=by
            have q2:k<0\/((shD ss).length:Int)-1<k:=by simpa[Fo] using q
            rw[EK] at q2;simp;lia
           simp only[Ak,this,uk5,Bool.and_false]
          .have q2:0<=k/\k<=((shD ss).length:Int)-1:=by simpa[Fo] using q
           have q3:=q2;rw[EK] at q3;have hk:k.toNat<ss.length:=by lia
           have e1:ss[k.toNat]?=some ss[k.toNat]:=ub1 hk;have e2:atI (shD ss) k=some (ss[k.toNat]).d:=by
            unfold atI;rw[EK,Co q3.1 ∅];simp[IC,e1]
           right;refine EE e2 ?_;right;refine(hc _ (um6 (CY ss _ _ e1) hs) e (hx e (by simp))).use ?_;refine⟨?_,rfl⟩;have:(decide (0<=k)&&decide (k<(ss.length:Int)))=true:=by simp;lia
           simp only[Ak,q',this,ul9,CV ss _ _ e e1]
        |_=>
          right;exact⟨by simp[Ak],rfl⟩
     |obj _=>simp[okD] at ha
     |scr _=>simp[okD] at ha
     |ty _=>simp[okD] at ha
     |exc _ _=>simp[okD] at ha
     |gts _=>simp[okD] at ha
     |_=>right;exact⟨by simp[Ak],rfl⟩
   |a::b::e::f::l,_=>
     refine HZ ?_ ?_
     .show(!(((a::b::e::f::l).length:Int)==3))=true;simp;lia
     right;exact⟨by simp[Ak],rfl⟩
 |obj _=>simp[okD] at h
 |scr _=>simp[okD] at h
 |ty _=>simp[okD] at h
 |exc _ _=>simp[okD] at h
 |gts _=>simp[okD] at h
 |_=>right;exact⟨by simp[Ak],rfl⟩
variable{cc cp cl ct cw:Fn}
theorem ZD(h1:OD cc n)(h2:T1 cp n)(h3:TX cl n)(h4:OG ct)(h5:GV cw):Il (fnOf 2 3 (PF cc cp cl ct cw)) (n+1):=by
 intro s hs d h S;refine Ai rfl ?_;unfold PF
 cases s with
 |nothing=>
   rw[Sh.d];right;exact⟨by rw[Ak],rfl⟩
 |number lo hi=>
   rw[Sh.d];right;refine(h5 d lo hi h).use ⟨?_,rfl⟩
   cases d<;>simp[Ak,Fo]
 |text m=>
   rw[Sh.d];right;exact(h4 m d h).use ⟨rfl,rfl⟩
 |list s m=>
   rw[Sh.depth] at hs;have q:=h3 s m ∅ d h;rw[Sh.d] at q⊢;right;exact q.use ⟨rfl,rfl⟩
 |pair s r=>
   rw[Sh.depth] at hs;have q:=h2 s r ∅ ∅ d h;rw[Sh.d] at q⊢;right;exact q.use ⟨rfl,rfl⟩
 |choice ss=>
   rw[Sh.depth] at hs;have q:=h1 ss ∅ d h;rw[Sh.d] at q⊢;right;exact q.use ⟨rfl,rfl⟩
theorem NZ(x:Array Nat):∀(n:Nat) (acc:Array Nat),((List.replicate n x).foldl (·++·) acc).toList=acc.toList++(List.replicate n x.toList).flatten
 |0,acc=>by simp
 |n+1,acc=>by
   rw[ue0,uj2,NZ x n,ue0,uf9];simp
set_option tactic.hygienic true in
theorem U7{x:Str}{k:Int}:(Txt.mul x k).cps.toList=(List.replicate k.toNat x.cps.toList).flatten:=by
 unfold Txt.mul
 split
 .have:k.toNat=0:=by lia
  rw[this];rfl
 .split
  .next h=>
   rw[uj7] at h;rcases h with h|h
   .have:k=1:=by simpa using h
    subst this;simp
   .have:x.cps.toList=[]:=by
     have h':x.length=0:=by simpa using h
     exact List.eq_nil_of_length_eq_zero (by simpa[Str.length] using h')
    rw[this];simp
  .have:=NZ x.cps k.toNat #[];simpa using this
theorem HL(x:Str):x.length=x.cps.toList.length:=by simp[Str.length]
theorem NN(x y:Str):(x++y).cps.toList=x.cps.toList++y.cps.toList:=by
 show(x.cps++y.cps).toList=_;simp
variable{α:Type}
theorem aK(a:α)(k:Nat):(List.replicate k [a]).flatten=List.replicate k a:=by
 induction k with
 |zero=>rfl
 |succ k ih=>rw[ue0,uf9,ih,ue0];rfl
variable{fr:List (Option Sl)}{elt:M D}{z:Option Sl}
theorem JJ{f:D->D}(h:∀d∈ds,W elt ⟨vw d::fr,S⟩ λx t'=>x=f d/\t'=⟨vw d::fr,S⟩) :
 W (Cp (Ar 0) DL elt ds) ⟨z::fr,S⟩ λxs t'=>xs=ds.map f/\t'.S=S:=by
 refine(OH (P:=λxs t'=>xs=ds.map f/\t'.S=S) (λacc r t=>acc++r.map f=ds.map f/\∃z,t=⟨z::fr,S⟩) ds [] _ ⟨rfl,z,rfl⟩ ?_ ?_).mono λxs t' h=>h
 .rintro acc d r t ⟨h1,z,rfl⟩ hm;refine LD (TL ?_);rw[pW rfl];refine(h d hm).mono λx t' z9=>?_;clear 5 z9 e1 e2;subst e1 e2;exact⟨by rw[ug0];exact h1,_,rfl⟩
 .rintro acc t ⟨h1,z,rfl⟩;exact⟨by simpa using h1,rfl⟩
mutual
noncomputable def sz:D->Nat
 |.tup xs=>szs xs+1
 |.lst xs=>szs xs+1
 |_=>1
noncomputable def szs:List D->Nat
 |[]=>0
 |d::r=>sz d+szs r
end
theorem bB{x y:Str}(h:x.cps.toList=y.cps.toList):x=y:=by
 cases x;cases y
 congr
 exact Array.toList_inj.mp h
mutual
noncomputable def wf:Sh->Bool
 |.nothing=>true
 |.number lo hi=>decide (-1000000000000000000<lo)&&decide (lo<=hi)&&decide (hi<1000000000000000000)
 |.text m=>decide (0<=m)&&decide (m<=250)
 |.list s m=>decide (0<=m)&&decide (m<=250)&&wf s
 |.pair s r=>wf s&&wf r
 |.choice ss=>decide (1<=ss.length)&&decide (ss.length<=9)&&wfs ss
noncomputable def wfs:List Sh->Bool
 |[]=>true
 |s::r=>wf s&&wfs r
end
mutual
noncomputable def cnt:Sh->Nat
 |.list s _=>cnt s+1
 |.pair s r=>cnt s+cnt r+1
 |.choice ss=>cE ss+1
 |_=>1
noncomputable def cE:List Sh->Nat
 |[]=>0
 |s::r=>cnt s+cE r
end
theorem EL:∀{ss:List Sh},wfs ss=true->∀s∈ss,wf s=true
 |x::r,h,s,m=>by
   rw[wfs,uh3] at h;rcases ul1.mp m with z|z
   .subst z;exact h.1
   .exact EL h.2 s z
def Sk(k c l:Nat)(S S':List Ob):Prop:=S'.length=S.length/\∀j:Nat,j≠k->j≠c->j≠l->S'[j]?=S[j]?
noncomputable def Tp(deep:Int):Int:=if deep<2 then 0 else 2*deep+4
def bd(deep x:Int):Int:=if deep<2 then 1 else max x 1+Tp deep-(if deep+1<=x then 1 else 0)
def tb(deep y i:Int):Int:=if deep=2 then i else if i=0 then 0 else y+Tp (deep-1)+i-1-(if deep<=y then 1 else 0)
structure ShapeRes(k c l:Nat)(S:List Ob)(deep x:Int)(s:Sh)(S':List Ob):Prop where
 w:wf s=true
 dep:(s.depth:Int)<=max deep 1
 lft:S'[l]?=some (.lst [.int (x-cnt s)])
 one:x<=1->cnt s=1
 few:(cnt s:Int)<=max x 1+Tp deep
 deck:DeckAt k c S'
 kp:Sk k c l S S'
 few2:(cnt s:Int)<=bd deep x
theorem PR{k:Int}:(Txt.mul ⟨#[n]⟩ k).cps.toList=List.replicate k.toNat n:=by rw[U7];exact aK n k.toNat
theorem Pz{k:Int}:(Txt.mul ⟨#[n]⟩ k).length=k.toNat:=by rw[HL,PR,uc5]
theorem Wo{k:Int}(h:Cj n=true):(Txt.mul ⟨#[n]⟩ k).cps.toList.all Cj=true:=by
 rw[PR,uh7];intro x hx;rw[List.eq_of_mem_replicate hx];exact h
structure Sep(ks:List (Nat×Nat)):Prop where
 sep:∀p∈ks,∀q∈ks,p=q\/(q.1≠p.1/\q.1≠p.2/\q.2≠p.1/\q.2≠p.2)
mutual
noncomputable def dpt:D->Nat
 |.lst ds=>G8 ds+1
 |.tup ds=>G8 ds+1
 |_=>1
noncomputable def G8:List D->Nat
 |[]=>0
 |d::r=>max (dpt d) (G8 r)
end
theorem Q5:∀{ds:List D}{n:Nat},(∀d∈ds,dpt d<=n)->G8 ds<=n
 |[],n,_=>by simp[G8]
 |x::r,n,h=>by
   rw[G8];have h1:=h x ue6;have h2:=Q5 λd m=>h d (ud1 _ m);lia
theorem Q4(d:D):0<dpt d:=by cases d<;>simp[dpt]
mutual
noncomputable def smD:D->Bool
 |.str x=>decide (x.length<=300)
 |.int i=>decide (-1000000000000000000000000<i)&&decide (i<1000000000000000000000000)
 |.tup xs=>decide (xs.length<=300)&&sms xs
 |.lst xs=>decide (xs.length<=300)&&sms xs
 |.obj _=>false
 |.scr _=>false
 |.ty _=>false
 |.exc _ _=>false
 |.gts _=>false
 |_=>true
noncomputable def sms:List D->Bool
 |[]=>true
 |d::r=>smD d&&sms r
end
theorem VQ:∀{xs:List D},(∀d∈xs,smD d=true)->sms xs=true
 |[],_=>rfl
 |x::r,h=>by
   rw[sms,uh3];exact⟨h x ue6,VQ λd m=>h d (ud1 _ m)⟩
mutual
theorem YS:∀{d:D},smD d=true->okD d=true
 |.str x,h=>by rw[smD,ug6] at h;rw[okD,ug6];lia
 |.tup xs,h=>by rw[smD,uh3] at h;rw[okD];exact Qw h.2
 |.lst xs,h=>by rw[smD,uh3] at h;rw[okD];exact Qw h.2
 |.obj _,h=>by simp[smD] at h
 |.scr _,h=>by simp[smD] at h
 |.ty _,h=>by simp[smD] at h
 |.non,_=>by simp[okD]
 |.bl _,_=>by simp[okD]
 |.int _,_=>by simp[okD]
 |.dic,_=>by simp[okD]
theorem Qw:∀{xs:List D},sms xs=true->oks xs=true
 |[],_=>by simp[oks]
 |d::r,h=>by rw[sms,uh3] at h;rw[oks,uh3];exact⟨YS h.1,Qw h.2⟩
end
theorem En{f:D->D->Option Bool}:∀{xs:List D},(∀d∈xs,f d d=some true)->C5 f xs xs=some true
 |[],_=>rfl
 |x::r,h=>by
   rw[C5,h x ue6,En λd m=>h d (ud1 _ m)];rfl
theorem Eo:∀(n:Nat) (d:D),dpt d<=n->smD d=true->d≠.dic->(∀xs,d=.lst xs\/d=.tup xs->∀x∈xs,eqN (n-1) x x=some true)->eqN n d d=some true
 |0,d,hd,_,_,_=>absurd hd (by have:=Q4 d;lia)
 |n+1,.lst xs,_,_,_,h=>by
   rw[eqN,pW rfl];exact En (h xs (.inl rfl))
 |n+1,.tup xs,_,_,_,h=>by
   have e:C5 (eqN n) xs xs=some true:=En (h xs (.inr rfl));rw[eqN,e];simp
 |n+1,.non,_,_,_,_=>rfl
 |n+1,.bl b,_,_,_,_=>by show some (b==b)=some true;rw[ui4]
 |n+1,.int b,_,_,_,_=>by show some (b==b)=some true;rw[ui4]
 |n+1,.str b,_,_,_,_=>by show some (b==b)=some true;rw[ui4]
 |n+1,.dic,_,_,h,_=>absurd rfl h
 |n+1,.obj _,_,h,_,_=>by simp[smD] at h
 |n+1,.scr _,_,h,_,_=>by simp[smD] at h
 |n+1,.ty _,_,h,_,_=>by simp[smD] at h
set_option tactic.hygienic true in
theorem Iw:∀(n:Nat) (s:Sh),s.depth<=n->wf s=true->∀d,Ak s d=true->smD d=true/\dpt d<=s.depth/\∀m,s.depth<=m->eqN m d d=some true
 |0,s,h,_,_,_=>absurd s.depth_pos ∅
 |n+1,s,hs,hw,d,hf=>by
   have l2:(Str.ofString "of").length<=300:=by decide +kernel
   cases s with
   |nothing=>
     cases d<;>simp[Ak,HJ] at hf
     refine⟨rfl,by simp[dpt,Sh.depth],λm hm=>?_⟩;have:=(Sh.nothing).depth_pos;obtain⟨m,rfl⟩:∃k,m=k+1:=nq ∅;exact Eo _ _ (by simp[dpt]) rfl (by simp) (by simp)
   |number lo hi=>
     simp only[wf,uh3,ug6] at hw
     cases d<;>simp[Ak] at hf
     rename_i i;have sm:smD (.int i)=true:=by
      simp only[smD,uh3,ug6];lia
     refine⟨sm,by simp[dpt,Sh.depth],λm hm=>?_⟩;rw[Sh.depth] at hm;obtain⟨m,rfl⟩:∃k,m=k+1:=nq ∅;exact Eo _ _ (by simp[dpt]) sm (by simp) (by simp)
   |text q=>
     simp only[wf,uh3,ug6] at hw
     cases d<;>simp[Ak] at hf
     rename_i x;have sm:smD (.str x)=true:=by
      simp only[smD,ug6];lia
     refine⟨sm,by simp[dpt,Sh.depth],λm hm=>?_⟩;rw[Sh.depth] at hm;obtain⟨m,rfl⟩:∃k,m=k+1:=nq ∅;exact Eo _ _ (by simp[dpt]) sm (by simp) (by simp)
   |list s q=>
     simp only[wf,uh3,ug6] at hw;rw[Sh.depth] at hs
     cases d<;>simp only[Ak,uf0] at hf
     rename_i ds;rw[uh3,ug6,uh7] at hf;have ih:=λd m=>Iw n s ∅ hw.2 d (hf.2 d m);have sm:smD (.lst ds)=true:=by
      rw[smD,uh3,ug6];exact⟨by lia,VQ λd m=>(ih d m).1⟩
     have dd:G8 ds<=s.depth:=Q5 λd m=>(ih d m).2.1;refine⟨sm,by rw[dpt,Sh.depth];lia,λm hm=>?_⟩;rw[Sh.depth] at hm;obtain⟨m,rfl⟩:∃k,m=k+1:=nq ∅;refine Eo _ _ (by rw[dpt];lia) sm (by simp) λxs e x hx=>?_;rcases e with e|e
     .cases e;exact(ih x hx).2.2 m ∅
     .cases e
   |pair s r=>
     simp only[wf,uh3] at hw;rw[Sh.depth] at hs;unfold Ak at hf
     split at hf
     case h_2=>cases hf
     case h_1 a b=>
      rw[uh3] at hf;have i1:=Iw n s ∅ hw.1 a hf.1;have i2:=Iw n r ∅ hw.2 b hf.2;have sm:smD (.tup [a,b])=true:=by simp[smD,sms,i1.1,i2.1]
      have h1:=i1.2.1;have h2:=i2.2.1;refine⟨sm,by simp only[dpt,G8,Sh.depth];lia,λm hm=>?_⟩;rw[Sh.depth] at hm;obtain⟨m,rfl⟩:∃k,m=k+1:=nq ∅;refine Eo _ _ (by simp only[dpt,G8];lia) sm (by simp) λxs e x hx=>?_;rcases e with e|e
      .cases e
      .cases e
       simp only[ul1,uh9,pS] at hx;rcases hx with rfl|rfl
       .exact i1.2.2 m ∅
       .exact i2.2.2 m ∅
   |choice ss=>
     simp only[wf,uh3,ug6] at hw;rw[Sh.depth] at hs;unfold Ak at hf
     split at hf
     case h_2=>cases hf
     case h_1 o k x=>
      simp only[uh3,ug6] at hf;obtain⟨⟨ho,k0,k1⟩,hf⟩:=hf;have hk:k.toNat<ss.length:=by lia
      have e1:ss[k.toNat]?=some ss[k.toNat]:=ub1 hk;rw[CV ss _ _ _ e1] at hf;have hd:=CY ss _ _ e1;have ih:=Iw n _ ∅ (EL hw.2 _ (ui1 hk)) x hf;have ho':o.length<=300:=by
       have:o=("of":Str):=by simpa[IZ] using ho
       subst this;exact l2
      have sm:smD (.tup [.str o,.int k,x])=true:=by
       simp only[smD,sms,ih.1,ul8,uh3,ug6,ug9,uj5];lia
      have h1:=ih.2.1;have h2:=Q4 x;have p1:=(ss[k.toNat]).depth_pos;refine⟨sm,by simp only[dpt,G8,Sh.depth];lia,λm hm=>?_⟩;rw[Sh.depth] at hm;obtain⟨m,rfl⟩:∃k,m=k+1:=nq ∅;refine Eo _ _ (by simp only[dpt,G8];lia) sm (by simp) λxs e y hy=>?_;rcases e with e|e
      .cases e
      .cases e
       obtain⟨m',rfl⟩:∃k,m=k+1:=nq ∅;simp only[ul1,uh9,pS] at hy;rcases hy with rfl|rfl|rfl
       .exact Eo _ _ (by simp[dpt]) (by simp[smD,ho']) (by simp) (by simp)
       .exact Eo _ _ (by simp[dpt]) (by simp only[smD,uh3,ug6];lia) (by simp) (by simp)
       .exact ih.2.2 _ ∅
variable{t:T}{P:D->T->Prop}
theorem NK{d:D}{g:Bool->Bool}(h0:Xb d=false)(h:eqN EQD d d=some true)(p:P (.bl (g true)) t):W (eqS g d d) t P:=⟨_,_,by simp[eqS,h0,h],p⟩
theorem Mo:∀ns:List Int,Gc (ns.map .int)=some ns
 |[]=>rfl
 |n::r=>by rw[ul2,Gc,Mo r];rfl
structure ValueRes(k c l:Nat)(S:List Ob)(s:Sh)(r:D)(S':List Ob):Prop where
 fit:Ak s r=true
 lft:∃a b:Int,S'[l]?=some (.lst [.int a,.int b])
 deck:DeckAt k c S'
 kp:Sk k c l S S'
theorem KR{f:M (List D)}{P:Out->T->Prop}(h:W f t λds t1=>P (.ret (.lst ds)) t1):W (Jm f) t P:=W_bnd.mpr (h.mono λ_ _ p=>W_ret.mpr p)
theorem HC{g:Fn}{f:M (List D)}{P:List D->T->Prop}(h:W f t λds t1=>Wf g ds t1.S λr S'=>∃rs,r=.lst rs/\P rs ⟨t1.env,S'⟩):W (Eb g f) t P:=by
 refine W_bnd.mpr (h.mono λds t1 z9=>?_);clear 5 z9 r S' e rs er p;subst er;exact⟨rs,⟨t1.env,S'⟩,by simp only[e],p⟩
variable{i:Nat}{xs:List D}
theorem Sd{P:Out->T->Prop}(e:t.env[i]?=some (some (.own xs)))(h:P (.ret (.lst xs)) ⟨t.env.set i none,t.S⟩):W (Hx i) t P:=⟨_,_,by simp only[Hx,e],h⟩
theorem iz{i:Int}(h:P (.int (Builtin.Int.intBits i:Nat)) t):W (LU (.int i)) t P:=⟨_,_,rfl,h⟩
theorem kI{i j:Int}(h0:0<=j)(h:P (.int (i/2 ^ j.toNat)) t):W (Qs (.int i) (.int j)) t P:=⟨_,_,by simp[Qs,i2C,h0],h⟩
variable{ys:List D}{t1:T}
theorem j6{A:List D->Prop}(e:t1.env[i]?=some (some (.own xs)))(l:xs.length+ys.length<=LIM)(w:A (xs++ys)):∃xs,t1.env[i]?=some (some (.own xs))/\∃zs,E1 xs [.lst ys]=some zs/\A zs:=
 ⟨xs,e,xs++ys,by simp[E1,l],w⟩
set_option tactic.hygienic true in
theorem FL{f:M Bool}{b:M Out}{P:Out->T->Prop}(I:Nat->T->Prop)(turn:∀n t,I n t->W f t λk t1=>match k with
 |true=>∃m,n=m+1/\W b t1 λo t2=>match o with
   |.next=>I m t2
   |.cont=>I m t2
   |.brk=>P .next t2
   |.ret x=>P (.ret x) t2
 |false=>P .next t1):∀(fuel n:Nat) (t:T),n<fuel->I n t->W (Ee f b fuel) t P
 |0,n,t,h,_=>absurd h (Nat.not_lt_zero _)
 |fuel+1,n,t,h,i=>by
   clear 5(turn n t i)k t1 e1 p
   cases k with
   |false=>exact⟨_,_,by simp only[Ee,e1],p⟩
   |true=>
     clear 5 p m rfl o t2 e2 p
     cases o with
     |next=>clear 5(FL I turn fuel m t2 ∅ p)o t' e' p;exact⟨o,t',by simp only[Ee,e1,e2];exact e',p⟩
     |cont=>clear 5(FL I turn fuel m t2 ∅ p)o t' e' p;exact⟨o,t',by simp only[Ee,e1,e2];exact e',p⟩
     |brk=>exact⟨_,_,by simp only[Ee,e1,e2],p⟩
     |ret x=>exact⟨_,_,by simp only[Ee,e1,e2],p⟩
noncomputable def wid(n:Nat):Nat:=if n=0 then 0 else n.log2/8+1
theorem UW(h:2<=n):n.log2=(n/2).log2+1:=by rw[Nat.log2_def,pW h]
theorem Xh(h:n<2):n.log2=0:=by rw[Nat.log2_def,pX ∅]
theorem PB:∀(k:Nat){n:Nat},2 ^ k<=n->n.log2=(n/2 ^ k).log2+k
 |0,n,_=>by rw[pI,Nat.div_one,Nat.add_zero]
 |k+1,n,h=>by
   have h2:2 ^ k*2<=n:=by rw[<-un1];exact h
   have h3:2<=n/2 ^ k:=(Nat.le_div_iff_mul_le (Nat.pow_pos (by decide))).mpr (by rw[pG];exact h2);rw[PB k (um6 (Nat.le_mul_of_pos_right _ (by decide)) h2),UW h3,uc1,<-un1,um0,Nat.add_comm 1 k]
theorem Xf(h:256<=n):n.log2=(n/256).log2+8:=PB 8 h
theorem Xg(h:n<256):n.log2<8:=by
 by_cases z:n=0
 .subst z;rw[Xh ∅];lia
 .exact(Nat.log2_lt z).mpr h
theorem LF(h:0<n):wid n=wid (n/256)+1:=by
 unfold wid;rw[pX ∅]
 by_cases z:n<256
 .have:=Xg z;rw[pW ∅];lia
 .rw[pX ∅,Xf ∅];lia
theorem MM:∀(k n:Nat),n<256 ^ k->wid n<=k
 |0,n,h=>by
   have:n=0:=by simpa using h
   subst this;decide
 |k+1,n,h=>by
   by_cases z:n=0
   .subst z;exact un7 _
   .rw[LF ∅];have:=MM k (n/256) (Nat.div_lt_of_lt_mul (by rw[un1] at h;lia));lia
theorem Wu(n:Nat):((Builtin.Int.intBits (n:Int):Nat)+7)/8=wid n:=by
 unfold Builtin.Int.intBits wid
 by_cases z:n=0
 .subst z;rfl
 .have:((n:Int)==0)=false:=by simp;exact z
  rw[this,pX (by simp),pX z,Int.natAbs_natCast];lia
noncomputable def nb:Nat->Nat->List D
 |0,_=>[]
 |w+1,n=>nb w (n/256)++[.int ((n%256:Nat):Int)]
theorem PX:∀w n,(nb w n).length=w
 |0,n=>rfl
 |w+1,n=>by rw[nb,ue9,PX];rfl
theorem Va:∀w n:Nat,(List.range w).map (λk=>D.int ((n/2 ^ (8*(w-1-k))%256:Nat):Int))=nb w n
 |0,n=>rfl
 |w+1,n=>by
   rw[List.range_succ,uk0,nb,<-Va w (n/256)]
   congr 1
   .refine List.map_congr_left λk hk=>?_;rw[List.mem_range] at hk;have e:8*(w+1-1-k)=8+8*(w-1-k):=by lia
    rw[e,Nat.pow_add,uc1]
   .simp
mutual
def AH:Sh->D->List D
 |.nothing,_=>[]
 |.number lo hi,d=>match d with
   |.int i=>nb (wid (hi-lo).toNat) (i-lo).toNat
   |_=>[]
 |.text _,d=>match d with
   |.str x=>.int (x.length:Nat)::x.cps.toList.map λn=>D.int (n:Nat)
   |_=>[]
 |.list s _,d=>match d with
   |.lst ds=>.int (ds.length:Nat)::(ds.map λd=>AH s d).flatten
   |_=>[]
 |.pair s r,d=>match d with
   |.tup [a,b]=>AH s a++AH r b
   |_=>[]
 |.choice ss,d=>match d with
   |.tup [_,.int k,x]=>.int k::LV ss k.toNat x
   |_=>[]
def LV:List Sh->Nat->D->List D
 |[],_,_=>[]
 |s::_,0,d=>AH s d
 |_::r,k+1,d=>LV r k d
end
theorem Gb:∀(ss:List Sh) (k:Nat) (s:Sh) (d:D),ss[k]?=some s->LV ss k d=AH s d
 |[],k,s,d,h=>by simp at h
 |s::r,0,s',d,h=>by simp at h;subst h;simp[LV]
 |s::r,k+1,s',d,h=>by rw[LV];exact Gb r k s' d (by simpa using h)
def Kn(f:Fn)(n:Nat):Prop:=∀(s:Sh),s.depth<=n->wf s=true->∀d,Ak s d=true->(AH s d).length<=LIM->Pure1 f [s.d,d] (.lst (AH s d))
def JD(f:Fn):Prop:=∀(n j:Nat),j<=1000->Pure1 f [.int n,.int j] (.int ((n/2 ^ (8*j):Nat):Int))
theorem Z0:JD (fnOf 2 2 J3):=by
 intro n j hj S;refine Ai rfl ?_;unfold J3;right;refine ML (Nm (by decide) (by decide)) ?_;refine kI ∅ ?_;refine⟨?_,rfl⟩;have:(8*(j:Int)).toNat=8*j:=by lia
 rw[this];simp
def LS(f:Fn):Prop:=∀n:Nat,n<256 ^ 9->Pure1 f [.int n] (.int (wid n:Nat))
theorem Ys:LS (fnOf 1 1 Gy):=by
 intro n _ S;refine Ai rfl ?_;unfold Gy;right;refine iz ?_;right;refine⟨?_,rfl⟩;rw[<-Wu];simp
def OE(f:Fn):Prop:=∀(n w:Nat),w<=1000->Pure1 f [.int n,.int w] (.lst (nb w n))
theorem RY(i:Int)(n:Nat):Bf i n=(List.range n).map λk:Nat=>D.int (i+k):=by
 rfl
theorem ac(hc:JD c):OE (fnOf 2 2 (FY c)):=by
 intro n w hw S;have hL:LIM=100000:=rfl;refine Ai rfl ?_;unfold FY;refine KR ?_;right;refine fW (by rw[Bq (by decide) (by decide),Bq ∅ ∅];rfl) ?_;refine(JJ (f:=λd=>match d with | .int k=>.int ((n/2 ^ (8*(w-k.toNat))%256:Nat):Int)|_=>d) (fr:=[vw (.int n),vw (.int w)]) ?_).mono ?_
 .intro d m;rw[RY] at m;clear 5(List.mem_map.mp m)k hk rfl;rw[List.mem_range] at hk;right;have e:((w:Int)-(1+(k:Int)))=((w-(1+k):Nat):Int):=by lia
  rw[e];refine(hc n (w-(1+k)) ∅).use ?_;right;refine⟨?_,rfl⟩;have e2:(1+(k:Int)).toNat=1+k:=by lia
  dsimp only;rw[e2];simp
 .rintro xs t' ⟨rfl,hS⟩;have hn:((w:Int)+1-1).toNat=w:=by lia
  rw[RY,hn];refine Bi (by simp only[ui7,ug4,hL];lia) ?_;refine⟨?_,hS⟩;rw[<-Va w n,un3]
  congr 1
  refine List.map_congr_left λk hk=>?_;rw[List.mem_range] at hk;have e2:(1+(k:Int)).toNat=1+k:=by lia
  have e3:w-(1+k)=w-1-k:=by lia
  simp only[Function.comp,e2,e3]
theorem R7{lo hi:Int}(h:wf (.number lo hi)=true):(hi-lo).toNat<256 ^ 9:=by
 simp only[wf,uh3,ug6] at h;have:(256:Nat) ^ 9=4722366482869645213696:=by decide
 lia
theorem Ug(x:Str):(x.cps.toList.map λc=>D.str ⟨#[c]⟩).map (λd=>match d with | .str y=>D.int (y.cps.getD 0 0:Nat)|_=>d)=x.cps.toList.map λn=>D.int (n:Nat):=by
 rw[un3];refine List.map_congr_left λn _=>?_;rfl
variable{cn:Fn}
set_option tactic.hygienic true in
theorem ZC(hc:Kn c n)(hw:LS cw)(hn:OE cn):Kn (fnOf 2 5 (FE c cw cn)) (n+1):=by
 intro s hs hwf d hf hlen S;have hL:LIM=100000:=rfl;refine Ai rfl ?_;unfold FE
 cases s with
 |nothing=>
   rw[Sh.d];right;refine KR ?_;right;exact⟨by rw[AH],rfl⟩
 |number lo hi=>
   have hsp:=R7 hwf;have hwd:=MM 9 _ hsp;simp only[wf,uh3,ug6] at hwf
   cases d<;>simp[Ak] at hf
   rename_i i;rw[Sh.d];right;refine KR (HC ?_);right;have e1:hi-lo=(((hi-lo).toNat:Nat):Int):=by lia
   have e2:i-lo=(((i-lo).toNat:Nat):Int):=by lia
   rw[e1,e2];refine(hw _ hsp).use ?_;right;refine(hn _ _ ∅).use ?_;exact⟨_,rfl,by rw[AH],rfl⟩
 |text q=>
   simp only[wf,uh3,ug6] at hwf
   cases d<;>simp[Ak] at hf
   rename_i x;rw[Sh.d];right;refine KR ?_;refine CL ?_;right;refine Y7 (by rw[hL];lia) ?_;right;refine(JJ (f:=λd=>match d with | .str y=>D.int (y.cps.getD 0 0:Nat)|_=>d) (fr:=[]) ?_).mono ?_
   .intro d m;clear 5(List.mem_map.mp m)k hk rfl;right;refine fV rfl ?_;exact⟨rfl,rfl⟩
   .rintro xs t' ⟨rfl,hS⟩;rw[Ug];have hl:x.cps.toList.length<=250:=by rw[<-HL];lia
    refine Bi (by rw[ui7,hL];lia) ?_;right;refine Bi (by simp only[ui7,ug9,uj5,hL];lia) ?_;exact⟨by rw[AH];rfl,hS⟩
 |list s q=>
   simp only[wf,uh3,ug6] at hwf;rw[Sh.depth] at hs
   cases d<;>simp only[Ak,uf0] at hf
   rename_i ds;rw[uh3,ug6,uh7] at hf;rw[AH] at hlen⊢;rw[Sh.d];right;refine BG (λr t=>∃(z:Option Sl) (acc:List D),t=⟨[vw (.tup [.str "list",s.d,.int q]),vw (.lst ds),vw (.str "list"),some (.own acc),z],S⟩/\acc++(r.map λd=>AH s d).flatten=.int (ds.length:Nat)::(ds.map λd=>AH s d).flatten) _ _ ⟨_,_,rfl,rfl⟩ ?_ ?_
   .rintro d r t ⟨z,acc,rfl,hacc⟩ m;rw[ul2,uf9,<-ug0] at hacc;have hl:acc.length+(AH s d).length<=LIM:=by
     have:=pQ List.length hacc;rw[ue9,ue9] at this;lia
    right;refine HC ?_;right;refine(hc s (Nat.le_of_succ_le_succ hs) hwf.2 d (hf.2 d m) (um6 (Nat.le_add_left _ _) hl)).use ⟨_,rfl,?_⟩;right;refine j6 rfl hl ?_;exact⟨_,_,rfl,hacc⟩
   .rintro t ⟨z,acc,rfl,hacc⟩;rw[um9,List.flatten_nil,ui9] at hacc;right;refine Sd rfl ?_;exact⟨by rw[hacc],rfl⟩
 |pair s r=>
   simp only[wf,uh3] at hwf;rw[Sh.depth] at hs;unfold Ak at hf
   split at hf
   case h_2=>cases hf
   case h_1 a b=>
    rw[uh3] at hf;rw[AH] at hlen⊢;rw[ue9] at hlen;rw[Sh.d];right;refine KR ?_;refine CL ?_;right;refine HC ?_;right;refine(hc s (um6 (Nat.le_max_left _ _) (Nat.le_of_succ_le_succ hs)) hwf.1 a hf.1 (um6 (Nat.le_add_right _ _) hlen)).use ⟨_,rfl,?_⟩;refine CL ?_;right;refine HC ?_;right;refine(hc r (um6 (Nat.le_max_right _ _) (Nat.le_of_succ_le_succ hs)) hwf.2 b hf.2 (um6 (Nat.le_add_left _ _) hlen)).use ⟨_,rfl,?_⟩;right;refine Bi hlen ?_;exact⟨rfl,rfl⟩
 |choice ss=>
   simp only[wf,uh3,ug6] at hwf;rw[Sh.depth] at hs;unfold Ak at hf
   split at hf
   case h_2=>cases hf
   case h_1 o k x=>
    simp only[uh3,ug6] at hf;obtain⟨⟨ho,k0,k1⟩,hf⟩:=hf;have hk:k.toNat<ss.length:=by lia
    have e1:ss[k.toNat]?=some ss[k.toNat]:=ub1 hk;have hl:=EK ss;have e2:atI (shD ss) k=some (ss[k.toNat]).d:=by
     unfold atI;rw[Co k0 ∅];show(shD ss)[k.toNat]?=_;rw[IC,e1];rfl
    rw[CV ss _ _ _ e1] at hf;rw[AH] at hlen⊢;rw[Gb ss _ _ _ e1] at hlen⊢;rw[ug9] at hlen;rw[Sh.d];right;refine KR ?_;right;refine HC ?_;right;refine EE e2 ?_;right;refine(hc _ (um6 (CY ss _ _ e1) (Nat.le_of_succ_le_succ hs)) (EL hwf.2 _ (ui1 hk)) x hf (Nat.le_of_succ_le hlen)).use ⟨_,rfl,?_⟩;right;refine Bi (by simp only[ug9,uj5];lia) ?_;exact⟨rfl,rfl⟩
theorem Mx(a:Int)(n:Nat):(Bf a n).length=n:=by simp[Bf]
variable{j:Nat}{r:List D}
theorem Nv{a:Int}{d:D}(e:d::r=(Bf a n).drop j):d=.int (a+j)/\r=(Bf a n).drop (j+1)/\j<n:=by
 have hj:j<(Bf a n).length:=by
  rcases pJ j (Bf a n).length with h|h
  .exact h
  .rw[List.drop_eq_nil_of_le h] at e;cases e
 rw[List.drop_eq_getElem_cons hj] at e;injection e with e1 e2
 rw[Mx] at hj;refine⟨?_,e2,hj⟩;rw[e1];simp[Bf]
noncomputable def sgs:Str:=" !\"#$ &'()*+,-./0123456789:;<=>?@ABCDEFGHIJKLMNOPQRSTUVWXYZ[\\]^_`abcdefghijklmnopqrstuvwxyz{|}~"
theorem fq{c:Nat}(h:Cj c=true):atI sgs.cps.toList ((c:Int)-32)=some c:=by
 have hl:sgs.cps.toList.length=95:=by decide +kernel
 have hall:(List.range 127).all (λc=>!Cj c||decide (sgs.cps.toList[c-32]?=some c))=true:=by decide +kernel
 have h':=h;simp only[Cj,uh3,ug6] at h';have:=uh7.mp hall c (List.mem_range.mpr ∅);rw[h,Bool.not_true,ul7,ug6] at this;rw[show((c:Int)-32)=((c-32:Nat):Int) by lia];exact Ku this
variable{f:M D}
section
variable{t:T}{P:D->T->Prop}{R:Out->T->Prop}
def Yj(h:D->M Out)(R:Out->T->Prop)(o:Out)(t1:T):Prop:=match o with
 |.ret (.exc n ds)=>n∈Ci/\W (h (.exc n ds)) t1 R
 |o=>R o t1
theorem kJ{b:M Out}{h:D->M Out}(w:W b t (Yj h R)):W (HB b h) t R:=by
 clear 5 w o t1 e q;have rest:∀d,BI d=false->o=.ret d->W (HB b h) t R:=λd hd ho=>by
  subst ho;refine⟨.ret d,t1,?_,?_⟩
  .unfold HB;rw[e];cases d<;>first|rfl|cases hd
  .cases d<;>first|exact q|cases hd
 cases o with
 |next=>exact⟨.next,t1,by unfold HB;rw[e],q⟩
 |brk=>exact⟨.brk,t1,by unfold HB;rw[e],q⟩
 |cont=>exact⟨.cont,t1,by unfold HB;rw[e],q⟩
 |ret d=>
   cases d with
   |exc n ds=>
     clear 5 q hn o2 t2 e2 q2;exact⟨o2,t2,by unfold HB;rw[e];dsimp only;rw[pW hn,e2],q2⟩
   |_=>exact rest _ rfl rfl
set_option tactic.hygienic true in
theorem V1{h:D->M Out}(q:R .next t1):Yj h R .next t1:=q
theorem bF{h:D->M Out}{n:Str}(e:n∈Ci)(q:W (h (.exc n ds)) t1 R):Yj h R (.ret (.exc n ds)) t1:=⟨e,q⟩
def xK(d:D)(A B:Prop):Prop:=if BI d=true then A else B
theorem iX{d:D}{A B:Prop}(e:BI d=false)(b:B):xK d A B:=by unfold xK;rw[pX (by rw[e];decide)];exact b
theorem iW{d:D}{A B:Prop}(e:BI d=true)(a:A):xK d A B:=by unfold xK;rw[pW e];exact a
set_option tactic.hygienic true in
theorem iO(w:W f t λd t1=>xK d (R (.ret d) t1) (R .next ⟨t1.env.set i (vw d),t1.S⟩)):W (ES i f) t R:=by
 refine CL (w.mono λd t1 q=>?_);unfold xK at q
 split at q
 .next h=>rw[pW h];exact⟨_,_,rfl,q⟩
 .next h=>rw[pX h];exact⟨_,_,rfl,q⟩
theorem wNx(w:W f t λd t1=>BI d=false/\P d t1):W (nxD f) t P:=by
 refine CL (w.mono λd t1 z9=>?_);clear 5 z9 h q;rw[pX (by rw[h];decide)];exact⟨_,_,rfl,q⟩
set_option tactic.hygienic true in
theorem iA{g:M D}{h:D->M D}(w:W g t λy t1=>xK y (P y t1) (W (h y) t1 λd t2=>BI d=false/\P d t2)):W (MZ g h) t P:=by
 refine CL (w.mono λy t1 q=>?_);unfold xK at q
 split at q
 .next z=>rw[pW z];exact⟨_,_,rfl,q⟩
 .next z=>rw[pX z];exact wNx q
theorem iy{g:M D}{h:D->D->M D}(w:W f t λx t1=>W (MZ g (h x)) t1 P):W (Kw f g h) t P:=CL w
theorem bM{n:Str}{f:M (List D)}(w:W f t λds t1=>ds.length<=1000/\R (.ret (.exc n [])) t1):W (Kf n f) t R:=
 CL (w.mono λds t1 ⟨e,q⟩=>by rw[pW e];exact⟨_,_,rfl,q⟩)
theorem bN{n:Str}(w:W f t λ_ t1=>R (.ret (.exc n [])) t1):W (Kf n (Ab f Ad)) t R:=bM (F9 (w.mono λd t1 q=>NL ⟨by show 1<=1000;decide,q⟩))
theorem ke{n n':Str}{s:M Out}{r:D->M Out}(e:Ik n n'=true)(w:W s t R):W (hNo n' s r (.exc n ds)) t R:=by
 clear 5 w o t2 e1 q;exact⟨o,t2,by unfold hNo;dsimp only;rw[pW e,e1],q⟩
end
local macro_rules | `(tactic| walk_at"x1")=>`(tactic| first
 |walk_at"w1" |clear 31 kJ iO wNx iy iA V1|clear 33 bF|clear 32 iX|clear 32 iW|clear 31 bN|clear 33 ke)
local macro_rules | `(tactic| left)=>`(tactic| repeat (walk_at"x1"))
set_option genInjectivity false in inductive Rd where
 |done (v:D)
 |need (ok:Nat->Bool) (nx:Nat->Rd)
set_option genInjectivity false in inductive RR where
 |told (v:D) (a:Nat)
 |short
 |broken (a:Nat)
noncomputable def Rd.run:Rd->List Nat->Nat->RR
 |.done v,_,a=>.told v a
 |.need ok nx,w,a=>match w[a]? with
   |none=>.short
   |some b=>if ok b=true then(nx b).run w (a+1) else .broken a
noncomputable def Rd.bnd:Rd->(D->Rd)->Rd
 |.done v,k=>k v
 |.need ok nx,k=>.need ok λb=>(nx b).bnd k
def RR.thn(r:RR)(w:List Nat)(k:D->Rd):RR:=match r with
 |.told v a=>(k v).run w a
 |.short=>.short
 |.broken a=>.broken a
variable{w:List Nat}{a:Nat}
theorem Dz{ok:Nat->Bool}{nx:Nat->Rd}(h:w[a]?=none):(Rd.need ok nx).run w a=.short:=by rw[Rd.run,h]
theorem BV{ok:Nat->Bool}{nx:Nat->Rd}{b:Nat}(h:w[a]?=some b):(Rd.need ok nx).run w a=if ok b=true then(nx b).run w (a+1) else .broken a:=by rw[Rd.run,h]
theorem EJ(k:D->Rd)(w:List Nat):∀(p:Rd) (a:Nat),(p.bnd k).run w a=(p.run w a).thn w k:=by
 intro p
 induction p with
 |done v=>intro a;rfl
 |need ok nx ih=>
   intro a;rw[Rd.bnd]
   cases h:w[a]? with
   |none=>rw[Dz h,Dz h];rfl
   |some b=>
     rw[BV h,BV h]
     by_cases q:ok b=true
     .rw[pW q,pW q];exact ih b (a+1)
     .rw[pX q,pX q];rfl
variable{v:D}
theorem NH{b:Nat}:∀(p:Rd) (a:Nat),a<=w.length->p.run w a=.told v b->a<=b/\b<=w.length:=by
 intro p
 induction p with
 |done v'=>intro a ha h;cases h;exact⟨un6 _,ha⟩
 |need ok nx ih=>
   intro a ha h
   cases e:w[a]? with
   |none=>rw[Dz e] at h;cases h
   |some c=>
     rw[BV e] at h;have hl:=(ua7.mp e).1
     by_cases q:ok c=true
     .rw[pW q] at h;have:=ih c (a+1) hl h;lia
     .rw[pX q] at h;cases h
noncomputable def Jk(lo:Int)(M:Nat):Nat->Nat->Rd
 |0,x=>.done (.int (lo+x))
 |r+1,x=>.need (λb=>decide (x*256+b<=M/2 ^ (8*r))) λb=>Jk lo M r (x*256+b)
def J9:Nat->List Nat->Rd
 |0,cs=>.done (.str ⟨cs.toArray⟩)
 |n+1,cs=>.need Cj λc=>J9 n (cs++[c])
def Jj(p:Rd):Nat->List D->Rd
 |0,ds=>.done (.lst ds)
 |n+1,ds=>p.bnd λv=>Jj p n (ds++[v])
def pSh:Nat->Sh->Rd
 |0,_=>.done .non
 |_+1,.nothing=>.done .non
 |_+1,.number lo hi=>Jk lo (hi-lo).toNat (wid (hi-lo).toNat) 0
 |_+1,.text q=>.need (λb=>decide ((b:Int)<=q)) λb=>J9 b []
 |n+1,.list s q=>.need (λb=>decide ((b:Int)<=q)) λb=>Jj (pSh n s) b []
 |n+1,.pair s r=>(pSh n s).bnd λv=>(pSh n r).bnd λu=>.done (.tup [v,u])
 |n+1,.choice ss=>.need (λb=>decide (b<ss.length)) λb=>(pSh n (ss.getD b .nothing)).bnd λv=>.done (.tup [.str "of",.int b,v])
mutual
noncomputable def plD:D->Bool
 |.lst xs=>pls xs
 |.tup xs=>pls xs
 |.obj _=>false
 |.scr _=>false
 |.ty _=>false
 |.exc _ _=>false
 |.gts _=>false
 |.dic=>false
 |_=>true
noncomputable def pls:List D->Bool
 |[]=>true
 |d::r=>plD d&&pls r
end
theorem WE{k:Int}(h0:0<=k)(h1:k<=xs.length):BS xs none (some k)=xs.take k.toNat:=by
 have:HT.sIx xs.length xs.length (some k)=k.toNat:=by simp only[HT.sIx];rw[pX ∅];lia
 unfold BS;rw[this];simp[HT.sIx]
noncomputable def pos(i:Int):Int:=if 0<i then i else 0
structure ValueRes2(k c l:Nat)(S:List Ob)(s:Sh)(a b:Int)(r:D)(S':List Ob):Prop where
 fit:Ak s r=true
 lft:∃a' b':Int,S'[l]?=some (.lst [.int a',.int b'])/\((AH s r).length:Int)<=9*(a-a')+(pos b-pos b')/\pos b'<=pos b/\1<=a-a'/\a-a'<=cnt s+(14*(s.depth:Int))*pos a
 deck:DeckAt k c S'
 kp:Sk k c l S S'
mutual
noncomputable def szE:D->Nat
 |.lst xs=>1+Ye xs
 |.tup xs=>1+Ye xs
 |_=>1
noncomputable def Ye:List D->Nat
 |[]=>0
 |d::r=>szE d+Ye r
end
structure VOk(s:Sh)(v:D):Prop where
 fit:Ak s v=true
 len:(AH s v).length<=14809
local macro_rules | `(tactic| walk_at"y1")=>`(tactic| first
 |walk_at"x1")
local macro_rules | `(tactic| symm)=>`(tactic| repeat (walk_at"y1"))
local macro_rules
|`(tactic|rw[6,$f $a*])=>`(tactic|(refine $f $a* ?_;symm))
|`(tactic|rw[6,$f:ident])=>`(tactic|(refine $f ?_;symm))
|`(tactic|rw[7,$f $a*])=>`(tactic|(refine $f $a* ?_;right))
|`(tactic|rw[7,$f:ident])=>`(tactic|(refine $f ?_;right))
|`(tactic|rw[8,$f $a*])=>`(tactic|(refine $f $a* ?_;left))
|`(tactic|rw[8,$f:ident])=>`(tactic|(refine $f ?_;left))
|`(tactic|rw[6,$f:term])=>`(tactic|(refine $f ?_;symm))
|`(tactic|rw[7,$f:term])=>`(tactic|(refine $f ?_;right))
|`(tactic|rw[8,$f:term])=>`(tactic|(refine $f ?_;left))
|`(tactic|rw[9,$f:ident])=>`(tactic|(refine Ai rfl ?_;unfold $f:ident;symm))
noncomputable def wD(w:List Nat):List D:=w.map λ(n:Nat)=>D.int (n:Int)
theorem A3(w:List Nat):(wD w).length=w.length:=by unfold wD;rw[ui7]
theorem V5{b:Nat}(h:w[a]?=some b):(wD w)[a]?=some (.int (b:Int)):=by unfold wD;rw[uf7,h];rfl
abbrev exS:D:=.exc "Short" []
abbrev exB(a:Nat):D:=.exc "Broken" [.int (a:Int),.non]
noncomputable def rrD:RR->D
 |.told v b=>.tup [v,.int (b:Int)]
 |.short=>exS
 |.broken a=>exB a
noncomputable def byX:Option Nat->D
 |none=>exS
 |some b=>.int (b:Int)
noncomputable def upX(m:Int)(a:Nat):Option Nat->D
 |none=>exS
 |some b=>if (b:Int)<=m then .int (b:Int) else exB a
def sgX(a:Nat):Option Nat->D
 |none=>exS
 |some c=>if Cj c=true then .str ⟨#[c]⟩ else exB a
def RX(c:Fn)(s:Sh)(p:Rd):Prop:=∀(w:List Nat) (a:Nat),a<=w.length->Pure1 c [s.d,.lst (wD w),.int (a:Int)] (rrD (p.run w a))
theorem Kk(x y:List Nat):wD (x++y)=wD x++wD y:=by unfold wD;rw[uk0]
theorem Ry:∀(r y:Nat),nb (r+1) y=.int ((y/256 ^ r%256:Nat):Int)::nb r y
 |0,y=>by rw[nb,nb,nb,pI,Nat.div_one];rfl
 |r+1,y=>by
   rw[show nb (r+1+1) y=nb (r+1) (y/256)++[.int ((y%256:Nat):Int)] from rfl,Ry r (y/256),ui2,show nb (r+1) y=nb r (y/256)++[.int ((y%256:Nat):Int)] from rfl,uc1,show 256*256 ^ r=256 ^ (r+1) by rw[un1,pG]]
variable{kvs:List (Key×D)}
theorem Cv{x:Str}{d:D}(e:t.S[n]?=some (.dct kvs))(e2:AR kvs (.inr x)=some d)(h:P d t):W (B0 (.obj n) (.str x)) t P:=
 ⟨d,t,by simp only[B0,e,e2];rfl,h⟩
theorem QD{g:M D}{d:D}{U:Unit->T->Prop}(h:W f t λo t1=>W g t1 λi t2=>W (IE o i d) t2 U):W (GM f g d) t U:=CL (h.mono λo t1 h1=>CL h1)
theorem F6{x:Str}{d:D}{U:Unit->T->Prop}(e:t.S[n]?=some (.dct kvs))(hl:kvs.length<LIM)(h:U () ⟨t.env,t.S.set n (.dct (BJ kvs (.inr x) d))⟩):W (IE (.obj n) (.str x) d) t U:=
 ⟨(),_,by simp only[IE,e,pW hl],h⟩
theorem V8{g:M D}{xs0:List D}(e:t.env[i]?=some (some (.own xs0)))(h:W g t λj t1=>∃n xs d,j=.int n/\t1.env[i]?=some (some (.own xs))/\atI xs n=some d/\P d t1):W (G9 i g) t P:=by
 clear 5 h j t1 e1 n xs d rfl e2 e3 p;refine⟨d,t1,?_,p⟩;unfold G9;simp only[e];show bnd g _ t=_;unfold bnd;simp only[e1,e2,e3];rfl
theorem MK{l:List (Str×M D)}(h:W (EU l) ⟨t.env,t.S++[.dct []]⟩ λps t1=>t1.S[t.S.length]?=some (.dct [])/\ps.length<=15/\P (.obj t.S.length) ⟨t1.env,t1.S.set t.S.length (.dct (kvMerge ps))⟩):W (GG l) t P:=by
 clear 5 h ps t1 e1 e2 e3 p;refine⟨_,_,?_,p⟩;unfold GG bnd;simp only[e1];unfold Fi;simp only[e2,pW e3]
variable{Q:List (Key×D)->T->Prop}
theorem Gh(h:Q [] t):W (EU []) t Q:=⟨_,_,rfl,h⟩
theorem Cw{k:Str}{r:List (Str×M D)}(h:W f t λd t1=>W (EU r) t1 λps t2=>Q ((.inr k,d)::ps) t2):W (EU ((k,f)::r)) t Q:=
 CL (h.mono λd t1 h1=>CL (h1.mono λps t2 h2=>⟨_,_,rfl,h2⟩))
set_option genInjectivity false in structure St where
 rest:Int
 mixed:Bool
 turn:Int
noncomputable def St.ob(s:St):Ob:=.dct [(.inr (Str.ofString "rest"),.int s.rest),(.inr (Str.ofString "mixed"),.bl s.mixed),(.inr (Str.ofString "turn"),.int s.turn)]
noncomputable def take(s:St)(m:Int):Int×St:=
 if s.mixed=false then(s.rest%m,⟨s.rest/m,s.mixed,s.turn⟩)
 else
  let stir:=(s.rest%2147483579+70001*(s.turn+1))%2147483579
  let rest:=(stir*stir%2147483563*50021+7)%2147483579
  (rest/5%m,⟨rest,s.mixed,s.turn+1⟩)
theorem Dy(a:Int)(n:Nat):(Bf a n).length=n:=by simp[Bf]
set_option genInjectivity false in inductive GS where
 |fin
 |st (side:Str) (ws:List (Str×Sh×Int))
def wdD(w:Str×Sh×Int):D:=.tup [.str w.1,w.2.1.d,.int w.2.2]
def GS.d:GS->D
 |.fin=>.tup [.str (Str.ofString "end")]
 |.st side ws=>.tup [.str side,.lst (ws.map wdD)]
noncomputable def GS.isFin:GS->Bool
 |.fin=>true
 |_=>false
theorem De{a:Int}{d:D}(e:d::r=(Bf a n).drop j):d=.int (a+j)/\r=(Bf a n).drop (j+1)/\j<n:=by
 have hj:j<(Bf a n).length:=by
  rcases pJ j (Bf a n).length with h|h
  .exact h
  .rw[List.drop_eq_nil_of_le h] at e;cases e
 rw[List.drop_eq_getElem_cons hj] at e;injection e with e1 e2
 rw[Dy] at hj;refine⟨?_,e2,hj⟩;rw[e1];simp[Bf]
structure WOk(n:Int)(w:Str×Sh×Int):Prop where
 ok:wf w.2.1=true
 dep:w.2.1.depth<=3
 lo:0<=w.2.2
 hi:w.2.2<n
 nm:w.1.length<=90000
inductive GSOk(n:Int):GS->Prop
 |fin:GSOk n .fin
 |st {side:Str}{ws:List (Str×Sh×Int)}:(side=Str.ofString "left"\/side=Str.ofString "right")->0<ws.length->ws.length<=9->(ws.map (·.1)).Nodup->(∀w∈ws,WOk n w)->GSOk n (.st side ws)
structure GOk(g:List GS):Prop where
 ne:0<g.length
 le:g.length<=30
 all:∀x∈g,GSOk g.length x
def DB(f:Fn):Prop:=∀(n:Int) (x:GS),GSOk n x->Pure1 f [x.d] (.bl x.isFin)
theorem UO:DB (fnOf 1 1 Lq):=by
 intro n x hx S;refine Ai rfl ?_;unfold Lq
 cases hx with
 |fin=>
   rw[GS.d];right;exact⟨by simp[GS.isFin],rfl⟩
 |st hs _ _ _ _=>
   rw[GS.d];right;refine⟨?_,rfl⟩;rcases hs with rfl|rfl<;>simp[GS.isFin]
def GS.words:GS->D
 |.fin=>.tup []
 |.st _ ws=>.lst (ws.map wdD)
noncomputable def GS.ws:GS->List (Str×Sh×Int)
 |.fin=>[]
 |.st _ ws=>ws
def Fg(f:Fn):Prop:=∀(n:Int) (x:GS),GSOk n x->Pure1 f [x.d] x.words
variable{ce:Fn}
theorem Yu(he:DB ce):Fg (fnOf 1 1 (Jg ce)):=by
 intro n x hx S;refine Ai rfl ?_;unfold Jg
 cases x with
 |fin=>
   right;rw[7,(he n .fin hx).use];exact⟨rfl,rfl⟩
 |st side ws=>
   right;refine(he n (.st side ws) hx).use ?_;rw[GS.d];right;exact⟨rfl,rfl⟩
noncomputable def Mt:Option Nat->D
 |some i=>.int i
 |none=>.non
def IJ(f:Fn):Prop:=∀(n:Int) (x:GS) (nm:Str),GSOk n x->Pure1 f [x.d,.str nm] (Mt (x.ws.findIdx? λw=>w.1==nm))
theorem JV{p:α->Bool}{l:List α}(h:∀i (hi:i<l.length),i<j->p l[i]=false){x:α}(hx:l[j]?=some x)(hp:p x=true):l.findIdx? p=some j:=by
 clear 5(ua7.mp hx)hj e;rw[List.findIdx?_eq_some_iff_getElem];exact⟨hj,by rw[e];exact hp,λi hi=>by simpa using h i ∅ hi⟩
theorem Nr(hw:Fg cw):IJ (fnOf 2 4 (Gv cw)):=by
 intro n x nm hx S;refine Ai rfl ?_;unfold Gv;right;refine(hw n x hx).use ?_;have key:∀(ws:List (Str×Sh×Int)) (d:D),ws.length<=9->(∀(t:T) (P:D->T->Prop),P (.int ws.length) t->W (A0 [d]) t P)->(∀(t:T) (P:D->T->Prop) (i:Nat) (w:Str×Sh×Int),ws[i]?=some w->P (wdD w) t->W (ixD d (.int i)) t P)->
  W (Ae (Bx (BQ (Ab (fB (Ab (Aa 2) Ad) A0) Ad)) (Ar 3)
  (ifS (Aj (Ac (Ac (Ac (Aa 2) (Aa 3) ixD) (md 0) ixD) (Aa 1) (eqS id)))
  (Al (Aa 3))
  As))
 (Al (fC .non))) ⟨[vw x.d,vw (.str nm),vw d,none],S⟩ λo t=>match o with
   |.ret r=>r=Mt (ws.findIdx? λw=>w.1==nm)/\t.S=S
   |.next=>D.non=Mt (ws.findIdx? λw=>w.1==nm)/\t.S=S
   |_=>False:=by
   intro ws d hl len ix;right;rw[7,len _ _];refine ET (Bq ∅ ∅) ?_;refine BG (λr t=>∃(j:Nat) (e3:Option Sl),(∀i (hi:i<ws.length),i<j->(ws[i].1==nm)=false)/\j<=ws.length/\r=(Bf 0 ((ws.length:Nat):Int).toNat).drop j/\t=⟨[vw x.d,vw (.str nm),vw d,e3],S⟩) _ _ ⟨0,none,λi hi h=>absurd h ∅,by lia,rfl,rfl⟩ ?_ ?_
   .rintro d' r t ⟨j,e3,hj,hjl,hr,rfl⟩ _;clear 5(De hr)rfl hr' hjn;rw[uf8] at hjn;have e:ws[j]?=some ws[j]:=ub1 hjn;rw[Int.zero_add];right;refine ix _ _ j _ e ?_;unfold wdD;right;refine EN (λq=>?_) λq=>?_
    .right;refine⟨?_,rfl⟩;rw[JV hj e q];rfl
    .right;refine⟨j+1,_,λi hi hij=>?_,by lia,hr',rfl⟩;rcases pJ i j with h|h
     .exact hj i hi h
     .have:i=j:=by lia
      subst this;exact q
   .rintro t ⟨j,e3,hj,hjl,hr,rfl⟩;have hj':j=ws.length:=by
     have:=pQ List.length hr;rw[uj5,uh2,Dy,uf8] at this;lia
    subst hj';right;refine⟨?_,rfl⟩;rw[List.findIdx?_eq_none_iff.mpr]
    .rfl
    .intro w hw';clear 5(List.mem_iff_getElem.mp hw')i hi rfl;exact hj i hi hi
 cases hx with
 |fin=>
   refine Fl ?_;refine key [] (.tup []) (by decide) (λt P h=>Y8 h) λt P i w e h=>?_;simp at e
 |@st side ws h1 h2 h3 h4 h5=>
   refine Fl ?_;refine key ws (.lst (ws.map wdD)) h3 (λt P h=>TD (by rw[ui7];exact h)) λt P i w e h=>?_;obtain⟨hi,_⟩:=ua7.mp e;refine A4 ?_ h;unfold atI;rw[Co ∅ (by rw[ui7];lia)];show(ws.map wdD)[(i:Int).toNat]?=_;rw[uf8,uf7,e];rfl
theorem Zs{x:Int}:eqN n (.int x) (.int x)=some true:=by
 cases n<;>(show some (x==x)=some true;rw[ui4])
theorem Zu(h:∀x∈xs,eqN n x x=some true):eqN (n+1) (.tup xs) (.tup xs)=some true:=by
 rw[eqN,En h];simp
theorem Zt(h:∀x∈xs,eqN n x x=some true):eqN (n+1) (.lst xs) (.lst xs)=some true:=by
 rw[eqN,pW rfl,En h]
noncomputable def GS.side:GS->Str
 |.fin=>Str.ofString "end"
 |.st s _=>s
noncomputable def Ao(g:List GS)(q:Nat):GS:=g.getD q .fin
def wdAt(g:List GS)(q p:Nat):Str×Sh×Int:=(Ao g q).ws.getD p (Str.ofString "",.nothing,0)
def Ct(g:List GS)(q p:Nat):Nat:=(wdAt g q p).2.2.toNat
def Fb(g:List GS)(q p:Nat)(v:D):D:=.tup [.str (Ao g q).side,.str (wdAt g q p).1,v]
abbrev Mv:=Nat×D
def Ah(g:List GS):Nat->List Mv->Nat
 |q,[]=>q
 |q,(p,_)::r=>Ah g (Ct g q p) r
def AK(g:List GS):Nat->List Mv->List D
 |_,[]=>[]
 |q,(p,v)::r=>Fb g q p v::AK g (Ct g q p) r
def BY(g:List GS):Nat->List Mv->List D
 |_,[]=>[]
 |q,(p,_)::r=>.tup [.int q,.int p]::BY g (Ct g q p) r
structure MvOk(g:List GS)(q:Nat)(p:Nat)(v:D):Prop where
 lt:q<g.length
 pl:p<(Ao g q).ws.length
 fit:Ak (wdAt g q p).2.1 v=true
def okQ(g:List GS):Nat->List Mv->Prop
 |_,[]=>True
 |q,(p,v)::r=>MvOk g q p v/\okQ g (Ct g q p) r
theorem CW(g:List GS):∀(q:Nat) (a b:List Mv),Ah g q (a++b)=Ah g (Ah g q a) b
 |q,[],b=>rfl
 |q,(p,v)::r,b=>by rw[ui2,Ah,Ah,CW g _ r b]
theorem N3(g:List GS):∀(q:Nat) (a b:List Mv),AK g q (a++b)=AK g q a++AK g (Ah g q a) b
 |q,[],b=>rfl
 |q,(p,v)::r,b=>by rw[ui2,AK,AK,Ah,N3 g _ r b];rfl
theorem Jo(g:List GS):∀(q:Nat) (a b:List Mv),BY g q (a++b)=BY g q a++BY g (Ah g q a) b
 |q,[],b=>rfl
 |q,(p,v)::r,b=>by rw[ui2,BY,BY,Ah,Jo g _ r b];rfl
theorem GR(g:List GS):∀(q:Nat) (a b:List Mv),okQ g q (a++b)↔okQ g q a/\okQ g (Ah g q a) b
 |q,[],b=>by simp[okQ,Ah]
 |q,(p,v)::r,b=>by rw[ui2,okQ,okQ,Ah,GR g _ r b,and_assoc]
theorem Gf(g:List GS):∀(q:Nat) (a:List Mv),(AK g q a).length=a.length
 |q,[]=>rfl
 |q,(p,v)::r=>by rw[AK,ug9,Gf g _ r,ug9]
theorem FJ(g:List GS):∀(q:Nat) (a:List Mv),(BY g q a).length=a.length
 |q,[]=>rfl
 |q,(p,v)::r=>by rw[BY,ug9,FJ g _ r,ug9]
theorem J5(g:List GS):∀(q:Nat) (a:List Mv) (i:Nat) (p:Nat) (v:D),a[i]?=some (p,v)->(AK g q a)[i]?=some (Fb g (Ah g q (a.take i)) p v)
 |q,[],i,p,v,h=>by simp at h
 |q,(p',v')::r,0,p,v,h=>by
   simp at h;clear 5 h rfl rfl;rfl
 |q,(p',v')::r,i+1,p,v,h=>by
   rw[AK,nu,J5 g _ r i p v (by simpa using h),ue3,Ah]
variable{g:List GS}{q:Nat}
theorem RC{a:List Mv}(h:okQ g q a){i p:Nat}{v:D}(e:a[i]?=some (p,v)):MvOk g (Ah g q (a.take i)) p v:=by
 clear 5(ua7.mp e)hi e';have hd:a.drop i=(p,v)::a.drop (i+1):=by rw[List.drop_eq_getElem_cons hi,e']
 rw[<-List.take_append_drop i a,GR,hd,okQ] at h;exact h.2.1
theorem By(h:GOk g){q:Nat}(hq:q<g.length):GSOk g.length (Ao g q):=by
 unfold Ao;rw[ua5,ub1 hq];exact h.all _ (ui1 hq)
theorem Bv(hq:q<g.length):atI (g.map GS.d) q=some (Ao g q).d:=by
 unfold atI;rw[Co ∅ (by rw[ui7];lia)];show(g.map GS.d)[(q:Int).toNat]?=_;unfold Ao;rw[uf8,uf7,ua5,ub1 hq];rfl
variable{p:Nat}
theorem F8(hp:p<(Ao g q).ws.length):∃side ws,Ao g q=.st side ws/\p<ws.length/\ws[p]?=some (wdAt g q p):=by
 unfold wdAt
 cases e:Ao g q with
 |fin=>rw[e] at hp;simp[GS.ws] at hp
 |st side ws=>
   rw[e] at hp;have hp:p<ws.length:=hp;refine⟨side,ws,rfl,hp,?_⟩;show ws[p]?=some (ws.getD p _);rw[ua5,ub1 hp];rfl
theorem IG{ws:List (Str×Sh×Int)}{w:Str×Sh×Int}(e:ws[p]?=some w):atI (ws.map wdD) p=some (wdD w):=by
 obtain⟨hp,_⟩:=ua7.mp e;unfold atI;rw[Co ∅ (by rw[ui7];lia)];show(ws.map wdD)[(p:Int).toNat]?=_;rw[uf8,uf7,e];rfl
theorem FK(h:GOk g){q p:Nat}(hq:q<g.length)(hp:p<(Ao g q).ws.length):WOk g.length (wdAt g q p):=by
 clear 5(F8 hp)side ws e hp' e2;have:=By h hq;rw[e] at this
 cases this with
 |st _ _ _ _ h5=>exact h5 _ (ud4 e2)
theorem Rz(h:GOk g){q p:Nat}(hq:q<g.length)(hp:p<(Ao g q).ws.length):Ct g q p<g.length:=by
 have:=FK h hq hp;unfold Ct;have h1:=this.lo;have h2:=this.hi;lia
theorem KF{g:List GS}(h:GOk g):∀{a:List Mv}{q:Nat},q<g.length->okQ g q a->Ah g q a<g.length
 |[],q,hq,_=>hq
 |(p,v)::r,q,hq,hk=>by
   rw[okQ] at hk;rw[Ah];exact KF h (Rz h hq hk.1.pl) hk.2
theorem Mg{ws:List (Str×Sh×Int)}(nd:(ws.map (·.1)).Nodup){p:Nat}{w:Str×Sh×Int}(e:ws[p]?=some w):(ws.findIdx? λx=>x.1==w.1)=some p:=by
 clear 5(ua7.mp e)hp ep;refine JV (λi hi hip=>?_) e (by simp);rw[<-ep];have hne:¬ws[i].1=ws[p].1:=λz=>by
  have h1:i<(ws.map (·.1)).length:=by rw[ui7];exact hi
  have h2:p<(ws.map (·.1)).length:=by rw[ui7];exact hp
  have:(ws.map (·.1))[i]=(ws.map (·.1))[p]:=by rw[List.getElem_map,List.getElem_map];exact z
  have:=(List.getElem_inj nd).mp this;lia
 simpa using hne
theorem RD:∀{xs:List D},(∀d∈xs,okD d=true)->oks xs=true
 |[],_=>by rw[oks]
 |d::r,h=>by rw[oks,h d ue6,RD λx m=>h x (ud1 _ m)];rfl
set_option tactic.hygienic true in
theorem He:∀(n:Nat) (s:Sh),s.depth<=n->wf s=true->∀v,Ak s v=true->okD v=true
 |0,s,h,_,_,_=>absurd s.depth_pos ∅
 |n+1,s,hd,hw,v,h=>by
   cases s with
   |nothing=>cases v<;>first|rfl|(simp[Ak,HJ] at h;done)
   |number lo hi=>cases v<;>first|rfl|(simp[Ak] at h;done)
   |text q=>
     simp only[wf,uh3,ug6] at hw
     cases v<;>simp only[Ak,uf0] at h
     simp only[uh3,ug6] at h;rw[okD,ug6];lia
   |list s q=>
     rw[Sh.depth] at hd;simp only[wf,uh3,ug6] at hw
     cases v<;>simp only[Ak,uf0] at h
     simp only[uh3,ug6,uh7] at h;rw[okD];exact RD λd m=>He n s ∅ hw.2 d (h.2 d m)
   |pair a b=>
     rw[Sh.depth] at hd;simp only[wf,uh3] at hw;unfold Ak at h
     split at h
     .rw[uh3] at h;rw[okD,oks,oks,oks,He n a ∅ hw.1 _ h.1,He n b ∅ hw.2 _ h.2];rfl
     .cases h
   |choice ss=>
     rw[Sh.depth] at hd;simp only[wf,uh3,ug6] at hw;unfold Ak at h
     split at h
     .next o k x=>
      simp only[uh3,ug6] at h;have hk:k.toNat<ss.length:=by lia
      have e1:ss[k.toNat]?=some ss[k.toNat]:=ub1 hk;have h2:=h.2;rw[CV ss _ _ _ e1] at h2;have ho:o=("of":Str):=eq_of_beq h.1.1;have hx:=He n _ (um6 (CY ss _ _ e1) ∅) (EL hw.2 _ (ui1 hk)) x h2;subst ho;have hl:okD (.str ("of":Str))=true:=by decide +kernel
      rw[okD,oks,oks,oks,oks,hl,hx];rfl
     .cases h
def IK(f:Fn):Prop:=∀(g:List GS) (q p:Nat) (v:D),GOk g->MvOk g q p v->Pure1 f [(Ao g q).d,Fb g q p v] (.int p)
theorem On{cf:Fn}(hf:Il cf 3)(hp:IJ cp):IK (fnOf 2 3 (Hq cf cp)):=by
 intro g q p v hg hm S;refine Ai rfl ?_;unfold Hq;clear 5(F8 hm.pl)side ws e hpl ew;have hgs:=By hg hm.lt;have hw:=FK hg hm.lt hm.pl;have hfit:=hm.fit;unfold Fb;rw[e] at hgs⊢;generalize wdAt g q p=w at ew hw hfit⊢;have hov:okD v=true:=He 3 w.2.1 hw.dep hw.ok v hfit;show W _ ⟨[vw (.tup [.str side,.lst (ws.map wdD)]),vw (.tup [.str side,.str w.1,v]),none],S⟩ _;right;rw[7,EO (by simp)];have hpn:=hp g.length (.st side ws) w.1 hgs;have hidx:((GS.st side ws).ws.findIdx? λx=>x.1==w.1)=some p:=by
  cases hgs with
  |st _ _ _ h4 _=>exact Mg h4 ew
 rw[hidx] at hpn;refine hpn.use ?_;show EB _ _ .next ⟨[vw (.tup [.str side,.lst (ws.map wdD)]),vw (.tup [.str side,.str w.1,v]),vw (.int p)],S⟩;right;refine A4 (IG ew) ?_;unfold wdD;right;refine(hf w.2.1 hw.dep v hov).use ?_;rw[hfit];right;exact⟨rfl,rfl⟩
def Io(f:Fn):Prop:=∀(g:List GS) (q p:Nat),GOk g->q<g.length->p<(Ao g q).ws.length->Pure1 f [.lst (g.map GS.d),.tup [.int q,.int p]] (.int (Ct g q p))
theorem Z8:Io (fnOf 2 2 Hs):=by
 intro g q p hg hq hp S;refine Ai rfl ?_;unfold Hs;clear 5(F8 hp)side ws e hpl ew;have hw:=FK hg hq hp;have hlo:=hw.lo;right;refine A4 (Bv hq) ?_;rw[e,GS.d];right;refine A4 (IG ew) ?_;unfold wdD;right;refine⟨?_,rfl⟩;unfold Ct
 congr 1
 lia
def Ks(f:Fn):Prop:=∀(g:List GS) (mv:List Mv),GOk g->okQ g 0 mv->mv.length<=5000->Pure1 f [.lst (g.map GS.d),.lst (AK g 0 mv)] (.lst (BY g 0 mv))
variable{a0 a1 e5 e6:Option Sl}{y:D}{X Y:List D}
theorem t7{e4:Option Sl}{x:D}(h:x=y)(h2:X=Y):(⟨[a0,a1,vw x,some (.own X),e4,e5,e6],S⟩:T)=⟨[a0,a1,vw y,some (.own Y),e4,e5,e6],S⟩:=by subst h h2;rfl
theorem Yc(hn:Io cn)(hp:IK cp):Ks (fnOf 2 7 (Je cn cp)):=by
 intro g mv hg hk hl S;have hL:LIM=100000:=rfl;refine Ai rfl ?_;unfold Je;right;rw[Gf];refine ET (Bq ∅ ∅) ?_;refine BG (λr t=>XN4 λ(j:Nat) (e4 e5 e6:Option Sl)=>AN3 (j<=mv.length) (r=(Bf 0 ((mv.length:Nat):Int).toNat).drop j) (t=⟨[vw (.lst (g.map GS.d)),vw (.lst (AK g 0 mv)),vw (.int (Ah g 0 (mv.take j))),some (.own (BY g 0 (mv.take j))),e4,e5,e6],S⟩)) _ _ ⟨0,none,none,none,by lia,rfl,rfl⟩ ?_ ?_
 .rintro d' r t ⟨j,e4,e5,e6,hjl,hr,rfl⟩ _;clear 5(De hr)rfl hr' hjn;rw[uf8] at hjn;rw[Int.zero_add]
  cases em:mv[j]? with
  |none=>rw[List.getElem?_eq_none_iff] at em;lia
  |some x=>
  clear 5 x p v;have hm:=RC hk em;have hmsg:=J5 g 0 mv j p v em;have hmi:atI (AK g 0 mv) j=some (Fb g (Ah g 0 (mv.take j)) p v):=by
   unfold atI;rw[Co ∅ (by rw[Gf];lia)];show(AK g 0 mv)[(j:Int).toNat]?=_;rw[uf8,hmsg]
  have htk:mv.take (j+1)=mv.take j++[(p,v)]:=by
   rw[pv,em];rfl
  right;rw[7,A4 (Bv hm.lt)];rw[7,A4 hmi];rw[7,(hp g _ p v hg hm).use];refine Bi (by rw[FJ,uh1,hL];lia) ?_;right;refine(hn g _ p hg hm.lt hm.pl).use ?_;refine⟨j+1,_,_,_,hjn,hr',t7 ?_ ?_⟩
  .rw[htk,CW];rfl
  .rw[htk,Jo];rfl
 .rintro t ⟨j,e4,e5,e6,hjl,hr,rfl⟩;have hj':j=mv.length:=by
   have:=pQ List.length hr;rw[uj5,uh2,Dy,uf8] at this;lia
  subst hj';rw[ui3];right;exact⟨rfl,rfl⟩
def K9(f:Fn):Prop:=∀(g:List GS) (mv:List Mv),GOk g->okQ g 0 mv->mv.length<=5000->Pure1 f [.lst (g.map GS.d),.lst (AK g 0 mv)] (.int (Ah g 0 mv))
theorem T4{cs:Fn}(hn:Io cn)(hs:Ks cs):K9 (fnOf 2 3 (FZ cn cs)):=by
 intro g mv hg hk hl S;refine Ai rfl ?_;unfold FZ;right;rw[7,(hs g mv hg hk hl).use];rw[FJ];refine EN (λq=>?_) λq=>?_
 .have:mv=[]:=by
   have:(mv.length:Int)=0:=by simpa using q
   exact List.length_eq_zero_iff.mp ∅
  subst this;right;exact⟨rfl,rfl⟩
 .have hne:mv≠[]:=by intro z;subst z;simp at q
  obtain⟨mv',x,rfl⟩:∃l x,mv=l++[x]:=⟨mv.dropLast,mv.getLast hne,(List.dropLast_concat_getLast hne).symm⟩;clear 5 x p v;rw[GR] at hk;have hm:=hk.2.1;have hst:BY g 0 (mv'++[(p,v)])=BY g 0 mv'++[.tup [.int (Ah g 0 mv'),.int p]]:=by rw[Jo];rfl
  rw[hst];have hlast:atI (BY g 0 mv'++[D.tup [.int (Ah g 0 mv'),.int p]]) (-1)=some (.tup [.int (Ah g 0 mv'),.int p]):=by
   unfold atI ixN;simp only[ue9,ug9,uj5];rw[pX ∅,pW ∅];rw[show(-1+((BY g 0 mv').length+(0+1):Nat):Int).toNat=(BY g 0 mv').length by lia];simp
  right;rw[7,A4 hlast];refine(hn g _ p hg hm.lt hm.pl).use ?_;rw[CW];exact⟨rfl,rfl⟩
def Lf(f:Fn):Prop:=∀(g:List GS) (mv:List Mv),GOk g->okQ g 0 mv->mv.length<=5000->Pure1 f [.lst (g.map GS.d),.lst (AK g 0 mv)] (.bl (Ao g (Ah g 0 mv)).isFin)
theorem TN{cb:Fn}(hb:K9 cb)(he:DB ce):Lf (fnOf 2 2 (Jc cb ce)):=by
 intro g mv hg hk hl S;refine Ai rfl ?_;unfold Jc;right;refine(hb g mv hg hk hl).use ?_;have hlt:=KF hg hg.ne hk;rw[7,A4 (Bv hlt)];exact(he _ _ (By hg hlt)).use ⟨rfl,rfl⟩
abbrev kR:Key:=.inr (Str.ofString "rest")
abbrev kM:Key:=.inr (Str.ofString "mixed")
abbrev kC:Key:=.inr (Str.ofString "count")
abbrev gY(a b c:D):List (Key×D):=[(kR,a),(kM,b),(kC,c)]
def Room(k r:Nat)(S:List Ob):Prop:=∃(a c:Int) (b:Bool),S[k]?=some (.dct (gY (.int a) (.bl b) (.int c)))/\0<=c/\c+r<=1000000000000000000000000000000
theorem Bh{k:Nat}{o o':Ob}(h:S[k]?=some o):(S.set k o')[k]?=some o':=KB h
theorem Ca{x:Ob}:(S++[x])[S.length]?=some x:=by simp
noncomputable def cs:Nat->Nat
 |0=>10
 |d+1=>10+3*cs d
structure Drawn(k r:Nat)(dp:Nat)(v:D)(S':List Ob):Prop where
 ex:∃s:Sh,v=s.d/\s.depth<=dp/\wf s=true
 pool:Room k r S'
structure Val(k r:Nat)(s:Sh)(c:Nat)(v:D)(S':List Ob):Prop where
 fit:Ak s v=true
 len:(AH s v).length<=c
 pool:Room k r S'
def hd1(x:Str):Option Nat:=x.cps.toList.head?
def okB(g:List GS):Nat->List Mv->Prop
 |_,[]=>True
 |q,(p,v)::r=>(AH (wdAt g q p).2.1 v).length<=400/\okB g (Ct g q p) r
structure TOk(g:List GS)(mv:List Mv):Prop where
 ok:okQ g 0 mv
 bd:okB g 0 mv
 len:mv.length<=60
theorem TF{k:Nat}{h:List D->List D->Option (List D)}{g:M (List D)}(w:W f t λo t1=>o=.obj k/\∃xs0,t1.S[k]?=some (.lst xs0)/\W g t1 λds t2=>∃xs ys,t2.S[k]?=some (.lst xs)/\h xs ds=some ys/\P .non ⟨t2.env,t2.S.set k (.lst ys)⟩):W (objM h f g) t P:=by
 unfold objM;refine W_bnd.mpr (w.mono λo t1 z9=>?_);clear 5 z9 e xs0 e1 w;subst e;clear 5 w ds t2 e2 xs ys e3 e4 p;refine⟨_,_,?_,p⟩;simp only[e1,bnd,e2,e3,e4];rfl
def An(g:List GS)(sd:Str):Nat->List Mv->List D
 |_,[]=>[]
 |q,(p,v)::r=>(if (Ao g q).side=sd then .int p::AH (wdAt g q p).2.1 v else [])++An g sd (Ct g q p) r
theorem Dt(g:List GS)(sd:Str):∀(q:Nat) (a b:List Mv),An g sd q (a++b)=An g sd q a++An g sd (Ah g q a) b
 |q,[],b=>rfl
 |q,(p,v)::r,b=>by rw[ui2,An,An,Ah,Dt g sd _ r b,ug0]
theorem MF(g:List GS):∀(q:Nat) (a:List Mv) (i:Nat) (p:Nat) (v:D),a[i]?=some (p,v)->(BY g q a)[i]?=some (.tup [.int (Ah g q (a.take i)),.int p])
 |q,[],i,p,v,h=>by simp at h
 |q,(p',v')::r,0,p,v,h=>by
   simp at h;clear 5 h rfl rfl;rfl
 |q,(p',v')::r,i+1,p,v,h=>by
   rw[BY,nu,MF g _ r i p v (by simpa using h),ue3,Ah]
abbrev kL:Key:=.inr (Str.ofString "left")
abbrev kRt:Key:=.inr (Str.ofString "right")
theorem kLR:¬kL=kRt:=by intro h;injection h with h;rw[J7] at h;exact absurd h (by decide)
theorem kRL:¬kRt=kL:=λh=>kLR h.symm
theorem sLR:¬Str.ofString "left" = Str.ofString "right":=λh=>kLR (pQ Sum.inr h)
variable{b:D}
theorem KG{a:D}:AR [(kL,a),(kRt,b)] kL=some a:=by simp[AR,uj4]
theorem KH{a:D}:AR [(kL,a),(kRt,b)] kRt=some b:=by
 unfold AR;rw[uj4,show decide (kL=kRt)=false from uk3 kLR];simp[uj4]
theorem Hl{a:D}:kvMerge [(kL,a),(kRt,b)]=[(kL,a),(kRt,b)]:=by
 unfold kvMerge;simp only[uj2,List.foldl_nil];have e1:BJ [] kL a=[(kL,a)]:=by simp[BJ]
 rw[e1];unfold BJ;rw[pX (by simp only[ul5,List.any_nil,ul3,ug6];exact kLR)];rfl
theorem Z2{a d:D}:BJ [(kL,a),(kRt,b)] kL d=[(kL,d),(kRt,b)]:=by
 unfold BJ;rw[pW (by simp)];simp only[ul2,um9,pU,pX kRL]
theorem Z3{a d:D}:BJ [(kL,a),(kRt,b)] kRt d=[(kL,a),(kRt,d)]:=by
 unfold BJ;rw[pW (by simp)];simp only[ul2,um9,pU,pX kLR]
theorem ND(hg:GOk g){q p:Nat}{v:D}(h:MvOk g q p v):(Ao g q).side=Str.ofString "left"\/(Ao g q).side=Str.ofString "right":=by
 clear 5(F8 h.pl)side ws e hpl ew;have:=By hg h.lt;rw[e] at this⊢
 cases this with
 |st hs _ _ _ _=>exact hs
abbrev sL:Str:=Str.ofString "left"
abbrev sR:Str:=Str.ofString "right"
structure Wr(K A B:Nat)(S:List Ob)(xs ys:List D):Prop where
 k:S[K]?=some (.dct [(kL,.obj A),(kRt,.obj B)])
 a:S[A]?=some (.lst xs)
 b:S[B]?=some (.lst ys)
 ab:A≠B
 ka:K≠A
 kb:K≠B
theorem MC{o x:Ob}(h:i≠j)(e:S[j]?=some o):(S.set i x)[j]?=some o:=by rw[ud3 h];exact e
variable{B:Nat}
theorem Wr.setA{K A:Nat}{zs:List D}(h:Wr K A B S xs ys):Wr K A B (S.set A (.lst zs)) zs ys:=⟨MC (Ne.symm h.ka) h.k,KB h.a,MC h.ab h.b,h.ab,h.ka,h.kb⟩
theorem Wr.setB{K A:Nat}{zs:List D}(h:Wr K A B S xs ys):Wr K A B (S.set B (.lst zs)) xs zs:=⟨MC (Ne.symm h.kb) h.k,MC (Ne.symm h.ab) h.a,KB h.b,h.ab,h.ka,h.kb⟩
def FrO(F:List (Nat×Ob))(k:Nat)(S:List Ob):Prop:=∀p∈F,p.1≠k/\S[p.1]?=some p.2
def gg(F:List (Nat×Ob))(k r:Nat)(S:List Ob):Prop:=Room k r S/\FrO F k S
structure ValF(F:List (Nat×Ob))(k r:Nat)(s:Sh)(c:Nat)(v:D)(S':List Ob):Prop where
 fit:Ak s v=true
 len:(AH s v).length<=c
 pool:gg F k r S'
noncomputable def GS.sd:GS->Str
 |.fin=>Str.ofString "end"
 |.st s _=>s
inductive Odd(x:GS):D->Prop
 |non:Odd x .non
 |lst {ds:List D}:Odd x (.lst ds)
 |two {a b:D}:Odd x (.tup [a,b])
 |four {a b c d:D}:Odd x (.tup [a,b,c,d])
 |sideN {b c:D}:Odd x (.tup [.non,b,c])
 |side {s:Str}{b c:D}:¬s=x.sd->Odd x (.tup [.str s,b,c])
 |nmN {s:Str}{c:D}:Odd x (.tup [.str s,.non,c])
 |nmI {s:Str}{i:Int}{c:D}:Odd x (.tup [.str s,.int i,c])
 |nm {s nm:Str}{c:D}:(x.ws.findIdx? λw=>w.1==nm)=none->Odd x (.tup [.str s,.str nm,c])
 |val {s nm:Str}{c:D}{p:Nat}{w:Str×Sh×Int}:(x.ws.findIdx? λw=>w.1==nm)=some p->x.ws[p]?=some w->okD c=true->Ak w.2.1 c=false->Odd x (.tup [.str s,.str nm,c])
def Rq(n:Nat)(d:D):Prop:=∀m,n<=m->eqN m d d=some true
variable{m:Nat}
theorem Rq.mono{d:D}(h:Rq n d)(e:n<=m):Rq m d:=λk hk=>h k (um6 e hk)
theorem My{i:Int}:Rq n (.int i):=λm _=>by cases m<;>(show some (i==i)=some true;rw[ui4])
theorem VD{i:Str}:Rq n (.str i):=λm _=>by cases m<;>(show some (i==i)=some true;rw[ui4])
theorem Mz(h:∀x∈xs,Rq n x):Rq (n+1) (.tup xs):=λm hm=>by
 obtain⟨k,rfl⟩:∃k,m=k+1:=nq ∅;have e:C5 (eqN k) xs xs=some true:=En λx hx=>h x hx k ∅;rw[eqN,e];simp
theorem VC(h:∀x∈xs,Rq n x):Rq (n+1) (.lst xs):=λm hm=>by
 obtain⟨k,rfl⟩:∃k,m=k+1:=nq ∅;rw[eqN,pW rfl];exact En λx hx=>h x hx k ∅
theorem je{p:D->Prop}{a:D}(h:p a):∀x∈[a],p x:=λx hx=>by rw[uf1.mp hx];exact h
theorem jf{p:D->Prop}{a:D}(h:p a)(h2:p b):∀x∈[a,b],p x:=λx hx=>(ul1.mp hx).elim (λe=>by rw[e];exact h) (je h2 x)
theorem b9{p:D->Prop}{a c:D}(h:p a)(h2:p b)(h3:p c):∀x∈[a,b,c],p x:=λx hx=>(ul1.mp hx).elim (λe=>by rw[e];exact h) (jf h2 h3 x)
structure Mis(n:Nat)(s:Sh)(v:D):Prop where
 ok:okD v=true
 no:Ak s v=false
 rq:Rq n v
structure Fit(n:Nat)(s:Sh)(v:D):Prop where
 ok:okD v=true
 fit:Ak s v=true
 rq:Rq n v
theorem cW{s:Sh}(hn:s.depth<=n)(hw:wf s=true)(h:Ak s v=true):Fit n s v:=by
 clear 5(Iw s.depth s (un6 _) hw v h)h1 h2 h3;exact⟨YS h1,h,λm hm=>h3 m (um6 hn hm)⟩
def Gr(S S':List Ob):Prop:=S.length<=S'.length/\∀i,i<S.length->S'[i]?=S[i]?
theorem Gr.trans{S S1 S2:List Ob}(a:Gr S S1)(b:Gr S1 S2):Gr S S2:=⟨um6 a.1 b.1,λi h=>(b.2 i (ue5 h a.1)).trans (a.2 i h)⟩
theorem Gr.app{ex:List Ob}:Gr S (S++ex):=⟨by rw[ue9];lia,λi h=>ua8 h⟩
theorem Gr.set{S S':List Ob}{k:Nat}{o:Ob}(a:Gr S S')(h:S.length<=k):Gr S (S'.set k o):=⟨by rw[List.length_set];exact a.1,λi hi=>by rw[ud3 ∅];exact a.2 i hi⟩
theorem Gr.get{S S':List Ob}{k:Nat}{o:Ob}(a:Gr S S')(h:S[k]?=some o):S'[k]?=some o:=by rw[a.2 k (ua7.mp h).1];exact h
abbrev lr(a b:D):List (Key×D):=[(kL,a),(kRt,b)]
abbrev dW(l r:List Nat):List (Key×D):=lr (.lst (wD l)) (.lst (wD r))
abbrev dP(a b:Nat):List (Key×D):=lr (.int a) (.int b)
noncomputable def onS{α:Type}(s:Str)(a b:α):α:=if s=sL then a else b
variable{s:Str}
theorem Mr{a:D}(h:s=sL\/s=sR):AR (lr a b) (.inr s)=some (onS s a b):=by
 unfold onS;rcases h with rfl|rfl
 .rw[pW rfl];exact KG
 .rw[pX (Ne.symm sLR)];exact KH
theorem UY{a d:D}(h:s=sL\/s=sR):BJ (lr a b) (.inr s) d=lr (onS s d a) (onS s b d):=by
 unfold onS;rcases h with rfl|rfl
 .rw[pW rfl,pW rfl];exact Z2
 .rw[pX (Ne.symm sLR),pX (Ne.symm sLR)];exact Z3
set_option tactic.hygienic true
set_option genInjectivity false in inductive Sr where
 |stop
 |brk (k:Nat) (s:Str)
 |next (m:D) (h a b:Nat)
def msgR(side:Str)(ws:List (Str×Sh×Int))(w:List Nat)(p:Nat):RR×Nat:=match w[p]? with
 |none=>(.short,0)
 |some c=>match ws[c]? with
   |none=>(.broken p,0)
   |some wd=>((pSh 3 wd.2.1).run w (p+1),c)
def Jh(side:Str)(ws:List (Str×Sh×Int))(w:List Nat)(p:Nat):D:=match msgR side ws w p with
 |(.short,_)=>.non
 |(.broken k,_)=>.exc "Broken" [.int k,.str side]
 |(.told v e,c)=>.tup [.tup [.str side,.str (ws.getD c (Str.ofString "",.nothing,0)).1,v],.int (ws.getD c (Str.ofString "",.nothing,0)).2.2,.int e]
def CT(g:List GS)(wl wr:List Nat)(h a b:Nat):Sr:=match Ao g h with
 |.fin=>.stop
 |.st side ws=>match msgR side ws (onS side wl wr) (onS side a b) with
   |(.short,_)=>.stop
   |(.broken k,_)=>.brk k side
   |(.told v e,c)=>.next (.tup [.str side,.str (ws.getD c (Str.ofString "",.nothing,0)).1,v]) (ws.getD c (Str.ofString "",.nothing,0)).2.2.toNat (onS side e a) (onS side b e)
abbrev Rs:=List D×Nat×Nat×Nat×Option (Nat×Str)
def CI(g:List GS)(wl wr:List Nat):Nat->Nat->Nat->Nat->List D->Rs
 |0,h,a,b,t=>(t,h,a,b,none)
 |f+1,h,a,b,t=>match CT g wl wr h a b with
   |.stop=>(t,h,a,b,none)
   |.brk k s=>(t,h,a,b,some (k,s))
   |.next m h' a' b'=>CI g wl wr f h' a' b' (t++[m])
structure Pl(g:List GS)(wl wr:List Nat)(h a b:Nat):Prop where
 h:h<g.length
 a:a<=wl.length
 b:b<=wr.length
variable{wl wr:List Nat}
set_option tactic.hygienic false
theorem dQ{b:Nat}(ha:a<=wl.length)(hb:b<=wr.length):onS s a b<=(onS s wl wr).length:=by unfold onS;split<;>assumption
variable{h:Nat}
set_option tactic.hygienic true in
theorem Oa{b:Nat}(hg:GOk g)(p:Pl g wl wr h a b){m:D}{h' a' b':Nat}(e:CT g wl wr h a b=.next m h' a' b'):Pl g wl wr h' a' b'/\a+b<a'+b':=by
 have hgs:=By hg p.h;unfold CT at e
 cases eg:Ao g h with
 |fin=>rw[eg] at e;cases e
 |st side ws=>
   rw[eg] at e hgs
   cases hgs with
   |@st _ _ hs1 hs2 hs3 hs4 hs5=>
   dsimp only at e;unfold msgR at e
   cases hb:(onS side wl wr)[onS side a b]? with
   |none=>rw[hb] at e;cases e
   |some c=>
     rw[hb] at e;dsimp only at e
     cases hw:ws[c]? with
     |none=>rw[hw] at e;cases e
     |some wd=>
       rw[hw] at e;dsimp only at e;obtain⟨hpl,_⟩:=ua7.mp hb;have hwo:=hs5 wd (ud4 hw);have hlo:=hwo.lo;have hhi:=hwo.hi;have hgd:ws.getD c (Str.ofString "",.nothing,0)=wd:=by rw[ua5,hw];rfl
       cases er:(pSh 3 wd.2.1).run (onS side wl wr) (onS side a b+1) with
       |short=>rw[er] at e;cases e
       |broken k=>rw[er] at e;cases e
       |told v x=>
         rw[er] at e;dsimp only at e;rw[hgd] at e;injection e with e1 e2 e3 e4
         clear 5(NH _ _ hpl er)l1 l2;have pa:=p.a;have pb:=p.b;subst e2;unfold onS at e3 e4 l1 l2
         by_cases q:side=sL
         .rw[pW q] at e3 e4 l1 l2;exact⟨⟨by lia,by lia,by lia⟩,by lia⟩
         .rw[pX q] at e3 e4 l1 l2;exact⟨⟨by lia,by lia,by lia⟩,by lia⟩
theorem TB{x:Str}{neg:Bool}(e:t.S[n]?=some (.dct kvs))(h:P (.bl (if neg then !(AR kvs (.inr x)).isSome else(AR kvs (.inr x)).isSome)) t):W (inS neg (.str x) (.obj n)) t P:=
 ⟨_,_,by simp only[inS,e],h⟩
theorem V6(e:t.S[n]?=some (.dct kvs))(h:P (.obj t.S.length) ⟨t.env,t.S++[.dct kvs]⟩):W (Kv [.obj n]) t P:=
 ⟨_,_,by simp only[Kv,e],h⟩
theorem WF{a:D}:AR (lr a b) (.inr (Str.ofString "end"))=none:=by
 have h1:decide (kL=(Sum.inr (Str.ofString "end"):Key))=false:=by decide +kernel
 have h2:decide (kRt=(Sum.inr (Str.ofString "end"):Key))=false:=by decide +kernel
 unfold AR;rw[uj4,show decide ((kL,a).1=(Sum.inr (Str.ofString "end"):Key))=false from h1];dsimp only;rw[uj4,show decide ((kRt,b).1=(Sum.inr (Str.ofString "end"):Key))=false from h2];rfl
variable{a2:Option Sl}
theorem t9{a3 a6 e7 e8:Option Sl}{x:D}(h1:X=Y)(h2:x=y):(⟨[a0,a1,a2,a3,some (.own X),vw x,a6,e7,e8],S⟩:T)=⟨[a0,a1,a2,a3,some (.own Y),vw y,a6,e7,e8],S⟩:=by subst h1 h2;rfl
def Wir(S:List Ob)(d:D)(w:List Nat):Prop:=d=.lst (wD w)\/∃k,d=.obj k/\S[k]?=some (.lst (wD w))
def PureS(S:List Ob)(f:Fn)(ds:List D)(r:D):Prop:=Wf f ds S λr' S'=>r'=r/\S'=S
theorem PureS.use{f:Fn}{r:D}(h:PureS S f ds r){P:D->List Ob->Prop}(p:P r S):Wf f ds S P:=h.mono λ_ _ ⟨e1,e2⟩=>by subst e1 e2;exact p
theorem OB{d:D}(h:Wir t.S d w)(p:P (.int (w.length:Nat)) t):W (A0 [d]) t P:=by
 rcases h with rfl|⟨k,rfl,e⟩
 .refine TD ?_;rw[A3];exact p
 .refine Ju e ?_;rw[A3];exact p
theorem Yo{d:D}{b:Nat}(h:Wir t.S d w)(e:w[a]?=some b)(p:P (.int (b:Int)) t):W (ixD d (.int (a:Int))) t P:=by
 rcases h with rfl|⟨k,rfl,e'⟩
 .exact A4 (Ku (V5 e)) p
 .exact W_ix_obj.mpr ⟨_,e',_,Ku (V5 e),p⟩
def BXw(f:Fn):Prop:=∀(S:List Ob) (wv:D) (w:List Nat) (a:Nat),Wir S wv w->PureS S f [wv,.int (a:Int)] (byX w[a]?)
theorem cB:BXw (fnOf 2 2 Hm):=by
 intro S wv w a hv;refine Ai rfl ?_;unfold Hm;have hl:=A3 w
 cases h:w[a]? with
 |none=>
   have:=List.getElem?_eq_none_iff.mp h;symm;rw[6,OB hv];rw[6,HZ (uk9 ∅)];exact⟨rfl,rfl⟩
 |some b=>
   obtain⟨hj,_⟩:=ua7.mp h;symm;rw[6,OB hv];rw[6,EO (uk3 ∅)];refine Yo hv h ?_;exact⟨rfl,rfl,rfl⟩
variable{S':List Ob}
theorem Wir.gr{d:D}(h:Wir S d w)(g:Gr S S'):Wir S' d w:=h.imp id λ⟨k,e1,e2⟩=>⟨k,e1,g.get e2⟩
local macro_rules | `(tactic| walk_at"y1")=>`(tactic| walk_at"x1")
def nbD(r:D):Prop:=∀a,r≠exB a
theorem FG:nbD exS:=λa h=>by injection h with h1;revert h1;decide
theorem PV{i:Int}:nbD (.int i):=λa h=>by cases h
theorem dI{x:Str}:nbD (.str x):=λa h=>by cases h
theorem J6:nbD (.tup xs):=λa h=>by cases h
def PureB(S:List Ob)(f:Fn)(ds:List D)(r:D):Prop:=nbD r->PureS S f ds r
theorem PureB.use{f:Fn}{ds:List D}{r:D}{S:List Ob}(h:PureB S f ds r)(n:nbD r){P:D->List Ob->Prop}(p:P r S):Wf f ds S P:=PureS.use (h n) p
def UXn(f:Fn):Prop:=∀(S:List Ob) (wv:D) (m:Int) (w:List Nat) (a:Nat),Wir S wv w->PureB S f [.int m,wv,.int (a:Int)] (upX m a w[a]?)
theorem fM(hc:BXw c):UXn (fnOf 3 4 (FC c)):=by
 intro S wv m w a hv hnb;refine Ai rfl ?_;unfold FC;have hb:=hc S wv w a hv
 cases h:w[a]? with
 |none=>
   rw[h,byX] at hb;symm;rw[6,hb.use];exact⟨rfl,rfl⟩
 |some b=>
   rw[h,byX] at hb;symm;rw[6,hb.use];rw[h,upX] at hnb;rw[upX]
   by_cases q:(b:Int)<=m
   .rw[pW q];rw[6,EO (uk3 ∅)];exact⟨rfl,rfl,rfl⟩
   .rw[pX q] at hnb;exact(hnb _ rfl).elim
def SXn(f:Fn):Prop:=∀(S:List Ob) (wv:D) (w:List Nat) (a:Nat),Wir S wv w->PureB S f [wv,.int (a:Int)] (sgX a w[a]?)
theorem fz{cs cb:Fn}(hs:LP cs)(hb:BXw cb):SXn (fnOf 2 3 (Hr cs cb)):=by
 intro S wv w a hv hnb;refine Ai rfl ?_;unfold Hr;have hb:=hb S wv w a hv
 cases h:w[a]? with
 |none=>
   rw[h,byX] at hb;symm;rw[6,hb.use];exact⟨rfl,rfl⟩
 |some c=>
   rw[h,byX] at hb;symm;rw[h,sgX] at hnb;rw[6,hb.use];refine(hs c).use ?_;rw[sgX]
   by_cases q:Cj c=true
   .rw[pW q,q];symm;refine W_ix_str.mpr ⟨by decide +kernel,c,fq q,?_⟩;exact⟨rfl,rfl,rfl⟩
   .have q':Cj c=false:=by simpa using q
    rw[pX q] at hnb;exact(hnb _ rfl).elim
theorem fc{cb:Fn}(hl:JD cl)(hb:BXw cb)(hw:LS cw){lo hi:Int}(hwf:wf (.number lo hi)=true)(w:List Nat)(a:Nat){S:List Ob}{wv:D}(hv:Wir S wv w):PureB S (fnOf 3 7 (D0 cl cb cw)) [(Sh.number lo hi).d,wv,.int (a:Int)] (rrD ((Jk lo (hi-lo).toNat (wid (hi-lo).toNat) 0).run w a)):=by
 intro hnb;have hsp:=R7 hwf;have hwd:=MM 9 _ hsp;refine Ai rfl ?_;unfold D0;rw[Sh.d];have em:hi-lo=(((hi-lo).toNat:Nat):Int):=by
  simp only[wf,uh3,ug6] at hwf;lia
 have hww:=λS P p=>(hw (hi-lo).toNat hsp).use (S:=S) (P:=P) p;rw[<-em] at hww;generalize (hi-lo).toNat=M at *;generalize hW:wid M=n at *;symm;refine hww _ _ ?_;rw[em];symm;refine ET (Bq ∅ ∅) ?_;refine BG (λr t=>XN3 λ(j x:Nat) (e6:Option Sl)=>AN4 (j<=n) (r=(Bf 0 ((n:Nat):Int).toNat).drop j) ((Jk lo M n 0).run w a=(Jk lo M (n-j) x).run w (a+j)) (t=⟨[vw (.tup [.str "number",.int lo,.int hi]),vw wv,vw (.int a),vw (.int M),vw (.int n),vw (.int x),e6],S⟩)) _ _ ⟨0,0,none,un7 _,rfl,rfl,rfl⟩ ?_ ?_
 .rintro d r t ⟨j,x,e6,hj,hr,hrun,rfl⟩ _;clear 5(Nv hr)rfl hr' hjn;rw[uf8] at hjn;rw[Int.zero_add];obtain⟨e,he⟩:∃e,n-j=e+1:=⟨n-j-1,by lia⟩;rw[he,Jk] at hrun;have hby:=hb S wv w (a+j) hv;symm;rw[6,ML (Rx (by decide) (by decide))];rw[show((a:Int)+(j:Int))=((a+j:Nat):Int) by lia]
  cases h:w[a+j]? with
  |none=>
    rw[h,byX] at hby;rw[Dz h] at hrun;rw[6,hby.use];exact⟨by rw[hrun];rfl,rfl⟩
  |some b=>
    rw[h,byX] at hby;rw[BV h] at hrun;rw[6,hby.use];refine⟨rfl,?_⟩;symm;rw[show((n:Int)-1-(j:Int))=((e:Nat):Int) by lia,show((x:Int)*256+(b:Int))=((x*256+b:Nat):Int) by lia];rw[6,(hl M e ∅).use]
    by_cases q:x*256+b<=M/2 ^ (8*e)
    .rw[pW (uk9 q)] at hrun;rw[6,EO (uk3 ∅)];exact⟨j+1,x*256+b,_,hjn,hr',by rw[show n-(j+1)=e by lia,hrun,um0],rfl⟩
    .rw[pX (by rw[ug6];exact q)] at hrun;rw[hrun] at hnb;exact(hnb _ rfl).elim
 .rintro t ⟨j,x,e6,hj,hr,hrun,rfl⟩;have hj':j=n:=by
   have:=pQ List.length hr;rw[uj5,uh2,Mx,uf8] at this;lia
  subst hj';rw[Nat.sub_self,Jk,Rd.run] at hrun;symm;exact⟨rfl,by rw[hrun];rfl,rfl⟩
variable{ca cu:Fn}
theorem aP(ha:SXn ca)(hu:UXn cu){q:Int}(hwf:wf (.text q)=true)(n:Nat)(w:List Nat)(a:Nat){S:List Ob}{wv:D}(hv:Wir S wv w):PureB S (fnOf 3 7 (EI ca cu)) [(Sh.text q).d,wv,.int (a:Int)] (rrD ((pSh (n+1) (.text q)).run w a)):=by
 intro hnb;have hL:LIM=100000:=rfl;refine Ai rfl ?_;unfold EI;rw[Sh.d,pSh];rw[pSh] at hnb;simp only[wf,uh3,ug6] at hwf;have hup:=hu S wv q w a hv;symm
 cases h:w[a]? with
 |none=>
   rw[h,upX] at hup;rw[Dz h];rw[6,hup.use FG];exact⟨rfl,rfl⟩
 |some b=>
   rw[h,upX] at hup;rw[BV h] at hnb⊢
   by_cases hb:(b:Int)<=q
   .rw[pW hb] at hup;rw[pW (uk9 hb)] at hnb⊢;rw[6,hup.use PV];refine ET (Bq ∅ ∅) ?_;refine BG (λr t=>XN3 λ(j:Nat) (y:Str) (e6:Option Sl)=>AN5 (j<=b) (r=(Bf 0 ((b:Nat):Int).toNat).drop j) (y.cps.toList.length=j) ((J9 b []).run w (a+1)=(J9 (b-j) y.cps.toList).run w (a+1+j)) (t=⟨[vw (.tup [.str "text",.int q]),vw wv,vw (.int a),vw (.int b),vw (.int ((a:Int)+1)),vw (.str y),e6],S⟩)) _ _ ⟨0,Str.ofString "",none,un7 _,rfl,by decide +kernel,by rw[Nat.sub_zero,Nat.add_zero,show(Str.ofString "").cps.toList=[] by decide +kernel],rfl⟩ ?_ ?_
    .rintro d r t ⟨j,y,e6,hj,hr,hyl,hrun,rfl⟩ _;clear 5(Nv hr)rfl hr' hjn;rw[uf8] at hjn;rw[Int.zero_add];obtain⟨e,he⟩:∃e,b-j=e+1:=⟨b-j-1,by lia⟩;rw[he,J9] at hrun;have hsg:=ha S wv w (a+1+j) hv;symm;rw[show((a:Int)+1+(j:Int))=((a+1+j:Nat):Int) by lia]
     cases h2:w[a+1+j]? with
     |none=>
       rw[h2,sgX] at hsg;rw[Dz h2] at hrun;rw[6,hsg.use FG];exact⟨by rw[hrun];rfl,rfl⟩
     |some c=>
       rw[h2,sgX] at hsg;rw[BV h2] at hrun
       by_cases hc:Cj c=true
       .rw[pW hc] at hsg hrun;rw[6,hsg.use dI];refine Bi (by rw[HL y,hyl,hL];show j+1<=_;lia) ?_;refine⟨rfl,?_⟩;symm;refine⟨j+1,_,_,hjn,hr',?_,?_,rfl⟩
        .rw[NN,ue9,hyl];rfl
        .rw[hrun,NN,show b-(j+1)=e by lia,um0 (a+1)]
       .rw[pX hc] at hsg hrun;rw[hrun] at hnb;exact(hnb _ rfl).elim
    .rintro t ⟨j,y,e6,hj,hr,hyl,hrun,rfl⟩;have hj':j=b:=by
      have:=pQ List.length hr;rw[uj5,uh2,Mx,uf8] at this;lia
     subst hj';rw[Nat.sub_self,J9,Rd.run] at hrun;have ey:(⟨y.cps.toList.toArray⟩:Str)=y:=bB (by simp);rw[ey] at hrun;symm;refine⟨rfl,?_,rfl⟩;rw[hrun,rrD,show((a:Int)+1+(j:Int))=((a+1+j:Nat):Int) by lia]
   .rw[pX (by rw[ug6];exact hb)] at hnb;exact(hnb _ rfl).elim
def RXn(c:Fn)(s:Sh)(p:Rd):Prop:=∀(S:List Ob) (wv:D) (w:List Nat) (a:Nat),Wir S wv w->a<=w.length->PureB S c [s.d,wv,.int (a:Int)] (rrD (p.run w a))
theorem aM{s:Sh}{p:Rd}{q:Int}(hu:UXn cu)(hq2:q<=250)(hc:RXn c s p)(w:List Nat)(a:Nat){S:List Ob}{wv:D}(hv:Wir S wv w):PureB S (fnOf 3 8 (EG c cu)) [(Sh.list s q).d,wv,.int (a:Int)] (rrD ((Rd.need (λb=>decide ((b:Int)<=q)) λb=>Jj p b []).run w a)):=by
 intro hnb;have hL:LIM=100000:=rfl;refine Ai rfl ?_;unfold EG;rw[Sh.d];have hup:=hu S wv q w a hv;symm
 cases h:w[a]? with
 |none=>
   rw[h,upX] at hup;rw[Dz h];rw[6,hup.use FG];exact⟨rfl,rfl⟩
 |some b=>
   have hal:=(ua7.mp h).1;rw[h,upX] at hup;rw[BV h] at hnb⊢
   by_cases hb:(b:Int)<=q
   .rw[pW hb] at hup;rw[pW (uk9 hb)] at hnb⊢;rw[6,hup.use PV];refine ET (Bq ∅ ∅) ?_;refine BG (λr t=>XN5 λ(j a':Nat) (ds:List D) (e6 e7:Option Sl)=>AN6 (j<=b) (r=(Bf 0 ((b:Nat):Int).toNat).drop j) (ds.length=j) (a'<=w.length) ((Jj p b []).run w (a+1)=(Jj p (b-j) ds).run w a') (t=⟨[vw (.tup [.str "list",s.d,.int q]),vw wv,vw (.int a),vw (.int b),vw (.int (a':Int)),some (.own ds),e6,e7],S⟩)) _ _ ⟨0,a+1,[],none,none,un7 _,rfl,rfl,hal,rfl,rfl⟩ ?_ ?_
    .rintro d r t ⟨j,a',ds,e6,e7,hj,hr,hdl,ha',hrun,rfl⟩ _;clear 5(Nv hr)rfl hr' hjn;rw[uf8] at hjn;obtain⟨e,he⟩:∃e,b-j=e+1:=⟨b-j-1,by lia⟩;rw[he,Jj,EJ] at hrun;have hcc:=hc S wv w a' hv ha'
     cases h2:p.run w a' with
     |short=>
       rw[h2] at hrun hcc;symm;refine hcc.use FG ?_;rw[rrD];symm;exact⟨by rw[hrun];rfl,rfl⟩
     |broken k=>
       rw[h2] at hrun hcc;rw[hrun] at hnb;exact(hnb _ rfl).elim
     |told v a2=>
       have hle:=NH p a' ha' h2;rw[h2] at hrun hcc;symm;refine hcc.use J6 ?_;rw[rrD];symm;refine Bi (by rw[hdl,hL];lia) ?_;symm;exact⟨j+1,a2,ds++[v],_,_,hjn,hr',by rw[ue9,hdl];rfl,hle.2,by rw[hrun,show b-(j+1)=e by lia];rfl,rfl⟩
    .rintro t ⟨j,a',ds,e6,e7,hj,hr,hdl,ha',hrun,rfl⟩;have hj':j=b:=by
      have:=pQ List.length hr;rw[uj5,uh2,Mx,uf8] at this;lia
     subst hj';rw[Nat.sub_self,Jj,Rd.run] at hrun;symm;exact⟨rfl,by rw[hrun];rfl,rfl⟩
   .rw[pX (by rw[ug6];exact hb)] at hnb;exact(hnb _ rfl).elim
theorem aO{s r:Sh}{p p':Rd}(hs:RXn c s p)(hr:RXn c r p')(w:List Nat)(a:Nat){S:List Ob}{wv:D}(hv:Wir S wv w)(ha:a<=w.length):PureB S (fnOf 3 5 (EH c)) [(Sh.pair s r).d,wv,.int (a:Int)] (rrD ((p.bnd λv=>p'.bnd λu=>.done (.tup [v,u])).run w a)):=by
 intro hnb;refine Ai rfl ?_;unfold EH;rw[Sh.d,EJ];rw[EJ] at hnb;have h1:=hs S wv w a hv ha
 cases e1:p.run w a with
 |short=>
   rw[e1] at h1;symm;refine h1.use FG ?_;rw[rrD];symm;exact⟨rfl,rfl⟩
 |broken k=>
   rw[e1] at hnb;exact(hnb _ rfl).elim
 |told v a'=>
   have hle:=NH p a ha e1;rw[e1] at h1 hnb;have h2:=hr S wv w a' hv hle.2;rw[RR.thn,EJ] at hnb⊢;symm;refine h1.use J6 ?_;rw[rrD];symm
   cases e2:p'.run w a' with
   |short=>rw[e2] at h2;refine h2.use FG ?_;rw[rrD];symm;exact⟨rfl,rfl⟩
   |broken k=>rw[e2] at hnb;exact(hnb _ rfl).elim
   |told u a2=>rw[e2] at h2;refine h2.use J6 ?_;rw[rrD];symm;exact⟨rfl,rfl,rfl⟩
theorem VA{ss:List Sh}{p:Nat->Rd}(hu:UXn cu)(hc:∀(k:Nat) (h:k<ss.length),RXn c ss[k] (p k))(w:List Nat)(a:Nat){S:List Ob}{wv:D}(hv:Wir S wv w):PureB S (fnOf 3 5 (DZ c cu)) [(Sh.choice ss).d,wv,.int (a:Int)] (rrD ((Rd.need (λb=>decide (b<ss.length)) λb=>(p b).bnd λv=>.done (.tup [.str "of",.int b,v])).run w a)):=by
 intro hnb;refine Ai rfl ?_;unfold DZ;rw[Sh.d];have hup:=hu S wv ((ss.length:Int)-1) w a hv;symm;rw[EK]
 cases h:w[a]? with
 |none=>
   rw[h,upX] at hup;rw[Dz h];rw[6,hup.use FG];exact⟨rfl,rfl⟩
 |some b=>
   have hal:=(ua7.mp h).1;rw[h,upX] at hup;rw[BV h] at hnb⊢
   by_cases hb:b<ss.length
   .rw[pW (show(b:Int)<=(ss.length:Int)-1 by lia)] at hup;rw[pW (uk9 hb),EJ] at hnb⊢;refine hup.use PV ?_;have e0:ss[b]?=some ss[b]:=ub1 hb;have hsd:atI (shD ss) (b:Int)=some ss[b].d:=Ku (by rw[IC,e0];rfl);have h2:=hc b hb S wv w (a+1) hv hal;symm;rw[6,EE hsd];rw[show((a:Int)+1)=((a+1:Nat):Int) by lia]
    cases e2:(p b).run w (a+1) with
    |short=>rw[e2] at h2;refine h2.use FG ?_;rw[rrD];symm;exact⟨rfl,rfl⟩
    |broken k=>rw[e2] at hnb;exact(hnb _ rfl).elim
    |told u a2=>rw[e2] at h2;refine h2.use J6 ?_;rw[rrD];symm;exact⟨rfl,rfl,rfl⟩
   .rw[pX (by rw[ug6];exact hb)] at hnb;exact(hnb _ rfl).elim
def JG(f:Fn)(n:Nat):Prop:=∀s:Sh,s.depth<=n->wf s=true->RXn f s (pSh n s)
theorem VB(hn:∀lo hi,wf (.number lo hi)=true->RXn cn (.number lo hi) (pSh (n+1) (.number lo hi)))(ht:∀q,wf (.text q)=true->RXn ct (.text q) (pSh (n+1) (.text q)))
 (hl:∀s q,q<=250->s.depth<=n->wf s=true->RXn cl (.list s q) (pSh (n+1) (.list s q))) (hp:∀s r,s.depth<=n->r.depth<=n->wf s=true->wf r=true->RXn cp (.pair s r) (pSh (n+1) (.pair s r)))
 (hc:∀ss:List Sh,(∀(k:Nat) (h:k<ss.length),ss[k].depth<=n/\wf ss[k]=true)->RXn cc (.choice ss) (pSh (n+1) (.choice ss))):JG (fnOf 3 4 (Ek cc cp cl ct cn)) (n+1):=by
 intro s hs hwf S wv w a hv ha hnb;refine Ai rfl ?_;unfold Ek
 cases s with
 |nothing=>
   rw[Sh.d,pSh,Rd.run,rrD];symm;exact⟨rfl,rfl,rfl⟩
 |number lo hi=>
   have h:=hn lo hi hwf S wv w a hv ha;rw[Sh.d] at h⊢;symm;exact h.use hnb ⟨rfl,rfl⟩
 |text q=>
   have h:=ht q hwf S wv w a hv ha;rw[Sh.d] at h⊢;symm;exact h.use hnb ⟨rfl,rfl⟩
 |list s q=>
   simp only[wf,uh3,ug6] at hwf;rw[Sh.depth] at hs;have h:=hl s q hwf.1.2 ∅ hwf.2 S wv w a hv ha;rw[Sh.d] at h⊢;symm;exact h.use hnb ⟨rfl,rfl⟩
 |pair s r=>
   simp only[wf,uh3] at hwf;rw[Sh.depth] at hs;have h:=hp s r ∅ ∅ hwf.1 hwf.2 S wv w a hv ha;rw[Sh.d] at h⊢;symm;exact h.use hnb ⟨rfl,rfl⟩
 |choice ss=>
   simp only[wf,uh3,ug6] at hwf;rw[Sh.depth] at hs;have h:=hc ss (λk hk=>⟨um6 (CY ss _ _ (ub1 hk)) ∅,EL hwf.2 _ (ui1 hk)⟩) S wv w a hv ha;rw[Sh.d] at h⊢;symm;exact h.use hnb ⟨rfl,rfl⟩
theorem Tm{cl' cb:Fn}(e1:cc=fnOf 3 5 (DZ c cu))(e2:cp=fnOf 3 5 (EH c))(e3:cl=fnOf 3 8 (EG c cu))(e4:ct=fnOf 3 7 (EI ca cu))(e5:cn=fnOf 3 7 (D0 cl' cb cw))
 (hu:UXn cu) (ha:SXn ca) (hl':JD cl') (hb:BXw cb) (hw:LS cw) (hc:JG c n):JG (fnOf 3 4 (Ek cc cp cl ct cn)) (n+1):=by
 subst e1 e2 e3 e4 e5;refine VB (λlo hi h S wv w a hv _=>?_) (λq h S wv w a hv _=>aP ha hu h n w a hv) (λs q h2 hd h S wv w a hv _=>?_) (λs r d1 d2 w1 w2 S wv w a hv ha=>?_) λss h S wv w a hv _=>?_
 .rw[pSh];exact fc hl' hb hw h w a hv
 .rw[pSh];exact aM hu h2 (hc s hd h) w a hv
 .rw[pSh];exact aO (hc s d1 w1) (hc r d2 w2) w a hv ha
 .rw[pSh];refine VA hu (p:=λb=>pSh n (ss.getD b .nothing)) (λk hk=>?_) w a hv;show RXn c ss[k] (pSh n (ss.getD k .nothing));rw[ua5,ub1 hk,Option.getD_some];exact hc _ (h k hk).1 (h k hk).2
abbrev LH(xs:List D):Prop:=∀x∈xs,∃i:Int,x=.int i
theorem N5:∀{xs:List D},LH xs->F1 xs=true
 |[],_=>rfl
 |x::r,h=>by
   clear 5(h x ue6)i rfl;rw[F1,N5 λy m=>h y (ud1 _ m)];rfl
theorem Zv{L R:List D}(hl:LH L)(hr:LH R):eqN EQD (.tup [.lst L,.lst R]) (.tup [.lst L,.lst R])=some true:=by
 have key:∀{X:List D},LH X->eqN (38+1) (.lst X) (.lst X)=some true:=λ{X} h=>Zt λx hx=>by
  clear 5(h x hx)i rfl;exact Zs
 show eqN (39+1) _ _=_;exact Zu (by simp only[List.forall_mem_cons];exact⟨key hl,key hr,λ_ z=>nomatch z⟩)
theorem fR{g:Bool->Bool}{x d:D}(hx:FI t.S x=d)(hy:FI t.S y=d)(hp:BR d=true)(he:eqN EQD d d=some true)(h:P (.bl (g true)) t):W (eqT g x y) t P:=
 ⟨_,_,by unfold eqT;rw[hx,hy,hp,he];rfl,h⟩
theorem aL{A:Nat}(ha:S[A]?=some (.lst xs))(hb:S[B]?=some (.lst ys)):FI S (.tup [.obj A,.obj B])=.tup [.lst xs,.lst ys]:=by
 simp only[FI,ul2,um9,D7,ha,hb]
def isB(l:List D):Prop:=∀d∈l,∃x:Nat,d=.int (x:Int)/\x<256
theorem UL:∀{l:List D},isB l->∃w:List Nat,l=wD w/\∀x∈w,x<256
 |[],_=>⟨[],rfl,λx z=>nomatch z⟩
 |d::r,h=>by
   clear 5(h d ue6)x rfl hx;obtain⟨w,rfl,hw⟩:=UL λd m=>h d (ud1 _ m);refine⟨x::w,rfl,λy hy=>?_⟩;rcases ul1.mp hy with rfl|hy
   .exact hx
   .exact hw y hy
theorem Nk{a b:List D}(ha:isB a)(hb:isB b):isB (a++b):=λd h=>(ui5.mp h).elim (ha d) (hb d)
theorem Hi{x:Nat}{b:List D}(hx:x<256)(hb:isB b):isB (.int (x:Int)::b):=λd h=>by
 rcases ul1.mp h with rfl|h
 .exact⟨x,rfl,hx⟩
 .exact hb d h
theorem U9:∀(w n:Nat),isB (nb w n)
 |0,n=>λd h=>nomatch h
 |w+1,n=>Nk (U9 w _) (Hi (Nat.mod_lt _ (by decide)) λd h=>nomatch h)
set_option tactic.hygienic true in
theorem GW:∀(n:Nat) (s:Sh),s.depth<=n->wf s=true->∀v,Ak s v=true->isB (AH s v)
 |0,s,h,_,_,_=>absurd s.depth_pos ∅
 |n+1,s,hs,hw,v,hf=>by
   cases s with
   |nothing=>rw[AH];exact λd h=>nomatch h
   |number lo hi=>
     cases v<;>simp[Ak] at hf
     rw[AH];exact U9 _ _
   |text q=>
     simp only[wf,uh3,ug6] at hw
     cases v<;>simp only[Ak,uf0] at hf
     rename_i x;simp only[uh3,ug6,uh7] at hf;rw[AH];refine Hi ∅ λd h=>?_;clear 5(List.mem_map.mp h)c hc rfl;have:=hf.2 c hc;simp only[Cj,uh3,ug6] at this;exact⟨c,rfl,by lia⟩
   |list s q=>
     simp only[wf,uh3,ug6] at hw;rw[Sh.depth] at hs
     cases v<;>simp only[Ak,uf0] at hf
     rename_i ds;simp only[uh3,ug6,uh7] at hf;rw[AH];refine Hi ∅ λd h=>?_;clear 5(List.mem_flatten.mp h)l hl hd;clear 5(List.mem_map.mp hl)e he rfl;exact GW n s ∅ hw.2 e (hf.2 e he) d hd
   |pair s r=>
     simp only[wf,uh3] at hw;rw[Sh.depth] at hs;unfold Ak at hf
     split at hf
     .rw[uh3] at hf;rw[AH];exact Nk (GW n s ∅ hw.1 _ hf.1) (GW n r ∅ hw.2 _ hf.2)
     .cases hf
   |choice ss=>
     simp only[wf,uh3,ug6] at hw;rw[Sh.depth] at hs;unfold Ak at hf
     split at hf
     .next o k x=>
      simp only[uh3,ug6] at hf;clear 5(Int.eq_ofNat_of_zero_le hf.1.2.1)j rfl;have hj:j<ss.length:=by have:=hf.1.2.2;lia
      have e1:ss[j]?=some ss[j]:=ub1 hj;have h2:=hf.2;rw[uf8,CV ss _ _ _ e1] at h2;rw[AH,uf8,Gb ss _ _ _ e1];exact Hi ∅ (GW n _ (um6 (CY ss _ _ e1) ∅) (EL hw.2 _ (ui1 hj)) x h2)
     .cases hf
theorem DP{l:List α}{ι f:α->D}(h:∀a∈l,W elt ⟨vw (ι a)::fr,S⟩ λx t'=>x=f a/\t'=⟨vw (ι a)::fr,S⟩) :
 W (Cp (Ar 0) DL elt (l.map ι)) ⟨z::fr,S⟩ λxs t'=>xs=l.map f/\t'.S=S:=by
 induction l generalizing z with
 |nil=>exact W_compL_nil.mpr ⟨rfl,rfl⟩
 |cons a r ih=>
   rw[ul2,DC];refine LD (TL ?_);rw[pW rfl];refine(h a ue6).mono λx t' z9=>?_;clear 5 z9 e1 e2;subst e1 e2;refine(ih (z:=vw (ι a)) λb hb=>h b (ud1 _ hb)).mono λxs t' z9=>?_;clear 5 z9 e1 e2;subst e1;exact⟨rfl,e2⟩
theorem cF:BS (wD w) none (some (a:Int))=wD (w.take a):=by
 unfold BS;rw[HT.RZ,HT.Qp,uk8,Nat.sub_zero];unfold wD;rw[ul6];exact(List.take_eq_take_min ..).symm
theorem cG:BS (wD w) (some (a:Int)) none=wD (w.drop a):=by
 unfold BS;rw[HT.RZ,HT.Qp];unfold wD;rw[List.map_drop,ui7,uc0 (by rw[uh2,ui7];lia)]
 by_cases h:a<=w.length
 .rw[Nat.min_eq_left h]
 .rw[Nat.min_eq_right ∅,oa (by rw[ui7];lia),oa (by rw[ui7];lia)]
structure Mvs(g:List GS)(wl wr:List Nat)(mv:List Mv)(h a b:Nat)(t:List D):Prop where
 t:t=AK g 0 mv
 ok:okQ g 0 mv
 h:Ah g 0 mv=h
 a:An g sL 0 mv=wD (wl.take a)
 b:An g sR 0 mv=wD (wr.take b)
theorem bx{side:Str}(h:side=sL\/side=sR):(side=sL/\¬side=sR)\/(¬side=sL/\side=sR):=by
 rcases h with rfl|rfl
 .exact .inl ⟨rfl,sLR⟩
 .exact .inr ⟨Ne.symm sLR,rfl⟩
def Oq(f:Fn):Prop:=∀(g:List GS) (q p:Nat) (v:D),GOk g->MvOk g q p v->(AH (wdAt g q p).2.1 v).length<=50000->Pure1 f [(Ao g q).d,.int p,v] (.lst (.int p::AH (wdAt g q p).2.1 v))
theorem dG(hc:Kn c 3):Oq (fnOf 3 3 (FF c)):=by
 intro g q p v hg hm hb S;have hL:LIM=100000:=rfl;refine Ai rfl ?_;unfold FF;clear 5(F8 hm.pl)side ws e hpl ew;have hw:=FK hg hm.lt hm.pl;have hfit:=hm.fit;rw[e,GS.d];right;rw[7,HC];refine A4 (IG ew) ?_;unfold wdD;right;refine(hc _ hw.dep hw.ok v hfit ∅).use ?_;refine⟨_,rfl,?_⟩;right;refine Bi (by rw[hL];show 1+_<=_;lia) ?_;exact⟨rfl,rfl⟩
theorem HR(g:List GS)(sd:Str)(mv:List Mv)(j:Nat):(An g sd 0 (mv.take j)).length<=(An g sd 0 mv).length:=by
 have e:An g sd 0 mv=An g sd 0 (mv.take j++mv.drop j):=by rw[List.take_append_drop]
 rw[e,Dt,ue9];exact Nat.le_add_right _ _
theorem U8{g:List GS}(hg:GOk g):∀(q:Nat) (mv:List Mv),okQ g q mv->mv.length<=(An g sL q mv).length+(An g sR q mv).length
 |q,[],_=>un7 _
 |q,(p,v)::r,h=>by
   rw[okQ] at h;have ih:=U8 hg _ r h.2;rw[An,An,ue9,ue9,ug9];rcases ND hg h.1 with e|e
   .rw[pW e,ug9];lia
   .rw[pW (show(Ao g q).side=sR from e),ug9];lia
def At(w:List Nat)(a:Nat)(xs:List D):Prop:=∃p q,wD w=p++(xs++q)/\p.length=a
theorem At.left(h:At w a (xs++ys)):At w a xs:=by
 clear 5 h p q e l;exact⟨p,ys++q,by rw[e,ug0],l⟩
theorem At.right(h:At w a (xs++ys)):At w (a+xs.length) ys:=by
 clear 5 h p q e l;exact⟨p++xs,q,by rw[e,ug0,ug0],by rw[ue9,l]⟩
theorem At.head{c:Nat}(h:At w a (.int (c:Int)::xs)):w[a]?=some c/\At w (a+1) xs:=by
 refine⟨?_,At.right (xs:=[.int (c:Int)]) h⟩;clear 5 h p q e l;have e1:(wD w)[a]?=some (.int (c:Int)):=by rw[e,ua4 ∅,l,Nat.sub_self];rfl
 unfold wD at e1;rw[uf7] at e1
 cases e2:w[a]? with
 |none=>rw[e2] at e1;cases e1
 |some x=>
   rw[e2] at e1;injection e1 with e1
   injection e1 with e1
   rw[show x=c by lia]
theorem P0{lo:Int}{M:Nat}{w:List Nat}:∀(r x y a:Nat),y/256 ^ r=x->y<=M->At w a (nb r y)->(Jk lo M r x).run w a=.told (.int (lo+y)) (a+r)
 |0,x,y,a,hx,hy,h=>by
   rw[pI,Nat.div_one] at hx;subst hx;rfl
 |r+1,x,y,a,hx,hy,h=>by
   rw[Ry] at h;clear 5 h.head h1 h2;have e:x*256+y/256 ^ r%256=y/256 ^ r:=by
    rw[<-hx,un1,<-uc1];lia
   rw[Jk,BV h1,pW (uk9 (by rw[e,Nat.pow_mul];exact Nat.div_le_div_right hy)),P0 r _ y (a+1) e.symm hy h2]
   congr 1
   lia
theorem Qt{w:List Nat}:∀(xs cs:List Nat) (a:Nat),(∀c∈xs,Cj c=true)->At w a (xs.map λ(n:Nat)=>D.int (n:Int))->(J9 xs.length cs).run w a=.told (.str ⟨(cs++xs).toArray⟩) (a+xs.length)
 |[],cs,a,_,_=>by rw[ui9];rfl
 |x::r,cs,a,hs,h=>by
   clear 5(At.head h)h1 h2;rw[ug9,J9,BV h1,pW (hs x ue6),Qt r (cs++[x]) (a+1) (λc hc=>hs c (ud1 _ hc)) h2,ug0]
   congr 1
   lia
theorem PD{w:List Nat}{s:Sh}{p:Rd}(hp:∀(v:D) (a:Nat),Ak s v=true->At w a (AH s v)->p.run w a=.told v (a+(AH s v).length)):∀(es ds:List D) (a:Nat),(∀e∈es,Ak s e=true)->At w a (es.map λd=>AH s d).flatten->(Jj p es.length ds).run w a=.told (.lst (ds++es)) (a+((es.map λd=>AH s d).flatten).length)
 |[],ds,a,_,_=>by rw[ui9];rfl
 |e::r,ds,a,hf,h=>by
   rw[ul2,uf9] at h;rw[ug9,Jj,EJ,hp e a (hf e ue6) h.left,RR.thn,PD hp r (ds++[e]) _ (λx hx=>hf x (ud1 _ hx)) h.right,ug0,ul2,uf9,ue9]
   congr 1
   lia
theorem We:∀(k n:Nat),wid n<=k->n<256 ^ k
 |0,n,h=>by
   by_cases z:n=0
   .subst z;decide
   .rw[LF ∅] at h;lia
 |k+1,n,h=>by
   by_cases z:n=0
   .subst z;exact Nat.pow_pos (by decide)
   .rw[LF ∅] at h;have:=We k (n/256) ∅;rw[Nat.div_lt_iff_lt_mul (by decide)] at this;rw[un1];exact this
theorem ZU{o:Str}(h:IZ o=true):o=Str.ofString "of":=by
 unfold IZ at h;simpa using h
set_option tactic.hygienic true in
theorem back:∀(n:Nat) (s:Sh),s.depth<=n->wf s=true->∀(w:List Nat) (v:D) (a:Nat),Ak s v=true->At w a (AH s v)->(pSh n s).run w a=.told v (a+(AH s v).length)
 |0,s,hs,_,_,_,_,_,_=>absurd s.depth_pos ∅
 |n+1,s,hs,hwf,w,v,a,hf,h=>by
   cases s with
   |nothing=>
     have:v=.non:=by cases v<;>simp[Ak,HJ] at hf<;>rfl
     subst this;rfl
   |number lo hi=>
     simp only[wf,uh3,ug6] at hwf
     cases v with
     |int i=>
       simp only[Ak,uh3,ug6] at hf;rw[AH] at h⊢;rw[pSh,P0 (wid (hi-lo).toNat) 0 (i-lo).toNat a ?_ ∅ h,PX]
       .congr 2;lia
       .exact Nat.div_eq_of_lt (Nat.lt_of_le_of_lt (show(i-lo).toNat<=(hi-lo).toNat by lia) (We _ _ (un6 _)))
     |_=>simp[Ak] at hf
   |text q=>
     cases v with
     |str x=>
       simp only[Ak,uh3,ug6,uh7] at hf;rw[AH] at h⊢;clear 5(At.head h)h1 h2;rw[pSh,BV h1,pW (uk9 hf.1)];have hl:x.length=x.cps.toList.length:=rfl;rw[hl,Qt x.cps.toList [] (a+1) hf.2 h2,uj3,ug9,ui7]
       congr 1
       lia
     |_=>simp[Ak] at hf
   |list s q=>
     simp only[wf,uh3,ug6] at hwf;rw[Sh.depth] at hs
     cases v with
     |lst ds=>
       rw[Ak,uh3,ug6,uh7] at hf;rw[AH] at h⊢;clear 5(At.head h)h1 h2;rw[pSh,BV h1,pW (uk9 hf.1),PD (λv a=>back n s ∅ hwf.2 w v a) ds [] (a+1) hf.2 h2,uj3,ug9]
       congr 1
       lia
     |_=>simp[Ak] at hf
   |pair s r=>
     simp only[wf,uh3] at hwf;rw[Sh.depth] at hs;unfold Ak at hf
     split at hf
     .rw[uh3] at hf;rw[AH] at h⊢;rw[pSh,EJ,back n s ∅ hwf.1 w _ a hf.1 h.left,RR.thn,EJ,back n r ∅ hwf.2 w _ _ hf.2 h.right,RR.thn,Rd.run,ue9,um0]
     .cases hf
   |choice ss=>
     simp only[wf,uh3,ug6] at hwf;rw[Sh.depth] at hs;unfold Ak at hf
     split at hf
     .next o k x=>
      simp only[uh3,ug6] at hf;clear 5(Int.eq_ofNat_of_zero_le hf.1.2.1)j rfl;have hj:j<ss.length:=by have:=hf.1.2.2;lia
      have e1:ss[j]?=some ss[j]:=ub1 hj;have h2:=hf.2;rw[uf8,CV ss _ _ _ e1] at h2;rw[AH,uf8,Gb ss _ _ _ e1] at h⊢;clear 5(At.head h)h3 h4;have ho:o=Str.ofString "of":=ZU hf.1.1;subst ho;rw[pSh,BV h3,pW (uk9 hj),ua5,e1,Option.getD_some,EJ,back n _ (um6 (CY ss _ _ e1) ∅) (EL hwf.2 _ (ui1 hj)) w x (a+1) h2 h4,RR.thn,Rd.run,ug9]
      congr 1
      lia
     .cases hf
theorem Yi{b c:Nat}:∀(p:Rd) (a:Nat),p.run w a=.told v b->a<=c->c<b->p.run (w.take c) a=.short:=by
 intro p
 induction p with
 |done v'=>intro a h h1 h2;rw[Rd.run] at h;cases h;lia
 |need ok nx ih=>
   intro a h h1 h2
   cases e:w[a]? with
   |none=>rw[Dz e] at h;cases h
   |some x=>
     rw[BV e] at h
     by_cases q:ok x=true
     .rw[pW q] at h
      by_cases hac:a<c
      .rw[BV (b:=x) (by rw[List.getElem?_take,pW hac];exact e),pW q];exact ih x (a+1) h hac h2
      .exact Dz (by rw[List.getElem?_take,pX hac])
     .rw[pX q] at h;cases h
set_option tactic.hygienic true in
theorem VT(hg:GOk g){q p a b:Nat}{v:D}(hm:MvOk g q p v)(ha:At wl a (if (Ao g q).side=sL then .int (p:Int)::AH (wdAt g q p).2.1 v else []))(hb:At wr b (if (Ao g q).side=sR then .int (p:Int)::AH (wdAt g q p).2.1 v else [])) :
 CT g wl wr q a b=.next (Fb g q p v) (Ct g q p) (a+(if (Ao g q).side=sL then D.int (p:Int)::AH (wdAt g q p).2.1 v else []).length) (b+(if (Ao g q).side=sR then D.int (p:Int)::AH (wdAt g q p).2.1 v else []).length):=by
 have hw:=FK hg hm.lt hm.pl;have hsd:=ND hg hm;have hfit:=hm.fit;clear 5(F8 hm.pl)side ws e hpl ew;have es:(Ao g q).side=side:=by rw[e];rfl
 have hgd:ws.getD p (Str.ofString "",.nothing,0)=wdAt g q p:=by rw[ua5,ew];rfl
 rw[es] at ha hb hsd;have key:∀(w:List Nat) (c:Nat),At w c (.int (p:Int)::AH (wdAt g q p).2.1 v)->msgR side ws w c=(.told v (c+(AH (wdAt g q p).2.1 v).length+1),p):=λw c h=>by
  clear 5(At.head h)h1 h2;unfold msgR;rw[h1];dsimp only;rw[ew];dsimp only;rw[back 3 _ hw.dep hw.ok w v (c+1) hfit h2]
  congr 2
  lia
 unfold CT;rw[e];dsimp only;unfold Fb Ct;rw[es];rcases bx hsd with⟨q1,q2⟩|⟨q1,q2⟩
 .rw[pW q1] at ha;unfold onS;simp only[pW q1,key wl a ha,hgd];rw[show(GS.st side ws).side=side from rfl,pW q1,pX q2,ug9,uj5];rfl
 .rw[pW q2] at hb;unfold onS;simp only[pX q1,key wr b hb,hgd];rw[show(GS.st side ws).side=side from rfl,pX q1,pW q2,ug9,uj5];rfl
theorem Of{g:List GS}{wl wr:List Nat}(hg:GOk g):∀(mv:List Mv) (q a b F:Nat) (t:List D),okQ g q mv->At wl a (An g sL q mv)->At wr b (An g sR q mv)->CI g wl wr (F+mv.length) q a b t=CI g wl wr F (Ah g q mv) (a+(An g sL q mv).length) (b+(An g sR q mv).length) (t++AK g q mv)
 |[],q,a,b,F,t,_,_,_=>by rw[AK,ui9];rfl
 |(p,v)::r,q,a,b,F,t,hk,ha,hb=>by
   rw[okQ] at hk;rw[An] at ha hb;rw[ug9,<-um0,CI,VT hg hk.1 ha.left hb.left];dsimp only;rw[Of hg r _ _ _ F _ hk.2 ha.right hb.right,An,An,AK,Ah,ue9,ue9,ug0,List.singleton_append,um0,um0]
theorem Yb{b:Nat}(e:(Ao g h).isFin=true):CT g wl wr h a b=.stop:=by
 unfold CT
 cases e1:Ao g h with
 |fin=>rfl
 |st s w=>rw[e1] at e;cases e
theorem Ya:CT g wl wr h wl.length wr.length=.stop:=by
 unfold CT
 cases e1:Ao g h with
 |fin=>rfl
 |st s ws=>
   dsimp only;unfold msgR;rw[show(onS s wl wr)[onS s wl.length wr.length]?=none by unfold onS;split<;>exact ud0 (un6 _)]
theorem HQ{b:Nat}{t:List D}(e:CT g wl wr h a b=.stop):∀F,CI g wl wr F h a b t=(t,h,a,b,none)
 |0=>rfl
 |F+1=>by unfold CI;rw[e]
theorem Jv(hg:GOk g){mv:List Mv}(hk:okQ g 0 mv)(ml mr:List Nat)(el:wD wl=An g sL 0 mv)(er:wD wr=An g sR 0 mv)(h:(ml=[]/\mr=[])\/(Ao g (Ah g 0 mv)).isFin=true):CI g (wl++ml) (wr++mr) ((wl++ml).length+(wr++mr).length+1) 0 0 0 []=(AK g 0 mv,Ah g 0 mv,wl.length,wr.length,none):=by
 have hlen:=U8 hg 0 mv hk;rw[<-el,<-er,A3,A3] at hlen;obtain⟨F,hF⟩:∃F,(wl++ml).length+(wr++mr).length+1=F+mv.length:=⟨(wl++ml).length+(wr++mr).length+1-mv.length,by rw[ue9,ue9];lia⟩;rw[hF,Of hg mv 0 0 0 F [] hk ⟨[],wD ml,by rw[<-el,uj3,Kk],rfl⟩ ⟨[],wD mr,by rw[<-er,uj3,Kk],rfl⟩,<-el,<-er,A3,A3,Nat.zero_add,Nat.zero_add,uj3];refine HQ ?_ F;rcases h with⟨rfl,rfl⟩|h
 .rw[ui9,ui9];exact Ya
 .exact Yb h
abbrev Fu(wl wr:List Nat):Nat:=wl.length+wr.length+1
def Rch(g:List GS)(vl vr:List Nat)(tk:List D)(h a b:Nat):Prop:=Pl g vl vr h a b/\∀xl xr:List Nat,CI g (vl++xl) (vr++xr) (Fu (vl++xl) (vr++xr)) 0 0 0 []=CI g (vl++xl) (vr++xr) (Fu (vl++xl) (vr++xr)) h a b tk
section
variable{f:Str}{t:T}{P:D->T->Prop}{O:Out->T->Prop}{k:Nat}{n:Str}{fs:List (Str×D)}{v:D}
def WS(f:Str)(d:D):M D:=Hh d λ_ _ fs t=>(fs.lookup f).map λv=>(v,t)
def NC(f:Str)(v d:D):M Out:=Hh d λk n fs t=>if fs.length<1000 then some (.next,{t with S:=t.S.set k (.ins n (Hv f v fs))}) else none
theorem Ym{a:M D}(h:W a t λd t1=>W (WS f d) t1 P):W (Bt f a) t P:=CL h
theorem A6(e:t.S[k]?=some (.ins n fs))(l:fs.lookup f=some v)(h:P v t):W (WS f (.obj k)) t P:=⟨_,_,by simp only[WS,Hh,e,l];rfl,h⟩
theorem NM{gv ga:M D}(h:W gv t λv t1=>W ga t1 λd t2=>W (NC f v d) t2 O):W (Dq f gv ga) t O:=CL (h.mono λ_ _ z=>CL z)
theorem Df(e:t.S[k]?=some (.ins n fs))(l:fs.length<1000)(h:O .next ⟨t.env,t.S.set k (.ins n (Hv f v fs))⟩):W (NC f v (.obj k)) t O:=⟨_,_,by simp only[NC,Hh,e,pW l],h⟩
theorem Y9{g:Fn}{fl:M (List D)}(h:W fl t λds t1=>Wf g (.obj t1.S.length::ds) (t1.S++[.ins n []]) λr S'=>r=.non/\P (.obj t1.S.length) ⟨t1.env,S'⟩):W (IU n g fl) t P:=
 CL (h.mono λds t1 ⟨r,S',e,e2,p⟩=>by subst e2;exact⟨_,_,by simp only[e],p⟩)
theorem Za{g:Fn}{o:M D}{fl:M (List D)}(h:W o t λd t1=>∃k fs,d=.obj k/\t1.S[k]?=some (.ins n fs)/\W fl t1 λds t2=>Wf g (d::ds) t2.S λr S'=>P r ⟨t2.env,S'⟩):W (AG n g o fl) t P:=by
 refine CL (h.mono λd t1 z=>?_);clear 5 z k fs e1 e2 w;subst e1;clear 5 w ds t2 w1 r S' w2 p;refine⟨r,_,?_,p⟩;simp only[Hh,e2,pW,bnd,w1,w2]
theorem V7(h:P (.obj t.S.length) ⟨t.env,t.S++[.dct []]⟩):W (DH []) t P:=by
 refine⟨_,_,?_,h⟩;simp[DH,Dk,bnd,L2.ret,Fi,kvMerge]
end
local macro_rules | `(tactic| walk_at"y1")=>`(tactic| first
 |walk_at"x1" |clear 31 Ym NM V7 QD)
def Si(f:Fn):Prop:=∀g:List GS,GOk g->Pure1 f [.lst (g.map GS.d)] (.lst (g.map GS.d))
theorem W3(hc:DB c):Si (fnOf 1 1 (FX c)):=by
 intro g hg S;have hL:LIM=100000:=rfl;rw[9,FX];refine(JJ (f:=id) (fr:=[]) (λd hd=>?_)).mono λxs t' ⟨e1,e2⟩=>?_
 .clear 5(List.mem_map.mp hd)x hx rfl;have hok:=hg.all x hx;symm;refine(hc _ x hok).use ?_
  cases x with
  |fin=>
    rw[GS.isFin];symm;exact⟨rfl,rfl⟩
  |st side ws=>
    rw[show(GS.st side ws).isFin=false from rfl,GS.d];symm;exact⟨rfl,rfl⟩
 .subst e1;rw[List.map_id];have:=hg.le;refine Bi (by rw[ui7,hL];lia) ?_;symm;exact⟨rfl,e2⟩
abbrev rdF(g:List GS)(h W P:Nat):List (Str×D):=[("grammar",.lst (g.map GS.d)),("standing",.int (h:Nat)),("wires",.obj W),("places",.obj P)]
structure Rdr(n0:Nat)(S:List Ob)(k:Nat)(g:List GS)(vl vr:List Nat)(h a b W P l r:Nat):Prop where
 k0:n0<=k
 l0:n0<=l
 r0:n0<=r
 ne:l≠r
 k:S[k]?=some (.ins "Reader" (rdF g h W P))
 w:S[W]?=some (.dct (lr (.obj l) (.obj r)))
 p:S[P]?=some (.dct (dP a b))
 l:S[l]?=some (.lst (wD vl))
 r:S[r]?=some (.lst (wD vr))
variable{u:Ob}
theorem Ap{o:Ob}(h:S[i]?=some u)(n:j≠i):(S.set j o)[i]?=some u:=by rw[ud3 n];exact h
theorem Am{o:Ob}(h:S[i]?=some o)(h':S[j]?=some u)(n:o≠u):i≠j:=λe=>by subst e;rw[h] at h';exact n (Option.some.inj h')
def Kp(k:Nat)(S S':List Ob):Prop:=S.length<=S'.length/\∀i,i<S.length->i≠k->S'[i]?=S[i]?
theorem Kp.refl{k:Nat}:Kp k S S:=⟨un6 _,λ_ _ _=>rfl⟩
theorem Kp.setk{k:Nat}{o:Ob}(a:Kp k S S'):Kp k S (S'.set k o):=⟨by rw[List.length_set];exact a.1,λi h n=>by rw[ud3 (Ne.symm n)];exact a.2 i h n⟩
theorem Kp.set{k j:Nat}{S S':List Ob}{o:Ob}(a:Kp k S S')(h:S.length<=j):Kp k S (S'.set j o):=⟨by rw[List.length_set];exact a.1,λi hi n=>by rw[ud3 ∅];exact a.2 i hi n⟩
theorem Kp.app{k:Nat}{o:Ob}(a:Kp k S S'):Kp k S (S'++[o]):=⟨by rw[ue9];exact um6 a.1 (Nat.le_add_right _ _),λi hi n=>by rw[ua8 (ue5 hi a.1)];exact a.2 i hi n⟩
theorem Bn{o:Ob}(h:S[i]?=some u):(S++[o])[i]?=some u:=by rw[ua8 (ua7.mp h).1];exact h
theorem Cz(h:S[i]?=some u):i<S.length:=(ua7.mp h).1
local macro_rules | `(tactic| walk_at"y1")=>`(tactic| first
 |walk_at"x1" |clear 31 Ym NM V7 QD Za Y9)
section
variable{n0:Nat}{S:List Ob}{k:Nat}{g:List GS}{vl vr:List Nat}{h a b W P l r:Nat}
end
mutual
noncomputable def Da:Sh->Bool
 |.number lo hi=>decide (hi-lo<1000000000)
 |.list s _=>Da s
 |.pair s r=>Da s&&Da r
 |.choice ss=>Iy ss
 |_=>true
noncomputable def Iy:List Sh->Bool
 |[]=>true
 |s::r=>Da s&&Iy r
end
theorem K6:∀{ss:List Sh},Iy ss=true->∀s∈ss,Da s=true
 |x::r,h,s,m=>by
   rw[Iy,uh3] at h;rcases ul1.mp m with e|m
   .subst e;exact h.1
   .exact K6 h.2 s m
mutual
noncomputable def Fe:Sh->Bool
 |.text m=>decide (m<=3)
 |.list s m=>decide (m<=3)&&Fe s
 |.pair s r=>Fe s&&Fe r
 |.choice ss=>MH ss
 |_=>true
noncomputable def MH:List Sh->Bool
 |[]=>true
 |s::r=>Fe s&&MH r
end
theorem Oe:∀{ss:List Sh},MH ss=true->∀s∈ss,Fe s=true
 |x::r,h,s,m=>by
   rw[MH,uh3] at h;rcases ul1.mp m with e|m
   .subst e;exact h.1
   .exact Oe h.2 s m
noncomputable def bt:Nat->Nat
 |0=>4
 |d+1=>1+3*bt d
theorem ON:∀d,4<=bt d
 |0=>un6 _
 |d+1=>by have:=ON d;rw[bt];lia
structure Dr(d:Nat)(s:Sh):Prop where
 ok:wf s=true
 dep:s.depth<=d+1
 nar:Da s=true
 tin:Fe s=true
 few:∀v,Ak s v=true->(AH s v).length<=bt d
theorem Dr.nothing{d:Nat}:Dr d .nothing:=⟨rfl,by rw[Sh.depth];lia,rfl,rfl,λv h=>by
 have:v=.non:=by cases v<;>simp[Ak,HJ] at h<;>rfl
 subst this;exact un7 _⟩
theorem Dr.number{d:Nat}{lo w:Int}(h1 : -4<=lo)(h2:lo<=4)(h3:0<=w)(h4:w<=70000):Dr d (.number lo (lo+w)):=by
 refine⟨?_,by rw[Sh.depth];lia,?_,rfl,λv h=>?_⟩
 .simp only[wf,uh3,ug6];lia
 .simp only[Da,ug6];lia
 .have hb:=ON d;have hw:=MM 3 (lo+w-lo).toNat (by show _<16777216;lia)
  cases v with
  |int i=>rw[AH,PX];lia
  |_=>simp[Ak] at h
theorem Dr.text{d:Nat}{m:Int}(h1:0<=m)(h2:m<=3):Dr d (.text m):=by
 refine⟨?_,by rw[Sh.depth];lia,rfl,?_,λv h=>?_⟩
 .simp only[wf,uh3,ug6];lia
 .simp only[Fe,ug6];lia
 .have hb:=ON d
  cases v with
  |str x=>
    simp only[Ak,uh3,ug6] at h;have h:=h.1;rw[HL] at h;rw[AH,ug9,ui7];lia
  |_=>simp[Ak] at h
theorem Rc{s:Sh}{n:Nat}:∀(ds:List D),(∀d∈ds,(AH s d).length<=n)->((ds.map λd=>AH s d).flatten).length<=ds.length*n
 |[],_=>un7 _
 |d::r,h=>by
   have h1:=Rc r λx m=>h x (ud1 _ m);have h2:=h d ue6;rw[ul2,uf9,ue9,ug9,Nat.add_mul,Nat.one_mul];lia
theorem Dr.list{d:Nat}{s:Sh}{m:Int}(h:Dr d s)(h1:0<=m)(h2:m<=3):Dr (d+1) (.list s m):=by
 have:=h.dep;refine⟨?_,by rw[Sh.depth];lia,by rw[Da];exact h.nar,?_,λv hf=>?_⟩
 .simp only[wf,uh3,ug6,h.ok];exact⟨⟨by lia,by lia⟩,trivial⟩
 .simp only[Fe,h.tin,ul8,ug6];lia
 .cases v with
  |lst ds=>
    rw[Ak,uh3,ug6,uh7] at hf;have h3:=Rc ds λx m=>h.few x (hf.2 x m);have h4:ds.length*bt d<=3*bt d:=Nat.mul_le_mul_right _ ∅;rw[AH,ug9,bt];lia
  |_=>simp[Ak] at hf
theorem Dr.pair{d:Nat}{s r:Sh}(h:Dr d s)(h':Dr d r):Dr (d+1) (.pair s r):=by
 have:=h.dep;have:=h'.dep;refine⟨by simp only[wf,h.ok,h'.ok,um1],by rw[Sh.depth];lia,by simp only[Da,h.nar,h'.nar,um1],by simp only[Fe,h.tin,h'.tin,um1],λv hf=>?_⟩;unfold Ak at hf
 split at hf
 .rw[uh3] at hf;have h1:=h.few _ hf.1;have h2:=h'.few _ hf.2;rw[AH,ue9,bt];lia
 .cases hf
set_option tactic.hygienic true in
theorem Dr.choice{d:Nat}{s r:Sh}(h:Dr d s)(h':Dr d r):Dr (d+1) (.choice [s,r]):=by
 have:=h.dep;have:=h'.dep;refine⟨?_,?_,by simp only[Da,Iy,h.nar,h'.nar,um1],by simp only[Fe,MH,h.tin,h'.tin,um1],λv hf=>?_⟩
 .simp only[wf,wfs,h.ok,h'.ok,um1,ul8,uh3,ug6,ug9,uj5];lia
 .rw[Sh.depth,GL,GL,GL];lia
 .unfold Ak at hf
  split at hf
  .next o k x=>
   simp only[uh3,ug6] at hf;clear 5(Int.eq_ofNat_of_zero_le hf.1.2.1)j rfl;have hj:j < [s,r].length:=by have:=hf.1.2.2;lia
   have e1:[s,r][j]?=some [s,r][j]:=ub1 hj;have h2:=hf.2;rw[uf8,CV [s,r] _ _ _ e1] at h2;rw[AH,uf8,Gb [s,r] _ _ _ e1,ug9,bt];have hm:[s,r][j]=s\/[s,r][j]=r:=by
    match j,hj with
    |0,_=>exact .inl rfl
    |1,_=>exact .inr rfl
   rcases hm with e|e
   .rw[e] at h2⊢;have:=h.few x h2;lia
   .rw[e] at h2⊢;have:=h'.few x h2;lia
  .cases hf
theorem dF(c:Int):c%7=0\/c%7=1\/c%7=2\/c%7=3\/c%7=4\/c%7=5\/c%7=6:=by lia
noncomputable def p4(k:Int):Int:=if k=0 then 1 else if k=1 then 4 else 16
theorem fU{x:Str}{i:Int}(h:x.length<=LIM)(e:atI x.cps.toList i=some n)(p:P (.str ⟨#[n]⟩) t):W (ixD (.str x) (.int i)) t P:=W_ix_str.mpr ⟨h,n,e,p⟩
theorem Ga{i j:Int}(h1 : -18446744073709551616<j)(h2:j<18446744073709551616)(h:P (.int (i*j)) t):W (CB (.int i) (.int j)) t P:=ML (Rx h1 h2) h
def Tin(x:GS):Prop:=∀w∈x.ws,Dr 2 w.2.1
theorem g8(i:Int):∃s:Str,atI [D.str (Str.ofString "left"),.str (Str.ofString "right")] (i%2)=some (.str s)/\(s=Str.ofString "left"\/s=Str.ofString "right"):=by
 have:i%2=0\/i%2=1:=by lia
 rcases this with h|h<;>rw[h]
 .exact⟨_,rfl,.inl rfl⟩
 .exact⟨_,rfl,.inr rfl⟩
theorem Pk(hq:q<g.length):Ao g q∈g:=by
 unfold Ao;rw[ua5,ub1 hq];exact ui1 hq
theorem Og{g:List GS}(hg:GOk g)(sd:Str):∀(q:Nat) (mv:List Mv),okQ g q mv->isB (An g sd q mv)
 |_,[],_=>λd h=>nomatch h
 |q,(p,v)::r,h=>by
   rw[okQ] at h;have hw:=FK hg h.1.lt h.1.pl;have hgs:=By hg h.1.lt;have hp:=h.1.pl;have hp9:p<256:=by
    cases e:Ao g q with
    |fin=>rw[e] at hp;exact absurd hp (Nat.not_lt_zero _)
    |st s ws=>
      rw[e] at hp hgs
      cases hgs with
      |st _ _ h3 _ _=>exact ue5 hp (um6 h3 (by decide))
   rw[An];refine Nk ?_ (Og hg sd _ r h.2)
   split
   .exact Hi hp9 (GW 3 _ hw.dep hw.ok v h.1.fit)
   .exact λd h=>nomatch h
section
variable{α:Type}{o:Str}{x y z:α}
theorem No:onS o (onS o x y) (onS o y x)=x:=by unfold onS;split<;>rfl
theorem dN:onS o x (onS o y z)=onS o x z:=by unfold onS;split<;>rfl
theorem dO:onS o (onS o y z) x=onS o y x:=by unfold onS;split<;>rfl
theorem jC(hs:s=sL\/s=sR)(ho:o=sL\/o=sR)(n:s≠o):onS s (onS o x y) (onS o y x)=y:=by
 unfold onS;rcases hs with rfl|rfl<;>rcases ho with rfl|rfl
 .exact absurd rfl n
 .rw[pW rfl,pX (Ne.symm sLR)]
 .rw[pX (Ne.symm sLR),pW rfl]
 .exact absurd rfl n
end
abbrev w1(g:List GS)(o:Str)(w:List Nat)(F h a:Nat)(t:List D):Rs:=CI g (onS o w []) (onS o [] w) F h (onS o a 0) (onS o 0 a) t
abbrev s1(g:List GS)(o:Str)(w:List Nat)(h a:Nat):Sr:=CT g (onS o w []) (onS o [] w) h (onS o a 0) (onS o 0 a)
theorem Qo(hg:GOk g){o:Str}(ho:o=sL\/o=sR){w:List Nat}{h a:Nat}(hh:h<g.length)(n:(Ao g h).side≠o):s1 g o w h a=.stop:=by
 have hgs:=By hg hh;unfold s1 CT
 cases e:Ao g h with
 |fin=>rfl
 |st side ws=>
   rw[e] at hgs n;have hs:side=sL\/side=sR:=by cases hgs with|st hs1 _ _ _ _=>exact hs1
   dsimp only;rw[jC hs ho n];rfl
set_option tactic.hygienic true in
theorem MA{o:Str}{ws:List (Str×Sh×Int)}(e:Ao g h=.st o ws):s1 g o w h a=match msgR o ws w a with
 |(.short,_)=>.stop
 |(.broken k,_)=>.brk k o
 |(.told v e,c)=>.next (.tup [.str o,.str (ws.getD c (Str.ofString "",.nothing,0)).1,v]) (ws.getD c (Str.ofString "",.nothing,0)).2.2.toNat (onS o e 0) (onS o 0 e):=by
 unfold s1 CT;rw[e];dsimp only;rw[No,No];generalize msgR o ws w a=m;clear 5 m r c
 cases r<;>dsimp only
 rw[dN,dO]
theorem fe(hg:GOk g){o:Str}(ho:o=sL\/o=sR){w:List Nat}{h a:Nat}(hh:h<g.length)(ha:w.length<=a):s1 g o w h a=.stop:=by
 by_cases n:(Ao g h).side=o
 .cases e:Ao g h with
  |fin=>unfold s1 CT;rw[e]
  |st side ws=>
    rw[e] at n;have n:side=o:=n;subst n;rw[MA e];unfold msgR;rw[ud0 ha]
 .exact Qo hg ho hh n
theorem At.take{w:List Nat}{a c:Nat}{xs:List D}(h:At w a xs)(l:a+xs.length<=c):At (w.take c) a xs:=by
 clear 5 h p q e rfl;refine⟨p,q.take (c-(p.length+xs.length)),?_,rfl⟩;have:wD (w.take c)=(wD w).take c:=by unfold wD;rw[ul6]
 rw[this,e,<-ug0,List.take_append,uc0 (by rw[ue9];exact l),ue9,ug0]
abbrev mbQ(g:List GS)(q p:Nat)(v:D):List D:=.int (p:Int)::AH (wdAt g q p).2.1 v
def Gk(g:List GS)(o:Str):Nat->List Mv->Prop
 |_,[]=>True
 |q,(p,_)::r=>(Ao g q).side=o/\Gk g o (Ct g q p) r
theorem Lg{g:List GS}{o:Str}:∀(q:Nat) (a b:List Mv),Gk g o q (a++b)↔Gk g o q a/\Gk g o (Ah g q a) b
 |q,[],b=>by simp[Gk,Ah]
 |q,(p,v)::r,b=>by rw[ui2,Gk,Gk,Ah,Lg _ r b,and_assoc]
def Sg(g:List GS)(q a tk:Nat):List Mv->Prop
 |[]=>True
 |(p,v)::_=>tk<a+(mbQ g q p v).length
theorem Xm(hg:GOk g){q p:Nat}{v:D}{ws:List (Str×Sh×Int)}{o:Str}(hm:MvOk g q p v)(e:Ao g q=.st o ws){w:List Nat}{c:Nat}(h:At w c (mbQ g q p v)):msgR o ws w c=(.told v (c+(mbQ g q p v).length),p)/\ws.getD p (Str.ofString "",.nothing,0)=wdAt g q p:=by
 have hw:=FK hg hm.lt hm.pl;clear 5(F8 hm.pl)side ws' e' hpl ew;rw[e] at e'
 cases e'
 refine⟨?_,by rw[ua5,ew];rfl⟩;clear 5(At.head h)h1 h2;unfold msgR;rw[h1];dsimp only;rw[ew];dsimp only;rw[back 3 _ hw.dep hw.ok w v (c+1) hm.fit h2,ug9]
 congr 2
 lia
theorem U3(hg:GOk g){q p:Nat}{v:D}{ws:List (Str×Sh×Int)}{o:Str}(hm:MvOk g q p v)(e:Ao g q=.st o ws){w:List Nat}{c tk:Nat}(h:At w c (mbQ g q p v))(h1:c<=tk)(h2:tk<c+(mbQ g q p v).length):(msgR o ws (w.take tk) c).1=.short:=by
 have hw:=FK hg hm.lt hm.pl;clear 5(F8 hm.pl)side ws' e' hpl ew;rw[e] at e'
 cases e'
 clear 5(At.head h)h3 h4;unfold msgR
 by_cases z:c<tk
 .rw[List.getElem?_take,pW z,h3];dsimp only;rw[ew];dsimp only;have hb:=back 3 _ hw.dep hw.ok w v (c+1) hm.fit h4;rw[ug9] at h2;exact Yi _ _ hb z ∅
 .rw[List.getElem?_take,pX z]
theorem Sc{g:List GS}(hg:GOk g){o:Str}(ho:o=sL\/o=sR){w:List Nat}{tk:Nat}(htl:tk<=w.length):∀(mv:List Mv) (q a F:Nat) (t:List D),q<g.length->okQ g q mv->Gk g o q mv->At w a (An g o q mv)->a+(An g o q mv).length=w.length->a<=tk->tk+1<=F+a->
 ∃m1 m2,mv=m1++m2/\a+(An g o q m1).length<=tk/\Sg g (Ah g q m1) (a+(An g o q m1).length) tk m2/\w1 g o (w.take tk) F q a t=(t++AK g q m1,Ah g q m1,onS o (a+(An g o q m1).length) 0,onS o 0 (a+(An g o q m1).length),none)
 |[],q,a,F,t,hq,_,_,_,hl,ha,_=>by
   have hl:a=w.length:=hl;refine⟨[],[],rfl,ha,trivial,?_⟩;rw[AK,ui9];exact HQ (fe hg ho hq (by rw[uh1];lia)) F
 |(p,v)::r,q,a,F,t,hq,hk,hA,hat,hl,ha,hF=>by
   rw[okQ] at hk;rw[Gk] at hA;rw[An,pW hA.1] at hat hl;have hat1:At w a (mbQ g q p v):=hat.left;obtain⟨ws,e⟩:∃ws,Ao g q=.st o ws:=by
    obtain⟨side,ws,e,_,_⟩:=F8 hk.1.pl;refine⟨ws,?_⟩;have h:=hA.1;rw[e] at h⊢;rw[<-show side=o from h]
   by_cases z:a+(mbQ g q p v).length<=tk
   .have hpos:0<(mbQ g q p v).length:=by rw[ug9];lia
    obtain⟨F',rfl⟩:∃F',F=F'+1:=⟨F-1,by lia⟩;clear 5(Sc hg ho htl r (Ct g q p) (a+(mbQ g q p v).length) F' (t++[Fb g q p v]) (Rz hg hq hk.1.pl) hk.2 hA.2 hat.right (by have hl2:a+(mbQ g q p v++An g o (Ct g q p) r).length=w.length:=hl;rw[ue9] at hl2;lia) z ∅)m1 m2 em hle hcut hw;clear 5(Xm hg hk.1 e (hat1.take z))hb1 hb2;have ewq:(An g o q ((p,v)::m1)).length=(mbQ g q p v).length+(An g o (Ct g q p) m1).length:=by rw[An,pW hA.1,ue9]
    refine⟨(p,v)::m1,m2,by rw[em];rfl,by lia,by rw[Ah,ewq,<-um0];exact hcut,?_⟩;rw[ewq,<-um0,Ah,AK,List.append_cons,<-hw];show CI g _ _ (F'+1) q _ _ t=_;rw[CI,show CT g (onS o (w.take tk) []) (onS o [] (w.take tk)) q (onS o a 0) (onS o 0 a)=_ from MA e,hb1];dsimp only;rw[hb2];unfold Fb;rw[e];rfl
   .refine⟨[],(p,v)::r,rfl,ha,by show tk<a+0+(mbQ g q p v).length;lia,?_⟩;rw[AK,ui9];refine HQ (?_:s1 g o (w.take tk) q a=.stop) F;rw[MA e];have hs:=U3 hg hk.1 e hat1 ha ∅;generalize msgR o ws (w.take tk) a=m at hs⊢;clear 5 m r0 c0;have hs:r0=.short:=hs;subst hs;rfl
abbrev d1(o:Str)(d:D):List (Key×D):=[(.inr o,d)]
theorem Ir{o:Str}{d:D}:AR (d1 o d) (.inr o)=some d:=by simp[AR,uj4]
theorem cI{o:Str}{d:D}(n:s≠o):AR (d1 o d) (.inr s)=none:=by
 unfold AR;rw[uj4,show decide ((Sum.inr o:Key)=.inr s)=false from uk3 λh=>n (Sum.inr.inj h).symm];rfl
theorem cJ{o:Str}{d e:D}:BJ (d1 o d) (.inr o) e=d1 o e:=by
 unfold BJ;rw[pW (by simp)];simp only[ul2,um9,pU]
def Sm(f:Fn):Prop:=∀(S:List Ob) (wv:D) (n:Int) (side:Str) (ws:List (Str×Sh×Int)) (w:List Nat) (p:Nat),Wir S wv w->GSOk n (.st side ws)->p<=w.length->w.length<=50000->(∀j c,msgR side ws w p≠(.broken j,c))->PureS S f [(GS.st side ws).d,wv,.int p] (Jh side ws w p)
theorem Z5(hc:JG c 3):Sm (fnOf 3 6 (ER c)):=by
 intro S wv n side ws w p hv hgs hp hwl hnb
 cases hgs with
 |@st _ _ hs1 hs2 hs3 hs4 hs5=>
 refine Ai rfl ?_;unfold ER;rw[GS.d]
 cases hb:w[p]? with
 |none=>
   have hpl:¬p<w.length:=by rw[List.getElem?_eq_none_iff] at hb;lia
   rw[show Jh side ws w p=.non by unfold Jh msgR;rw[hb]];symm;rw[6,OB hv];refine HZ (by simp;lia) ?_;symm;exact⟨rfl,rfl⟩
 |some cc=>
   obtain⟨hpl,_⟩:=ua7.mp hb;symm;rw[6,OB hv];refine EO (by simp;lia) ?_;symm;rw[6,Yo hv hb];rw[ui7]
   cases hw:ws[cc]? with
   |none=>exact(hnb p 0 (by unfold msgR;simp only[hb,hw])).elim
   |some wd=>
     obtain⟨hcl,_⟩:=ua7.mp hw;have hwo:=hs5 wd (ud4 hw);have hgd:ws.getD cc (Str.ofString "",.nothing,0)=wd:=by rw[ua5,hw];rfl
     have hrd:=hc wd.2.1 hwo.dep hwo.ok S wv w (p+1) hv hpl;refine EO (by simp;lia) ?_;symm;rw[6,Yo hv hb];refine A4 (IG hw) ?_;unfold wdD;dsimp only;symm
     cases e:(pSh 3 wd.2.1).run w (p+1) with
     |told v b=>
       rw[show Jh side ws w p=.tup [.tup [.str side,.str wd.1,v],.int wd.2.2,.int b] by unfold Jh msgR;simp only[hb,hw,e,hgd]];rw[e,rrD] at hrd;rw[6,hrd.use J6];exact⟨rfl,rfl⟩
     |short=>
       rw[show Jh side ws w p=.non by unfold Jh msgR;simp only[hb,hw,e]];rw[e,rrD] at hrd;rw[6,hrd.use FG];exact⟨rfl,rfl⟩
     |broken k=>exact(hnb k cc (by unfold msgR;simp only[hb,hw,e])).elim
def MS(f:Fn):Prop:=∀(g:List GS) (wl wr:List Nat) (dl dr:D) (h a b W P:Nat) (S:List Ob) (t0:List D) (h0 a0 b0:Nat),GOk g->Pl g wl wr h a b->wl.length<=25000->wr.length<=25000->Wir S dl wl->Wir S dr wr->S[W]?=some (.dct (lr dl dr))->S[P]?=some (.dct (dP a b))->CI g wl wr (wl.length+wr.length+1) h a b []=(t0,h0,a0,b0,none)->
 Wf f [.lst (g.map GS.d),.int h,.obj W,.obj P] S λr S'=>Gr S S'/\∃K,S.length<=K/\r=.tup [.lst t0,.int (h0:Nat),.obj K]/\S'[K]?=some (.dct (dP a0 b0))
set_option tactic.hygienic true
theorem QN(hc:Sm c):MS (fnOf 4 9 (Ey c)):=by
 intro g wl wr dl dr h a b W P S t0 h0 a0 b0 hg p hl1 hl2 hvl hvr hW hP hR;have hL:LIM=100000:=rfl;rw[9,Ey];rw[6,V6 hP];obtain⟨R,hRe⟩:∃R:Rs,R=(t0,h0,a0,b0,none):=⟨_,rfl⟩;rw[<-hRe] at hR;obtain⟨K,hK⟩:∃K,K=S.length:=⟨_,rfl⟩;rw[<-hK];refine FL (λn t=>XN7 λ(h' a' b':Nat) (tk:List D) (S':List Ob) (e7 e8:Option Sl)=>AN7 (Pl g wl wr h' a' b') (wl.length+wr.length+1<=n+(a'+b')) (tk.length+n<=wl.length+wr.length+1) (CI g wl wr n h' a' b' tk=R) (Gr S S') (S'[K]?=some (.dct (dP a' b'))) (t=⟨[vw (.lst (g.map GS.d)),vw (.int h),vw (.obj W),vw (.obj P),some (.own tk),vw (.int h'),vw (.obj K),e7,e8],S'⟩)) ?_ IL (wl.length+wr.length+1) _ ?_ ?_
 .rintro n t ⟨h',a',b',tk,S',e7,e8,p',hn,ht,hR',hG,hK',rfl⟩;have pa:=p'.a;have pb:=p'.b;obtain⟨m,rfl⟩:∃m,n=m+1:=nq ∅;have hgs:=By hg p'.h;have hix:=Bv p'.h;have hW':=hG.get hW;unfold CI CT at hR'
  cases eg:Ao g h' with
  |fin=>
    rw[eg] at hix hR';rw[GS.d] at hix;symm;rw[6,A4 hix];refine TB hW' ?_;rw[WF];symm;show EB _ _ Out.next _;symm;subst hR';simp only[pB] at hRe;obtain⟨rfl,rfl,rfl,rfl,_⟩:=hRe;exact⟨hG,K,by lia,rfl,hK'⟩
  |st side ws=>
    rw[eg] at hix hR' hgs;have hs:side=sL\/side=sR:=by cases hgs with|st hs1 _ _ _ _=>exact hs1
    have hix2:=hix;rw[GS.d] at hix2;symm;rw[6,A4 hix2];refine TB hW' ?_;rw[Mr hs];symm;refine⟨m,rfl,?_⟩;symm;rw[6,A4 hix2];rw[6,A4 hix];rw[6,Cv hW' (Mr hs)];rw[6,Cv hK' (Mr hs)];have hon:(onS side (D.int (a':Int)) (D.int (b':Int)))=.int ((onS side a' b':Nat):Int):=by unfold onS;split<;>rfl
    have hon2:Wir S' (onS side dl dr) (onS side wl wr):=by unfold onS;split;exact hvl.gr hG;exact hvr.gr hG
    rw[hon];have hle:=dQ (s:=side) pa pb;have hms:=hc S' (onS side dl dr) g.length side ws (onS side wl wr) (onS side a' b') hon2 hgs hle (by unfold onS;split<;>lia)
    unfold Jh at hms;dsimp only at hR';generalize hmr:msgR side ws (onS side wl wr) (onS side a' b')=mr at hms hR';clear 5 mr r0 c0
    cases r0 with
    |short=>
      have hms:=hms λ_ _ h=>by cases h
      dsimp only at hms hR';rw[6,hms.use];refine W_ret.mpr ?_;show EB _ _ Out.next _;symm;subst hR';simp only[pB] at hRe;obtain⟨rfl,rfl,rfl,rfl,_⟩:=hRe;exact⟨hG,K,by lia,rfl,hK'⟩
    |broken k=>
      dsimp only at hR';subst hR'
      cases hRe
    |told v e=>
      have hms:=hms λ_ _ h=>by cases h
      dsimp only at hms hR';have hst:CT g wl wr h' a' b'=.next (.tup [.str side,.str (ws.getD c0 (Str.ofString "",.nothing,0)).1,v]) (ws.getD c0 (Str.ofString "",.nothing,0)).2.2.toNat (onS side e a') (onS side b' e):=by
       unfold CT;rw[eg];dsimp only;rw[hmr]
      clear 5(Oa hg p' hst)p2 hlt;rw[6,hms.use];refine Bi (by rw[hL];lia) ?_;symm;refine F6 hK' (by show 2<100000;decide) ?_;rw[UY hs];have hwl:(0:Int)<=(ws.getD c0 (Str.ofString "",.nothing,0)).2.2:=by
       cases hgs with
       |st _ h2 _ _ h5=>
         cases hq:ws[c0]? with
         |none=>rw[ua5,hq];exact Int.le_refl _
         |some wd=>rw[ua5,hq];exact(h5 wd (ud4 hq)).lo
      have hd:lr (onS side (D.int (e:Int)) (D.int (a':Int))) (onS side (D.int (b':Int)) (D.int (e:Int)))=dP (onS side e a') (onS side b' e):=by unfold onS;split<;>rfl
      refine⟨_,_,_,tk++[_],_,_,_,p2,by lia,by rw[ue9,List.length_singleton];lia,hR',hG.set ∅,(Bh hK').trans (pQ (λl=>some (Ob.dct l)) hd),t9 rfl (pQ D.int (Int.toNat_of_nonneg hwl).symm)⟩
 .show _<1000000;lia
 .exact⟨h,a,b,[],_,none,none,p,by lia,by simp,hR,Gr.app,by rw[hK];exact Ca,rfl⟩
def Ld(f:Fn):Prop:=∀(g:List GS) (o:Str) (w:List Nat) (dw:D) (h a W P:Nat) (S:List Ob) (t0:List D) (h0 a0 b0:Nat),GOk g->(o=sL\/o=sR)->h<g.length->a<=w.length->w.length<=25000->Wir S dw w->S[W]?=some (.dct (d1 o dw))->S[P]?=some (.dct (d1 o (.int (a:Nat))))->w1 g o w (w.length+1) h a []=(t0,h0,a0,b0,none)->
 Wf f [.lst (g.map GS.d),.int (h:Nat),.obj W,.obj P] S λr S'=>Gr S S'/\∃K,S.length<=K/\r=.tup [.lst t0,.int (h0:Nat),.obj K]/\S'[K]?=some (.dct (d1 o (.int (onS o a0 b0:Nat))))
theorem Qi(hc:Sm c):Ld (fnOf 4 9 (Ey c)):=by
 intro g o w dw h a W P S t0 h0 a0 b0 hg ho hh ha hl hv hW hP hR;have hL:LIM=100000:=rfl;rw[9,Ey];rw[6,V6 hP];obtain⟨R,hRe⟩:∃R:Rs,R=(t0,h0,a0,b0,none):=⟨_,rfl⟩;rw[<-hRe] at hR;obtain⟨K,hK⟩:∃K,K=S.length:=⟨_,rfl⟩;rw[<-hK];refine FL (λn t=>XN6 λ(h' a':Nat) (tk:List D) (S':List Ob) (e7 e8:Option Sl)=>AN8 (h'<g.length) (a'<=w.length) (w.length+1<=n+a') (tk.length+n<=w.length+1) (w1 g o w n h' a' tk=R) (Gr S S') (S'[K]?=some (.dct (d1 o (.int (a':Nat))))) (t=⟨[vw (.lst (g.map GS.d)),vw (.int h),vw (.obj W),vw (.obj P),some (.own tk),vw (.int h'),vw (.obj K),e7,e8],S'⟩)) ?_ IL (w.length+1) _ ?_ ?_
 .rintro n t ⟨h',a',tk,S',e7,e8,hh',ha',hn,ht,hR',hG,hK',rfl⟩;obtain⟨m,rfl⟩:∃m,n=m+1:=nq ∅;have hgs:=By hg hh';have hix:=Bv hh';have hW':=hG.get hW
  by_cases z:(Ao g h').side=o
  .cases eg:Ao g h' with
   |fin=>
     rw[eg] at z;rcases ho with rfl|rfl<;>exact absurd z (by decide +kernel)
   |st side ws=>
     rw[eg] at z;have z:side=o:=z;subst z;rw[eg] at hix hgs;have hix2:=hix;rw[GS.d] at hix2;symm;rw[6,A4 hix2];refine TB hW' ?_;rw[Ir];symm;refine⟨m,rfl,?_⟩;symm;rw[6,A4 hix2];rw[6,A4 hix];rw[6,Cv hW' Ir];rw[6,Cv hK' Ir];have hst:s1 g side w h' a'=_:=MA eg;have hms:=hc S' dw g.length side ws w a' (hv.gr hG) hgs ha' ∅;have hR2:CI g (onS side w []) (onS side [] w) (m+1) h' (onS side a' 0) (onS side 0 a') tk=R:=hR';rw[CI,show CT g (onS side w []) (onS side [] w) h' (onS side a' 0) (onS side 0 a')=_ from hst] at hR2;unfold Jh at hms;generalize hmr:msgR side ws w a'=mr at hms hR2 hst;clear 5 mr r0 c0
     cases r0 with
     |short=>
       have hms:=hms λ_ _ h=>by cases h
       dsimp only at hms hR2;rw[6,hms.use];refine W_ret.mpr ?_;show EB _ _ Out.next _;symm;subst hR2;simp only[pB] at hRe;obtain⟨rfl,rfl,rfl,rfl,_⟩:=hRe;exact⟨hG,K,by lia,rfl,by rw[No];exact hK'⟩
     |broken k=>
       dsimp only at hR2;subst hR2
       cases hRe
     |told v e=>
       have hms:=hms λ_ _ h=>by cases h
       dsimp only at hms hR2 hst;have pl:Pl g (onS side w []) (onS side [] w) h' (onS side a' 0) (onS side 0 a'):=⟨hh',by unfold onS;split<;>first|exact ha'|exact un7 _,by unfold onS;split<;>first|exact ha'|exact un7 _⟩
       clear 5(Oa hg pl hst)p2 hlt;have hae:a'<e:=by unfold onS at hlt;split at hlt<;>lia
       have hel:e<=w.length:=by
        have h1:=p2.a;have h2:=p2.b;unfold onS at h1 h2
        split at h1
        .exact h1
        .next q=>simp only[pX q] at h2;exact h2
       rw[6,hms.use];refine Bi (by rw[hL];lia) ?_;symm;refine F6 hK' (by show 1<100000;decide) ?_;rw[cJ];have hwl:(0:Int)<=(ws.getD c0 (Str.ofString "",.nothing,0)).2.2:=by
        cases hgs with
        |st _ h2 _ _ h5=>
          cases hq:ws[c0]? with
          |none=>rw[ua5,hq];exact Int.le_refl _
          |some wd=>rw[ua5,hq];exact(h5 wd (ud4 hq)).lo
       refine⟨_,e,tk++[_],_,_,_,p2.h,hel,by lia,by rw[ue9,List.length_singleton];lia,hR2,hG.set ∅,Bh hK',t9 rfl (pQ D.int (Int.toNat_of_nonneg hwl).symm)⟩
  .have hR2:R=(tk,h',onS o a' 0,onS o 0 a',none):=by rw[<-hR'];exact HQ (Qo hg ho hh' z) _
   have hsd:atI [(D.str (Ao g h').side)] 0=some (.str (Ao g h').side):=rfl;have fin:∀(t:T) (Q:D->T->Prop),Q (.str (Ao g h').side) t->L2.W (ixD (Ao g h').d (.int 0)) t Q:=λt Q h=>by
    cases e:Ao g h' with
    |fin=>rw[e] at h;rw[GS.d];exact EE GF h
    |st s w=>rw[e] at h;rw[GS.d];exact EE GF h
   symm;rw[6,A4 hix];rw[6,fin _ _];refine TB hW' ?_;rw[cI z];symm;show EB _ _ Out.next _;symm;subst hR2;simp only[pB] at hRe;obtain⟨rfl,rfl,rfl,rfl,_⟩:=hRe;exact⟨hG,K,by lia,rfl,by rw[No];exact hK'⟩
 .show _<1000000;lia
 .exact⟨h,a,[],_,none,none,hh,ha,by lia,by simp,hR,Gr.app,by rw[hK];exact Ca,rfl⟩
def MT(f:Fn):Prop:=∀(g:List GS) (wl wr:List Nat) (S:List Ob) (t0:List D) (h0 a0 b0:Nat),GOk g->wl.length<=25000->wr.length<=25000->CI g wl wr (wl.length+wr.length+1) 0 0 0 []=(t0,h0,a0,b0,none)->Wf f [.lst (g.map GS.d),.lst (wD wl),.lst (wD wr)] S λr S'=>Gr S S'/\r=.tup [.lst t0,.int (h0:Nat),.tup [.int (a0:Nat),.int (b0:Nat)]]
set_option tactic.hygienic false
theorem QP(hc:MS c):MT (fnOf 3 4 (Ht c)):=by
 intro g wl wr S t0 h0 a0 b0 hg hl1 hl2 hw0;rw[9,Ht];refine MK ?_;rw[6,Cw];rw[6,Cw];refine Gh ?_;refine⟨by simp,by show 2<=15;decide,?_⟩;have hA:Gr S ((S++[Ob.dct []]).set S.length (.dct (kvMerge (dW wl wr)))):=Gr.app.set (un6 _);have hB:((S++[Ob.dct []]).set S.length (.dct (kvMerge (dW wl wr))))[S.length]?=some (.dct (dW wl wr)):=by rw[Hl];exact Bh Ca
 show W _ ⟨_,(S++[Ob.dct []]).set S.length (.dct (kvMerge (dW wl wr)))⟩ _;generalize (S++[Ob.dct []]).set S.length (.dct (kvMerge (dW wl wr)))=S1 at hA hB⊢;symm;refine MK ?_;rw[6,Cw];rw[6,Cw];refine Gh ?_;refine⟨by simp,by show 2<=15;decide,?_⟩;have hC:Gr S1 ((S1++[Ob.dct []]).set S1.length (.dct (kvMerge (dP 0 0)))):=Gr.app.set (un6 _);have hD:((S1++[Ob.dct []]).set S1.length (.dct (kvMerge (dP 0 0))))[S1.length]?=some (.dct (dP 0 0)):=by rw[Hl];exact Bh Ca
 show W _ ⟨_,(S1++[Ob.dct []]).set S1.length (.dct (kvMerge (dP 0 0)))⟩ _;generalize (S1++[Ob.dct []]).set S1.length (.dct (kvMerge (dP 0 0)))=S2 at hC hD⊢;symm;refine(hc g wl wr _ _ 0 0 0 S.length S1.length S2 t0 h0 a0 b0 hg ⟨hg.ne,un7 _,un7 _⟩ hl1 hl2 (.inl rfl) (.inl rfl) (hC.get hB) hD hw0).mono ?_;rintro r S3 ⟨hG,K,_,rfl,hK⟩;symm;rw[6,Cv hK KG];rw[6,Cv hK KH];exact⟨hA.trans (hC.trans hG),rfl⟩
def Kx(F:List Nat)(S S':List Ob):Prop:=S.length<=S'.length/\∀i,i<S.length->i∉F->S'[i]?=S[i]?
section
variable{F:List Nat}{S S1 S2:List Ob}{k:Nat}{o:Ob}
theorem Kx.refl:Kx F S S:=⟨un6 _,λ_ _ _=>rfl⟩
theorem Kx.set(a:Kx F S S1)(h:k∈F):Kx F S (S1.set k o):=⟨by rw[List.length_set];exact a.1,λi hi n=>by rw[ud3 (λe=>n (by rw[<-e];exact h))];exact a.2 i hi n⟩
theorem Kx.gr(a:Kx F S S1)(b:Gr S1 S2):Kx F S S2:=⟨um6 a.1 b.1,λi h n=>(b.2 i (ue5 h a.1)).trans (a.2 i h n)⟩
theorem Kx.get(a:Kx F S S1)(n:k∉F)(h:S[k]?=some o):S1[k]?=some o:=by rw[a.2 k (Cz h) n];exact h
end
abbrev lsF(g:List GS)(x:Str)(h tk hd W P q:Nat):List (Str×D):=[("grammar",.lst (g.map GS.d)),("standing",.int (h:Nat)),("wires",.obj W),("places",.obj P),("side",.str x),("said",.obj q),("taken",.int (tk:Nat)),("handed",.int (hd:Nat))]
structure Lst(S:List Ob)(g:List GS)(x o:Str)(h a tk hd:Nat)(w sd:List Nat)(k l q W P:Nat):Prop where
 ik:S[k]?=some (.ins "Lasting" (lsF g x h tk hd W P q))
 iw:S[W]?=some (.dct (d1 o (.obj l)))
 ip:S[P]?=some (.dct (d1 o (.int (a:Nat))))
 il:S[l]?=some (.lst (wD w))
 iq:S[q]?=some (.lst (wD sd))
 ne:l≠q
section
variable{S S':List Ob}{g:List GS}{x o:Str}{h a tk hd:Nat}{w sd:List Nat}{k l q W P:Nat}
end
def Two(x o:Str):Prop:=(x=sL/\o=sR)\/(x=sR/\o=sL)
theorem Two.swap{x o:Str}(h:Two x o):Two o x:=h.elim (λh=>.inr ⟨h.2,h.1⟩) λh=>.inl ⟨h.2,h.1⟩
theorem Two.x{x o:Str}(h:Two x o):x=sL\/x=sR:=h.imp (·.1) (·.1)
theorem Two.o{x o:Str}(h:Two x o):o=sL\/o=sR:=h.swap.x
theorem Two.ne{x o:Str}(h:Two x o):x≠o:=by
 rcases h with⟨rfl,rfl⟩|⟨rfl,rfl⟩
 .exact sLR
 .exact Ne.symm sLR
def EF(f:Fn):Prop:=∀x o:Str,Two x o->Pure1 f [.str x] (.str o)
theorem d5:EF (fnOf 1 1 Ho):=by
 intro x o h S;refine Ai rfl ?_;unfold Ho;rcases h with⟨rfl,rfl⟩|⟨rfl,rfl⟩
 .symm;exact⟨rfl,rfl⟩
 .symm;exact⟨rfl,rfl⟩
variable{lo hi:Option Int}
theorem fY{k:Nat}(e:t.S[k]?=some (.lst ds))(h:P (.lst (BS ds lo hi)) t):W (NE (.obj k) lo hi) t P:=⟨_,_,by simp only[NE,e],h⟩
abbrev heF(g:List GS)(W P:Nat):List (Str×D):=[("grammar",.lst (g.map GS.d)),("standing",.int (0:Nat)),("wires",.obj W),("places",.obj P)]
structure Hea(S S':List Ob)(k W P l:Nat)(o:Str)(fs:List (Str×D)):Prop where
 kp:Kp k S S'
 ik:S'[k]?=some (.ins "Lasting" fs)
 iw:S'[W]?=some (.dct (d1 o (.obj l)))
 ip:S'[P]?=some (.dct (d1 o (.int (0:Nat))))
 il:S'[l]?=some (.lst [])
 gw:S.length<=W
 gp:S.length<=P
 gl:S.length<=l
mutual
inductive Ow(S:List Ob):D->D->List Nat->Prop
 |non:Ow S .non .non []
 |int (i:Int):Ow S (.int i) (.int i) []
 |str (x:Str):Ow S (.str x) (.str x) []
 |tup {ds vs:List D}{fp:List Nat}:Ows S ds vs fp->Ow S (.tup ds) (.tup vs) fp
 |obj {k:Nat}{ds vs:List D}{fp:List Nat}:S[k]?=some (.lst ds)->Ows S ds vs fp->k∉fp->Ow S (.obj k) (.lst vs) (k::fp)
inductive Ows(S:List Ob):List D->List D->List Nat->Prop
 |nil:Ows S [] [] []
 |cons {d v:D}{fp fp':List Nat}{ds vs:List D}:Ow S d v fp->Ows S ds vs fp'->(∀k∈fp,k∉fp')->Ows S (d::ds) (v::vs) (fp++fp')
end
def prt(g:List GS)(mv:List Mv)(i:Nat):List D:=match mv[i]? with
 |some (p,v)=>.int (p:Int)::AH (wdAt g (Ah g 0 (mv.take i)) p).2.1 v
 |none=>[]
structure Due(g:List GS)(mv:List Mv)(rl rr k:Nat):Prop where
 le:k<=mv.length
 a:(An g sL 0 (mv.take k)).length<=rl
 b:(An g sR 0 (mv.take k)).length<=rr
 z:k=mv.length\/(k<mv.length/\onS (Ao g (Ah g 0 (mv.take k))).side rl rr<onS (Ao g (Ah g 0 (mv.take k))).side (An g sL 0 (mv.take k)).length (An g sR 0 (mv.take k)).length+(prt g mv k).length)
noncomputable def nvO:Nat->D->Bool
 |_,.non=>true
 |_,.int _=>true
 |_,.str _=>true
 |n+1,.lst xs=>decide (xs.length<=1000)&&xs.all (nvO n)
 |n+1,.tup xs=>decide (xs.length<=1000)&&xs.all (nvO n)
 |_,_=>false
set_option tactic.hygienic true in
theorem Hd:∀(n:Nat) (s:Sh),s.depth<=n->wf s=true->∀v,Ak s v=true->nvO n v=true
 |0,s,h,_,_,_=>absurd s.depth_pos ∅
 |n+1,s,hs,hw,v,hf=>by
   cases s with
   |nothing=>cases v<;>simp[Ak,HJ] at hf;rfl
   |number lo hi=>cases v<;>simp[Ak] at hf;rfl
   |text q=>cases v<;>simp only[Ak,uf0] at hf;rfl
   |list s q=>
     simp only[wf,uh3,ug6] at hw;rw[Sh.depth] at hs
     cases v<;>simp only[Ak,uf0] at hf
     rename_i ds;simp only[uh3,ug6,uh7] at hf;rw[nvO,uh3,ug6,uh7];exact⟨by lia,λd hd=>Hd n s ∅ hw.2 d (hf.2 d hd)⟩
   |pair s r=>
     simp only[wf,uh3] at hw;rw[Sh.depth] at hs;unfold Ak at hf
     split at hf
     .rw[uh3] at hf;have h1:=Hd n s ∅ hw.1 _ hf.1;have h2:=Hd n r ∅ hw.2 _ hf.2;simp[nvO,h1,h2]
     .cases hf
   |choice ss=>
     simp only[wf,uh3,ug6] at hw;rw[Sh.depth] at hs;unfold Ak at hf
     split at hf
     .next o k x=>
      simp only[uh3,ug6] at hf;clear 5(Int.eq_ofNat_of_zero_le hf.1.2.1)j rfl;have hj:j<ss.length:=by have:=hf.1.2.2;lia
      have e1:ss[j]?=some ss[j]:=ub1 hj;have h2:=hf.2;rw[uf8,CV ss _ _ _ e1] at h2;have h3:=Hd n _ (um6 (CY ss _ _ e1) ∅) (EL hw.2 _ (ui1 hj)) x h2;have g1:∀o:Str,nvO n (.str o)=true:=λo=>by cases n<;>rfl
      have g2:∀i:Int,nvO n (.int i)=true:=λo=>by cases n<;>rfl
      simp[nvO,h3,g1,g2]
     .cases hf
theorem Nu:∀{xs:List D},(∀x∈xs,BR x=true)->F1 xs=true
 |[],_=>rfl
 |x::r,h=>by rw[F1,h x ue6,Nu λy m=>h y (ud1 _ m)];rfl
theorem Qe:∀(n:Nat) (v:D),nvO n v=true->BR v=true
 |0,v,h=>by cases v<;>first|rfl|(simp[nvO] at h;done)
 |n+1,v,h=>by
   cases v<;>first|rfl|(simp[nvO] at h;done)|skip
   all_goals
    rw[nvO,uh3,uh7] at h;rw[BR];exact Nu λx hx=>Qe n x (h.2 x hx)
abbrev Fq(S:List Ob)(f:Fn)(ds:List D)(r:D):Prop:=Wf f ds S λx S'=>x=r/\S'=S
noncomputable def jY:List D->Bool
 |[_,_]=>true
 |[.str _,.int _,_]=>true
 |_=>false
mutual
def tm:D->Bool
 |.non=>true
 |.int _=>true
 |.str x=>decide (x.length<=90000)
 |.lst xs=>decide (xs.length<=1000)&&tms xs
 |.tup xs=>tms xs&&jY xs
 |_=>false
def tms:List D->Bool
 |[]=>true
 |d::r=>tm d&&tms r
end
abbrev bsF(g:List GS)(x:Str)(h W P:Nat)(E:List (Str×D)):List (Str×D):=("grammar",.lst (g.map GS.d))::("standing",.int (h:Nat))::("wires",.obj W)::("places",.obj P)::("side",.str x)::E
structure Ins(S:List Ob)(n:Str)(E:List (Str×D))(g:List GS)(x o:Str)(h a:Nat)(w:List Nat)(k l W P:Nat):Prop where
 ik:S[k]?=some (.ins n (bsF g x h W P E))
 iw:S[W]?=some (.dct (d1 o (.obj l)))
 ip:S[P]?=some (.dct (d1 o (.int (a:Nat))))
 il:S[l]?=some (.lst (wD w))
 el:E.length<=100
variable{F:List Nat}
section
variable{S S':List Ob}{n:Str}{E:List (Str×D)}{g:List GS}{x o:Str}{h a:Nat}{w:List Nat}{k l W P:Nat}
theorem Ins.keep(R:Ins S n E g x o h a w k l W P)(K:Kx F S S')(n1:k∉F)(n2:l∉F)(n4:W∉F)(n5:P∉F):Ins S' n E g x o h a w k l W P:=
 ⟨K.get n1 R.ik,K.get n4 R.iw,K.get n5 R.ip,K.get n2 R.il,R.el⟩
theorem Ins.gr(R:Ins S n E g x o h a w k l W P)(G:Gr S S'):Ins S' n E g x o h a w k l W P:=⟨G.get R.ik,G.get R.iw,G.get R.ip,G.get R.il,R.el⟩
theorem Ins.ext(R:Ins S n E g x o h a w k l W P)(y:List Nat):Ins (S.set l (.lst (wD w++wD y))) n E g x o h a (w++y) k l W P:=
 ⟨Ap R.ik (Am R.il R.ik (by simp)),Ap R.iw (Am R.il R.iw (by simp)),Ap R.ip (Am R.il R.ip (by simp)),by rw[<-Kk];exact Bh R.il,R.el⟩
theorem Ins.put{h' a' Q:Nat}{E':List (Str×D)}(R:Ins S n E g x o h a w k l W P)(e:S[Q]?=some (.dct (d1 o (.int (a':Nat)))))(l':E'.length<=100):Ins (S.set k (.ins n (bsF g x h' W Q E'))) n E' g x o h' a' w k l W Q:=
 ⟨Bh R.ik,Ap R.iw (Am R.ik R.iw (by simp)),Ap e (Am R.ik e (by simp)),Ap R.il (Am R.ik R.il (by simp)),l'⟩
theorem Ins.fl(R:Ins S n E g x o h a w k l W P):(bsF g x h W P E).length<1000:=by
 have:=R.el;show E.length+1+1+1+1+1<1000;lia
end
structure HeaG(n:Str)(S S':List Ob)(k W P l:Nat)(o:Str)(fs:List (Str×D)):Prop where
 kp:Kp k S S'
 ik:S'[k]?=some (.ins n fs)
 iw:S'[W]?=some (.dct (d1 o (.obj l)))
 ip:S'[P]?=some (.dct (d1 o (.int (0:Nat))))
 il:S'[l]?=some (.lst [])
 gw:S.length<=W
 gp:S.length<=P
 gl:S.length<=l
variable{l:Nat}
theorem HeaG.put{n:Str}{k W P:Nat}{o:Str}{fs fs':List (Str×D)}(R:HeaG n S S' k W P l o fs):HeaG n S (S'.set k (.ins n fs')) k W P l o fs':=
 ⟨R.kp.setk,Bh R.ik,Ap R.iw (Am R.ik R.iw (by simp)),Ap R.ip (Am R.ik R.ip (by simp)),Ap R.il (Am R.ik R.il (by simp)),R.gw,R.gp,R.gl⟩
def TV(f:Fn):Prop:=∀(n:Str) (S:List Ob) (k:Nat) (g:List GS) (o:Str),GOk g->S[k]?=some (.ins n [])->Wf f [.obj k,.lst (g.map GS.d),.tup [.str o]] S λr S'=>r=.non/\∃W P l,HeaG n S S' k W P l o (heF g W P)
theorem UI(hc:Si c):TV (fnOf 3 4 (Fz c)):=by
 intro n S k g o hg hk;have hkl:=Cz hk;rw[9,Fz];rw[6,(hc g hg).use];refine Df hk (by show 0<1000;decide) ?_;have k1:Kp k S (S.set k (.ins n [("grammar",.lst (g.map GS.d))])):=Kp.refl.setk;have g1:(S.set k (.ins n [("grammar",.lst (g.map GS.d))]))[k]?=some (.ins n [("grammar",.lst (g.map GS.d))]):=Bh hk;show EB _ _ Out.next ⟨_,S.set k (.ins n [("grammar",.lst (g.map GS.d))])⟩;generalize S.set k (.ins n [("grammar",.lst (g.map GS.d))])=S1 at k1 g1⊢;symm;refine Df g1 (by show 1<1000;decide) ?_;have k2:Kp k S (S1.set k (.ins n [("grammar",.lst (g.map GS.d)),("standing",.int (0:Nat))])):=k1.setk;have g2:(S1.set k (.ins n [("grammar",.lst (g.map GS.d)),("standing",.int (0:Nat))]))[k]?=some (.ins n [("grammar",.lst (g.map GS.d)),("standing",.int (0:Nat))]):=Bh g1;show EB _ _ Out.next ⟨_,S1.set k (.ins n [("grammar",.lst (g.map GS.d)),("standing",.int (0:Nat))])⟩;generalize S1.set k (.ins n [("grammar",.lst (g.map GS.d)),("standing",.int (0:Nat))])=S2 at k2 g2⊢;symm;refine Df (Bn g2) (by show 2<1000;decide) ?_;obtain⟨W,hW⟩:∃W,W=S2.length:=⟨_,rfl⟩;have w3:((S2++[Ob.dct []]).set k (.ins n [("grammar",.lst (g.map GS.d)),("standing",.int (0:Nat)),("wires",.obj W)]))[W]?=some (.dct []):=by rw[hW];exact Ap Ca (um5 (Cz g2))
 have k3:Kp k S ((S2++[Ob.dct []]).set k (.ins n [("grammar",.lst (g.map GS.d)),("standing",.int (0:Nat)),("wires",.obj W)])):=k2.app.setk;have g3:((S2++[Ob.dct []]).set k (.ins n [("grammar",.lst (g.map GS.d)),("standing",.int (0:Nat)),("wires",.obj W)]))[k]?=some (.ins n [("grammar",.lst (g.map GS.d)),("standing",.int (0:Nat)),("wires",.obj W)]):=Bh (Bn g2);have hSW:S.length<=W:=by rw[hW];exact k2.1
 show EB _ _ Out.next ⟨_,(S2++[Ob.dct []]).set k (.ins n [("grammar",.lst (g.map GS.d)),("standing",.int (0:Nat)),("wires",.obj S2.length)])⟩;rw[<-hW];generalize (S2++[Ob.dct []]).set k (.ins n [("grammar",.lst (g.map GS.d)),("standing",.int (0:Nat)),("wires",.obj W)])=S3 at w3 k3 g3⊢;symm;refine Df (Bn g3) (by show 3<1000;decide) ?_;obtain⟨P,hP⟩:∃P,P=S3.length:=⟨_,rfl⟩;have w4:((S3++[Ob.dct []]).set k (.ins n (heF g W P)))[W]?=some (.dct []):=Ap (Bn w3) (Am g3 w3 (by simp));have p4:((S3++[Ob.dct []]).set k (.ins n (heF g W P)))[P]?=some (.dct []):=by rw[hP];exact Ap Ca (um5 (Cz g3))
 have k4:Kp k S ((S3++[Ob.dct []]).set k (.ins n (heF g W P))):=k3.app.setk;have g4:((S3++[Ob.dct []]).set k (.ins n (heF g W P)))[k]?=some (.ins n (heF g W P)):=Bh (Bn g3);have hWP:W<P:=by rw[hP];exact Cz w3
 show EB _ _ Out.next ⟨_,(S3++[Ob.dct []]).set k (.ins n (heF g W S3.length))⟩;rw[<-hP];generalize (S3++[Ob.dct []]).set k (.ins n (heF g W P))=S4 at w4 p4 k4 g4⊢;symm;have hWk:W≠k:=λe=>by subst e;lia
 have hPk:P≠k:=λe=>by subst e;lia
 rw[6,W_forL_cons.mpr];rw[6,A6 (Bn g4) rfl];refine F6 (Bn w4) (by show 0<100000;decide) ?_;obtain⟨l,hl⟩:∃l,l=S4.length:=⟨_,rfl⟩;have hlk:k<l:=by rw[hl];exact Cz g4
 have hlW:W<l:=by rw[hl];exact Cz w4
 have hlP:P<l:=by rw[hl];exact Cz p4
 have k5:Kp k S ((S4++[Ob.lst []]).set W (.dct (d1 o (.obj l)))):=k4.app.set hSW;have g5:((S4++[Ob.lst []]).set W (.dct (d1 o (.obj l))))[k]?=some (.ins n (heF g W P)):=Ap (Bn g4) hWk;have w5:((S4++[Ob.lst []]).set W (.dct (d1 o (.obj l))))[W]?=some (.dct (d1 o (.obj l))):=Bh (Bn w4);have p5:((S4++[Ob.lst []]).set W (.dct (d1 o (.obj l))))[P]?=some (.dct []):=Ap (Bn p4) ∅;have l5:((S4++[Ob.lst []]).set W (.dct (d1 o (.obj l))))[l]?=some (.lst []):=by rw[hl];exact Ap Ca ∅
 show EB _ _ Out.next ⟨_,(S4++[Ob.lst []]).set W (.dct (d1 o (.obj S4.length)))⟩;rw[<-hl];generalize (S4++[Ob.lst []]).set W (.dct (d1 o (.obj l)))=S5 at k5 g5 w5 p5 l5⊢;symm;rw[6,A6 g5 rfl];refine F6 p5 (by show 0<100000;decide) ?_;show L2.W (C8 _ _ []) ⟨_,S5.set P (.dct (d1 o (.int (0:Nat))))⟩ _;refine W_forL_nil.mpr ?_;exact⟨rfl,W,P,l,k5.set ∅,Ap g5 hPk,Ap w5 ∅,Bh p5,Ap l5 ∅,hSW,by lia,by lia⟩
def LO(f:Fn):Prop:=∀(n:Str) (S:List Ob) (k:Nat) (g:List GS) (x o:Str),GOk g->Two x o->S[k]?=some (.ins n [])->Wf f [.obj k,.lst (g.map GS.d),.str x] S λr S'=>r=.non/\∃W P l,HeaG n S S' k W P l o (bsF g x 0 W P [])
variable{co ch:Fn}
theorem VO(h1:EF co)(h2:TV ch):LO (fnOf 3 3 (Go co ch)):=by
 intro n S k g x o hg ho hk;rw[9,Go];rw[6,(h1 x o ho).use];refine(h2 n S k g o hg hk).mono λr S' z9=>?_;clear 5 z9 e W P l R;subst e;symm;refine Df R.ik (by show 4<1000;decide) ?_;symm;exact⟨rfl,W,P,l,R.put⟩
theorem iQ{l u:M (Option Int)}{Q:List D->T->Prop}(h:L2.W f t λd t1=>L2.W l t1 λa t2=>L2.W u t2 λb t3=>L2.W (slF d a b) t3 Q):L2.W (SI f l u) t Q:=CL (h.mono λ_ _ h=>CL (h.mono λ_ _ h=>CL h))
theorem iR{k:Nat}{Q:List D->T->Prop}(e:t.S[k]?=some (.lst ds))(h:Q (BS ds lo hi) t):L2.W (slF (.obj k) lo hi) t Q:=⟨_,_,by simp only[slF,e],h⟩
theorem dq{b:Bool}{m1 m2:M Out}{K:Out->T->Prop}(Pm:Out->T->Prop)(h1:b=true->L2.W m1 t Pm)(h2:b=false->L2.W m2 t Pm)(h:∀o t',Pm o t'->K o t'):FT b (L2.W m1 t K) (L2.W m2 t K):=EN (λz=>(h1 z).mono h) λz=>(h2 z).mono h
variable{E:List (Str×D)}
theorem Ins.setL{n:Str}{x o:Str}{k W P:Nat}{b:Ob}{d:List D}(R:Ins S n E g x o h a w k l W P)(e:S[j]?=some (.lst d))(n1:j≠l):Ins (S.set j b) n E g x o h a w k l W P:=
 ⟨Ap R.ik (Am e R.ik (by simp)),Ap R.iw (Am e R.iw (by simp)),Ap R.ip (Am e R.ip (by simp)),Ap R.il n1,R.el⟩
theorem Kx.sub{F':List Nat}(a:Kx F S S')(h:∀i∈F,i∈F'):Kx F' S S':=⟨a.1,λi hi n=>a.2 i hi λz=>n (h i z)⟩
theorem U2(ht:∀x∈g,Tin x){q p:Nat}{v:D}(hm:MvOk g q p v):(mbQ g q p v).length<=41:=by
 have h1:=ht _ (Pk hm.lt);clear 5(F8 hm.pl)side ws e hpl ew;have h2:wdAt g q p∈(Ao g q).ws:=by rw[e];exact ud4 ew
 have h3:=(h1 _ h2).few v hm.fit;rw[ug9];exact Nat.succ_le_succ h3
theorem da{x:GS}(h:P (.str x.side) t):W (ixD x.d (.int 0)) t P:=by
 cases x with
 |fin=>rw[GS.d];exact EE GF h
 |st s w=>rw[GS.d];exact EE GF h
def JH(f:Fn)(d:Nat):Prop:=∀(cell:Int) (S:List Ob),Wf f [.int cell,.int d] S λr S'=>S'=S/\∃(s:Sh) (l:Int),r=.lst [s.d,.int l]/\Dr d s
theorem w6(i:Int):∃w:Int,atI [D.int 0,.int 1,.int 255,.int 256,.int 300,.int 70000] (i%6)=some (.int w)/\0<=w/\w<=70000:=by
 have:i%6=0\/i%6=1\/i%6=2\/i%6=3\/i%6=4\/i%6=5:=by lia
 rcases this with h|h|h|h|h|h<;>rw[h]<;>exact⟨_,rfl,by decide,by decide⟩
theorem X7:JH (fnOf 2 6 (C9 c)) 0:=by
 intro cell S;refine Ai rfl ?_;unfold C9;clear 5(w6 (cell/7/9))w hw w0 w1;have num:Dr 0 (.number (cell/7%9-4) (cell/7%9-4+w)):=.number ∅ ∅ w0 w1;rcases dF cell with h|h|h|h|h|h|h <;>
  (right
   rw[h];right;rw[7,A4 hw];exact⟨rfl,_,_,rfl,num⟩)
theorem X8{d:Nat}(hc:JH c d):JH (fnOf 2 6 (C9 c)) (d+1):=by
 intro cell S;refine Ai rfl ?_;unfold C9;clear 5(w6 (cell/7/9))w hw w0 w1;have num:Dr (d+1) (.number (cell/7%9-4) (cell/7%9-4+w)):=.number ∅ ∅ w0 w1;have hd0:(((d+1:Nat):Int)==0)=false:=by rw[om];lia
 have hd1:((d+1:Nat):Int)-1=(d:Nat):=by lia
 rcases dF cell with h|h|h|h|h|h|h
 .right;rw[h];right;rw[7,A4 hw];exact⟨rfl,_,_,rfl,num⟩
 .right;rw[h];right;rw[7,A4 hw];exact⟨rfl,_,_,rfl,num⟩
 .right;rw[h];right;exact⟨rfl,.nothing,_,rfl,.nothing⟩
 .right;rw[h];right;exact⟨rfl,.text (cell/7%4),_,rfl,.text ∅ ∅⟩
 .right;rw[h];right;rw[hd1];refine(hc _ S).mono λr S' z9=>?_;clear 5 z9 e s l er hs;subst e er;right;exact⟨rfl,.list s (l%4),_,rfl,hs.list ∅ ∅⟩
 .right;rw[h];right;rw[hd1];refine(hc _ S).mono λr S' z9=>?_;clear 5 z9 e s l er hs;subst e er;right;rw[hd1];refine(hc _ _).mono λr S' z9=>?_;clear 5 z9 e s2 l2 er hs2;subst e er;right;exact⟨rfl,.pair s s2,_,rfl,hs.pair hs2⟩
 .right;rw[h];right;rw[hd1];refine(hc _ S).mono λr S' z9=>?_;clear 5 z9 e s l er hs;subst e er;right;rw[hd1];refine(hc _ _).mono λr S' z9=>?_;clear 5 z9 e s2 l2 er hs2;subst e er;right;exact⟨rfl,.choice [s,s2],_,rfl,hs.choice hs2⟩
def MU(f:Fn)(n:Nat):Prop:=∀(s:Sh),s.depth<=n->wf s=true->Da s=true->Fe s=true->∀(cell:Int) (S:List Ob),Wf f [s.d,.int cell] S λr S'=>S'=S/\∃(v:D) (l:Int),r=.lst [v,.int l]/\Ak s v=true
theorem fk(i:Int):∃n,atI (Str.ofString " az~Q0").cps.toList (i%6)=some n/\Cj n=true:=by
 have e:(Str.ofString " az~Q0").cps.toList=[32,97,122,126,81,48]:=by decide +kernel
 rw[e];have:i%6=0\/i%6=1\/i%6=2\/i%6=3\/i%6=4\/i%6=5:=by lia
 rcases this with h|h|h|h|h|h<;>rw[h]<;>exact⟨_,rfl,by decide⟩
theorem V4{f:Fn}:MU f 0:=λs h=>absurd s.depth_pos ∅
theorem bG(hc:MU c n):MU (fnOf 2 10 (E8 c)) (n+1):=by
 intro s hs hw hn ht cell S;have hL:LIM=100000:=rfl;refine Ai rfl ?_;unfold E8
 cases s with
 |nothing=>
   rw[Sh.d];right;exact⟨rfl,_,_,rfl,rfl⟩
 |number lo hi=>
   simp only[wf,uh3,ug6] at hw;simp only[Da,ug6] at hn;rw[Sh.d];right;rw[7,LC ∅];rw[7,NJ ∅ ∅];refine⟨rfl,_,_,rfl,?_⟩;have h1:=uk2 cell (b:=hi-lo+1) ∅;have h2:=uf4 cell (b:=hi-lo+1) ∅;simp only[Ak,uh3,ug6];lia
 |text m=>
   simp only[wf,uh3,ug6] at hw;simp only[Fe,ug6] at ht;rw[Sh.d];right;refine LC ∅ ?_;have h1:=uk2 cell (b:=m+1) ∅;have h2:=uf4 cell (b:=m+1) ∅;clear 5(fk (cell/7))z hz hsg;right;rw[7,fU (by decide +kernel) hz];refine Zb ⟨Bq ∅ ∅,by show 1*_<=_;lia,by lia,by show 1<=_;lia⟩ ?_;right;rw[7,NJ ∅ ∅];refine⟨rfl,_,_,rfl,?_⟩;simp only[Ak,uh3,ug6];exact⟨by rw[Pz];lia,Wo hsg⟩
 |list s m=>
   rw[Sh.depth] at hs;simp only[wf,uh3,ug6] at hw;rw[Da] at hn;simp only[Fe,uh3,ug6] at ht;rw[Sh.d];right;refine LC ∅ ?_;have h1:=uk2 cell (b:=m+1) ∅;have h2:=uf4 cell (b:=m+1) ∅;right;rw[7,NJ ∅ ∅];refine ET (Bq ∅ ∅) ?_;refine BG (λr t=>XN5 λ(l:Int) (ds:List D) (e7 e8 e9:Option Sl)=>AN4 ((∃j,r=(Bf 0 (cell%(m+1)).toNat).drop j)) (ds.length+r.length=(cell%(m+1)).toNat) ((∀d∈ds,Ak s d=true)) (t=⟨[vw (.tup [.str "list",s.d,.int m]),vw (.int l),vw (.str "list"),none,vw (.int (cell%(m+1))),none,some (.own ds),e7,e8,e9],S⟩)) _ _ ⟨_,[],none,none,none,⟨0,rfl⟩,by rw[Dy];simp,by simp,rfl⟩ ?_ ?_
   .rintro d r t ⟨l,ds,e7,e8,e9,⟨j,hj⟩,hl,hf,rfl⟩ _;obtain⟨rfl,hj2,_⟩:=De hj;rw[ug9] at hl;right;refine(hc s ∅ hw.2 hn ht.2 _ S).mono λr' S' z9=>?_;clear 5 z9 e v l2 er hv;subst e er;right;refine Bi (by rw[hL];lia) ?_;refine⟨l2,ds++[v],_,_,_,⟨j+1,hj2⟩,by rw[ue9];simp only[ug9,uj5];lia,?_,rfl⟩;intro d hd;rcases ui5.mp hd with h|h
    .exact hf d h
    .rw[uf1] at h;subst h;exact hv
   .rintro t ⟨l,ds,e7,e8,e9,_,hl,hf,rfl⟩;rw[uj5] at hl;right;refine⟨rfl,_,_,rfl,?_⟩;simp only[Ak,uh3,ug6,uh7];exact⟨by lia,hf⟩
 |pair s r=>
   rw[Sh.depth] at hs;simp only[wf,uh3] at hw;simp only[Da,uh3] at hn;simp only[Fe,uh3] at ht;rw[Sh.d];right;refine(hc s ∅ hw.1 hn.1 ht.1 cell S).mono λr' S' z9=>?_;clear 5 z9 e v l2 er hv;subst e er;right;refine(hc r ∅ hw.2 hn.2 ht.2 l2 _).mono λr' S' z9=>?_;clear 5 z9 e v' l3 er hv';subst e er;right;exact⟨rfl,_,_,rfl,by rw[Ak,hv,hv'];rfl⟩
 |choice ss=>
   rw[Sh.depth] at hs;simp only[wf,uh3,ug6] at hw;rw[Da] at hn;rw[Fe] at ht;have h1:=uk2 cell (b:=(ss.length:Int)) ∅;have h2:=uf4 cell (b:=(ss.length:Int)) ∅;have hk:(cell%(ss.length:Int)).toNat<ss.length:=by lia
   have e1:ss[(cell%(ss.length:Int)).toNat]?=some ss[(cell%(ss.length:Int)).toNat]:=ub1 hk;have ea:atI (shD ss) (cell%(ss.length:Int))=some (ss[(cell%(ss.length:Int)).toNat]).d:=by
    unfold atI;rw[Co h1 (by rw[EK];exact h2)];show(shD ss)[(cell%(ss.length:Int)).toNat]?=_;rw[IC,e1];rfl
   rw[Sh.d];right;rw[EK];rw[7,LC ∅];rw[7,EE ea];rw[EK];rw[7,NJ ∅ ∅];refine(hc _ (um6 (CY ss _ _ e1) ∅) (EL hw.2 _ (ui1 hk)) (K6 hn _ (ui1 hk)) (Oe ht _ (ui1 hk)) _ _).mono λr' S' z9=>?_;clear 5 z9 e v l2 er hv;subst e er;right;have ho:IZ (Str.ofString "of")=true:=by decide +kernel
   exact⟨rfl,_,_,rfl,by simp only[Ak,ho,h1,h2,decide_true,um1,ul9,CV ss _ _ _ e1,hv]⟩
def Ko(f:Fn):Prop:=∀(ns:List Int) (k:Int),0<=k->k<=1000->∃c:Int,Pure1 f [.scr ns,.int k] (.int c)
theorem Uf:Ko (fnOf 2 2 Ej):=by
 intro ns k h0 h1
 by_cases z:k<ns.length
 .have hk:k.toNat<ns.length:=by lia
  refine⟨ns[k.toNat],λS=>Ai rfl ?_⟩;unfold Ej;right;rw[7,HZ (uk9 ∅)];refine W_ix_scr.mpr ⟨ns[k.toNat],?_,?_⟩
  .unfold atI;rw[Co h0 ∅];show ns[k.toNat]?=_;rw[ub1 hk]
  .exact⟨rfl,rfl⟩
 .refine⟨23*k*k+13*k+5,λS=>Ai rfl ?_⟩;unfold Ej;right;rw[7,EO (uk3 ∅)];rw[7,Ga ∅ ∅];rw[7,Ga ∅ ∅];rw[7,Ga ∅ ∅];exact⟨rfl,rfl⟩
def bX(f:Fn):Prop:=∀(cell k:Int),0<=k->k<=10->∃c:Int,Pure1 f [.int cell,.int k] (.int c)
theorem gM:bX (fnOf 2 3 Gq):=by
 intro cell k k0 k1;have b0:=uk2 (cell*48271+7919*k*k+104729*k+11) (b:=2147483647) (by decide);have b1:=uf4 (cell*48271+7919*k*k+104729*k+11) (b:=2147483647) (by decide);obtain⟨x,hx⟩:∃x,x=(cell*48271+7919*k*k+104729*k+11)%2147483647:=⟨_,rfl⟩;rw[<-hx] at b0 b1;have d0:=uk2 (x*x) (b:=2147483629) (by decide);have d1:=uf4 (x*x) (b:=2147483629) (by decide);obtain⟨y,hy⟩:∃y,y=x*x%2147483629:=⟨_,rfl⟩;rw[<-hy] at d0 d1;refine⟨y*y+y*1000003+cell,λS=>Ai rfl ?_⟩;unfold Gq;right;rw[7,Ga (by decide) (by decide)];rw[7,Ga ∅ ∅];rw[7,Ga ∅ ∅];rw[7,Ga ∅ ∅];rw[<-hx];rw[7,Ga ∅ ∅];rw[<-hy];rw[7,Ga ∅ ∅];rw[7,Ga ∅ ∅];exact⟨rfl,rfl⟩
noncomputable def nmN(r:Int)(j:Nat):Str:=Txt.mul ⟨#[97+j]⟩ r
theorem Z9{r:Int}(h:1<=r){i j:Nat}(e:nmN r i=nmN r j):i=j:=by
 have e:(nmN r i).cps.toList=(nmN r j).cps.toList:=by rw[e]
 unfold nmN at e;rw[PR,PR] at e;obtain⟨m,hm⟩:∃m,r.toNat=m+1:=⟨r.toNat-1,by lia⟩;rw[hm,ue0,ue0] at e;injection e with e _
 lia
theorem dJ{r:Int}(h:1<=r)(n:Nat):((List.range n).map (nmN r)).Nodup:=List.pairwise_map.mpr (List.nodup_range.imp λh2 e=>h2 (Z9 h e))
def N9(x:GS):Prop:=∀w∈x.ws,w.1.length<=3/\∀c∈w.1.cps.toList,c<122
theorem YH{r:Int}(h:r<=3){j:Nat}(hj:j<3):(nmN r j).length<=3/\∀c∈(nmN r j).cps.toList,c<122:=by
 unfold nmN;rw[Pz,PR];refine⟨by lia,λc hc=>?_⟩;have:=List.eq_of_mem_replicate hc;lia
theorem gh(h:j<3):atI (Str.ofString "abc").cps.toList (0+(j:Int))=some (97+j):=by
 have e:(Str.ofString "abc").cps.toList=[97,98,99]:=by decide +kernel
 rw[e]
 match j,h with
 |0,_=>rfl
 |1,_=>rfl
 |2,_=>rfl
def GrN(f:Fn):Prop:=∀(ns:List Int) (S:List Ob),Wf f [.scr ns,.int 2,.bl true] S λr S'=>S'=S/\∃g:List GS,r=.lst (g.map GS.d)/\GOk g/\g.length<=6/\∀x∈g,Tin x/\N9 x
def HX(ns:List Int)(many:Int)(gs:List GS)(e5 e6 e7 e8 e9 e10 e11:Option Sl):List (Option Sl):=[vw (.scr ns),vw (.int 2),vw (.bl true),vw (.int many),some (.own (gs.map GS.d)),e5,e6,e7,e8,e9,e10,e11]
variable{cm:Fn}
theorem jq{cs:Fn}(hs:JH cs 2)(hc:Ko cc)(hm:bX cm):GrN (fnOf 3 12 (Ew cs cc cm)):=by
 intro ns S;have hL:LIM=100000:=rfl;clear 5(hc ns 0 (by decide) (by decide))c0 hc0;have m0:=uk2 c0 (b:=6) (by decide);have m1:=uf4 c0 (b:=6) (by decide);refine Ai rfl ?_;unfold Ew;right;rw[7,(hc0).use];obtain⟨many,hmany⟩:∃many,many=1+c0%6:=⟨_,rfl⟩;rw[<-hmany];refine ET (Bq ∅ ∅) ?_;refine BG (λr t=>XN8 λ(gs:List GS) (e5 e6 e7 e8 e9 e10 e11:Option Sl)=>AN4 (r=(Bf 0 many.toNat).drop gs.length) (gs.length<=many.toNat) ((∀x∈gs,GSOk many x/\Tin x/\N9 x)) (t=⟨HX ns many gs e5 e6 e7 e8 e9 e10 e11,S⟩)) _ _ ⟨[],none,none,none,none,none,none,none,rfl,un7 _,(λ_ h=>nomatch h),rfl⟩ ?_ ?_
 .rintro d r t ⟨gs,e5,e6,e7,e8,e9,e10,e11,hr,hle,hgs,rfl⟩ _;clear 5(De hr)rfl hr2 hlt;unfold HX;clear 5(hc ns (2+(0+(gs.length:Int))) ∅ ∅)c1 hc1;right;rw[7,hc1.use];rw[7,hc0.use];refine dq (λo t'=>o=.next/\∃c:Int,t'=⟨HX ns many gs (vw (.int (0+(gs.length:Int)))) (vw (.int c)) e7 e8 e9 e10 e11,S⟩) (λ_=>?_) (λ_=>?_) ?_
  .clear 5(hm c1 (0+(gs.length:Int)) ∅ ∅)c2 hc2;right;rw[7,hc2.use];exact⟨rfl,_,rfl⟩
  .right;exact⟨rfl,_,rfl⟩
  rintro o t' ⟨rfl,c,rfl⟩;unfold HX
  iterate 16 (walk_at"w1")
  refine wIf ?_;refine L2.W.mono (P:=λb t'=>t'=⟨HX ns many gs (vw (.int (0+(gs.length:Int)))) (vw (.int (c/5))) (vw (.int (c%5))) e8 e9 e10 e11,S⟩) ?_ ?_
  .right;refine EN (λ_=>?_) λ_=>?_
   .right;refine EN (λ_=>?_) λ_=>?_
    .right;rfl
    .right;rfl
   .right;rfl
  rintro b t' rfl;unfold HX;refine EN (λ_=>?_) λ_=>?_
  .right;refine Bi (by rw [ui7,hL];lia) ?_;right;refine W_ret.mpr ?_;exact ⟨gs++[.fin],_,_,_,_,_,_,_,by rw [ue9];exact hr2,by rw [ue9];show _ + 1<=_;lia,λx hx=>by
    rcases ui5.mp hx with h|h
    .exact hgs x h
    .rw[uf1] at h;subst h;exact⟨.fin,(λ_ z=>nomatch z),λ_ z=>nomatch z⟩,by rw[uk0];rfl⟩
  .right;have q0:=uk2 (c/5) (b:=3) (by decide);have q1:=uf4 (c/5) (b:=3) (by decide);obtain⟨n3,hn3⟩:∃n3:Nat,1+c/5%3=n3:=⟨(1+c/5%3).toNat,by lia⟩;obtain⟨rr,hrr⟩:∃rr:Int,rr=1+(0+(gs.length:Int))%3:=⟨_,rfl⟩;have r1:1<=rr/\rr<=3:=by lia
   rw[hn3];refine ET (Bq ∅ ∅) ?_;rw[uf8];refine BG (λr t=>XN5 λ(ws:List (Str×Sh×Int)) (l:Int) (e9 e10 e11:Option Sl)=>AN5 (r=(Bf 0 n3).drop ws.length) (ws.length<=n3) (ws.map (·.1)=(List.range ws.length).map (nmN rr)) ((∀w∈ws,WOk many w/\Dr 2 w.2.1)) (t=⟨HX ns many gs (vw (.int (0+(gs.length:Int)))) (vw (.int l)) (vw (.int (c%5))) (some (.own (ws.map wdD))) e9 e10 e11,S⟩)) _ _ ⟨[],_,_,_,_,rfl,un7 _,rfl,(λ_ h=>nomatch h),rfl⟩ ?_ ?_
   .rintro d r t ⟨ws,l,e9,e10,e11,hw,hwl,hwn,hws,rfl⟩ _;clear 5(De hw)rfl hw2 hwlt;unfold HX;right;rw[7,LC ∅];rw[7,NJ ∅ ∅];refine(hs _ S).mono λr' S' z9=>?_;clear 5 z9 e s l2 er hd;subst e er;right;rw[7,fU (by decide +kernel) (gh ∅)];rw[<-hrr];refine Zb ⟨Bq ∅ ∅,by show 1*_<=_;lia,by lia,by show 1<=_;lia⟩ ?_;right;refine Bi (by rw[ui7,hL];lia) ?_;refine⟨ws++[(nmN rr ws.length,s,l/3%many)],_,_,_,_,by rw[ue9];exact hw2,by rw[ue9];show _+1<=_;lia,by rw[ue9,uk0,hwn];show _=(List.range (ws.length+1)).map _;rw[List.range_succ,uk0];rfl,λw hw'=>?_,by rw[uk0];rfl⟩;rcases ui5.mp hw' with h|h
    .exact hws w h
    .rw[uf1] at h;subst h;exact⟨⟨hd.ok,hd.dep,uk2 _ ∅,uf4 _ ∅,um6 (YH r1.2 ∅).1 (by decide)⟩,hd⟩
   .rintro t ⟨ws,l,e9,e10,e11,hw,hwl,hwn,hws,rfl⟩;unfold HX;have hwe:ws.length=n3:=by
     have:=pQ List.length hw;rw[uh2,Dy] at this;have:0=n3-ws.length:=this;lia
    clear 5(g8 l)side hsd hside;right;rw[7,A4 hsd];refine Bi (by rw[ui7,hL];lia) ?_;refine⟨gs++[.st side ws],_,_,_,_,_,_,_,by rw[ue9];exact hr2,by rw[ue9];show _+1<=_;lia,λx hx=>?_,by rw[uk0];rfl⟩;rcases ui5.mp hx with h|h
    .exact hgs x h
    .rw[uf1] at h;subst h;refine⟨.st hside ∅ ∅ (by rw[hwn];exact dJ r1.1 _) λw h=>(hws w h).1,λw h=>(hws w h).2,λw h=>?_⟩;have:w.1∈ws.map (·.1):=List.mem_map_of_mem h;rw[hwn] at this;clear 5(List.mem_map.mp this)j hj ej;rw[List.mem_range] at hj;rw[<-ej];exact YH r1.2 ∅
 .rintro t ⟨gs,e5,e6,e7,e8,e9,e10,e11,hr,hle,hgs,rfl⟩;unfold HX;have he:gs.length=many.toNat:=by
   have:=pQ List.length hr;rw[uh2,Dy] at this;have:0=many.toNat-gs.length:=this;lia
  right;exact⟨rfl,gs,rfl,⟨by lia,by lia,λx hx=>by rw[show(gs.length:Int)=many by lia];exact(hgs x hx).1⟩,by lia,λx hx=>(hgs x hx).2⟩
local macro_rules | `(tactic| walk_at"y1")=>`(tactic| first
 |walk_at"x1" |clear 31 Ym NM QD Za Y9)
section
variable{n0:Nat}{S S1 S2:List Ob}{k:Nat}{g:List GS}{vl vr:List Nat}{h a b W P l r:Nat}{o:Ob}
end
section
variable{F:List (Nat×Ob)}{n0:Nat}{S S1:List Ob}{k:Nat}{g:List GS}{vl vr:List Nat}{h a b W P l r m R:Nat}
end
abbrev InS(S:List Ob)(g:List GS)(x o:Str)(h a:Nat)(w:List Nat)(k l W P:Nat):Prop:=Ins S "Side" [] g x o h a w k l W P
def GC(ar:Nat->Str->D->List D)(f:Fn):Prop:=∀(S:List Ob) (g:List GS) (x o:Str) (h a:Nat) (w y:List Nat) (k l W P:Nat) (t:List D) (h' a1 b1:Nat),GOk g->Two x o->h<g.length->a<=w.length->(w++y).length<=25000->w1 g o (w++y) ((w++y).length+1) h a []=(t,h',a1,b1,none)->InS S g x o h a w k l W P->
 Wf f (ar k o (.lst (wD y))) S λr S'=>r=.lst t/\Kx [k,l] S S'/\∃P',S.length<=P'/\InS S' g x o h' (onS o a1 b1) (w++y) k l W P'
abbrev arH(k:Nat)(o:Str)(d:D):List D:=[.obj k,.str o,d]
abbrev arT(k:Nat)(_:Str)(d:D):List D:=[.obj k,d]
theorem W7(hc:Ld c):GC arH (fnOf 3 4 (E5 c)):=by
 intro S g x o h a w y k l W P t h' a1 b1 hg ho hh ha hl hw R;have hL:LIM=100000:=rfl;have hly:w.length+y.length<=25000:=by rw[ue9] at hl;exact hl
 rw[9,E5];rw[6,TF (k:=l)];rw[6,A6 R.ik rfl];refine Cv R.iw Ir ?_;refine⟨rfl,_,R.il,?_⟩;symm;refine⟨_,wD w++wD y,R.il,by simp only[E1];rw[pW (by rw[A3,A3,hL];lia)],?_⟩;have R1:=R.ext y;have K1:Kx [k,l] S (S.set l (.lst (wD w++wD y))):=Kx.refl.set (by simp);generalize S.set l (.lst (wD w++wD y))=S1 at R1 K1⊢;symm;rw[6,A6 R1.ik rfl];rw[6,A6 R1.ik rfl];rw[6,A6 R1.ik rfl];rw[6,A6 R1.ik rfl];refine(hc g o (w++y) (.obj l) h a W P S1 t h' a1 b1 hg ho.o hh (by rw[ue9];lia) hl (.inr ⟨l,rfl,R1.il⟩) R1.iw R1.ip hw).mono ?_;rintro r S2 ⟨hG,K,hK0,rfl,hK⟩;have R2:=R1.gr hG;have K2:=K1.gr hG;symm;rw[6,Df R2.ik R2.fl];rw[6,Df (Bh R2.ik) R2.fl];refine⟨rfl,(K2.set (by simp)).set (by simp),K,by have:=K1.1;lia,?_⟩;show Ins ((S2.set k (.ins "Side" (bsF g x h' W P []))).set k (.ins "Side" (bsF g x h' W K []))) "Side" [] g x o h' (onS o a1 b1) (w++y) k l W K;rw[List.set_set];exact R2.put hK R2.el
theorem SV(h1:EF co)(h2:GC arH ch):GC arT (fnOf 2 2 (E6 co ch)):=by
 intro S g x o h a w y k l W P t h' a1 b1 hg ho hh ha hl hw R;rw[9,E6];refine⟨k,_,rfl,R.ik,?_⟩;symm;rw[6,A6 R.ik rfl];rw[6,(h1 x o ho).use];exact h2 S g x o h a w y k l W P t h' a1 b1 hg ho hh ha hl hw R
theorem Yf(hc:GC arT c):GC arT (fnOf 2 2 (FU c)):=by
 intro S g x o h a w y k l W P t h' a1 b1 hg ho hh ha hl hw R;rw[9,FU];refine⟨k,_,rfl,R.ik,?_⟩;symm;exact hc S g x o h a w y k l W P t h' a1 b1 hg ho hh ha hl hw R
def OF(f:Fn):Prop:=∀(S:List Ob) (g:List GS) (x o:Str) (h a:Nat) (w y:List Nat) (k l W P p:Nat) (v:D),GOk g->MvOk g h p v->(Ao g h).side=x->mbQ g h p v=wD y->y.length<=25000->InS S g x o h a w k l W P->
 Wf f [.obj k,.str (wdAt g h p).1,v] S λr S'=>r=.lst (wD y)/\Kx [k] S S'/\InS S' g x o (Ct g h p) a w k l W P
theorem VR(hm:Oq cm)(hn:Io cn)(hp:IK cp):OF (fnOf 3 5 (FB cm cn cp)):=by
 intro S g x o h a w y k l W P p v hg hv hx hy hl R;refine Ai rfl ?_;unfold FB;have hpl:=hp g h p v hg hv;unfold Fb at hpl;rw[hx] at hpl;have hyl:(AH (wdAt g h p).2.1 v).length+1=y.length:=by
  have:=pQ List.length hy;rw[ug9,A3] at this;exact this
 symm;rw[6,A6 R.ik rfl];rw[6,A6 R.ik rfl];rw[6,A4 (Bv hv.lt)];rw[6,A6 R.ik rfl];rw[6,hpl.use];rw[6,A6 R.ik rfl];rw[6,A6 R.ik rfl];rw[6,(hn g h p hg hv.lt hv.pl).use];rw[6,Df R.ik R.fl];rw[6,(hm g h p v hg hv ∅).use];exact⟨by rw[<-hy],Kx.refl.set (by simp),R.put R.ip R.el⟩
theorem aU(hc:OF c):OF (fnOf 3 3 (Gp c)):=by
 intro S g x o h a w y k l W P p v hg hv hx hy hl R;rw[9,Gp];refine⟨k,_,rfl,R.ik,?_⟩;symm;exact hc S g x o h a w y k l W P p v hg hv hx hy hl R
section
variable{S:List Ob}{g:List GS}{x o:Str}{h a:Nat}{w:List Nat}{k l W P:Nat}
theorem Zd(h1:EF co)(ho:Two x o)(R:InS S g x o h a w k l W P):Fq S (fnOf 1 1 (CP co (fnOf 2 2 CA))) [.obj k] (.int ((w.length:Int)-(a:Int))):=by
 rw[9,CP];refine⟨k,_,rfl,R.ik,?_⟩;symm;rw[6,A6 R.ik rfl];rw[6,(h1 x o ho).use];rw[9,CA];rw[6,A6 R.ik rfl];rw[6,Cv R.iw Ir];rw[6,Ju R.il];rw[6,A6 R.ik rfl];rw[6,Cv R.ip Ir];rw[A3];exact⟨rfl,rfl⟩
theorem VS{n:Str}(R:Ins S n E g x o h a w k l W P):Fq S (fnOf 1 1 DJ) [.obj k] (.int (h:Nat)):=by
 rw[9,DJ];refine A6 R.ik rfl ?_;exact⟨rfl,rfl⟩
theorem dE(hh:h<g.length)(R:InS S g x o h a w k l W P):Fq S (fnOf 1 1 CO) [.obj k] (.bl ((Ao g h).side==x)):=by
 rw[9,CO];rw[6,A6 R.ik rfl];rw[6,A6 R.ik rfl];rw[6,A4 (Bv hh)];rw[6,da];rw[6,A6 R.ik rfl];exact⟨rfl,rfl⟩
theorem cK(he:DB ce)(hg:GOk g)(hh:h<g.length)(R:InS S g x o h a w k l W P):Fq S (fnOf 1 1 (Cl ce)) [.obj k] (.bl (Ao g h).isFin):=by
 rw[9,Cl];rw[6,A6 R.ik rfl];rw[6,A6 R.ik rfl];rw[6,A4 (Bv hh)];refine(he _ _ (By hg hh) S).mono ?_;rintro r S' ⟨rfl,rfl⟩;symm;exact⟨rfl,rfl⟩
end
abbrev lrF{α:Type}(F:α->D)(x:Str)(a b:α):List (Key×D):=lr (F (onS x a b)) (F (onS x b a))
section
variable{α:Type}{F:α->D}{x o:Str}{a b d:α}
theorem Tc:onS x (F a) (F b)=F (onS x a b):=by unfold onS;split<;>rfl
theorem KK(h:Two x o):onS o b a=onS x a b:=by
 unfold onS;rcases h with⟨rfl,rfl⟩|⟨rfl,rfl⟩
 .rw[pW rfl,pX (Ne.symm sLR)]
 .rw[pW rfl,pX (Ne.symm sLR)]
theorem Hk(h:Two x o):lrF F x a b=lrF F o b a:=by unfold lrF;rw[KK h,KK h]
theorem GP(h:x=sL\/x=sR):AR (lrF F x a b) (.inr x)=some (F a):=by rw[Mr h,Tc,No]
theorem Ja(h:Two x o):AR (lrF F x a b) (.inr o)=some (F b):=by rw[Hk h];exact GP h.o
theorem Rp(h:x=sL\/x=sR):BJ (lrF F x a b) (.inr x) (F d)=lrF F x d b:=by rw[UY h,Tc,Tc,dN,dO]
theorem Xi(h:Two x o):BJ (lrF F x a b) (.inr o) (F d)=lrF F x a d:=by rw[Hk h,Rp h.o,<-Hk h]
end
theorem F7{g:List GS}(ht:∀x∈g,Tin x)(s:Str):∀(mv:List Mv) (q:Nat),okQ g q mv->(An g s q mv).length<=41*mv.length
 |[],q,_=>un7 _
 |(p,v)::r,q,hk=>by
   rw[okQ] at hk;have h1:=F7 ht s r _ hk.2;have h2:=U2 ht hk.1;rw[An,ue9,ug9];have h3:(if (Ao g q).side=s then D.int (p:Int)::AH (wdAt g q p).2.1 v else []).length<=41:=by
    split
    .exact h2
    .exact un7 _
   lia
structure Vw(g:List GS)(o:Str)(mv m1 m2:List Mv)(tk n:Nat):Prop where
 e:mv=m1++m2
 al:Gk g o (Ah g 0 m1) m2
 a:(An g o 0 m1).length<=tk
 t:tk<=n
 c:Sg g (Ah g 0 m1) (An g o 0 m1).length tk m2
theorem Vw.lt(hg:GOk g){o:Str}{mv m1 m2:List Mv}{tk n:Nat}(v:Vw g o mv m1 m2 tk n)(hk:okQ g 0 mv):Ah g 0 m1<g.length:=by
 rw[v.e,GR] at hk;exact KF hg hg.ne hk.1
variable{mv m1 m2:List Mv}{tk:Nat}
theorem Vw.all{x o:Str}(v:Vw g o mv m1 m2 tk n)(h:(Ao g (Ah g 0 m1)).side=x)(ne:x≠o):m2=[]:=by
 cases m2 with
 |nil=>rfl
 |cons m r=>
   clear 5 m p d;have:=v.al;rw[Gk] at this;exact absurd (h.symm.trans this.1) ne
theorem WD{m r:List Mv}(h:Sg g q a tk m)(n:m≠[]):Sg g q a tk (m++r):=by
 cases m with
 |nil=>exact absurd rfl n
 |cons p m=>exact h
theorem Vw.done{o:Str}(v:Vw g o mv m1 m2 tk n)(e:(An g o 0 mv).length=tk):m1=mv:=by
 cases m2 with
 |nil=>have:=v.e;rw[ui9] at this;exact this.symm
 |cons m r=>
   clear 5 m p d;exfalso;have hc:tk<(An g o 0 m1).length+(mbQ g (Ah g 0 m1) p d).length:=v.c;have ha:=v.al;rw[Gk] at ha;rw[v.e,Dt,An,pW ha.1,ue9,ue9] at e;have e:(An g o 0 m1).length+((mbQ g (Ah g 0 m1) p d).length+(An g o (Ct g (Ah g 0 m1) p) r).length)=tk:=e;lia
section
variable{g:List GS}{mv:List Mv}{wl wr:List Nat}
end
theorem Vw.say{x:Str}(V:Vw g x mv m1 m2 tk n)(hn:(An g x 0 mv).length=n)(hs:(Ao g (Ah g 0 mv)).side=x):Vw g x (mv++[(p,v)]) m1 (m2++[(p,v)]) tk (n+(mbQ g (Ah g 0 mv) p v).length):=by
 have ht:=V.t;refine⟨by rw[<-ug0,<-V.e],(Lg _ m2 _).mpr ⟨V.al,?_⟩,V.a,by lia,?_⟩
 .rw[<-CW,<-V.e];exact⟨hs,trivial⟩
 .by_cases q:m2=[]
  .have e3:m1=mv:=by have:=V.e;rw[q,ui9] at this;exact this.symm
   rw[q,e3];show tk<(An g x 0 mv).length+(mbQ g (Ah g 0 mv) p v).length;rw[ug9];lia
  .exact WD V.c q
theorem Yt{x:Str}(hs:(Ao g (Ah g 0 mv)).side=x):An g x 0 (mv++[(p,v)])=An g x 0 mv++mbQ g (Ah g 0 mv) p v:=by rw[Dt,An,An,ui9,pW hs]
theorem LG{o:Str}(hs:¬(Ao g (Ah g 0 mv)).side=o):An g o 0 (mv++[(p,v)])=An g o 0 mv:=by rw[Dt,An,An,ui9,pX hs,ui9]
theorem Vw.own{o:Str}(V:Vw g o mv mv [] tk n)(hs:¬(Ao g (Ah g 0 mv)).side=o):Vw g o (mv++[(p,v)]) (mv++[(p,v)]) [] tk n:=
 ⟨(ui9 _).symm,trivial,by rw[LG hs];exact V.a,V.t,trivial⟩
theorem Vw.take{g:List GS}(hg:GOk g){o:Str}(ho:o=sL\/o=sR){mv m1 m2:List Mv}{tk k:Nat}{w:List Nat}(V:Vw g o mv m1 m2 tk w.length)(hk:okQ g 0 mv)(e:An g o 0 mv=wD w)(hl:tk+k<=w.length) :
 ∃n1 n2 a1 b1,m2=n1++n2/\Vw g o mv (m1++n1) n2 (tk+k) w.length/\w1 g o (w.take (tk+k)) (tk+k+1) (Ah g 0 m1) (An g o 0 m1).length []=(AK g (Ah g 0 m1) n1,Ah g 0 (m1++n1),a1,b1,none)/\onS o a1 b1=(An g o 0 (m1++n1)).length:=by
 have hlt:=V.lt hg hk;have hal:=V.a;have hko:=hk;rw[V.e,GR] at hko;have ewo:wD w=An g o 0 m1++An g o (Ah g 0 m1) m2:=by rw[<-e,V.e,Dt]
 have elen:(An g o 0 m1).length+(An g o (Ah g 0 m1) m2).length=w.length:=by
  have:=pQ List.length ewo;rw[A3,ue9] at this;exact this.symm
 obtain⟨n1,n2,em,hle,hcut,hw1⟩:=Sc hg ho (w:=w) (tk:=tk+k) hl m2 (Ah g 0 m1) (An g o 0 m1).length (tk+k+1) [] hlt hko.2 V.al ⟨An g o 0 m1,[],by rw[ui9];exact ewo,rfl⟩ elen ∅ ∅;rw[uj3] at hw1;have hal2:=V.al;rw[em,Lg] at hal2;have ew1:(An g o 0 (m1++n1)).length=(An g o 0 m1).length+(An g o (Ah g 0 m1) n1).length:=by rw[Dt,ue9]
 refine⟨n1,n2,_,_,em,⟨by rw[ug0,<-em];exact V.e,by rw[CW];exact hal2.2,by rw[ew1];exact hle,hl,by rw[CW,ew1];exact hcut⟩,by rw[CW];exact hw1,?_⟩;rw[No,ew1]
set_option genInjectivity false in structure Vt where
 m1:List Mv
 m2:List Mv
 t:Nat
 w:List Nat
set_option genInjectivity false in structure Ip where
 kx:Nat
 lx:Nat
 ko:Nat
 lo:Nat
 p:Nat
 U:Nat
noncomputable def Ip.swap(i:Ip):Ip:=⟨i.ko,i.lo,i.kx,i.lx,i.p,i.U⟩
abbrev paF(x:Str)(kx ko U:Nat):List (Str×D):=[("left",.obj (onS x kx ko)),("right",.obj (onS x ko kx)),("under_way",.obj U)]
structure Pa(g:List GS)(x o:Str)(i:Ip)(S:List Ob)(mv:List Mv)(a b:Vt)(ux uo:Nat):Prop where
 two:Two x o
 ok:okQ g 0 mv
 ex:An g x 0 mv=wD a.w
 eo:An g o 0 mv=wD b.w
 vx:Vw g o mv a.m1 a.m2 a.t b.w.length
 vo:Vw g x mv b.m1 b.m2 b.t a.w.length
 jp:S[i.p]?=some (.ins "Parley" (paF x i.kx i.ko i.U))
 jU:S[i.U]?=some (.dct (lrF D.obj x ux uo))
 jx:S[ux]?=some (.lst (wD (a.w.drop b.t)))
 jo:S[uo]?=some (.lst (wD (b.w.drop a.t)))
 jX:∃W P,InS S g x o (Ah g 0 a.m1) (An g o 0 a.m1).length (b.w.take a.t) i.kx i.lx W P
 jO:∃W P,InS S g o x (Ah g 0 b.m1) (An g x 0 b.m1).length (a.w.take b.t) i.ko i.lo W P
 nk:i.kx≠i.ko
 nd:[ux,uo,i.lx,i.lo].Nodup
variable{U:Nat}{ls:List Nat}
section
variable{g:List GS}{x o:Str}{i:Ip}{S S':List Ob}{mv:List Mv}{a b:Vt}{ux uo:Nat}
theorem nd4{a b c d:Nat}(h:[a,b,c,d].Nodup):a≠b/\a≠c/\a≠d/\b≠c/\b≠d/\c≠d:=by
 simp only[List.nodup_cons,ul1,uh9,pS,not_or] at h;exact⟨h.1.1,h.1.2.1,h.1.2.2,h.2.1.1,h.2.1.2,h.2.2.1⟩
theorem mk4{a b c d:Nat}(h:a≠b/\a≠c/\a≠d/\b≠c/\b≠d/\c≠d):[a,b,c,d].Nodup:=by
 simp only[List.nodup_cons,ul1,uh9,pS,not_or];exact⟨⟨h.1,h.2.1,h.2.2.1⟩,⟨h.2.2.2.1,h.2.2.2.2.1⟩,h.2.2.2.2.2,id,pz⟩
theorem Pa.swap(h:Pa g x o i S mv a b ux uo):Pa g o x i.swap S mv b a uo ux:=
 ⟨h.two.swap,h.ok,h.eo,h.ex,h.vo,h.vx,by have:=h.jp;unfold paF at this⊢;rw[<-KK h.two,<-KK h.two] at this;exact this,by rw[<-Hk h.two];exact h.jU,h.jo,h.jx,h.jO,h.jX,Ne.symm h.nk,
  mk4 (by clear 5(nd4 h.nd)a1 a2 a3 a4 a5 a6;exact⟨Ne.symm a1,a5,a4,a3,a2,Ne.symm a6⟩)⟩
theorem Pa.ltx(h:Pa g x o i S mv a b ux uo)(hg:GOk g):Ah g 0 a.m1<g.length:=h.vx.lt hg h.ok
theorem Pa.lx(h:Pa g x o i S mv a b ux uo):(An g x 0 mv).length=a.w.length:=by rw[h.ex,A3]
def JF(S:List Ob)(U:Nat)(ls:List Nat)(j:Nat):Prop:=(∃fs,S[j]?=some (.ins "Reader" fs))\/(∃ds,S[j]?=some (.lst ds)/\j∉ls)\/∃kv,S[j]?=some (.dct kv)/\2<=kv.length/\j≠U
theorem Np{n:Str}{fs:List (Str×D)}(e:S[j]?=some (.ins n fs))(hn:n≠"Reader")(h:JF S U ls j):False:=by
 rcases h with⟨f,e1⟩|⟨d,e1,_⟩|⟨kv,e1,_,_⟩<;>(rw[e] at e1;cases e1)
 exact hn rfl
theorem KL(e:S[j]?=some (.lst ds))(hn:j∈ls)(h:JF S U ls j):False:=by
 rcases h with⟨f,e1⟩|⟨d,e1,n⟩|⟨kv,e1,_,_⟩
 .rw[e] at e1;cases e1
 .exact n hn
 .rw[e] at e1;cases e1
theorem Vm{o:Str}{d:D}(e:S[j]?=some (.dct (d1 o d)))(h:JF S U ls j):False:=by
 rcases h with⟨f,e1⟩|⟨d,e1,n⟩|⟨kv,e1,h2,_⟩<;>(rw[e] at e1;cases e1)
 exact absurd h2 (by show ¬2<=1;decide)
theorem YI{kv:List (Key×D)}(e:S[U]?=some (.dct kv))(h:JF S U ls U):False:=by
 rcases h with⟨f,e1⟩|⟨d,e1,n⟩|⟨kv,e1,_,n⟩
 .rw[e] at e1;cases e1
 .rw[e] at e1;cases e1
 .exact n rfl
theorem Ins.out{n:Str}{c:Nat}{k W P:Nat}(R:Ins S n E g x o h c w k l W P)(hn:n≠"Reader")(hl:l∈ls)(K:Kx F S S')(hF:∀j∈F,JF S U ls j):Ins S' n E g x o h c w k l W P:=
 R.keep K (λz=>Np R.ik hn (hF _ z)) (λz=>KL R.il hl (hF _ z)) (λz=>Vm R.iw (hF _ z)) (λz=>Vm R.ip (hF _ z))
theorem Pa.keep(h:Pa g x o i S mv a b ux uo)(K:Kx F S S')(hF:∀j∈F,JF S i.U [ux,uo,i.lx,i.lo] j):Pa g x o i S' mv a b ux uo:=by
 clear 5 h.jX W P X;clear 5 h.jO W2 P2 O;exact⟨h.two,h.ok,h.ex,h.eo,h.vx,h.vo,K.get (λz=>Np h.jp (by decide) (hF _ z)) h.jp,K.get (λz=>YI h.jU (hF _ z)) h.jU,K.get (λz=>KL h.jx (by simp) (hF _ z)) h.jx,K.get (λz=>KL h.jo (by simp) (hF _ z)) h.jo,
  ⟨W,P,X.out (by decide) (by simp) K hF⟩,⟨W2,P2,O.out (by decide) (by simp) K hF⟩,h.nk,h.nd⟩
end
section
variable{S:List Ob}{x o:Str}{p kx ko U:Nat}
theorem Oy(h:Two x o)(e:S[p]?=some (.ins "Parley" (paF x kx ko U))):Fq S (fnOf 2 2 BU) [.obj p,.str x] (.obj kx):=by
 refine Ai rfl ?_;unfold BU;rcases h with⟨rfl,rfl⟩|⟨rfl,rfl⟩
 .symm;refine A6 e rfl ?_;exact⟨rfl,rfl⟩
 .symm;refine A6 e rfl ?_;exact⟨rfl,rfl⟩
end
theorem kg{x:Str}(hx:x=sL\/x=sR)(h:P (.bl true) t):L2.W (inD false (.str x) (.gts ["left", "right"])) t P:=by
 refine⟨_,_,?_,h⟩;rcases hx with rfl|rfl<;>rfl
theorem iD{x:Str}(h:P (.bl true) t):L2.W (inD false (.str x) (.tup [.str x])) t P:=by
 refine⟨_,_,?_,h⟩;simp[inD,MB,Mi,toV,inV,eqV]
theorem gN{x:Str}(hx:x=sL\/x=sR):Pure1 (fnOf 2 2 Cs) [.str x,.gts ["left", "right"]] (.bl true):=by
 intro S;rw[9,Cs];refine kg hx ?_;exact⟨rfl,rfl⟩
theorem one_t{x:Str}:Pure1 (fnOf 2 2 Cs) [.str x,.tup [.str x]] (.bl true):=by
 intro S;rw[9,Cs];refine iD ?_;exact⟨rfl,rfl⟩
theorem T3{x k:Str}(hx:x=sL\/x=sR)(hn:ds.length+2=n):Pure1 (fnOf 3 3 (E9 (fnOf 2 2 Cs))) [.tup (.str k::.str x::ds),.str k,.int n] (.bl true):=by
 intro S;rw[9,E9];refine EO (by simp;lia) ?_;symm;rw[6,one_t.use];refine(gN hx).use ?_;exact⟨rfl,rfl⟩
theorem b7{k:Str}(hn:ds.length≠n):Pure1 (fnOf 3 3 (E9 (fnOf 2 2 Cs))) [.tup ds,.str k,.int n] (.bl false):=by
 intro S;rw[9,E9];refine HZ (by simp;lia) ?_;symm;exact⟨rfl,rfl⟩
def II(ar:Nat->Str->D->D->List D)(f:Fn):Prop:=∀(S:List Ob) (g:List GS) (x o:Str) (i:Ip) (mv:List Mv) (a b:Vt) (ux uo p:Nat) (v:D) (y:List Nat),GOk g->Pa g x o i S mv a b ux uo->a.m1=mv->MvOk g (Ah g 0 mv) p v->(Ao g (Ah g 0 mv)).side=x->mbQ g (Ah g 0 mv) p v=wD y->a.w.length+y.length<=25000->
 Wf f (ar i.p x (.str (wdAt g (Ah g 0 mv) p).1) v) S λr S'=>r=.lst (wD y)/\Kx [i.kx,ux] S S'/\Pa g x o i S' (mv++[(p,v)]) ⟨mv++[(p,v)],[],a.t,a.w++y⟩ ⟨b.m1,b.m2++[(p,v)],b.t,b.w⟩ ux uo
abbrev arS(p:Nat)(x:Str)(n v:D):List D:=[.obj p,.str x,n,v]
abbrev arD(p:Nat)(x:Str)(n v:D):List D:=[.obj p,.tup [.str "say",.str x,n,v]]
theorem aE{cs:Fn}(hs:OF cs):II arS (fnOf 4 5 (Eu (fnOf 2 2 BU) cs)):=by
 intro S g x o i mv a b ux uo p v y hg h hm1 hm hsd hy hyl;have hL:LIM=100000:=rfl;clear 5 h.jX W P X;clear 5 h.jO W2 P2 O;clear 5(nd4 h.nd)a1 a2 a3 a4 a5 a6;have hto:=h.vo.t;have hne:¬(Ao g (Ah g 0 mv)).side=o:=λq=>h.two.ne (hsd.symm.trans q);have hm2:a.m2=[]:=h.vx.all (by rw[hm1];exact hsd) h.two.ne;rw[9,Eu];refine⟨_,_,rfl,h.jp,?_⟩;symm;refine(Oy h.two h.jp).mono ?_;rintro r0 S0 ⟨rfl,rfl⟩;refine⟨_,_,rfl,X.ik,?_⟩;symm;rw[hm1] at X;refine(hs S0 g x o _ _ _ y _ _ _ _ p v hg hm hsd hy ∅ X).mono ?_;rintro r S1 ⟨rfl,K1,X1⟩;have kp:∀{j:Nat}{ob:Ob},S0[j]?=some ob->j≠i.kx->S1[j]?=some ob:=λe n=>K1.get (by simpa using n) e;have p1:=kp h.jp (Am h.jp X.ik (by intro z;injection z with z;revert z;decide));have u1:=kp h.jU (Am h.jU X.ik (by simp));have x1:=kp h.jx (Am h.jx X.ik (by simp));have o1:=kp h.jo (Am h.jo X.ik (by simp));have O1:InS S1 g o x (Ah g 0 b.m1) (An g x 0 b.m1).length (a.w.take b.t) i.ko i.lo W2 P2:=⟨kp O.ik (Ne.symm h.nk),kp O.iw (Am O.iw X.ik (by simp)),kp O.ip (Am O.ip X.ik (by simp)),kp O.il (Am O.il X.ik (by simp)),O.el⟩;symm;rw[6,TF (k:=ux)];rw[6,A6 p1 rfl];refine Cv u1 (GP h.two.x) ?_;refine⟨rfl,_,x1,?_⟩;symm;have ed:wD ((a.w++y).drop b.t)=wD (a.w.drop b.t)++wD y:=by rw[List.drop_append_of_le_length hto,Kk]
 refine⟨_,wD ((a.w++y).drop b.t),x1,by rw[ed];simp only[E1];rw[pW (by rw[A3,A3,uh2,hL];lia)],?_⟩;symm;have ewx:An g x 0 (mv++[(p,v)])=wD (a.w++y):=by rw[Yt hsd,h.ex,Kk,hy]
 have st:∀{j:Nat}{ob:Ob},S1[j]?=some ob->j≠ux->(S1.set ux (.lst (wD ((a.w++y).drop b.t))))[j]?=some ob:=λe n=>Ap e (Ne.symm n);refine⟨rfl,(K1.sub (by simp)).set (by simp),h.two,(GR g 0 mv [(p,v)]).mpr ⟨h.ok,hm,trivial⟩,ewx,by rw[LG hne];exact h.eo,?_,?_,st p1 (Am p1 x1 (by simp)),st u1 (Am u1 x1 (by simp)),Bh x1,st o1 (Ne.symm a1),?_,?_,h.nk,h.nd⟩
 .have:=h.vx;rw[hm1,hm2] at this;exact this.own hne
 .show Vw g x (mv++[(p,v)]) b.m1 (b.m2++[(p,v)]) b.t (a.w++y).length;have:=h.vo.say (p:=p) (v:=v) h.lx hsd;rw[hy,A3] at this;rw[ue9];exact this
 .refine⟨W,P,?_⟩;show InS _ g x o (Ah g 0 (mv++[(p,v)])) (An g o 0 (mv++[(p,v)])).length (b.w.take a.t) _ _ _ _;rw[CW,LG hne];exact X1.setL x1 a2
 .refine⟨W2,P2,?_⟩;show InS _ g o x (Ah g 0 b.m1) (An g x 0 b.m1).length ((a.w++y).take b.t) _ _ _ _;rw[List.take_append_of_le_length hto];exact O1.setL x1 a3
def HE(ar:Nat->Str->D->List D)(f:Fn):Prop:=∀(S:List Ob) (g:List GS) (x o:Str) (i:Ip) (mv:List Mv) (a b:Vt) (ux uo n:Nat),GOk g->Pa g x o i S mv a b ux uo->1<=n->a.t+n<=b.w.length->b.w.length<=25000->
 Wf f (ar i.p x (.int (n:Nat))) S λr S'=>∃n1 n2 uo',a.m2=n1++n2/\r=.lst (AK g (Ah g 0 a.m1) n1)/\Kx [i.kx,i.lx,i.U] S S'/\S.length<=uo'/\Pa g x o i S' mv ⟨a.m1++n1,n2,a.t+n,a.w⟩ b ux uo'
abbrev Wp(p:Nat)(x:Str)(n:D):List D:=[.obj p,.str x,n]
abbrev MX(p:Nat)(x:Str)(n:D):List D:=[.obj p,.tup [.str "take",.str x,n]]
theorem aH(ht:GC arT ct)(h1:EF co)(hw:GV cw):HE Wp (fnOf 3 5 (Ev co (fnOf 2 2 BU) ct cw)):=by
 intro S g x o i mv a b ux uo n hg h hn hnl hbl;have hL:LIM=100000:=rfl;clear 5 h.jX W P X;clear 5 h.jO W2 P2 O;clear 5(nd4 h.nd)a1 a2 a3 a4 a5 a6;have hlt:=h.ltx hg;have hal:=h.vx.a;clear 5(h.vx.take (k:=n) hg h.two.o h.ok h.eo hnl)n1 n2 c1 c2 em V hw1 hon;have htk:b.w.take a.t++(b.w.drop a.t).take n=b.w.take (a.t+n):=(List.take_add).symm;have hdr:(b.w.drop a.t).drop n=b.w.drop (a.t+n):=List.drop_drop;have hln:(b.w.take (a.t+n)).length=a.t+n:=by rw[uh1];lia
 rw[9,Ev];rw[6,A6 h.jp rfl];rw[6,(h1 x o h.two).use];rw[6,Cv h.jU (Ja h.two)];rw[6,Ju h.jo];refine(hw (.int (n:Nat)) 1 _ rfl).use ?_;rw[show Fo 1 ((wD (b.w.drop a.t)).length:Int) (.int (n:Nat))=true by rw[A3,uh2];simp only[Fo,uh3,ug6];lia];symm;refine⟨_,_,rfl,h.jp,?_⟩;symm;refine(Oy h.two h.jp).mono ?_;rintro r0 S0 ⟨rfl,rfl⟩;refine⟨_,_,rfl,X.ik,?_⟩;symm;refine fY h.jo ?_;rw[cF];symm;refine(ht S0 g x o _ _ _ ((b.w.drop a.t).take n) _ _ _ _ _ _ c1 c2 hg h.two hlt (by rw[uh1];lia) (by rw[htk,hln];lia) (by rw[htk,hln];exact hw1) X).mono ?_;rintro r S1 ⟨rfl,K1,P1,_,X1⟩;rw[hon,htk] at X1;have kp:∀{j:Nat}{ob:Ob},S0[j]?=some ob->j≠i.kx->j≠i.lx->S1[j]?=some ob:=λe n m=>K1.get (by simpa using ⟨n,m⟩) e;have p1:=kp h.jp (Am h.jp X.ik (by intro z;injection z with z;revert z;decide)) (Am h.jp X.il (by simp));have u1:=kp h.jU (Am h.jU X.ik (by simp)) (Am h.jU X.il (by simp));have x1:=kp h.jx (Am h.jx X.ik (by simp)) a2;have o1:=kp h.jo (Am h.jo X.ik (by simp)) a4;have O1:InS S1 g o x (Ah g 0 b.m1) (An g x 0 b.m1).length (a.w.take b.t) i.ko i.lo W2 P2:=⟨kp O.ik (Ne.symm h.nk) (Am O.ik X.il (by simp)),kp O.iw (Am O.iw X.ik (by simp)) (Am O.iw X.il (by simp)),kp O.ip (Am O.ip X.ik (by simp)) (Am O.ip X.il (by simp)),kp O.il (Am O.il X.ik (by simp)) (Ne.symm a6),O.el⟩;have hln1:=K1.1;symm;rw[6,iQ];refine iR o1 ?_;rw[cG,hdr];symm;rw[6,A6 (Bn p1) rfl];rw[6,(h1 x o h.two).use];refine F6 (Bn u1) (by show 2<100000;decide) ?_;rw[Xi (F:=D.obj) h.two];have hUl:=Cz u1;have e0:∀{j:Nat}{ob:Ob},S1[j]?=some ob->j≠i.U->((S1++[Ob.lst (wD (b.w.drop (a.t+n)))]).set i.U (.dct (lrF D.obj x ux S1.length)))[j]?=some ob:=λe n=>Ap (Bn e) (Ne.symm n);have K2:Kx [i.kx,i.lx,i.U] S0 ((S1++[Ob.lst (wD (b.w.drop (a.t+n)))]).set i.U (.dct (lrF D.obj x ux S1.length))):=((K1.sub (by simp)).gr Gr.app).set (by simp);have x2:=e0 x1 (Am x1 u1 (by simp));have hxl:=Cz x1;have hll:=Cz X1.il;have hol:=Cz O1.il;symm;refine⟨n1,n2,S1.length,em,rfl,K2,hln1,h.two,h.ok,h.ex,h.eo,V,h.vo,e0 p1 (Am p1 u1 (by simp)),Bh (Bn u1),x2,Ap Ca ∅,?_,?_,h.nk,mk4 ⟨by lia,a2,a3,by lia,by lia,a6⟩⟩
 .exact⟨W,P1,e0 X1.ik (Am X1.ik u1 (by simp)),e0 X1.iw (Am X1.iw u1 (by simp)),e0 X1.ip (Am X1.ip u1 (by simp)),e0 X1.il (Am X1.il u1 (by simp)),X1.el⟩
 .exact⟨W2,P2,e0 O1.ik (Am O1.ik u1 (by simp)),e0 O1.iw (Am O1.iw u1 (by simp)),e0 O1.ip (Am O1.ip u1 (by simp)),e0 O1.il (Am O1.il u1 (by simp)),O1.el⟩
section
variable{cs ct:Fn}
theorem jD(hs:II arS cs):II arD (fnOf 2 2 (EV (fnOf 3 3 (E9 (fnOf 2 2 Cs))) ct cs)):=by
 intro S g x o i mv a b ux uo p v y hg h hm1 hm hsd hy hyl;rw[9,EV];rw[6,(T3 (k:="say") (ds:=[_,_]) (n:=4) h.two.x rfl).use];refine⟨_,_,rfl,h.jp,?_⟩;symm;exact hs S g x o i mv a b ux uo p v y hg h hm1 hm hsd hy hyl
theorem jE(ht:HE Wp ct):HE MX (fnOf 2 2 (EV (fnOf 3 3 (E9 (fnOf 2 2 Cs))) ct cs)):=by
 intro S g x o i mv a b ux uo n hg h hn hnl hbl;rw[9,EV];refine(b7 (k:="say") (n:=4) (ds:=[.str "take",.str x,.int (n:Nat)]) (by show(3:Nat)≠4;decide)).use ?_;symm;rw[6,(T3 (k:="take") (ds:=[.int (n:Nat)]) (n:=3) h.two.x rfl).use];refine⟨_,_,rfl,h.jp,?_⟩;symm;exact ht S g x o i mv a b ux uo n hg h hn hnl hbl
end
theorem fS{xs:List Str}{Q:List D->T->Prop}(h:Q (xs.map .str) t):L2.W (Ec (.gts xs)) t Q:=⟨_,_,rfl,h⟩
abbrev tpD(p:Str×Str):D:=.tup [.str p.1,.str p.2]
noncomputable def ifL(b:Bool)(k s:Str):List (Str×Str):=if b=true then [(k,s)] else []
theorem Q0{tst:M Bool}{k:Str}{bl br:Bool}{e:Option Sl}(hl:L2.W tst ⟨[vw (.str sL),e],S⟩ λb t=>b=bl/\t=⟨[vw (.str sL),e],S⟩)(hr:L2.W tst ⟨[vw (.str sR),e],S⟩ λb t=>b=br/\t=⟨[vw (.str sR),e],S⟩)(z:Option Sl) :
 L2.W (Cp (Ar 0) tst (AJ (Ab (fC (.str k)) (Ab (Aa 0) Ad))) [.str sL,.str sR]) ⟨[z,e],S⟩ λxs t'=>xs=(ifL bl k sL++ifL br k sR).map tpD/\t'.S=S:=by
 have one:∀(z:Option Sl),L2.W (Cp (Ar 0) tst (AJ (Ab (fC (.str k)) (Ab (Aa 0) Ad))) [.str sR]) ⟨[z,e],S⟩ λxs t'=>xs=(ifL br k sR).map tpD/\t'.S=S:=λz=>by
  rw[DC];refine LD ?_;refine hr.mono ?_;rintro b t ⟨rfl,rfl⟩
  cases b with
  |true=>
    rw[pW rfl];symm;rw[6,W_compL_nil.mpr];exact⟨rfl,rfl⟩
  |false=>
    rw[pX (by decide)];exact W_compL_nil.mpr ⟨rfl,rfl⟩
 rw[DC];refine LD ?_;refine hl.mono ?_;rintro b t ⟨rfl,rfl⟩
 cases b with
 |true=>
   rw[pW rfl];symm;refine(one _).mono ?_;rintro xs t ⟨rfl,h⟩;symm;exact⟨rfl,h⟩
 |false=>
   rw[pX (by decide)];refine(one _).mono ?_;rintro xs t ⟨rfl,h⟩;exact⟨rfl,h⟩
theorem KC{b:Bool}{k:Str}:(ifL b k s).length<=1:=by unfold ifL;split<;>simp
abbrev jB(sl sr tl tr:Bool):List (Str×Str):=(ifL sl "say" sL++ifL sr "say" sR)++(ifL tl "take" sL++ifL tr "take" sR)
section
variable{g:List GS}{i:Ip}{S:List Ob}{mv:List Mv}{a b:Vt}{ux uo:Nat}
abbrev Ly(g:List GS)(s:Str)(m:List Mv):Bool:=(Ao g (Ah g 0 m)).side==s
abbrev Nl(w:List Nat)(t:Nat):Bool:=decide (0<(w.drop t).length)
theorem two_lr:Two sL sR:=.inl ⟨rfl,rfl⟩
theorem eE(h1:EF co)(hg:GOk g)(h:Pa g sL sR i S mv a b ux uo):Fq S (fnOf 1 3 (FA co (fnOf 2 2 BU) (fnOf 1 1 CO))) [.obj i.p] (.lst ((jB (Ly g sL a.m1) (Ly g sR b.m1) (Nl b.w a.t) (Nl a.w b.t)).map tpD)):=by
 have hL:LIM=100000:=rfl;clear 5 h.jX W P X;clear 5 h.jO W2 P2 O;rw[9,FA];refine fS ?_;refine(Q0 (bl:=Ly g sL a.m1) (br:=Ly g sR b.m1) ?_ ?_ _).mono ?_
 .symm;refine⟨_,_,rfl,h.jp,?_⟩;symm;refine(Oy h.two h.jp).mono ?_;rintro r0 S0 ⟨rfl,rfl⟩;refine⟨_,_,rfl,X.ik,W_ret.mpr ?_⟩;refine(dE (h.ltx hg) X).mono ?_;rintro r0 S0 ⟨rfl,rfl⟩;symm;exact⟨rfl,rfl⟩
 .symm;refine⟨_,_,rfl,h.jp,?_⟩;symm;refine(Oy h.swap.two h.swap.jp).mono ?_;rintro r0 S0 ⟨rfl,rfl⟩;refine⟨_,_,rfl,O.ik,W_ret.mpr ?_⟩;refine(dE (h.swap.ltx hg) O).mono ?_;rintro r0 S0 ⟨rfl,rfl⟩;symm;exact⟨rfl,rfl⟩
 rintro xs t ⟨rfl,hS⟩;have e1:=KC (b:=Ly g sL a.m1) (k:="say") (s:=sL);have e2:=KC (b:=Ly g sR b.m1) (k:="say") (s:=sR);have e3:=KC (b:=Nl b.w a.t) (k:="take") (s:=sL);have e4:=KC (b:=Nl a.w b.t) (k:="take") (s:=sR);refine Bi (by rw[ui7,ue9,hL];lia) ?_;rw[hS];symm;refine fS ?_;refine(Q0 (bl:=Nl b.w a.t) (br:=Nl a.w b.t) ?_ ?_ _).mono ?_
 .symm;rw[6,A6 h.jp rfl];rw[6,(h1 _ _ h.two).use];rw[6,Cv h.jU (Ja h.two)];rw[6,Ju h.jo];rw[A3];exact⟨by simp,rfl⟩
 .symm;rw[6,A6 h.jp rfl];rw[6,(h1 _ _ h.two.swap).use];rw[6,Cv h.jU (GP h.two.x)];rw[6,Ju h.jx];rw[A3];exact⟨by simp,rfl⟩
 rintro xs t ⟨rfl,hS⟩;refine Bi (by rw[ui7,ue9,hL];lia) ?_;rw[hS];symm;refine Bi (by rw[ui7,ui7,ue9,ue9,hL];lia) ?_;exact⟨by rw[<-uk0],rfl⟩
theorem Qb(h:Pa g sL sR i S mv a b ux uo):Fq S (fnOf 1 1 BX) [.obj i.p] (.tup [.int ((a.w.drop b.t).length:Nat),.int ((b.w.drop a.t).length:Nat)]):=by
 rw[9,BX];rw[6,A6 h.jp rfl];rw[6,Cv h.jU (GP h.two.x)];rw[6,Ju h.jx];rw[6,A6 h.jp rfl];rw[6,Cv h.jU (Ja h.two)];rw[6,Ju h.jo];rw[A3,A3];exact⟨rfl,rfl⟩
theorem RQ(h:Pa g sL sR i S mv a b ux uo):Fq S (fnOf 1 1 (Ei (fnOf 1 1 DJ))) [.obj i.p] (.tup [.int (Ah g 0 a.m1:Nat),.int (Ah g 0 b.m1:Nat)]):=by
 clear 5 h.jX W P X;clear 5 h.jO W2 P2 O;rw[9,Ei];refine A6 h.jp rfl ?_;refine⟨_,_,rfl,X.ik,W_ret.mpr ?_⟩;refine(VS X).mono ?_;rintro r0 S0 ⟨rfl,rfl⟩;symm;refine A6 h.jp rfl ?_;refine⟨_,_,rfl,O.ik,W_ret.mpr ?_⟩;refine(VS O).mono ?_;rintro r0 S0 ⟨rfl,rfl⟩;symm;exact⟨rfl,rfl⟩
theorem gZ(h1:EF co)(he:DB ce)(hg:GOk g)(h:Pa g sL sR i S mv a b ux uo)(ea:a.m1=mv)(eb:b.m1=mv)(ta:a.t=b.w.length)(tb:b.t=a.w.length):Fq S (fnOf 1 3 (DX (fnOf 1 1 BX) (fnOf 1 1 (CP co (fnOf 2 2 CA))) (fnOf 1 1 (Cl ce)))) [.obj i.p] (.bl (Ao g (Ah g 0 mv)).isFin):=by
 clear 5 h.jX W P X;clear 5 h.jO W2 P2 O;have eX:=cK he hg (h.ltx hg) X;have eO:=cK he hg (h.swap.ltx hg) O;have wX:=Zd h1 h.two X;have wO:=Zd h1 h.two.swap O;have hly:=Qb h;have z1:((b.w.take a.t).length:Int)-((An g sR 0 a.m1).length:Int)=0:=by rw[ea,h.eo,A3,ta,ui3,Int.sub_self]
 have z2:((a.w.take b.t).length:Int)-((An g sL 0 b.m1).length:Int)=0:=by rw[eb,h.ex,A3,tb,ui3,Int.sub_self]
 rw[z1] at wX;rw[z2] at wO;rw[tb,ta,uh5,uh5] at hly;rw[ea] at eX;rw[eb] at eO;rw[9,DX];refine A6 h.jp rfl ?_;refine⟨_,_,rfl,X.ik,W_ret.mpr ?_⟩;refine eX.mono ?_;rintro r0 S0 ⟨rfl,rfl⟩
 cases hf:(Ao g (Ah g 0 mv)).isFin with
 |false=>
   symm;refine A6 h.jp rfl ?_;refine⟨_,_,rfl,X.ik,W_ret.mpr ?_⟩;refine wX.mono ?_;rintro r0 S1 ⟨rfl,rfl⟩;symm;refine A6 h.jp rfl ?_;refine⟨_,_,rfl,O.ik,W_ret.mpr ?_⟩;refine wO.mono ?_;rintro r0 S1 ⟨rfl,rfl⟩;symm;exact⟨rfl,rfl⟩
 |true=>
   symm;refine A6 h.jp rfl ?_;refine⟨_,_,rfl,O.ik,W_ret.mpr ?_⟩;refine eO.mono ?_;rintro r0 S1 ⟨rfl,rfl⟩;rw[hf];symm;refine A6 h.jp rfl ?_;refine⟨_,_,rfl,X.ik,W_ret.mpr ?_⟩;refine wX.mono ?_;rintro r0 S1 ⟨rfl,rfl⟩;symm;refine A6 h.jp rfl ?_;refine⟨_,_,rfl,O.ik,W_ret.mpr ?_⟩;refine wO.mono ?_;rintro r0 S1 ⟨rfl,rfl⟩;symm;refine⟨_,_,rfl,h.jp,W_ret.mpr ?_⟩;refine hly.mono ?_;rintro r0 S1 ⟨rfl,rfl⟩;symm;refine NK rfl (by decide +kernel) ?_;exact⟨rfl,rfl⟩
end
def OJ(f:Fn):Prop:=∀(g:List GS) (mv:List Mv) (S:List Ob),GOk g->okQ g 0 mv->mv.length<=5000->(An g sL 0 mv).length<=25000->(An g sR 0 mv).length<=25000->Wf f [.lst (g.map GS.d),.lst (AK g 0 mv)] S λr S'=>∃K A B,r=.tup [.obj A,.obj B]/\Wr K A B S' (An g sL 0 mv) (An g sR 0 mv)/\Gr S S'/\S.length<=A/\S.length<=B
theorem bS{cs:Fn}(hm:Oq cm)(hs:Ks cs):OJ (fnOf 2 6 (Jf cm cs)):=by
 intro g mv S hg hk hlen hll hlr;have hL:LIM=100000:=rfl;refine Ai rfl ?_;unfold Jf;left;refine MK ?_;rw[8,Cw];rw[8,Cw];refine Gh ?_;refine⟨by simp,by show 2<=15;decide,?_⟩;obtain⟨S1,hS1⟩:∃S1:List Ob,S1=(S++[Ob.dct []]++[Ob.lst []]++[Ob.lst []]).set S.length (.dct (kvMerge [(kL,.obj (S++[Ob.dct []]).length),(kRt,.obj (S++[Ob.dct []]++[Ob.lst []]).length)])):=⟨_,rfl⟩;have w0:Wr S.length (S++[Ob.dct []]).length (S++[Ob.dct []]++[Ob.lst []]).length S1 [] []:=by
  rw[hS1,Hl];refine⟨KB (o:=.dct []) (by simp),?_,?_,by simp,by simp,by simp⟩
  .rw[ud3 (by simp)];simp
  .rw[ud3 (by simp)];simp
 have hFS:Gr S S1:=by
  rw[hS1];exact Gr.set ((Gr.app.trans Gr.app).trans Gr.app) (un6 _)
 have hne:S.length<=(S++[Ob.dct []]).length/\S.length<=(S++[Ob.dct []]++[Ob.lst []]).length:=by
  simp only[ue9,ug9,uj5];exact⟨by lia,by lia⟩
 refine Fl ?_;show W _ ⟨[vw (.lst (g.map GS.d)),vw (.lst (AK g 0 mv)),vw (.obj S.length),none,none,none],(S++[Ob.dct []]++[Ob.lst []]++[Ob.lst []]).set S.length (.dct (kvMerge [(kL,.obj (S++[Ob.dct []]).length),(kRt,.obj (S++[Ob.dct []]++[Ob.lst []]).length)]))⟩ _;rw[<-hS1];clear hS1;generalize (S++[Ob.dct []]++[Ob.lst []]).length=B at w0 hne;generalize (S++[Ob.dct []]).length=A at w0 hne;generalize hSK:S.length=K at w0⊢;left;rw[8,(hs g mv hg hk ∅).use];rw[FJ];refine ET (Bq ∅ ∅) ?_;refine BG (λr t=>XN4 λ(j:Nat) (S':List Ob) (e4 e5:Option Sl)=>AN5 (j<=mv.length) (r=(Bf 0 ((mv.length:Nat):Int).toNat).drop j) (Wr K A B S' (An g sL 0 (mv.take j)) (An g sR 0 (mv.take j))) (Gr S S') (t=⟨[vw (.lst (g.map GS.d)),vw (.lst (AK g 0 mv)),vw (.obj K),vw (.lst (BY g 0 mv)),e4,e5],S'⟩)) _ _ ⟨0,S1,none,none,by lia,rfl,w0,hFS,rfl⟩ ?_ ?_
 .rintro d' r t ⟨j,S',e4,e5,hjl,hr,hw,hF',rfl⟩ _;clear 5(De hr)rfl hr' hjn;rw[uf8] at hjn;rw[Int.zero_add]
  cases em:mv[j]? with
  |none=>rw[List.getElem?_eq_none_iff] at em;lia
  |some x=>
  clear 5 x p v;have hm':=RC hk em;have htk:mv.take (j+1)=mv.take j++[(p,v)]:=by
   rw[pv,em];rfl
  have hsi:atI (BY g 0 mv) j=some (.tup [.int (Ah g 0 (mv.take j)),.int p]):=by
   unfold atI;rw[Co ∅ (by rw[FJ];lia)];show(BY g 0 mv)[(j:Int).toNat]?=_;rw[uf8,MF g 0 mv j p v em]
  have hmi:atI (AK g 0 mv) j=some (Fb g (Ah g 0 (mv.take j)) p v):=by
   unfold atI;rw[Co ∅ (by rw[Gf];lia)];show(AK g 0 mv)[(j:Int).toNat]?=_;rw[uf8,J5 g 0 mv j p v em]
  have hside:=ND hg hm';have lA:=HR g sL mv j;have lB:=HR g sR mv j;have lA':=HR g sL mv (j+1);have lB':=HR g sR mv (j+1);have nA:An g sL 0 (mv.take (j+1))=An g sL 0 (mv.take j)++(if (Ao g (Ah g 0 (mv.take j))).side=sL then D.int p::AH (wdAt g (Ah g 0 (mv.take j)) p).2.1 v else []):=by
   rw[htk,Dt,An,An,ui9]
  have nB:An g sR 0 (mv.take (j+1))=An g sR 0 (mv.take j)++(if (Ao g (Ah g 0 (mv.take j))).side=sR then D.int p::AH (wdAt g (Ah g 0 (mv.take j)) p).2.1 v else []):=by
   rw[htk,Dt,An,An,ui9]
  have hbd:(AH (wdAt g (Ah g 0 (mv.take j)) p).2.1 v).length<=25000:=by
   rcases hside with h|h
   .rw[nA,pW h,ue9,ug9] at lA';lia
   .rw[nB,pW h,ue9,ug9] at lB';lia
  generalize hq:Ah g 0 (mv.take j)=q at *;have hix:∀(t:T) (P:D->T->Prop),P (.str (Ao g q).side) t->W (ixD (Ao g q).d (.int 0)) t P:=λt P h=>by
   cases e:Ao g q with
   |fin=>rw[e] at h;rw[GS.d];exact EE GF h
   |st s w=>rw[e] at h;rw[GS.d];exact EE GF h
  left;rw[8,A4 hsi];rw[8,A4 (Bv hm'.lt)];obtain⟨C,xs,hCn,hC,hxl,hget,hnew⟩:∃(C:Nat) (xs:List D),S.length<=C/\S'[C]?=some (.lst xs)/\xs.length<=25000/\AR [(kL,.obj A),(kRt,.obj B)] (.inr (Ao g q).side)=some (.obj C)/\Wr K A B (S'.set C (.lst (xs++D.int p::AH (wdAt g q p).2.1 v))) (An g sL 0 (mv.take (j+1))) (An g sR 0 (mv.take (j+1))):=by
   rcases hside with h|h
   .refine⟨A,_,hne.1,hw.a,by lia,by rw[h];exact KG,?_⟩;rw[nA,nB,pW h,pX (by rw[h];exact sLR),ui9];exact hw.setA
   .refine⟨B,_,hne.2,hw.b,by lia,by rw[h];exact KH,?_⟩;rw[nA,nB,pW h,pX (by rw[h];exact Ne.symm sLR),ui9];exact hw.setB
  rw[8,TF (k:=C)];refine hix _ _ ?_;refine Cv hw.k hget ?_;refine⟨rfl,_,hC,?_⟩;left;rw[8,A4 hsi];refine A4 hmi ?_;unfold Fb;left;rw[8,(hm g q p v hg hm' ∅).use];refine⟨xs,_,hC,pW (by rw[hL,ug9];lia),?_⟩;exact⟨j+1,_,_,_,hjn,hr',hnew,hF'.set hCn,rfl⟩
 .rintro t ⟨j,S',e4,e5,hjl,hr,hw,hF',rfl⟩;have hj':j=mv.length:=by
   have:=pQ List.length hr;rw[uj5,uh2,Dy,uf8] at this;lia
  subst hj';rw[ui3] at hw;left;rw[8,Cv hw.k KG];rw[8,Cv hw.k KH];exact⟨K,A,B,rfl,hw,hF',by rw[<-hSK];exact hne.1,by rw[<-hSK];exact hne.2⟩
theorem N7{g:List GS}(hg:GOk g):∀{mv:List Mv}{q:Nat},okQ g q mv->∀x∈AK g q mv,Rq 8 x
 |[],q,_,x,hx=>nomatch hx
 |(p,v)::r,q,hk,x,hx=>by
   rw[okQ] at hk;rw[AK] at hx;rcases ul1.mp hx with e|hx
   .subst e;have hw:=FK hg hk.1.lt hk.1.pl;unfold Fb;exact Mz (n:=7) (b9 VD VD ((cW hw.dep hw.ok hk.1.fit).rq.mono (by decide)))
   .exact N7 hg hk.2 x hx
theorem HeaG.ins{g:List GS}{x o:Str}{S S':List Ob}{k W P l:Nat}(h:HeaG "Side" S S' k W P l o (bsF g x 0 W P [])):InS S' g x o 0 0 [] k l W P:=⟨h.ik,h.iw,h.ip,h.il,un7 _⟩
theorem fN{o:Str}:Vw g o [] [] [] 0 0:=⟨rfl,trivial,un6 _,un6 _,trivial⟩
theorem gX{cs:Fn}(hs:LO cs){g:List GS}(hg:GOk g){S:List Ob}:Wf (fnOf 2 2 (Eh cs)) [.obj S.length,.lst (g.map GS.d)] (S++[.ins "Parley" []]) λr S'=>r=.non/\Gr S S'/\∃i ul ur,i.p=S.length/\(S.length<=ul/\S.length<=ur/\S.length<=i.lx/\S.length<=i.lo/\S.length<=i.U/\S.length<=i.kx/\S.length<=i.ko)/\Pa g sL sR i S' [] ⟨[],[],0,[]⟩ ⟨[],[],0,[]⟩ ul ur:=by
 obtain⟨p,hp⟩:∃p,p=S.length:=⟨_,rfl⟩;have e0:(S++[Ob.ins "Parley" []])[p]?=some (.ins "Parley" []):=by rw[hp];exact Ca
 have G0:Gr S (S++[Ob.ins "Parley" []]):=Gr.app;have l0:(S++[Ob.ins "Parley" []]).length=p+1:=by rw[hp,ue9];rfl
 rw[<-hp];generalize S++[Ob.ins "Parley" []]=S0 at e0 G0 l0⊢;rw[9,Eh];refine(hs "Side" _ S0.length g sL sR hg two_lr Ca).mono ?_;rintro r S1 ⟨rfl,W,P,l,X⟩;refine⟨rfl,?_⟩;have kp1:=X.kp;have hl1:p+2<=S1.length:=by have:=kp1.1;rw[ue9,l0] at this;exact this
 have e1:S1[p]?=some (.ins "Parley" []):=(kp1.2 p (by rw[ue9];lia) ∅).trans (Bn e0);have G1:Gr S S1:=⟨by lia,λj hj=>(kp1.2 j (by rw[ue9];lia) ∅).trans ((ua8 ∅).trans (G0.2 j hj))⟩;have X0:=X.ins;have xl:=X.gl;rw[ue9,l0] at xl;have xl:p+2<=l:=xl;rw[l0] at X0⊢;symm;refine Df e1 (by show 0<1000;decide) ?_;have e2:=Bh (o':=.ins "Parley" [("left",D.obj (p+1))]) e1;have G2:Gr S (S1.set p (.ins "Parley" [("left",D.obj (p+1))])):=G1.set ∅;have X2:InS (S1.set p (.ins "Parley" [("left",D.obj (p+1))])) g sL sR 0 0 [] (p+1) l W P:=⟨Ap X0.ik ∅,Ap X0.iw (Am e1 X0.iw (by simp)),Ap X0.ip (Am e1 X0.ip (by simp)),Ap X0.il (Am e1 X0.il (by simp)),un7 _⟩;have l2:(S1.set p (.ins "Parley" [("left",D.obj (p+1))])).length=S1.length:=List.length_set;show EB _ _ Out.next ⟨_,S1.set p (.ins "Parley" [("left",D.obj (p+1))])⟩;generalize S1.set p (.ins "Parley" [("left",D.obj (p+1))])=S2 at e2 G2 X2 l2⊢;have hl2:=Cz X2.il;symm;refine(hs "Side" _ S2.length g sR sL hg two_lr.swap Ca).mono ?_;rintro r S3 ⟨rfl,W2,P2,lo,Y⟩;refine⟨rfl,?_⟩;have kp3:=Y.kp;have hl3:S2.length+1<=S3.length:=by have:=kp3.1;rw[ue9] at this;exact this
 have yl:=Y.gl;rw[ue9] at yl;have yl:S2.length+1<=lo:=yl;have k3:∀{j:Nat}{ob:Ob},S2[j]?=some ob->S3[j]?=some ob:=λ{j ob} e=>by
  have:=Cz e;exact(kp3.2 j (by rw[ue9];lia) ∅).trans (Bn e)
 have G3:Gr S S3:=⟨by lia,λj hj=>(kp3.2 j (by rw[ue9];lia) ∅).trans ((ua8 ∅).trans (G2.2 j hj))⟩;have X3:InS S3 g sL sR 0 0 [] (p+1) l W P:=⟨k3 X2.ik,k3 X2.iw,k3 X2.ip,k3 X2.il,un7 _⟩;have Y3:=Y.ins;have e3:=k3 e2;generalize hq:S2.length=q at *;symm;refine Df e3 (by show 1<1000;decide) ?_;have e4:=Bh (o':=.ins "Parley" [("left",D.obj (p+1)),("right",.obj q)]) e3;have G4:Gr S (S3.set p (.ins "Parley" [("left",D.obj (p+1)),("right",.obj q)])):=G3.set ∅;have X4:InS (S3.set p (.ins "Parley" [("left",D.obj (p+1)),("right",.obj q)])) g sL sR 0 0 [] (p+1) l W P:=⟨Ap X3.ik ∅,Ap X3.iw (Am e3 X3.iw (by simp)),Ap X3.ip (Am e3 X3.ip (by simp)),Ap X3.il (Am e3 X3.il (by simp)),un7 _⟩;have Y4:InS (S3.set p (.ins "Parley" [("left",D.obj (p+1)),("right",.obj q)])) g sR sL 0 0 [] q lo W2 P2:=⟨Ap Y3.ik ∅,Ap Y3.iw (Am e3 Y3.iw (by simp)),Ap Y3.ip (Am e3 Y3.ip (by simp)),Ap Y3.il (Am e3 Y3.il (by simp)),un7 _⟩;show EB _ _ Out.next ⟨_,S3.set p (.ins "Parley" [("left",D.obj (p+1)),("right",.obj q)])⟩;have l4:(S3.set p (.ins "Parley" [("left",D.obj (p+1)),("right",.obj q)])).length=S3.length:=List.length_set;generalize S3.set p (.ins "Parley" [("left",D.obj (p+1)),("right",.obj q)])=S4 at e4 G4 X4 Y4 l4⊢;have hlo:=Cz Y4.il;symm;refine MK ?_;rw[6,Cw];rw[6,Cw];refine Gh ?_;refine⟨by simp,by show 2<=15;decide,?_⟩;rw[Hl];obtain⟨n,hn⟩:∃n,n=S4.length:=⟨_,rfl⟩;have hA:(S4++[Ob.dct []]).length=n+1:=by rw[hn,ue9];rfl
 have hB:(S4++[Ob.dct []]++[Ob.lst []]).length=n+2:=by rw[ue9,hA];rfl
 rw[hA,hB,<-hn];have k5:∀{j:Nat}{ob:Ob},S4[j]?=some ob->((S4++[Ob.dct []]++[Ob.lst []]++[Ob.lst []]).set n (.dct (lr (.obj (n+1)) (.obj (n+2)))))[j]?=some ob:=λ{j ob} e=>by
  have:=Cz e;exact Ap (Bn (Bn (Bn e))) ∅
 have u5:((S4++[Ob.dct []]++[Ob.lst []]++[Ob.lst []]).set n (.dct (lr (.obj (n+1)) (.obj (n+2)))))[n]?=some (.dct (lr (.obj (n+1)) (.obj (n+2)))):=Bh (Bn (Bn (by rw[hn];exact Ca)));have a5:((S4++[Ob.dct []]++[Ob.lst []]++[Ob.lst []]).set n (.dct (lr (.obj (n+1)) (.obj (n+2)))))[n+1]?=some (.lst []):=Ap (Bn (by rw[<-hA];exact Ca)) ∅;have b5:((S4++[Ob.dct []]++[Ob.lst []]++[Ob.lst []]).set n (.dct (lr (.obj (n+1)) (.obj (n+2)))))[n+2]?=some (.lst []):=Ap (by rw[<-hB];exact Ca) ∅;have G5:Gr S ((S4++[Ob.dct []]++[Ob.lst []]++[Ob.lst []]).set n (.dct (lr (.obj (n+1)) (.obj (n+2))))):=(((G4.trans Gr.app).trans Gr.app).trans Gr.app).set ∅;show L2.W _ ⟨_,(S4++[Ob.dct []]++[Ob.lst []]++[Ob.lst []]).set n (.dct (lr (.obj (n+1)) (.obj (n+2))))⟩ _;have X5:InS ((S4++[Ob.dct []]++[Ob.lst []]++[Ob.lst []]).set n (.dct (lr (.obj (n+1)) (.obj (n+2))))) g sL sR 0 0 [] (p+1) l W P:=⟨k5 X4.ik,k5 X4.iw,k5 X4.ip,k5 X4.il,un7 _⟩;have Y5:InS ((S4++[Ob.dct []]++[Ob.lst []]++[Ob.lst []]).set n (.dct (lr (.obj (n+1)) (.obj (n+2))))) g sR sL 0 0 [] q lo W2 P2:=⟨k5 Y4.ik,k5 Y4.iw,k5 Y4.ip,k5 Y4.il,un7 _⟩;have e5:=k5 e4;generalize (S4++[Ob.dct []]++[Ob.lst []]++[Ob.lst []]).set n (.dct (lr (.obj (n+1)) (.obj (n+2))))=S5 at u5 a5 b5 G5 X5 Y5 e5⊢;symm;refine Df e5 (by show 2<1000;decide) ?_;have X6:InS (S5.set p (.ins "Parley" (paF sL (p+1) q n))) g sL sR 0 0 [] (p+1) l W P:=⟨Ap X5.ik ∅,Ap X5.iw (Am e5 X5.iw (by simp)),Ap X5.ip (Am e5 X5.ip (by simp)),Ap X5.il (Am e5 X5.il (by simp)),un7 _⟩;have Y6:InS (S5.set p (.ins "Parley" (paF sL (p+1) q n))) g sR sL 0 0 [] q lo W2 P2:=⟨Ap Y5.ik ∅,Ap Y5.iw (Am e5 Y5.iw (by simp)),Ap Y5.ip (Am e5 Y5.ip (by simp)),Ap Y5.il (Am e5 Y5.il (by simp)),un7 _⟩;refine⟨rfl,G5.set ∅,⟨p+1,l,q,lo,p,n⟩,n+1,n+2,rfl,⟨by lia,by lia,by show _<=l;lia,by show _<=lo;lia,by show _<=n;lia,by show _<=p+1;lia,by show _<=q;lia⟩,two_lr,trivial,rfl,rfl,fN,fN,Bh e5,Ap u5 (by show p≠n;lia),Ap a5 (by show p≠n+1;lia),Ap b5 (by show p≠n+2;lia),⟨W,P,X6⟩,⟨W2,P2,Y6⟩,by show p+1≠q;lia,mk4 ⟨by lia,by show n+1≠l;lia,by show n+1≠lo;lia,by show n+2≠l;lia,by show n+2≠lo;lia,by show l≠lo;lia⟩⟩
section
variable{g:List GS}{x o:Str}{i:Ip}{S S':List Ob}{mv:List Mv}{a b:Vt}{ux uo:Nat}
end
set_option genInjectivity false in structure Iq where
 rk:Nat
 rl:Nat
 rr:Nat
 W:Nat
 zs:Nat
 zw:Nat
 zc:Nat
 zt:Nat
abbrev kWi:Key:=.inr (Str.ofString "wires")
abbrev kCo:Key:=.inr (Str.ofString "come")
abbrev kTk:Key:=.inr (Str.ofString "talk")
abbrev zsD(a b c:Nat):List (Key×D):=[(kWi,.obj a),(kCo,.obj b),(kTk,.obj c)]
section
variable{a b c:Nat}
end
structure Rj(g:List GS)(q:Iq)(S:List Ob)(mv:List Mv)(wl wr:List Nat)(cl cr c P:Nat):Prop where
 jz:S[q.zs]?=some (.dct (zsD q.zw q.zc q.zt))
 jw:S[q.zw]?=some (.dct (dW wl wr))
 jc:S[q.zc]?=some (.dct (dP cl cr))
 jt:S[q.zt]?=some (.lst (AK g 0 mv))
 du:Due g mv cl cr c
 ch:Rch g (wl.take cl) (wr.take cr) (AK g 0 (mv.take c)) (Ah g 0 (mv.take c)) (An g sL 0 (mv.take c)).length (An g sR 0 (mv.take c)).length
 rd:Rdr 0 S q.rk g (wl.take cl) (wr.take cr) (Ah g 0 (mv.take c)) (An g sL 0 (mv.take c)).length (An g sR 0 (mv.take c)).length q.W P q.rl q.rr
 nt:q.zt≠q.rl/\q.zt≠q.rr
 nc:q.zc≠P
structure Sp(U:Nat)(ls:List Nat)(q:Iq)(P:Nat):Prop where
 l:∀j∈[q.rl,q.rr,q.zt],j∉ls
 u:∀j∈[q.zs,q.zw,q.zc,q.W,P],j≠U
section
variable{g:List GS}{q:Iq}{S S':List Ob}{mv:List Mv}{wl wr:List Nat}{cl cr c P U:Nat}{ls F:List Nat}
def Inn(S:List Ob)(U:Nat)(ls:List Nat)(j:Nat):Prop:=(∃fs,S[j]?=some (.ins "Side" fs))\/(j∈ls/\∃ds,S[j]?=some (.lst ds))\/j=U
theorem Rn{kv:List (Key×D)}(e:S[U]?=some (.dct kv))(hF:∀j∈F,Inn S U ls j){j:Nat}(h:JF S U ls j):j∉F:=λz=>by
 rcases hF j z with⟨fs,e1⟩|⟨n,ds,e1⟩|rfl
 .exact Np e1 (by decide) h
 .exact KL e1 n h
 .exact YI e h
end
structure Jq(g:List GS)(x o:Str)(i:Ip)(q:Iq)(S:List Ob)(mv:List Mv)(a b:Vt)(ux uo c P:Nat):Prop where
 pa:Pa g x o i S mv a b ux uo
 rj:Rj g q S mv (onS x a.w b.w) (onS x b.w a.w) (onS x b.t a.t) (onS x a.t b.t) c P
 sp:Sp i.U [ux,uo,i.lx,i.lo] q P
section
variable{cd cf:Fn}{g:List GS}{x o:Str}{i:Ip}{q:Iq}{S:List Ob}{mv:List Mv}{a b:Vt}{ux uo c P:Nat}
end
section
variable{cd cf:Fn}{g:List GS}{x o:Str}{i:Ip}{q:Iq}{S:List Ob}{mv:List Mv}{a b:Vt}{ux uo c P:Nat}
end
set_option tactic.hygienic true in
theorem Rt{b:Bool}{k:Str}{e:Str×Str}(h:e∈ifL b k s):b=true/\e=(k,s):=by
 unfold ifL at h
 split at h
 .next z=>exact⟨z,by simpa using h⟩
 .cases h
section
variable{g:List GS}{x o:Str}{i:Ip}{S:List Ob}{mv:List Mv}{a b:Vt}{ux uo:Nat}
theorem jF(h:Pa g x o i S mv a b ux uo):Fq S (fnOf 1 1 BX) [.obj i.p] (.tup [.int (onS x (a.w.drop b.t).length (b.w.drop a.t).length:Nat),.int (onS x (b.w.drop a.t).length (a.w.drop b.t).length:Nat)]):=by
 rcases h.two with⟨rfl,rfl⟩|⟨rfl,rfl⟩
 .exact Qb h
 .have:=Qb h.swap;exact this
end
theorem Y0{g:Bool->Bool}{a b a' b':Int}(e1:a=a')(e2:b=b')(h:P (.bl (g true)) t):L2.W (eqS g (.tup [.int a,.int b]) (.tup [.int a',.int b'])) t P:=by
 subst e1 e2;exact NK rfl (Mz (n:=1) (λd hd=>by simp only[ul1,uh9,pS] at hd;rcases hd with rfl|rfl<;>exact My) EQD (by decide)) h
theorem Pq(w:List Nat):LH (wD w):=λx hx=>by
 obtain⟨n,_,rfl⟩:=List.mem_map.mp hx;exact⟨_,rfl⟩
section
variable{g:List GS}{i:Ip}{q:Iq}{ns:List Int}
end
theorem bv{r:List Ob}{o y:Ob}:(S++o::r).set S.length y=S++y::r:=by
 rw[List.set_append_right _ _ (un6 _),Nat.sub_self];rfl
theorem RB{g:List GS}(hg:GOk g):∀{mv:List Mv}{q:Nat},okQ g q mv->∀x∈AK g q mv,nvO 4 x=true
 |[],_,_,x,h=>nomatch h
 |(p,v)::r,q,hk,x,h=>by
   rw[okQ] at hk;rcases ul1.mp h with e|m
   .have hw:=FK hg hk.1.lt hk.1.pl;have h3:=Hd 3 _ hw.dep hw.ok v hk.1.fit;subst e;unfold Fb;simp[nvO,h3]
   .exact RB hg hk.2 x m
theorem Zc{f:M (List D)}{P:List D->T->Prop}(h:W f t λds t1=>W (Qm ds) t1 P):W (Mb f) t P:=W_bnd.mpr h
theorem kF{a b c:Int}{P:List D->T->Prop}(h0:c≠0)(h1:c.natAbs<1073741824)(h2:Builtin.Range.small a b c=true)(h3:0<=Builtin.Range.rangeSize a b c)(h:P ((List.range (rngS a b c)).map λi:Nat=>D.int (a+i*c)) t):W (Qm [.int a,.int b,.int c]) t P:=
 ⟨_,_,by show(if _ then _ else _)=_;rw[pW ⟨⟨h0,h1⟩,h2,h3⟩],h⟩
noncomputable def Fw:Nat->List D
 |0=>[]
 |m+1=>.int m::Fw m
theorem Q3:∀n:Nat,(List.range n).map (λi:Nat=>D.int (((n:Int)-1)+i*(-1)))=Fw n
 |0=>rfl
 |n+1=>by
   rw[ny,ul2,un3,Fw,<-Q3 n]
   congr 1
   .congr 1;lia
   .refine List.map_congr_left λi _=>?_;show D.int _=D.int _
    congr 1;simp only[Nat.succ_eq_add_one];lia
theorem YZ{P:List D->T->Prop}(hn:n<=1000)(h:P (Fw n) t):W (Qm [.int ((n:Int)-1),.int (-1),.int (-1)]) t P:=by
 have e:Builtin.Range.rangeSize ((n:Int)-1) (-1) (-1)=n:=by
  unfold Builtin.Range.rangeSize;rw[pX (by decide)]
  split
  .show((n:Int)-1 - -1-1)/1+1=n;rw[Int.ediv_one];lia
  .lia
 refine kF (by decide) (by decide) ?_ (by rw[e];lia) ?_
 .unfold Builtin.Range.small Builtin.Range.rangeFitsLong;rw[e,pX (by decide)];simp only[uh3,uj7,ug6];refine⟨⟨⟨⟨⟨?_,?_⟩,?_⟩,?_⟩,?_⟩,.inr ?_⟩<;>(try decide)<;>lia
 .have:rngS ((n:Int)-1) (-1) (-1)=n:=by unfold rngS;rw[e];lia
  rw[this,Q3];exact h
theorem Yq{ns:List Int}(e:Gc ds=some ns)(h:P (.int ns.sum) t):W (Ki [.lst ds]) t P:=⟨_,_,by simp only[Ki,e],h⟩
theorem GD{l:List α}{ι f:α->D}(h:∀a∈l,W elt ⟨vw (ι a)::fr,S⟩ λx t'=>x=f a/\t'=⟨vw (ι a)::fr,S⟩) :
 W (Cp (Ar 0) DL elt (l.map ι)) ⟨z::fr,S⟩ λxs t'=>xs=l.map f/\t'.S=S:=by
 induction l generalizing z with
 |nil=>exact W_compL_nil.mpr ⟨rfl,rfl⟩
 |cons a r ih=>
   rw[ul2,DC];refine LD (TL ?_);rw[pW rfl];refine(h a ue6).mono λx t' z9=>?_;clear 5 z9 e1 e2;subst e1 e2;refine(ih (z:=vw (ι a)) λb hb=>h b (ud1 _ hb)).mono λxs t' z9=>?_;clear 5 z9 e1 e2;subst e1;exact⟨rfl,e2⟩
noncomputable def sq(b:Bool)(ds:List D):D:=if b then .tup ds else .lst ds
theorem TC{b:Bool}{Q:List D->T->Prop}(h:Q ds t):W (Ec (sq b ds)) t Q:=by cases b;exact Yn h;exact fT h
theorem TJ{b:Bool}(h:P (sq b (BS ds lo hi)) t):W (Fd (sq b ds) lo hi) t P:=by cases b;exact fX h;exact fZ h
theorem Y2{b:Bool}{i:Int}{d:D}(e:atI ds i=some d)(h:P d t):W (ixD (sq b ds) (.int i)) t P:=by cases b;exact A4 e h;exact EE e h
theorem HD(x:GS):x.words=sq x.isFin (x.ws.map wdD):=by cases x<;>rfl
theorem Kg{row:List Int}{i:Int}(h0:0<=i)(h1:i<row.length):atI (row.map D.int) i=some (.int (row.getD i.toNat 0)):=by
 have hl:i.toNat<row.length:=by lia
 unfold atI;rw[Co h0 (by rw[ui7];lia)];show(row.map D.int)[i.toNat]?=_;rw[uf7,ua5,ub1 hl];rfl
abbrev Wd:=Str×Sh×Int
def Bg(g:List GS):Nat->Nat->List (List Str)
 |0,s=>if (Ao g s).isFin then [[]] else []
 |n+1,s=>((Ao g s).ws.map λw=>(Bg g n w.2.2.toNat).map (w.1 :: ·)).flatten
def fan(g:List GS)(n:Nat)(ws:List Wd):List (List Str):=(ws.map λw=>(Bg g n w.2.2.toNat).map (w.1 :: ·)).flatten
theorem Gi(g:List GS)(n s:Nat):Bg g (n+1) s=fan g n (Ao g s).ws:=by rw[Bg,fan]
theorem Hb(g:List GS)(n:Nat)(w:Wd)(r:List Wd):fan g n (w::r)=(Bg g n w.2.2.toNat).map (w.1 :: ·)++fan g n r:=by rw[fan,ul2,uf9];rfl
theorem Q8(g:List GS)(n:Nat):fan g n []=[]:=rfl
theorem Q7(g:List GS)(n:Nat)(a b:List Wd):fan g n (a++b)=fan g n a++fan g n b:=by unfold fan;rw[uk0,List.flatten_append]
noncomputable def cb(ws:List Wd)(row:List Int):Int:=(ws.map λw=>row.getD w.2.2.toNat 0).sum
def Nz(g:List GS):List Int:=g.map λx=>if x.isFin then 1 else 0
def Jn(g:List GS)(row:List Int):List Int:=g.map λx=>cb x.ws row
def Bl(g:List GS):Nat->List Int
 |0=>Nz g
 |n+1=>Jn g (Bl g n)
theorem D8(g:List GS)(n:Nat):(Bl g n).length=g.length:=by cases n<;>simp[Bl,Nz,Jn]
def Nn(g:List GS)(ws:List Wd):Prop:=∀w∈ws,0<=w.2.2/\w.2.2<(g.length:Int)
theorem HS(hg:GOk g){s:Nat}(hs:s<g.length):Nn g (Ao g s).ws:=by
 have:=By hg hs;intro w hw
 cases e:Ao g s with
 |fin=>rw[e] at hw;cases hw
 |st side ws=>
   rw[e] at this hw
   cases this with
   |st _ _ _ _ h5=>exact⟨(h5 w hw).lo,(h5 w hw).hi⟩
theorem Km(hg:GOk g){s:Nat}(hs:s<g.length):(Ao g s).ws.length<=9:=by
 have:=By hg hs
 cases e:Ao g s with
 |fin=>exact un7 _
 |st side ws=>
   rw[e] at this
   cases this with
   |st _ _ h3 _ _=>exact h3
theorem GQ{ws:List Wd}(h:Nn g ws)(p:Nat):Nn g (ws.take p):=λw hw=>h w (List.mem_of_mem_take hw)
theorem U1{β:Type}{f:GS->β}{d:β}{s:Nat}(hs:s<g.length):(g.map f).getD s d=f (Ao g s):=by
 unfold Ao;rw[ua5,uf7,ua5,ub1 hs];rfl
theorem O0{g:List GS}{n:Nat}(ih:∀s,s<g.length->(Bl g n).getD s 0=((Bg g n s).length:Int)):∀{ws:List Wd},Nn g ws->cb ws (Bl g n)=((fan g n ws).length:Int)
 |[],_=>rfl
 |w::r,h=>by
   have h1:=h w ue6;have h2:=O0 ih (ws:=r) λx m=>h x (ud1 _ m);unfold cb at h2⊢;rw[ul2,pC,h2,ih _ ∅,Hb,ue9,ui7];lia
theorem Hy{g:List GS}(hg:GOk g):∀(n s:Nat),s<g.length->(Bl g n).getD s 0=((Bg g n s).length:Int)
 |0,s,hs=>by
   rw[Bl,Nz,U1 hs,Bg]
   split<;>rfl
 |n+1,s,hs=>by
   rw[Bl,Jn,U1 hs,Gi];exact O0 (Hy hg n) (HS hg hs)
theorem M8(hg:GOk g){n:Nat}{ws:List Wd}(h:Nn g ws):cb ws (Bl g n)=((fan g n ws).length:Int):=O0 (Hy hg n) h
theorem O9(g:List GS)(n:Nat):∀(ws:List Wd) (k:Nat) (x:List Str),(fan g n ws)[k]?=some x->∃(p j:Nat) (w:Wd) (y:List Str),ws[p]?=some w/\(Bg g n w.2.2.toNat)[j]?=some y/\k=(fan g n (ws.take p)).length+j/\x=w.1::y
 |[],k,x,h=>by simp[fan] at h
 |w::r,k,x,h=>by
   rw[Hb] at h
   by_cases hk:k<((Bg g n w.2.2.toNat).map (w.1 :: ·)).length
   .rw[ua8 hk,uf7] at h;clear 5(ub9.mp h)y e1 e2;exact⟨0,k,w,y,rfl,e1,by simp[fan],e2.symm⟩
   .rw[ua4 ∅] at h;clear 5(O9 g n r _ x h)p j w' y e1 e2 e3 e4;refine⟨p+1,j,w',y,e1,e2,?_,e4⟩;rw[ue3,Hb,ue9];lia
theorem WH{ws:List Wd}(h:q<=p):(fan g n (ws.take q)).length<=(fan g n (ws.take p)).length:=by
 have e:ws.take p=ws.take q++(ws.take p).drop q:=by
  conv=>lhs;rw[<-List.take_append_drop q (ws.take p)]
  rw[List.take_take,Nat.min_eq_left h]
 rw[e,Q7,ue9];lia
theorem WG{ws:List Wd}{w:Wd}(e:ws[p]?=some w):(fan g n (ws.take (p+1))).length=(fan g n (ws.take p)).length+(Bg g n w.2.2.toNat).length:=by
 rw[List.take_add_one,e,Q7,ue9];show _+(fan g n [w]).length=_;rw[Hb,Q8,ui9,ui7]
inductive Tr(g:List GS):Nat->List Str->List (Nat×Nat)->Nat->Prop
 |nil {s:Nat}:s<g.length->Tr g s [] [] s
 |cons {s p:Nat}{w:Wd}{r:List Str}{st:List (Nat×Nat)}{e:Nat}:s<g.length->(Ao g s).ws[p]?=some w->Tr g w.2.2.toNat r st e->Tr g s (w.1::r) ((s,p)::st) e
def Qg(g:List GS):List (Nat×Nat)->Int
 |[]=>0
 |(s,p)::r=>Qg g r+cb ((Ao g s).ws.take p) (Bl g r.length)
set_option tactic.hygienic true in
theorem Tw{g:List GS}(hg:GOk g):∀(n s k:Nat) (x:List Str),s<g.length->(Bg g n s)[k]?=some x->∃st e,Tr g s x st e/\(Ao g e).isFin=true/\Qg g st=k/\st.length=n/\e<g.length
 |0,s,k,x,hs,h=>by
   rw[Bg] at h
   split at h
   .next hf=>
    cases k with
    |zero=>cases h;exact⟨[],s,.nil hs,hf,rfl,rfl,hs⟩
    |succ k=>simp at h
   .simp at h
 |n+1,s,k,x,hs,h=>by
   rw[Gi] at h;clear 5(O9 g n _ k x h)p j w y e1 e2 e3 e4;have hw:=HS hg hs w (ud4 e1);clear 5(Tw hg n w.2.2.toNat j y ∅ e2)st e t1 t2 t3 t4 t5;subst e4;refine⟨(s,p)::st,e,.cons hs e1 t1,t2,?_,by rw[ug9,t4],t5⟩;rw[Qg,t3,t4,M8 hg (GQ (HS hg hs) p),e3];lia
theorem Jw{g:List GS}:∀{n s:Nat}{x:List Str},x∈Bg g n s->x.length=n
 |0,s,x,h=>by
   rw[Bg] at h
   split at h
   .rw[uf1] at h;subst h;rfl
   .cases h
 |n+1,s,x,h=>by
   rw[Bg] at h;clear 5(List.mem_flatten.mp h)l hl hx;obtain⟨w,_,rfl⟩:=List.mem_map.mp hl;clear 5(List.mem_map.mp hx)y hy rfl;rw[ug9,Jw hy]
def MO(f:Fn):Prop:=∀(ws:List Wd) (b:Bool) (row:List Int),ws.length<=9->(∀w∈ws,0<=w.2.2/\w.2.2<(row.length:Int))->Pure1 f [sq b (ws.map wdD),.lst (row.map .int)] (.int (cb ws row))
theorem L8:MO (fnOf 2 2 FV):=by
 intro ws b row hl hn S;have hL:LIM=100000:=rfl;refine Ai rfl ?_;unfold FV;right;refine TC ?_;refine(GD (f:=λw=>.int (row.getD w.2.2.toNat 0)) (fr:=[vw (.lst (row.map .int))]) ?_).mono ?_
 .intro w hw;clear 5(hn w hw)h0 h1;unfold wdD;right;exact A4 (Kg h0 h1) ⟨rfl,rfl⟩
 .rintro xs t' ⟨rfl,hS⟩;refine Bi (by rw[ui7,hL];lia) ?_;right;refine Yq (ns:=ws.map λw=>row.getD w.2.2.toNat 0) ?_ ⟨rfl,hS⟩;rw[<-Mo,un3];rfl
abbrev gD(g:List GS):D:=.lst (g.map GS.d)
abbrev DK(row:List Int):D:=.lst (row.map .int)
def Kq(f:Fn):Prop:=∀g,GOk g->Pure1 f [gD g] (DK (Nz g))
theorem Nb(he:DB ce):Kq (fnOf 1 1 (E7 ce)):=by
 intro g hg S;have hL:LIM=100000:=rfl;have hle:=hg.le;refine Ai rfl ?_;unfold E7;right;refine(GD (f:=λx:GS=>.int (if x.isFin then 1 else 0)) (fr:=[]) ?_).mono ?_
 .intro x hx;right;refine(he _ x (hg.all x hx)).use ?_
  cases x.isFin
  .right;exact⟨rfl,rfl⟩
  .right;exact⟨rfl,rfl⟩
 .rintro xs t' ⟨rfl,hS⟩;refine Bi (by rw[ui7,hL];lia) ?_;exact⟨by rw[DK,Nz,un3];rfl,hS⟩
def LI(f:Fn):Prop:=∀g row,GOk g->row.length=g.length->Pure1 f [gD g,DK row] (DK (Jn g row))
theorem Na(hw:Fg cw)(hc:MO cc):LI (fnOf 2 2 (DY cw cc)):=by
 intro g row hg hr S;have hL:LIM=100000:=rfl;have hle:=hg.le;refine Ai rfl ?_;unfold DY;right;refine(GD (f:=λx:GS=>.int (cb x.ws row)) (fr:=[vw (DK row)]) ?_).mono ?_
 .intro x hx;right;rw[7,(hw _ x (hg.all x hx)).use];rw[HD];have hx':x.ws.length<=9/\∀w∈x.ws,0<=w.2.2/\w.2.2<(row.length:Int):=by
   rw[hr]
   cases hg.all x hx with
   |fin=>exact⟨un7 _,λw z=>nomatch z⟩
   |st _ _ h3 _ h5=>exact⟨h3,λw hw=>⟨(h5 w hw).lo,(h5 w hw).hi⟩⟩
  exact(hc x.ws x.isFin row hx'.1 hx'.2).use ⟨rfl,rfl⟩
 .rintro xs t' ⟨rfl,hS⟩;refine Bi (by rw[ui7,hL];lia) ?_;exact⟨by rw[DK,Jn,un3];rfl,hS⟩
def CH(g:List GS)(n:Nat):List D:=(List.range n).map λm=>DK (Bl g m)
theorem Gg(g:List GS)(n:Nat):(CH g n).length=n:=by simp[CH]
theorem F5(h:m<n):atI (CH g n) (m:Int)=some (DK (Bl g m)):=by
 unfold atI;rw[Co ∅ (by rw[Gg];lia)];show(CH g n)[(m:Int).toNat]?=_;rw[uf8];unfold CH;rw[uf7,ue2 h];rfl
def LQ(f:Fn):Prop:=∀g (n:Nat),GOk g->n<=100->Pure1 f [gD g,.int n] (.lst (CH g (n+1)))
theorem O6(hm:LI cm)(hn:Kq cn):LQ (fnOf 2 4 (FW cm cn)):=by
 intro g n hg hn1 S;have hL:LIM=100000:=rfl;refine Ai rfl ?_;unfold FW;right;rw[7,(hn g hg).use];refine ET (Bq ∅ ∅) ?_;refine BG (λr t=>∃(j:Nat) (e3:Option Sl),j<=n/\r=(Bf 0 (n:Int).toNat).drop j/\t=⟨[vw (gD g),vw (.int n),some (.own (CH g (j+1))),e3],S⟩) _ _ ⟨0,none,by lia,rfl,rfl⟩ ?_ ?_
 .rintro d r t ⟨j,e3,hj,hr,rfl⟩ _;clear 5(De hr)rfl hr' hjn;rw[uf8] at hjn;rw[Int.zero_add];right;rw[7,V8 rfl];refine⟨_,_,_,rfl,rfl,F5 ∅,?_⟩;right;rw[7,(hm g (Bl g j) hg (D8 g j)).use];refine Bi (by rw[Gg,hL];lia) ?_;refine⟨j+1,vw (.int j),hjn,hr',?_⟩;have:CH g (j+1+1)=CH g (j+1)++[DK (Jn g (Bl g j))]:=by
   unfold CH;rw[List.range_succ,uk0];rfl
  rw[this];rfl
 .rintro t ⟨j,e3,hj,hr,rfl⟩;have hj':j=n:=by
   have:=pQ List.length hr;rw[uj5,uh2,Dy,uf8] at this;lia
  subst hj';right;exact⟨rfl,rfl⟩
def JE(f:Fn):Prop:=∀g (n:Nat),GOk g->n<=100->Pure1 f [gD g,.int n] (.int ((Bg g n 0).length:Nat))
theorem QI(hu:LQ cu):JE (fnOf 2 2 (Jb cu)):=by
 intro g n hg hn S;refine Ai rfl ?_;unfold Jb;right;rw[7,(hu g n hg hn).use];rw[7,A4 (F5 ∅)];refine A4 (Kg (Int.le_refl 0) (by rw[D8];have:=hg.ne;lia)) ?_;refine⟨?_,rfl⟩;rw[<-Hy hg n 0 hg.ne];rfl
def Lc(f:Fn):Prop:=∀(g:List GS) (n:Nat) (ws:List Wd) (b:Bool) (p j:Nat) (w:Wd),GOk g->ws.length<=9->Nn g ws->ws[p]?=some w->j<(Bg g n w.2.2.toNat).length->Pure1 f [sq b (ws.map wdD),DK (Bl g n),.int (((fan g n (ws.take p)).length:Nat)+j)] (.int p)
theorem NG{b:Bool}{ws:List Wd}(h:q<=ws.length):sq b (BS (ws.map wdD) none (some (q:Int)))=sq b ((ws.take q).map wdD):=by
 rw[WE ∅ (by rw[ui7];lia),uf8,ul6]
theorem KY(hc:MO cc):Lc (fnOf 3 4 (Fa cc)):=by
 intro g n ws b p j w hg hl hx ew hj S;obtain⟨hp,_⟩:=ua7.mp ew;refine Ai rfl ?_;unfold Fa;right;have hcb:∀q,q<=ws.length->Pure1 cc [sq b ((ws.take q).map wdD),DK (Bl g n)] (.int ((fan g n (ws.take q)).length:Nat)):=λq hq=>by
  have:=hc (ws.take q) b (Bl g n) (by rw[uh1];lia) (by rw[D8];exact GQ hx q);rw[M8 hg (GQ hx q)] at this;exact this
 refine FL (λm t=>∃q:Nat,q+m=p/\t=⟨[vw (sq b (ws.map wdD)),vw (DK (Bl g n)),vw (.int (((fan g n (ws.take p)).length:Nat)+j)),vw (.int q)],S⟩) ?_ IL p _ (by show p<1000000;lia) ⟨0,by lia,rfl⟩;rintro m t ⟨q,hq,rfl⟩;right;refine TJ ?_;rw[show((q:Int)+1)=((q+1:Nat):Int) by lia,NG ∅];right;rw[7,(hcb (q+1) ∅).use]
 by_cases z:q<p
 .have h1:=WH (g:=g) (n:=n) (ws:=ws) (p:=p) (q:=q+1) ∅;have e:decide ((((fan g n (ws.take (q+1))).length:Nat):Int)<=((fan g n (ws.take p)).length:Nat)+(j:Int))=true:=by rw[ug6];lia
  rw[e];refine⟨m-1,by lia,?_⟩;right;exact⟨q+1,by lia,rfl⟩
 .have:q=p:=by lia
  subst this;have h1:=WG (g:=g) (n:=n) ew;have e:decide ((((fan g n (ws.take (q+1))).length:Nat):Int)<=((fan g n (ws.take q)).length:Nat)+(j:Int))=false:=by rw[decide_eq_false_iff_not];lia
  rw[e];show EB _ _ _ _;right;exact⟨rfl,rfl⟩
abbrev Kl(x:List Str):D:=.lst (x.map .str)
def LR(f:Fn):Prop:=∀(g:List GS) (n k:Nat) (x:List Str),GOk g->n<=100->(Bg g n 0)[k]?=some x->Pure1 f [gD g,.int n,.int k] (Kl x)
theorem NW{d:D}(h:d::r=Fw m):∃q,m=q+1/\d=.int q/\r=Fw q:=by
 cases m with
 |zero=>cases h
 |succ q=>rw[Fw] at h;injection h with h1 h2;exact⟨q,rfl,h1,h2⟩
theorem O8(h:[]=Fw m):m=0:=by
 cases m with
 |zero=>rfl
 |succ q=>rw[Fw] at h;cases h
theorem jJ{a3 e7 e8 e9:Option Sl}{p q i j:D}(h:X=Y)(h1:p=q)(h2:i=j):(⟨[a0,a1,a2,a3,some (.own X),vw p,vw i,e7,e8,e9],S⟩:T)=⟨[a0,a1,a2,a3,some (.own Y),vw q,vw j,e7,e8,e9],S⟩:=by subst h h1 h2;rfl
theorem Wb(hc:MO cc)(hp:Lc cp)(hw:Fg cw)(hu:LQ cu)(hh:JE ch):LR (fnOf 3 10 (Lr cc cp cw cu ch)):=by
 intro g n k x hg hn hx S;have hL:LIM=100000:=rfl;obtain⟨hk,_⟩:=ua7.mp hx;have hxl:=Jw (ud4 hx);refine Ai rfl ?_;unfold Lr;right;rw[7,(hh g n hg ∅).use];refine EO (by rw[Bool.not_eq_false',ug6];lia) ?_;right;rw[7,(hu g n hg ∅).use];rw[7,Zc];refine YZ ∅ ?_;refine BG (λr t=>XN8 λ(m s j:Nat) (y acc:List Str) (e7 e8 e9:Option Sl)=>AN6 (r=Fw m) (m<=n) (s<g.length) ((Bg g m s)[j]?=some y) (acc++y=x) (t=⟨[vw (gD g),vw (.int n),vw (.int k),vw (.lst (CH g (n+1))),some (.own (acc.map .str)),vw (.int s),vw (.int j),e7,e8,e9],S⟩)) _ _ ⟨n,0,k,x,[],none,none,none,rfl,un6 _,hg.ne,hx,rfl,rfl⟩ ?_ ?_
 .rintro d r t ⟨m,s,j,y,acc,e7,e8,e9,hr,hm,hs,hy,ha,rfl⟩ _;clear 5(NW hr)q rfl rfl rfl;rw[Gi] at hy;clear 5(O9 g q _ j y hy)p i w z e1 e2 e3 e4;obtain⟨hi,_⟩:=ua7.mp e2;obtain⟨hpl,_⟩:=ua7.mp e1;have hnx:=HS hg hs;have hw9:=Km hg hs;have hwn:=hnx w (ud4 e1);have ej:(j:Int)=((fan g q ((Ao g s).ws.take p)).length:Nat)+(i:Int):=by lia
  have hcb:=hc ((Ao g s).ws.take p) (Ao g s).isFin (Bl g q) (by rw[uh1];lia) (by rw[D8];exact GQ hnx p);rw[M8 hg (GQ hnx p)] at hcb;rw[ej];right;rw[7,A4 (Bv hs)];refine(hw _ _ (By hg hs)).use ?_;rw[HD];right;rw[7,A4 (F5 ∅)];rw[7,(hp g q (Ao g s).ws (Ao g s).isFin p i w hg hw9 hnx e1 hi).use];refine TJ ?_;rw[NG ∅];right;rw[7,A4 (F5 ∅)];rw[7,hcb.use];refine Y2 (IG e1) ?_;unfold wdD;right;refine Bi ?_ ?_
  .have:=pQ List.length ha;rw[ue9,e4] at this;rw[ui7,hL];simp only[ug9] at this;lia
  right;refine Y2 (IG e1) ?_;unfold wdD;right;refine⟨q,w.2.2.toNat,i,z,acc++[w.1],_,_,_,rfl,by lia,by lia,e2,?_,jJ ?_ ?_ ?_⟩
  .rw[ug0,<-ha,e4];rfl
  .rw[uk0];rfl
  .rw[Int.toNat_of_nonneg hwn.1]
  .congr 1;lia
 .rintro t ⟨m,s,j,y,acc,e7,e8,e9,hr,hm,hs,hy,ha,rfl⟩;have:=O8 hr;subst this;have hy0:y=[]:=List.eq_nil_of_length_eq_zero (Jw (ud4 hy));subst hy0;rw[ui9] at ha;subst ha;refine Fl ?_;refine Sd rfl ?_;exact⟨rfl,rfl⟩
noncomputable def Kh(x:Nat×Nat):D:=.tup [.int x.1,.int x.2]
def Le(f:Fn):Prop:=∀(g:List GS) (x:List Str) (st:List (Nat×Nat)) (e:Nat),GOk g->Tr g 0 x st e->(Ao g e).isFin=true->st.length<=1000->Pure1 f [gD g,Kl x] (.lst (st.map Kh))
theorem YG(hg:GOk g){s:Nat}(hs:s<g.length):((Ao g s).ws.map (·.1)).Nodup:=by
 have:=By hg hs
 cases e:Ao g s with
 |fin=>exact pz
 |st side ws=>
   rw[e] at this
   cases this with
   |st _ _ _ h4 _=>exact h4
theorem Ze{s:Nat}{w:Wd}(e:(Ao g s).ws[p]?=some w):wdAt g s p=w:=by
 unfold wdAt;rw[ua5,e];rfl
theorem t7w{e4:Option Sl}{p q:D}(h:X=Y)(h1:p=q):(⟨[a0,a1,vw p,some (.own X),e4,e5,e6],S⟩:T)=⟨[a0,a1,vw q,some (.own Y),e4,e5,e6],S⟩:=by subst h h1;rfl
theorem VZ{g:List GS}:∀{s:Nat}{x:List Str}{st:List (Nat×Nat)}{e:Nat},Tr g s x st e->e<g.length
 |_,_,_,_,.nil h=>h
 |_,_,_,_,.cons _ _ t=>VZ t
theorem NF(he:DB ce)(hn:Io cn)(hp:IJ cp):Le (fnOf 2 7 (Gx ce cn cp)):=by
 intro g x st e hg ht hf hl S;have hL:LIM=100000:=rfl;refine Ai rfl ?_;unfold Gx;right;refine BG (λr t=>XN7 λ(s:Nat) (y:List Str) (a b:List (Nat×Nat)) (e4 e5 e6:Option Sl)=>AN4 (r=y.map .str) (Tr g s y b e) (a++b=st) (t=⟨[vw (gD g),vw (Kl x),vw (.int s),some (.own (a.map Kh)),e4,e5,e6],S⟩)) _ _ ⟨0,x,[],st,none,none,none,rfl,ht,rfl,rfl⟩ ?_ ?_
 .rintro d r t ⟨s,y,a,b,e4,e5,e6,hr,htr,hab,rfl⟩ _
  cases htr with
  |nil _=>cases hr
  |@cons _ p w r' st' _ hs e1 t'=>
    rw[ul2] at hr;injection hr with h1 h2
    subst h1 h2;obtain⟨hpl,_⟩:=ua7.mp e1;have hfi:=Mg (YG hg hs) e1;have hpn:=hp _ (Ao g s) w.1 (By hg hs);rw[hfi] at hpn;have hnx:=hn g s p hg hs hpl;have hw:=Ze e1;right;rw[7,A4 (Bv hs)];refine hpn.use ?_;rw[Mt];right;refine Bi ?_ ?_
    .have:=pQ List.length hab;rw[ue9] at this;rw[ui7,hL];simp only[ug9] at this;lia
    right;rw[7,hnx.use];refine⟨w.2.2.toNat,r',a++[(s,p)],st',_,_,_,rfl,t',by rw[ug0,<-hab];rfl,t7w (by rw[uk0];rfl) ?_⟩;unfold Ct;rw[hw]
 .rintro t ⟨s,y,a,b,e4,e5,e6,hr,htr,hab,rfl⟩
  cases htr with
  |cons _ _ _=>cases hr
  |nil hs=>
    rw[ui9] at hab;subst hab;right;rw[7,A4 (Bv hs)];refine(he _ _ (By hg hs)).use ?_;rw[hf];right;exact⟨rfl,rfl⟩
theorem V0{g:List GS}:∀{s:Nat}{x:List Str}{st:List (Nat×Nat)}{e:Nat},Tr g s x st e->∀(i:Nat) (sp:Nat×Nat),st[i]?=some sp->sp.1<g.length/\sp.2<(Ao g sp.1).ws.length
 |_,_,_,_,.nil _,i,sp,h=>by simp at h
 |_,_,_,_,.cons hs e1 t,0,sp,h=>by
   cases h
   obtain⟨hpl,_⟩:=ua7.mp e1;exact⟨hs,hpl⟩
 |_,_,_,_,.cons hs e1 t,i+1,sp,h=>V0 t i sp (by simpa using h)
def LJ(f:Fn):Prop:=∀(g:List GS) (n k:Nat) (x:List Str),GOk g->n<=100->(Bg g n 0)[k]?=some x->Pure1 f [gD g,Kl x] (.int k)
theorem YT{st:List (Nat×Nat)}{sp:Nat×Nat}(e:st[i]?=some sp):atI (st.map Kh) (i:Int)=some (Kh sp):=by
 obtain⟨hp,_⟩:=ua7.mp e;unfold atI;rw[Co ∅ (by rw[ui7];lia)];show(st.map Kh)[(i:Int).toNat]?=_;rw[uf8,uf7,e];rfl
theorem u7{p q i j:D}(h:p=q)(h1:i=j):(⟨[a0,a1,a2,vw p,vw i,e5,e6],S⟩:T)=⟨[a0,a1,a2,vw q,vw j,e5,e6],S⟩:=by subst h h1;rfl
theorem P3{cs:Fn}(hm:LI cm)(hc:MO cc)(hw:Fg cw)(hn:Kq cn)(hs:Le cs):LJ (fnOf 2 7 (Ii cm cc cw cn cs)):=by
 intro g n k x hg hn5 hx S;clear 5(Tw hg n 0 k x hg.ne hx)st e t1 t2 t3 t4 t5;refine Ai rfl ?_;unfold Ii;right;rw[7,(hs g x st e hg t1 t2 ∅).use];rw[7,(hn g hg).use];rw[7,Zc];rw[ui7];refine YZ ∅ ?_;refine BG (λr t=>∃(m:Nat) (e5 e6:Option Sl),r=Fw m/\m<=n/\t=⟨[vw (gD g),vw (Kl x),vw (.lst (st.map Kh)),vw (DK (Bl g (n-m))),vw (.int (Qg g (st.drop m))),e5,e6],S⟩) _ _ ⟨n,none,none,by rw[t4],un6 _,?_⟩ ?_ ?_
 .rw[Nat.sub_self,<-t4,uh5];rfl
 .rintro d r t ⟨m,e5,e6,hr,hm',rfl⟩ _;clear 5(NW hr)q rfl rfl rfl;have hq:q<st.length:=by lia
  have eq1:st[q]?=some st[q]:=ub1 hq;have hsp:=V0 t1 q _ eq1;have hdrop:st.drop q=st[q]::st.drop (q+1):=List.drop_eq_getElem_cons hq;generalize st[q]=sp at eq1 hsp hdrop;clear 5 sp s p;have hnx:=HS hg hsp.1;have hw9:=Km hg hsp.1;have hpl:p<(Ao g s).ws.length:=hsp.2;right;refine A4 (YT eq1) ?_;unfold Kh;right;rw[7,A4 (Bv hsp.1)];refine(hw _ _ (By hg hsp.1)).use ?_;rw[HD];right;refine A4 (YT eq1) ?_;unfold Kh;right;refine TJ ?_;rw[NG (by show p<=_;lia)];right;refine(hc ((Ao g s).ws.take p) (Ao g s).isFin (Bl g (n-(q+1))) (by rw[uh1];lia) (by rw[D8];exact GQ hnx p)).use ?_;right;rw[7,(hm g _ hg (D8 g _)).use];refine⟨q,_,_,rfl,by lia,u7 ?_ ?_⟩
  .have:n-q=n-(q+1)+1:=by lia
   rw[this,Bl]
  .rw[hdrop,Qg,uh2,t4]
 .rintro t ⟨m,e5,e6,hr,hm',rfl⟩;have:=O8 hr;subst this;right;exact⟨by rw[uk8,t3],rfl⟩
theorem JI{l:List α}{ι f:α->D}{p:α->Bool}{tst:M Bool}(h:∀a∈l,W tst ⟨vw (ι a)::fr,S⟩ λb t'=>b=p a/\t'=⟨vw (ι a)::fr,S⟩)(h2:∀a∈l,W elt ⟨vw (ι a)::fr,S⟩ λx t'=>x=f a/\t'=⟨vw (ι a)::fr,S⟩) :
 W (Cp (Ar 0) tst elt (l.map ι)) ⟨z::fr,S⟩ λxs t'=>xs=(l.filter p).map f/\t'.S=S:=by
 induction l generalizing z with
 |nil=>exact W_compL_nil.mpr ⟨rfl,rfl⟩
 |cons a r ih=>
   rw[ul2,DC];refine LD ?_;refine(h a ue6).mono λb t' z9=>?_;clear 5 z9 e1 e2;subst e1 e2;have ih':=ih (z:=vw (ι a)) (λb hb=>h b (ud1 _ hb)) (λb hb=>h2 b (ud1 _ hb))
   cases e:p a with
   |true=>
     rw[pW rfl];refine(h2 a ue6).mono λx t' z9=>?_;clear 5 z9 e1 e2;subst e1 e2;refine ih'.mono λxs t' z9=>?_;clear 5 z9 e1 e2;subst e1;exact⟨by rw[List.filter_cons_of_pos e,ul2],e2⟩
   |false=>
     rw[pX ue7];refine ih'.mono λxs t' z9=>?_;clear 5 z9 e1 e2;subst e1;exact⟨by rw[List.filter_cons_of_neg (by rw[e];exact ue7)],e2⟩
def nx9(g:List GS)(s:Nat):List Nat:=(Ao g s).ws.map λw=>w.2.2.toNat
theorem fP{l:List (Int×M D)}(h:W (Dk l) ⟨t.env,t.S++[.dct []]⟩ λps t1=>t1.S[t.S.length]?=some (.dct [])/\ps.length<=15/\P (.obj t.S.length) ⟨t1.env,t1.S.set t.S.length (.dct (kvMerge ps))⟩):W (DH l) t P:=by
 clear 5 h ps t1 e1 e2 e3 p;refine⟨_,_,?_,p⟩;unfold DH bnd;simp only[e1];unfold Fi;simp only[e2,pW e3]
theorem TH(h:Q [] t):W (Dk []) t Q:=⟨_,_,rfl,h⟩
theorem QQ{k:Int}{r:List (Int×M D)}(h:W f t λd t1=>W (Dk r) t1 λps t2=>Q ((.inl k,d)::ps) t2):W (Dk ((k,f)::r)) t Q:=
 CL (h.mono λd t1 h1=>CL (h1.mono λps t2 h2=>⟨_,_,rfl,h2⟩))
theorem bO{g:M D}{d:D}{U:Unit->T->Prop}(h:W f t λo t1=>W g t1 λi t2=>W (HA o i d) t2 U):W (ME f g d) t U:=CL (h.mono λo t1 h1=>CL h1)
theorem V9{x:Int}{d:D}{U:Unit->T->Prop}(e:t.S[n]?=some (.dct kvs))(hl:kvs.length<LIM)(h:U () ⟨t.env,t.S.set n (.dct (BJ kvs (.inl x) d))⟩):W (HA (.obj n) (.int x) d) t U:=
 ⟨(),_,by simp only[HA,e,pW hl],h⟩
theorem Y1{x:Int}{d:D}(e:t.S[n]?=some (.dct kvs))(e2:AR kvs (.inl x)=some d)(h:P d t):W (HI (.obj n) (.int x)) t P:=
 ⟨_,_,by simp only[HI,e,e2,Option.map_some],h⟩
theorem kh{neg:Bool}{x:Int}(e:t.S[n]?=some (.dct kvs))(h:P (.bl (if neg then !(AR kvs (.inl x)).isSome else(AR kvs (.inl x)).isSome)) t):W (inK neg (.int x) (.obj n)) t P:=
 ⟨_,_,by simp only[inK,e],h⟩
theorem f8{ns:List Int}{P:List D->T->Prop}(e:t.S[n]?=some (.dct kvs))(e2:keysI kvs=some ns)(hl:ns.length<64)(h:P ((srtZ ns).map D.int) t):W (ID [.obj n]) t P:=
 ⟨_,_,by simp only[ID,e,e2,pW hl],h⟩
theorem Hu:∀{N:Nat}{l:List Nat},l.Nodup->(∀k∈l,k<N)->l.length<=N
 |0,[],_,_=>un6 _
 |0,a::l,_,h=>absurd (h a ue6) ∅
 |N+1,l,nd,h=>by
   have h1:(l.erase N).length<=N:=Hu (nd.erase N) λk hk=>by
    have:=(nd.mem_erase_iff).mp hk;have:=h k this.2;lia
   have h2:l.length<=(l.erase N).length+1:=by rw[List.length_erase];split<;>lia
   lia
theorem Ro{k:Key}(h:k∉kvs.map (·.1)):AR kvs k=none/\(kvs.any λkv=>decide (kv.1=k))=false:=by
 induction kvs with
 |nil=>exact⟨rfl,rfl⟩
 |cons p r ih=>
   rw[ul2] at h;have e:¬p.1=k:=λz=>h (by rw[z];exact ue6);obtain⟨h1,h2⟩:=ih λz=>h (ud1 _ z);refine⟨?_,by rw[ul5,uk3 e,h2];rfl⟩;rw[<-h1];simp[AR,e]
def Ez(l:List Nat):List D:=l.map λk:Nat=>D.int (k:Int)
theorem PU(l:List Nat):(Ez l).length=l.length:=by unfold Ez;rw[ui7]
theorem Qr{a b:Ob}:(S++[a]).set S.length b=S++[b]:=by
 rw[List.set_append_right _ _ (un6 _),Nat.sub_self];rfl
theorem IX{a:Ob}:(S++[a])[S.length]?=some a:=by simp
variable{ks:List Nat}
theorem bA(nd:ks.Nodup):∃l:List Nat,srtZ (ks.map λk:Nat=>(k:Int))=l.map (λk:Nat=>(k:Int))/\l.Pairwise (· < ·)/\(∀s,s∈l↔s∈ks)/\l.length=ks.length:=by
 have hp:=HN (ks.map λk:Nat=>(k:Int));have hs:=Lz (ks.map λk:Nat=>(k:Int));generalize srtZ (ks.map λk:Nat=>(k:Int))=zs at hp hs;have e:zs=(zs.map Int.toNat).map (λk:Nat=>(k:Int)):=by
  rw[un3]
  conv=>lhs;rw[<-List.map_id zs]
  refine List.map_congr_left λz hz=>?_;obtain⟨k,_,rfl⟩:=List.mem_map.mp (hp.mem_iff.mp hz);rfl
 have hm:∀s,s∈zs.map Int.toNat↔s∈ks:=λs=>by
  constructor
  .intro h;clear 5(List.mem_map.mp h)z hz rfl;clear 5(List.mem_map.mp (hp.mem_iff.mp hz))k hk rfl;exact hk
  .intro h;exact List.mem_map.mpr ⟨(s:Int),hp.mem_iff.mpr (List.mem_map.mpr ⟨s,h,rfl⟩),rfl⟩
 have hnd:zs.Nodup:=by
  refine hp.nodup_iff.mpr ?_;unfold List.Nodup;rw[List.pairwise_map];exact List.Pairwise.imp (λ{a b} h=>by have h:a≠b:=h;show(a:Int)≠(b:Int);lia) nd
 have hpw:(zs.map Int.toNat).Pairwise (· < ·):=by
  rw[e] at hs hnd;rw[List.pairwise_map] at hs;have h2:(zs.map Int.toNat).Pairwise λa b:Nat=>(a:Int)≠(b:Int):=by
   have:=hnd;unfold List.Nodup at this
   rwa [List.pairwise_map] at this
  exact(hs.and h2).imp λ{a b} h=>by have:=h.1;have:=h.2;lia
 exact⟨zs.map Int.toNat,e,hpw,hm,by rw[ui7,hp.length_eq,ui7]⟩
theorem ge(hg:GOk g){s:Nat}(hs:s<g.length):(Ao g s).ws.length<=9/\∀w∈(Ao g s).ws,True/\0<=w.2.2/\w.2.2<(g.length:Int):=
 ⟨Km hg hs,λw hw=>⟨trivial,HS hg hs w hw⟩⟩
theorem iV{x:GS}(h:GSOk n x):x.ws.length<=9/\∀w∈x.ws,True/\0<=w.2.2/\w.2.2<(n:Int):=by
 cases h with
 |fin=>exact⟨un7 _,λ_ z=>nomatch z⟩
 |st _ _ h3 _ h5=>exact⟨h3,λw hw=>⟨trivial,(h5 w hw).lo,(h5 w hw).hi⟩⟩
def jac(g:List GS)(e:List Bool):List Bool:=g.map λx=>x.isFin||(x.ws.map λw=>e.getD w.2.2.toNat false).any id
def Bp(g:List GS):Nat->List Bool
 |0=>g.map GS.isFin
 |k+1=>jac g (Bp g k)
theorem E3(g:List GS):∀k,(Bp g k).length=g.length
 |0=>by rw[Bp,ui7]
 |k+1=>by rw[Bp,jac,ui7]
noncomputable def HW:List Bool->Nat
 |[]=>0
 |b::r=>(if b then 1 else 0)+HW r
theorem QZ:∀l,HW l<=l.length
 |[]=>un6 _
 |b::r=>by have:=QZ r;rw[HW,ug9];cases b<;>simp<;>lia
def Sub(a b:List Bool):Prop:=∀i,a.getD i false=true->b.getD i false=true
theorem Ll:∀{a b:List Bool},a.length=b.length->Sub a b->HW a<=HW b/\(a≠b->HW a<HW b)
 |[],[],_,_=>⟨un6 _,λz=>absurd rfl z⟩
 |[],_::_,h,_=>by cases h
 |_::_,[],h,_=>by cases h
 |x::a,y::b,h,s=>by
   obtain⟨h1,h2⟩:=Ll (a:=a) (b:=b) (by simpa using h) λi hi=>by have:=s (i+1);simpa using this (by simpa using hi)
   have h0:x=true->y=true:=by have:=s 0;simpa using this
   rw[HW,HW]
   cases x with
   |true=>
     rw[h0 rfl];refine⟨by lia,λz=>?_⟩;have:=h2 λe=>z (by rw[e]);lia
   |false=>
     cases y with
     |true=>exact⟨by simp;lia,λ_=>by simp;lia⟩
     |false=>
       refine⟨by lia,λz=>?_⟩;have:=h2 λe=>z (by rw[e]);lia
theorem Hf(l:List α)(f:α->Bool)(i:Nat):(l.map f).getD i false=match l[i]? with|some x=>f x|none=>false:=by
 rw[ua5,uf7]
 cases l[i]?<;>rfl
theorem ZX{a b:List Bool}(s:Sub a b):Sub (jac g a) (jac g b):=λi h=>by
 unfold jac at h⊢;rw[Hf] at h⊢
 cases e:g[i]? with
 |none=>rw[e] at h;cases h
 |some x=>
   rw[e] at h;simp only[uj7] at h⊢;rcases h with h|h
   .exact .inl h
   .refine .inr ?_;rw[pK,ui0] at h⊢;clear 5 h w hw hh;exact⟨w,hw,s _ hh⟩
theorem Pw(g:List GS):∀k,Sub (Bp g k) (Bp g (k+1))
 |0=>λi h=>by
   rw[Bp,Hf] at h;rw[Bp,jac,Hf]
   cases e:g[i]? with
   |none=>rw[e] at h;cases h
   |some x=>
     rw[e] at h;have h:x.isFin=true:=h;show(x.isFin||_)=true;rw[h];rfl
 |k+1=>ZX (Pw g k)
theorem Pu(g:List GS):∀k,Bp g k=Bp g (k+1)\/k+1<=HW (Bp g (k+1))
 |0=>by
   by_cases e:Bp g 0=Bp g 1
   .exact .inl e
   .have:=(Ll (by rw[E3,E3]) (Pw g 0)).2 e;exact .inr ∅
 |k+1=>by
   rcases Pu g k with e|e
   .exact .inl (show jac g (Bp g k)=jac g (Bp g (k+1)) by rw[e])
   .by_cases e2:Bp g (k+1)=Bp g (k+2)
    .exact .inl e2
    .have:=(Ll (by rw[E3,E3]) (Pw g (k+1))).2 e2;exact .inr ∅
theorem ZW(g:List GS):jac g (Bp g g.length)=Bp g g.length:=by
 rcases Pu g g.length with e|e
 .exact e.symm
 .have h1:=QZ (Bp g (g.length+1));rw[E3] at h1;lia
def blD(l:List Bool):List D:=l.map D.bl
theorem Zl(l:List Bool):(blD l).length=l.length:=by unfold blD;rw[ui7]
theorem Yy{l:List Bool}(h:i<l.length):atI (blD l) (i:Int)=some (.bl (l.getD i false)):=by
 unfold atI;rw[Co ∅ (by rw[Zl];lia)];show(blD l)[(i:Int).toNat]?=_;rw[uf8];unfold blD;rw[uf7,ub1 h,ua5,ub1 h];rfl
theorem T5:∀l:List Bool,IN (blD l)=some l
 |[]=>rfl
 |b::r=>by
   show(IN (blD r)).map (b :: ·)=_;rw[T5 r];rfl
theorem j1{bs:List Bool}(e:IN ds=some bs)(h:P (.bl (bs.any id)) t):W (MV [.lst ds]) t P:=⟨_,_,by simp only[MV,e],h⟩
def MP(f:Fn):Prop:=∀(n:Nat) (x:GS) (e:List Bool),GSOk n x->e.length=n->n<=30->Pure1 f [x.d,.lst (blD e)] (.bl ((x.ws.map λw=>e.getD w.2.2.toNat false).any id))
theorem Xe(hw:Fg cw):MP (fnOf 2 2 (Jd cw)):=by
 intro n x e hx he hn S;have hL:LIM=100000:=rfl;clear 5(iV hx)hl3 hws;refine Ai rfl ?_;unfold Jd;right;refine(hw _ x hx).use ?_;rw[HD];refine TC ?_;refine(DP (l:=x.ws) (ι:=wdD) (f:=λw=>D.bl (e.getD w.2.2.toNat false)) (fr:=[vw (.lst (blD e))]) λw hw=>?_).mono ?_
 .obtain⟨_,h2,h3⟩:=hws w hw;obtain⟨k,hk⟩:∃k:Nat,w.2.2=k:=⟨w.2.2.toNat,by lia⟩;unfold wdD;rw[hk];right;refine A4 (Yy ∅) ?_;exact⟨by rw[uf8],rfl⟩
 .rintro xs t' ⟨rfl,hS⟩;refine Bi (by rw[ui7,hL];lia) ?_;right;have eb:(x.ws.map λw=>D.bl (e.getD w.2.2.toNat false))=blD (x.ws.map λw=>e.getD w.2.2.toNat false):=by unfold blD;rw[un3];rfl
  rw[eb];refine j1 (T5 _) ?_;exact⟨rfl,hS⟩
def Ou(g:List GS):List D:=((List.range g.length).filter λk=>(Bp g g.length).getD k false).map λk:Nat=>D.int (k:Int)
def Lb(f:Fn):Prop:=∀(g:List GS),GOk g->Pure1 f [gD g] (.lst (Ou g))
theorem Ny(N:Nat):Bf 0 N=(List.range N).map λk:Nat=>D.int (k:Int):=by
 unfold Bf;refine List.map_congr_left λk _=>?_;rw[Int.zero_add]
theorem Ui(he:DB ce)(hl:MP cl):Lb (fnOf 1 3 (Ib ce cl)):=by
 intro g hg S;have hL:LIM=100000:=rfl;have hle:=hg.le;refine Ai rfl ?_;unfold Ib;right;refine(DP (l:=g) (ι:=GS.d) (f:=λx=>D.bl x.isFin) (fr:=[]) λx hx=>?_).mono ?_
 .right;refine(he _ x (hg.all x hx)).use ?_;exact⟨rfl,rfl⟩
 rintro xs t' ⟨rfl,hS⟩;refine Bi (by rw[ui7,hL];lia) ?_;have e0:(g.map λx=>D.bl x.isFin)=blD (Bp g 0):=by unfold blD Bp;rw[un3];rfl
 rw[e0];right;rw[hS];rw[ui7];refine ET (Bq ∅ ∅) ?_;rw[uf8];refine BG (λr t=>∃(j:Nat) (e2:Option Sl),j<=g.length/\r=(Bf 0 g.length).drop j/\t=⟨[vw (gD g),vw (.lst (blD (Bp g j))),e2],S⟩) _ _ ⟨0,none,by lia,rfl,rfl⟩ ?_ ?_
 .rintro d r t ⟨j,e2,hj,hr,rfl⟩ _;clear 5(De hr)rfl hr' hjn;right;refine(DP (l:=g) (ι:=GS.d) (f:=λx=>D.bl (x.isFin||(x.ws.map λw=>(Bp g j).getD w.2.2.toNat false).any id)) (fr:=[vw (.lst (blD (Bp g j)))]) λx hx=>?_).mono ?_
  .right;refine(he _ x (hg.all x hx)).use ?_
   cases hf:x.isFin with
   |true=>
     right;exact⟨rfl,rfl⟩
   |false=>
     right;refine(hl _ x _ (hg.all x hx) (E3 g j) hle).use ?_;exact⟨by rw[ul7],rfl⟩
  .rintro xs t' ⟨rfl,hS'⟩;refine Bi (by rw[ui7,hL];lia) ?_;right;have e1:(g.map λx=>D.bl (x.isFin||(x.ws.map λw=>(Bp g j).getD w.2.2.toNat false).any id))=blD (Bp g (j+1)):=by unfold blD;rw[Bp,jac,un3];rfl
   rw[e1,hS'];exact⟨j+1,_,hjn,hr',rfl⟩
 .rintro t ⟨j,e2,hj,hr,rfl⟩;have hj':j=g.length:=by
   have:=pQ List.length hr;rw[uj5,uh2,Dy] at this;lia
  subst hj';right;rw[ui7];refine ET (Bq ∅ ∅) ?_;rw[uf8,Ny];refine(JI (l:=List.range g.length) (ι:=λk:Nat=>D.int (k:Int)) (f:=λk:Nat=>D.int (k:Int)) (p:=λk=>(Bp g g.length).getD k false) (fr:=[vw (.lst (blD (Bp g g.length)))]) (λk hk=>?_) λk hk=>?_).mono ?_
  .have:=List.mem_range.mp hk;right;refine A4 (Yy (by rw[E3];lia)) ?_;right;exact⟨rfl,rfl⟩
  .right;exact⟨rfl,rfl⟩
  .rintro xs t' ⟨rfl,hS'⟩;have hfl:=List.length_filter_le (λk=>(Bp g g.length).getD k false) (List.range g.length);rw[ug4] at hfl;refine Bi (by rw[ui7,hL];lia) ?_;exact⟨rfl,hS'⟩
theorem ST{s:Nat}(hs:s<g.length):g[s]?=some (Ao g s):=by
 unfold Ao;rw[ua5,ub1 hs];rfl
theorem dm{a:List Bool}{s:Nat}(hs:s<g.length):(jac g a).getD s false=((Ao g s).isFin||((Ao g s).ws.map λw=>a.getD w.2.2.toNat false).any id):=by
 unfold jac;rw[Hf,ST hs]
theorem wHd{x:GS}(h:P (.str x.side) t):W (ixD x.d (.int 0)) t P:=by
 cases x with
 |fin=>exact EE rfl h
 |st side ws=>exact EE rfl h
def MQ(f:Fn):Prop:=∀(g:List GS) (s:Nat),GOk g->s<g.length->Pure1 f [gD g,.int s] (.lst (Ez (nx9 g s)))
theorem X9(hg:GOk g){s:Nat}(hs:s<g.length):((Ao g s).side==Str.ofString "end")=(Ao g s).isFin:=by
 have:=By hg hs
 cases e:Ao g s with
 |fin=>simp[GS.side,GS.isFin]
 |st side ws=>
   rw[e] at this
   cases this with
   |st h1 _ _ _ _=>rcases h1 with rfl|rfl<;>simp[GS.side,GS.isFin]
theorem Xo:MQ (fnOf 2 2 Gs):=by
 intro g s hg hs S;have hL:LIM=100000:=rfl;have hws:=ge hg hs;refine Ai rfl ?_;unfold Gs;right;rw[7,A4 (Bv hs)];rw[7,wHd];rw[show id ((Ao g s).side==Str.ofString "end")=((Ao g s).side==Str.ofString "end") from rfl,X9 hg hs]
 cases e:Ao g s with
 |fin=>
   right;exact⟨by unfold nx9;rw[e];rfl,rfl⟩
 |st side ws=>
   rw[e] at hws;have hws:ws.length<=9/\∀w∈ws,True/\0<=w.2.2/\w.2.2<(g.length:Int):=hws;right;refine A4 (Bv hs) ?_;rw[e,GS.d];right;refine(DP (f:=λw=>D.int w.2.2) (fr:=[]) ?_).mono ?_
   .intro w hw;unfold wdD;right;exact⟨rfl,rfl⟩
   rintro xs t' ⟨rfl,hS⟩;refine Bi (by rw[ui7,hL];lia) ?_;refine⟨?_,hS⟩;unfold Ez nx9;rw[e,GS.ws,un3]
   congr 1
   refine List.map_congr_left λw hw=>?_;have:=hws.2 w hw;show D.int w.2.2=D.int ((w.2.2.toNat:Nat):Int);rw[Int.toNat_of_nonneg this.2.1]
theorem Sa{g:List GS}{p:Nat}{w:Wd}:∀{s:Nat}{x:List Str}{st:List (Nat×Nat)}{e:Nat},Tr g s x st e->(Ao g e).ws[p]?=some w->w.2.2.toNat<g.length->∃st',Tr g s (x++[w.1]) st' w.2.2.toNat
 |_,_,_,_,.nil h,e1,h2=>⟨_,.cons h e1 (.nil h2)⟩
 |_,_,_,_,.cons h e0 t,e1,h2=>by
   clear 5(Sa t e1 h2)st' t';exact⟨_,.cons h e0 t'⟩
structure KVt(g:List GS)(kvs:List (Key×D))(ks:List Nat):Prop where
 keys:kvs.map (·.1)=ks.map λk:Nat=>(Sum.inl (k:Int):Key)
 nd:ks.Nodup
 lt:∀k∈ks,k<g.length
 val:∀kv∈kvs,∃(k:Nat) (x:List Str) (st:List (Nat×Nat)),kv=(Sum.inl (k:Int),.lst (x.map .str))/\Tr g 0 x st k/\x.length<=ks.length
theorem KVt.len(h:KVt g kvs ks):kvs.length=ks.length:=by
 have:=pQ List.length h.keys
 rwa [ui7,ui7] at this
theorem KVt.mem(h:KVt g kvs ks)(k:Nat):(Sum.inl (k:Int):Key)∈kvs.map (·.1)↔k∈ks:=by
 rw[h.keys];constructor
 .intro m;clear 5(List.mem_map.mp m)j hj e;have:(j:Int)=k:=Sum.inl.inj e;have:j=k:=by lia
  subst this;exact hj
 .exact λm=>List.mem_map.mpr ⟨k,m,rfl⟩
theorem Xc{k:Key}(h:k∈kvs.map (·.1)):∃kv∈kvs,kv.1=k/\AR kvs k=some kv.2:=by
 induction kvs with
 |nil=>cases h
 |cons p r ih=>
   by_cases e:p.1=k
   .exact⟨p,ue6,e,by simp[AR,e]⟩
   .rw[ul2] at h;rcases ul1.mp h with z|z
    .exact absurd z.symm e
    .clear 5(ih z)kv hkv e1 e2;refine⟨kv,ud1 _ hkv,e1,?_⟩;rw[<-e2];simp[AR,e]
theorem KVt.get{g:List GS}{kvs:List (Key×D)}{ks:List Nat}(h:KVt g kvs ks){k:Nat}(hk:k∈ks):∃(x:List Str) (st:List (Nat×Nat)),AR kvs (.inl (k:Int))=some (.lst (x.map .str))/\Tr g 0 x st k/\x.length<=ks.length:=by
 clear 5(Xc ((h.mem k).mpr hk))kv hkv e1 e;clear 5(h.val kv hkv)j x st e2 t hl;rw[e2] at e1 e;have:(j:Int)=k:=Sum.inl.inj e1;have:j=k:=by lia
 subst this;exact⟨x,st,e,t,hl⟩
theorem KVt.has(h:KVt g kvs ks)(k:Nat):(AR kvs (.inl (k:Int))).isSome=decide (k∈ks):=by
 by_cases hk:k∈ks
 .obtain⟨x,st,e,_⟩:=h.get hk;rw[e,uk9 hk];rfl
 .rw[(Ro λz=>hk ((h.mem k).mp z)).1,uk3 hk];rfl
theorem KVt.put(h:KVt g kvs ks){k:Nat}(hk:k∉ks)(hN:k<g.length){x:List Str}{st:List (Nat×Nat)}(t:Tr g 0 x st k)(hd:x.length<=ks.length+1):KVt g (BJ kvs (.inl (k:Int)) (.lst (x.map .str))) (ks++[k]):=by
 have e:BJ kvs (.inl (k:Int)) (.lst (x.map .str))=kvs++[(.inl (k:Int),.lst (x.map .str))]:=by
  unfold BJ;rw[pX (by rw[(Ro λz=>hk ((h.mem k).mp z)).2];exact ue7)]
 rw[e];refine⟨by rw[uk0,uk0,h.keys];rfl,?_,λj hj=>?_,λkv hkv=>?_⟩
 .rw[List.nodup_append];refine⟨h.nd,by simp,λa ha b hb=>?_⟩;rw[uf1] at hb;subst hb;exact λz=>hk (by rw[<-z];exact ha)
 .rcases ui5.mp hj with z|z
  .exact h.lt j z
  .rw[uf1] at z;subst z;exact hN
 .rw[ue9];rcases ui5.mp hkv with z|z
  .clear 5(h.val kv z)j x' st' e1 e2 e3;exact⟨j,x',st',e1,e2,by lia⟩
  .rw[uf1] at z;subst z;exact⟨k,x,st,rfl,t,hd⟩
theorem KVt.keysI{g:List GS}{kvs:List (Key×D)}{ks:List Nat}(h:KVt g kvs ks):L2.keysI kvs=some (ks.map λk:Nat=>(k:Int)):=by
 have key:∀{kvs:List (Key×D)}{ks:List Nat},kvs.map (·.1)=ks.map (λk:Nat=>(Sum.inl (k:Int):Key))->L2.keysI kvs=some (ks.map λk:Nat=>(k:Int)):=λ{kvs}=>by
  induction kvs with
  |nil=>
    intro ks e
    cases ks with
    |nil=>rfl
    |cons _ _=>cases e
  |cons p r ih=>
    intro ks e
    cases ks with
    |nil=>cases e
    |cons k ks=>
      clear 5 p pk pd;rw[ul2,ul2] at e;injection e with e1 e2
      have e1:pk=.inl (k:Int):=e1;subst e1;rw[L2.keysI,ih e2];rfl
 exact key h.keys
def So(f:Fn):Prop:=∀(g:List GS) (S:List Ob),GOk g->Wf f [gD g] S λr S'=>∃kvs ks,r=.obj S.length/\S'=S++[.dct kvs]/\KVt g kvs ks
theorem XO(hw:Fg cw):So (fnOf 1 6 (J4 cw)):=by
 intro g S hg;have hL:LIM=100000:=rfl;have hle:=hg.le;refine Ai rfl ?_;unfold J4;right;refine fP ?_;rw[7,QQ];refine TH ?_;refine⟨IX,by simp,?_⟩;rw[Qr];right;have k0:KVt g (kvMerge [((Sum.inl 0:Key),D.lst [])]) [0]:=by
  refine⟨rfl,by simp,λk hk=>?_,λkv hkv=>?_⟩
  .rw[uf1] at hk;subst hk;exact hg.ne
  .have:kvMerge [((Sum.inl 0:Key),D.lst [])]=[(Sum.inl 0,D.lst [])]:=rfl;rw[this,uf1] at hkv;subst hkv;exact⟨0,[],[],rfl,.nil hg.ne,un7 _⟩
 generalize kvMerge [((Sum.inl 0:Key),D.lst [])]=kv0 at k0;refine FL (λm t=>XN6 λ(kvs:List (Key×D)) (V L:List Nat) (e3 e4 e5:Option Sl)=>AN4 (KVt g kvs V) ((∀s∈L,s∈V)) ((L=[]\/2*(g.length-V.length)+1<=m)) (t=⟨[vw (gD g),vw (.obj S.length),vw (.lst (Ez L)),e3,e4,e5],S++[.dct kvs]⟩)) ?_ IL 100 _ (by decide) ⟨kv0,[0],[0],none,none,none,k0,λs h=>h,.inr ∅,rfl⟩
 .rintro m t ⟨kvs,V,L,e3,e4,e5,hk,hv,hm,rfl⟩;right;rw[PU]
  cases hLL:L with
  |nil=>
    subst hLL;show EB _ _ _ _;right;exact⟨kvs,V,rfl,rfl,hk⟩
  |cons l0 L0=>
    have hLn:L≠[]:=by rw[hLL];exact List.cons_ne_nil _ _
    rw[<-hLL];have hm':2*(g.length-V.length)+1<=m:=hm.resolve_left hLn;rw[show decide ((0:Int)<(L.length:Nat))=true by rw[ug6,hLL,ug9];lia];refine⟨m-1,by lia,?_⟩;right;refine(BG (P:=λo t=>o=.next/\∃(kvs:List (Key×D)) (B:List Nat) (e4 e5:Option Sl),KVt g kvs (V++B)/\t=⟨[vw (gD g),vw (.obj S.length),vw (.lst (Ez L)),some (.own (Ez B)),e4,e5],S++[.dct kvs]⟩) (λr t=>XN5 λ(kvs:List (Key×D)) (B R:List Nat) (e4 e5:Option Sl)=>AN4 ((∀s∈R,s∈V)) (r=Ez R) (KVt g kvs (V++B)) (t=⟨[vw (gD g),vw (.obj S.length),vw (.lst (Ez L)),some (.own (Ez B)),e4,e5],S++[.dct kvs]⟩)) _ _ ⟨kvs,[],L,e4,e5,hv,rfl,by rw[ui9];exact hk,rfl⟩ ?_ ?_).mono ?_
    .rintro d r t ⟨kvs,B,R,e4,e5,hRV,hr,hk,rfl⟩ _
     cases R with
     |nil=>cases hr
     |cons s R=>
       unfold Ez at hr;rw[ul2] at hr;injection hr with h1 h2
       subst h1 h2;have hsV:=hRV s ue6;have hsg:s<g.length:=hk.lt s (List.mem_append_left _ hsV);have hws:=ge hg hsg;right;rw[7,A4 (Bv hsg)];refine(hw _ _ (By hg hsg)).use ?_;rw[HD];refine TC ?_;refine(BG (P:=λo t=>o=.next/\∃(kvs:List (Key×D)) (B:List Nat) (e5:Option Sl),KVt g kvs (V++B)/\t=⟨[vw (gD g),vw (.obj S.length),vw (.lst (Ez L)),some (.own (Ez B)),vw (.int s),e5],S++[.dct kvs]⟩) (λr t=>XN5 λ(kvs:List (Key×D)) (B:List Nat) (X Y:List (Str×Sh×Int)) (e5:Option Sl)=>AN4 ((Ao g s).ws=X++Y) (r=Y.map wdD) (KVt g kvs (V++B)) (t=⟨[vw (gD g),vw (.obj S.length),vw (.lst (Ez L)),some (.own (Ez B)),vw (.int s),e5],S++[.dct kvs]⟩)) _ _ ⟨kvs,B,[],(Ao g s).ws,e5,rfl,rfl,hk,rfl⟩ ?_ ?_).mono ?_
       .rintro d r t ⟨kvs,B,X,Y,e5,hXY,hr,hk,rfl⟩ _
        cases Y with
        |nil=>cases hr
        |cons w Y=>
          rw[ul2] at hr;injection hr with h1 h2
          subst h1 h2;have hwm:w∈(Ao g s).ws:=by rw[hXY];exact uc3 _ ue6
          have hwx:(Ao g s).ws[X.length]?=some w:=by rw[hXY,ua4 (un6 _),Nat.sub_self];rfl
          clear 5(hws.2 w hwm)hw1 hw2 hw3;obtain⟨n,hn⟩:∃n:Nat,w.2.2=n:=⟨w.2.2.toNat,by lia⟩;have hnt:w.2.2.toNat=n:=by lia
          have hVB:=Hu hk.nd hk.lt;unfold wdD;rw[hn];right;refine kh IX ?_;rw[hk.has n]
          by_cases hin:n∈V++B
          .rw[uk9 hin];right;exact⟨kvs,B,X++[w],Y,_,by rw[ug0];exact hXY,rfl,hk,rfl⟩
          .rw[uk3 hin];right;clear 5(hk.get (k:=s) (List.mem_append_left _ hsV))x st hds htr hdl;rw[7,Y1 IX hds];refine Bi (by rw[hL,ui7];simp only[ug9,uj5];lia) ?_;right;rw[7,bO];refine V9 IX (by rw[hk.len,hL];lia) ?_;rw[Qr];right;refine Bi (by rw[PU,hL];rw[ue9] at hVB;lia) ?_;clear 5(Sa htr hwx ∅)st' htr';rw[hnt] at htr';have hp:=hk.put hin ∅ htr' (by rw[ue9];simp only[ug9,uj5];lia);rw[ug0,uk0] at hp;refine⟨_,B++[n],X++[w],Y,vw (.tup [.str w.1,w.2.1.d,.int n]),by rw[ug0];exact hXY,rfl,hp,?_⟩;unfold Ez;rw[uk0];rfl
       .rintro t ⟨kvs,B,X,Y,e5,hXY,hr,hk,rfl⟩;exact⟨rfl,kvs,B,e5,hk,rfl⟩
       .rintro o t ⟨rfl,kvs,B,e5,hk,rfl⟩;exact⟨kvs,B,R,_,_,λx hx=>hRV x (ud1 _ hx),rfl,hk,rfl⟩
    .rintro t ⟨kvs,B,R,e4,e5,hRV,hr,hk,rfl⟩;exact⟨rfl,kvs,B,e4,e5,hk,rfl⟩
    .rintro o t ⟨rfl,kvs,B,e4,e5,hk,rfl⟩;right;have hVB:=Hu hk.nd hk.lt;refine⟨kvs,V++B,B,_,_,_,hk,λs h=>uc3 _ h,?_,rfl⟩
     cases B with
     |nil=>exact .inl rfl
     |cons b B=>
       refine .inr ?_;rw[ue9,ug9] at hVB⊢;lia
theorem fan_pos{g:List GS}{n:Nat}:∀{ws:List Wd},0<(fan g n ws).length↔∃w∈ws,0<(Bg g n w.2.2.toNat).length
 |[]=>by simp[Q8]
 |w::r=>by
   rw[Hb,ue9,ui7];have:=fan_pos (g:=g) (n:=n) (ws:=r);constructor
   .intro h
    by_cases h1:0<(Bg g n w.2.2.toNat).length
    .exact⟨w,ue6,h1⟩
    .clear 5(this.mp ∅)v hv h2;exact⟨v,ud1 _ hv,h2⟩
   .rintro⟨v,hv,h2⟩;rcases ul1.mp hv with rfl|hv
    .lia
    .have:=this.mpr ⟨v,hv,h2⟩;lia
set_option tactic.hygienic true in
theorem Lp{g:List GS}(hg:GOk g):∀(k s:Nat),s<g.length->((Bp g k).getD s false=true↔∃n,n<=k/\0<(Bg g n s).length)
 |0,s,hs=>by
   rw[Bp,Hf,ST hs];show(Ao g s).isFin=true↔_;constructor
   .intro h;exact⟨0,un6 _,by rw[Bg,pW h];exact Nat.one_pos⟩
   .rintro⟨n,hn,h⟩;have:n=0:=by lia
    subst this;rw[Bg] at h
    split at h
    .assumption
    .simp at h
 |k+1,s,hs=>by
   rw[Bp,dm hs,uj7,pK,ui0];have hn:=HS hg hs;constructor
   .rintro (h|⟨w,hw,h⟩)
    .exact⟨0,un7 _,by rw[Bg,pW h];exact Nat.one_pos⟩
    .clear 5((Lp hg k w.2.2.toNat (by have:=hn w hw;lia)).mp h)n h1 h2;exact⟨n+1,by lia,by rw[Gi];exact fan_pos.mpr ⟨w,hw,h2⟩⟩
   .rintro⟨n,h1,h2⟩
    cases n with
    |zero=>
      rw[Bg] at h2
      split at h2
      .next h=>exact .inl h
      .simp at h2
    |succ n=>
      rw[Gi] at h2;clear 5(fan_pos.mp h2)w hw h3;exact .inr ⟨w,hw,(Lp hg k w.2.2.toNat (by have:=hn w hw;lia)).mpr ⟨n,by lia,h3⟩⟩
theorem Pv(g:List GS):∀m,Bp g (g.length+m)=Bp g g.length
 |0=>rfl
 |m+1=>by
   show jac g (Bp g (g.length+m))=_;rw[Pv g m,ZW]
theorem UR(hg:GOk g)(h6:g.length<=6){s:Nat}(hs:s<g.length):(Bp g g.length).getD s false=true↔∃n,n<=7/\0<(Bg g n s).length:=by
 rw[<-Pv g (7-g.length),show g.length+(7-g.length)=7 by lia];exact Lp hg 7 s hs
theorem Pp{α:Type}(f:α->Int):∀l:List α,Gc (l.map λa=>D.int (f a))=some (l.map f)
 |[]=>rfl
 |a::r=>by rw[ul2,ul2,Gc,Pp f r];rfl
theorem dL{s:Nat}(row:List Int):((nx9 g s).map λk=>row.getD k 0).sum=cb (Ao g s).ws row:=by
 unfold nx9 cb;rw[un3];rfl
theorem aN(row:List Int):(List.range g.length).map (λs=>D.int (cb (Ao g s).ws row))=(Jn g row).map D.int:=by
 unfold Jn;rw[un3];refine List.ext_getElem? λi=>?_;rw[uf7,uf7]
 by_cases h:i<g.length
 .rw[ue2 h,ST h];rfl
 .rw[ud0 (by rw[ug4];lia),ud0 ∅];rfl
theorem VN{n:Int}{x:GS}(h:GSOk n x):(x.side==Str.ofString "end")=x.isFin:=by
 cases h with
 |fin=>simp[GS.side,GS.isFin]
 |st h1 _ _ _ _=>rcases h1 with rfl|rfl<;>simp[GS.side,GS.isFin]
def La(f:Fn):Prop:=∀(g:List GS),GOk g->Pure1 f [gD g,.int 7] (.lst (CH g 8))
theorem Uh(hn:MQ cn):La (fnOf 2 5 (EQ cn)):=by
 intro g hg S;have hL:LIM=100000:=rfl;have hle:=hg.le;refine Ai rfl ?_;unfold EQ;right;refine(GD (f:=λx:GS=>.int (if x.isFin then 1 else 0)) (fr:=[]) ?_).mono ?_
 .intro x hx;right;rw[7,wHd];have:=VN (hg.all x hx);rw[show id (x.side==Str.ofString "end")=(x.side==Str.ofString "end") from rfl,this]
  cases x.isFin
  .right;exact⟨rfl,rfl⟩
  .right;exact⟨rfl,rfl⟩
 rintro xs t' ⟨rfl,hS⟩;refine Bi (by rw[ui7,hL];lia) ?_;have e0:(g.map λx:GS=>D.int (if x.isFin then 1 else 0))=(Bl g 0).map D.int:=by rw[Bl,Nz,un3];rfl
 rw[e0];right;rw[hS];refine BG (λr t=>∃(j:Nat) (e3 e4:Option Sl),j<=7/\r=(Bf 0 (7:Int).toNat).drop j/\t=⟨[vw (gD g),vw (.int 7),some (.own (CH g (j+1))),e3,e4],S⟩) _ _ ⟨0,none,none,by lia,rfl,rfl⟩ ?_ ?_
 .rintro d r t ⟨j,e3,e4,hj,hr,rfl⟩ _;clear 5(De hr)rfl hr' hjn;right;rw[7,V8 rfl];refine⟨_,_,_,rfl,rfl,(show atI (CH g (j+1)) (-1)=some (DK (Bl g j)) from ?_),?_⟩
  .unfold atI;rw[show ixN (CH g (j+1)).length (-1)=some j by rw[Gg];unfold ixN;simp;lia];have:=F5 (g:=g) (n:=j+1) (m:=j) ∅;unfold atI at this;rw[Co ∅ (by rw[Gg];lia)] at this;simpa using this
  right;rw[ui7];refine ET (Bq ∅ ∅) ?_;rw[uf8,Ny];refine(DP (l:=List.range g.length) (ι:=λk:Nat=>D.int (k:Int)) (f:=λs=>D.int (cb (Ao g s).ws (Bl g j))) (fr:=[vw (DK (Bl g j)),vw (gD g)]) λs hs=>?_).mono ?_
  .have hs:=List.mem_range.mp hs;right;refine(hn g s hg hs).use ?_;refine Yn ?_;unfold Ez;refine(DP (l:=nx9 g s) (ι:=λk:Nat=>D.int (k:Int)) (f:=λk=>D.int ((Bl g j).getD k 0)) (fr:=[vw (DK (Bl g j))]) λk hk=>?_).mono ?_
   .have hk':k<g.length:=by
     clear 5(List.mem_map.mp hk)w hw rfl;have:=HS hg hs w hw;lia
    right;refine A4 (Kg ∅ (by rw[D8];lia)) ?_;exact⟨by rw[uf8],rfl⟩
   .rintro xs t' ⟨rfl,hS'⟩;have:=Km hg hs;refine Bi (by rw[ui7,hL];unfold nx9;rw[ui7];lia) ?_;right;refine Yq (Pp _ _) ?_;rw[dL];refine⟨rfl,?_⟩;rw[hS']
  .rintro xs t' ⟨rfl,hS'⟩;refine Bi (by rw[ui7,ug4,hL];lia) ?_;rw[aN];right;refine Bi (by rw[Gg,hL];lia) ?_;have hj2:j+1<=7:=by simp at hjn;lia
   refine⟨j+1,vw (.int (0+(j:Int))),vw (DK (Bl g j)),hj2,hr',?_⟩;have:CH g (j+1+1)=CH g (j+1)++[DK (Jn g (Bl g j))]:=by
    unfold CH;rw[List.range_succ,uk0];rfl
   rw[this,hS'];rfl
 .rintro t ⟨j,e3,e4,hj,hr,rfl⟩;have hj':j=7:=by
   have:=pQ List.length hr;rw[uj5,uh2,Dy] at this;simp at this;lia
  subst hj';right;exact⟨rfl,rfl⟩
theorem Rr:∀l:List (Str×Str),KI (l.map tpD)=some (l.map λp=>[p.1,p.2])
 |[]=>rfl
 |p::r=>by rw[ul2,KI,Rr r];rfl
theorem ki{k x:Str}{l:List (Str×Str)}(h:P (.bl (!(decide ((k,x)∈l)))) t):L2.W (inP (.tup [.str k,.str x]) (.lst (l.map tpD))) t P:=by
 refine⟨_,_,?_,h⟩;unfold inP;rw[show OA (.tup [.str k,.str x])=some [k,x] from rfl,show Xj (.lst (l.map tpD))=some (l.map λp=>[p.1,p.2]) from Rr l];show some (D.bl (!((l.map λp=>[p.1,p.2]).any λb=>decide (b=[k,x]))),t)=_;have e:((l.map λp=>[p.1,p.2]).any λb=>decide (b=[k,x]))=decide ((k,x)∈l):=by
  rw[uj8,pK,ui0,ug6];constructor
  .rintro⟨p,hp,hh⟩;have hh:[p.1,p.2]=[k,x]:=ug7 hh;injection hh with h1 h2
   injection h2 with h2 _
   rw[<-h1,<-h2];exact hp
  .intro hp;exact⟨_,hp,uk9 rfl⟩
 rw[e]
abbrev wrF(x:Str)(a b:List Nat):List (Key×D):=lrF (λw=>D.lst (wD w)) x a b
structure Wk(g:List GS)(x o:Str)(i:Ip)(Z:Nat)(S0 S:List Ob)(mv:List Mv)(a b:Vt)(ux uo:Nat):Prop where
 pa:Pa g x o i S mv a b ux uo
 z:S[Z]?=some (.dct (wrF x a.w b.w))
 ne:Z≠i.U
 gr:Gr S0 S
 fr:∀j∈[i.kx,i.ko,i.lx,i.lo,i.U,ux,uo,Z],S0.length<=j
theorem YE{S0:List Ob}(G:Gr S0 S)(K:Kx F S S')(hF:∀j∈F,S0.length<=j):Gr S0 S':=
 ⟨um6 G.1 K.1,λj hj=>(K.2 j (ue5 hj G.1) (λm=>absurd (hF j m) ∅)).trans (G.2 j hj)⟩
variable{cd:Fn}
section
variable{g:List GS}{x o:Str}{i:Ip}{Z:Nat}{S0 S:List Ob}{mv:List Mv}{a b:Vt}{ux uo:Nat}
theorem Wk.swap(h:Wk g x o i Z S0 S mv a b ux uo):Wk g o x i.swap Z S0 S mv b a uo ux:=
 ⟨h.pa.swap,by have:=h.z;unfold wrF at this;rw[Hk h.pa.two] at this;exact this,h.ne,h.gr,λj m=>h.fr j (by
  simp only[ul1,uh9,pS,Ip.swap] at m⊢;lia)⟩
theorem Wk.out(h:Wk g x o i Z S0 S mv a b ux uo):JF S i.U [ux,uo,i.lx,i.lo] Z:=.inr (.inr ⟨_,h.z,un6 _,h.ne⟩)
theorem Wk.take(hdT:HE MX cd)(hg:GOk g)(h:Wk g x o i Z S0 S mv a b ux uo){n:Nat}(hn:1<=n)(hl:a.t+n<=b.w.length)(hb:b.w.length<=25000) :
 Wf cd (MX i.p x (.int (n:Nat))) S λr S'=>∃a' uo',Wk g x o i Z S0 S' mv a' b ux uo'/\a'.t=a.t+n/\a'.w=a.w:=by
 clear 5 h.pa.jX W P1 X;refine(hdT S g x o i mv a b ux uo n hg h.pa hn hl hb).mono ?_;rintro r S1 ⟨n1,n2,uo',em,rfl,K1,hu,Q1⟩;have hz:=K1.get (Rn h.pa.jU (λj m=>by
  simp only[ul1,uh9,pS] at m;rcases m with rfl|rfl|rfl
  .exact .inl ⟨_,X.ik⟩
  .exact .inr (.inl ⟨by simp,_,X.il⟩)
  .exact .inr (.inr rfl)) h.out) h.z
 have fr:=h.fr;have gl:=h.gr.1;simp only[ul1,uh9,pS,forall_eq_or_imp,forall_eq] at fr;refine⟨_,uo',⟨Q1,hz,h.ne,YE h.gr K1 (λj m=>by
  simp only[ul1,uh9,pS] at m;lia),λj m=>by
  simp only[ul1,uh9,pS] at m;lia⟩,rfl,rfl⟩
theorem Wk.say(hdS:II arD cd)(hg:GOk g)(h:Wk g x o i Z S0 S mv a b ux uo){p:Nat}{v:D}{y:List Nat}(hm1:a.m1=mv)(hm:MvOk g (Ah g 0 mv) p v)(hsd:(Ao g (Ah g 0 mv)).side=x)(hy:mbQ g (Ah g 0 mv) p v=wD y)(hl:a.w.length+y.length<=25000) :
 Wf cd (arD i.p x (.str (wdAt g (Ah g 0 mv) p).1) v) S λr S'=>r=.lst (wD y)/\S'[Z]?=some (.dct (wrF x a.w b.w))/\∃a' b',a'.m1=mv++[(p,v)]/\b'.w=b.w/\a'.w=a.w++y/\Wk g x o i Z S0 (S'.set Z (.dct (wrF x (a.w++y) b.w))) (mv++[(p,v)]) a' b' ux uo:=by
 clear 5 h.pa.jX W P1 X;refine(hdS S g x o i mv a b ux uo p v y hg h.pa hm1 hm hsd hy hl).mono ?_;rintro r S1 ⟨rfl,K1,Q1⟩;have hz:=K1.get (Rn h.pa.jU (λj m=>by
  simp only[ul1,uh9,pS] at m;rcases m with rfl|rfl
  .exact .inl ⟨_,X.ik⟩
  .exact .inr (.inl ⟨by simp,_,h.pa.jx⟩)) h.out) h.z
 have fr:=h.fr;simp only[ul1,uh9,pS,forall_eq_or_imp,forall_eq] at fr;have G1:Gr S0 S1:=YE h.gr K1 (λj m=>by
  simp only[ul1,uh9,pS] at m;lia)
 have K2:Kx [Z] S1 (S1.set Z (.dct (wrF x (a.w++y) b.w))):=Kx.refl.set (by simp);exact⟨rfl,hz,⟨mv++[(p,v)],[],a.t,a.w++y⟩,⟨b.m1,b.m2++[(p,v)],b.t,b.w⟩,rfl,rfl,rfl,Q1.keep K2 (λj m=>by
  rw[uf1] at m;subst m;exact .inr (.inr ⟨_,hz,un6 _,h.ne⟩)),Bh hz,h.ne,G1.set fr.2.2.2.2.2.2.2,h.fr⟩
end
def Wq(cd:Fn):M Out:=(Ae (Aq 3 (Ac (AG "Parley" (fnOf 1 1 BX) (Aa 0) (ret [])) (Aa 2) ixD)) (ifS (Aj (Ac (Aa 3) (md 0) gtA)) (DQ (AG "Parley" cd (Aa 0) (Ab (AJ (Ab (fC (.str "take")) (Ab (Aa 1) (Ab (Aa 3) Ad)))) Ad))) As))
theorem QU(hdT:HE MX cd){g:List GS}(hg:GOk g){x o:Str}{i:Ip}{p Z:Nat}{S0 S:List Ob}{mv:List Mv}{a b:Vt}{ux uo:Nat}(h:Wk g x o i Z S0 S mv a b ux uo)(hp:i.p=p)(hb:b.w.length<=25000){z:Int}(hz:∀r s:Nat,atI [D.int (onS x r s:Nat),D.int (onS x s r:Nat)] z=some (.int s)){e3:Option Sl} :
 L2.W (Wq cd) ⟨[vw (.obj p),vw (.str x),vw (.int z),e3],S⟩ λout t=>out=.next/\∃S' a' uo' e3',Wk g x o i Z S0 S' mv a' b ux uo'/\a'.t=b.w.length/\a'.w=a.w/\t=⟨[vw (.obj p),vw (.str x),vw (.int z),e3'],S'⟩:=by
 subst hp;have hly:=jF h.pa;have jp:=h.pa.jp;have htx:=h.pa.vx.t;have hdl:(b.w.drop a.t).length=b.w.length-a.t:=uh2;unfold Wq;symm;refine⟨_,_,rfl,jp,W_ret.mpr ?_⟩;refine hly.mono ?_;rintro r0 S1 ⟨rfl,rfl⟩;symm;rw[6,EE (hz _ _)];generalize (b.w.drop a.t).length=m at hdl⊢
 by_cases hm:m=0
 .rw[6,EO (by simp[hm])];exact⟨rfl,_,a,uo,_,h,by lia,rfl,rfl⟩
 .refine HZ (by simp;lia) ?_;symm;refine⟨_,_,rfl,jp,?_⟩;symm;refine(h.take hdT hg (n:=m) ∅ ∅ hb).mono ?_;rintro r S3 ⟨a3,u3,h3,t3,w3⟩;symm;exact⟨rfl,S3,a3,u3,_,h3,by lia,w3,rfl⟩
def MN(f:Fn):Prop:=∀(g:List GS) (i:Ip) (Z:Nat) (S0 S:List Ob) (mv:List Mv) (a b:Vt) (ux uo:Nat),GOk g->Wk g sL sR i Z S0 S mv a b ux uo->a.w.length<=25000->b.w.length<=25000->
 Wf f [.obj i.p] S λr S'=>r=.non/\∃a' b' ux' uo',Wk g sL sR i Z S0 S' mv a' b' ux' uo'/\a'.m1=mv/\b'.m1=mv/\a'.w=a.w/\b'.w=b.w/\a'.t=b.w.length/\b'.t=a.w.length
theorem Zg(hdT:HE MX cd):MN (fnOf 1 4 (DA cd (fnOf 1 1 BX))):=by
 intro g i Z S0 S mv a b ux uo hg h hal hbl;rw[9,DA];refine L2.W.mono (?_:L2.W (C8 (unS 2 (A1 (Ar 1) (A1 (Ar 2) Db))) (Wq cd) [D.tup [D.str (Str.ofString "left"),D.int 1],D.tup [D.str (Str.ofString "right"),D.int 0]]) _ λout t=>out=.next/\∃a' b' ux' uo',Wk g sL sR i Z S0 t.S mv a' b' ux' uo'/\a'.w=a.w/\b'.w=b.w/\a'.t=b.w.length/\b'.t=a.w.length) ?_
 .rw[6,W_forL_cons.mpr];refine(QU hdT hg h rfl hbl (λ_ _=>rfl)).mono ?_;rintro out t ⟨rfl,S5,a5,u5,e5,h5,t5,w5,rfl⟩;show L2.W _ _ _;rw[6,W_forL_cons.mpr];refine(QU hdT hg h5.swap rfl (by rw[w5];exact hal) (λ_ _=>rfl)).mono ?_;rintro out t ⟨rfl,S6,a6,u6,e6,h6,t6,w6,rfl⟩;show L2.W _ _ _;refine W_forL_nil.mpr ?_;exact⟨rfl,a5,a6,u6,u5,h6.swap,w5,w6,t5,by rw[t6,w5]⟩
 rintro out t ⟨rfl,a',b',ux',uo',h',wa,wb,ta,tb⟩;have ea:a'.m1=mv:=h'.pa.vx.done (by rw[h'.pa.eo,A3,ta,wb]);have eb:b'.m1=mv:=h'.pa.vo.done (by rw[h'.pa.ex,A3,tb,wa]);exact⟨rfl,a',b',ux',uo',h',ea,eb,wa,wb,ta,tb⟩
abbrev PN(co:Fn):Fn:=fnOf 1 3 (FA co (fnOf 2 2 BU) (fnOf 1 1 CO))
def Yd(cd:Fn):M Out:=(Ae (Dh (Ac (Ac (Aa 6) (Aa 9) B0) (AG "Parley" cd (Aa 4) (Ab (AJ (Ab (fC (.str "say")) (Ab (Aa 9) (Ab (Aa 8) (Ab (Aa 12) Ad))))) Ad)) AL) (GM (Aa 6) (Aa 9)))
 (Ae (ownM 5 Dg (Ab (AJ (Ab (Aa 9) (Ab (Aa 8) (Ab (Aa 12) Ad)))) Ad))
 (Ae (Aq 7 (Ac (Aa 11) (md 2) ixD))
 (Aq 2 (Ac (Ac (Aa 2) (md 3) B6) (Ac (Ac (md 7) (Aa 2) CB) (md 1009) B1) AL)))))
def W9(ca cm:Fn):M Out:=(ifS (fOr (Cn (Aj (Aa 3))) (Aj (Ac (AJ (Ab (fC (.str "say")) (Ab (Aa 9) Ad))) (AG "Parley" cm (Aa 4) (ret [])) inP))) (DQ (Af ca (Ab (Aa 4) Ad))) As)
def Ws(ca cd cm cv:Fn):M Out:=
 (Ae (Dh (Ac (Aa 0) (Aa 7) ixD) (unS 2 (A1 (Ar 9) (A1 (Ar 10) Db))))
 (Ae (Aq 11 (Ac (Au (A5 1 [8] (BT (Aa 10)) (Ar 0) (Aj (Ac (Ac (Aa 0) (md 0) ixD) (Aa 1) (eqS id))) (Aa 0))) (md 0) ixD))
 (Ae (Aq 12 (Ac (Af cv (Ab (Ac (Aa 11) (md 1) ixD) (Ab (Aa 2) Ad))) (md 0) ixD))
 (Ae (W9 ca cm) (Yd cd)))))
abbrev HY(g:List GS)(x:List Str)(c:Int)(late:Bool)(p:Nat)(ms:List D)(Z h:Nat)(e8 e9 e10 e11 e12:Option Sl):List (Option Sl):=[vw (gD g),vw (Kl x),vw (.int c),vw (.bl late),vw (.obj p),some (.own ms),vw (.obj Z),vw (.int h),e8,e9,e10,e11,e12]
theorem gL(h1:EF co){g:List GS}(hg:GOk g){x o:Str}{i:Ip}{S:List Ob}{mv:List Mv}{a b:Vt}{ux uo:Nat}(h:Pa g x o i S mv a b ux uo):∃l:List (Str×Str),Fq S (PN co) [.obj i.p] (.lst (l.map tpD))/\((Str.ofString "say",x)∈l->a.m1=mv):=by
 have key:Ly g x a.m1=true->a.m1=mv:=λhb=>by
  have hs:(Ao g (Ah g 0 a.m1)).side=x:=by simpa using hb
  have e:=h.vx.e;rw[h.vx.all hs h.two.ne,ui9] at e;exact e.symm
 have nST:(Str.ofString "say":Str)≠Str.ofString "take":=by decide +kernel
 rcases h.two with⟨rfl,rfl⟩|⟨rfl,rfl⟩
 .refine⟨_,eE h1 hg h,λm=>?_⟩;rcases ui5.mp m with m|m<;>rcases ui5.mp m with m|m<;>obtain⟨hb,e⟩:=Rt m
  .exact key hb
  .exact absurd (pQ Prod.snd e) sLR
  .exact absurd (pQ Prod.fst e) nST
  .exact absurd (pQ Prod.fst e) nST
 .have hp:=eE h1 hg h.swap;refine⟨_,hp,λm=>?_⟩;rcases ui5.mp m with m|m<;>rcases ui5.mp m with m|m<;>obtain⟨hb,e⟩:=Rt m
  .exact absurd (pQ Prod.snd e).symm sLR
  .exact key hb
  .exact absurd (pQ Prod.fst e) nST
  .exact absurd (pQ Prod.fst e) nST
section
variable{g:List GS}{x o:Str}{i:Ip}{Z:Nat}{S0 S:List Ob}{mv:List Mv}{a b:Vt}{ux uo:Nat}
theorem Wk.all(ha:MN ca)(hg:GOk g)(h:Wk g x o i Z S0 S mv a b ux uo)(hal:a.w.length<=25000)(hbl:b.w.length<=25000) :
 Wf ca [.obj i.p] S λr S'=>r=.non/\∃a' b' ux' uo',Wk g x o i Z S0 S' mv a' b' ux' uo'/\a'.m1=mv/\a'.w=a.w/\b'.w=b.w:=by
 rcases h.pa.two with⟨rfl,rfl⟩|⟨rfl,rfl⟩
 .refine(ha g i Z S0 S mv a b ux uo hg h hal hbl).mono ?_;rintro r S' ⟨rfl,a',b',u,v,h',ea,eb,wa,wb,_,_⟩;exact⟨rfl,a',b',u,v,h',ea,wa,wb⟩
 .refine(ha g i.swap Z S0 S mv b a uo ux hg h.swap hbl hal).mono ?_;rintro r S' ⟨rfl,a',b',u,v,h',ea,eb,wa,wb,_,_⟩;exact⟨rfl,b',a',v,u,h'.swap,eb,wb,wa⟩
theorem ZQ(ha:MN ca)(h1:EF co)(hg:GOk g)(h:Wk g x o i Z S0 S mv a b ux uo)(hal:a.w.length<=25000)(hbl:b.w.length<=25000){ns:List Str}{c:Int}{late:Bool}{ms:List D}{q:Nat}{e8 e10 e11 e12:Option Sl} :
 L2.W (W9 ca (PN co)) ⟨HY g ns c late i.p ms Z q e8 (vw (.str x)) e10 e11 e12,S⟩ λout t=>out=.next/\XN5 λS' a' b' ux' uo'=>AN5 (Wk g x o i Z S0 S' mv a' b' ux' uo') (a'.m1=mv) (a'.w=a.w) (b'.w=b.w) (t=⟨HY g ns c late i.p ms Z q e8 (vw (.str x)) e10 e11 e12,S'⟩):=by
 clear 5(gL h1 hg h.pa)l hl hm;have jp:=h.pa.jp;unfold W9
 cases late with
 |false=>
   symm;refine(h.all ha hg hal hbl).mono ?_;rintro r S' ⟨rfl,a',b',u,v,h',ea,wa,wb⟩;symm;exact⟨rfl,S',a',b',u,v,h',ea,wa,wb,rfl⟩
 |true=>
   symm;refine⟨_,_,rfl,jp,W_ret.mpr ?_⟩;refine hl.mono ?_;rintro r0 S1 ⟨rfl,rfl⟩;rw[6,ki]
   by_cases hin:(Str.ofString "say",x)∈l
   .refine EO (by rw[uk9 hin];rfl) ?_;symm;exact⟨rfl,_,a,b,ux,uo,h,hm hin,rfl,rfl,rfl⟩
   .refine HZ (by rw[uk3 hin];rfl) ?_;symm;refine(h.all ha hg hal hbl).mono ?_;rintro r S' ⟨rfl,a',b',u,v,h',ea,wa,wb⟩;symm;exact⟨rfl,S',a',b',u,v,h',ea,wa,wb,rfl⟩
theorem bD(hdS:II arD cd)(hg:GOk g)(h:Wk g x o i Z S0 S mv a b ux uo)(hm1:a.m1=mv){p:Nat}{v:D}{y:List Nat}(hm:MvOk g (Ah g 0 mv) p v)(hsd:(Ao g (Ah g 0 mv)).side=x)(hy:mbQ g (Ah g 0 mv) p v=wD y)(hl:a.w.length+y.length<=25000)(hml:mv.length<=1000){ns:List Str}{c:Int}{late:Bool}{q:Nat}{e10:Option Sl} :
 L2.W (Yd cd) ⟨HY g ns c late i.p (AK g 0 mv) Z q (vw (.str (wdAt g (Ah g 0 mv) p).1)) (vw (.str x)) e10 (vw (wdD (wdAt g (Ah g 0 mv) p))) (vw v),S⟩ λout t=>out=.next/\∃S' a' b' c',Wk g x o i Z S0 S' (mv++[(p,v)]) a' b' ux uo/\a'.w=a.w++y/\b'.w=b.w/\t=⟨HY g ns c' late i.p (AK g 0 (mv++[(p,v)])) Z (Ah g 0 (mv++[(p,v)])) (vw (.str (wdAt g (Ah g 0 mv) p).1)) (vw (.str x)) e10 (vw (wdD (wdAt g (Ah g 0 mv) p))) (vw v),S'⟩:=by
 have hL:LIM=100000:=rfl;have jp:=h.pa.jp;unfold Yd;symm;rw[6,Cv h.z (GP (F:=λw=>D.lst (wD w)) h.pa.two.x)];refine⟨_,_,rfl,jp,?_⟩;symm;refine(h.say hdS hg hm1 hm hsd hy hl).mono ?_;rintro r S1 ⟨rfl,hz,a',b',ea,wb,wa,h'⟩;symm;refine Bi (by rw[A3,A3,hL];lia) ?_;symm;refine F6 hz (by show 2<100000;decide) ?_;have e1:wD a.w++wD y=wD (a.w++y):=by unfold wD;rw[uk0]
 rw[e1,Rp (F:=λw=>D.lst (wD w)) h.pa.two.x];generalize S1.set Z (.dct (lrF (λw=>D.lst (wD w)) x (a.w++y) b.w))=S2 at h'⊢;symm;refine Bi (by rw[Gf,hL];lia) ?_;symm;unfold wdD;symm;rw[6,ML (Nm (by decide) (by decide))];have hwo:=(FK hg hm.lt hm.pl).lo;have e2:AK g 0 (mv++[(p,v)])=AK g 0 mv++[D.tup [D.str x,D.str (wdAt g (Ah g 0 mv) p).1,v]]:=by
  rw[N3,AK,AK,Fb,hsd]
 have e3:(wdAt g (Ah g 0 mv) p).2.2=((Ah g 0 (mv++[(p,v)]):Nat):Int):=by
  rw[CW,Ah,Ah];unfold Ct;lia
 exact⟨rfl,S2,a',b',_,h',wa,wb,by unfold HY;rw[e2,<-e3];rfl⟩
end
theorem Re{w:Wd}:∀{ws:List Wd}{p:Nat},(ws.map (·.1)).Nodup->ws[p]?=some w->ws.filter (λv=>v.1==w.1)=[w]
 |[],_,_,h=>by simp at h
 |v::ws,0,nd,h=>by
   have h:v=w:=by simpa using h
   rw[ul2,List.nodup_cons] at nd;rw[List.filter_cons,pW (by simp[h]),h];have e:ws.filter (λv=>v.1==w.1)=[]:=by
    rw[List.filter_eq_nil_iff];intro u hu hh;have hh:u.1=w.1:=by simpa using hh
    exact nd.1 (by rw[h,<-hh];exact List.mem_map.mpr ⟨u,hu,rfl⟩)
   rw[e]
 |v::ws,p+1,nd,h=>by
   rw[ul2,List.nodup_cons] at nd;have h:ws[p]?=some w:=by simpa using h
   rw[List.filter_cons,pX]
   .exact Re nd.2 h
   .intro hh;have hh:v.1=w.1:=by simpa using hh
    exact nd.1 (by rw[hh];exact List.mem_map.mpr ⟨w,ud4 h,rfl⟩)
section
variable{g:List GS}{i:Ip}{Z:Nat}{S0 S:List Ob}{mv:List Mv}{a b:Vt}{ux uo:Nat}
theorem Zj{cv:Fn}(ha:MN ca)(hdS:II arD cd)(h1:EF co)(hv:MU cv 3)(hg:GOk g)(hT:∀y∈g,Tin y)(h:Wk g sL sR i Z S0 S mv a b ux uo)(hml:mv.length<=60){w:Wd}{p:Nat}(hw:(Ao g (Ah g 0 mv)).ws[p]?=some w){ns:List Str}{c:Int}{late:Bool}{e9 e10 e11 e12:Option Sl} :
 L2.W (Ws ca cd (PN co) cv) ⟨HY g ns c late i.p (AK g 0 mv) Z (Ah g 0 mv) (vw (.str w.1)) e9 e10 e11 e12,S⟩ λout t=>out=.next/\XN11 λS' mv' a' b' ux' uo' c' f9 f10 f11 f12=>AN4 (Wk g sL sR i Z S0 S' mv' a' b' ux' uo') (mv'.length=mv.length+1) (Ah g 0 mv'=w.2.2.toNat) (t=⟨HY g ns c' late i.p (AK g 0 mv') Z (Ah g 0 mv') (vw (.str w.1)) f9 f10 f11 f12,S'⟩):=by
 have hL:LIM=100000:=rfl;have hlt:Ah g 0 mv<g.length:=KF hg hg.ne h.pa.ok;have hwd:wdAt g (Ah g 0 mv) p=w:=Ze hw;have hnd:=YG hg hlt;have hpl:p<(Ao g (Ah g 0 mv)).ws.length:=(ua7.mp hw).1;have hgs:=By hg hlt;have hix:=Bv hlt;have hdr:Dr 2 w.2.1:=hT _ (Pk hlt) _ (ud4 hw);have hfew:=Km hg hlt;obtain⟨x,ws,e9',hx⟩:∃x ws,Ao g (Ah g 0 mv)=.st x ws/\(x=sL\/x=sR):=by
  cases e:Ao g (Ah g 0 mv) with
  |fin=>rw[e] at hw;cases hw
  |st s ws=>
    rw[e] at hgs
    cases hgs with
    |st h1 _ _ _ _=>exact⟨s,ws,rfl,h1⟩
 have hsd:(Ao g (Ah g 0 mv)).side=x:=by rw[e9'];rfl
 rw[e9'] at hix hnd hfew;rw[GS.d] at hix;have hws:ws[p]?=some w:=by rw[e9'] at hw;exact hw
 have hnd:(ws.map (·.1)).Nodup:=hnd;have hfew:ws.length<=9:=hfew;obtain⟨o,i',a1,b1,u1,v1,hW,hp,hwx,hwo,back⟩:XN6 λ(o:Str) (i':Ip) (a1 b1:Vt) (u1 v1:Nat)=>AN5 (Wk g x o i' Z S0 S mv a1 b1 u1 v1) (i'.p=i.p) (a1.w.length<=2500) (b1.w.length<=2500) ((∀S' mv' a' b' u v,Wk g x o i' Z S0 S' mv' a' b' u v->∃a3 b3 u3 v3,Wk g sL sR i Z S0 S' mv' a3 b3 u3 v3)):=by
  have hwx:=F7 hT sL mv 0 h.pa.ok;have hwo:=F7 hT sR mv 0 h.pa.ok;rw[h.pa.ex,A3] at hwx;rw[h.pa.eo,A3] at hwo;rcases hx with rfl|rfl
  .exact⟨sR,i,a,b,ux,uo,h,rfl,by lia,by lia,λS' mv' a' b' u v z=>⟨_,_,_,_,z⟩⟩
  .exact⟨sL,i.swap,b,a,uo,ux,h.swap,rfl,by lia,by lia,λS' mv' a' b' u v z=>⟨_,_,_,_,z.swap⟩⟩
 unfold Ws;symm;rw[6,A4 hix];refine(JI (l:=ws) (ι:=wdD) (f:=wdD) (p:=λv=>v.1==w.1) (fr:=[vw (.str w.1)]) (λv hv=>?_) λv hv=>?_).mono ?_
 .unfold wdD;symm;exact⟨rfl,rfl⟩
 .symm;exact⟨rfl,rfl⟩
 rintro xs t' ⟨rfl,hS⟩;rw[Re hnd hws];refine Bi (by rw[hL];show 1<=100000;decide) ?_;rw[hS];symm;refine(hv _ hdr.dep hdr.ok hdr.nar hdr.tin _ _).mono ?_;rintro r0 S2 ⟨e0,v,l2,rfl,hfit⟩;subst e0;have hm:MvOk g (Ah g 0 mv) p v:=⟨hlt,hpl,by rw[hwd];exact hfit⟩;obtain⟨y,hy,_⟩:=UL (Og hg x (Ah g 0 mv) [(p,v)] ⟨hm,trivial⟩);rw[An,An,ui9,pW hsd] at hy;have hy:mbQ g (Ah g 0 mv) p v=wD y:=hy;have hyl:=U2 hT hm;rw[hy,A3] at hyl;rw[<-hp];symm;refine(ZQ ha h1 hg hW ∅ ∅).mono ?_;rintro out t ⟨rfl,S3,a2,b2,u2,v2,hW2,ea,wa,wb,rfl⟩;refine Fl ?_;have hsy:=bD (ns:=ns) (c:=c) (late:=late) (q:=Ah g 0 mv) (e10:=vw (.lst (ws.map wdD))) hdS hg hW2 ea hm hsd hy (by rw[wa];lia) ∅;rw[hwd] at hsy;refine hsy.mono ?_;rintro out t ⟨rfl,S4,a3,b3,c',hW3,wa3,wb3,rfl⟩;clear 5(back _ _ _ _ _ _ hW3)a4 b4 u4 v4 h4;exact⟨rfl,S4,_,a4,b4,u4,v4,c',_,_,_,_,h4,by rw[ue9];rfl,by rw[CW,Ah,Ah,Ct,hwd],rfl⟩
end
abbrev jy(i:Ip)(g:List GS)(mv:List Mv)(a b:Vt)(e:Nat):D:=.lst [.obj i.p,.lst (AK g 0 mv),.tup [.lst (wD a.w),.lst (wD b.w)],.int (e:Nat)]
def JK(f:Fn):Prop:=∀(g:List GS) (x:List Str) (st:List (Nat×Nat)) (e:Nat) (c:Int) (late:Bool) (S:List Ob),GOk g->(∀y∈g,Tin y)->Tr g 0 x st e->x.length<=40->Wf f [gD g,Kl x,.int c,.bl late] S λr S'=>XN7 λi Z mv a b ux uo=>AN8 (Wk g sL sR i Z S S' mv a b ux uo) (a.m1=mv) (b.m1=mv) (a.t=b.w.length) (b.t=a.w.length) (Ah g 0 mv=e) (mv.length<=40) (r=jy i g mv a b e)
theorem Wa{cv cs:Fn}(ha:MN ca)(hdS:II arD cd)(h1:EF co)(hv:MU cv 3)(hs:LO cs):JK (fnOf 4 13 (FD ca cd (PN co) cv (fnOf 2 2 (Eh cs)))):=by
 intro g x st e c late S hg hT htr hxl;have hL:LIM=100000:=rfl;rw[9,FD];refine(gX hs hg).mono ?_;rintro r S1 ⟨rfl,G1,i,ul,ur,hip,hfr,h⟩;refine⟨rfl,?_⟩;symm;have hp0:i.p=S.length:=hip;have hU:=Cz h.jU;obtain⟨Z,hZ⟩:∃Z,Z=S1.length:=⟨_,rfl⟩;refine MK ?_;rw[6,Cw];rw[6,Cw];refine Gh ?_;refine⟨by simp,by show 2<=15;decide,?_⟩;rw[Hl,bv,<-hZ];have eo:onS sL ([]:List Nat) []=[]:=by unfold onS;split<;>rfl
 have W0:Wk g sL sR i Z S (S1++[.dct (lr (.lst []) (.lst []))]) [] ⟨[],[],0,[]⟩ ⟨[],[],0,[]⟩ ul ur:=by
  refine⟨h.keep (F:=[]) ⟨by rw[ue9];lia,λj hj _=>ua8 hj⟩ (λj m=>nomatch m),?_,by lia,G1.trans Gr.app,λj m=>?_⟩
  .show _=some (Ob.dct (lr (D.lst (wD (onS sL [] []))) (D.lst (wD (onS sL [] [])))));rw[eo,hZ];exact Ca
  .have:=G1.1;simp only[ul1,uh9,pS] at m;lia
 generalize S1++[Ob.dct (lr (.lst []) (.lst []))]=S2 at W0⊢;rw[<-hp0];clear hZ hU eo h;symm;refine L2.W.mono (?_:L2.W (C8 (Ar 8) (Ws ca cd (PN co) cv) (x.map .str)) ⟨HY g x c late i.p (AK g 0 []) Z (Ah g 0 []) none none none none none,S2⟩ λo t=>o=.next/\XN12 λ(S':List Ob) (mv:List Mv) (a b:Vt) (ux uo:Nat) (c':Int) (e8 e9 e10 e11 e12:Option Sl)=>AN4 (Wk g sL sR i Z S S' mv a b ux uo) (Ah g 0 mv=e) (mv.length<=40) (t=⟨HY g x c' late i.p (AK g 0 mv) Z (Ah g 0 mv) e8 e9 e10 e11 e12,S'⟩)) ?_
 .refine BG (λrs t=>XN14 λ(ys:List Str) (st:List (Nat×Nat)) (S':List Ob) (mv:List Mv) (a b:Vt) (ux uo:Nat) (c':Int) (e8 e9 e10 e11 e12:Option Sl)=>AN5 (rs=ys.map .str) (Tr g (Ah g 0 mv) ys st e) (mv.length+ys.length<=40) (Wk g sL sR i Z S S' mv a b ux uo) (t=⟨HY g x c' late i.p (AK g 0 mv) Z (Ah g 0 mv) e8 e9 e10 e11 e12,S'⟩)) _ _ ⟨x,st,S2,[],_,_,ul,ur,c,none,none,none,none,none,rfl,htr,by simpa using hxl,W0,rfl⟩ ?_ ?_
  .rintro d rs t ⟨ys,st,S',mv,a,b,ux,uo,c',e8,e9,e10,e11,e12,hr,htr,hl,hW,rfl⟩ _
   cases htr with
   |nil h0=>cases hr
   |cons h0 hw htr'=>
     rw[ul2] at hr;injection hr with h2 h3
     subst h2 h3;rw[ug9] at hl;symm;refine(Zj ha hdS h1 hv hg hT hW ∅ hw).mono ?_;rintro out t ⟨rfl,S4,mv',a',b',u',v',c4,f9,f10,f11,f12,hW',hl',hq,rfl⟩;rw[<-hq] at htr';exact⟨_,_,S4,mv',a',b',u',v',c4,_,f9,f10,f11,f12,rfl,htr',by lia,hW',rfl⟩
  .rintro t ⟨ys,st,S',mv,a,b,ux,uo,c',e8,e9,e10,e11,e12,hr,htr,hl,hW,rfl⟩
   cases htr with
   |cons _ _ _=>cases hr
   |nil h0=>exact⟨rfl,S',mv,a,b,ux,uo,c',e8,e9,e10,e11,e12,hW,rfl,by lia,rfl⟩
 rintro o0 t0 ⟨rfl,S3,mv,a,b,ux,uo,c',e8,e9,e10,e11,e12,hW,he,hml,rfl⟩;have hwx:=F7 hT sL mv 0 hW.pa.ok;have hwo:=F7 hT sR mv 0 hW.pa.ok;rw[hW.pa.ex,A3] at hwx;rw[hW.pa.eo,A3] at hwo;symm;refine(ha g i Z S S3 mv a b ux uo hg hW ∅ ∅).mono ?_;rintro r S4 ⟨rfl,a',b',u,v,h',ea,eb,wa,wb,ta,tb⟩;symm;rw[6,Cv h'.z (GP (F:=λw=>D.lst (wD w)) (.inl rfl))];rw[6,Cv h'.z (Ja (F:=λw=>D.lst (wD w)) two_lr)];exact⟨i,Z,mv,a',b',u,v,h',ea,eb,by rw[ta,wb],by rw[tb,wa],he,hml,by rw[<-he]⟩
abbrev gO(co ce:Fn):Fn:=fnOf 1 3 (DX (fnOf 1 1 BX) (fnOf 1 1 (CP co (fnOf 2 2 CA))) (fnOf 1 1 (Cl ce)))
abbrev Tq:Fn:=fnOf 1 1 (Ei (fnOf 1 1 DJ))
def JL(f:Fn):Prop:=∀(g:List GS) (x:List Str) (st:List (Nat×Nat)) (e:Nat) (c:Int) (S:List Ob),GOk g->(∀y∈g,Tin y)->Tr g 0 x st e->(Ao g e).isFin=true->x.length<=40->Wf f [gD g,Kl x,.int c] S λr _=>r=.bl true
variable{cwk:Fn}
theorem bR{cwh cwo ctb:Fn}(hw:JK cwk)(h1:EF co)(hce:DB ce)(hwh:Lf cwh)(hwo:OJ cwo)(htb:MT ctb):JL (fnOf 3 8 (Ef ctb cwh cwo (gO co ce) Tq cwk)):=by
 intro g x st e c S hg hT htr hfin hxl;have hL:LIM=100000:=rfl;have hel:=VZ htr;have hgf:Ao g e=.fin:=by
  cases q:Ao g e with
  |fin=>rfl
  |st s ws=>rw[q] at hfin;cases hfin
 have hix:=Bv hel;rw[hgf,GS.d] at hix;rw[9,Ef];refine(hw g x st e c _ S hg hT htr hxl).mono ?_;rintro r S1 ⟨i,Z,mv,a,b,ux,uo,W1,ea,eb,ta,tb,hq,hml,rfl⟩;have h:=W1.pa;have hwx:=F7 hT sL mv 0 h.ok;have hwo9:=F7 hT sR mv 0 h.ok;rw[h.ex,A3] at hwx;rw[h.eo,A3] at hwo9;have hlx:=h.lx;have hly:=h.swap.lx;symm;refine⟨_,_,rfl,h.jp,W_ret.mpr ?_⟩;refine(gZ h1 hce hg h ea eb ta tb).mono ?_;rintro r0 S2 ⟨rfl,rfl⟩;rw[hq,hfin];symm;refine⟨_,_,rfl,h.jp,W_ret.mpr ?_⟩;refine(RQ h).mono ?_;rintro r0 S7 ⟨rfl,rfl⟩;rw[ea,eb,hq];symm;rw[6,Y0 rfl rfl];rw[6,A4 hix];refine(hwh g mv hg h.ok ∅).use ?_;rw[hq,hfin];symm;refine(hwo g mv S7 hg h.ok ∅ ∅ ∅).mono ?_;rintro r2 S8 ⟨K2,A2,B2,rfl,w,G2,_,_⟩;rw[h.ex,h.eo] at w;symm;rw[6,fR (d:=.tup [.lst (wD a.w),.lst (wD b.w)]) (aL w.a w.b) (by simp only[FI,ul2,um9,D7]) (by simp only[BR,F1,N5 (Pq _),um1]) (Zv (Pq _) (Pq _))];have hwa:=Jv hg h.ok [] [] h.ex.symm h.eo.symm (.inl ⟨rfl,rfl⟩);rw[ui9,ui9] at hwa;refine(htb g a.w b.w S8 _ _ _ _ hg ∅ ∅ hwa).mono ?_;rintro r3 S9 ⟨G3,rfl⟩;rw[hq];symm;rw[A3,A3];refine fR (d:=.tup [.lst (AK g 0 mv),.int (e:Nat),.tup [.int (a.w.length:Nat),.int (b.w.length:Nat)]]) (by simp only[FI,ul2,um9,D7]) (by simp only[FI,ul2,um9,D7]) (by simp only[BR,F1,Nu (λx hx=>Qe 4 x (RB hg h.ok x hx)),um1]) (Mz (n:=9) (b9 (VC (n:=8) (N7 hg h.ok)) My (Mz (n:=8) (λd hd=>by simp only[ul1,uh9,pS] at hd;rcases hd with rfl|rfl<;>exact My))) EQD (by decide)) ?_;symm;rfl
abbrev FP(ns:List Int)(g:List GS)(e3 e4 e5 e6 e7 e8 e9 e10:Option Sl):List (Option Sl):=[vw (.scr ns),vw (gD g),vw (.lst (CH g 8)),e3,e4,e5,e6,e7,e8,e9,e10]
def Xa(cc cwy cnm cwg:Fn):M Out:=
 (Ae (Aq 6 (Ac (Af cc (Ab (Aa 0) (Ab (Ac (Ac (md 9) (Ac (md 3) (Aa 3) CB) AL) (Aa 5) AL) Ad))) (Aa 4) B1))
 (Ae (Aq 7 (Au (Eb cwy (Ab (Au (fBF (Ab (Aa 1) Ad) CK)) (Ab (Aa 3) (Ab (Aa 6) Ad))))))
 (Ae (ifS (fOr (Aj (Ac (Af cnm (Ab (Au (fBF (Ab (Aa 1) Ad) CK)) (Ab (Au (fBF (Ab (Aa 7) Ad) CK)) Ad))) (Aa 6) (eqS λb=>!b))) (Aj (Ac (fB (Ab (Aa 7) Ad) A0) (Aa 3) (eqS λb=>!b))))
   (Al (fC (.bl false)))
   As)
 (ifS (Cn (Aj (Af cwg (Ab (Aa 1) (Ab (Aa 7) (Ab (Af cc (Ab (Aa 0) (Ab (Ac (Ac (md 10) (Aa 3) AL) (Aa 5) AL) Ad))) Ad))))))
   (Al (fC (.bl false)))
   As))))
variable{cwy cnm cwg:Fn}
section
variable{ns:List Int}{g:List GS}
theorem ZR(hc:Ko cc)(hwy:LR cwy)(hnm:LJ cnm)(hwg:JL cwg)(hg:GOk g)(hT:∀y∈g,Tin y){S:List Ob}{n j:Nat}(hn:n<=7)(hj:j<(Bg g n 0).length)(hj3:j<3){e6 e7 e8 e9 e10:Option Sl} :
 L2.W (Xa cc cwy cnm cwg) ⟨FP ns g (vw (.int n)) (vw (.int ((Bg g n 0).length:Nat))) (vw (.int j)) e6 e7 e8 e9 e10,S⟩ λo t=>o=.next/\∃S' f6 f7,t=⟨FP ns g (vw (.int n)) (vw (.int ((Bg g n 0).length:Nat))) (vw (.int j)) f6 f7 e8 e9 e10,S'⟩:=by
 have hL:LIM=100000:=rfl;clear 5(hc ns (9+3*(n:Int)+j) ∅ ∅)c1 hc1;clear 5(hc ns (10+(n:Int)+j) ∅ ∅)c2 hc2;have g1:=uk2 c1 (b:=((Bg g n 0).length:Int)) ∅;have g2:=uf4 c1 (b:=((Bg g n 0).length:Int)) ∅;clear 5(Int.eq_ofNat_of_zero_le g1)k hk;have hkl:k<(Bg g n 0).length:=by lia
 obtain⟨x,hx⟩:∃x,(Bg g n 0)[k]?=some x:=⟨_,ub1 hkl⟩;have hxl:=Jw (ud4 hx);obtain⟨st,e,htr,hfin,_,_,_⟩:=Tw hg n 0 k x hg.ne hx;unfold Xa;symm;rw[6,ML (Nm (by decide) (by decide))];rw[6,hc1.use];refine LC ∅ ?_;rw[hk];symm;rw[6,HC];refine(hwy g n k x hg ∅ hx).use ?_;refine⟨_,rfl,?_⟩;symm;rw[6,(hnm g n k x hg ∅ hx).use];rw[6,EO (by simp)];rw[6,EO (by simp[hxl])];rw[6,hc2.use];refine(hwg g x st e c2 _ hg hT htr hfin ∅).mono ?_;rintro r S5 rfl;symm;exact⟨rfl,S5,_,_,rfl⟩
def Te(cc cwy cnm cwg chm:Fn):M Out:=
 (Ae (Aq 4 (Af chm (Ab (Au (fBF (Ab (Aa 1) Ad) CK)) (Ab (Aa 3) Ad))))
 (Ae (ifS (Aj (Ac (Aa 4) (Ac (Ac (Aa 2) (Aa 3) ixD) (md 0) ixD) (eqS λb=>!b)))
   (Al (fC (.bl false)))
   As)
 (Bx (BQ (Ab (fB (Ab (md 3) (Ab (Aa 4) Ad)) Lu) Ad)) (Ar 5) (Xa cc cwy cnm cwg))))
theorem Xr{chm:Fn}(hc:Ko cc)(hwy:LR cwy)(hnm:LJ cnm)(hwg:JL cwg)(hhm:JE chm)(hg:GOk g)(hT:∀y∈g,Tin y){S:List Ob}{n:Nat}(hn:n<=7){e4 e5 e6 e7 e8 e9 e10:Option Sl} :
 L2.W (Te cc cwy cnm cwg chm) ⟨FP ns g (vw (.int n)) e4 e5 e6 e7 e8 e9 e10,S⟩ λo t=>o=.next/\XN5 λS' f4 f5 f6 f7=>t=⟨FP ns g (vw (.int n)) f4 f5 f6 f7 e8 e9 e10,S'⟩:=by
 have hL:LIM=100000:=rfl;unfold Te;symm;rw[6,(hhm g n hg ∅).use];refine A4 (F5 (g:=g) (n:=8) (m:=n) ∅) ?_;unfold DK;symm;refine A4 (Kg (row:=Bl g n) (i:=0) ∅ (by rw[D8];have:=hg.ne;lia)) ?_;rw[show(Bl g n).getD (Int.toNat 0) 0=((Bg g n 0).length:Int) from Hy hg n 0 hg.ne];symm;rw[6,EO (by simp)];obtain⟨m3,e3,h3,hM⟩:∃m3:Nat,(if ((Bg g n 0).length:Int)<3 then((Bg g n 0).length:Int) else 3)=(m3:Int)/\m3<=3/\m3<=(Bg g n 0).length:=by
  by_cases q:((Bg g n 0).length:Int)<3
  .exact⟨(Bg g n 0).length,by rw[pW q],by lia,un6 _⟩
  .exact⟨3,by rw[pX q];rfl,un6 _,by lia⟩
 rw[e3];refine ET (Bq ∅ ∅) ?_;rw[uf8];refine BG (λr t=>XN5 λ(q:Nat) (S':List Ob) (f5 f6 f7:Option Sl)=>AN3 (q<=m3) (r=(Bf 0 m3).drop q) (t=⟨FP ns g (vw (.int n)) (vw (.int ((Bg g n 0).length:Nat))) f5 f6 f7 e8 e9 e10,S'⟩)) _ _ ⟨0,S,e5,e6,e7,by lia,rfl,rfl⟩ ?_ ?_
 .rintro d r t ⟨q,S',f5,f6,f7,hq,hr,rfl⟩ _;clear 5(De hr)rfl hr' hqn;rw[Int.zero_add];symm;refine(ZR hc hwy hnm hwg hg hT hn (j:=q) ∅ ∅).mono ?_;rintro o t ⟨rfl,S5,k6,k7,rfl⟩;exact⟨q+1,S5,_,k6,k7,by lia,hr',rfl⟩
 .rintro t ⟨q,S',f5,f6,f7,hq,hr,rfl⟩;exact⟨rfl,S',_,f5,f6,f7,rfl⟩
def XS(cwk cc:Fn):M Out:=(ifS (Aj (Ac (AG "Parley" Tq (Ac (Af cwk (Ab (Aa 1) (Ab (Ac (Aa 8) (Aa 9) HI) (Ab (Af cc (Ab (Aa 0) (Ab (md 8) Ad))) (Ab (fC (.bl false)) Ad))))) (md 0) ixD) (ret [])) (AJ (Ab (Aa 9) (Ab (Aa 9) Ad))) (eqS λb=>!b))) (Al (fC (.bl false))) As)
theorem aT(hc:Ko cc)(hwk:JK cwk)(hg:GOk g)(hT:∀y∈g,Tin y){S:List Ob}{R s:Nat}{kvs:List (Key×D)}{ks:List Nat}(hk:KVt g kvs ks)(hR:S[R]?=some (.dct kvs))(hs:s∈ks){e3 e4 e5 e6 e7 e10:Option Sl} :
 L2.W (XS cwk cc) ⟨FP ns g e3 e4 e5 e6 e7 (vw (.obj R)) (vw (.int s)) e10,S⟩ λo t=>o=.next/\∃S',S'[R]?=some (.dct kvs)/\t=⟨FP ns g e3 e4 e5 e6 e7 (vw (.obj R)) (vw (.int s)) e10,S'⟩:=by
 clear 5(hc ns 8 ∅ ∅)c1 hc1;clear 5(hk.get hs)x st e2 htr hl;have hle:=hg.le;have hkl:=Hu hk.nd hk.lt;unfold XS;symm;rw[6,Y1 hR e2];rw[6,hc1.use];refine(hwk g x st s c1 false S hg hT htr ∅).mono ?_;rintro r S1 ⟨i,Z,mv,a,b,ux,uo,W1,ea,eb,ta,tb,hq,hml,rfl⟩;symm;refine⟨_,_,rfl,W1.pa.jp,W_ret.mpr ?_⟩;refine(RQ W1.pa).mono ?_;rintro r0 S7 ⟨rfl,rfl⟩;rw[ea,eb,hq];symm;rw[6,Y0 rfl rfl];exact⟨rfl,_,W1.gr.get hR,rfl⟩
theorem bC{l:List Nat}{f:Nat->Nat}:0<(l.map λm=>(f m:Int)).sum↔∃m∈l,0<f m:=by
 have nn:∀l:List Nat,0<=(l.map λm=>(f m:Int)).sum:=λl=>by
  induction l with
  |nil=>simp
  |cons a r ih=>rw[ul2,pC];lia
 induction l with
 |nil=>simp
 |cons a r ih=>
   rw[ul2,pC];have h:=nn r;constructor
   .intro q
    by_cases ha:0<f a
    .exact⟨a,ue6,ha⟩
    .clear 5(ih.mp ∅)m hm h2;exact⟨m,ud1 _ hm,h2⟩
   .rintro⟨m,hm,h2⟩;rcases ul1.mp hm with rfl|hm
    .lia
    .have:=ih.mpr ⟨m,hm,h2⟩;lia
theorem Zr(hg:GOk g)(h6:g.length<=6):Ou g=((List.range g.length).filter λs=>decide (0<((List.range 8).map λm=>(Bl g m).getD s 0).sum)).map λk:Nat=>D.int (k:Int):=by
 unfold Ou
 congr 1
 refine List.filter_congr λs hs=>?_;have hs:=List.mem_range.mp hs;have e:((List.range 8).map λm=>(Bl g m).getD s 0)=(List.range 8).map λm=>(((Bg g m s).length:Nat):Int):=List.map_congr_left λm _=>Hy hg m s hs;rw[e,uj8,ug6,bC,UR hg h6 hs];constructor
 .rintro⟨n,h1,h2⟩;exact⟨n,List.mem_range.mpr ∅,h2⟩
 .rintro⟨n,h1,h2⟩;exact⟨n,by have:=List.mem_range.mp h1;lia,h2⟩
end
theorem gK{cen crw chm cct cg:Fn}(hen:Lb cen)(hc:Ko cc)(hwk:JK cwk)(hrw:So crw)(hwg:JL cwg)(hnm:LJ cnm)(hwy:LR cwy)(hhm:JE chm)(hct:La cct)(hgr:GrN cg){ns:List Int} :
 Wf (fnOf 1 11 (Hn cen cc cwk Tq crw cwg cnm cwy chm cct cg)) [.scr ns] [] λr _=>r=.bl true:=by
 have hL:LIM=100000:=rfl;rw[9,Hn];refine(hgr ns []).mono ?_;rintro r S0 ⟨e0,g,rfl,hg,hg6,hT9⟩;subst e0;have hT:∀x∈g,Tin x:=λx h=>(hT9 x h).1;have hle:=hg.le;symm;rw[6,(hct g hg).use];refine L2.W.mono (?_:L2.W (C8 (Ar 3) (Te cc cwy cnm cwg chm) (Bf 0 (8:Int).toNat)) ⟨FP ns g none none none none none none none none,[]⟩ λo t=>o=.next/\XN6 λS' e3 e4 e5 e6 e7=>t=⟨FP ns g e3 e4 e5 e6 e7 none none none,S'⟩) ?_
 .refine BG (λr t=>XN7 λ(q:Nat) (S':List Ob) (e3 e4 e5 e6 e7:Option Sl)=>AN3 (q<=8) (r=(Bf 0 (8:Int).toNat).drop q) (t=⟨FP ns g e3 e4 e5 e6 e7 none none none,S'⟩)) _ _ ⟨0,[],none,none,none,none,none,by lia,rfl,rfl⟩ ?_ ?_
  .rintro d r t ⟨q,S',e3,e4,e5,e6,e7,hq,hr,rfl⟩ _;clear 5(De hr)rfl hr' hqn;have hq7:q<=7:=by simp at hqn;lia
   rw[Int.zero_add];symm;refine(Xr hc hwy hnm hwg hhm hg hT hq7).mono ?_;rintro o t ⟨rfl,S5,f4,f5,f6,f7,rfl⟩;exact⟨q+1,S5,_,f4,f5,f6,f7,by lia,hr',rfl⟩
  .rintro t ⟨q,S',e3,e4,e5,e6,e7,hq,hr,rfl⟩;exact⟨rfl,S',e3,e4,e5,e6,e7,rfl⟩
 rintro o0 t0 ⟨rfl,S1,e3,e4,e5,e6,e7,rfl⟩;symm;refine(hrw g S1 hg).mono ?_;rintro r S2 ⟨kvs,ks,rfl,rfl,hk⟩;obtain⟨R,hR⟩:∃R,R=S1.length:=⟨_,rfl⟩;have hRk:(S1++[Ob.dct kvs])[R]?=some (.dct kvs):=by rw[hR];exact Ca
 rw[<-hR];generalize S1++[Ob.dct kvs]=S2 at hRk⊢;have hkl:=Hu hk.nd hk.lt;symm;refine f8 hRk hk.keysI (by rw[ui7];lia) ?_;obtain⟨l,hl1,_,hl2,hl3⟩:=bA hk.nd;rw[hl1,un3];symm;refine L2.W.mono (?_:L2.W (C8 (Ar 9) (XS cwk cc) (l.map λk:Nat=>D.int (k:Int))) ⟨FP ns g e3 e4 e5 e6 e7 (vw (.obj R)) none none,S2⟩ λo t=>o=.next/\∃S' e9,t=⟨FP ns g e3 e4 e5 e6 e7 (vw (.obj R)) e9 none,S'⟩) ?_
 .refine BG (λrs t=>XN3 λ(ys:List Nat) (S':List Ob) (e9:Option Sl)=>AN4 (rs=ys.map (λk:Nat=>D.int (k:Int))) ((∀s∈ys,s∈ks)) (S'[R]?=some (.dct kvs)) (t=⟨FP ns g e3 e4 e5 e6 e7 (vw (.obj R)) e9 none,S'⟩)) _ _ ⟨l,S2,none,rfl,λs h=>(hl2 s).mp h,hRk,rfl⟩ ?_ ?_
  .rintro d rs t ⟨ys,S',e9,hr,hys,hR',rfl⟩ _
   cases ys with
   |nil=>cases hr
   |cons s ys=>
     rw[ul2] at hr;injection hr with h2 h3
     subst h2 h3;symm;refine(aT hc hwk hg hT hk hR' (hys s ue6)).mono ?_;rintro o t ⟨rfl,S5,hR5,rfl⟩;exact⟨ys,S5,_,rfl,λx h=>hys x (ud1 _ h),hR5,rfl⟩
  .rintro t ⟨ys,S',e9,hr,hys,hR',rfl⟩;exact⟨rfl,S',e9,rfl⟩
 rintro o1 t1 ⟨rfl,S3,e9,rfl⟩;symm;rw[6,(hen g hg).use];rw[ui7];refine ET (Bq ∅ ∅) ?_;rw[uf8,Ny];refine(JI (l:=List.range g.length) (ι:=λk:Nat=>D.int (k:Int)) (f:=λk:Nat=>D.int (k:Int)) (p:=λs=>decide (0<((List.range 8).map λm=>(Bl g m).getD s 0).sum)) (fr:=[vw (.lst (CH g 8))]) (λs hs=>?_) λs hs=>?_).mono ?_
 .have hs:=List.mem_range.mp hs;symm;refine(DP (l:=List.range 8) (ι:=λm=>DK (Bl g m)) (f:=λm=>D.int ((Bl g m).getD s 0)) (fr:=[vw (.int s)]) λm hm=>?_).mono ?_
  .symm;refine A4 (Kg (row:=Bl g m) (i:=(s:Int)) ∅ (by rw[D8];lia)) ?_;exact⟨by rw[uf8],rfl⟩
  .rintro xs t' ⟨rfl,hS'⟩;refine Bi (by rw[ui7,ug4,hL];lia) ?_;symm;rw[6,Yq (Pp _ _)];refine⟨rfl,?_⟩;rw[hS']
 .symm;exact⟨rfl,rfl⟩
 rintro xs t' ⟨rfl,hS'⟩;refine Bi (by have:=List.length_filter_le (λs=>decide (0<((List.range 8).map λm=>(Bl g m).getD s 0).sum)) (List.range g.length);rw[ug4] at this;rw[ui7,hL];lia) ?_;rw[<-Zr hg hg6];symm;refine NK rfl (VC (n:=1) (λd hd=>?_) EQD (by decide)) ?_
 .unfold Ou at hd;obtain⟨k,_,rfl⟩:=List.mem_map.mp hd;exact My
 symm;rfl
end LW
namespace L2
open PySem PySem.Spec PySem.W
theorem Xq{k:Kd}{P:mq}{w:mw}{K:mh}{mg:Str->Option mj}{base:Heap}{n:Nat}{fa:mm}{fd:mx}{ps:List Str}:okK k P w K mg base n fa fd ps (λ_ _=>none):=by
 cases k<;>exact⟨λvs H Q E h=>(by obtain⟨c,ds,S,_,_,r,S',e,_⟩:=h;cases e),λA' outer s H args us vs Q E _ _ _ _ h=>(by obtain⟨c,ds,S,_,_,r,S',e,_⟩:=h;cases e)⟩
theorem us0{n:Nat}:∀{us:List mj},us.length=n+1->∃a vs,us=a::vs/\vs.length=n
 |_::_,h=>⟨_,_,rfl,Nat.succ.inj h⟩
section
variable{us:List mj}
theorem us1(h:us.length=1):∃a,us=[a]:=by
 clear 5(us0 h)a vs rfl q;exact⟨a,by rw[List.eq_nil_of_length_eq_zero q]⟩
theorem us2(h:us.length=2):∃a b,us=[a,b]:=by
 obtain⟨_,vs,rfl,q⟩:=us0 h;obtain⟨_,rfl⟩:=us1 q;exact⟨_,_,rfl⟩
theorem us3(h:us.length=3):∃a b c,us=[a,b,c]:=by
 obtain⟨_,vs,rfl,q⟩:=us0 h;obtain⟨_,_,rfl⟩:=us2 q;exact⟨_,_,_,rfl⟩
theorem us4(h:us.length=4):∃a b c d,us=[a,b,c,d]:=by
 obtain⟨_,vs,rfl,q⟩:=us0 h;obtain⟨_,_,_,rfl⟩:=us3 q;exact⟨_,_,_,_,rfl⟩
theorem us5(h:us.length=5):∃a b c d e,us=[a,b,c,d,e]:=by
 obtain⟨_,vs,rfl,q⟩:=us0 h;obtain⟨_,_,_,_,rfl⟩:=us4 q;exact⟨_,_,_,_,_,rfl⟩
theorem us6(h:us.length=6):∃a b c d e f,us=[a,b,c,d,e,f]:=by
 obtain⟨_,vs,rfl,q⟩:=us0 h;obtain⟨_,_,_,_,_,rfl⟩:=us5 q;exact⟨_,_,_,_,_,_,rfl⟩
theorem us7(h:us.length=7):∃a b c d e f g,us=[a,b,c,d,e,f,g]:=by
 obtain⟨_,vs,rfl,q⟩:=us0 h;obtain⟨_,_,_,_,_,_,rfl⟩:=us6 q;exact⟨_,_,_,_,_,_,_,rfl⟩
end
end L2
namespace K45
open PySem L2 LW
inductive Fx where
 |Ha|Do|Bc|Fy|Dm|DV|DS|DT|C7|Ch|Ds|BO|Cu|B7|BZ|CG|DM|Cd|Dn|BP|Bw|Bb|Bs|Fm|BK|Dp|CD|EA|Fj|DN|BD|B9|Ce|DW|BN|Du|B3|Dd|D6|EC|D4|D5|Dc|DO|BE|ED|Dx|Cg|BB|FS|DU|Dl|Dv|Cq|Cr|Cc|CU|Cy|AE|CS|BW|law_|AI|AS|AX|Az|AZ|Bj|Ba|A8|AY|AV|AT|AU|AD|AQ|AA|AM|Av|Aw|A7|AC|AF|AB
noncomputable def top(i:Nat):Stmt:=PySem.Challenge.pw_wireparley_k45_whole_ways_walked.main.body.getD i (.Pass ⟨0,0,0,0⟩)
noncomputable abbrev nm:Fx->Str
 |.Ha=>"_wall"
 |.Do=>"is_number"
 |.Bc=>"is_number_within"
 |.Fy=>"fits"
 |.Dm=>"fits_text"
 |.DV=>"is_sign"
 |.DS=>"fits_list"
 |.DT=>"fits_pair"
 |.C7=>"fits_choice"
 |.Ch=>"state_behind"
 |.Ds=>"steps_of"
 |.BO=>"state_next"
 |.Cu=>"place_said"
 |.B7=>"place_named"
 |.BZ=>"words_of"
 |.CG=>"is_end"
 |.DM=>"is_whole"
 |.Cd=>"grammar_copy"
 |.Dn=>"how_many"
 |.BP=>"counts_up_to"
 |.Bw=>"counts_of_none"
 |.Bb=>"counts_of_one_more"
 |.Bs=>"count_behind"
 |.Fm=>"way_of"
 |.BK=>"place_numbered"
 |.Dp=>"number_of"
 |.CD=>"steps_named"
 |.EA=>"rows_to"
 |.Fj=>"ending"
 |.DN=>"leads_to"
 |.BD=>"fitting_bytes"
 |.B9=>"width_up_to"
 |.Ce=>"number_bytes"
 |.DW=>"leading"
 |.BN=>"read_value"
 |.Du=>"byte_at"
 |.B3=>"byte_up_to"
 |.Dd=>"read_number"
 |.D6=>"read_text"
 |.EC=>"sign_at"
 |.D4=>"read_list"
 |.D5=>"read_pair"
 |.Dc=>"read_choice"
 |.DO=>"wires_of"
 |.BE=>"message_bytes"
 |.ED=>"talk_by"
 |.Dx=>"read_on"
 |.Cg=>"read_message"
 |.BB=>"other_side"
 |.FS=>"is_act"
 |.DU=>"is_one_of"
 |.Dl=>"_law_cell"
 |.Dv=>"_law_mixed"
 |.Cq=>"_law_shape"
 |.Cr=>"_law_value"
 |.Cc=>"_law_grammar"
 |.CU=>"_law_nexts"
 |.Cy=>"_law_counts"
 |.AE=>"_law_all_taken"
 |.CS=>"_law_walk"
 |.BW=>"_law_way_good"
 |.law_=>"law"
 |.AI=>"__init__"
 |.AS=>"state"
 |.AX=>"hear"
 |.Az=>"unread_of"
 |.AZ=>"__init__"
 |.Bj=>"say"
 |.Ba=>"take"
 |.A8=>"speak"
 |.AY=>"listen"
 |.AV=>"waiting"
 |.AT=>"may_say"
 |.AU=>"shape_to_say"
 |.AD=>"has_ended"
 |.AQ=>"__init__"
 |.AA=>"of_side"
 |.AM=>"do"
 |.Av=>"do_saying"
 |.Aw=>"do_taking"
 |.A7=>"may"
 |.AC=>"is_over"
 |.AF=>"states"
 |.AB=>"lying"
abbrev ql:Fx->Str
 |.AI=>"Hearer.__init__"
 |.AS=>"Hearer.state"
 |.AX=>"Hearer.hear"
 |.Az=>"Hearer.unread_of"
 |.AZ=>"Side.__init__"
 |.Bj=>"Side.say"
 |.Ba=>"Side.take"
 |.A8=>"Side.speak"
 |.AY=>"Side.listen"
 |.AV=>"Side.waiting"
 |.AT=>"Side.may_say"
 |.AU=>"Side.shape_to_say"
 |.AD=>"Side.has_ended"
 |.AQ=>"Parley.__init__"
 |.AA=>"Parley.of_side"
 |.AM=>"Parley.do"
 |.Av=>"Parley.do_saying"
 |.Aw=>"Parley.do_taking"
 |.A7=>"Parley.may"
 |.AC=>"Parley.is_over"
 |.AF=>"Parley.states"
 |.AB=>"Parley.lying"
 |x=>nm x
noncomputable abbrev me:Fx->Bool
 |.AI=>true
 |.AS=>true
 |.AX=>true
 |.Az=>true
 |.AZ=>true
 |.Bj=>true
 |.Ba=>true
 |.A8=>true
 |.AY=>true
 |.AV=>true
 |.AT=>true
 |.AU=>true
 |.AD=>true
 |.AQ=>true
 |.AA=>true
 |.AM=>true
 |.Av=>true
 |.Aw=>true
 |.A7=>true
 |.AC=>true
 |.AF=>true
 |.AB=>true
 |_=>false
noncomputable abbrev ow:Fx->Str
 |.AI=>"Hearer"
 |.AS=>"Hearer"
 |.AX=>"Hearer"
 |.Az=>"Hearer"
 |.AZ=>"Side"
 |.Bj=>"Side"
 |.Ba=>"Side"
 |.A8=>"Side"
 |.AY=>"Side"
 |.AV=>"Side"
 |.AT=>"Side"
 |.AU=>"Side"
 |.AD=>"Side"
 |.AQ=>"Parley"
 |.AA=>"Parley"
 |.AM=>"Parley"
 |.Av=>"Parley"
 |.Aw=>"Parley"
 |.A7=>"Parley"
 |.AC=>"Parley"
 |.AF=>"Parley"
 |.AB=>"Parley"
 |_=>""
abbrev st:Fx->Stmt
 |.Ha=>top 0
 |.Do=>top 11
 |.Bc=>top 12
 |.Fy=>top 13
 |.Dm=>top 14
 |.DV=>top 15
 |.DS=>top 16
 |.DT=>top 17
 |.C7=>top 18
 |.Ch=>top 20
 |.Ds=>top 21
 |.BO=>top 22
 |.Cu=>top 23
 |.B7=>top 24
 |.BZ=>top 25
 |.CG=>top 26
 |.DM=>top 27
 |.Cd=>top 28
 |.Dn=>top 30
 |.BP=>top 31
 |.Bw=>top 32
 |.Bb=>top 33
 |.Bs=>top 34
 |.Fm=>top 35
 |.BK=>top 36
 |.Dp=>top 37
 |.CD=>top 38
 |.EA=>top 40
 |.Fj=>top 41
 |.DN=>top 42
 |.BD=>top 45
 |.B9=>top 46
 |.Ce=>top 47
 |.DW=>top 48
 |.BN=>top 49
 |.Du=>top 50
 |.B3=>top 51
 |.Dd=>top 52
 |.D6=>top 53
 |.EC=>top 54
 |.D4=>top 55
 |.D5=>top 56
 |.Dc=>top 57
 |.DO=>top 59
 |.BE=>top 60
 |.ED=>top 61
 |.Dx=>top 62
 |.Cg=>top 63
 |.BB=>top 68
 |.FS=>top 71
 |.DU=>top 72
 |.Dl=>top 74
 |.Dv=>top 75
 |.Cq=>top 76
 |.Cr=>top 77
 |.Cc=>top 80
 |.CU=>top 81
 |.Cy=>top 82
 |.AE=>top 83
 |.CS=>top 84
 |.BW=>top 85
 |.law_=>top 86
 |.AI=>BF (top 65) 0
 |.AS=>BF (top 65) 1
 |.AX=>BF (top 65) 2
 |.Az=>BF (top 65) 3
 |.AZ=>BF (top 69) 0
 |.Bj=>BF (top 69) 1
 |.Ba=>BF (top 69) 2
 |.A8=>BF (top 69) 3
 |.AY=>BF (top 69) 4
 |.AV=>BF (top 69) 5
 |.AT=>BF (top 69) 6
 |.AU=>BF (top 69) 7
 |.AD=>BF (top 69) 8
 |.AQ=>BF (top 70) 0
 |.AA=>BF (top 70) 1
 |.AM=>BF (top 70) 2
 |.Av=>BF (top 70) 3
 |.Aw=>BF (top 70) 4
 |.A7=>BF (top 70) 5
 |.AC=>BF (top 70) 6
 |.AF=>BF (top 70) 7
 |.AB=>BF (top 70) 8
noncomputable abbrev ps:Fx->List Str
 |.Ha=>["k"]
 |.Do=>["thing"]
 |.Bc=>["thing", "low", "high"]
 |.Fy=>["s", "thing"]
 |.Dm=>["s", "thing"]
 |.DV=>["number"]
 |.DS=>["s", "thing"]
 |.DT=>["s", "thing"]
 |.C7=>["s", "thing"]
 |.Ch=>["g", "talk"]
 |.Ds=>["g", "talk"]
 |.BO=>["g", "step"]
 |.Cu=>["state", "thing"]
 |.B7=>["state", "thing"]
 |.BZ=>["state"]
 |.CG=>["state"]
 |.DM=>["g", "talk"]
 |.Cd=>["g"]
 |.Dn=>["g", "n"]
 |.BP=>["g", "n"]
 |.Bw=>["g"]
 |.Bb=>["g", "row"]
 |.Bs=>["words", "row"]
 |.Fm=>["g", "n", "k"]
 |.BK=>["words", "row", "number"]
 |.Dp=>["g", "way"]
 |.CD=>["g", "way"]
 |.EA=>["g"]
 |.Fj=>["g"]
 |.DN=>["state", "ends"]
 |.BD=>["s", "value"]
 |.B9=>["most"]
 |.Ce=>["number", "width"]
 |.DW=>["number", "cut"]
 |.BN=>["s", "wire", "at"]
 |.Du=>["wire", "at"]
 |.B3=>["most", "wire", "at"]
 |.Dd=>["s", "wire", "at"]
 |.D6=>["s", "wire", "at"]
 |.EC=>["wire", "at"]
 |.D4=>["s", "wire", "at"]
 |.D5=>["s", "wire", "at"]
 |.Dc=>["s", "wire", "at"]
 |.DO=>["g", "talk"]
 |.BE=>["state", "place", "value"]
 |.ED=>["g", "left", "right"]
 |.Dx=>["g", "state", "wires", "places"]
 |.Cg=>["state", "wire", "at"]
 |.BB=>["side"]
 |.FS=>["thing", "kind", "parts"]
 |.DU=>["thing", "texts"]
 |.Dl=>["script", "k"]
 |.Dv=>["cell", "k"]
 |.Cq=>["cell", "depth"]
 |.Cr=>["shape", "cell"]
 |.Cc=>["script", "start", "ends"]
 |.CU=>["grammar", "here"]
 |.Cy=>["grammar", "most"]
 |.AE=>["parley"]
 |.CS=>["grammar", "names", "cell", "late"]
 |.BW=>["grammar", "names", "cell"]
 |.law_=>["script"]
 |.AI=>["self", "g", "sides"]
 |.AS=>["self"]
 |.AX=>["self", "side", "piece"]
 |.Az=>["self", "side"]
 |.AZ=>["self", "g", "side"]
 |.Bj=>["self", "name", "value"]
 |.Ba=>["self", "piece"]
 |.A8=>["self", "name", "value"]
 |.AY=>["self", "piece"]
 |.AV=>["self"]
 |.AT=>["self"]
 |.AU=>["self", "name"]
 |.AD=>["self"]
 |.AQ=>["self", "g"]
 |.AA=>["self", "side"]
 |.AM=>["self", "act"]
 |.Av=>["self", "side", "name", "value"]
 |.Aw=>["self", "side", "n"]
 |.A7=>["self"]
 |.AC=>["self"]
 |.AF=>["self"]
 |.AB=>["self"]
noncomputable abbrev ns:Fx->List Str
 |.Ha=>["k"]
 |.Do=>["thing"]
 |.Bc=>["thing", "low", "high"]
 |.Fy=>["s", "thing", "kind"]
 |.Dm=>["s", "thing", "sign"]
 |.DV=>["number"]
 |.DS=>["s", "thing", "part"]
 |.DT=>["s", "thing"]
 |.C7=>["s", "thing"]
 |.Ch=>["g", "talk", "steps"]
 |.Ds=>["g", "talk", "state", "steps", "k", "place", "step"]
 |.BO=>["g", "step"]
 |.Cu=>["state", "thing", "place"]
 |.B7=>["state", "thing", "words", "place"]
 |.BZ=>["state"]
 |.CG=>["state"]
 |.DM=>["g", "talk"]
 |.Cd=>["g"]
 |.Dn=>["g", "n"]
 |.BP=>["g", "n", "rows", "m"]
 |.Bw=>["g"]
 |.Bb=>["g", "row"]
 |.Bs=>["words", "row"]
 |.Fm=>["g", "n", "k", "rows", "way", "state", "number", "behind", "words", "place"]
 |.BK=>["words", "row", "number", "place"]
 |.Dp=>["g", "way", "steps", "row", "number", "k", "words"]
 |.CD=>["g", "way", "state", "steps", "name", "place", "step"]
 |.EA=>["g", "rows", "layer", "behind", "state", "word"]
 |.Fj=>["g", "ends", "step"]
 |.DN=>["state", "ends"]
 |.BD=>["s", "value", "kind", "row", "thing"]
 |.B9=>["most"]
 |.Ce=>["number", "width"]
 |.DW=>["number", "cut"]
 |.BN=>["s", "wire", "at", "kind"]
 |.Du=>["wire", "at"]
 |.B3=>["most", "wire", "at", "byte"]
 |.Dd=>["s", "wire", "at", "most", "width", "number", "k"]
 |.D6=>["s", "wire", "at", "length", "place", "text", "k"]
 |.EC=>["wire", "at", "number"]
 |.D4=>["s", "wire", "at", "length", "place", "things", "k", "part"]
 |.D5=>["s", "wire", "at", "first", "second"]
 |.Dc=>["s", "wire", "at", "k", "part"]
 |.DO=>["g", "talk", "wires", "steps", "k", "state"]
 |.BE=>["state", "place", "value"]
 |.ED=>["g", "left", "right", "read"]
 |.Dx=>["g", "state", "wires", "places", "talk", "standing", "behind", "side", "read"]
 |.Cg=>["state", "wire", "at", "word", "read", "e"]
 |.BB=>["side"]
 |.FS=>["thing", "kind", "parts"]
 |.DU=>["thing", "texts"]
 |.Dl=>["script", "k"]
 |.Dv=>["cell", "k", "number"]
 |.Cq=>["cell", "depth", "kind", "low", "one", "other"]
 |.Cr=>["shape", "cell", "kind", "many", "size", "text", "found", "k", "one", "other"]
 |.Cc=>["script", "start", "ends", "many", "grammar", "k", "cell", "kind", "words", "j", "then", "shape"]
 |.CU=>["grammar", "here"]
 |.Cy=>["grammar", "most", "counts", "n", "last"]
 |.AE=>["parley", "side", "other", "many"]
 |.CS=>["grammar", "names", "cell", "late", "parley", "talk", "wires", "here", "name", "side", "words", "word", "value"]
 |.BW=>["grammar", "names", "cell", "parley", "talk", "wires", "here", "lengths"]
 |.law_=>["script", "grammar", "counts", "n", "many", "j", "k", "names", "rows", "state", "told"]
 |.AI=>["self", "g", "sides", "side"]
 |.AS=>["self"]
 |.AX=>["self", "side", "piece", "read"]
 |.Az=>["self", "side"]
 |.AZ=>["self", "g", "side"]
 |.Bj=>["self", "name", "value"]
 |.Ba=>["self", "piece"]
 |.A8=>["self", "name", "value", "state", "place"]
 |.AY=>["self", "piece"]
 |.AV=>["self"]
 |.AT=>["self"]
 |.AU=>["self", "name"]
 |.AD=>["self"]
 |.AQ=>["self", "g"]
 |.AA=>["self", "side"]
 |.AM=>["self", "act"]
 |.Av=>["self", "side", "name", "value", "said"]
 |.Aw=>["self", "side", "n", "wire", "told"]
 |.A7=>["self", "says", "takes"]
 |.AC=>["self", "ended", "waits"]
 |.AF=>["self"]
 |.AB=>["self"]
def body(Φ:Fx->Fn):Fx->Fn
 |.Ha=>fnOf 1 1 (Xk)
 |.Do=>fnOf 1 1 (Ih)
 |.Bc=>fnOf 3 3 (Ex (Φ .Do))
 |.Fy=>fnOf 2 3 (PF (Φ .C7) (Φ .DT) (Φ .DS) (Φ .Dm) (Φ .Bc))
 |.Dm=>fnOf 2 3 (Ig (Φ .DV))
 |.DV=>fnOf 1 1 (J2)
 |.DS=>fnOf 2 3 (Ic (Φ .Fy))
 |.DT=>fnOf 2 2 (Ie (Φ .Fy))
 |.C7=>fnOf 2 2 (Gu (Φ .Fy) (Φ .Bc))
 |.Ch=>fnOf 2 3 (FZ (Φ .BO) (Φ .Ds))
 |.Ds=>fnOf 2 7 (Je (Φ .BO) (Φ .Cu))
 |.BO=>fnOf 2 2 (Hs)
 |.Cu=>fnOf 2 3 (Hq (Φ .Fy) (Φ .B7))
 |.B7=>fnOf 2 4 (Gv (Φ .BZ))
 |.BZ=>fnOf 1 1 (Jg (Φ .CG))
 |.CG=>fnOf 1 1 (Lq)
 |.DM=>fnOf 2 2 (Jc (Φ .Ch) (Φ .CG))
 |.Cd=>fnOf 1 1 (FX (Φ .CG))
 |.Dn=>fnOf 2 2 (Jb (Φ .BP))
 |.BP=>fnOf 2 4 (FW (Φ .Bb) (Φ .Bw))
 |.Bw=>fnOf 1 1 (E7 (Φ .CG))
 |.Bb=>fnOf 2 2 (DY (Φ .BZ) (Φ .Bs))
 |.Bs=>fnOf 2 2 (FV)
 |.Fm=>fnOf 3 10 (Lr (Φ .Bs) (Φ .BK) (Φ .BZ) (Φ .BP) (Φ .Dn))
 |.BK=>fnOf 3 4 (Fa (Φ .Bs))
 |.Dp=>fnOf 2 7 (Ii (Φ .Bb) (Φ .Bs) (Φ .BZ) (Φ .Bw) (Φ .CD))
 |.CD=>fnOf 2 7 (Gx (Φ .CG) (Φ .BO) (Φ .B7))
 |.EA=>fnOf 1 6 (J4 (Φ .BZ))
 |.Fj=>fnOf 1 3 (Ib (Φ .CG) (Φ .DN))
 |.DN=>fnOf 2 2 (Jd (Φ .BZ))
 |.BD=>fnOf 2 5 (FE (Φ .BD) (Φ .B9) (Φ .Ce))
 |.B9=>fnOf 1 1 (Gy)
 |.Ce=>fnOf 2 2 (FY (Φ .DW))
 |.DW=>fnOf 2 2 (J3)
 |.BN=>fnOf 3 4 (Ek (Φ .Dc) (Φ .D5) (Φ .D4) (Φ .D6) (Φ .Dd))
 |.Du=>fnOf 2 2 (Hm)
 |.B3=>fnOf 3 4 (FC (Φ .Du))
 |.Dd=>fnOf 3 7 (D0 (Φ .DW) (Φ .Du) (Φ .B9))
 |.D6=>fnOf 3 7 (EI (Φ .EC) (Φ .B3))
 |.EC=>fnOf 2 3 (Hr (Φ .DV) (Φ .Du))
 |.D4=>fnOf 3 8 (EG (Φ .BN) (Φ .B3))
 |.D5=>fnOf 3 5 (EH (Φ .BN))
 |.Dc=>fnOf 3 5 (DZ (Φ .BN) (Φ .B3))
 |.DO=>fnOf 2 6 (Jf (Φ .BE) (Φ .Ds))
 |.BE=>fnOf 3 3 (FF (Φ .BD))
 |.ED=>fnOf 3 4 (Ht (Φ .Dx))
 |.Dx=>fnOf 4 9 (Ey (Φ .Cg))
 |.Cg=>fnOf 3 6 (ER (Φ .BN))
 |.BB=>fnOf 1 1 (Ho)
 |.FS=>fnOf 3 3 (E9 (Φ .DU))
 |.DU=>fnOf 2 2 (Cs)
 |.Dl=>fnOf 2 2 (Ej)
 |.Dv=>fnOf 2 3 (Gq)
 |.Cq=>fnOf 2 6 (C9 (Φ .Cq))
 |.Cr=>fnOf 2 10 (E8 (Φ .Cr))
 |.Cc=>fnOf 3 12 (Ew (Φ .Cq) (Φ .Dl) (Φ .Dv))
 |.CU=>fnOf 2 2 (Gs)
 |.Cy=>fnOf 2 5 (EQ (Φ .CU))
 |.AE=>fnOf 1 4 (DA (Φ .AM) (Φ .AB))
 |.CS=>fnOf 4 13 (FD (Φ .AE) (Φ .AM) (Φ .A7) (Φ .Cr) (Φ .AQ))
 |.BW=>fnOf 3 8 (Ef (Φ .ED) (Φ .DM) (Φ .DO) (Φ .AC) (Φ .AF) (Φ .CS))
 |.law_=>fnOf 1 11 (Hn (Φ .Fj) (Φ .Dl) (Φ .CS) (Φ .AF) (Φ .EA) (Φ .BW) (Φ .Dp) (Φ .Fm) (Φ .Dn) (Φ .Cy) (Φ .Cc))
 |.AI=>fnOf 3 4 (Fz (Φ .Cd))
 |.AS=>fnOf 1 1 (DJ)
 |.AX=>fnOf 3 4 (E5 (Φ .Dx))
 |.Az=>fnOf 2 2 (CA)
 |.AZ=>fnOf 3 3 (Go (Φ .BB) (Φ .AI))
 |.Bj=>fnOf 3 3 (Gp (Φ .A8))
 |.Ba=>fnOf 2 2 (FU (Φ .AY))
 |.A8=>fnOf 3 5 (FB (Φ .BE) (Φ .BO) (Φ .Cu))
 |.AY=>fnOf 2 2 (E6 (Φ .BB) (Φ .AX))
 |.AV=>fnOf 1 1 (CP (Φ .BB) (Φ .Az))
 |.AT=>fnOf 1 1 (CO)
 |.AU=>fnOf 2 2 (Ia (Φ .Ha))
 |.AD=>fnOf 1 1 (Cl (Φ .CG))
 |.AQ=>fnOf 2 2 (Eh (Φ .AZ))
 |.AA=>fnOf 2 2 (BU)
 |.AM=>fnOf 2 2 (EV (Φ .FS) (Φ .Aw) (Φ .Av))
 |.Av=>fnOf 4 5 (Eu (Φ .AA) (Φ .Bj))
 |.Aw=>fnOf 3 5 (Ev (Φ .BB) (Φ .AA) (Φ .Ba) (Φ .Bc))
 |.A7=>fnOf 1 3 (FA (Φ .BB) (Φ .AA) (Φ .AT))
 |.AC=>fnOf 1 3 (DX (Φ .AB) (Φ .AV) (Φ .AD))
 |.AF=>fnOf 1 1 (Ei (Φ .AS))
 |.AB=>fnOf 1 1 (BX)
def run:Nat->Fx->Fn
 |0=>λ_ _ _=>none
 |n+1=>body (run n)
structure Md(K:mh)(mg:Str->Option mj)(A:Fx->mm)(fd:Fx->mx):Prop where
 fn:∀x,Fun K (nm x) (ql x) (st x) (A x) (fd x)
 mgs:∀x,me x=false->mg (nm x)=some (.ref (A x))
 bd:∀x,Binds K (fd x) (ps x) []
 cm:CM K
 Lh:∃C,PySem.W.nsIn K mainGlobals "Parley" = some (some (.ref C))/\mg "Parley" = some (.ref C)/\Mk K C (A .AQ)/\Meth K C "of_side" (A .AA)/\Meth K C "do" (A .AM)/\Meth K C "do_saying" (A .Av)/\Meth K C "do_taking" (A .Aw)/\Meth K C "may" (A .A7)/\Meth K C "is_over" (A .AC)/\Meth K C "states" (A .AF)/\Meth K C "lying" (A .AB)
 T8:∃C,PySem.W.nsIn K mainGlobals "Side" = some (some (.ref C))/\mg "Side" = some (.ref C)/\Mk K C (A .AZ)/\Meth K C "say" (A .Bj)/\Meth K C "take" (A .Ba)/\Meth K C "speak" (A .A8)/\Meth K C "listen" (A .AY)/\Meth K C "waiting" (A .AV)/\Meth K C "may_say" (A .AT)/\Meth K C "shape_to_say" (A .AU)/\Meth K C "has_ended" (A .AD)/\Meth K C "state" (A .AS)/\Meth K C "hear" (A .AX)/\Meth K C "unread_of" (A .Az)
 oF:∃C,mg "Hearer" = some (.ref C)/\ByCls K C "__init__" (A .AI)
 mX:mg "any" = none
 mG:mg "bool" = none
 mH:mg "dict" = none
 mK:mg "int" = none
 lG:mg "isinstance" = none
 mY:mg "len" = none
 m5:mg "list" = none
 mV:mg "min" = none
 n6:mg "ord" = none
 lL:mg "range" = none
 lQ:mg "sorted" = none
 mW:mg "str" = none
 mZ:mg "sum" = none
 lW:mg "tuple" = none
 l9:∃tk,mg "FIRST_SIGN" = some (.int 32 tk)
 lF:∃tk,mg "LAST_SIGN" = some (.int 126 tk)
 l8:∃tk,mg "PERCENT_SIGN" = some (.int 37 tk)
 lK:∃a,mg "SIDES" = some (.ref a)/\Sj K a ["left", "right"]
 lJ:∃tk,mg "SIGNS" = some (.str " !\"#$ &'()*+,-./0123456789:;<=>?@ABCDEFGHIJKLMNOPQRSTUVWXYZ[\\]^_`abcdefghijklmnopqrstuvwxyz{|}~" tk)
 xm:∃(P:mm) (ca:Str->mm),XM K mg P ca/\True/\∀n∈(["Short"]:List Str),XN0 K (ca n)
noncomputable abbrev kd:Fx->Kd
 |.Ha=>.pl
 |.Do=>.pl
 |.Bc=>.pl
 |.Fy=>.pl
 |.Dm=>.pl
 |.DV=>.pl
 |.DS=>.pl
 |.DT=>.pl
 |.C7=>.pl
 |.Ch=>.pl
 |.Ds=>.pl
 |.BO=>.pl
 |.Cu=>.pl
 |.B7=>.pl
 |.BZ=>.pl
 |.CG=>.pl
 |.DM=>.pl
 |.Cd=>.pl
 |.Dn=>.pl
 |.BP=>.pl
 |.Bw=>.pl
 |.Bb=>.pl
 |.Bs=>.pl
 |.Fm=>.fr
 |.BK=>.pl
 |.Dp=>.pl
 |.CD=>.pl
 |.EA=>.pl
 |.Fj=>.pl
 |.DN=>.pl
 |.BD=>.fr
 |.B9=>.pl
 |.Ce=>.fr
 |.DW=>.pl
 |.BN=>.ex
 |.Du=>.ex
 |.B3=>.ex
 |.Dd=>.ex
 |.D6=>.ex
 |.EC=>.ex
 |.D4=>.ex
 |.D5=>.ex
 |.Dc=>.ex
 |.DO=>.pl
 |.BE=>.pl
 |.ED=>.pl
 |.Dx=>.pl
 |.Cg=>.pl
 |.BB=>.pl
 |.FS=>.pl
 |.DU=>.pl
 |.Dl=>.pl
 |.Dv=>.pl
 |.Cq=>.pl
 |.Cr=>.pl
 |.Cc=>.pl
 |.CU=>.pl
 |.Cy=>.pl
 |.AE=>.pl
 |.CS=>.pl
 |.BW=>.pl
 |.law_=>.pl
 |.AI=>.pl
 |.AS=>.pl
 |.AX=>.pl
 |.Az=>.pl
 |.AZ=>.pl
 |.Bj=>.pl
 |.Ba=>.pl
 |.A8=>.pl
 |.AY=>.pl
 |.AV=>.pl
 |.AT=>.pl
 |.AU=>.pl
 |.AD=>.pl
 |.AQ=>.pl
 |.AA=>.pl
 |.AM=>.pl
 |.Av=>.pl
 |.Aw=>.pl
 |.A7=>.pl
 |.AC=>.pl
 |.AF=>.pl
 |.AB=>.pl
section
variable{P:mq}{w:mw}{K:mh}{mg:Str->Option mj}{base:Heap}{A:Fx->mm}{fd:Fx->mx}{n:Nat}
theorem P5{a:Kd}(k:Kd){P:mq}{w:mw}{K:mh}{mg:Str->Option mj}{base:Heap}{n:Nat}{fa:mm}{fd:mx}{ps:List Str}{f:Fn}(h:okK a P w K mg base n fa fd ps f)(e:a=k):okK k P w K mg base n fa fd ps f:=e ▸ h
section
variable{X:Cx}{A:Fx->mm}{fd:Fx->mx}{n k:Nat}{x:Fx}{s:Str}{e:Expr}{es:List Expr}{f:M (List D)}{p pos:Pos}{E:L2.St->XK}
theorem cP(M:Md X.K X.mg A fd)(ih:∀x,okK (kd x) X.prog X.w X.K X.mg X.base k (A x) (fd x) (ps x) (run n x))(hr:Room k X.A)(ha:PA X (e::es) (RA X.K f))(hk:kd x=.pl)(hm:me x=false)(hs:nm x=s)(hg:Gl X s)(h1:Bm e=false)(h2:Bo es=true)(hd:(s==("__debug__":Str))=false):PE X (.Call (.Name s p) (e::es) [] pos) (RE X.K (Af (run n x) f)):=by subst hs;exact WJ (P5 .pl (ih x) hk) hr hg (M.mgs x hm) (Fun.kp (M.fn x)) (M.bd x) ha hd h1 h2
theorem fF(M:Md X.K X.mg A fd)(ih:∀x,okK (kd x) X.prog X.w X.K X.mg X.base k (A x) (fd x) (ps x) (run n x))(hr:Room k X.A)(ha:PA X (e::es) (RA X.K f))(hk:kd x=.fr)(hm:me x=false)(hs:nm x=s)(hg:Gl X s)(h1:Bm e=false)(h2:Bo es=true)(hd:(s==("__debug__":Str))=false):PE X (.Call (.Name s p) (e::es) [] pos) (RF X.K (Eb (run n x) f)):=by subst hs;exact WQ (P5 .fr (ih x) hk) hr hg (M.mgs x hm) (Fun.kp (M.fn x)) (M.bd x) ha hd h1 h2
theorem xex(M:Md X.K X.mg A fd)(ih:∀x,okK (kd x) X.prog X.w X.K X.mg X.base k (A x) (fd x) (ps x) (run n x))(hr:Room k X.A)(hp:Ff (CX1 true X.prog X.w) X E)(ha:PA X (e::es) (RA X.K f))(hk:kd x=.ex)(hm:me x=false)(hs:nm x=s)(hg:Gl X s)(h1:Bm e=false)(h2:Bo es=true)(hd:(s==("__debug__":Str))=false):PE X (.Call (.Name s p) (e::es) [] pos) (RX X.K E (Af (run n x) f)):=by subst hs;exact ZN (P5 .ex (ih x) hk) hr hg (M.mgs x hm) (Fun.kp (M.fn x)) (M.bd x) hp ha hd h1 h2
end
theorem sc_f_law_all_taken:FnScope (ns .AE) (ps .AE) (AN (st .AE)):=⟨rfl,rfl,rfl,by decide +kernel,rfl,by decide +kernel,by decide +kernel⟩
theorem J8(M:Md K mg A fd)(ih0:∀x,okK (kd x) P w K mg base (2*n+2) (A x) (fd x) (ps x) (run n x)):okK .pl P w K mg base (2*n+2+1+1) (A .AE) (fd .AE) (ps .AE) (run (n+1) .AE):=by
 have ih:=λx=>Ve (ih0 x);clear 5 M.Lh Parley_ l6 oH nY nX p0 nE nD p6 nW oC nS;have oU:MAt K "Parley" "do" Parley_ (A .AM):=⟨by decide,l6,p0,by decide⟩;have nN:MAt K "Parley" "lying" Parley_ (A .AB):=⟨by decide,l6,nS,by decide⟩;refine VF (g:=fnOf 1 4 (DA (run n .AM) (run n .AB))) rfl (Ux rfl rfl (M.fn .AE) sc_f_law_all_taken (λcdv A' outer s H E hr=>?_));refine @FR _ _ _ _ ?_;refine @Ph _ _ _ _ _ _ _ _ _ PySem.PassesOwn.never rfl ?_ ?_ ?_ (by intro _;rfl);refine @Uu _ _ _ _ ?_;refine @Ra _ _ _ ?_;refine @Us _ _ _ _ ?_;refine @C6 _ _ _ _ _ ?_ ?_ rfl;refine @JU _ _ _ _ _ ?_;refine @C6 _ _ _ _ _ Me ?_ rfl;exact(@C6 _ _ _ _ _ Mc Iv rfl);refine @C6 _ _ _ _ _ ?_ Iv rfl;refine @JU _ _ _ _ _ ?_;refine @C6 _ _ _ _ _ Me ?_ rfl;exact(@C6 _ _ _ _ _ Mc Iv rfl);refine YA rfl ?_;refine Ln ?_ ?_;exact(BC sc_f_law_all_taken.nd rfl (.inl rfl));refine Ln ?_ Rb;exact(BC sc_f_law_all_taken.nd rfl (.inl rfl));refine @Pj _ _ _ _ _ _ ?_ ?_;refine @Pi _ _ _ _ 3 _ _ _ sc_f_law_all_taken.nd rfl (.inl rfl) ?_ (by rfl) (by first|exact .inl rfl|exact .inr rfl|assumption);refine @Ov _ _ _ _ _ _ _ _ UQ VL ?_ ?_ (λ_ _=>rfl);refine DR M.cm nN (ih .AB) hr (M.bd .AB) ?_;exact(Hc 0);exact(Hc 2);refine @FR _ _ _ _ ?_;refine @YC _ _ _ _ _ _ _ _ _ ?_ ?_ Rm;refine @Es _ _ _ _ _ _ _ _ _ Vg R4 ?_ Mc (Ed _);exact(Hc 3);refine @FR _ _ _ _ ?_;refine Ni ?_;refine DI M.cm oU (ih .AM) hr (M.bd .AM) ?_ ?_;exact(Hc 0);refine @C6 _ _ _ _ _ ?_ Iv rfl;refine @JU _ _ _ _ _ ?_;refine @C6 _ _ _ _ _ Me ?_ rfl;refine @C6 _ _ _ _ _ ?_ ?_ rfl;exact(Hc 1);refine @C6 _ _ _ _ _ ?_ Iv rfl;exact(Hc 3)
seal PE PA PSs PS PG PT PI PGs PW PIf PPf PO PH bY Br Gj Sq Kr Ss Su
theorem sc(x:Fx):FnScope (ns x) (ps x) (AN (st x)):=by
 cases x<;>exact⟨rfl,rfl,rfl,by decide +kernel,rfl,by decide +kernel,by decide +kernel⟩
local macro_rules | `(tactic| clear 30 $t)=>`(tactic| with_reducible refine(?_ : $t))
seal IL
theorem step(M:Md K mg A fd)(ih0:∀x,okK (kd x) P w K mg base (2*n+2) (A x) (fd x) (ps x) (run n x))(y:Fx):okK (kd y) P w K mg base (2*n+2+1+1) (A y) (fd y) (ps y) (run (n+1) y):=by
 have ih:=λx=>Ve (ih0 x);obtain⟨_,l9⟩:=M.l9;obtain⟨_,lF⟩:=M.lF;obtain⟨_,l8⟩:=M.l8;clear 5 M.xm P' ca x xt x0;obtain⟨_,lJ⟩:=M.lJ;obtain⟨_,lK,kt_SIDES⟩:=M.lK;clear 5 M.Lh Parley_ l6 oH nY nX p0 nE nD p6 nW oC nS;have oU:MAt K "Parley" "do" Parley_ (A .AM):=⟨by decide,l6,p0,by decide⟩;have nN:MAt K "Parley" "lying" Parley_ (A .AB):=⟨by decide,l6,nS,by decide⟩;have p9:MAt K "Parley" "may" Parley_ (A .A7):=⟨by decide,l6,p6,by decide⟩;have oR:MAt K "Parley" "is_over" Parley_ (A .AC):=⟨by decide,l6,nW,by decide⟩;have oX:MAt K "Parley" "states" Parley_ (A .AF):=⟨by decide,l6,oC,by decide⟩;clear 5 M.oF Hearer_b oZ oY;clear 5 M.T8 Side_ l7 p8 p7 oQ oO oE o6 nQ nU oW nL oA oP nH;have o5:MAt K "Side" "speak" Side_ (A .A8):=⟨by decide,l7,oE,by decide⟩;have nR:MAt K "Side" "listen" Side_ (A .AY):=⟨by decide,l7,o6,by decide⟩;have oM:MAt K "Side" "hear" Side_ (A .AX):=⟨by decide,l7,oP,by decide⟩;have nC:MAt K "Side" "unread_of" Side_ (A .Az):=⟨by decide,l7,nH,by decide⟩;have oJ:MAt K "Parley" "do_saying" Parley_ (A .Av):=⟨by decide,l6,nE,by decide⟩;have o7:MAt K "Parley" "do_taking" Parley_ (A .Aw):=⟨by decide,l6,nD,by decide⟩;have oV:MAt K "Parley" "of_side" Parley_ (A .AA):=⟨by decide,l6,nX,by decide⟩;have oN:MAt K "Side" "say" Side_ (A .Bj):=⟨by decide,l7,oQ,by decide⟩;have oK:MAt K "Side" "take" Side_ (A .Ba):=⟨by decide,l7,oO,by decide⟩;have nO:MAt K "Side" "may_say" Side_ (A .AT):=⟨by decide,l7,nU,by decide⟩;have n8:MAt K "Side" "has_ended" Side_ (A .AD):=⟨by decide,l7,nL,by decide⟩;have nP:MAt K "Side" "waiting" Side_ (A .AV):=⟨by decide,l7,nQ,by decide⟩;have nZ:MAt K "Side" "state" Side_ (A .AS):=⟨by decide,l7,oA,by decide⟩;have sy:=sc y;have nd:=sy.nd;have mf:=M.fn y
 cases y<;>first|(clear 30 (okK _ _ _ _ _ _ _ (A .AE) ..);exact J8 M ih0)|(clear 30 (okK .pl ..);refine VF (g:=fnOf _ _ _) rfl (Ux rfl rfl mf sy (λcdv A' outer s H E hr=>?_)))|(clear 30 (okK .ex ..);refine aR (g:=fnOf _ _ _) rfl (ZF rfl rfl mf sy (λcdv A' outer s H E hr hp hq ho=>?_)))|(clear 30 (okK .fr ..);refine aQ (g:=fnOf _ _ _) rfl (ZE rfl rfl mf sy (λcdv A' outer s H E hr=>?_)))
 all_goals repeat' first
  | (clear 30 (PE ..);first
    | (clear 30 (PE _ (.Name ..) ..);first
      |(clear 30 (PE _ _ (RE _ (Aa _)));exact(Hc _))
      |(clear 30 (PE _ (.Name _ _) (RE _ (fC (.ty _))));exact(Mf rfl M.mW cz))
      |(clear 30 (PE _ (.Name _ _) (RE _ (fC (.ty _))));exact(Mf rfl M.lW Wv))
      |(clear 30 (PE _ _ (RE _ (fC (.gts _))));exact(cQ rfl lK kt_SIDES))
      |(clear 30 (PE _ (.Name _ _) (RE _ (fC (.int _))));exact(Ng rfl l9))
      |(clear 30 (PE _ (.Name _ _) (RE _ (fC (.ty _))));exact(Mf rfl M.mK T6))
      |(clear 30 (PE _ (.Name _ _) (RE _ (fC (.ty _))));exact(Mf rfl M.mG Zm))
      |(clear 30 (PE _ (.Name _ _) (RE _ (fC (.int _))));exact(Ng rfl lF))
      |(clear 30 (PE _ (.Name _ _) (RE _ (fC (.int _))));exact(Ng rfl l8))
      |(clear 30 (PE _ (.Name _ _) (RE _ (fC (.ty _))));exact(Mf rfl M.m5 QW))
      |(clear 30 (PE _ _ (RE _ (fC (.str _))));exact(WN rfl lJ)))
    | (clear 30 (PE _ (.Constant ..) ..);first
      |(clear 30 (PE _ _ (RE _ (fC (.int _))));exact Mc)
      |(clear 30 (PE _ _ (RE _ (fC (.str _))));exact Me)
      |(clear 30 (PE _ _ (RE _ (fC (.bl _))));exact gm)
      |(clear 30 (PE _ _ (RE _ (fC .non)));exact cR))
    | (clear 30 (PE _ (.Subscript ..) ..);first
      |(clear 30 (PE _ _ (RE _ (Ac _ _ ixD)));refine Ov UQ VL ?_ ?_ (λ_ _=>rfl))
      |(clear 30 (PE _ _ (RE _ (Ac _ _ B0)));refine Ov dh VI ?_ ?_ (λ_ _=>rfl))
      |(clear 30 (PE _ _ (RE _ (fSl _ _ _ Fd)));refine Pb sl3 R6 ?_ ?_ ?_)
      |(clear 30 (PE _ _ (RE _ (G9 _ _)));refine WP 2 ?_ (λ_ _=>rfl))
      |(clear 30 (PE _ _ (RE _ (Ac _ _ HI)));refine Ov dg VH ?_ ?_ (λ_ _=>rfl))
      |(clear 30 (PE _ _ (RE _ (fSl _ _ _ NE)));refine Pb sl3 XX ?_ ?_ ?_)
      |(clear 30 (PE _ _ (RF _ (SI _ _ _)));refine WR ?_ ?_ ?_))
    | (clear 30 (PE _ (.Call ..) ..);first
      |(clear 30 (PE _ _ (RE _ (Af (run _ _) _)));refine @cP _ _ _ _ _ _ _ _ _ _ _ _ M ih hr ?_ (by rfl) (by rfl) (by rfl) (by rfl) (by rfl) (by rfl) (by decide))
      |(clear 30 (PE _ _ (RE _ (fB _ A0)));refine Kz Wy bb rfl M.mY ck ?_)
      |(clear 30 (PE _ _ (RX _ _ (Af (run _ _) _)));refine @xex _ _ _ _ _ _ _ _ _ _ _ _ _ M ih hr hp ?_ (by rfl) (by rfl) (by rfl) (by rfl) (by rfl) (by rfl) (by decide))
      |(clear 30 (PE _ _ (RF _ (fBF _ CK)));refine gy OZ bf rfl M.m5 QW ?_)
      |(clear 30 (PE _ _ (RE _ (fB _ Dw)));refine Kz Wx ba rfl M.lG Oh ?_)
      |(clear 30 (PE _ _ (RF _ (Eb (run _ _) _)));refine @fF _ _ _ _ _ _ _ _ _ _ _ _ M ih hr ?_ (by rfl) (by rfl) (by rfl) (by rfl) (by rfl) (by rfl) (by decide))
      |(clear 30 (PE _ _ (RE _ (fB _ Ki)));refine Kz (Ue rfl) XY rfl M.mZ cA ?_)
      |(clear 30 (PE _ _ (RE _ (objM E1 _ _)));refine Uq ?_ ?_)
      |(clear 30 (PE _ _ (RE _ (AG _ (run _ .AA) _ _)));refine DI M.cm oV (ih .AA) hr (M.bd .AA) ?_ ?_)
      |(clear 30 (PE _ _ (RE _ (fB _ Lx)));refine Kz Wz bn rfl M.n6 cy ?_)
      |(clear 30 (PE _ _ (RE _ (AG _ (run _ .AB) _ (ret []))));refine DR M.cm nN (ih .AB) hr (M.bd .AB) ?_)
      |(clear 30 (PE _ _ (RE _ (AG _ (run _ .AM) _ _)));refine DI M.cm oU (ih .AM) hr (M.bd .AM) ?_ ?_)
      |(clear 30 (PE _ _ (RE _ (AG _ (run _ .AF) _ (ret []))));refine DR M.cm oX (ih .AF) hr (M.bd .AF) ?_)
      |(clear 30 (PE _ (.Call (.Name _ _) (_::_) [] _) (RE _ (IU _ _ _)));refine Q9 (by decide) l7 p7 (ih0 .AZ) hr rfl p8 (M.bd .AZ) ?_)
      |(clear 30 (PE _ _ (RE _ (AG _ (run _ .AD) _ (ret []))));refine DR M.cm n8 (ih .AD) hr (M.bd .AD) ?_)
      |(clear 30 (PE _ _ (RE _ (AG _ (run _ .AV) _ (ret []))));refine DR M.cm nP (ih .AV) hr (M.bd .AV) ?_)
      |(clear 30 (PE _ _ (RE _ (AG _ (run _ .AS) _ (ret []))));refine DR M.cm nZ (ih .AS) hr (M.bd .AS) ?_)
      |(clear 30 (PE _ _ (RE _ (fB _ MV)));refine Kz (Ub rfl) XT rfl M.mX cj ?_)
      |(clear 30 (PE _ _ (RE _ (fUn _ LU)));refine Uo ?_)
      |(clear 30 (PE _ _ (RE _ (fB _ Kv)));refine WL rfl M.mH ?_)
      |(clear 30 (PE _ _ (RE _ (fB _ Nj)));refine gk Uc a9 rfl M.mK T6 ?_)
      |(clear 30 (PE _ (.Call (.Name _ _) (_::_) [] _) (RE _ (IU _ _ _)));refine Q9 (by decide) l6 nY (ih0 .AQ) hr rfl oH (M.bd .AQ) ?_)
      |(clear 30 (PE _ _ (RE _ (AG _ (run _ .A7) _ (ret []))));refine DR M.cm p9 (ih .A7) hr (M.bd .A7) ?_)
      |(clear 30 (PE _ _ (RE _ (AG _ (run _ .AC) _ (ret []))));refine DR M.cm oR (ih .AC) hr (M.bd .AC) ?_)
      |(clear 30 (PE _ _ (RE _ (fB _ Lu)));refine Kz (Ud rfl) bg rfl M.mV cq ?_)
      |(clear 30 (PE _ _ (RF _ (fBF _ ID)));refine gu (SD rfl) VM rfl M.lQ T7 ?_)
      |(clear 30 (PE _ _ (RE _ (Af _ _)));refine WI (ih .AI) hr rfl oZ oY (M.bd .AI) ?_)
      |(clear 30 (PE _ _ (RE _ (AG _ (run _ .A8) _ _)));refine DI M.cm o5 (ih .A8) hr (M.bd .A8) ?_ ?_)
      |(clear 30 (PE _ _ (RE _ (AG _ (run _ .AY) _ _)));refine DI M.cm nR (ih .AY) hr (M.bd .AY) ?_ ?_)
      |(clear 30 (PE _ _ (RE _ (AG _ (run _ .AX) _ _)));refine DI M.cm oM (ih .AX) hr (M.bd .AX) ?_ ?_)
      |(clear 30 (PE _ _ (RE _ (AG _ (run _ .Az) _ _)));refine DI M.cm nC (ih .Az) hr (M.bd .Az) ?_ ?_)
      |(clear 30 (PE _ _ (RE _ (AG _ (run _ .Av) _ _)));refine DI M.cm oJ (ih .Av) hr (M.bd .Av) ?_ ?_)
      |(clear 30 (PE _ _ (RE _ (AG _ (run _ .Aw) _ _)));refine DI M.cm o7 (ih .Aw) hr (M.bd .Aw) ?_ ?_)
      |(clear 30 (PE _ _ (RE _ (AG _ (run _ .Bj) _ _)));refine DI M.cm oN (ih .Bj) hr (M.bd .Bj) ?_ ?_)
      |(clear 30 (PE _ _ (RE _ (AG _ (run _ .Ba) _ _)));refine DI M.cm oK (ih .Ba) hr (M.bd .Ba) ?_ ?_)
      |(clear 30 (PE _ _ (RE _ (AG _ (run _ .AT) _ (ret []))));refine DR M.cm nO (ih .AT) hr (M.bd .AT) ?_))
    | (clear 30 (PE _ (.Tuple ..) ..);first
      |(clear 30 (PE _ (.Tuple _ _ _) (RE _ (AJ _)));refine @JU _ _ _ _ _ ?_)
      |(clear 30 (PE _ (.Tuple _ _ _) (RE _ (AJ _)));refine JU ?_))
    | (clear 30 (PE _ (.List ..) ..);first
      |refine @Us _ _ _ _ ?_)
    | (clear 30 (PE _ (.BinOp ..) ..);first
      |(clear 30 (PE _ _ (RE _ (Ac _ _ AL)));refine KA RJ Qq ?_ ?_)
      |(clear 30 (PE _ _ (RE _ (Ac _ _ B1)));refine KA dX bh ?_ ?_)
      |(clear 30 (PE _ _ (RE _ (Ac _ _ Di)));refine KA d4 bp ?_ ?_)
      |(clear 30 (PE _ _ (RE _ (Ac _ _ B6)));refine KA af XV ?_ ?_)
      |(clear 30 (PE _ _ (RE _ (Ac _ _ CB)));refine KA ag XW ?_ ?_)
      |(clear 30 (PE _ _ (RF _ _));refine gz Vf XU ?_ ?_)
      |(clear 30 (PE _ _ (RX _ _ (Kw _ _ AL)));refine gG RJ Qq ?_ ?_)
      |(clear 30 (PE _ _ (RE _ (Ac _ _ Qs)));refine KA dZ bo ?_ ?_))
    | (clear 30 (PE _ (.Attribute ..) ..);first
      |refine cO M.cm (by decide) ?_ rfl)
    | (clear 30 (PE _ (.BoolOp ..) ..);first
      |(clear 30 (PE _ _ (RE _ (Eg _ _)));refine cM ?_ ?_)
      |(clear 30 (PE _ _ (RE _ _));refine cU ?_)
      |(clear 30 (PE _ _ (RE _ (Nf _ _)));refine gn ?_ ?_))
    | (clear 30 (PE _ (.Compare ..) ..);first
      |(clear 30 (PE _ (.Compare _ [.Eq] [_] _) (RE _ (Ac _ _ (eqS _))));refine JT (P6 hr.units) (KQ (g:=id)) ?_ ?_ (Ed _))
      |(clear 30 (PE _ _ (RE _ (Ep _ _ _ _ _)));refine WK P7 P7 NB NB ?_ ?_ ?_)
      |(clear 30 (PE _ _ (RE _ (Ac _ _ isC)));refine JT Vi VJ ?_ ?_ (Ed _))
      |(clear 30 (PE _ (.Compare _ [.NotEq] [_] _) (RE _ (Ac _ _ (eqS _))));refine JT (P8 hr.units) (KQ (g:=λb=>!b)) ?_ ?_ (Ed _))
      |(clear 30 (PE _ _ (RE _ (Ac _ _ (inD _))));refine JT Vh fh ?_ ?_ (by with_unfolding_all rfl))
      |(clear 30 (PE _ _ (RE _ (Ac _ _ (eqT _))));refine JT (P6 hr.units) (R0 (g:=id)) ?_ ?_ (Ed _)))
    | (clear 30 (PE _ (.UnaryOp ..) ..);first
      |(clear 30 (PE _ _ (RE _ (fUn _ Ij)));refine gq fK bj ?_)
      |(clear 30 (PE _ _ (RE _ (Ky _)));refine cS ?_))
    | (clear 30 (PE _ (.IfExp ..) ..);first
      |refine WO ?_ ?_ ?_)
    | (clear 30 (PE _ (.Dict ..) ..);first
      |(clear 30 (PE _ _ (RE _ (GG _)));refine Zz ?_)
      |(clear 30 (PE _ _ (RE _ (DH [])));exact Up)
      |(clear 30 (PE _ _ (RE _ (DH _)));refine WM ?_))
    | (clear 30 (PE _ (.ListComp ..) ..);first
      |(clear 30 (PE _ (.ListComp _ [⟨(.Name ("state":Str) _),_,_,0⟩] _ _) (RF _ (A5 _ [] _ _ _ _)));refine CF (C4 ["state"] [] rfl rfl rfl rfl rfl) rfl ?_ (λ_ _ _ _ _=>?_) (λ_ _ _ _ _=>?_) (λ_ _ _ _ _=>?_))
      |(clear 30 (PE _ (.ListComp _ [⟨(.Name ("state":Str) _),_,_,0⟩] _ _) (RF _ (A5 _ [1] _ _ _ _)));refine CF (C4 ["state"] [(1, "row")] rfl rfl rfl rfl rfl) rfl ?_ (λ_ _ _ _ _=>?_) (λ_ _ _ _ _=>?_) (λ_ _ _ _ _=>?_))
      |(clear 30 (PE _ (.ListComp _ [⟨(.Name ("word":Str) _),_,_,0⟩] _ _) (RF _ (A5 _ [1] _ _ _ _)));refine CF (C4 ["word"] [(1, "row")] rfl rfl rfl rfl rfl) rfl ?_ (λ_ _ _ _ _=>?_) (λ_ _ _ _ _=>?_) (λ_ _ _ _ _=>?_))
      |(clear 30 (PE _ (.ListComp _ [⟨(.Name ("state":Str) _),_,_,0⟩] _ _) (RF _ (A5 _ [1] _ _ _ _)));refine CF (C4 ["state"] [(1, "ends")] rfl rfl rfl rfl rfl) rfl ?_ (λ_ _ _ _ _=>?_) (λ_ _ _ _ _=>?_) (λ_ _ _ _ _=>?_))
      |(clear 30 (PE _ (.ListComp _ [⟨(.Name ("number":Str) _),_,_,0⟩] _ _) (RF _ (A5 _ [1] _ _ _ _)));refine CF (C4 ["number"] [(1, "ends")] rfl rfl rfl rfl rfl) rfl ?_ (λ_ _ _ _ _=>?_) (λ_ _ _ _ _=>?_) (λ_ _ _ _ _=>?_))
      |(clear 30 (PE _ (.ListComp _ [⟨(.Name ("word":Str) _),_,_,0⟩] _ _) (RF _ (A5 _ [1] _ _ _ _)));refine CF (C4 ["word"] [(1, "ends")] rfl rfl rfl rfl rfl) rfl ?_ (λ_ _ _ _ _=>?_) (λ_ _ _ _ _=>?_) (λ_ _ _ _ _=>?_))
      |(clear 30 (PE _ (.ListComp _ [⟨(.Name ("sign":Str) _),_,_,0⟩] _ _) (RF _ (A5 _ [] _ _ _ _)));refine CF (C4 ["sign"] [] rfl rfl rfl rfl rfl) rfl ?_ (λ_ _ _ _ _=>?_) (λ_ _ _ _ _=>?_) (λ_ _ _ _ _=>?_))
      |(clear 30 (PE _ _ (RF _ (A5 _ [0,1] _ _ _ _)));refine CF (C4 ["k"] [(0, "number"),(1, "width")] rfl rfl rfl rfl rfl) rfl ?_ (λ_ _ _ _ _=>?_) (λ_ _ _ _ _=>?_) (λ_ _ _ _ _=>?_))
      |(clear 30 (PE _ (.ListComp _ [⟨(.Name ("word":Str) _),_,_,0⟩] _ _) (RF _ (A5 _ [] _ _ _ _)));refine CF (C4 ["word"] [] rfl rfl rfl rfl rfl) rfl ?_ (λ_ _ _ _ _=>?_) (λ_ _ _ _ _=>?_) (λ_ _ _ _ _=>?_))
      |(clear 30 (PE _ _ (RF _ (A5 _ [4,0] _ _ _ _)));refine CF (C4 ["here"] [(4, "last"),(0, "grammar")] rfl rfl rfl rfl rfl) rfl ?_ (λ_ _ _ _ _=>?_) (λ_ _ _ _ _=>?_) (λ_ _ _ _ _=>?_))
      |(clear 30 (PE _ (.ListComp _ [⟨(.Name ("then":Str) _),_,_,0⟩] _ _) (RF _ (A5 _ [1] _ _ _ _)));refine CF (C4 ["then"] [(1, "last")] rfl rfl rfl rfl rfl) rfl ?_ (λ_ _ _ _ _=>?_) (λ_ _ _ _ _=>?_) (λ_ _ _ _ _=>?_))
      |(clear 30 (PE _ _ (RF _ (A5 _ [8] _ _ _ _)));refine CF (C4 ["word"] [(8, "name")] rfl rfl rfl rfl rfl) rfl ?_ (λ_ _ _ _ _=>?_) (λ_ _ _ _ _=>?_) (λ_ _ _ _ _=>?_))
      |(clear 30 (PE _ _ (RF _ (A5 _ [2] _ _ _ _)));refine CF (WA "here" ["here"] [(2, "counts")] rfl (λ_ _=>rfl) rfl rfl rfl rfl rfl) rfl ?_ (λ_ _ _ _ _=>?_) (λ_ _ _ _ _=>?_) (λ_ _ _ _ _=>?_))
      |(clear 30 (PE _ _ (RF _ (A5 _ [0] _ _ _ _)));refine CF (C4 ["row"] [(0, "here")] rfl rfl rfl rfl rfl) rfl ?_ (λ_ _ _ _ _=>?_) (λ_ _ _ _ _=>?_) (λ_ _ _ _ _=>?_)))
    |(clear 30 (PE _ _ (RE _ (Au _)));refine Ra ?_)
    |(clear 30 (PE _ _ (RE _ (Gn _)));refine cT ?_))
  | (clear 30 (PA ..);first
    |refine @C6 _ _ _ _ _ ?_ ?_ rfl
    |exact Iv)
  | (clear 30 (PSs ..);first
    |refine @Pj _ _ _ _ _ _ ?_ ?_
    |refine @FR _ _ _ _ ?_
    |exact Rm
    |exact(FR Rf)
    |exact(FR Rg)
    |refine WY ?_
    |exact(FR K0))
  | (clear 30 (PS ..);first
    | (clear 30 (PS _ (.Return ..) ..);first
      |(clear 30 (PS _ _ (RSg _ (μR _) (Al _)));refine UB ?_)
      |(clear 30 (PS _ _ (RSg _ (μX _ _) (Al (nxD _))));refine Ri ?_)
      |(clear 30 (PS _ _ (RSg _ (μF _) (Jm _)));refine Rh ?_)
      |(clear 30 (PS _ _ (RSg _ (μX _ _) (Al _)));refine Oz (Rk ?_))
      |(clear 30 (PS _ _ (RSg _ (μF _) (Hx _)));exact(UC _)))
    | (clear 30 (PS _ (.Assign ..) ..);first
      |(clear 30 (PS _ _ (RSg _ _ (Aq _ (Gn (A5 _ [] _ _ _ _)))));refine fs_objC (C4 ["g"] [] rfl rfl rfl rfl rfl) rfl nd rfl rfl ?_ (λ_ _ _ _ _=>?_) (λ_ _ _ _ _=>?_) (λ_ _ _ _ _=>?_))
      |(clear 30 (PS _ (.Assign [.Name _ _] _ _) (RSg _ _ (Aq _ _)));refine Pi nd rfl (.inl rfl) ?_)
      |(clear 30 (PS _ _ (RSg _ _ (Dh _ _)));refine cX ?_ ?_)
      |(clear 30 (PS _ _ (RSg _ _ (D1 _ _)));refine cZ nd rfl (.inl rfl) ?_)
      |(clear 30 (PS _ _ (RSg _ (μX _ _) (ES _ _)));refine Oz (Rl nd rfl (.inl rfl) ?_))
      |(clear 30 (PS _ _ (RSg _ _ (Dq _ _ _)));refine cY M.cm (by decide) ?_ ?_)
      |(clear 30 (PS _ (.Assign [.Name _ _] _ _) (RSg _ _ (Aq _ _)));refine Pi nd rfl (.inr rfl) ?_)
      |(clear 30 (PS _ _ (RSg _ _ (Aq _ (Au (A5 _ [0] _ _ _ _)))));refine ZK (C4 ["side"] [(0, "self")] rfl rfl rfl rfl rfl) rfl nd rfl rfl ?_ (λ_ _ _ _ _=>?_) (λ_ _ _ _ _=>?_) (λ_ _ _ _ _=>?_))
      |(clear 30 (PS _ _ (RSX _ _ (ES _ _)));refine Rl nd rfl (.inl rfl) ?_))
    | (clear 30 (PS _ (.If ..) ..);first
      |refine YC ?_ ?_ ?_)
    | (clear 30 (PS _ (.For ..) ..);first
      |(clear 30 (PS _ (.For _ _ _ [] _) (RSg _ _ (Bx (fEnum _) _ _)));refine fs_for2 PySem.PassesOwn.never rfl ?_ ?_ ?_)
      |(clear 30 (PS _ (.For _ _ _ [] _) (RSg _ _ (Bx _ _ _)));refine Ph PySem.PassesOwn.never rfl ?_ ?_ ?_)
      |(clear 30 (PS _ (.For _ _ _ [] _) (RSg _ _ (Bx _ _ _)));refine Ph ho rfl ?_ ?_ ?_))
    | (clear 30 (PS _ (.Expr ..) ..);first
      |(clear 30 (PS _ _ (RSg _ _ (ownM _ Dg _)));refine SQ _ ?_)
      |(clear 30 (PS _ _ (RSg _ _ (DQ _)));refine Ni ?_)
      |(clear 30 (PS _ _ (RSg _ _ (ownM _ E1 _)));refine SR _ ?_))
    |exact Rg
    |exact K0
    |exact Rf
    | (clear 30 (PS _ (.While ..) ..);first
      |refine WX PySem.PassesOwn.never ?_ ?_)
    | (clear 30 (PS _ (.Raise ..) ..);first
      |(clear 30 (PS _ _ (RSg _ (μX _ _) (Kf ("Short":Str) _)));refine Oz (UA (n:="Short") x (by decide) rfl (x0 "Short" (by decide)) rfl hq rfl ?_)))
    | (clear 30 (PS _ (.Break ..) ..);first
      |exact WW)
    | (clear 30 (PS _ (.Try ..) ..);first
      |(clear 30 (PS _ _ (RSg _ (μR _) (HB _ _)));refine c6 (qx:=true) x dH rfl rfl (λpn E hp=>?_) ?_))
    |refine UB ?_
    |refine Rh ?_
    |refine Ri ?_
    |refine Oz (Rk ?_)
    |refine Ni ?_)
  | (clear 30 (PG ..);first
    | (clear 30 (PG _ (.Name ..) ..);first
      |(clear 30 (PG _ (.Name _ _) (RG _ (Ar _)));exact(BC nd rfl (.inl rfl)))
      |(clear 30 (PG _ (.Name _ _) (RG _ (Ar _)));exact(BC (by show List.Nodup [("state":Str)] ;decide +kernel) rfl (.inl rfl)))
      |(clear 30 (PG _ (.Name _ _) (RG _ (Ar _)));exact(BC (by show List.Nodup [("side":Str),("self":Str)] ;decide +kernel) rfl (.inl rfl)))
      |(clear 30 (PG _ (.Name _ _) (RG _ (Ar _)));exact(BC (by show List.Nodup [("state":Str),("row":Str)] ;decide +kernel) rfl (.inl rfl)))
      |(clear 30 (PG _ (.Name _ _) (RG _ (Ar _)));exact(BC (by show List.Nodup [("word":Str),("row":Str)] ;decide +kernel) rfl (.inl rfl)))
      |(clear 30 (PG _ (.Name _ _) (RG _ (Ar _)));exact(BC (by show List.Nodup [("state":Str),("ends":Str)] ;decide +kernel) rfl (.inl rfl)))
      |(clear 30 (PG _ (.Name _ _) (RG _ (Ar _)));exact(BC (by show List.Nodup [("number":Str),("ends":Str)] ;decide +kernel) rfl (.inl rfl)))
      |(clear 30 (PG _ (.Name _ _) (RG _ (Ar _)));exact(BC (by show List.Nodup [("word":Str),("ends":Str)] ;decide +kernel) rfl (.inl rfl)))
      |(clear 30 (PG _ (.Name _ _) (RG _ (Ar _)));exact(BC (by show List.Nodup [("sign":Str)] ;decide +kernel) rfl (.inl rfl)))
      |(clear 30 (PG _ (.Name _ _) (RG _ (Ar _)));exact(BC (by show List.Nodup [("k":Str),("number":Str),("width":Str)] ;decide +kernel) rfl (.inl rfl)))
      |(clear 30 (PG _ (.Name _ _) (RG _ (Ar _)));exact(BC (by show List.Nodup [("word":Str)] ;decide +kernel) rfl (.inl rfl)))
      |(clear 30 (PG _ (.Name _ _) (RG _ (Ar _)));exact(BC (by show List.Nodup [("here":Str),("last":Str),("grammar":Str)] ;decide +kernel) rfl (.inl rfl)))
      |(clear 30 (PG _ (.Name _ _) (RG _ (Ar _)));exact(BC (by show List.Nodup [("then":Str),("last":Str)] ;decide +kernel) rfl (.inl rfl)))
      |(clear 30 (PG _ (.Name _ _) (RG _ (Ar _)));exact(BC nd rfl (.inr rfl)))
      |(clear 30 (PG _ (.Name _ _) (RG _ (Ar _)));exact(BC (by show List.Nodup [("word":Str),("name":Str)] ;decide +kernel) rfl (.inl rfl)))
      |(clear 30 (PG _ (.Name _ _) (RG _ (Ar _)));exact(BC (by show List.Nodup [("here":Str),("counts":Str)] ;decide +kernel) rfl (.inr rfl)))
      |(clear 30 (PG _ (.Name _ _) (RG _ (Ar _)));exact(BC (by show List.Nodup [("row":Str),("here":Str)] ;decide +kernel) rfl (.inl rfl))))
    | (clear 30 (PG _ (.Tuple ..) ..);first
      |refine YA rfl ?_)
    | (clear 30 (PG _ (.Subscript ..) ..);first
      |(clear 30 (PG _ _ (RG _ (GM _ _)));refine Ut ?_ ?_)
      |(clear 30 (PG _ _ (RG _ (ME _ _)));refine SK ?_ ?_)))
  | (clear 30 (PT ..);first
    | (clear 30 (PT _ (.Compare ..) ..);first
      |(clear 30 (PT _ (.Compare _ [.Eq] [_] _) (RT _ (Aj (Ac _ _ (eqS _)))));refine Es (P6 hr.units) (KQ (g:=id)) ?_ ?_ (Ed _))
      |(clear 30 (PT _ (.Compare _ [.NotEq] [_] _) (RT _ (Aj (Ac _ _ (eqS _)))));refine Es (P8 hr.units) (KQ (g:=λb=>!b)) ?_ ?_ (Ed _))
      |(clear 30 (PT _ _ (RT _ (Aj (Ac _ _ gtA))));refine Es Vg R4 ?_ ?_ (Ed _))
      |(clear 30 (PT _ _ (RT _ (Aj (Ac _ _ isC))));refine Es Vi VJ ?_ ?_ (Ed _))
      |(clear 30 (PT _ _ (RT _ (Aj (Ac _ _ geA))));refine Es dS aY ?_ ?_ (Ed _))
      |(clear 30 (PT _ _ (RT _ (Aj (Ac _ _ ltA))));refine Es Vj R5 ?_ ?_ (Ed _))
      |(clear 30 (PT _ _ (RT _ (Aj (Ep _ _ _ _ _))));refine WZ P7 Vj NB R5 ?_ ?_ ?_)
      |(clear 30 (PT _ _ (RT _ (Aj (Ac _ _ (inK _)))));refine Es (Vl hr.units) aZ ?_ ?_ (by with_unfolding_all rfl))
      |(clear 30 (PT _ _ (RT _ (Aj (Ac _ _ (inS _)))));refine Es (dU hr.units) (a8 (neg:=false)) ?_ ?_ (by with_unfolding_all rfl))
      |(clear 30 (PT _ _ (RT _ (Aj (Ac _ _ inP))));refine Es (Vk hr.units) a7 ?_ ?_ (by with_unfolding_all rfl))
      |(clear 30 (PT _ _ (RT _ (Aj (Ac _ _ (eqT _)))));refine Es (P8 hr.units) (R0 (g:=λb=>!b)) ?_ ?_ (Ed _)))
    | (clear 30 (PT _ (.UnaryOp ..) ..);first
      |refine c7 ?_)
    | (clear 30 (PT _ (.BoolOp ..) ..);first
      |refine gE ?_)
    |(clear 30 (PT _ _ (RT _ (Aj _)));refine UD ?_)
    |(clear 30 (PT _ _ (RT _ (Aj _)));refine UD ?_))
  | (clear 30 (PI ..);first
    | (clear 30 (PI _ _ (.Call ..) ..);first
      |(clear 30 (PI _ _ _ (RI _ (BQ _)));refine SL rfl M.lL ?_)
      |(clear 30 (PI _ _ _ (RI _ (Mb _)));refine SN rfl M.lL ?_)
      |(clear 30 (PI _ _ _ (RI _ (IV _)));refine SM rfl M.lL ?_))
    |(clear 30 (PI _ _ _ (RI _ (BT _)));refine Uu ?_))
  | (clear 30 (PGs ..);first
    |refine Ln ?_ ?_
    |exact Rb)
  | (clear 30 (PW ..);first
    |(clear 30 (PW _ (.BoolOp .Or (_::_::_) _) (RT _ (fOr _ _)));refine gF ?_ ?_)
    |(clear 30 (PW _ (.BoolOp .Or [_] _) (RT _ _));refine c9 ?_)
    |(clear 30 (PW _ (.BoolOp .And (_::_::_) _) (RT _ (Lm _ _)));refine c8 ?_ ?_)
    |(clear 30 (PW _ (.BoolOp .And [_] _) (RT _ _));refine ZM ?_))
  | (clear 30 (PIf ..);first
    |exact ZA
    |(clear 30 (PIf _ [_] (RT _ _));refine ZB ?_))
  | (clear 30 (PPf ..);first
    |refine WV ?_ ?_
    |exact ZJ
    |refine WU ?_ ZI)
  | (clear 30 (PO ..);first
    |exact ZG
    |refine ZH ?_)
  | (clear 30 (PH ..);first
    |(clear 30 (PH _ _ (.ExceptHandler (some (.Name _ _)) none (_::_) _::_) (RH _ _ _ (hNo _ _ _)));refine gB x rfl (x.ms "Short" (by decide)) (x.cl "Short" (by decide)) (λ_ hn=>x.subE hn (by decide)) (λy=>?_) ?_)
    |(clear 30 (PH _ _ (.ExceptHandler (some (.Name _ _)) (some _) (_::_) _::_) (RH _ _ _ (hAs _ _ _ _)));refine gA x rfl (x.ms "Broken" (by decide)) (x.cl "Broken" (by decide)) (λ_ hn=>x.subE hn (by decide)) nd rfl rfl (λy=>?_) ?_)
    |exact cV)
theorem all_ok(M:Md K mg A fd):∀(n:Nat) (x:Fx),okK (kd x) P w K mg base (2*n+2) (A x) (fd x) (ps x) (run n x)
 |0,x=>Xq
 |n+1,x=>by
   have ih:=all_ok M n;exact step M ih x
end
abbrev fno(x:Fx)(kV dc pm:mj)(an:Option mm)(cd ct:mj):mx:=PySem.W.fnOf (nm x) (ql x) (Iu (st x)) (DG (st x)) (AN (st x)) .none kV dc pm an cd ct
structure At(K:mh)(x:Fx)(f:mm)(fd:mx):Prop where
 a:me x=false->PySem.W.nsIn K mainGlobals (nm x)=some (some (.ref f))
 m:me x=true->∃C,PySem.W.nsIn K mainGlobals (ow x)=some (some (.ref C))/\PySem.W.findIn K (.ref C) (nm x)=some (some (.ref f))/\PySem.W.isFn K (.ref f)=true
 fn:Fun K (nm x) (ql x) (st x) f fd
 bd:Binds K fd (ps x) []
 eq:∃kV dc pm an cd ct,fd=fno x kV dc pm an cd ct
theorem at_mk{K:mh}{x:Fx}{f:mm}{od an:Option mm}{sl:Array (Option mj)}{oc kV dc pm cd ct:mj}(e:me x=false)(a:PySem.W.nsIn K mainGlobals (nm x)=some (some (.ref f)))(l:K.lookup f=some ⟨oc,od,.func (fno x kV dc pm an cd ct),sl⟩)(c:codeIn K cd (ql x)=true)(k:PySem.W.keepIn K (.ref f)=true):∃p:mm×mx,At K x p.1 p.2:=by
 refine⟨(f,fno x kV dc pm an cd ct),λ_=>a,λz=>(by rw[e] at z;cases z),Mj (st:=st x) l c k,(Mj (st:=st x) l c k).binds (ps:=ps x) λ_ _ _ _ _ _ us hl=>?_,_,_,_,_,_,_,rfl⟩
 cases x<;>first|(obtain rfl:=List.eq_nil_of_length_eq_zero hl;rfl)|(obtain⟨_,rfl⟩:=us1 hl;rfl)|(obtain⟨_,_,rfl⟩:=us2 hl;rfl)|(obtain⟨_,_,_,rfl⟩:=us3 hl;rfl)|(obtain⟨_,_,_,_,rfl⟩:=us4 hl;rfl)|(obtain⟨_,_,_,_,_,rfl⟩:=us5 hl;rfl)|(obtain⟨_,_,_,_,_,_,rfl⟩:=us6 hl;rfl)|(obtain⟨_,_,_,_,_,_,_,rfl⟩:=us7 hl;rfl)
theorem ci{K:mh}{x:Fx}{f C:mm}{od an:Option mm}{sl:Array (Option mj)}{oc kV dc pm cd ct:mj}(e:me x=true)(hc:PySem.W.nsIn K mainGlobals (ow x)=some (some (.ref C)))(a:PySem.W.findIn K (.ref C) (nm x)=some (some (.ref f)))(l:K.lookup f=some ⟨oc,od,.func (fno x kV dc pm an cd ct),sl⟩)(c:codeIn K cd (ql x)=true)(k:PySem.W.keepIn K (.ref f)=true)(t:PySem.W.isFn K (.ref f)=true):∃p:mm×mx,At K x p.1 p.2:=by
 refine⟨(f,fno x kV dc pm an cd ct),λz=>(by rw[e] at z;cases z),λ_=>⟨C,hc,a,t⟩,Mj (st:=st x) l c k,(Mj (st:=st x) l c k).binds (ps:=ps x) λ_ _ _ _ _ _ us hl=>?_,_,_,_,_,_,_,rfl⟩
 cases x<;>first|(obtain rfl:=List.eq_nil_of_length_eq_zero hl;rfl)|(obtain⟨_,rfl⟩:=us1 hl;rfl)|(obtain⟨_,_,rfl⟩:=us2 hl;rfl)|(obtain⟨_,_,_,rfl⟩:=us3 hl;rfl)|(obtain⟨_,_,_,_,rfl⟩:=us4 hl;rfl)|(obtain⟨_,_,_,_,_,rfl⟩:=us5 hl;rfl)|(obtain⟨_,_,_,_,_,_,rfl⟩:=us6 hl;rfl)|(obtain⟨_,_,_,_,_,_,_,rfl⟩:=us7 hl;rfl)
theorem xm_all{K:mh}{h:Heap}{mg:Str->Option mj}{P c1 c2:mm}(X:K.In h)(G:h.Ns mainGlobals mg)(p:PySem.W.nsIn K mainGlobals "ParleyError" = some (some (.ref P)))(a1:PySem.W.nsIn K mainGlobals "Short" = some (some (.ref c1)))(a2:PySem.W.nsIn K mainGlobals "Broken" = some (some (.ref c2)))(q:TQ K P [c1,c2]=true)(nd:[P,c1,c2].Nodup)(n1:PY K c1=true):∃(P:mm) (ca:Str->mm),XM K mg P ca/\True/\∀n∈(["Short"]:List Str),XN0 K (ca n):=by
 have x:=iY X G p a1 a2 q nd;refine⟨P,_,x,trivial,?_⟩;intro n hn;simp only[ul1,uh9,pS] at hn;rcases hn with rfl
 .exact gf n1
theorem fin_mk{K:mh}{h:Heap}{mg:Str->Option mj}{fa:mm}(X:K.In h)(G:h.Ns mainGlobals mg)(hmg:mg "law" = some (.ref fa))(H:∀x:Fx,∃p:mm×mx,At K x p.1 p.2)(mX:PySem.W.nsIn K mainGlobals "any" = some none)(mG:PySem.W.nsIn K mainGlobals "bool" = some none)(mH:PySem.W.nsIn K mainGlobals "dict" = some none)(mK:PySem.W.nsIn K mainGlobals "int" = some none)(lG:PySem.W.nsIn K mainGlobals "isinstance" = some none)(mY:PySem.W.nsIn K mainGlobals "len" = some none)(m5:PySem.W.nsIn K mainGlobals "list" = some none)(mV:PySem.W.nsIn K mainGlobals "min" = some none)(n6:PySem.W.nsIn K mainGlobals "ord" = some none)(lL:PySem.W.nsIn K mainGlobals "range" = some none)(lQ:PySem.W.nsIn K mainGlobals "sorted" = some none)(mW:PySem.W.nsIn K mainGlobals "str" = some none)(mZ:PySem.W.nsIn K mainGlobals "sum" = some none)(lW:PySem.W.nsIn K mainGlobals "tuple" = some none){mP:Tok}(l9:PySem.W.nsIn K mainGlobals "FIRST_SIGN" = some (some (.int 32 mP))){mU:Tok}(lF:PySem.W.nsIn K mainGlobals "LAST_SIGN" = some (some (.int 126 mU))){m8:Tok}(l8:PySem.W.nsIn K mainGlobals "PERCENT_SIGN" = some (some (.int 37 m8))){a_SIDES:mm}(lK:PySem.W.nsIn K mainGlobals "SIDES" = some (some (.ref a_SIDES)))(kt_SIDES:W6 K a_SIDES ["left", "right"]=true){oG:Tok}(lJ:PySem.W.nsIn K mainGlobals "SIGNS" = some (some (.str " !\"#$ &'()*+,-./0123456789:;<=>?@ABCDEFGHIJKLMNOPQRSTUVWXYZ[\\]^_`abcdefghijklmnopqrstuvwxyz{|}~" oG)))(xm:∃(P:mm) (ca:Str->mm),XM K mg P ca/\True/\∀n∈(["Short"]:List Str),XN0 K (ca n)){lX mF nK:mm}(nI:PySem.W.nsIn K mainGlobals "Reader" = some none)(mQ:PySem.W.nsIn K mainGlobals "Lasting" = some none)(mL:PySem.W.nsIn K mainGlobals "Listener" = some none)(nV:PySem.W.nsIn K mainGlobals "Relay" = some none)(o8:PySem.W.nsIn K mainGlobals "Desk" = some none)(lI:PySem.W.nsIn K mainGlobals "Hearer" = some (some (.ref lX)))(l7:PySem.W.nsIn K mainGlobals "Side" = some (some (.ref mF)))(l6:PySem.W.nsIn K mainGlobals "Parley" = some (some (.ref nK)))(o9:O3 K mF=true)(nM:O3 K nK=true)(nJ:Ox K nK=true)(oB:Ox K mF=true)(lZ:PySem.W.findIn K (.ref mF) "state" = PySem.W.findIn K (.ref lX) "state")(mE:PySem.W.findIn K (.ref mF) "hear" = PySem.W.findIn K (.ref lX) "hear")(lH:PySem.W.findIn K (.ref mF) "unread_of" = PySem.W.findIn K (.ref lX) "unread_of")(nG:byB K lX "__init__" = true):∃(A:Fx->mm) (fd:Fx->mx),Md K mg A fd/\A .law_=fa/\∀(s:mn) (u:mj),BindsTo s (fd .law_) ⟨[u],[]⟩ [("script",u)]:=by
 clear 5(Classical.axiomOfChoice H)F hF;have fm:∀x,me x=true->∀C,PySem.W.nsIn K mainGlobals (ow x)=some (some (.ref C))->PySem.W.findIn K (.ref C) (nm x)=some (some (.ref (F x).1))/\PySem.W.isFn K (.ref (F x).1)=true:=λx hx C h=>by
  clear 5((hF x).m hx)C e1 e2 e3;have e4:=e1.symm.trans h
  cases e4
  exact⟨e2,e3⟩
 have mS:=fm .AI rfl _ lI;have mD:=fm .AS rfl _ lI;have mJ:=fm .AX rfl _ lI;have lN:=fm .Az rfl _ lI;have m6:=fm .AZ rfl _ l7;have nF:=fm .Bj rfl _ l7;have mT:=fm .Ba rfl _ l7;have mO:=fm .A8 rfl _ l7;have mI:=fm .AY rfl _ l7;have mC:=fm .AV rfl _ l7;have m9:=fm .AT rfl _ l7;have lM:=fm .AU rfl _ l7;have lU:=fm .AD rfl _ l7;have lR:=fm .AQ rfl _ l6;have lV:=fm .AA rfl _ l6;have mR:=fm .AM rfl _ l6;have lP:=fm .Av rfl _ l6;have lO:=fm .Aw rfl _ l6;have mM:=fm .A7 rfl _ l6;have lS:=fm .AC rfl _ l6;have lY:=fm .AF rfl _ l6;have m7:=fm .AB rfl _ l6;have cm:CM K:=gj λn hn=>by
  simp only[M9,ul1,uh9,pS] at hn;rcases hn with rfl|rfl|rfl|rfl|rfl|rfl|rfl
  .exact .inl nI
  .exact .inr ⟨_,l7,o9⟩
  .exact .inl mQ
  .exact .inr ⟨_,l6,nM⟩
  .exact .inl mL
  .exact .inl nV
  .exact .inl o8
 refine⟨λx=>(F x).1,λx=>(F x).2,{fn:=λx=>(hF x).fn,mgs:=λx e=>um2 X G ((hF x).a e),bd:=λx=>(hF x).bd,cm:=cm,Lh:=⟨_,l6,um2 X G l6,YF nJ lR.1 lR.2,⟨lV.1,lV.2,Fun.kp (hF .AA).fn⟩,⟨mR.1,mR.2,Fun.kp (hF .AM).fn⟩,⟨lP.1,lP.2,Fun.kp (hF .Av).fn⟩,⟨lO.1,lO.2,Fun.kp (hF .Aw).fn⟩,⟨mM.1,mM.2,Fun.kp (hF .A7).fn⟩,⟨lS.1,lS.2,Fun.kp (hF .AC).fn⟩,⟨lY.1,lY.2,Fun.kp (hF .AF).fn⟩,⟨m7.1,m7.2,Fun.kp (hF .AB).fn⟩⟩,T8:=⟨_,l7,um2 X G l7,YF oB m6.1 m6.2,⟨nF.1,nF.2,Fun.kp (hF .Bj).fn⟩,⟨mT.1,mT.2,Fun.kp (hF .Ba).fn⟩,⟨mO.1,mO.2,Fun.kp (hF .A8).fn⟩,⟨mI.1,mI.2,Fun.kp (hF .AY).fn⟩,⟨mC.1,mC.2,Fun.kp (hF .AV).fn⟩,⟨m9.1,m9.2,Fun.kp (hF .AT).fn⟩,⟨lM.1,lM.2,Fun.kp (hF .AU).fn⟩,⟨lU.1,lU.2,Fun.kp (hF .AD).fn⟩,⟨lZ.trans mD.1,mD.2,Fun.kp (hF .AS).fn⟩,⟨mE.trans mJ.1,mJ.2,Fun.kp (hF .AX).fn⟩,⟨lH.trans lN.1,lN.2,Fun.kp (hF .Az).fn⟩⟩,oF:=⟨_,um2 X G lI,gi nG mS.1 (Fun.kp (hF .AI).fn)⟩,xm:=xm,mX:=uf5 X G mX,mG:=uf5 X G mG,mH:=uf5 X G mH,mK:=uf5 X G mK,lG:=uf5 X G lG,mY:=uf5 X G mY,m5:=uf5 X G m5,mV:=uf5 X G mV,n6:=uf5 X G n6,lL:=uf5 X G lL,lQ:=uf5 X G lQ,mW:=uf5 X G mW,mZ:=uf5 X G mZ,lW:=uf5 X G lW,l9:=⟨mP,um2 X G l9⟩,lF:=⟨mU,um2 X G lF⟩,l8:=⟨m8,um2 X G l8⟩,lK:=⟨_,um2 X G lK,db kt_SIDES⟩,lJ:=⟨oG,um2 X G lJ⟩ },?_,λs u=>?_⟩
 .have e:=hmg.symm.trans (um2 X G ((hF .law_).a rfl))
  cases e
  rfl
 .obtain⟨_,_,_,_,_,_,e⟩:=(hF .law_).eq;show BindsTo s (F .law_).2 _ _;rw[e];exact .of_eq rfl
theorem walk{l:PySem.W.OpenLaw}{q:mq}{loose:List Str}{XP:(Str->Option mj)->Heap->Prop}{YP:mw->Heap->Prop}{d:DefRec}{K:Params->mh}(m:Nat)(hm:Room (2*m+2) callerA)(hn:l.most=some 63)(hdf:d.params.defaults=[])
 (hY:∀(w:mw) (h:Heap),YP w h->(K w.params).In h) (lt:∀ns:List Int,ns.length<=63->∃S',run m .law_ [.scr ns] []=some (.bl true,S'))
 (F:∀(w:mw) (mg:Str->Option mj) (fa:mm) (h:Heap),(K w.params).In h->h.Ns mainGlobals mg->mg d.name=some (.ref fa)->
   ∃(A:Fx->mm) (fd:Fx->mx),Md (K w.params) mg A fd/\A .law_=fa/\∀(s:mn) (u:mj),BindsTo s (fd .law_) ⟨[u],[]⟩ [("script",u)]) :
 PySem.W.WalkO q loose XP YP l.row.toRowW d [] (λf vs=>PySem.call f vs):=
 L2.bP (n:=63) (k:=2*m+2) (x:="script") (CX:=λ_=>CX0) (sp:=λw=>spF (K w.params) (run m .law_)) hn (by decide) hdf hm hY
  (λw mg fa h KX G hmg=>by clear 5(F w mg fa h KX G hmg)A fd M e b;subst e;exact⟨fd .law_,b,λbase _ _=>all_ok M m .law_⟩)
  (λw H a ns hl hO hS=>by clear 5(lt ns hl)S' e;exact UU hO hS e) λ_ _ _ _ _ z=>z
theorem Vc(k:Nat):QR (run (k+1) .Do):=λd h=>Pt h
theorem Jx(k:Nat):GV (run (k+2) .Bc):=Wh (Vc k)
theorem Qu(k:Nat):LP (run (k+1) .DV):=SU
theorem Yh(k:Nat):OG (run (k+2) .Dm):=Pg (Qu k)
theorem Pd:∀(n k:Nat),2*n+3<=k->Il (run k .Fy) n
 |0,k,_=>λs hs=>absurd s.depth_pos ∅
 |n+1,k,h=>by
   obtain⟨j,rfl⟩:∃j,k=j+4:=nq ∅;have ih:=Pd n (j+2) ∅;exact ZD (Nh ih (Jx j)) (Pf ih) (Pe ih) (Yh (j+1)) (Jx (j+1))
theorem Py(k:Nat):JD (run (k+1) .DW):=Z0
theorem Xp(k:Nat):OE (run (k+2) .Ce):=ac (Py k)
theorem Se(k:Nat):LS (run (k+1) .B9):=Ys
theorem Pc:∀(n k:Nat),n+3<=k->Kn (run k .BD) n
 |0,k,_=>λs hs=>absurd s.depth_pos ∅
 |n+1,k,h=>by
   obtain⟨j,rfl⟩:∃j,k=j+3:=nq ∅;exact ZC (Pc n (j+2) ∅) (Se (j+1)) (Xp j)
theorem OO(k:Nat):BXw (run (k+1) .Du):=cB
theorem fL(k:Nat):UXn (run (k+2) .B3):=fM (OO k)
theorem fw(k:Nat):SXn (run (k+2) .EC):=fz (Qu k) (OO k)
theorem Qh:∀(n k:Nat),2*n+4<=k->JG (run k .BN) n
 |0,k,_=>λs hs=>absurd s.depth_pos ∅
 |n+1,k,h=>by
   obtain⟨j,rfl⟩:∃j,k=j+5:=nq ∅;exact Tm rfl rfl rfl rfl rfl (fL (j+1)) (fw (j+1)) (Py (j+2)) (OO (j+2)) (Se (j+2)) (Qh n (j+3) ∅)
theorem Rv(k:Nat):Sm (run (k+11) .Cg):=Z5 (Qh 3 (k+10) ∅)
theorem Tn(k:Nat):MS (run (k+12) .Dx):=QN (Rv k)
theorem QO(k:Nat):Ld (run (k+12) .Dx):=Qi (Rv k)
theorem Tv(k:Nat):MT (run (k+13) .ED):=QP (Tn k)
theorem UG(k:Nat):GC arH (run (k+13) .AX):=W7 (QO k)
theorem Iz(k:Nat):EF (run (k+1) .BB):=d5
theorem SW(k:Nat):GC arT (run (k+14) .AY):=SV (Iz (k+12)) (UG k)
theorem Yg(k:Nat):GC arT (run (k+15) .Ba):=Yf (SW k)
theorem Et(k:Nat):DB (run (k+1) .CG):=UO
theorem UE(k:Nat):Si (run (k+2) .Cd):=W3 (Et k)
theorem VP(k:Nat):LO (run (k+4) .AZ):=VO (Iz (k+2)) (UI (UE k))
theorem Fp(k:Nat):Fg (run (k+2) .BZ):=Yu (Et k)
theorem Mu(k:Nat):IJ (run (k+3) .B7):=Nr (Fp k)
theorem Mw(k:Nat):IK (run (k+10) .Cu):=On (Pd 3 (k+9) ∅) (Mu (k+6))
theorem Ji(k:Nat):Io (run (k+1) .BO):=Z8
theorem Oc(k:Nat):Ks (run (k+11) .Ds):=Yc (Ji (k+9)) (Mw k)
theorem PQ(k:Nat):Oq (run (k+7) .BE):=dG (Pc 3 (k+6) ∅)
theorem Wg(k:Nat):OJ (run (k+12) .DO):=bS (PQ (k+4)) (Oc k)
theorem Sw(k:Nat):K9 (run (k+12) .Ch):=T4 (Ji (k+10)) (Oc k)
theorem Wc(k:Nat):Lf (run (k+13) .DM):=TN (Sw k) (Et (k+11))
theorem aV(k:Nat):OF (run (k+12) .Bj):=aU (VR (PQ (k+3)) (Ji (k+9)) (Mw k))
theorem XF(k:Nat):II arS (run (k+13) .Av):=aE (aV k)
theorem Vx(k:Nat):HE Wp (run (k+16) .Aw):=aH (Yg k) (Iz (k+14)) (Jx (k+13))
theorem Zp(k:Nat):II arD (run (k+14) .AM):=jD (XF k)
theorem Zq(k:Nat):HE MX (run (k+17) .AM):=jE (Vx k)
theorem N8:∀(d k:Nat),d+1<=k->JH (run k .Cq) d
 |0,k,h=>by
   obtain⟨j,rfl⟩:∃j,k=j+1:=nq ∅;exact X7
 |d+1,k,h=>by
   obtain⟨j,rfl⟩:∃j,k=j+1:=nq ∅;exact X8 (N8 d j ∅)
theorem Sb:∀(n k:Nat),n<=k->MU (run k .Cr) n
 |0,k,_=>V4
 |n+1,k,h=>by
   obtain⟨j,rfl⟩:∃j,k=j+1:=nq ∅;exact bG (Sb n j ∅)
theorem W5:GrN (run 99 .Cc):=jq (N8 2 98 (by decide)) Uf gM
theorem L6(k:Nat):MO (run (k+1) .Bs):=L8
theorem N4(k:Nat):Kq (run (k+2) .Bw):=Nb (Et k)
theorem PP(k:Nat):LI (run (k+3) .Bb):=Na (Fp k) (L6 (k+1))
theorem QC(k:Nat):LQ (run (k+4) .BP):=O6 (PP k) (N4 (k+1))
theorem PJ(k:Nat):JE (run (k+5) .Dn):=QI (QC k)
theorem Th(k:Nat):Lc (run (k+2) .BK):=KY (L6 k)
theorem bQ(k:Nat):LR (run (k+6) .Fm):=Wb (L6 (k+4)) (Th (k+3)) (Fp (k+3)) (QC (k+1)) (PJ k)
theorem Ts(k:Nat):Le (run (k+4) .CD):=NF (Et (k+2)) (Ji (k+2)) (Mu k)
theorem aa(k:Nat):LJ (run (k+5) .Dp):=P3 (PP (k+1)) (L6 (k+3)) (Fp (k+2)) (N4 (k+2)) (Ts k)
theorem XQ(k:Nat):So (run (k+3) .EA):=XO (Fp k)
theorem UV(k:Nat):MP (run (k+3) .DN):=Xe (Fp k)
theorem SH(k:Nat):Lb (run (k+4) .Fj):=Ui (Et (k+2)) (UV k)
theorem Vb(k:Nat):MQ (run (k+1) .CU):=Xo
theorem SE(k:Nat):La (run (k+2) .Cy):=Uh (Vb k)
theorem VY(k:Nat):MN (run (k+18) .AE):=Zg (Zq k)
theorem Jv(k:Nat):JK (run (k+19) .CS):=Wa (VY k) (Zp (k+4)) (Iz (k+16)) (Sb 3 (k+18) ∅) (VP (k+13))
theorem Yr(k:Nat):JL (run (k+20) .BW):=bR (Jv k) (Iz (k+16)) (Et (k+16)) (Wc (k+6)) (Wg (k+7)) (Tv (k+6))
theorem law_true(ns:List Int)(h:ns.length<=63):∃S',run 100 .law_ [.scr ns] []=some (.bl true,S'):=by
 clear 5(gK (SH 95) Uf (Jv 80) (XQ 96) (Yr 79) (aa 94) (bQ 93) (PJ 94) (SE 97) W5 (ns:=ns))r S' e p;subst p;exact⟨S',e⟩
end K45
structure PySem.W.Fast:Prop where(tw10024015311503598995 tw10059874943901252273 tw10082267430663344660 tw10104128447079229035 tw10117212423850500219 tw10159456282566254118 tw10165679203545368494 tw10166609925285696363 tw1017592584426481304 tw10215206657426971101 tw10261123333049599276 tw10262017811707359092 tw10279612908685846171 tw10327511183536382673 tw10330984967298283862 tw10342422918889298520 tw10350009082169670028 tw10362796485269940149 tw10419576411197057695 tw1044492333427518854 tw1047631064528645907 tw10494078629852303955 tw10563144309192226019 tw10595052145368269524 tw10599272307026938938 tw10646888625425062807 tw10675484821286087706 tw10682468556413806414 tw10690621570486495198 tw10735870285255795671 tw10796483881606996908 tw10830587792457464103 tw10861401559520556437 tw10867704558175376407 tw10873501759622703395 tw10876862993731087788 tw10890659068917905058 tw1090673075550602534 tw10908132170997435493 tw10912798618093552345 tw10918342629901720038 tw10926278542725624932 tw10983566267965040383 tw11000936589688338769 tw11006811957887559524 tw11014928896297685924 tw1105113613272767372 tw11056281821303384037 tw11056393026007400002 tw11072933526356217028 tw11103850282452112001 tw11108249182797284888 tw1113157824228203897 tw11155488258212598384 tw11197007962916756665 tw11211635726295079926 tw11223646184676735481 tw11268885679007055773 tw11346926143108084533 tw11355294967166928302 tw11378267636633872451 tw11385597781064469197 tw11386541861401881437 tw11387035136078046780 tw11426007374015921028 tw11444656005032389444 tw1145860684904851270 tw11485672000662130961 tw11525338079798028227 tw11533461221224167363 tw1153510005446036716 tw11544380730652845148 tw11552076659246178124 tw11556644031994335344 tw1156449112196133223 tw11564886313250864040 tw11569855548703055378 tw11573850119037447705 tw11578096637183042617 tw11594076527114545754 tw11604129801724075137 tw11612882030728295083 tw11613619348461092189 tw11634689420943049306 tw11710905976839220750 tw11719613234791144758 tw11733935015755588354 tw11745938560509416392 tw11823577150371471306 tw11861757572147466832 tw11865945502323584960 tw11925835227308255123 tw11971850133430382403 tw11989347341725730221 tw11989622169796074949 tw12000268554361451220 tw12010431231543493476 tw12061039234185807692 tw12076841701886114616 tw12094151823413173533 tw12100360528009912701 tw12207864326071260987 tw12233535898267203809 tw12283303704016087627 tw12328131892019760045 tw12342443073255139942 tw12362938472347679238 tw1239212343290659345 tw12452237975872804719 tw12474054344766739659 tw1252584112085276384 tw12532800246319143024 tw12617764769170098265 tw12631179187912090782 tw12640447694353476071 tw126895068659208297 tw1273295541157457731 tw12769844066945910102 tw12826994823877882414 tw12844129101235452315 tw12853153970562975414 tw12862183888947079023 tw12870930606864785491 tw12934269082909568980 tw1300480506707992368 tw13023465240789684596 tw13089531509128434760 tw13093696045244085126 tw13112693638949956468 tw13181967969937772228 tw13215580210285099791 tw13266883446767939102 tw13278480356316041419 tw13306780663902893840 tw13362549117855664555 tw13369804622580565398 tw13439574106127238791 tw13440887678759325702 tw13460722727415426159 tw13496402200362124191 tw13513957855365449598 tw13522570694517375207 tw13535025041745116642 tw13570988638545801496 tw13581257368253214045 tw13606131350638916496 tw13646776741496612767 tw13692344154707339648 tw1371577394811646801 tw13742544746968157728 tw13743956347684087899 tw13745286336779228224 tw13764937441327567145 tw13783028786528395658 tw13815622454080786392 tw13851100331868544827 tw13857512524111453661 tw1386379057789478115 tw13866385460533424790 tw13868350036295838108 tw1389375458346955001 tw13930073181784289730 tw13935526267700122184 tw13954324014877776760 tw1395508319095983111 tw13997324069556539710 tw14106366498856100980 tw14109130759181613545 tw14111136068016008488 tw14124655310192890124 tw14137945174295147323 tw14143033289117106241 tw14209124696382558544 tw14253766752908194166 tw14301033216395640362 tw14342563051255178524 tw14354887519469137456 tw1438462308957548034 tw14418969076698651367 tw14422294003128816724 tw14426283219596617171 tw14470409392835442289 tw1449267800275508498 tw14556891722801398651 tw14691394631342265362 tw14692350251066406899 tw14717615934685502351 tw14742321915462651141 tw14745761089671421627 tw14758703118718777875 tw14768784372486565537 tw14780535463401024204 tw14781890613426628199 tw14812936399151397500 tw14843584677021590956 tw14866558711393824114 tw14868892342024467397 tw1488273469501079799 tw1493614875768588727 tw14995446292887694536 tw15037455414747603376 tw15056458083817455037 tw15080505583370520623 tw15088533726204637473 tw15103091790915435625 tw15166241778670971222 tw15174828876767808148 tw15203415244414284464 tw15250349273273755090 tw15301720521464502573 tw15375055763399681545 tw15430865649525876167 tw15478748846462686619 tw15487245816705666560 tw1550909564004471686 tw15560448810375112731 tw15665626684073633935 tw15676231163584804154 tw15758086474189549903 tw15785292470282207305 tw15802692724916903198 tw15819641565268131537 tw1582199166004793885 tw15865517751661247206 tw15865542577092287649 tw15871822293817940 tw15874583384198385685 tw15916167611213799830 tw1592820088870119455 tw15933923073354942010 tw15993779245645181950 tw15993896257617680958 tw16022083070090598628 tw16062880067058825030 tw16085734885724076056 tw16162449261061773476 tw16179812205896044262 tw16185814382051695283 tw16198023421214216650 tw16300763255392471623 tw16312135177278696071 tw16315179918076983905 tw16327348107908536942 tw16371056937834974281 tw16385145330386659493 tw16488403352476801113 tw16506951793188304806 tw16514345056994778534 tw16523898640266442452 tw16530619850028750134 tw16562191678976803464 tw16595190288241059618 tw16600335397839496144 tw16603562497370410452 tw16633247804471877670 tw16697216717478475944 tw16707377286309136496 tw16718626049532712201 tw1676855945950732211 tw16797153280411718581 tw16801815128615556923 tw16803915473556577247 tw16814753135830390706 tw16839748274461166347 tw16955354887766777640 tw16958477948608938627 tw17071576765269663866 tw1710106067653818986 tw17125963068964075269 tw17140125880359051045 tw17164785530483429216 tw17196914816977428162 tw17231322781953527063 tw17249308337988612869 tw17356864241994901723 tw17376206183442341903 tw17379988926202307064 tw17393378062962481465 tw17395292738151969462 tw17440216802870443595 tw17447706577005107107 tw17489894229195540932 tw17490747369886359323 tw17494629571328007713 tw17499977507994474486 tw17506481134454500482 tw17513745150683511138 tw17531282119119353624 tw17545774227519606293 tw17613061457992160386 tw17655394348460265150 tw17684547017088286116 tw17703957092889309446 tw17757839284753025496 tw17759427818214459090 tw17793027436286803217 tw17808007812638940084 tw17859633678110684556 tw17864524589888667272 tw17864627929588123091 tw17874162856513380972 tw17909351404950569839 tw1794552556505536619 tw17957279562260610756 tw1795996832867274809 tw1801416005981871131 tw18018683099958395754 tw18023687489548039195 tw18056380211564530489 tw18063650785648381808 tw18067940548405307662 tw18076850590846889459 tw18085427654638423175 tw18116296129628427546 tw18128694345771176378 tw18135254659701405429 tw18145220111679330906 tw18171282082820937138 tw18226448932848249228 tw18244798270983727885 tw18262294672761650254 tw18269225291910676690 tw18290187402981754291 tw18295160452586206717 tw18314831555314490570 tw18319194293463616654 tw18376154625081761444 tw184207081531713330 tw1854898935654641593 tw1861551708761604285 tw1899447272013737316 tw1938948469890152477 tw1939832024233674666 tw2002393392685350825 tw2007488327723433059 tw2040015657470284783 tw2058609260884594186 tw2073051302554968831 tw2078914434631139718 tw2132400177458680433 tw2150661929545774533 tw2233049945939299868 tw2268889768521725685 tw2282142383754281788 tw2354443278826839906 tw2355416544542784919 tw236609490060477511 tw2376430927926035955 tw2396323840246496927 tw2397346494025047747 tw2459777835746201946 tw2575540360126565024 tw2578353690451498962 tw2612796587059802256 tw2629842344427268072 tw2708110419470434666 tw2710437944499666534 tw2717015936806131265 tw2745167849677220347 tw2776788921958899003 tw2809086487124670653 tw2810718513623089667 tw2827758896796397264 tw2862098985889177956 tw2877563165863415700 tw2877912421319921010 tw2934463893561901863 tw2937294877722717639 tw2973216270769743863 tw3004860413722840709 tw3028501233837429973 tw3042677918736018725 tw3076751419895351304 tw3083426964474849843 tw3122156132570631190 tw3122416793366502546 tw3195417755516807696 tw3202447711811807962 tw3206355378360354403 tw3209582461514757880 tw3210998389832058948 tw3217960212181148256 tw3218576259647292895 tw3260616815836871213 tw326936759340481848 tw3272025115467337690 tw3289013939679645882 tw3299462175283657739 tw3311176763759393772 tw3365920507729315834 tw3397232438104531722 tw3416863408048700316 tw3417625727902796486 tw3418041416109207793 tw3450693675909352429 tw3475051823798705585 tw3477623500555288009 tw3531604525414169556 tw3532132318656125168 tw3534546169531294382 tw3536197311124900050 tw3595008583487929819 tw3620196194455619622 tw3626812279408773676 tw3703870937867967580 tw3865348271177787189 tw3866381902895988076 tw3961378127133473909 tw3990876742186606383 tw3996487127458451992 tw4010012082089277355 tw4079504351329898422 tw4092661403877999692 tw4094520941669115705 tw4103216368921279640 tw4132883771105780226 tw4133960386571024333 tw4159117121907709398 tw4165359283993549853 tw4232639379112040438 tw4235342341409924606 tw4287975730044054012 tw4336139506800949928 tw4382189923070835325 tw4383938713709851034 tw4435017890921208050 tw4453315148382099965 tw4495375626818997354 tw4501122971529406295 tw4532889034461239741 tw468287540594924886 tw4703497491569870489 tw4743344118151394543 tw4830157254841283281 tw494225260082388168 tw497052787236910727 tw4992606028803642253 tw5029858605893086749 tw5034420347390453607 tw5034544938477888203 tw5039898536365726869 tw5100766010737990943 tw5106580352455649805 tw5166488034416853037 tw5186905789310428482 tw5195770400353311891 tw5196679903697688660 tw523440405933541765 tw5255944817780192628 tw5263122375454849915 tw526657229906730669 tw5339003821752143759 tw5365270257911616978 tw5371692613123071427 tw5387952862517018010 tw5444033540851250086 tw5461533397635637439 tw5493871143604835531 tw5521848022541692769 tw55341022613162055 tw5592194071687481362 tw5612739508016457230 tw5665980218944195360 tw5667340542732218914 tw5680078972761707395 tw5732638628692954733 tw5744961415203450544 tw5757944963992328599 tw5772158032819168846 tw5778131340815447283 tw5849497569165598253 tw585185753403349578 tw5872689630973104175 tw5908465528740883490 tw5929968228157043807 tw5943052275982076626 tw5962763417869084355 tw6002905858042287155 tw602141655203100342 tw6055646754988201349 tw6114392779004207802 tw6121733171722889256 tw6125237065371969389 tw617619474218496769 tw6177487603601871442 tw6181380279485736875 tw6182434041769753226 tw6185075413955060352 tw6186821764857274805 tw6198828319335082617 tw6227425763830325312 tw6241270377659578226 tw6246905281674219024 tw6288379604918218893 tw6332525663507855447 tw6346955850477545539 tw638705510588291506 tw6399551740334832490 tw6399849496505422176 tw6430178762983736278 tw6454126654337014803 tw6480576892306784237 tw6516517357707358673 tw6537918813630588565 tw6541318539170141633 tw655086110148954090 tw6588692195750151237 tw6591282791182183505 tw660468802717540833 tw6607576988209821057 tw6631456115202101271 tw6676521049630138383 tw6680514661103291578 tw6699134227659501843 tw6704567559249272509 tw6709350878123826112 tw6736390455094556988 tw6839958770966443077 tw6856194887649528347 tw6857549471530339057 tw6874874193500556214 tw6887240166392832053 tw6896262154980778050 tw691284157169117719 tw6923969193012528228 tw6930013339076586447 tw6961648524280365986 tw6968587026017104787 tw6998435696302528561 tw7008889772596325835 tw7021803356770897318 tw7036283502855539483 tw7043830682433456047 tw7078575921954439851 tw7082442217447643143 tw7102753510948719934 tw7126406734676904 tw7175755050385484594 tw7177128275683185926 tw7211823743663133342 tw7280201663236621648 tw7306325311212523067 tw732155627036330221 tw737819888517879631 tw7386087437223225650 tw739677586115196984 tw7412232181513694842 tw7429867748981254866 tw7440975781489109870 tw7514994173143335145 tw752354788957801388 tw7596284081935030649 tw7612100472968879737 tw7613458248045819830 tw7658130024818126110 tw7674819422111083655 tw7771081754343099885 tw7818193457212614152 tw7886097845929127725 tw7886485752494017852 tw789443478939241918 tw7904773468016505997 tw7949367775429285898 tw8118702013035858843 tw8137794110248282602 tw8145470989479701090 tw8155580376232775941 tw8190668835075203315 tw8194441604867856189 tw81952557593336506 tw8224982530106124592 tw8231090692024440827 tw8269358264133914431 tw829045495755853275 tw830426765192708219 tw8304805514338020050 tw8333974928055882527 tw8358669830545251787 tw8388987271011305174 tw838984250772518392 tw839567969443005849 tw8422264661142492324 tw8422891162047879710 tw8443604961012373608 tw8457833186205794327 tw8465881683344433765 tw8471932756690809240 tw847357487304745516 tw8505676246323937196 tw8520621995946218741 tw8601250666843370734 tw86588009842105657 tw8659794545915865813 tw8661235788088098230 tw8661761863392407331 tw8679300572363235863 tw8681527487401029222 tw8690841202396337222 tw871794895038302898 tw8745376250342434461 tw8761256501955555300 tw8774247304647938724 tw8791647580373242564 tw8794576005543459936 tw8815322304197096170 tw8839907648852784748 tw8853213490804063946 tw8932352194468365923 tw8942967743442754912 tw8945054794555631933 tw8947400757778214125 tw9010959982177578540 tw9011855537568666504 tw9014545276185008431 tw9056560718342366409 tw9074065652225986653 tw9077449792970911308 tw910560901774539260 tw9110764911264747892 tw9120850666506888548 tw9197580659271857733 tw921201926984852404 tw9213707588447895611 tw9258970326355393902 tw9289123226028088061 tw9312401992500122810 tw9315713671389156781 tw9325790319244950791 tw9337463429446073454 tw9399808566468707507 tw9410864337106368505 tw9418789086930358776 tw9434898433997477148 tw94455009710052647 tw9470523785745316242 tw9471975838739218954 tw9473274148308751867 tw9585372668943986843 tw960834753448724803 tw9663974792179629295 tw9671664908257797228 tw9759446804254243640 tw981608172602055965 tw9842121044893511412 tw9853033555311091929 tw985426468729382943 tw9870689916721138332 tw9875291477231672939 tw9926610231265946565 tw9930784078750480958 tw998547330609576680 tw9989287477741532726:True)
open PySem PySem.W PyProof.Rows
set_option tactic.hygienic true in
set_option maxRecDepth 100000 in
set_option maxHeartbeats 0 in
theorem PySem.Challenge.cw_wireparley_k45_whole_ways_walked_holds : PySem.Challenge.rw_wireparley_k45_whole_ways_walked.Holds := by
 w_on;o_law;k_head;(case hw=>w_witness2)
 k_fill
 refine K45.walk (l:=PySem.Challenge.rw_wireparley_k45_whole_ways_walked) 100 ⟨rfl,by decide,by decide⟩ rfl rfl (λw h Y=>PySem.W.kIn_of Y) K45.law_true ?F
 case F=>
  intro w mg fa h KX G hmg;refine' K45.fin_mk KX G hmg ?H ?mX ?mG ?mH ?mK ?lG ?mY ?m5 ?mV ?n6 ?lL ?lQ ?mW ?mZ ?lW ?l9 ?lF ?l8 ?lK ?kt_SIDES ?lJ ?xm ?nI ?mQ ?mL ?nV ?o8 ?lI ?l7 ?l6 ?o9 ?nM ?nJ ?oB ?lZ ?mE ?lH ?nG
  (case H=>intro x;cases x<;>first|(refine' K45.at_mk rfl ?a ?l ?c ?k;(case a=>k_is);(case l=>k_is);(case c=>k_is);(case k=>k_is))|(refine' K45.ci rfl ?h ?a ?l ?c ?k ?t;(case h=>k_is);(case a=>k_is);(case l=>k_is);(case c=>k_is);(case k=>k_is);(case t=>k_is)))
  (case nI=>k_is)
  (case mQ=>k_is)
  (case mL=>k_is)
  (case nV=>k_is)
  (case o8=>k_is)
  (case lI=>k_is)
  (case l7=>k_is)
  (case l6=>k_is)
  (case o9=>kernel_rfl)
  (case nM=>kernel_rfl)
  (case nJ=>kernel_rfl)
  (case oB=>kernel_rfl)
  (case lZ=>kernel_rfl)
  (case mE=>kernel_rfl)
  (case lH=>kernel_rfl)
  (case nG=>kernel_rfl)
  (case mX=>k_is)
  (case mG=>k_is)
  (case mH=>k_is)
  (case mK=>k_is)
  (case lG=>k_is)
  (case mY=>k_is)
  (case m5=>k_is)
  (case mV=>k_is)
  (case n6=>k_is)
  (case lL=>k_is)
  (case lQ=>k_is)
  (case mW=>k_is)
  (case mZ=>k_is)
  (case lW=>k_is)
  (case l9=>k_is)
  (case lF=>k_is)
  (case l8=>k_is)
  (case lK=>k_is)
  (case kt_SIDES=>kernel_rfl)
  (case lJ=>k_is)
  (case xm=>refine' K45.xm_all KX G ?x_p ?x_a1 ?x_a2 ?x_q ?x_nd ?x_n1;(case x_p=>k_is);(case x_a1=>k_is);(case x_a2=>k_is);(case x_q=>kernel_rfl);(case x_nd=>decide);(case x_n1=>kernel_rfl))
