import PyProof.Rows.All
import Wide.All
import OpenK.AllK
import Wide.FinOn
import Lean
import PyProof.EqAt
import PyProof.EqKinds
import PyProof.TupleCall
import PyProof.NeKinds
import PyProof.ListMulRoad
import PyProof.MaxThree
import PyProof.Rows.StrJoinMade
import PyProof.ListStr
import PyProof.Rows.MinMaxN
import PyProof.Rows.Range3
import PyProof.ListRange
import PyProof.Rows.SetFrom
import PyProof.Rows.StrCase
import PyProof.SumAny
import PyProof.AutoIntG2
import PyProof.AutoListH
import PyProof.EnumStmt
import PyProof.EnumFor
import PyProof.EnumMake
import PyProof.Rows.EnumRows
import PyProof.ConsumeS
import PyProof.Rows.SortWalk
import KE.KDictSum
import PyProof.ZipIter
import KE.KEqDict
import PyProof.ExcClass2
import PyProof.RaisesMany
import PyProof.ExcBaseAll.ValueError
import PyProof.RulesDel
import PyProof.RulesAs
import PyProof.ExcArgs
import PySem.Challenge.RW_wireparley_k28_no_talks
noncomputable section
set_option Elab.async false
set_option linter.all false
set_option maxRecDepth 100000
namespace L2
open PySem PySem.Spec PyProof.Rows
abbrev Key:=Sum Int Str
def GL:Key→Value→Bool
 | .inl k,v=>Value.isInt k v
 | .inr x,v=>Value.isStrOf x v
def We (w:World):Key→Int
 | .inl k=>hashInt k
 | .inr x=>hashStr w x
theorem B7:∀{k:Key} {v:Value},GL k v=true→(∃i t,k=Sum.inl i∧v=Value.int i t)∨(∃x t,k=Sum.inr x∧v=Value.str x t)
 | .inl i,v,h=>by
   obtain ⟨t,e⟩:=Value.isInt_shape (k:=i) (v:=v) h
   exact .inl ⟨i,t,rfl,e⟩
 | .inr x,v,h=>by
   obtain ⟨t,e⟩:=Value.isStrOf_shape (x:=x) (v:=v) h
   exact .inr ⟨x,t,rfl,e⟩
theorem Ov (i:Int) (t:Tok):GL (.inl i) (.int i t)=true:=by simp [GL,Value.isInt]
theorem Ow (x:Str) (t:Tok):GL (.inr x) (.str x t)=true:=by simp [GL,Value.isStrOf]
theorem Tr (a b:Int):decide ((Sum.inl a:Key)=Sum.inl b)=(a == b):=by
 by_cases e:a=b
 ·subst e;simp
 ·have h:¬(Sum.inl a:Key)=Sum.inl b:=fun q=>e (Sum.inl.inj q)
  rw [decide_eq_false h]
  exact (beq_eq_false_iff_ne.mpr e).symm
theorem Tu (a b:Str):decide ((Sum.inr a:Key)=Sum.inr b)=decide (a=b):=by
 by_cases e:a=b
 ·subst e;simp
 ·have h:¬(Sum.inr a:Key)=Sum.inr b:=fun q=>e (Sum.inr.inj q)
  rw [decide_eq_false h,decide_eq_false e]
theorem Ts (a:Int) (b:Str):decide ((Sum.inl a:Key)=Sum.inr b)=false:=decide_eq_false (fun q=>nomatch q)
theorem Tt (a:Str) (b:Int):decide ((Sum.inr a:Key)=Sum.inl b)=false:=decide_eq_false (fun q=>nomatch q)
def CV (prog:Program) (w:World):PySem.KeyKind prog w Key where
 is:=GL
 hash:=We w
 inj:=fun v a b ha hb=>by
  rcases B7 ha with ⟨i,t,rfl,rfl⟩ | ⟨x,t,rfl,rfl⟩
  ·rcases B7 hb with ⟨j,u,rfl,e⟩ | ⟨y,u,rfl,e⟩
   ·injection e with e1 _;rw [e1]
   ·exact nomatch e
  ·rcases B7 hb with ⟨j,u,rfl,e⟩ | ⟨y,u,rfl,e⟩
   ·exact nomatch e
   ·injection e with e1 _;rw [e1]
 byValue:=fun k v h=>by
  rcases B7 h with ⟨i,t,rfl,rfl⟩ | ⟨x,t,rfl,rfl⟩ <;> rfl
 pyHash:=fun hv h=>by
  rcases B7 hv with ⟨i,t,rfl,rfl⟩ | ⟨x,t,rfl,rfl⟩
  ·exact wpAny_pyHash_int h
  ·exact wpAny_pyHash_str h
 eqBool:=fun hu hv h=>by
  rcases B7 hu with ⟨i,t,rfl,rfl⟩ | ⟨x,t,rfl,rfl⟩
  ·rcases B7 hv with ⟨j,u,rfl,rfl⟩ | ⟨y,u,rfl,rfl⟩
   ·rw [Tr] at h;exact wpAny_eqBool_int h
   ·rw [Ts] at h;exact SeqAt.EqAt.int_str i t y u _ _ _ _ h
  ·rcases B7 hv with ⟨j,u,rfl,rfl⟩ | ⟨y,u,rfl,rfl⟩
   ·rw [Tt] at h;exact SeqAt.EqAt.str_int x t j u _ _ _ _ h
   ·rw [Tu] at h;exact wpAny_eqBool_str h
 «strs»:=fun k x t v h=>by
  rcases B7 h with ⟨i,u,rfl,e⟩ | ⟨y,u,rfl,e⟩
  ·exact nomatch e
  ·injection e with e1 _
   subst e1
   cases v <;> rfl
theorem Mh (prog:Program) (w:World) (i:Int) (t:Tok):(CV prog w).is (.inl i) (.int i t)=true:=Ov i t
theorem Mi (prog:Program) (w:World) (x:Str) (t:Tok):(CV prog w).is (.inr x) (.str x t)=true:=Ow x t
inductive V where
 | non | bl (b:Bool) | int (i:Int) | str (x:Str) | byt (b:Array UInt8) | flt (b:UInt64) | ref (a:Addr) | ty (n:String)
 deriving DecidableEq
def RelV:V→Value→Prop
 | .non,u=>u=Value.none
 | .bl b,u=>u=Value.bool b
 | .int i,u=>∃t,u=Value.int i t
 | .str x,u=>∃t,u=Value.str x t
 | .byt b,u=>∃t,u=Value.bytes b t
 | .flt b,u=>∃t,u=Value.float b t
 | .ref a,u=>u=Value.ref a
 | .ty n,u=>u=Value.type n
abbrev Vals:List V→List Value→Prop:=Paired RelV
theorem Vals.length {xs:List V} {us:List Value} (r:Vals xs us):xs.length=us.length:=Paired.length r
theorem Vals.get:∀{xs:List V} {us:List Value} {i:Nat} {x:V},Vals xs us→xs[i]?=some x→∃u,us[i]?=some u∧RelV x u
 | _,_,_,_,.nil,e=>by simp at e
 | _,_,0,_,.cons r _,e=>by simp at e;subst e;exact ⟨_,rfl,r⟩
 | _,_,i + 1,x,.cons _ t,e=>by
   obtain ⟨u,h1,h2⟩:=Vals.get (i:=i) (x:=x) t (by simpa using e)
   exact ⟨u,by simpa using h1,h2⟩
theorem Vals.append:∀{xs ys:List V} {us ws:List Value},Vals xs us→Vals ys ws→Vals (xs++ys) (us++ws)
 | _,_,_,_,.nil,s=>s
 | _,_,_,_,.cons r t,s=>.cons r (Vals.append t s)
theorem Vals.take:∀{xs:List V} {us:List Value} (n:Nat),Vals xs us→Vals (xs.take n) (us.take n)
 | _,_,0,_=>.nil
 | _,_,_ + 1,.nil=>.nil
 | _,_,n + 1,.cons r t=>.cons r (Vals.take n t)
theorem Vals.drop:∀{xs:List V} {us:List Value} (n:Nat),Vals xs us→Vals (xs.drop n) (us.drop n)
 | _,_,0,r=>r
 | _,_,_ + 1,.nil=>.nil
 | _,_,n + 1,.cons _ t=>Vals.drop n t
def RelO:Option V→Option Value→Prop
 | some v,some u=>RelV v u
 | none,none=>True
 | _,_=>False
def KV {κ:Type}:List (κ×V)→List (κ×Value)→Prop:=Paired fun (p:κ×V) (q:κ×Value)=>p.1=q.1∧RelV p.2 q.2
def kV:Key→V
 | .inl i=>.int i
 | .inr x=>.str x
inductive HO where
 /-- a list -/
 | lst (xs:List V)
 /-- a tuple (never changes) -/
 | tup (xs:List V)
 /-- a dict whose keys are ints and texts;one whose keys are tuples of ints and texts (the empty one is both) -/
 | dK (kvs:List (Key×V)) | dT (kvs:List (List Key×V))
 /-- a set of ints: its members,its size -/
 | set (S:Int→Bool) (n:Nat)
 /-- an instance of the class at C,its dict at dx,its attributes -/
 | ins (C dx:Addr) (fs:List (Str×V))
 /-- the dict of the instance at x -/
 | own (x:Addr)
 /-- the dict of an exception -/
 | xd (fs:List (Str×V))
 /-- a bound method,f of x -/
 | met (f x:Addr)
 /-- a range object lo,lo + 1,.. below hi -/
 | rng (lo hi:Int)
 /-- a thing that is known to the object (the script;a dict while a loop walks it): read,never written while it is so -/
 | frz (o:Obj) (u:HO)
 /-- a code object's table -/
 | tbl (ps:Array Value)
 /-- any other thing,by what is true of its one object (a def of one's own: SetO a S n:=HO.ext fun h=>..) -/
 | ext (φ:Heap→Prop)
abbrev Hp:=Addr→Option HO
def upd (H:Hp) (a:Addr) (o:HO):Hp:=fun b=>if b=a then some o else H b
theorem A1 {H:Hp} {a:Addr} {o:HO}:upd H a o a=some o:=by unfold upd;rw [if_pos rfl]
theorem AC {H:Hp} {a b:Addr} {o:HO} (h:b≠a):upd H a o b=H b:=by unfold upd;rw [if_neg h]
theorem SC {H:Hp} {a:Addr} {o u:HO}:upd (upd H a o) a u=upd H a u:=by
 funext b;unfold upd;split <;> rfl
theorem Bg {H:Hp} {a b:Addr} {o:HO} (h:H a=some o) (h':H b=none):a≠b:=by
 intro e;subst e;rw [h] at h';cases h'
section
variable (P:Program) (w:World)
def ObjOk (H:Hp) (h:Heap) (a:Addr):HO→Prop
 | .lst xs=>xs.length≤sizeLine∧∃(its:List Value) (n:Nat),Vals xs its∧h.get? a=some { cls:=.type "list",data:=.seq its.toArray n }
 | .tup xs=>xs.length≤sizeLine∧∃its:List Value,Vals xs its∧IsTup h a its.toArray
 | .dK kvs=>kvs.length≤sizeLine∧(a == sysModules)=false∧∃vs,KV kvs vs∧h.DictOf (CV P w) a vs
 | .dT kvs=>kvs.length≤sizeLine∧(a == sysModules)=false∧∃xs:List (List Key×Addr×Value),
    Paired (fun (p:List Key×V) (q:List Key×Addr×Value)=>p.1=q.1∧H q.2.1=some (.tup (p.1.map kV))∧RelV p.2 q.2.2) kvs xs∧
    ∃o es ep,h.get? a=some o∧o.ExactDict∧o.data = .dict es ep∧es.toList=xs.map (entryOfKey (tupleKind (CV P w)))∧(xs.map (·.1)).Nodup
 | .set S n=>h.SetOf (intKind P w) a S n
 | .ins C dx fs=>H dx=some (.own a)∧fs.length≤1000∧dx≠a∧h.get? a=some (PySem.W.instObj C dx)∧
    ∃mA,h.Ns1 dx mA∧(∀f,RelO (fs.lookup f) (mA f))∧PySem.Within mA (fs.map (·.1))
 | .own _=>∃o,h.get? a=some o
 | .xd fs=>∃mA,h.Ns1 a mA∧∀f,RelO (fs.lookup f) (mA f)
 | .rng lo hi=>∃t u v,h.get? a=some { cls:=.type "range",data:=.fields #[.int lo t,.int hi u,.int 1 v] }
 | .frz o u=>h.get? a=some o∧ObjOk H h a u
 | .tbl ps=>h.get? a=some { cls:=.none,data:=.fields ps }
 | .met f x=>h.get? a=some (PySem.W.methodObj (.ref f) (.ref x))
 | .ext φ=>φ h∧(∃o,h.get? a=some o)∧∀h1 h2:Heap,φ h1→(∀o,h1.get? a=some o→h2.get? a=some o)→φ h2
def HOk (H:Hp) (h:Heap):Prop:=∀a o,H a=some o→ObjOk P w H h a o
end
section
variable {P:Program} {w:World} {H H':Hp} {h h':Heap} {a:Addr} {o:HO}
theorem ObjOk.lt (x:ObjOk P w H h a o):a < h.objs.size:=by
 cases o with
 | lst xs=>obtain ⟨_,_,_,_,e⟩:=x;exact Heap.lt_size e
 | tup xs=>obtain ⟨_,_,_,p⟩:=x;exact p.lt
 | dK kvs=>obtain ⟨_,_,_,_,o,_,_,e,_⟩:=x;exact Heap.lt_size e
 | dT kvs=>obtain ⟨_,_,_,_,o,_,_,e,_⟩:=x;exact Heap.lt_size e
 | set S n=>obtain ⟨o,_,_,_,e,_⟩:=x;exact Heap.lt_size e
 | ins C dx fs=>obtain ⟨_,_,_,e,_⟩:=x;exact Heap.lt_size e
 | own y=>obtain ⟨_,e⟩:=x;exact Heap.lt_size e
 | xd fs=>obtain ⟨_,⟨_,_,_,e,_⟩,_⟩:=x;exact Heap.lt_size e
 | rng lo hi=>obtain ⟨_,_,_,e⟩:=x;exact Heap.lt_size e
 | frz ob u=>obtain ⟨e,_⟩:=x;exact Heap.lt_size e
 | tbl ps=>exact Heap.lt_size (show h.get? a=some _ from x)
 | met f y=>exact Heap.lt_size (show h.get? a=some _ from x)
 | ext φ=>obtain ⟨_,⟨_,e⟩,_⟩:=x;exact Heap.lt_size e
theorem Paired.mapP {α β:Type} {F G:α→β→Prop}:∀{l₁:List α} {l₂:List β},Paired F l₁ l₂→(∀a b,F a b→G a b)→Paired G l₁ l₂
 | _,_,.nil,_=>.nil
 | _,_,.cons r t,f=>.cons (f _ _ r) (Paired.mapP t f)
theorem ObjOk.stay (x:ObjOk P w H h a o) (k:∀b u,(b=a∨H b=some (.own a))→h.get? b=some u→h'.get? b=some u)
 (ho:∀b,H b=some (.own a)→H' b=some (.own a)) (ht:∀b xs,H b=some (.tup xs)→H' b=some (.tup xs)):ObjOk P w H' h' a o:=by
 induction o with
 | lst xs=>obtain ⟨z,its,n,r,e⟩:=x;exact ⟨z,its,n,r,k _ _ (.inl rfl) e⟩
 | tup xs=>obtain ⟨z,its,r,ob,e,c⟩:=x;exact ⟨z,its,r,ob,k _ _ (.inl rfl) e,c⟩
 | dK kvs=>obtain ⟨z,y,vs,r,ob,es,ep,e,c⟩:=x;exact ⟨z,y,vs,r,ob,es,ep,k _ _ (.inl rfl) e,c⟩
 | dT kvs=>
   obtain ⟨z,y,xs,r,ob,es,ep,e,c⟩:=x
   exact ⟨z,y,xs,Paired.mapP r fun p q z=>⟨z.1,ht _ _ z.2.1,z.2.2⟩,ob,es,ep,k _ _ (.inl rfl) e,c⟩
 | set S n=>obtain ⟨ob,es,ep,t,e,c⟩:=x;exact ⟨ob,es,ep,t,k _ _ (.inl rfl) e,c⟩
 | ins C dx fs=>
   obtain ⟨d,z,ne,e,mA,⟨od,es,ep,e2,c⟩,r⟩:=x
   exact ⟨ho _ d,z,ne,k _ _ (.inl rfl) e,mA,⟨od,es,ep,k _ _ (.inr d) e2,c⟩,r⟩
 | own y=>obtain ⟨ob,e⟩:=x;exact ⟨ob,k _ _ (.inl rfl) e⟩
 | xd fs=>obtain ⟨mA,⟨od,es,ep,e,c⟩,r⟩:=x;exact ⟨mA,⟨od,es,ep,k _ _ (.inl rfl) e,c⟩,r⟩
 | rng lo hi=>obtain ⟨t,u,v,e⟩:=x;exact ⟨t,u,v,k _ _ (.inl rfl) e⟩
 | frz ob u ih=>obtain ⟨e,q⟩:=x;exact ⟨k _ _ (.inl rfl) e,ih q⟩
 | tbl ps=>
   have e:h.get? a=some { cls:=.none,data:=.fields ps }:=x
   show h'.get? a=some { cls:=.none,data:=.fields ps }
   exact k a _ (.inl rfl) e
 | met f y=>
   have e:h.get? a=some (PySem.W.methodObj (.ref f) (.ref y)):=x
   show h'.get? a=some (PySem.W.methodObj (.ref f) (.ref y))
   exact k a _ (.inl rfl) e
 | ext φ=>obtain ⟨p,⟨o,e⟩,st⟩:=x;exact ⟨st _ _ p fun o q=>k _ _ (.inl rfl) q,⟨o,k _ _ (.inl rfl) e⟩,st⟩
theorem HOk.lt (x:HOk P w H h) (e:H a=some o):a < h.objs.size:=(x a o e).lt
theorem HOk.fresh (x:HOk P w H h) (e:h.objs.size≤a):H a=none:=by
 cases q:H a with
 | none=>rfl
 | some u=>exact absurd (Nat.lt_of_lt_of_le (x.lt q) e) (Nat.lt_irrefl _)
theorem HOk.kept (x:HOk P w H h) (k:∀b u,h.get? b=some u→h'.get? b=some u):HOk P w H h':=fun a o e=>
 (x a o e).stay (fun b u _ q=>k b u q) (fun _ q=>q) fun _ _ q=>q
theorem HOk.laid (x:HOk P w H h) (k:∀b u,h.get? b=some u→h'.get? b=some u) (hp:h.objs.size≤a) (new:ObjOk P w (upd H a o) h' a o):HOk P w (upd H a o) h':=fun b u e=>by
 have hn:=x.fresh hp
 by_cases hb:b=a
 ·subst hb;rw [A1] at e;cases e;exact new
 ·rw [AC hb] at e
  exact (x b u e).stay (fun c v _ q=>k c v q) (fun c q=>by rw [AC (Bg q hn)];exact q) fun c xs q=>by rw [AC (Bg q hn)];exact q
end
def Rd (H:Hp) (a:Addr) (u:HO):Prop:=H a=some u∨∃o,H a=some (.frz o u)
theorem Rd.ok {P:Program} {w:World} {H:Hp} {h:Heap} {a:Addr} {u:HO} (r:Rd H a u) (x:HOk P w H h):ObjOk P w H h a u:=by
 rcases r with r | ⟨o,r⟩
 ·exact x a u r
 ·obtain ⟨_,q⟩:=x a _ r
  exact q
def Mut:Option HO→Prop
 | some (.lst _)=>True
 | some (.dK _)=>True
 | some (.dT _)=>True
 | some (.set _ _)=>True
 | some (.ins _ _ _)=>True
 | some (.ext _)=>True
 | _=>False
section
variable {P:Program} {w:World} {H:Hp} {h h':Heap} {x e:Addr} {o':HO}
theorem HOk.write (ok:HOk P w H h) (mu:Mut (H x)) (he:e=x∨H e=some (.own x)) (k:∀b u,b≠e→h.get? b=some u→h'.get? b=some u) (heo:∃u,h'.get? e=some u)
 (new:ObjOk P w (upd H x o') h' x o'):HOk P w (upd H x o') h':=fun b u q=>by
 have nown:∀c y,H c=some (.own y)→c≠x:=fun c y r z=>by subst z;rw [r] at mu;exact mu
 have ntup:∀c xs,H c=some (.tup xs)→c≠x:=fun c xs r z=>by subst z;rw [r] at mu;exact mu
 by_cases hb:b=x
 ·subst hb;rw [A1] at q;cases q;exact new
 ·rw [AC hb] at q
  by_cases hbe:b=e
  ·have q':H b=some (.own x):=by
    rcases he with z | z
    ·exact absurd (hbe.trans z) hb
    ·rw [hbe];exact z
   rw [q] at q';cases q'
   obtain ⟨v,hv⟩:=heo
   exact ⟨v,by rw [hbe];exact hv⟩
  ·refine (ok b u q).stay (fun c v hc r=>k c v ?_ r) (fun c r=>by rw [AC (nown c b r)];exact r) fun c xs r=>by rw [AC (ntup c xs r)];exact r
   rcases hc with rfl | hc
   ·exact hbe
   ·rintro rfl
    rcases he with z | z
    ·exact nown c b hc z
    ·rw [hc] at z;cases z;exact hb rfl
end
structure Un (fs ex:List Addr) (H H':Hp) (h h':Heap):Prop where
 keep:∀b o,h.get? b=some o→H b=none→b∉fs→b∉ex→h'.get? b=some o
 slot:∀b o,h.get? b=some o→H b=none→b∈fs→b∉ex→∃sl,h'.get? b=some { o with slots:=sl }
 free:∀b o,h.get? b=some o→H b=none→b∉ex→H' b=none
 there:∀b o,h.get? b=some o→b∉ex→∃o',h'.get? b=some o'
 tups:∀b xs,H b=some (.tup xs)→H' b=some (.tup xs)
 frzs:∀b o u,H b=some (.frz o u)→H' b=some (.frz o u)
 tbls:∀b ps,H b=some (.tbl ps)→∃more,H' b=some (.tbl (ps++more))
section
variable {fs fs' ex ex':List Addr} {H H1 H2:Hp} {h h1 h2 h':Heap} {a x e:Addr} {o:HO}
theorem Un.any (u:Un fs ex H H1 h h1) {b:Addr} {ob:Obj} (q:h.get? b=some ob) (n:H b=none) (hx:b∉ex):∃sl,h1.get? b=some { ob with slots:=sl }:=by
 by_cases hb:b∈fs
 ·exact u.slot b ob q n hb hx
 ·exact ⟨ob.slots,u.keep b ob q n hb hx⟩
theorem Un.kept (k:∀b u,h.get? b=some u→h'.get? b=some u):Un fs ex H H h h':=
 ⟨fun b ob q _ _ _=>k b ob q,fun b ob q _ _ _=>⟨ob.slots,k b ob q⟩,fun _ _ _ n _=>n,fun b ob q _=>⟨ob,k b ob q⟩,fun _ _ q=>q,fun _ _ _ q=>q,fun _ ps q=>⟨#[],by rw [q];simp⟩⟩
theorem Un.refl:Un fs ex H H h h:=Un.kept fun _ _ q=>q
theorem Un.laid (k:∀b u,h.get? b=some u→h'.get? b=some u) (hp:h.objs.size≤a) (hn:H a=none):Un fs ex H (upd H a o) h h' where
 keep:=fun b u q _ _ _=>k b u q
 slot:=fun b u q _ _ _=>⟨u.slots,k b u q⟩
 free:=fun b u q n _=>by rw [AC (Nat.ne_of_lt (Nat.lt_of_lt_of_le (Heap.lt_size q) hp))];exact n
 there:=fun b u q _=>⟨u,k b u q⟩
 tups:=fun b xs q=>by rw [AC (Bg q hn)];exact q
 frzs:=fun b u xs q=>by rw [AC (Bg q hn)];exact q
 tbls:=fun b ps q=>⟨#[],by rw [AC (Bg q hn),q];simp⟩
theorem Un.write (mu:Mut (H x)) (he:e=x∨H e=some (.own x)) (k:∀b u,b≠e→h.get? b=some u→h'.get? b=some u) (heo:∃u,h'.get? e=some u):Un fs ex H (upd H x o) h h':=by
 have hx:∀b,H b=none→b≠x:=fun b n z=>by subst z;rw [n] at mu;exact mu
 have hb:∀b,H b=none→b≠e:=fun b n z=>by
  subst z
  rcases he with r | r
  ·exact hx b n r
  ·rw [n] at r;cases r
 have hm:∀b u,H b=some u→¬Mut (some u)→b≠x:=fun b u q nm z=>by subst z;rw [q] at mu;exact nm mu
 refine ⟨fun b u q n _ _=>k b u (hb b n) q,fun b u q n _ _=>⟨u.slots,k b u (hb b n) q⟩,fun b u q n _=>by rw [AC (hx b n)];exact n,fun b u q _=>?_,
  fun b xs q=>by rw [AC (hm b _ q fun z=>z)];exact q,fun b u xs q=>by rw [AC (hm b _ q fun z=>z)];exact q,fun b ps q=>⟨#[],by rw [AC (hm b _ q fun z=>z),q];simp⟩⟩
 by_cases hbe:b=e
 ·subst hbe;exact heo
 ·exact ⟨u,k b u hbe q⟩
end
def trk (h:Heap) (H:Hp):List Addr:=(List.range h.objs.size).filter fun a=>(H a).isSome
def FM (h:Heap) (H:Hp):Heap:=PySem.W.hideAll h (trk h H)
theorem Op (h:Heap) (H:Hp):(FM h H).objs.size=h.objs.size:=PySem.W.hideAll_size _ _
theorem Px {h:Heap} {H:Hp} {b:Addr} {o:Obj} (e:h.get? b=some o) (n:H b=none):(FM h H).get? b=some o:=
 PySem.W.hideAll_get _ e fun hm=>by
  have q:(H b).isSome=true:=(List.mem_filter.mp hm).2
  rw [n] at q;simp at q
theorem RU {h:Heap} {H:Hp} {b:Addr} {o:Obj} (e:(FM h H).get? b=some o):h.get? b=some o∧H b=none:=by
 have e':h.get? b=some o:=PySem.W.of_hideAll (trk h H) e
 refine ⟨e',?_⟩
 cases q:H b with
 | none=>rfl
 | some x=>
   have hm:b∈trk h H:=List.mem_filter.mpr ⟨List.mem_range.mpr (Heap.lt_size e'),by simp [q]⟩
   have z:(FM h H).get? b=none:=PySem.W.hideAll_none (trk h H) hm
   rw [z] at e;cases e
def Q0 (g h:Heap) (L:Addr):List (Addr×Obj):=(List.range h.objs.size).filterMap fun a=>if a=L∨(g.get? a).isSome=true then none else (h.get? a).map fun o=>(a,o)
def rest (g h:Heap) (L d:Addr):List (Addr×Obj):=(Q0 g h L).filter fun p=>decide (p.1≠d)
structure Mod (K:PySem.W.Frag) (mg:Str→Option Value) (base:Heap):Prop where
 kin:K.In base
 glob:base.Ns mainGlobals mg
 blt:∃mb,base.Ns builtinsNs mb∧∀x:Str,x≠"__name__"→mb x=bootBuiltins x
 nolimit:base.NoLimit
structure Cx where
 prog:Program
 w:World
 K:PySem.W.Frag
 mg:Str→Option Value
 base:Heap
 A:Around
 N:List Str
 s₀:Shared
 H₀:Hp
 env:Env
 outer:List Env
 stack:List Env
 ex:List Addr
 fn:Str→Bool
 calm:Bool
 pn:List (Addr×Obj)
 xe:Value→Shared→Prop
def frs (l:List Env):List Addr:=l.filterMap (·.frame)
abbrev Cx.fs (X:Cx):List Addr:=frs X.outer
def Vis (sc:Scope) (x:Str):Prop:=sc.names.lookup x=some .local∨sc.names.lookup x=some .cell∨sc.names.lookup x=some .free
def Loc (sc:Scope) (x:Str):Prop:=sc.names.lookup x=some .local∨sc.names.lookup x=some .cell
def VR (env:Env) (h:Heap) (m:Str→Option Value) (x:Str) (u:Value):Prop:=
 (env.kindOf x=some .local∧m x=some u)∨((env.kindOf x=some .cell∨env.kindOf x=some .free)∧∃c,env.cells.lookup x=some c∧h.IsCell c (some u))
structure Cx.Ok (X:Cx):Prop where
 mod:Mod X.K X.mg X.base
 kind:X.env.scope.kind = .function
 glob:X.env.globals=mainGlobals
 blt:X.env.builtins=builtinsNs
 above:X.s₀.heap.objs.size≤X.env.locals
 inj:∀x y c,X.env.cells.lookup x=some c→X.env.cells.lookup y=some c→x=y
 has:∀x,(X.env.kindOf x=some .cell∨X.env.kindOf x=some .free)→∃c,X.env.cells.lookup x=some c
 cab:∀x c,X.fn x=true→X.env.cells.lookup x=some c→X.s₀.heap.objs.size≤c
 hd:X.calm=true→X.A.handled=none
 frames:X.A.frames=some X.stack
 stk:X.stack=X.outer∨(X.stack=X.env :: X.outer∧X.env.frame=some X.env.locals)
 exf:∀b∈X.ex,b≠X.env.locals∧∀x c,X.env.cells.lookup x=some c→c≠b
 bs:∀b o,X.base.get? b=some o→X.s₀.heap.get? b=some o∧X.H₀ b=none
 bsz:X.base.objs.size≤X.s₀.heap.objs.size
 noex:∀b o,X.base.get? b=some o→b∉X.ex
 exfs:∀b∈X.ex,b∉X.fs
 funs:X.s₀.heap.FunFrames X.base X.outer
 frf:∀b∈X.fs,X.H₀ b=none
structure Inv (X:Cx) (pins:List (Addr×Obj)) (σ:List (Option V)) (H:Hp) (s:Shared):Prop where
 ok:X.Ok
 os:s.os=X.s₀.os
 bare:AllBare s.gens
 base:Un X.fs X.ex X.H₀ H X.s₀.heap s.heap
 loc:∃m,s.heap.Ns X.env.locals m∧∀(i:Nat) (x:Str) (v:V),X.N[i]?=some x→σ[i]?=some (some v)→Vis X.env.scope x→∃u,RelV v u∧VR X.env s.heap m x u
 cell:∀x c,X.env.cells.lookup x=some c→∃v,s.heap.IsCell c v
 free:H X.env.locals=none
 freeC:∀x c,X.env.cells.lookup x=some c→H c=none
 pin:∀p∈X.pn++pins,s.heap.get? p.1=some p.2∧H p.1=none∧p.1≠X.env.locals∧p.1∉X.fs∧∀v,p.2.data≠.cell v
 hok:HOk X.prog X.w H s.heap
 len:σ.length=X.N.length
section
variable {X:Cx} {pins:List (Addr×Obj)} {σ:List (Option V)} {H H':Hp} {s:Shared} {h':Heap}
theorem Cx.Ok.nofr (ok:X.Ok) {b:Addr} {o:Obj} (e:X.base.get? b=some o):b∉X.fs:=fun hb=>by
 have:=(ok.funs.mem hb).1
 rw [e] at this;cases this
theorem Inv.bs (I:Inv X pins σ H s):∀b o,X.base.get? b=some o→s.heap.get? b=some o∧H b=none:=fun b o e=>
 ⟨I.base.keep b o (I.ok.bs b o e).1 (I.ok.bs b o e).2 (I.ok.nofr e) (I.ok.noex b o e),I.base.free b o (I.ok.bs b o e).1 (I.ok.bs b o e).2 (I.ok.noex b o e)⟩
theorem Inv.bk (I:Inv X pins σ H s):∀b o,X.base.get? b=some o→s.heap.get? b=some o:=fun b o e=>(I.bs b o e).1
theorem Inv.mod (I:Inv X pins σ H s):Mod X.K X.mg X.base:=I.ok.mod
theorem Inv.kIn (I:Inv X pins σ H s):X.K.In s.heap:=I.ok.mod.kin.keeps I.bk
theorem Inv.lt (I:Inv X pins σ H s):X.env.locals < s.heap.objs.size:=let ⟨_,hn,_⟩:=I.loc;hn.lt
theorem Inv.sz (I:Inv X pins σ H s):X.s₀.heap.objs.size≤s.heap.objs.size:=Nat.le_trans I.ok.above (Nat.le_of_lt I.lt)
theorem Inv.nofs (I:Inv X pins σ H s) {a:Addr} (h:s.heap.objs.size≤a):a∉X.fs:=fun hb=>by
 obtain ⟨_,o,ho,_⟩:=I.ok.funs.mem hb
 exact absurd (Nat.lt_of_lt_of_le (Heap.lt_size ho) (Nat.le_trans I.sz h)) (Nat.lt_irrefl _)
theorem Inv.cne (I:Inv X pins σ H s):∀x c,X.env.cells.lookup x=some c→c≠X.env.locals:=fun x c e z=>by
 obtain ⟨v,o,ho,hd⟩:=I.cell x c e
 obtain ⟨m,⟨o',es,ep,ho',hd',_⟩,_⟩:=I.loc
 rw [z,ho'] at ho;cases ho;rw [hd'] at hd;cases hd
theorem Inv.funs (I:Inv X pins σ H s):s.heap.FunFrames X.base X.outer:=by
 have all:∀(l:List Env),(∀b∈frs l,b∈X.fs)→X.s₀.heap.FunFrames X.base l→s.heap.FunFrames X.base l:=by
  intro l
  induction l with
  | nil=>intro _ _;trivial
  | cons env r ih=>
    intro hs hl
    obtain ⟨hk,⟨L,o,hf,hn,ho,hd⟩,hr⟩:=hl
    have hL:L∈X.fs:=hs L (by unfold frs;rw [List.filterMap_cons,hf];exact List.mem_cons_self)
    obtain ⟨sl,e⟩:=I.base.slot L o ho (I.ok.frf L hL) hL fun z=>I.ok.exfs L z hL
    exact ⟨hk,⟨L,_,hf,hn,e,hd⟩,ih (fun b hb=>hs b (by unfold frs;rw [List.filterMap_cons,hf];exact List.mem_cons_of_mem _ hb)) hr⟩
 exact all X.outer (fun _ hb=>hb) I.ok.funs
theorem Inv.stack (I:Inv X pins σ H s):s.heap.FunFrames X.base X.stack:=by
 rcases I.ok.stk with e | ⟨e,hf⟩
 ·rw [e];exact I.funs
 ·rw [e]
  obtain ⟨m,hn,_⟩:=I.loc
  refine .cons (by rw [I.ok.kind];decide) hf hn ?_ I.funs
  exact Heap.get?_none_of_le (Nat.le_trans I.ok.bsz I.ok.above)
theorem Inv.stkSub (I:Inv X pins σ H s):∀b∈frs X.stack,b∈X.env.locals :: X.fs:=fun b hb=>by
 rcases I.ok.stk with e | ⟨e,hf⟩
 ·rw [e] at hb;exact List.mem_cons_of_mem _ hb
 ·rw [e] at hb
  unfold frs at hb
  rw [List.filterMap_cons,hf] at hb
  exact hb
theorem Inv.stkFree (I:Inv X pins σ H s):∀b∈frs X.stack,H b=none:=fun b hb=>by
 rcases List.mem_cons.mp (I.stkSub b hb) with e | hb
 ·rw [e];exact I.free
 ·obtain ⟨_,o,ho,_⟩:=I.ok.funs.mem hb
  exact I.base.free b o ho (I.ok.frf b hb) fun z=>I.ok.exfs b z hb
theorem Inv.step {g':Array GenState} {t':Nat} {d':Drawn} {ch:List Addr} (I:Inv X pins σ H s)
 (hch:∀b∈ch,(b∈X.ex∨X.s₀.heap.objs.size≤b)∧b≠X.env.locals∧(∀x c,X.env.cells.lookup x=some c→c≠b)∧∀p∈X.pn++pins,p.1≠b)
 (keep:∀b o,b≠X.env.locals→b∉X.fs→b∉ch→s.heap.get? b=some o→H b=none→h'.get? b=some o)
 (slot:∀b o,b≠X.env.locals→b∈X.fs→b∉ch→s.heap.get? b=some o→H b=none→∃sl,h'.get? b=some { o with slots:=sl }) (free:∀b o,b∉ch→s.heap.get? b=some o→H b=none→H' b=none)
 (there:∀b o,b∉ch→s.heap.get? b=some o→∃o',h'.get? b=some o')
 (tups:∀b xs,H b=some (.tup xs)→H' b=some (.tup xs)) (frzs:∀b o u,H b=some (.frz o u)→H' b=some (.frz o u)) (tbls:∀b ps,H b=some (.tbl ps)→∃more,H' b=some (.tbl (ps++more)))
 (ns:∀m,s.heap.Ns X.env.locals m→h'.Ns X.env.locals m) (hok:HOk X.prog X.w H' h') (hg:AllBare g') :
 Inv X pins σ H' { s with heap:=h',gens:=g',drawn:=d',toks:=t' }:=by
 have neL:∀b o,X.s₀.heap.get? b=some o→b≠X.env.locals:=fun b o e=>Nat.ne_of_lt (Nat.lt_of_lt_of_le (Heap.lt_size e) I.ok.above)
 have neC:∀b o,X.s₀.heap.get? b=some o→b∉X.ex→b∉ch:=fun b o e hx hb=>by
  rcases (hch b hb).1 with z | z
  ·exact hx z
  ·exact absurd (Nat.lt_of_lt_of_le (Heap.lt_size e) z) (Nat.lt_irrefl _)
 have cellK:∀x c,X.env.cells.lookup x=some c→∀v,s.heap.IsCell c v→h'.IsCell c v:=fun x c e v ⟨o,ho,hd⟩=>by
  have nch:c∉ch:=fun z=>(hch c z).2.2.1 x c e rfl
  by_cases hc:c∈X.fs
  ·obtain ⟨sl,q⟩:=slot c o (I.cne x c e) hc nch ho (I.freeC x c e)
   exact ⟨_,q,hd⟩
  ·exact ⟨o,keep c o (I.cne x c e) hc nch ho (I.freeC x c e),hd⟩
 refine ⟨I.ok,I.os,hg,⟨fun b o e n hb hx=>?_,fun b o e n hb hx=>?_,fun b o e n hx=>?_,fun b o e hx=>?_,fun b xs e=>tups b xs (I.base.tups b xs e),fun b o xs e=>frzs b o xs (I.base.frzs b o xs e),fun b ps e=>?_⟩,?_,fun x c e=>?_,?_,fun x c e=>?_,fun p hp=>?_,hok,I.len⟩
 ·exact keep b o (neL b o e) hb (neC b o e hx) (I.base.keep b o e n hb hx) (I.base.free b o e n hx)
 ·obtain ⟨sl,e1⟩:=I.base.slot b o e n hb hx
  obtain ⟨sl',e2⟩:=slot b _ (neL b o e) hb (neC b o e hx) e1 (I.base.free b o e n hx)
  exact ⟨sl',e2⟩
 ·obtain ⟨o',e1⟩:=I.base.there b o e hx
  exact free b o' (neC b o e hx) e1 (I.base.free b o e n hx)
 ·obtain ⟨o',e1⟩:=I.base.there b o e hx
  exact there b o' (neC b o e hx) e1
 ·obtain ⟨m1,e1⟩:=I.base.tbls b ps e
  obtain ⟨m2,e2⟩:=tbls b _ e1
  exact ⟨m1++m2,by rw [e2,Array.append_assoc]⟩
 ·obtain ⟨m,hn,hl⟩:=I.loc
  refine ⟨m,ns m hn,fun i x v e1 e2 e3=>?_⟩
  obtain ⟨u,r,l⟩:=hl i x v e1 e2 e3
  refine ⟨u,r,?_⟩
  rcases l with l | ⟨k,c,e,z⟩
  ·exact .inl l
  ·exact .inr ⟨k,c,e,cellK x c e _ z⟩
 ·obtain ⟨v,z⟩:=I.cell x c e
  exact ⟨v,cellK x c e v z⟩
 ·obtain ⟨m,⟨o,_,_,ho,_⟩,_⟩:=I.loc
  exact free _ o (fun z=>(hch _ z).2.1 rfl) ho I.free
 ·obtain ⟨v,o,ho,hd⟩:=I.cell x c e
  exact free c o (fun z=>(hch c z).2.2.1 x c e rfl) ho (I.freeC x c e)
 ·obtain ⟨e,n,ne,nf,d⟩:=I.pin p hp
  have nch:p.1∉ch:=fun z=>(hch p.1 z).2.2.2 p hp rfl
  exact ⟨keep p.1 p.2 ne nf nch e n,free p.1 p.2 nch e n,ne,nf,d⟩
theorem Inv.un {t':Nat} (I:Inv X pins σ H s) (u:Un X.fs [] H H' s.heap h') (hok:HOk X.prog X.w H' h'):Inv X pins σ H' { s with heap:=h',toks:=t' }:=by
 obtain ⟨m,⟨o,es,ep,ho,r⟩,_⟩:=id I.loc
 obtain ⟨sl,hL⟩:=u.any ho I.free (by simp)
 exact I.step (g':=s.gens) (d':=s.drawn) (ch:=[]) (fun _ z=>nomatch z) (fun b o _ hb _ e n=>u.keep b o e n hb (by simp)) (fun b o _ hb _ e n=>u.slot b o e n hb (by simp)) (fun b o _ e n=>u.free b o e n (by simp)) (fun b o _ e=>u.there b o e (by simp)) u.tups u.frzs u.tbls (fun m' hm=>by
  obtain ⟨o',es',ep',ho',r'⟩:=hm
  rw [ho] at ho';cases ho'
  exact ⟨_,es',ep',hL,r'⟩) hok I.bare
theorem Inv.call {g':Array GenState} {t':Nat} {d':Drawn} {ch:List Addr} (I:Inv X pins σ H s) (u:Un (frs X.stack) ch H H' s.heap h') (hok:HOk X.prog X.w H' h') (hg:AllBare g')
 (hch:∀b∈ch,(b∈X.ex∨X.s₀.heap.objs.size≤b)∧b≠X.env.locals∧(∀x c,X.env.cells.lookup x=some c→c≠b)∧∀p∈X.pn++pins,p.1≠b) :
 Inv X pins σ H' { s with heap:=h',gens:=g',drawn:=d',toks:=t' }:=by
 obtain ⟨m,⟨o,es,ep,ho,r⟩,_⟩:=id I.loc
 obtain ⟨sl,hL⟩:=u.any ho I.free fun z=>(hch _ z).2.1 rfl
 exact I.step (ch:=ch) hch (fun b o hL hb hc e n=>u.keep b o e n (fun z=>(List.mem_cons.mp (I.stkSub b z)).elim hL hb) hc) (fun b o _ _ hc e n=>u.any e n hc) (fun b o hc e n=>u.free b o e n hc) (fun b o hc e=>u.there b o e hc) u.tups u.frzs u.tbls (fun m' hm=>by
  obtain ⟨o',es',ep',ho',r'⟩:=hm
  rw [ho] at ho';cases ho'
  exact ⟨_,es',ep',hL,r'⟩) hok hg
theorem Inv.turned {t':Nat} {it:Addr} (I:Inv X pins σ H s) (k:∀b o,b≠it→s.heap.get? b=some o→h'.get? b=some o) (hn:H it=none) (hL:it≠X.env.locals)
 (h1:it∈X.ex∨X.s₀.heap.objs.size≤it) (h2:∀x c,X.env.cells.lookup x=some c→c≠it) (h3:∀p∈X.pn++pins,p.1≠it):Inv X pins σ H { s with heap:=h',toks:=t' }:=by
 have nit:∀b u,H b=some u→b≠it:=fun b u e z=>by rw [z,hn] at e;cases e
 refine I.step (g':=s.gens) (d':=s.drawn) (ch:=[it]) (fun b hb=>?_) (fun b o _ _ hc e _=>k b o (fun z=>hc (by simp [z])) e) (fun b o _ _ hc e _=>⟨o.slots,k b o (fun z=>hc (by simp [z])) e⟩) (fun _ _ _ _ n=>n)
  (fun b o hc e=>⟨o,k b o (fun z=>hc (by simp [z])) e⟩) (fun _ _ e=>e) (fun _ _ _ e=>e) (fun b ps e=>⟨#[],by rw [e];simp⟩) (fun m hm=>?_) (fun b u e=>?_) I.bare
 ·have e:b=it:=by simpa using hb
  subst e
  exact ⟨h1,hL,h2,h3⟩
 ·obtain ⟨o,es,ep,ho,r⟩:=hm
  exact ⟨o,es,ep,k _ o (Ne.symm hL) ho,r⟩
 ·refine (I.hok b u e).stay (fun c v hc q=>k c v ?_ q) (fun _ q=>q) fun _ _ q=>q
  rcases hc with z | z
  ·rw [z];exact nit b u e
  ·exact nit c _ z
theorem Inv.tok (I:Inv X pins σ H s) (t:Nat):Inv X pins σ H { s with toks:=t }:=I.un (h':=s.heap) (t':=t) Un.refl I.hok
theorem Inv.kept {t':Nat} (I:Inv X pins σ H s) (k:∀b u,s.heap.get? b=some u→h'.get? b=some u):Inv X pins σ H { s with heap:=h',toks:=t' }:=I.un (Un.kept k) (I.hok.kept k)
theorem Inv.laid {a:Addr} {o:HO} {t':Nat} (I:Inv X pins σ H s) (k:∀b u,s.heap.get? b=some u→h'.get? b=some u) (hp:s.heap.objs.size≤a) (new:ObjOk X.prog X.w (upd H a o) h' a o) :
 Inv X pins σ (upd H a o) { s with heap:=h',toks:=t' }:=I.un (Un.laid k hp (I.hok.fresh hp)) (I.hok.laid k hp new)
theorem Inv.write {x e:Addr} {o:HO} {t':Nat} (I:Inv X pins σ H s) (mu:Mut (H x)) (he:e=x∨H e=some (.own x)) (k:∀b u,b≠e→s.heap.get? b=some u→h'.get? b=some u) (heo:∃u,h'.get? e=some u)
 (new:ObjOk X.prog X.w (upd H x o) h' x o):Inv X pins σ (upd H x o) { s with heap:=h',toks:=t' }:=I.un (Un.write mu he k heo) (I.hok.write mu he k heo new)
theorem Inv.pins_of {pins':List (Addr×Obj)} (I:Inv X pins σ H s) (h:∀p∈pins',s.heap.get? p.1=some p.2∧H p.1=none∧p.1≠X.env.locals∧p.1∉X.fs∧∀v,p.2.data≠.cell v):Inv X pins' σ H s:=
 ⟨I.ok,I.os,I.bare,I.base,I.loc,I.cell,I.free,I.freeC,fun p hp=>(List.mem_append.mp hp).elim (fun z=>I.pin p (List.mem_append_left _ z)) (h p),I.hok,I.len⟩
theorem Hr {N:List Str} (hN:N.Nodup) {i j:Nat} {x:Str} (a:N[i]?=some x) (b:N[j]?=some x):i=j:=by
 obtain ⟨h1,e1⟩:=List.getElem?_eq_some_iff.mp a
 obtain ⟨h2,e2⟩:=List.getElem?_eq_some_iff.mp b
 exact (List.getElem_inj hN).mp (e1.trans e2.symm)
theorem OW {M:Model} {A:Around} {E:Value→Shared→Prop} {i:Nat} {x:Str} {v:V} {u:Value} {Q:Unit→Shared→Prop} (I:Inv X pins σ H s) (hN:X.N.Nodup) (hi:X.N[i]?=some x) (hx:Loc X.env.scope x) (r:RelV v u)
 (h:∀s',Inv X pins (σ.set i (some v)) H s'→(∃a,Heap.SameBut a s.heap s'.heap∧(a=X.env.locals∨X.env.cells.lookup x=some a))→Q () s') (hf:X.fn x=true∨X.env.scope.names.lookup x=some .local:=by first | exact .inl rfl | exact .inr rfl | assumption):wpAny M A (storeName X.env x u) Q E s:=by
 obtain ⟨m,hn,hl⟩:=id I.loc
 have hcls:(X.env.scope.kind == .class || (X.env.scope.kind == .module && X.env.locals != X.env.globals))=false:=by rw [I.ok.kind];rfl
 have hiσ:i < σ.length:=by rw [I.len];exact (List.getElem?_eq_some_iff.mp hi).1
 have cne:=I.cne
 have tracked:∀{a:Addr} {h':Heap},(∃o,s.heap.get? a=some o∧H a=none)→Heap.SameBut a s.heap h'→HOk X.prog X.w H h':=fun {a h'} ha hs b ob e=>by
  obtain ⟨_,_,hfree⟩:=ha
  refine (I.hok b ob e).stay (fun c w' hc q=>(hs.2 c ?_).trans q) (fun _ q=>q) fun _ _ q=>q
  rintro rfl
  rcases hc with rfl | hc
  ·rw [hfree] at e;cases e
  ·rw [hfree] at hc;cases hc
 rcases hx with hk | hk
 ·refine wpAny_storeName_local hk hn (fun h' hn' hs=>?_) hcls
  obtain ⟨oL,_,_,hoL,_⟩:=id hn
  refine h _ ⟨I.ok,I.os,I.bare,⟨fun b o e n hb hx=>?_,fun b o e n hb hx=>?_,I.base.free,fun b o e hx=>?_,I.base.tups,I.base.frzs,I.base.tbls⟩,⟨_,hn',fun j y v' e1 e2 e3=>?_⟩,fun y c e=>?_,I.free,I.freeC,fun p hp=>?_,tracked ⟨oL,hoL,I.free⟩ hs,by simpa using I.len⟩ ⟨_,hs,.inl rfl⟩
  ·exact (hs.2 b (Nat.ne_of_lt (Nat.lt_of_lt_of_le (Heap.lt_size e) I.ok.above))).trans (I.base.keep b o e n hb hx)
  ·obtain ⟨sl,e1⟩:=I.base.slot b o e n hb hx
   exact ⟨sl,(hs.2 b (Nat.ne_of_lt (Nat.lt_of_lt_of_le (Heap.lt_size e) I.ok.above))).trans e1⟩
  ·obtain ⟨o',e1⟩:=I.base.there b o e hx
   exact ⟨o',(hs.2 b (Nat.ne_of_lt (Nat.lt_of_lt_of_le (Heap.lt_size e) I.ok.above))).trans e1⟩
  ·by_cases hj:j=i
   ·subst hj
    rw [hi] at e1;cases e1
    rw [List.getElem?_set_self hiσ] at e2
    cases e2
    exact ⟨u,r,.inl ⟨hk,by simp⟩⟩
   ·rw [List.getElem?_set_ne (Ne.symm hj)] at e2
    obtain ⟨u',r',q⟩:=hl j y v' e1 e2 e3
    refine ⟨u',r',?_⟩
    rcases q with ⟨k,e⟩ | ⟨k,c,e,z⟩
    ·refine .inl ⟨k,?_⟩
     have:y≠x:=fun e=>hj (Hr hN e1 (e ▸ hi))
     simp [this,e]
    ·exact .inr ⟨k,c,e,z.sameBut hs (cne y c e)⟩
  ·obtain ⟨w',z⟩:=I.cell y c e
   exact ⟨w',z.sameBut hs (cne y c e)⟩
  ·obtain ⟨e,n,ne,nf,d⟩:=I.pin p hp
   exact ⟨(hs.2 p.1 ne).trans e,n,ne,nf,d⟩
 ·have hfn:X.fn x=true:=by
   rcases hf with z | z
   ·exact z
   ·rw [z] at hk;cases hk
  obtain ⟨c,hc⟩:=I.ok.has x (.inl hk)
  obtain ⟨w',z⟩:=I.cell x c hc
  refine wpAny_storeName_cell I.ok.kind hk hc z (fun h' hc' hs=>?_)
  obtain ⟨oc,hoc,hocd⟩:=id z
  refine h { s with heap:=h' } ⟨I.ok,I.os,I.bare,⟨fun b o e n hb hx=>?_,fun b o e n hb hx=>?_,I.base.free,fun b o e hx=>?_,I.base.tups,I.base.frzs,I.base.tbls⟩,⟨m,hn.sameBut hs (Ne.symm (cne x c hc)),fun j y v' e1 e2 e3=>?_⟩,fun y c' e=>?_,I.free,I.freeC,fun p hp=>?_,tracked ⟨oc,hoc,I.freeC x c hc⟩ hs,by simpa using I.len⟩ ⟨c,hs,.inr hc⟩
  ·exact (hs.2 b (Nat.ne_of_lt (Nat.lt_of_lt_of_le (Heap.lt_size e) (I.ok.cab x c hfn hc)))).trans (I.base.keep b o e n hb hx)
  ·obtain ⟨sl,e1⟩:=I.base.slot b o e n hb hx
   exact ⟨sl,(hs.2 b (Nat.ne_of_lt (Nat.lt_of_lt_of_le (Heap.lt_size e) (I.ok.cab x c hfn hc)))).trans e1⟩
  ·obtain ⟨o',e1⟩:=I.base.there b o e hx
   exact ⟨o',(hs.2 b (Nat.ne_of_lt (Nat.lt_of_lt_of_le (Heap.lt_size e) (I.ok.cab x c hfn hc)))).trans e1⟩
  ·by_cases hj:j=i
   ·subst hj
    rw [hi] at e1;cases e1
    rw [List.getElem?_set_self hiσ] at e2
    cases e2
    exact ⟨u,r,.inr ⟨.inl hk,c,hc,hc'⟩⟩
   ·rw [List.getElem?_set_ne (Ne.symm hj)] at e2
    obtain ⟨u',r',q⟩:=hl j y v' e1 e2 e3
    refine ⟨u',r',?_⟩
    rcases q with q | ⟨k,c',e,z'⟩
    ·exact .inl q
    ·refine .inr ⟨k,c',e,z'.sameBut hs ?_⟩
     rintro rfl
     exact hj (Hr hN e1 (I.ok.inj _ _ _ e hc ▸ hi))
  ·by_cases hcc:c'=c
   ·subst hcc;exact ⟨_,hc'⟩
   ·obtain ⟨w2,z2⟩:=I.cell y c' e
    exact ⟨w2,z2.sameBut hs hcc⟩
  ·obtain ⟨e,n,ne,nf,d⟩:=I.pin p hp
   refine ⟨(hs.2 p.1 ?_).trans e,n,ne,nf,d⟩
   intro q
   rw [q,hoc] at e
   have q':oc=p.2:=Option.some.inj e
   exact d w' (by rw [←q'];exact hocd)
theorem FW {M:Model} {A:Around} {E:Value→Shared→Prop} {i:Nat} {x:Str} {v:V} {u:Value} {Q:Unit→Shared→Prop} (I:Inv X pins σ H s) (hN:X.N.Nodup) (hi:X.N[i]?=some x) (hx:Loc X.env.scope x) (r:RelV v u)
 (h:∀s',Inv X pins (σ.set i (some v)) H s'→Q () s') (hf:X.fn x=true∨X.env.scope.names.lookup x=some .local:=by first | exact .inl rfl | exact .inr rfl | assumption):wpAny M A (storeName X.env x u) Q E s:=
 OW I hN hi hx r (fun s' I' _=>h s' I') hf
theorem Inv.call' {s':Shared} {ch:List Addr} (I:Inv X pins σ H s) (ho:s'.os=s.os) (u:Un (frs X.stack) ch H H' s.heap s'.heap) (hok:HOk X.prog X.w H' s'.heap) (hg:AllBare s'.gens)
 (hch:∀b∈ch,(b∈X.ex∨X.s₀.heap.objs.size≤b)∧b≠X.env.locals∧(∀x c,X.env.cells.lookup x=some c→c≠b)∧∀p∈X.pn++pins,p.1≠b):Inv X pins σ H' s':=by
 obtain ⟨h',g',d',t',o'⟩:=s'
 have e:o'=s.os:=ho
 subst e
 exact I.call (g':=g') (t':=t') (d':=d') u hok hg hch
end
abbrev XK:=Value→Option Addr→Hp→Prop
abbrev St:=List (Option V)
abbrev VK:=V→Hp→Prop
abbrev TE:=St→Hp→VK→Prop
abbrev TT:=St→Hp→(Bool→Hp→Prop)→Prop
abbrev TA:=St→Hp→(List V→Hp→Prop)→Prop
structure Ends where
 nx:St→Hp→Prop
 rt:VK
 bk:St→Hp→Prop:=fun _ _=>False
 ct:St→Hp→Prop:=fun _ _=>False
abbrev TS:=Ends→St→Hp→Prop
def EP (X:Cx) (pins:List (Addr×Obj)) (σ:St) (Q:VK) (u:Value) (s':Shared):Prop:=∃v H',Inv X pins σ H' s'∧RelV v u∧Q v H'
def TP (X:Cx) (pins:List (Addr×Obj)) (σ:St) (Q:Bool→Hp→Prop) (b:Bool) (s':Shared):Prop:=∃H',Inv X pins σ H' s'∧Q b H'
def AP (X:Cx) (pins:List (Addr×Obj)) (σ:St) (Q:List V→Hp→Prop) (us:List Value) (s':Shared):Prop:=∃vs H',Inv X pins σ H' s'∧Vals vs us∧Q vs H'
def SP (X:Cx) (pins:List (Addr×Obj)) (D:Ends) (f:Flow) (s':Shared):Prop:=
 match f with
 | .next=>∃σ' H',Inv X pins σ' H' s'∧D.nx σ' H'
 | .brk=>∃σ' H',Inv X pins σ' H' s'∧D.bk σ' H'
 | .cont=>∃σ' H',Inv X pins σ' H' s'∧D.ct σ' H'
 | .ret u=>∃v σ' H',Inv X pins σ' H' s'∧RelV v u∧D.rt v H'
def PE (X:Cx) (e:Expr) (t:TE):Prop:=
 ∀(pins:List (Addr×Obj)) (s:Shared) (σ:St) (H:Hp) (Q:VK),Inv X pins σ H s→t σ H Q→wpAny (model X.prog X.w) X.A (eval e X.env) (EP X pins σ Q) X.xe s
def PT (X:Cx) (e:Expr) (t:TT):Prop:=
 ∀(pins:List (Addr×Obj)) (s:Shared) (σ:St) (H:Hp) (Q:Bool→Hp→Prop),Inv X pins σ H s→t σ H Q→wpAny (model X.prog X.w) X.A (isTrue e X.env (eval e X.env)) (TP X pins σ Q) X.xe s
def PW (X:Cx) (e:Expr) (t:TT):Prop:=
 ∀(whole:Sem Value) (pins:List (Addr×Obj)) (s:Shared) (σ:St) (H:Hp) (Q:Bool→Hp→Prop),Inv X pins σ H s→t σ H Q→wpAny (model X.prog X.w) X.A (isTrue e X.env whole) (TP X pins σ Q) X.xe s
theorem PW.pt {X:Cx} {e:Expr} {t:TT} (h:PW X e t):PT X e t:=h _
def PA (X:Cx) (es:List Expr) (t:TA):Prop:=
 ∀(pos:Pos) (pins:List (Addr×Obj)) (s:Shared) (σ:St) (H:Hp) (Q:List V→Hp→Prop),Inv X pins σ H s→t σ H Q→wpAny (model X.prog X.w) X.A (spliced (backTo pos (starEach es X.env))) (AP X pins σ Q) X.xe s
def PS (X:Cx) (st:Stmt) (t:TS):Prop:=
 ∀(pins:List (Addr×Obj)) (s:Shared) (σ:St) (H:Hp) (D:Ends),Inv X pins σ H s→t D σ H→wpAny (model X.prog X.w) X.A (exec st X.env) (SP X pins D) X.xe s
def PSs (X:Cx) (st:List Stmt) (t:TS):Prop:=
 ∀(pins:List (Addr×Obj)) (s:Shared) (σ:St) (H:Hp) (D:Ends),Inv X pins σ H s→t D σ H→wpAny (model X.prog X.w) X.A (execs st X.env) (SP X pins D) X.xe s
theorem thn {α:Type} {t:Sem α} {Q Q':α→Shared→Prop} {M:Model} {A:Around} {E:Value→Shared→Prop} {s:Shared} (h:wpAny M A t Q E s) (hQ:∀a s,Q a s→Q' a s):wpAny M A t Q' E s:=wpAny_mono h hQ fun _ _ x=>x
section
variable {X:Cx}
def Uq (i:Nat):TE:=fun σ H Q=>∃v,σ[i]?=some (some v)∧Q v H
def tC (v:V):TE:=fun _ H Q=>Q v H
theorem Ft {i:Nat} {x:Str} {pos:Pos} (hN:X.N[i]?=some x) (hv:Vis X.env.scope x) (hd:(x == ("__debug__" : Str))=false:=by decide) (hcd:(x == ("__classdict__" : Str))=false:=by decide):PE X (.Name x pos) (Uq i):=by
 intro pins s σ H Q I h
 obtain ⟨v,e,h⟩:=h
 obtain ⟨m,hn,hl⟩:=I.loc
 obtain ⟨u,r,l⟩:=hl i x v hN e hv
 have fin:EP X pins σ Q u s:=⟨v,H,I,r,h⟩
 rcases l with ⟨hk,hm⟩ | ⟨hk,c,hc,hcell⟩
 ·exact wpAny_Name (wpAny_loadName_local I.ok.kind hk hn hm fin) hd
 ·rcases hk with hk | hk
  ·exact wpAny_Name (wpAny_loadName_cell I.ok.kind hk hc hcell fin) hd
  ·exact wpAny_Name (wpAny_loadName_free I.ok.kind hk hc hcell fin hcd) hd
theorem TH {i j pos}:PE X (.Constant (.int i) j pos) (tC (.int i)):=fun _ _ _ H _ I h=>wpAny_Constant_int ⟨.int i,H,I.tok _,⟨_,rfl⟩,h⟩
theorem UU {b j pos}:PE X (.Constant (.bool b) j pos) (tC (.bl b)):=fun _ _ _ H _ I h=>Constant_bool ⟨.bl b,H,I,rfl,h⟩
theorem TK {j pos}:PE X (.Constant .none j pos) (tC .non):=fun _ _ _ H _ I h=>Constant_none ⟨.non,H,I,rfl,h⟩
theorem OG {x j pos}:PE X (.Constant (.str x) j pos) (tC (.str x)):=fun _ _ _ H _ I h=>Calls.Constant_str ⟨.str x,H,I.tok _,⟨_,rfl⟩,h⟩
def Gl (X:Cx) (x:Str):Prop:=X.env.kindOf x=some .globalImplicit
theorem Fm {E:Value→Shared→Prop} {pins:List (Addr×Obj)} {s:Shared} {σ:St} {H:Hp} {x:Str} {u:Value} {pos:Pos} {Q:Value→Shared→Prop} (I:Inv X pins σ H s) (hg:Gl X x) (hm:X.mg x=some u) (h:Q u s)
 (hd:(x == ("__debug__" : Str))=false:=by decide):wpAny (model X.prog X.w) X.A (eval (.Name x pos) X.env) Q E s:=
 Calls.Name_function_global I.ok.kind hg (Calls.loadGlobal_global (by rw [I.ok.glob];exact I.mod.glob.keeps I.bk) hm h) hd
theorem Gm {E:Value→Shared→Prop} {pins:List (Addr×Obj)} {s:Shared} {σ:St} {H:Hp} {x:Str} {u:Value} {pos:Pos} {Q:Value→Shared→Prop} (I:Inv X pins σ H s) (hg:Gl X x) (hm:X.mg x=none) (hv:bootBuiltins x=some u) (h:Q u s)
 (hn:x≠"__name__":=by decide) (hd:(x == ("__debug__" : Str))=false:=by decide):wpAny (model X.prog X.w) X.A (eval (.Name x pos) X.env) Q E s:=by
 obtain ⟨mb,h1,h2⟩:=I.mod.blt
 exact Calls.Name_function_global I.ok.kind hg (Calls.loadGlobal_builtin (by rw [I.ok.glob];exact I.mod.glob.keeps I.bk) hm (by rw [I.ok.blt];exact h1.keeps I.bk) ((h2 x hn).trans hv) h) hd
theorem MM {x:Str} {v:V} {u:Value} {pos:Pos} (hg:Gl X x) (hm:X.mg x=some u) (r:RelV v u) (hd:(x == ("__debug__" : Str))=false:=by decide):PE X (.Name x pos) (tC v):=
 fun _ _ _ H _ I h=>Fm I hg hm ⟨v,H,I,r,h⟩ hd
theorem MK {x:Str} {v:V} {u:Value} {pos:Pos} (hg:Gl X x) (hm:X.mg x=none) (hv:bootBuiltins x=some u) (r:RelV v u) (hn:x≠"__name__":=by decide) (hd:(x == ("__debug__" : Str))=false:=by decide):PE X (.Name x pos) (tC v):=
 fun _ _ _ H _ I h=>Gm I hg hm hv ⟨v,H,I,r,h⟩ hn hd
variable {a b:Expr} {ta tb:TE} {pos:Pos}
def tB (t:TE):TT:=fun σ H Q=>t σ H fun x H1=>∃c,x = .bl c∧Q c H1
theorem T0 {e:Expr} {t:TE} (h:PE X e t) (he:∀whole,isTrue e X.env whole=(do let v ←whole;standAt e.pos;holding [v] (truthy v)):=by intro _;rfl):PT X e (tB t):=by
 intro pins s σ H Q I hw
 refine isTrue_plain (thn (h pins s σ H _ I hw) fun v s1 ⟨x,H1,I1,r1,q1⟩=>?_) (he _)
 obtain ⟨d,rfl,q⟩:=q1
 cases r1
 exact wpAny_truthy_bool ⟨H1,I1,q⟩
variable {tA tB':TT} {rest:List Expr}
def Wj (t u:TT):TT:=fun σ H Q=>t σ H fun c H1=>if c=true then u σ H1 Q else Q false H1
def tOr (t u:TT):TT:=fun σ H Q=>t σ H fun c H1=>if c=true then Q true H1 else u σ H1 Q
def Wn (t:TT):TT:=fun σ H Q=>t σ H fun c H1=>Q (!c) H1
theorem Sg (ha:PT X a tA):PW X (.BoolOp .And [a] pos) tA:=by
 intro wh pins s σ H Q I h
 refine isTrue_and (thn (ha pins s σ H Q I h) fun c s1 e=>?_)
 cases c with
 | true=>exact isTrue_and_nil e
 | false=>exact e
theorem T3 (ha:PT X a tA):PW X (.BoolOp .Or [a] pos) tA:=by
 intro wh pins s σ H Q I h
 refine isTrue_or (thn (ha pins s σ H Q I h) fun c s1 e=>?_)
 cases c with
 | false=>exact isTrue_or_nil e
 | true=>exact e
theorem T2 (ha:PT X a tA) (hb:PW X (.BoolOp .And (b :: rest) pos) tB'):PW X (.BoolOp .And (a :: b :: rest) pos) (Wj tA tB'):=by
 intro wh pins s σ H Q I h
 refine isTrue_and (thn (ha pins s σ H _ I h) fun c s1 ⟨H1,I1,q1⟩=>?_)
 cases c with
 | true=>exact hb wh pins s1 σ H1 Q I1 q1
 | false=>exact ⟨H1,I1,q1⟩
theorem U4 (ha:PT X a tA) (hb:PW X (.BoolOp .Or (b :: rest) pos) tB'):PW X (.BoolOp .Or (a :: b :: rest) pos) (tOr tA tB'):=by
 intro wh pins s σ H Q I h
 refine isTrue_or (thn (ha pins s σ H _ I h) fun c s1 ⟨H1,I1,q1⟩=>?_)
 cases c with
 | true=>exact ⟨H1,I1,q1⟩
 | false=>exact hb wh pins s1 σ H1 Q I1 q1
theorem TZ (ha:PT X a tA):PT X (.UnaryOp .Not a pos) (Wn tA):=by
 intro pins s σ H Q I h
 exact isTrue_not (ha pins s σ H (fun c H1=>Q (!c) H1) I h)
def U9 (ta tb:TE):TE:=fun σ H Q=>ta σ H fun x H1=>∃c,x = .bl c∧if c=true then tb σ H1 Q else Q (.bl false) H1
def Vd (ta:TE):TE:=fun σ H Q=>ta σ H fun x H1=>∃c,x = .bl c∧Q (.bl (!c)) H1
theorem TM {op} {t:TE} (h:PE X a t):PE X (.BoolOp op [a] pos) t:=fun pins s σ H Q I hw=>BoolOp_one (h pins s σ H Q I hw)
theorem TF (ha:PE X a ta) (hb:PE X (.BoolOp .And (b :: rest) pos) tb):PE X (.BoolOp .And (a :: b :: rest) pos) (U9 ta tb):=by
 intro pins s σ H Q I h
 refine BoolOp_and (thn (ha pins s σ H _ I h) fun v s1 ⟨x,H1,I1,r1,q1⟩=>?_)
 obtain ⟨c,rfl,q1⟩:=q1
 cases r1
 refine wpAny_truthy_bool ?_
 cases c with
 | true=>exact hb pins s1 σ H1 Q I1 q1
 | false=>exact ⟨.bl false,H1,I1,rfl,q1⟩
theorem TL (ha:PE X a ta):PE X (.UnaryOp .Not a pos) (Vd ta):=by
 intro pins s σ H Q I h
 refine UnaryOp_ (thn (ha pins s σ H _ I h) fun v s1 ⟨x,H1,I1,r1,q1⟩=>?_)
 obtain ⟨c,rfl,q1⟩:=q1
 cases r1
 exact not_of (wpAny_truthy_bool ⟨.bl (!c),H1,I1,rfl,q1⟩)
def tIf (t:TT) (ta tb:TE):TE:=fun σ H Q=>t σ H fun c H1=>if c=true then ta σ H1 Q else tb σ H1 Q
theorem P5 {c:Expr} (hc:PT X c tA) (ha:PE X a ta) (hb:PE X b tb):PE X (.IfExp c a b pos) (tIf tA ta tb):=by
 intro pins s σ H Q I h
 refine wpAny_IfExp (thn (hc pins s σ H _ I h) fun d s1 ⟨H1,I1,q1⟩=>?_)
 cases d with
 | true=>exact ha pins s1 σ H1 Q I1 q1
 | false=>exact hb pins s1 σ H1 Q I1 q1
end
def SqL (K:PySem.W.Frag) (H:Hp) (a:Addr) (xs:List V):Prop:=
 Rd H a (.lst xs)∨
  ∃(o:Obj) (its:Array Value) (n:Nat),K.lookup a=some o∧o.cls = .type "list"∧o.dict=none∧o.data = .seq its n∧its.size≤sizeLine∧Vals xs its.toList
def SqT (K:PySem.W.Frag) (H:Hp) (a:Addr) (xs:List V):Prop:=
 Rd H a (.tup xs)∨
  ∃(o:Obj) (its:Array Value) (n:Nat),K.lookup a=some o∧o.cls = .type "tuple"∧o.data = .seq its n∧its.size≤sizeLine∧Vals xs its.toList
def V3:Value→Option V
 | .none=>some .non
 | .bool b=>some (.bl b)
 | .int i _=>some (.int i)
 | .str x _=>some (.str x)
 | .bytes b _=>some (.byt b)
 | .float b _=>some (.flt b)
 | .ref a=>some (.ref a)
 | .type n=>some (.ty n)
 | _=>none
theorem RelV.abs {x:V} {u:Value} (r:RelV x u):V3 u=some x:=by
 cases x with
 | non=>cases r;rfl
 | bl _=>cases r;rfl
 | int _=>obtain ⟨t,rfl⟩:=r;rfl
 | str _=>obtain ⟨t,rfl⟩:=r;rfl
 | byt _=>obtain ⟨t,rfl⟩:=r;rfl
 | flt _=>obtain ⟨t,rfl⟩:=r;rfl
 | ref _=>cases r;rfl
 | ty _=>cases r;rfl
theorem RelV.inj {x y:V} {u:Value} (r:RelV x u) (q:RelV y u):x=y:=Option.some.inj (r.abs.symm.trans q.abs)
theorem Vals.inj:∀{xs ys:List V} {us:List Value},Vals xs us→Vals ys us→xs=ys
 | _,_,_,.nil,.nil=>rfl
 | _,_,_,.cons r t,.cons r' t'=>by rw [r.inj r',Vals.inj t t']
section
variable {X:Cx} {pins:List (Addr×Obj)} {σ:St} {H:Hp} {s:Shared} {a:Addr} {xs ys:List V}
theorem SqL.of {K:PySem.W.Frag} (h:H a=some (.lst xs)):SqL K H a xs:=.inl (.inl h)
theorem SqT.of {K:PySem.W.Frag} (h:H a=some (.tup xs)):SqT K H a xs:=.inl (.inl h)
theorem Inv.list (I:Inv X pins σ H s) (h:SqL X.K H a xs):∃its:List Value,Vals xs its∧PlainL s.heap a its.toArray∧xs.length≤sizeLine:=by
 rcases h with h | ⟨o,its,n,hk,hc,hd,hs,hz,r⟩
 ·obtain ⟨z,its,n,r,e⟩:=h.ok I.hok
  exact ⟨its,r,⟨_,n,e,rfl,rfl,rfl⟩,z⟩
 ·refine ⟨its.toList,r,⟨o,n,I.kIn a o hk,hc,hd,by simpa using hs⟩,?_⟩
  have e:=r.length
  simp only [Array.length_toList] at e
  lia
theorem Inv.tuple (I:Inv X pins σ H s) (h:SqT X.K H a xs):∃its:List Value,Vals xs its∧IsTup s.heap a its.toArray∧xs.length≤sizeLine:=by
 rcases h with h | ⟨o,its,n,hk,hc,hs,hz,r⟩
 ·obtain ⟨z,its,r,p⟩:=h.ok I.hok
  exact ⟨its,r,p,z⟩
 ·refine ⟨its.toList,r,⟨o,I.kIn a o hk,hc,n,by simpa using hs⟩,?_⟩
  have e:=r.length
  simp only [Array.length_toList] at e
  lia
theorem Inv.list_inj (I:Inv X pins σ H s) (h:SqL X.K H a xs) (h':SqL X.K H a ys):xs=ys:=by
 obtain ⟨its,r,⟨o,n,e,_,_,d⟩,_⟩:=I.list h
 obtain ⟨its',r',⟨o',n',e',_,_,d'⟩,_⟩:=I.list h'
 rw [e] at e';cases e'
 rw [d] at d'
 injection d' with d1 _
 have:its=its':=by simpa using congrArg Array.toList d1
 subst this
 exact r.inj r'
theorem Inv.tuple_inj (I:Inv X pins σ H s) (h:SqT X.K H a xs) (h':SqT X.K H a ys):xs=ys:=by
 obtain ⟨its,r,⟨o,e,_,n,d⟩,_⟩:=I.tuple h
 obtain ⟨its',r',⟨o',e',_,n',d'⟩,_⟩:=I.tuple h'
 rw [e] at e';cases e'
 rw [d] at d'
 injection d' with d1 _
 have:its=its':=by simpa using congrArg Array.toList d1
 subst this
 exact r.inj r'
end
abbrev Cx.wish (X:Cx) (E:Value→Shared→Prop):Cx:={ X with xe:=E }
abbrev Cx.nox (X:Cx):Cx:=X.wish fun _ _=>False
theorem Cx.Ok.wish {X:Cx} (ok:X.Ok) (E:Value→Shared→Prop):(X.wish E).Ok:=
 ⟨ok.mod,ok.kind,ok.glob,ok.blt,ok.above,ok.inj,ok.has,ok.cab,ok.hd,ok.frames,ok.stk,ok.exf,ok.bs,ok.bsz,ok.noex,ok.exfs,ok.funs,ok.frf⟩
theorem Cx.Ok.unwish {X:Cx} {E:Value→Shared→Prop} (ok:(X.wish E).Ok):X.Ok:=
 ⟨ok.mod,ok.kind,ok.glob,ok.blt,ok.above,ok.inj,ok.has,ok.cab,ok.hd,ok.frames,ok.stk,ok.exf,ok.bs,ok.bsz,ok.noex,ok.exfs,ok.funs,ok.frf⟩
section
variable {X:Cx} {pins:List (Addr×Obj)} {σ:St} {H:Hp} {s:Shared} {E:Value→Shared→Prop}
theorem Inv.wish (I:Inv X pins σ H s) (E:Value→Shared→Prop):Inv (X.wish E) pins σ H s:=⟨I.ok.wish E,I.os,I.bare,I.base,I.loc,I.cell,I.free,I.freeC,I.pin,I.hok,I.len⟩
theorem Inv.unwish (I:Inv (X.wish E) pins σ H s):Inv X pins σ H s:=⟨I.ok.unwish,I.os,I.bare,I.base,I.loc,I.cell,I.free,I.freeC,I.pin,I.hok,I.len⟩
theorem SP.unwish {D:Ends} {f:Flow} {s':Shared} (h:SP (X.wish E) pins D f s'):SP X pins D f s':=by
 cases f with
 | next=>obtain ⟨σ',H',I,q⟩:=h;exact ⟨σ',H',I.unwish,q⟩
 | brk=>obtain ⟨σ',H',I,q⟩:=h;exact ⟨σ',H',I.unwish,q⟩
 | cont=>obtain ⟨σ',H',I,q⟩:=h;exact ⟨σ',H',I.unwish,q⟩
 | ret u=>obtain ⟨v,σ',H',I,r,q⟩:=h;exact ⟨v,σ',H',I.unwish,r,q⟩
theorem PSs.nox {st:List Stmt} {t:TS} (h:PSs X.nox st t):PSs X st t:=fun pins s σ H D I hw=>
 wpAny_mono (h pins s σ H D (I.wish _) hw) (fun _ _ q=>q.unwish) fun _ _ z=>False.elim z
end
section
variable {X:Cx} {st:Stmt} {rest:List Stmt} {t u:TS} {e:Expr} {te:TE} {pos:Pos}
def Vc:TS:=fun D σ H=>D.nx σ H
def Wp (t u:TS):TS:=fun D σ H=>t { D with nx:=u D } σ H
theorem Sd:PSs X [] Vc:=fun _ _ σ H _ I h=>wpAny_execs_nil ⟨σ,H,I,h⟩
theorem Qd (h1:PS X st t) (h2:PSs X rest u):PSs X (st :: rest) (Wp t u):=by
 intro pins s σ H D I h
 refine wpAny_execs_cons (thn (h1 pins s σ H { D with nx:=u D } I h) fun f s1 q=>?_)
 cases f with
 | next=>
   obtain ⟨σ',H',I',q⟩:=q
   exact h2 pins s1 σ' H' D I' q
 | ret v=>exact q
 | brk=>exact q
 | cont=>exact q
theorem Jy (h1:PS X st t):PSs X [st] t:=by
 intro pins s σ H D I h
 refine wpAny_execs_cons (thn (h1 pins s σ H D I h) fun f s1 q=>?_)
 cases f with
 | next=>exact wpAny_execs_nil q
 | ret v=>exact q
 | brk=>exact q
 | cont=>exact q
theorem Inv.quiet {pins:List (Addr×Obj)} {σ:St} {H:Hp} {s:Shared} (I:Inv X pins σ H s):interactive X.env=false:=by simp [interactive,I.ok.kind]
def QT (te:TE):TS:=fun D σ H=>te σ H fun _ H1=>D.nx σ H1
theorem GQ (he:PE X e te) (hs:swapsWith e none pos.line X.env=pure false:=by rfl):PS X (.Expr e pos) (QT te):=by
 intro pins s σ H D I h
 exact wpAny_Expr_any (thn (he pins s σ H _ I h) fun v s1 ⟨x,H1,I1,r1,q1⟩=>⟨σ,H1,I1,q1⟩) I.quiet hs
def Wo (te:TE):TS:=fun D σ H=>te σ H D.rt
theorem Iz (he:PE X e te):PS X (.Return (some e) pos) (Wo te):=by
 intro pins s σ H D I h
 exact wpAny_Return_some (thn (he pins s σ H _ I h) fun v s1 ⟨x,H1,I1,r1,q1⟩=>⟨x,σ,H1,I1,r1,q1⟩)
def Wl (c:TT) (t u:TS):TS:=fun D σ H=>c σ H fun b H1=>if b=true then t D σ H1 else u D σ H1
theorem U1 {c:Expr} {a b:List Stmt} {tc:TT} (hc:PT X c tc) (ha:PSs X a t) (hb:PSs X b u):PS X (.If c a b pos) (Wl tc t u):=by
 intro pins s σ H D I h
 refine wpAny_If (thn (hc pins s σ H _ I h) fun d s1 ⟨H1,I1,q1⟩=>?_)
 cases d with
 | true=>exact ha pins s1 σ H1 D I1 q1
 | false=>exact hb pins s1 σ H1 D I1 q1
end
abbrev TG:=V→St→Hp→(St→Hp→Prop)→Prop
abbrev TGs:=List V→St→Hp→(St→Hp→Prop)→Prop
def PG (X:Cx) (target:Expr) (t:TG):Prop:=
 ∀(pins:List (Addr×Obj)) (s:Shared) (σ:St) (H:Hp) (v:V) (u:Value) (Q:St→Hp→Prop),Inv X pins σ H s→RelV v u→t v σ H Q→
  wpAny (model X.prog X.w) X.A (assign target X.env u) (fun _ s'=>∃σ' H',Inv X pins σ' H' s'∧Q σ' H') X.xe s
def PGs (X:Cx) (ts:List Expr) (t:TGs):Prop:=
 ∀(pins:List (Addr×Obj)) (s:Shared) (σ:St) (H:Hp) (vs:List V) (us:List Value) (Q:St→Hp→Prop),Inv X pins σ H s→Vals vs us→t vs σ H Q→
  wpAny (model X.prog X.w) X.A (assignInOrder ((assignEach ts X.env).map (·.2)) us) (fun _ s'=>∃σ' H',Inv X pins σ' H' s'∧Q σ' H') X.xe s
abbrev Pa:=V→V→V→Hp→(Hp→Prop)→Prop
def SX (X:Cx) (t:Pa):Prop:=
 ∀(pins:List (Addr×Obj)) (s:Shared) (σ:St) (H:Hp) (o i v:V) (ov iv u:Value) (Q:Hp→Prop),Inv X pins σ H s→RelV o ov→RelV i iv→RelV v u→t o i v H Q→
  wpAny (model X.prog X.w) X.A (setItem ov iv u) (fun _ s'=>∃H',Inv X pins σ H' s'∧Q H') X.xe s
section
variable {X:Cx} {pos:Pos}
def Kr (i:Nat):TG:=fun v σ H Q=>Q (σ.set i (some v)) H
theorem R6 {i:Nat} {x:Str} (hN:X.N.Nodup) (hi:X.N[i]?=some x) (hx:Loc X.env.scope x) (hf:X.fn x=true∨X.env.scope.names.lookup x=some .local:=by first | exact .inl rfl | exact .inr rfl | assumption):PG X (.Name x pos) (Kr i):=by
 intro pins s σ H v u Q I r h
 exact wpAny_assign_Name (FW I hN hi hx r (fun s' I'=>⟨_,H,I',h⟩) hf)
def V9:TGs:=fun vs σ H Q=>vs=[]∧Q σ H
def QE (t:TG) (u:TGs):TGs:=fun vs σ H Q=>∃v r,vs=v :: r∧t v σ H fun σ' H'=>u r σ' H' Q
theorem R7:PGs X [] V9:=by
 intro pins s σ H vs us Q I r h
 obtain ⟨e,h⟩:=h
 subst e
 cases r
 exact assignInOrder_nil ⟨σ,H,I,h⟩
theorem P7 {e:Expr} {es:List Expr} {t:TG} {u:TGs} (h1:PG X e t) (h2:PGs X es u)
 (hs:(assignEach (e :: es) X.env).map (·.2)=assign e X.env :: (assignEach es X.env).map (·.2):=by rfl):PGs X (e :: es) (QE t u):=by
 intro pins s σ H vs us Q I r h
 obtain ⟨v,vr,e1,h⟩:=h
 subst e1
 cases r with
 | cons r rr=>
   rw [hs]
   refine assignInOrder_cons (thn (h1 pins s σ H _ _ _ I r h) fun _ s1 ⟨σ1,H1,I1,q1⟩=>?_)
   exact h2 pins s1 σ1 H1 _ _ Q I1 rr q1
def Wb (K:PySem.W.Frag) (n:Nat) (t:TGs):TG:=fun v σ H Q=>∃a xs,v = .ref a∧SqT K H a xs∧xs.length=n∧t xs σ H Q
theorem TR {es:List Expr} {k:Nat} {t:TGs} {n:Nat} (hc:X.calm=true) (h:PGs X es t)
 (hn:(assignEach es X.env).length=n:=by rfl) (hst:(assignEach es X.env).findIdx? (·.1)=none:=by rfl):PG X (.Tuple es k pos) (Wb X.K n t):=by
 intro pins s σ H v u Q I r hw
 obtain ⟨a,xs,e1,hq,hl,hw⟩:=hw
 subst e1
 cases r
 obtain ⟨its,rv,ht,hz⟩:=I.tuple hq
 refine assign_Tuple_tuple (I.ok.hd hc) ht (by simp [hn,←hl,rv.length]) hst fun h' hx=>?_
 have I1:Inv X pins σ H { s with heap:=h' }:=I.kept (t':=s.toks) fun b o e=>hx b o (Nat.ne_of_lt (Heap.lt_size e)) e
 exact h pins _ σ H xs _ Q I1 (by simpa using rv) hw
def Wa (to ti:TE) (t:Pa):TG:=fun v σ H Q=>to σ H fun o H1=>ti σ H1 fun i H2=>t o i v H2 fun H3=>Q σ H3
theorem TQ {o i:Expr} {to ti:TE} {t:Pa} (ho:PE X o to) (hi:PE X i ti) (hs:SX X t)
 (ha:∀v,assign (.Subscript o i pos) X.env v=(do
   let ov ←holding [v] (eval o X.env)
   let iv ←holding [v,ov] (eval i X.env)
   standAt pos
   holding [v,ov,iv] (setItem ov iv v)
   release [v,ov,iv] []):=by intro _;rfl):PG X (.Subscript o i pos) (Wa to ti t):=by
 intro pins s σ H v u Q I r h
 rw [ha]
 refine wpAny_bind (wpAny_holding (thn (ho pins s σ H _ I h) fun ov s1 ⟨x,H1,I1,r1,q1⟩=>?_))
 refine wpAny_bind (wpAny_holding (thn (hi pins s1 σ H1 _ I1 q1) fun iv s2 ⟨y,H2,I2,r2,q2⟩=>?_))
 refine wpAny_bind (wpAny_standAt (wpAny_bind (wpAny_holding (thn (hs pins s2 σ H2 x y v ov iv u _ I2 r1 r2 r q2) fun _ s3 ⟨H3,I3,q3⟩=>?_))))
 exact wpAny_release ⟨σ,H3,I3,q3⟩
def NL (te:TE) (g:TG):TS:=fun D σ H=>te σ H fun x H1=>g x σ H1 D.nx
theorem ON {tg e:Expr} {te:TE} {g:TG} (he:PE X e te) (hg:PG X tg g) (hs:swapsWithSole [tg] e pos.line X.env=pure false:=by rfl) (hw:swappedStores [tg] e X.env=pure none:=by rfl)
 (h1:(assignEach [tg] X.env).map (·.2)=[assign tg X.env]:=by rfl):PS X (.Assign [tg] e pos) (NL te g):=by
 intro pins s σ H D I h
 refine wpAny_Assign_stores (thn (he pins s σ H _ I h) fun v s1 ⟨x,H1,I1,r1,q1⟩=>?_) hs hw
 rw [h1]
 exact thn (hg pins s1 σ H1 x v _ I1 r1 q1) fun _ s2 q=>q
theorem LL {i:Nat} {x:Str} {e:Expr} {te:TE} {pos':Pos} (hN:X.N.Nodup) (hi:X.N[i]?=some x) (hx:Loc X.env.scope x) (he:PE X e te) (hs:swapsWith e (some (.Name x pos')) pos.line X.env=pure false:=by rfl) (hf:X.fn x=true∨X.env.scope.names.lookup x=some .local:=by first | exact .inl rfl | exact .inr rfl | assumption) :
 PS X (.Assign [.Name x pos'] e pos) (NL te (Kr i)):=by
 intro pins s σ H D I h
 refine wpAny_Assign_Name (thn (he pins s σ H _ I h) fun v s1 ⟨y,H1,I1,r1,q1⟩=>?_) hs
 exact FW I1 hN hi hx r1 (fun s2 I2=>⟨_,H1,I2,q1⟩) hf
end
section
variable {X:Cx} {pos:Pos}
def Xb (c:TT) (tb:TS):TS:=fun D σ H=>∃W:Nat→St→Hp→Prop,(∃m,W m σ H)∧∀m σ H,W m σ H→
 c σ H fun b H1=>if b=true then ∃N:St→Hp→Prop,(∀σ' H',N σ' H'→∃m',m' < m∧W m' σ' H')∧tb { D with nx:=N,ct:=N,bk:=D.nx } σ H1 else D.nx σ H1
end
structure It where
 go:Nat→Hp→Prop
 yld:Nat→Hp→V→Hp→Prop
 stop:Nat→Hp→Prop
def FpOk (X:Cx) (pins:List (Addr×Obj)) (H:Hp) (b:Addr):Prop:=
 H b=none∧b≠X.env.locals∧b∉X.fs∧(b∈X.ex∨X.s₀.heap.objs.size≤b)∧(∀x c,X.env.cells.lookup x=some c→c≠b)∧∀p∈X.pn++pins,p.1≠b
theorem Inv.fpOk {X:Cx} {pins:List (Addr×Obj)} {σ:St} {H H':Hp} {s:Shared} {b:Addr} (I:Inv X pins σ H s) (hb:s.heap.objs.size≤b) (hn:H' b=none):FpOk X pins H' b:=by
 refine ⟨hn,Nat.ne_of_gt (Nat.lt_of_lt_of_le I.lt hb),I.nofs hb,.inr (Nat.le_trans I.sz hb),fun x c e z=>?_,fun p hp z=>?_⟩
 ·obtain ⟨v,q⟩:=I.cell x c e
  exact absurd (Nat.lt_of_lt_of_le q.lt (by rw [z];exact hb)) (Nat.lt_irrefl _)
 ·exact absurd (Nat.lt_of_lt_of_le (Heap.lt_size (I.pin p hp).1) (by rw [z];exact hb)) (Nat.lt_irrefl _)
structure Turn (P:Program) (w:World) (K:PySem.W.Frag) (tg:Expr) (J:It) (fp:List Addr) (it:Addr) (tn:Nat→Heap→Prop):Prop where
 mem:it∈fp
 obj:∀i h,tn i h→∀b∈fp,∃o,h.get? b=some o∧∀v,o.data≠.cell v
 keep:∀i h h',tn i h→(∀b∈fp,∀o,h.get? b=some o→h'.get? b=some o)→tn i h'
 item:∀(X:Cx),X.prog=P→X.w=w→X.K=K→X.calm=true→∀(i:Nat) (pins:List (Addr×Obj)) (s:Shared) (σ:St) (H:Hp) (E:Value→Shared→Prop),Inv X pins σ H s→(∀b∈fp,FpOk X pins H b)→tn i s.heap→J.go i H→
  wpAny (model P w) X.A (pyNext (.ref it)) (fun r s1=>∃u,r=some u∧
   wpAny (model P w) X.A (letOwnedTupleGo tg (.ref it) u) (fun _ s2=>∃x H',Inv X pins σ H' s2∧RelV x u∧J.yld i H x H'∧tn (i + 1) s2.heap∧∀b∈fp,H' b=none) E s1) E s
 done:∀(X:Cx),X.prog=P→X.w=w→X.K=K→X.calm=true→∀(i:Nat) (pins:List (Addr×Obj)) (s:Shared) (σ:St) (H:Hp) (E:Value→Shared→Prop),Inv X pins σ H s→(∀b∈fp,FpOk X pins H b)→tn i s.heap→J.stop i H→
  wpAny (model P w) X.A (pyNext (.ref it)) (fun r s1=>r=none∧Inv X pins σ H s1) E s
 self:∀(A:Around) (i:Nat) (s:Shared) (Q:Value→Shared→Prop) (E:Value→Shared→Prop),tn i s.heap→Q (.ref it) s→wpAny (model P w) A (pyIter (.ref it)) Q E s
abbrev TI:=St→Hp→(It→Hp→Prop)→Prop
def PIE (X:Cx) (pins:List (Addr×Obj)) (σ:St) (tg:Expr) (R:It→Hp→Prop) (itv:Value) (s2:Shared):Prop:=
 ∃(it:Addr) (fp:List Addr) (tn:Nat→Heap→Prop) (J:It) (H':Hp),itv = .ref it∧Inv X pins σ H' s2∧Turn X.prog X.w X.K tg J fp it tn∧tn 0 s2.heap∧(∀b∈fp,FpOk X pins H' b)∧R J H'
def PI (X:Cx) (tg iter:Expr) (wi:TI):Prop:=
 ∀(pins:List (Addr×Obj)) (s:Shared) (σ:St) (H:Hp) (R:It→Hp→Prop),Inv X pins σ H s→wi σ H R→
  wpAny (model X.prog X.w) X.A (eval iter X.env) (fun v s1=>wpAny (model X.prog X.w) X.A (pyIter v) (PIE X pins σ tg R) X.xe s1) X.xe s
theorem Ks {M:Model} {A:Around} {E:Value→Shared→Prop} {s:Shared} {tg:Expr} {it:Addr} {u:Value} {o:Obj} {n:String} {vs:Array Value} {Q:Unit→Shared→Prop} (ho:s.heap.get? it=some o) (hc:o.cls = .type n) (hd:o.data = .fields vs)
 (hn:["enumerate", "zip", "dict_itemiterator", "dict_reverseitemiterator", "odict_iterator", "itertools.zip_longest", "itertools.pairwise"].contains n=false) (hQ:Q () s):wpAny M A (letOwnedTupleGo tg (.ref it) u) Q E s:=by
 unfold letOwnedTupleGo
 cases tg <;> first
  | exact wpAny_pure hQ
  | (cases u <;> first
      | exact wpAny_pure hQ
      | (refine wpAny_bind (wpAny_load ho ?_)
         rw [hc,hd]
         show wpAny M A (if (["enumerate", "zip", "dict_itemiterator", "dict_reverseitemiterator", "odict_iterator", "itertools.zip_longest", "itertools.pairwise"].contains n && vs[0]? == some (rawInt _))=true then _ else _) Q E s
         rw [if_neg (by intro h;rw [hn,Bool.false_and] at h;cases h)]
         exact wpAny_pure hQ))
def Itl (K:PySem.W.Frag) (a:Addr):It:=
 ⟨fun i H=>∃xs x,SqL K H a xs∧xs[i]?=some x,fun i H x H'=>H'=H∧∀xs,SqL K H a xs→xs[i]?=some x,fun i H=>∃xs,SqL K H a xs∧xs.length≤i⟩
def Itt (K:PySem.W.Frag) (a:Addr):It:=
 ⟨fun i H=>∃xs x,SqT K H a xs∧xs[i]?=some x,fun i H x H'=>H'=H∧∀xs,SqT K H a xs→xs[i]?=some x,fun i H=>∃xs,SqT K H a xs∧xs.length≤i⟩
def Itr (lo:Int) (n:Nat):It:=⟨fun i _=>i < n,fun i H x H'=>H'=H∧x = .int (lo + i),fun i _=>n≤i⟩
theorem O0 {P:Program} {w:World} {K:PySem.W.Frag} {tg:Expr} (a it:Addr):Turn P w K tg (Itl K a) [it] it (fun i h=>h.IsListIter it a i) where
 mem:=by simp
 obj:=fun i h st b hb=>by
  have e:b=it:=by simpa using hb
  subst e
  obtain ⟨o,e,c,d⟩:=st
  exact ⟨o,e,fun v z=>by rw [d] at z;cases z⟩
 keep:=fun i h h' st k=>st.at fun o e=>k it (by simp) o e
 item:=by
  intro X hP hw hK hc i pins s σ H E I hf st hg
  subst hP hw hK
  obtain ⟨xs,x,hq,hx⟩:=hg
  obtain ⟨its,rv,p,hz⟩:=I.list hq
  obtain ⟨u,hu,ru⟩:=rv.get hx
  obtain ⟨f0,f1,f2,f3,f4,f5⟩:=hf it (by simp)
  refine wpAny_pyNext_list_item st p.isList (x:=u) (by simpa using hu) fun h' st' sb=>?_
  have I1:Inv X pins σ H { s with heap:=h' }:=I.turned (t':=s.toks) (fun b o hb e=>(sb.2 b hb).trans e) f0 f1 f3 f4 f5
  obtain ⟨o,e,c,d⟩:=id st'
  exact ⟨u,rfl,Ks (s:={ s with heap:=h' }) e c d (by decide) ⟨x,H,I1,ru,⟨rfl,fun ys hy=>by rw [I.list_inj hy hq];exact hx⟩,st',fun b hb=>(hf b hb).1⟩⟩
 done:=by
  intro X hP hw hK hc i pins s σ H E I hf st hg
  subst hP hw hK
  obtain ⟨xs,hq,hx⟩:=hg
  obtain ⟨its,rv,p,hz⟩:=I.list hq
  obtain ⟨f0,f1,f2,f3,f4,f5⟩:=hf it (by simp)
  have hl:=rv.length
  exact wpAny_pyNext_list_end (I.ok.hd hc) st p.isList (by simp;lia) fun h' eb=>⟨rfl,I.turned (t':=s.toks) (fun b o hb e=>eb b o hb e) f0 f1 f3 f4 f5⟩
 self:=fun _ _ _ _ _ st h=>wpAny_pyIter_listiter st h
theorem NO {P:Program} {w:World} {K:PySem.W.Frag} {tg:Expr} (a it:Addr):Turn P w K tg (Itt K a) [it] it (fun i h=>h.IsTupleIter it a i) where
 mem:=by simp
 obj:=fun i h st b hb=>by
  have e:b=it:=by simpa using hb
  subst e
  obtain ⟨o,e,c,d⟩:=st
  exact ⟨o,e,fun v z=>by rw [d] at z;cases z⟩
 keep:=fun i h h' st k=>st.at fun o e=>k it (by simp) o e
 item:=by
  intro X hP hw hK hc i pins s σ H E I hf st hg
  subst hP hw hK
  obtain ⟨xs,x,hq,hx⟩:=hg
  obtain ⟨its,rv,p,hz⟩:=I.tuple hq
  obtain ⟨u,hu,ru⟩:=rv.get hx
  obtain ⟨f0,f1,f2,f3,f4,f5⟩:=hf it (by simp)
  refine wpAny_pyNext_tuple_item st (show s.heap.IsTuple a its.toArray from p) (x:=u) (by simpa using hu) fun h' st' sb=>?_
  have I1:Inv X pins σ H { s with heap:=h' }:=I.turned (t':=s.toks) (fun b o hb e=>(sb.2 b hb).trans e) f0 f1 f3 f4 f5
  obtain ⟨o,e,c,d⟩:=id st'
  exact ⟨u,rfl,Ks (s:={ s with heap:=h' }) e c d (by decide) ⟨x,H,I1,ru,⟨rfl,fun ys hy=>by rw [I.tuple_inj hy hq];exact hx⟩,st',fun b hb=>(hf b hb).1⟩⟩
 done:=by
  intro X hP hw hK hc i pins s σ H E I hf st hg
  subst hP hw hK
  obtain ⟨xs,hq,hx⟩:=hg
  obtain ⟨its,rv,p,hz⟩:=I.tuple hq
  obtain ⟨f0,f1,f2,f3,f4,f5⟩:=hf it (by simp)
  have hl:=rv.length
  exact wpAny_pyNext_tuple_end (I.ok.hd hc) st (show s.heap.IsTuple a its.toArray from p) (by simp;lia) fun h' eb=>⟨rfl,I.turned (t':=s.toks) (fun b o hb e=>eb b o hb e) f0 f1 f3 f4 f5⟩
 self:=fun _ _ _ _ _ st h=>wpAny_pyIter_tupleiter st h
theorem NN {P:Program} {w:World} {K:PySem.W.Frag} {tg:Expr} (it:Addr) (lo:Int) (n:Nat):Turn P w K tg (Itr lo n) [it] it (fun i h=>IsRangeIter h it (lo + (i:Nat) * 1) ((n:Int) - (i:Nat)) 1) where
 mem:=by simp
 obj:=fun i h st b hb=>by
  have e:b=it:=by simpa using hb
  subst e
  exact ⟨_,st,fun v z=>by
   have z':Data.fields _=Data.cell v:=z
   cases z'⟩
 keep:=fun i h h' st k=>k it (by simp) _ st
 item:=by
  intro X hP hw hK hc i pins s σ H E I hf st hg
  subst hP hw hK
  obtain ⟨f0,f1,f2,f3,f4,f5⟩:=hf it (by simp)
  have W:=Walks.range (prog:=X.prog) (w:=X.w) (I.ok.hd hc) it lo 1 n
  refine W.item i s _ _ hg st fun v h' tk hv st' kk=>?_
  obtain ⟨t,rfl⟩:=hv
  have I1:Inv X pins σ H { s with heap:=h',toks:=tk }:=I.turned (fun b o hb e=>kk b o (by simpa using hb) e) f0 f1 f3 f4 f5
  refine ⟨_,rfl,Ks (s:={ s with heap:=h',toks:=tk }) (n:="range_iterator") st' rfl rfl (by decide) ⟨.int (lo + i),H,I1,⟨t,?_⟩,⟨rfl,rfl⟩,st',fun b hb=>(hf b hb).1⟩⟩
  rw [Int.mul_one]
 done:=by
  intro X hP hw hK hc i pins s σ H E I hf st hg
  subst hP hw hK
  obtain ⟨f0,f1,f2,f3,f4,f5⟩:=hf it (by simp)
  exact wpAny_pyNext_range_end (I.ok.hd hc) st (by have:n≤i:=hg;lia) fun h' eb=>⟨rfl,I.turned (t':=s.toks) (fun b o hb e=>eb b o hb e) f0 f1 f3 f4 f5⟩
 self:=fun _ _ _ _ _ st h=>wpAny_pyIter_rangeiter st h
section
variable {X:Cx} {tg:Expr}
theorem LN {pins:List (Addr×Obj)} {σ:St} {H:Hp} {s:Shared} {R:It→Hp→Prop} {E:Value→Shared→Prop} {lo hi:Int} {t u v:Tok} {tk:Nat} (I:Inv X pins σ H s) (h1 : -(2 ^ 62)≤lo) (h2:lo < 2 ^ 62) (h3 : -(2 ^ 62)≤hi) (h4:hi < 2 ^ 62)
 (q:R (Itr lo (hi - lo).toNat) H):wpAny (model X.prog X.w) X.A (pyIter (.ref s.heap.objs.size)) (PIE X pins σ tg R) E { s with heap:=s.heap.push { cls:=.type "range",data:=.fields #[.int lo t,.int hi u,.int 1 v] },toks:=tk }:=by
 refine wpAny_pyIter_range (IsRange.new ..) (small_one h1 h2 h3 h4) ?_
 have I1:Inv X pins σ H { s with heap:=s.heap.push { cls:=.type "range",data:=.fields #[.int lo t,.int hi u,.int 1 v] },toks:=tk }:=I.kept fun b o e=>Heap.get?_push_of_some _ e
 refine ⟨(s.heap.push { cls:=.type "range",data:=.fields #[.int lo t,.int hi u,.int 1 v] }).objs.size,[(s.heap.push { cls:=.type "range",data:=.fields #[.int lo t,.int hi u,.int 1 v] }).objs.size],_,_,H,rfl,
  I1.kept (t':=tk) fun b o e=>Heap.get?_push_of_some _ e,NN _ lo (hi - lo).toNat,?_,fun b hb=>?_,q⟩
 ·have e1:lo + ((0:Nat):Int) * 1=lo:=by simp
  have e2:(((hi - lo).toNat:Nat):Int) - ((0:Nat):Int)=Builtin.Range.rangeSize lo hi 1:=by rw [rangeSize_one];split <;> lia
  show IsRangeIter _ _ (lo + ((0:Nat):Int) * 1) ((((hi - lo).toNat:Nat):Int) - ((0:Nat):Int)) 1
  rw [e1,e2]
  exact Heap.get?_push_size _ rfl
 ·have e:b=(s.heap.push { cls:=.type "range",data:=.fields #[.int lo t,.int hi u,.int 1 v] }).objs.size:=by simpa using hb
  subst e
  exact I1.fpOk (Nat.le_refl _) (I1.hok.fresh (Nat.le_refl _))
def UM (ta:TA):TI:=fun σ H R=>ta σ H fun vs H1=>∃j:Int,vs=[.int j]∧-(2 ^ 62)≤j∧j < 2 ^ 62∧R (Itr 0 j.toNat) H1
def UN (ta:TA):TI:=fun σ H R=>ta σ H fun vs H1=>∃i j:Int,vs=[.int i,.int j]∧(-(2 ^ 62)≤i∧i < 2 ^ 62∧-(2 ^ 62)≤j∧j < 2 ^ 62)∧R (Itr i (j - i).toNat) H1
theorem OI {a:Expr} {ta:TA} {p pos:Pos} (hg:Gl X "range") (hm:X.mg "range" = none) (ha:PA X [a] ta) (hs:starEach [a] X.env=[(false,eval a X.env)]:=by rfl):PI X tg (.Call (.Name "range" p) [a] [] pos) (UM ta):=by
 intro pins s σ H R I h
 refine Call_ (Gm I hg hm boot_range (PyProof.Rows.callWith_type1 (thn (ha pos pins s σ H _ I h) fun us s1 ⟨vs,H1,I1,r1,q1⟩=>?_) hs rfl))
 obtain ⟨j,e,q1,q2,q⟩:=q1
 subst e
 cases r1 with
 | cons r rr=>
   cases rr
   obtain ⟨t,rfl⟩:=r
   exact call_range_1 (LN I1 (by lia) (by lia) q1 q2 (by simpa using q))
theorem OJ {a b:Expr} {ta:TA} {p pos:Pos} (hg:Gl X "range") (hm:X.mg "range" = none) (ha:PA X [a,b] ta) (hs:starEach [a,b] X.env=[(false,eval a X.env),(false,eval b X.env)]:=by rfl) (hs2:starEach [b] X.env=[(false,eval b X.env)]:=by rfl) :
 PI X tg (.Call (.Name "range" p) [a,b] [] pos) (UN ta):=by
 intro pins s σ H R I h
 refine Call_ (Gm I hg hm boot_range (PyProof.Rows.callWith_type1 (thn (ha pos pins s σ H _ I h) fun us s1 ⟨vs,H1,I1,r1,q1⟩=>?_) (by rw [hs,hs2]) (by rw [hs2];rfl)))
 obtain ⟨i,j,e,⟨q1,q2,q3,q4⟩,q⟩:=q1
 subst e
 cases r1 with
 | cons r rr=>
   cases rr with
   | cons r' rr=>
     cases rr
     obtain ⟨t,rfl⟩:=r
     obtain ⟨t',rfl⟩:=r'
     exact call_range_2 (LN I1 q1 q2 q3 q4 q)
def Uo (wi:TI) (g:TG) (tb:TS):TS:=fun D σ H=>wi σ H fun J H1=>∃W:Nat→Nat→St→Hp→Prop,(∃m,W 0 m σ H1)∧∀i m σ H,W i m σ H→
 (J.stop i H∧D.nx σ H)∨(J.go i H∧∃N:St→Hp→Prop,(∀σ' H',N σ' H'→∃m',m' < m∧W (i + 1) m' σ' H')∧∀x H',J.yld i H x H'→g x σ H' fun σ2 H2=>tb { D with nx:=N,ct:=N,bk:=D.nx } σ2 H2)
def Gs (fp:List Addr) (h:Heap):List (Addr×Obj):=fp.filterMap fun b=>(h.get? b).map fun o=>(b,o)
theorem Ey {fp:List Addr} {h:Heap} {b:Addr} {o:Obj} (hb:b∈fp) (e:h.get? b=some o):(b,o)∈Gs fp h:=List.mem_filterMap.mpr ⟨b,hb,by rw [e];rfl⟩
theorem OE {fp:List Addr} {h:Heap} {p:Addr×Obj} (hp:p∈Gs fp h):p.1∈fp∧h.get? p.1=some p.2:=by
 obtain ⟨b,hb,e⟩:=List.mem_filterMap.mp hp
 cases q:h.get? b with
 | none=>rw [q] at e;cases e
 | some o=>
   rw [q] at e
   have e':(b,o)=p:=Option.some.inj e
   subst e'
   exact ⟨hb,q⟩
theorem Inv.pinned {pins:List (Addr×Obj)} {σ:St} {H:Hp} {s:Shared} {fp:List Addr} (I:Inv X pins σ H s) (hf:∀b∈fp,FpOk X pins H b) (ho:∀b∈fp,∃o,s.heap.get? b=some o∧∀v,o.data≠.cell v):Inv X (pins++Gs fp s.heap) σ H s:=
 I.pins_of fun p hp=>(List.mem_append.mp hp).elim (fun z=>I.pin p (List.mem_append_right _ z)) fun z=>by
  obtain ⟨hb,e⟩:=OE z
  obtain ⟨f0,f1,f2,_⟩:=hf p.1 hb
  obtain ⟨o,e',d⟩:=ho p.1 hb
  rw [e] at e';cases e'
  exact ⟨e,f0,f1,f2,d⟩
theorem Inv.unpinned {pins pl:List (Addr×Obj)} {σ:St} {H:Hp} {s:Shared} (I:Inv X (pins++pl) σ H s):Inv X pins σ H s:=I.pins_of fun p hp=>I.pin p (List.mem_append_right _ (List.mem_append_left _ hp))
theorem TX {iter:Expr} {body:List Stmt} {wi:TI} {g:TG} {tb:TS} {pos:Pos} (hp:PassesOwn (model X.prog X.w) X.A X.env X.xe) (hc:X.calm=true) (hi:PI X tg iter wi) (hg:PG X tg g) (hb:PSs X body tb)
 (hs:∀x,foldedSetIterable iter X.env x=pure x:=by intro _;rfl):PS X (.For tg iter body [] pos) (Uo wi g tb):=by
 intro pins s σ H D I h
 refine wpAny_For (thn (hi pins s σ H _ I h) fun v s1 h1=>thn h1 fun itv s2 h2=>?_) hs
 obtain ⟨it,fp,tn,J,H2,e,I2,T,st2,f2,W,⟨m0,w0⟩,turn⟩:=h2
 subst e
 -- what stays true of the iterator's objects through the loop
 have stat:∀{H':Hp},(∀b∈fp,H' b=none)→∀b∈fp,FpOk X pins H' b:=fun hn b hb=>⟨hn b hb,(f2 b hb).2⟩
 refine codeAny_forLoop_any (fun n s'=>∃i σ' H',Inv X pins σ' H' s'∧tn i s'.heap∧(∀b∈fp,H' b=none)∧W i n σ' H') ?_ m0 ⟨0,σ,H2,I2,st2,fun b hb=>(f2 b hb).1,w0⟩
 rintro n s3 ⟨i,σ3,H3,I3,st3,fr3,w3⟩
 rcases turn i n σ3 H3 w3 with ⟨stop,qn⟩ | ⟨go,N,hN,step⟩
 ·refine wpAny_passesOwn hp (thn (T.done X rfl rfl rfl hc i pins s3 σ3 H3 X.xe I3 (stat fr3) st3 stop) fun r s4 ⟨hr,I4⟩=>?_)
  subst hr
  exact wpAny_execs_nil ⟨σ3,H3,I4,qn⟩
 ·refine wpAny_passesOwn hp (thn (T.item X rfl rfl rfl hc i pins s3 σ3 H3 X.xe I3 (stat fr3) st3 go) fun r s4 ⟨u,hr,h4⟩=>?_)
  subst hr
  refine wpAny_passesOwn hp (thn h4 fun _ s5 ⟨x,H5,I5,r5,y5,st5,fr5⟩=>?_)
  have I5':=I5.pinned (stat fr5) (T.obj _ _ st5)
  refine wpAny_passesOwn hp (thn (hg _ s5 σ3 H5 x u _ I5' r5 (step x H5 y5)) fun _ s6 ⟨σ6,H6,I6,q6⟩=>?_)
  refine wpAny_passesOwn hp (thn (hb _ s6 σ6 H6 _ I6 q6) fun f s7 q7=>?_)
  have again:∀{σ7:St} {H7:Hp},Inv X (pins++Gs fp s5.heap) σ7 H7 s7→N σ7 H7→∃m,m < n∧∃i σ' H',Inv X pins σ' H' s7∧tn i s7.heap∧(∀b∈fp,H' b=none)∧W i m σ' H':=fun {σ7 H7} I7 n7=>by
   obtain ⟨m',hm,w7⟩:=hN σ7 H7 n7
   refine ⟨m',hm,i + 1,σ7,H7,I7.unpinned,T.keep _ _ _ st5 fun b hb o e=>(I7.pin (b,o) (List.mem_append_right _ (List.mem_append_right _ (Ey hb e)))).1,fun b hb=>?_,w7⟩
   obtain ⟨o,e,d⟩:=T.obj _ _ st5 b hb
   exact (I7.pin (b,o) (List.mem_append_right _ (List.mem_append_right _ (Ey hb e)))).2.1
  cases f with
  | next=>obtain ⟨σ7,H7,I7,n7⟩:=q7;exact again I7 n7
  | cont=>obtain ⟨σ7,H7,I7,n7⟩:=q7;exact again I7 n7
  | brk=>obtain ⟨σ7,H7,I7,q7⟩:=q7;exact ⟨σ7,H7,I7.unpinned,q7⟩
  | ret v=>obtain ⟨x7,σ7,H7,I7,r7,q7⟩:=q7;exact ⟨x7,σ7,H7,I7.unpinned,r7,q7⟩
end
abbrev R2:=V→V→Hp→VK→Prop
def OpR (X:Cx) (f:Value→Value→Sem Value) (r:R2):Prop:=
 ∀(pins:List (Addr×Obj)) (s:Shared) (σ:St) (H:Hp) (x y:V) (v u:Value) (Q:VK),Inv X pins σ H s→RelV x v→RelV y u→r x y H Q→
  wpAny (model X.prog X.w) X.A (f v u) (EP X pins σ Q) X.xe s
def UnR (X:Cx) (f:Value→Sem Value) (r:V→Hp→VK→Prop):Prop:=
 ∀(pins:List (Addr×Obj)) (s:Shared) (σ:St) (H:Hp) (x:V) (v:Value) (Q:VK),Inv X pins σ H s→RelV x v→r x H Q→
  wpAny (model X.prog X.w) X.A (f v) (EP X pins σ Q) X.xe s
def CG (X:Cx) (f:Value) (r:List V→Hp→VK→Prop):Prop:=
 ∀(pins:List (Addr×Obj)) (s:Shared) (σ:St) (H:Hp) (xs:List V) (us:List Value) (Q:VK),Inv X pins σ H s→Vals xs us→r xs H Q→
  wpAny (model X.prog X.w) X.A (call f us) (EP X pins σ Q) X.xe s
def tOp (r:R2) (ta tb:TE):TE:=fun σ H Q=>ta σ H fun x H1=>tb σ H1 fun y H2=>r x y H2 Q
def tUn (r:V→Hp→VK→Prop) (ta:TE):TE:=fun σ H Q=>ta σ H fun x H1=>r x H1 Q
def rI (C:Int→Int→Prop) (g:Int→Int→V):R2:=fun x y H Q=>∃i j,x = .int i∧y = .int j∧C i j∧Q (g i j) H
def rI0 (g:Int→Int→V):R2:=fun x y H Q=>∃i j,x = .int i∧y = .int j∧Q (g i j) H
def rU (g:Int→V):V→Hp→VK→Prop:=fun x H Q=>∃i,x = .int i∧Q (g i) H
section
variable {X:Cx} {a b c:Expr} {ta tb tc:TE} {pos:Pos}
theorem Pf (ha:PE X a ta) (hb:PE X b tb) {pins:List (Addr×Obj)} {s:Shared} {σ:St} {H:Hp} {R:V→V→Hp→Prop} (I:Inv X pins σ H s)
 (h:ta σ H fun x H1=>tb σ H1 fun y H2=>R x y H2) {Q:Value→Shared→Prop} {f:Value→Value→Sem Value}
 (hf:∀v u s2 x y H2,Inv X pins σ H2 s2→RelV x v→RelV y u→R x y H2→wpAny (model X.prog X.w) X.A (f v u) Q X.xe s2) :
 wpAny (model X.prog X.w) X.A (eval a X.env) (fun v s₁=>wpAny (model X.prog X.w) X.A (eval b X.env) (fun u s₂=>wpAny (model X.prog X.w) X.A (f v u) Q X.xe s₂) X.xe s₁) X.xe s:=by
 refine thn (ha pins s σ H _ I h) fun v s1 ⟨x,H1,I1,r1,q1⟩=>?_
 refine thn (hb pins s1 σ H1 _ I1 q1) fun u s2 ⟨y,H2,I2,r2,q2⟩=>?_
 exact hf v u s2 x y H2 I2 r1 r2 q2
theorem QG {op:Operator} {r:R2} (ho:OpR X (binaryOp op) r) (ha:PE X a ta) (hb:PE X b tb):PE X (.BinOp a op b pos) (tOp r ta tb):=by
 intro pins s σ H Q I h
 exact wpAny_BinOp (Pf ha hb I h fun v u s2 x y H2 I2 rx ry q=>ho pins s2 σ H2 x y v u Q I2 rx ry q)
theorem UW {op:UnaryOp} {r:V→Hp→VK→Prop} (ho:UnR X (unaryOp op) r) (ha:PE X a ta):PE X (.UnaryOp op a pos) (tUn r ta):=by
 intro pins s σ H Q I h
 exact UnaryOp_ (thn (ha pins s σ H _ I h) fun v s1 ⟨x,H1,I1,r1,q1⟩=>ho pins s1 σ H1 x v Q I1 r1 q1)
theorem opI {f:Value→Value→Sem Value} {C:Int→Int→Prop} {g:Int→Int→Int}
 (rule:∀(i j:Int) (t u:Tok) (s:Shared) (Q:Value→Shared→Prop) (E:Value→Shared→Prop),C i j→Q (.int (g i j) s.toks) { s with toks:=s.toks + 1 }→wpAny (model X.prog X.w) X.A (f (.int i t) (.int j u)) Q E s) :
 OpR X f (rI C fun i j=>.int (g i j)):=by
 intro pins s σ H x y v u Q I rx ry h
 obtain ⟨i,j,rfl,rfl,hc,q⟩:=h
 obtain ⟨t,rfl⟩:=rx
 obtain ⟨t',rfl⟩:=ry
 exact rule i j t t' s _ _ hc ⟨.int (g i j),H,I.tok _,⟨_,rfl⟩,q⟩
theorem TB {f:Value→Value→Sem Value} {g:Int→Int→Int}
 (rule:∀(i j:Int) (t u:Tok) (s:Shared) (Q:Value→Shared→Prop) (E:Value→Shared→Prop),Q (.int (g i j) s.toks) { s with toks:=s.toks + 1 }→wpAny (model X.prog X.w) X.A (f (.int i t) (.int j u)) Q E s) :
 OpR X f (rI0 fun i j=>.int (g i j)):=by
 intro pins s σ H x y v u Q I rx ry h
 obtain ⟨i,j,rfl,rfl,q⟩:=h
 obtain ⟨t,rfl⟩:=rx
 obtain ⟨t',rfl⟩:=ry
 exact rule i j t t' s _ _ ⟨.int (g i j),H,I.tok _,⟨_,rfl⟩,q⟩
theorem P0 {f:Value→Value→Sem Value} {g:Int→Int→Bool}
 (rule:∀(i j:Int) (t u:Tok) (s:Shared) (Q:Value→Shared→Prop) (E:Value→Shared→Prop),Q (.bool (g i j)) s→wpAny (model X.prog X.w) X.A (f (.int i t) (.int j u)) Q E s) :
 OpR X f (rI0 fun i j=>.bl (g i j)):=by
 intro pins s σ H x y v u Q I rx ry h
 obtain ⟨i,j,rfl,rfl,q⟩:=h
 obtain ⟨t,rfl⟩:=rx
 obtain ⟨t',rfl⟩:=ry
 exact rule i j t t' s _ _ ⟨.bl (g i j),H,I,rfl,q⟩
def ST (i j:Int):Prop:=0 < j∧j < 1073741824
def SU (i j:Int):Prop:=0≤j∧j≤1000000∧i.natAbs < 2 ^ 64
def CMul (i j:Int):Prop:=(-(2 ^ 64) < i∧i < 2 ^ 64)∨(-(2 ^ 64) < j∧j < 2 ^ 64)
theorem CMul.ok {i j:Int} (h:CMul i j):IntMulOk i j:=by
 rcases h with ⟨h1,h2⟩ | ⟨h1,h2⟩
 ·exact .of_left (intBits_le_64 h1 h2)
 ·exact .of_right (intBits_le_64 h1 h2)
theorem two_pow_nn (k:Nat):(0:Int)≤2 ^ k:=by
 rw [two_pow_cast]
 exact Int.natCast_nonneg _
theorem op_add:OpR X (binaryOp .Add) (rI0 fun i j=>.int (i + j)):=TB fun _ _ _ _ _ _ _ q=>add_int q
theorem CN:OpR X (binaryOp .Sub) (rI0 fun i j=>.int (i - j)):=TB fun _ _ _ _ _ _ _ q=>sub_int q
theorem op_mul:OpR X (binaryOp .Mult) (rI CMul fun i j=>.int (i * j)):=opI fun _ _ _ _ _ _ _ hc q=>mul_int q hc.ok
theorem Jt:OpR X (binaryOp .FloorDiv) (rI ST fun i j=>.int (i / j)):=opI fun i j _ _ _ _ _ hc q=>by
 have h1:(0:Int) < j:=hc.1
 have h2:j < 1073741824:=hc.2
 exact floordiv_int (by lia) (by rw [Int.fdiv_eq_ediv_of_nonneg i (by lia)];exact q) (.inl (PyProof.noPylong_small (by lia)))
theorem EN:OpR X (binaryOp .Mod) (rI (fun _ j=>0 < j) fun i j=>.int (i % j)):=opI fun i j _ _ _ _ _ hc q=>by
 have h1:(0:Int) < j:=hc
 exact mod_int' (by lia) (by rw [Int.fmod_eq_emod_of_nonneg i (by lia)];exact q)
theorem Iw:OpR X (binaryOp .Pow) (rI SU fun i j=>.int (i ^ j.toNat)):=opI fun _ _ _ _ _ _ _ hc q=>pow_int_small hc.1 hc.2.1 hc.2.2 q
theorem TD:OpR X (binaryOp .RShift) (rI (fun _ j=>0≤j) fun i j=>.int (i / 2 ^ j.toNat)):=opI fun i j _ _ _ _ _ hc q=>
 rshift_int hc (by rw [Int.fdiv_eq_ediv_of_nonneg i (two_pow_nn _)];exact q)
theorem unI {f:Value→Sem Value} {g:Int→Int}
 (rule:∀(i:Int) (t:Tok) (s:Shared) (Q:Value→Shared→Prop) (E:Value→Shared→Prop),Q (.int (g i) s.toks) { s with toks:=s.toks + 1 }→wpAny (model X.prog X.w) X.A (f (.int i t)) Q E s) :
 UnR X f (rU fun i=>.int (g i)):=by
 intro pins s σ H x v Q I rx h
 obtain ⟨i,rfl,q⟩:=h
 obtain ⟨t,rfl⟩:=rx
 exact rule i t s _ _ ⟨.int (g i),H,I.tok _,⟨_,rfl⟩,q⟩
theorem O1:UnR X (unaryOp .USub) (rU fun i=>.int (-i)):=unI fun _ _ _ _ _ q=>neg_int q
end
section
variable {X:Cx} {a b c:Expr} {ta tb tc:TE} {pos:Pos}
theorem op_lt:OpR X (compareOp .Lt) (rI0 fun i j=>.bl (decide (i < j))):=P0 fun _ _ _ _ _ _ _ q=>lt_int q
theorem op_le:OpR X (compareOp .LtE) (rI0 fun i j=>.bl (decide (i≤j))):=P0 fun _ _ _ _ _ _ _ q=>le_int q
theorem op_gt:OpR X (compareOp .Gt) (rI0 fun i j=>.bl (decide (j < i))):=P0 fun _ _ _ _ _ _ _ q=>gt_int q
theorem OpR.or {f:Value→Value→Sem Value} {r r':R2} (h:OpR X f r) (h':OpR X f r'):OpR X f (fun x y H Q=>r x y H Q∨r' x y H Q):=by
 intro pins s σ H x y v u Q I rx ry q
 rcases q with q | q
 ·exact h pins s σ H x y v u Q I rx ry q
 ·exact h' pins s σ H x y v u Q I rx ry q
theorem AJ (b:Expr) {op:CmpOp} (h:op≠.In:=by decide) (h2:op≠.NotIn:=by decide):behindInMarks op b=false:=by
 have e1:(op == CmpOp.In)=false:=by cases op <;> first | rfl | exact absurd rfl h
 have e2:(op == CmpOp.NotIn)=false:=by cases op <;> first | rfl | exact absurd rfl h2
 cases b <;> simp [behindInMarks,e1,e2]
theorem R3 {op:CmpOp} {r:R2} (ho:OpR X (compareOp op) r) (ha:PE X a ta) (hb:PE X b tb) (hm:behindInMarks op b=false):PE X (.Compare a [op] [b] pos) (tOp r ta tb):=by
 intro pins s σ H Q I h
 exact wpAny_Compare1 (Pf ha hb I h fun v u s2 x y H2 I2 rx ry q=>ho pins s2 σ H2 x y v u Q I2 rx ry q) hm
def Vf (t:TE):TT:=fun σ H Q=>t σ H fun x H'=>∃k,x = .bl k∧Q k H'
theorem Se {op:CmpOp} {r:R2} (ho:OpR X (compareOp op) r) (ha:PE X a ta) (hb:PE X b tb) (hm:behindInMarks op b=false):PT X (.Compare a [op] [b] pos) (Vf (tOp r ta tb)):=by
 intro pins s σ H Q I h
 refine wpAny_isTrue_Compare1 (thn (ha pins s σ H _ I h) fun v s1 ⟨x,H1,I1,r1,q1⟩=>thn (hb pins s1 σ H1 _ I1 q1) fun u s2 ⟨y,H2,I2,r2,q2⟩=>
  thn (ho pins s2 σ H2 x y v u _ I2 r1 r2 q2) fun c s3 ⟨z,H3,I3,r3,k,e,q3⟩=>?_) hm
 subst e
 cases r3
 exact wpAny_truthy_bool ⟨H3,I3,q3⟩
def OZ (r r':R2) (ta tb tc:TE):TE:=fun σ H Q=>ta σ H fun x H1=>tb σ H1 fun y H2=>r x y H2 fun z H3=>∃k,z = .bl k∧
 (if k=true then tc σ H3 fun w' H4=>r' y w' H4 Q else Q (.bl false) H3)
theorem P4 {op op':CmpOp} {r r':R2} (ho:OpR X (compareOp op) r) (ho':OpR X (compareOp op') r') (ha:PE X a ta) (hb:PE X b tb) (hc:PE X c tc)
 (hm:lastMarks [op,op'] [b,c]=false:=by with_unfolding_all rfl):PE X (.Compare a [op,op'] [b,c] pos) (OZ r r' ta tb tc):=by
 intro pins s σ H Q I h
 refine Compare_chain (thn (ha pins s σ H _ I h) fun v s1 ⟨x,H1,I1,r1,q1⟩=>chain_link (thn (hb pins s1 σ H1 _ I1 q1) fun u s2 ⟨y,H2,I2,r2,q2⟩=>
  thn (ho pins s2 σ H2 x y v u _ I2 r1 r2 q2) fun d s3 ⟨z,H3,I3,r3,k,e,q3⟩=>?_)) hm
 subst e
 cases r3
 refine wpAny_truthy_bool ?_
 cases k with
 | false=>exact ite_ff ⟨.bl false,H3,I3,rfl,q3⟩
 | true=>exact ite_tt (chain_last (thn (hc pins s3 σ H3 _ I3 q3) fun w' s4 ⟨z',H4,I4,r4,q4⟩=>ho' pins s4 σ H4 y z' u w' Q I4 r2 r4 q4))
theorem Ij:(sizeLine:Nat) < 2 ^ 63:=by rw [sizeLine_eq];decide
theorem op_add_str:OpR X (binaryOp .Add) (fun x y H Q=>∃i j,x = .str i∧y = .str j∧i.length + j.length≤sizeLine∧Q (.str (i++j)) H):=by
 intro pins s σ H x y v u Q I rx ry h
 obtain ⟨i,j,rfl,rfl,hz,q⟩:=h
 obtain ⟨t,rfl⟩:=rx
 obtain ⟨t',rfl⟩:=ry
 exact add_str (fun t' tk=>⟨.str (i++j),H,I.tok _,⟨_,rfl⟩,q⟩) hz
theorem F0 {x:V} {us:List Value} (r:Vals [x] us):∃u,us=[u]∧RelV x u:=by
 cases r with
 | cons r1 r2=>cases r2;exact ⟨_,rfl,r1⟩
theorem NP {x y:V} {us:List Value} (r:Vals [x,y] us):∃u w',us=[u,w']∧RelV x u∧RelV y w':=by
 cases r with
 | cons r1 r2=>
   cases r2 with
   | cons r3 r4=>cases r4;exact ⟨_,_,rfl,r1,r3⟩
theorem E4 (hc:X.calm=true):CG X (.builtin "min") (fun xs H Q=>∃i j,xs=[.int i,.int j]∧Q (.int (if j < i then j else i)) H):=by
 intro pins s σ H xs us Q I r h
 obtain ⟨i,j,rfl,q⟩:=h
 obtain ⟨u,w',rfl,⟨t,rfl⟩,⟨t',rfl⟩⟩:=NP r
 refine min_two_ints (I.ok.hd hc) fun h' tk k=>⟨_,H,I.kept k,?_,q⟩
 by_cases hj:j < i
 ·rw [if_pos hj,if_pos hj];exact ⟨_,rfl⟩
 ·rw [if_neg hj,if_neg hj];exact ⟨_,rfl⟩
theorem JN:CG X (.type "int") (fun xs H Q=>(∃i,xs=[.int i]∧Q (.int i) H)∨∃k,xs=[.bl k]∧Q (.int (if k then 1 else 0)) H):=by
 intro pins s σ H xs us Q I r h
 rcases h with ⟨i,rfl,q⟩ | ⟨k,rfl,q⟩
 ·obtain ⟨u,rfl,t,rfl⟩:=F0 r
  exact call_int_int ⟨.int i,H,I,⟨_,rfl⟩,q⟩
 ·obtain ⟨u,rfl,r1⟩:=F0 r
  cases r1
  exact call_int_bool ⟨.int (if k then 1 else 0),H,I.tok _,⟨_,rfl⟩,q⟩
theorem K4:CG X (.builtin "ord") (fun xs H Q=>∃x,xs=[.str x]∧x.length=1∧Q (.int (x.cps.getD 0 0:Nat)) H):=by
 intro pins s σ H xs us Q I r h
 obtain ⟨x,rfl,hz,q⟩:=h
 obtain ⟨u,rfl,t,rfl⟩:=F0 r
 exact ord_of_one hz ⟨.int _,H,I.tok _,⟨_,rfl⟩,q⟩
def SW (K:PySem.W.Frag) (x:V) (H:Hp) (n:Nat):Prop:=
 match x with
 | .str y=>y.length≤sizeLine∧n=y.length
 | .byt y=>y.size≤sizeLine∧n=y.size
 | .ref p=>(∃xs,SqL K H p xs∧n=xs.length)∨∃xs,SqT K H p xs∧n=xs.length
 | _=>False
theorem BG:CG X (.builtin "len") (fun xs H Q=>∃x n,xs=[x]∧SW X.K x H n∧Q (.int n) H):=by
 intro pins s σ H xs us Q I r h
 obtain ⟨x,n,rfl,e,q⟩:=h
 obtain ⟨u,rfl,rx⟩:=F0 r
 have hl:=Ij
 have hs:sizeLine=16777216:=sizeLine_eq
 cases x with
 | str y=>
   obtain ⟨t,rfl⟩:=rx
   obtain ⟨hy,e'⟩:y.length≤sizeLine∧n=y.length:=e
   subst e'
   exact len_str (by lia) ⟨.int _,H,I.tok _,⟨_,rfl⟩,q⟩
 | byt y=>
   obtain ⟨t,rfl⟩:=rx
   obtain ⟨hy,e'⟩:y.size≤sizeLine∧n=y.size:=e
   subst e'
   exact PySem.W.len_bytes (by lia) ⟨.int _,H,I.tok _,⟨_,rfl⟩,q⟩
 | ref p=>
   cases rx
   have e':(∃xs,SqL X.K H p xs∧n=xs.length)∨∃xs,SqT X.K H p xs∧n=xs.length:=e
   rcases e' with ⟨xs,hx,e'⟩ | ⟨xs,hx,e'⟩
   ·subst e'
    obtain ⟨its,r',pl,hz⟩:=I.list hx
    have hlen:=r'.length
    exact Calls.call_len_list pl.isList (by simp only [List.size_toArray];lia) ⟨.int xs.length,H,I.tok _,⟨_,by simp only [List.size_toArray];rw [hlen]⟩,q⟩
   ·subst e'
    obtain ⟨its,r',pl,hz⟩:=I.tuple hx
    have hlen:=r'.length
    exact len_tuple pl (by simp only [List.size_toArray];lia) ⟨.int xs.length,H,I.tok _,⟨_,by simp only [List.size_toArray];rw [hlen]⟩,q⟩
 | _=>exact (show False from e).elim
end
structure ObjM (h:Heap) (x dx C:Addr) (mA:Str→Option Value):Prop where
 obj:h.get? x=some (PySem.W.instObj C dx)
 ns:h.Ns1 dx mA
 ne:dx≠x
theorem Gp {h:Heap} {dx:Addr} {mA:Str→Option Value} (n:h.Ns1 dx mA):∃od,h.get? dx=some od∧∀name,PySem.W.lookIn name od=some (mA name):=by
 obtain ⟨o,es,ep,ho,hd,hk,_,hm⟩:=n
 refine ⟨o,ho,fun name=>?_⟩
 have e:=hm name
 unfold nsFind findBy at e
 rw [←Array.find?_toList] at e
 unfold PySem.W.lookIn
 rw [hd]
 dsimp only
 split
 ·rename_i y q
  rw [q] at e
  exact congrArg some e
 ·rename_i q
  rw [q] at e
  have a:es.toList.any (·.refKey)=false:=by
   rw [List.any_eq_false]
   intro y hy
   obtain ⟨z,t,hkey⟩:=hk y (Array.mem_toList_iff.mp hy)
   simp [DictEntry.refKey,hkey]
  have a':¬es.toList.any (·.refKey)=true:=by rw [a];exact Bool.false_ne_true
  rw [if_neg a']
  exact congrArg some e
theorem ObjM.look {h:Heap} {x dx C:Addr} {mA:Str→Option Value} (I:ObjM h x dx C mA):∃od,PySem.W.InstAt h x (PySem.W.instObj C dx) C (some od)∧∀name,PySem.W.lookIn name od=some (mA name):=
 let ⟨od,ho,hl⟩:=Gp I.ns
 ⟨od,⟨I.obj,rfl,rfl,ho⟩,hl⟩
section
variable {prog:Program} {w:World} {A:Around} {E:Value→Shared→Prop} {s:Shared} {K:PySem.W.Frag} {x dx C f:Addr} {mA:Str→Option Value} {name:Str} {v:Value}
end
theorem RelO.some_of {v:V} {o:Option Value} (r:RelO (some v) o):∃u,o=some u∧RelV v u:=by
 cases o with
 | none=>exact (show False from r).elim
 | some u=>exact ⟨u,rfl,r⟩
theorem On {v:V} {u:Value} (r:RelV v u):PySem.W.handedIn u=true:=by
 cases v with
 | non=>cases (show u=Value.none from r);rfl
 | bl b=>cases (show u=Value.bool b from r);rfl
 | int i=>obtain ⟨t,e⟩:=(show ∃t,u=Value.int i t from r);cases e;rfl
 | str x=>obtain ⟨t,e⟩:=(show ∃t,u=Value.str x t from r);cases e;rfl
 | byt b=>obtain ⟨t,e⟩:=(show ∃t,u=Value.bytes b t from r);cases e;rfl
 | flt b=>obtain ⟨t,e⟩:=(show ∃t,u=Value.float b t from r);cases e;rfl
 | ref a=>cases (show u=Value.ref a from r);rfl
 | ty n=>cases (show u=Value.type n from r);rfl
section
variable {P:Program} {w:World} {H H':Hp} {h h':Heap} {a C dx:Addr} {fs fs':List (Str×V)}
theorem Rv (hok:HOk P w H h) (e:H a=some (.ins C dx fs)):∃mA,ObjM h a dx C mA∧(∀f,RelO (fs.lookup f) (mA f))∧PySem.Within mA (fs.map (·.1))∧fs.length≤1000∧H dx=some (.own a):=by
 obtain ⟨d,z,ne,ob,mA,n,r,q⟩:=(show ObjOk P w H h a (.ins C dx fs) from hok a _ e)
 exact ⟨mA,⟨ob,n,ne⟩,r,q,z,d⟩
end
structure Cls (K:PySem.W.Frag) (C:Addr):Prop where
 pg:PySem.W.plainGet K C Str.empty=true
 hd:PySem.W.hasDictIn K C=true
 po:PySem.W.plainOver K C=true
 sa:PySem.W.findIn K (.ref C) "__setattr__" = some (some (.builtin "object.__setattr__"))
theorem Cls.get {K:PySem.W.Frag} {C:Addr} (c:Cls K C) (f:Str):PySem.W.plainGet K C f=true:=c.pg
structure Con (K:PySem.W.Frag) (C:Addr) (f:Str) (v:V) (u:Value):Prop where
 at_:PySem.W.findIn K (.ref C) f=some (some u)
 rel:RelV v u
 get:PySem.W.specialIn K u "__get__" = some none
 cp:PySem.W.copiedNames.contains f=false
structure Meth (K:PySem.W.Frag) (C:Addr) (m:Str) (f:Addr):Prop where
 at_:PySem.W.findIn K (.ref C) m=some (some (.ref f))
 fn:PySem.W.isFn K (.ref f)=true
 kp:PySem.W.keepIn K (.ref f)=true
section
variable {X:Cx} {pins:List (Addr×Obj)} {σ:St} {H:Hp} {s:Shared} {a C dx:Addr} {fs:List (Str×V)} {f:Str} {v:V} {A:Around} {E:Value→Shared→Prop}
theorem Q3 {prog:Program} {w:World} {env:Env} {e:Expr} {f:Str} {pos:Pos} {s:Shared} {Q:Value→Shared→Prop} (hb:attributeBase e f env (eval e env)=eval e env)
 (h:wpAny (model prog w) A (eval e env) (fun o s₁=>wpAny (model prog w) A (getAttr o f true) Q E s₁) E s):wpAny (model prog w) A (eval (.Attribute e f pos) env) Q E s:=
 Attribute_any_ h (by rw [arm_eval_Attribute,hb])
end
section
variable {X:Cx} {o e value:Expr} {f:Str} {pos pos' tpos:Pos} {ta tv:TE}
end
section
variable {X:Cx} {pins:List (Addr×Obj)} {σ:St} {H:Hp} {s:Shared} {A:Around} {E:Value→Shared→Prop} {Q:Value→Shared→Prop} {c:Value} {b:Bool}
inductive TyOf (K:PySem.W.Frag) (H:Hp):V→Value→Prop where
 | non:TyOf K H .non (.type "NoneType")
 | bl (x:Bool):TyOf K H (.bl x) (.type "bool")
 | int (i:Int):TyOf K H (.int i) (.type "int")
 | str (x:Str):TyOf K H (.str x) (.type "str")
 | flt (x:UInt64):TyOf K H (.flt x) (.type "float")
 | lst {a:Addr} {xs:List V} (e:H a=some (.lst xs)):TyOf K H (.ref a) (.type "list")
 | frz {a:Addr} {o:Obj} {xs:List V} (e:H a=some (.frz o (.lst xs))):TyOf K H (.ref a) (.type "list")
 | tup {a:Addr} {xs:List V} (e:H a=some (.tup xs)):TyOf K H (.ref a) (.type "tuple")
 | dK {a:Addr} {kvs:List (Key×V)} (e:H a=some (.dK kvs)):TyOf K H (.ref a) (.type "dict")
 | dT {a:Addr} {kvs:List (List Key×V)} (e:H a=some (.dT kvs)):TyOf K H (.ref a) (.type "dict")
 | ins {a C dx:Addr} {fs:List (Str×V)} (e:H a=some (.ins C dx fs)) (cl:Cls K C) (ha:PySem.W.findIn K (.ref C) "__class__" = some (some (.builtin "object.__class__")))
    (hn:PySem.W.specialIn K (.builtin "object.__class__") "__get__" = some (some (.builtin "getset_descriptor.__get__"))) (htk:PySem.W.takesIn K (.builtin "object.__class__")=some true)
    (hm:PySem.W.mroIn K C (.type "object")=some true):TyOf K H (.ref a) (.ref C)
theorem JT {x:V} {u t:Value} (I:Inv X pins σ H s) (rx:RelV x u) (ty:TyOf X.K H x t) (e:PySem.W.kitOne X.K t c=some b) (h:∀tk,Q (.bool b) { s with toks:=tk }) :
 wpAny (model X.prog X.w) A (call (.builtin "isinstance") [u,c]) Q E s:=by
 cases ty with
 | non=>cases (show u=Value.none from rx);exact PySem.W.kia_one PySem.W.kitx_none I.kIn True.intro e (fun z=>nomatch z) h
 | bl y=>cases (show u=Value.bool y from rx);exact PySem.W.kia_one PySem.W.kitx_bool I.kIn True.intro e (fun z=>nomatch z) h
 | int i=>obtain ⟨t,q⟩:=(show ∃t,u=Value.int i t from rx);cases q;exact PySem.W.kia_one PySem.W.kitx_int I.kIn True.intro e (fun z=>nomatch z) h
 | str y=>obtain ⟨t,q⟩:=(show ∃t,u=Value.str y t from rx);cases q;exact PySem.W.kia_one PySem.W.kitx_str I.kIn True.intro e (fun z=>nomatch z) h
 | flt y=>obtain ⟨t,q⟩:=(show ∃t,u=Value.float y t from rx);cases q;exact PySem.W.kia_one PySem.W.kitx_float I.kIn True.intro e (fun z=>nomatch z) h
 | @lst a xs ea=>
   cases (show u=Value.ref a from rx)
   obtain ⟨_,_,n,_,h1⟩:=(show ObjOk X.prog X.w H s.heap a (.lst xs) from I.hok a _ ea)
   exact PySem.W.kia_one PySem.W.kitx_list I.kIn ⟨_,h1,rfl⟩ e (fun z=>nomatch z) h
 | @frz a ob xs ea=>
   cases (show u=Value.ref a from rx)
   obtain ⟨_,_,_,n,_,h1⟩:=(show ObjOk X.prog X.w H s.heap a (.frz ob (.lst xs)) from I.hok a _ ea)
   exact PySem.W.kia_one PySem.W.kitx_list I.kIn ⟨_,h1,rfl⟩ e (fun z=>nomatch z) h
 | @tup a xs ea=>
   cases (show u=Value.ref a from rx)
   obtain ⟨_,_,_,p⟩:=(show ObjOk X.prog X.w H s.heap a (.tup xs) from I.hok a _ ea)
   obtain ⟨o,h1,h2,_⟩:=p
   exact PySem.W.kia_one PySem.W.kitx_tuple I.kIn ⟨o,h1,h2⟩ e (fun z=>nomatch z) h
 | @dK a kvs ea=>
   cases (show u=Value.ref a from rx)
   obtain ⟨_,_,vs,_,p⟩:=(show ObjOk X.prog X.w H s.heap a (.dK kvs) from I.hok a _ ea)
   obtain ⟨o,es,ep,h1,h2,_⟩:=p
   exact PySem.W.kia_one PySem.W.kitx_dict I.kIn ⟨o,h1,h2.1⟩ e (fun z=>nomatch z) h
 | @dT a kvs ea=>
   cases (show u=Value.ref a from rx)
   obtain ⟨_,_,xs,_,o,es,ep,h1,h2,_⟩:=(show ObjOk X.prog X.w H s.heap a (.dT kvs) from I.hok a _ ea)
   exact PySem.W.kia_one PySem.W.kitx_dict I.kIn ⟨o,h1,h2.1⟩ e (fun z=>nomatch z) h
 | @ins a C dx fs ea cl ha hn htk hm=>
   cases (show u=Value.ref a from rx)
   obtain ⟨mA,O,_⟩:=Rv I.hok ea
   obtain ⟨od,J,_⟩:=O.look
   exact PySem.W.kia_one (PySem.W.kitx_own (cl.get _) cl.hd ha hn htk hm) I.kIn J e (fun z=>nomatch z) h
end
structure Room (k:Nat) (A:Around):Prop where
 hd:A.handled=none
 dp:A.depth + 3 * k + 5 < recursionLimit
 un:A.units + 16 * k + 200 < cLine
theorem Room.mono {j k:Nat} {A:Around} (r:Room k A) (h:j≤k):Room j A:=⟨r.hd,by have:=r.dp;lia,by have:=r.un;lia⟩
theorem Room.deeper {k:Nat} {A:Around} (r:Room (k + 1) A) (env:Env):Room k (A.deeper env):=
 ⟨r.hd,by have:=r.dp;show A.depth + 1 + 3 * k + 5 < _;lia,by have:=r.un;show A.units + 3 + 16 * k + 200 < _;lia⟩
theorem Nr {A:Around} {C:Addr} {us:List Value} {kw:List (Str×Value)}:(A.under (.builtin "type.__call__" ⟨.ref C :: us,kw⟩)).depth=A.depth + 1:=by
 first | rfl | simp [Around.under,Code.weight,Code.isCreation,Code.isGuard,Code.isCaller,Code.frames,Code.isFrame,guardIds]
theorem Nt {A:Around} {C:Addr} {us:List Value} {kw:List (Str×Value)}:(A.under (.builtin "type.__call__" ⟨.ref C :: us,kw⟩)).units=A.units + 1:=by
 first | rfl | simp [Around.under,Code.cUnits,Code.frames,Code.isFrame]
theorem Room.make {k:Nat} {A:Around} (r:Room (k + 1) A) (C:Addr) (us:List Value) (kw:List (Str×Value)):Room k (A.under (.builtin "type.__call__" ⟨.ref C :: us,kw⟩)):=
 ⟨r.hd,by have:=r.dp;rw [Nr];lia,by have:=r.un;rw [Nt];lia⟩
theorem Room.depth {k:Nat} {A:Around} (r:Room k A):A.depth < recursionLimit:=by have:=r.dp;lia
theorem Room.units {k:Nat} {A:Around} (r:Room k A):A.units + 64 < cLine:=by have:=r.un;lia
def Up:TA:=fun _ H Q=>Q [] H
def NM (ta:TE) (tr:TA):TA:=fun σ H Q=>ta σ H fun x H1=>tr σ H1 fun xs H2=>Q (x :: xs) H2
section
variable {X:Cx} {e:Expr} {es:List Expr} {te:TE} {t:TA} {pos:Pos}
theorem LG:PA X [] Up:=fun _ _ _ _ H Q I h=>Calls.spliced_nil ⟨[],H,I,.nil,h⟩
theorem Fs (ha:PE X e te) (hr:PA X es t) (hs:starEach (e :: es) X.env=(false,eval e X.env) :: starEach es X.env:=by rfl):PA X (e :: es) (NM te t):=by
 intro pos pins s σ H Q I h
 rw [hs]
 show wpAny _ _ (spliced ((false,eval e X.env) :: backTo pos (starEach es X.env))) _ _ s
 refine Calls.spliced_cons (thn (ha pins s σ H _ I h) fun u s1 ⟨x,H1,I1,r1,q1⟩=>?_)
 exact thn (hr pos pins s1 σ H1 _ I1 q1) fun us s2 ⟨xs,H2,I2,r2,q2⟩=>⟨x :: xs,H2,I2,.cons r1 r2,q2⟩
def Wq (t:TA):TE:=fun σ H Q=>t σ H fun xs H1=>xs.length≤sizeLine∧∀p,H1 p=none→Q (.ref p) (upd H1 p (.tup xs))
def Wm (t:TA):TE:=fun σ H Q=>t σ H fun xs H1=>xs.length≤sizeLine∧∀p,H1 p=none→Q (.ref p) (upd H1 p (.lst xs))
theorem TN {x1} (h:PA X es t):PE X (.Tuple es x1 pos) (Wq t):=by
 intro pins s σ H Q I hq
 refine wpAny_Tuple_spliced (thn (h pos pins s σ H _ I hq) fun us s1 ⟨xs,H1,I1,r,z,q⟩=>⟨by rw [←r.length];exact z,?_⟩)
 have hf:H1 s1.heap.objs.size=none:=I1.hok.fresh (Nat.le_refl _)
 refine ⟨.ref s1.heap.objs.size,upd H1 s1.heap.objs.size (.tup xs),I1.laid (t':=s1.toks) (fun b u e=>Heap.get?_push_of_some _ e) (Nat.le_refl _) ?_,rfl,q _ hf⟩
 exact ⟨z,us,r,⟨_,Heap.get?_push_size _ rfl,rfl,_,rfl⟩⟩
theorem TJ (h:PA X es t):PE X (.List es pos) (Wm t):=by
 intro pins s σ H Q I hq
 refine wpAny_List_spliced (thn (h pos pins s σ H _ I hq) fun us s1 ⟨xs,H1,I1,r,z,q⟩=>⟨by rw [←r.length];exact z,?_⟩)
 have hf:H1 s1.heap.objs.size=none:=I1.hok.fresh (Nat.le_refl _)
 refine ⟨.ref s1.heap.objs.size,upd H1 s1.heap.objs.size (.lst xs),I1.laid (t':=s1.toks) (fun b u e=>Heap.get?_push_of_some _ e) (Nat.le_refl _) ?_,rfl,q _ hf⟩
 exact ⟨z,us,0,r,Heap.get?_push_size _ rfl⟩
end
abbrev Sp:=List V→Hp→VK→XK→Prop
abbrev CXT:=List Env→Hp→Shared→XK→Value→Shared→Prop
structure Env0 (P:Program) (w:World) (K:PySem.W.Frag) (mg:Str→Option Value) (base:Heap) (A:Around) (outer:List Env) (s:Shared) (H:Hp):Prop where
 frames:A.frames=some outer
 mod:Mod K mg base
 bs:∀b o,base.get? b=some o→s.heap.get? b=some o∧H b=none
 bsz:base.objs.size≤s.heap.objs.size
 funs:s.heap.FunFrames base outer
 frf:∀b∈frs outer,H b=none
 hok:HOk P w H s.heap
 bare:AllBare s.gens
def CE (outer:List Env) (P:Program) (w:World) (H:Hp) (s:Shared) (Q:VK) (u:Value) (s':Shared):Prop:=
 ∃v H',s'.os=s.os∧AllBare s'.gens∧Un (frs outer) [] H H' s.heap s'.heap∧HOk P w H' s'.heap∧RelV v u∧Q v H'
def CR (CX:CXT) (outer:List Env) (P:Program) (w:World) (H:Hp) (s:Shared) (Q:VK) (E:XK) (r:Result) (s':Shared):Prop:=
 match r with
 | .ok (.ret u)=>CE outer P w H s Q u s'
 | .ok _=>False
 | .error e=>CX outer H s E e s'
structure FnOk (P:Program) (w:World) (K:PySem.W.Frag) (mg:Str→Option Value) (base:Heap) (CX:CXT) (k:Nat) (f:Addr) (fd:FuncData) (ps:List Str) (sp:Sp):Prop where
 len:∀vs H Q E,sp vs H Q E→vs.length=ps.length
 run:∀(A:Around) (outer:List Env) (s:Shared) (H:Hp) (args:Args) (us:List Value) (vs:List V) (Q:VK) (E:XK),Room k A→Env0 P w K mg base A outer s H→BindsTo s fd args (ps.zip us)→Vals vs us→sp vs H Q E→
  codeAny (model P w) A (.call (.ref f) args) (CR CX outer P w H s Q E) s
theorem Env0.make {P:Program} {w:World} {K:PySem.W.Frag} {mg:Str→Option Value} {base:Heap} {A:Around} {outer:List Env} {s:Shared} {H:Hp} (e:Env0 P w K mg base A outer s H) (C:Addr) (us:List Value) (kw:List (Str×Value)) :
 Env0 P w K mg base (A.under (.builtin "type.__call__" ⟨.ref C :: us,kw⟩)) outer s H:=⟨by first | exact e.frames | (simpa [Around.under,Code.envs,Code.isFrame,pushEnvs] using e.frames),e.mod,e.bs,e.bsz,e.funs,e.frf,e.hok,e.bare⟩
section
variable {X:Cx} {pins:List (Addr×Obj)} {σ:St} {H:Hp} {s s':Shared}
theorem Inv.env0 (I:Inv X pins σ H s):Env0 X.prog X.w X.K X.mg X.base X.A X.stack s H:=
 ⟨I.ok.frames,I.ok.mod,I.bs,Nat.le_trans I.ok.bsz I.sz,I.stack,I.stkFree,I.hok,I.bare⟩
theorem Inv.after {Q:VK} {u:Value} (I:Inv X pins σ H s) (h:CE X.stack X.prog X.w H s Q u s'):EP X pins σ Q u s':=by
 obtain ⟨v,H',os,bare,un,hok,r,q⟩:=h
 obtain ⟨hh,g,d,t,os'⟩:=s'
 obtain rfl:os'=s.os:=os
 exact ⟨v,H',I.call (h':=hh) (g':=g) (d':=d) (t':=t) (ch:=[]) un hok bare (fun b z=>absurd z (by simp)),r,q⟩
end
def Va (sp:Sp) (dvs:List V) (E:XK) (t:TA):TE:=fun σ H Q=>t σ H fun vs H1=>sp (vs++dvs) H1 Q E
def Binds (K:PySem.W.Frag) (fd:FuncData) (ps:List Str) (ds:List Value):Prop:=
 ∀(s:Shared) (us:List Value),K.In s.heap→(us++ds).length=ps.length→BindsTo s fd ⟨us,[]⟩ (ps.zip (us++ds))
theorem Binds.all {K:PySem.W.Frag} {fd:FuncData} {ps:List Str} (h:∀us:List Value,us.length=ps.length→bindArgs fd ⟨us,[]⟩=pure (ps.zip us)):Binds K fd ps []:=fun s us _ hl=>by
 rw [List.append_nil] at hl ⊢
 exact .of_eq (h us hl)
def KM (CX:CXT) (X:Cx) (E:XK):Prop:=∀(pins:List (Addr×Obj)) (σ:St) (H:Hp) (s:Shared) (e:Value) (s':Shared),Inv X pins σ H s→CX X.stack H s E e s'→X.xe e s'
section
variable {X:Cx} {CX:CXT} {k:Nat} {f C:Addr} {fd:FuncData} {ps:List Str} {sp:Sp} {dvs:List V} {ds:List Value} {E:XK} {x m:Str} {p pos apos:Pos} {e o:Expr} {es:List Expr} {ta:TE} {t:TA}
theorem Uf {pins:List (Addr×Obj)} {σ:St} {H:Hp} {s:Shared} {Q:VK} {us:List Value} {vs:List V} (F:FnOk X.prog X.w X.K X.mg X.base CX k f fd ps sp) (hr:Room k X.A) (hb:Binds X.K fd ps ds) (hd:Vals dvs ds) (hx:KM CX X E)
 (I:Inv X pins σ H s) (r:Vals vs us) (h:sp (vs++dvs) H Q E):wpAny (model X.prog X.w) X.A (call (.ref f) us) (EP X pins σ Q) X.xe s:=by
 have r2:Vals (vs++dvs) (us++ds):=r.append hd
 have hl:(us++ds).length=ps.length:=by rw [←r2.length];exact F.len _ _ _ _ h
 refine wpAny_call (codeAny_mono (F.run X.A X.stack s H ⟨us,[]⟩ (us++ds) (vs++dvs) Q E hr I.env0 (hb s us I.kIn hl) r2 h) fun r s' hq=>?_)
 cases r with
 | error e=>exact hx pins σ H s e s' I hq
 | ok fl=>
   cases fl with
   | ret u=>exact I.after hq
   | next=>exact False.elim hq
   | brk=>exact False.elim hq
   | cont=>exact False.elim hq
theorem ML (F:FnOk X.prog X.w X.K X.mg X.base CX k f fd ps sp) (hr:Room k X.A) (hg:Gl X x) (hm:X.mg x=some (.ref f)) (hk:PySem.W.keepIn X.K (.ref f)=true) (hb:Binds X.K fd ps ds) (hd:Vals dvs ds) (hx:KM CX X E)
 (ha:PA X (e :: es) t) (hdb:(x == ("__debug__" : Str))=false:=by decide) (he:starEach (e :: es) X.env=(false,eval e X.env) :: starEach es X.env:=by rfl) (hpl:(backTo pos (starEach es X.env)).any (·.1)=false:=by rfl) :
 PE X (.Call (.Name x p) (e :: es) [] pos) (Va sp dvs E t):=by
 intro pins s σ H Q I h
 refine wpAny_Call_Name_kw (Fm I hg hm ?_ hdb)
 refine PySem.W.callWith_K (h₀:=X.base) I.ok.mod.kin hk (thn (ha pos pins s σ H _ I h) fun us s1 ⟨vs,H1,I1,r,q⟩=>⟨I1.kIn,?_⟩) he hpl
 exact Uf F hr hb hd hx I1 r q
structure Mk (K:PySem.W.Frag) (C f:Addr):Prop where
 makes:PySem.W.makesIn K C=true
 init:PySem.W.findIn K (.ref C) "__init__" = some (some (.ref f))
 fn:PySem.W.isFn K (.ref f)=true
 kp:PySem.W.keepIn K (.ref C)=true
end
section
variable {X:Cx} {CX:CXT} {k:Nat} {f C:Addr} {fd:FuncData} {ps ks:List Str} {sp:Sp} {E:XK} {x m:Str} {p pos apos kpos:Pos} {e o:Expr} {es:List Expr} {kws:List Keyword} {te ta:TE} {t tk:TA} {nm:Option Str}
structure KBinds (K:PySem.W.Frag) (fd:FuncData) (ps ks:List Str) (g:List Value→List Value→List Value) (gV:List V→List V→List V):Prop where
 to:∀(s:Shared) (us ws:List Value),K.In s.heap→(g us ws).length=ps.length→BindsTo s fd ⟨us,ks.zip ws⟩ (ps.zip (g us ws))
 rel:∀{vs:List V} {us:List Value} {zs:List V} {ws:List Value},Vals vs us→Vals zs ws→Vals (gV vs zs) (g us ws)
variable {g:List Value→List Value→List Value} {gV:List V→List V→List V}
end
structure FnScope (N P:List Str) (sc:Scope):Prop where
 kind:sc.kind = .function
 co:sc.isCoroutine=false
 gen:sc.isGenerator=false
 nd:N.Nodup
 pre:N.take P.length=P
 par:∀x∈P,sc.names.lookup x=some .local∨sc.names.lookup x=some .cell
 nofree:∀y∈sc.names,y.2≠.free
theorem JL {kindOf:Str→Option NameKind} {x:Str}:∀{binds:List (Str×Value)} {m:Str→Option Value},(∀v,(x,v)∉binds)→bindL kindOf binds m x=m x
 | [],_,_=>rfl
 | (n,v) :: r,m,h=>by
   unfold bindL
   rw [JL fun w hw=>h w (List.mem_cons_of_mem _ hw)]
   split
   ·have:x≠n:=by rintro rfl;exact h v List.mem_cons_self
    simp [this]
   ·rfl
theorem JJ {kindOf:Str→Option NameKind} {x:Str}:∀{binds:List (Str×Value)} {m:Str→Option Value},(∀v,(x,v)∉binds)→bindC kindOf binds m x=m x
 | [],_,_=>rfl
 | (n,v) :: r,m,h=>by
   unfold bindC
   rw [JJ fun w hw=>h w (List.mem_cons_of_mem _ hw)]
   split
   ·rfl
   ·have:x≠n:=by rintro rfl;exact h v List.mem_cons_self
    simp [this]
theorem JK {kindOf:Str→Option NameKind} {x:Str} {v:Value}:∀{P:List Str} {vs:List Value} {i:Nat} {m:Str→Option Value},P.Nodup→P[i]?=some x→vs[i]?=some v→kindOf x=some .local→
 bindL kindOf (P.zip vs) m x=some v
 | [],_,_,_,_,h,_,_=>by simp at h
 | _ :: _,[],_,_,_,_,h,_=>by simp at h
 | p :: P,w :: vs,0,m,nd,h1,h2,hk=>by
   simp at h1 h2;subst h1;subst h2
   show bindL kindOf ((p,w) :: P.zip vs) m p=_
   unfold bindL
   rw [JL fun v hv=>(List.nodup_cons.mp nd).1 (List.of_mem_zip hv).1,if_pos hk]
   simp
 | p :: P,w :: vs,i + 1,m,nd,h1,h2,hk=>by
   show bindL kindOf ((p,w) :: P.zip vs) m x=_
   unfold bindL
   exact JK (i:=i) (List.nodup_cons.mp nd).2 (by simpa using h1) (by simpa using h2) hk
theorem JI {kindOf:Str→Option NameKind} {x:Str} {v:Value}:∀{P:List Str} {vs:List Value} {i:Nat} {m:Str→Option Value},P.Nodup→P[i]?=some x→vs[i]?=some v→kindOf x≠some .local→
 bindC kindOf (P.zip vs) m x=some v
 | [],_,_,_,_,h,_,_=>by simp at h
 | _ :: _,[],_,_,_,_,h,_=>by simp at h
 | p :: P,w :: vs,0,m,nd,h1,h2,hk=>by
   simp at h1 h2;subst h1;subst h2
   show bindC kindOf ((p,w) :: P.zip vs) m p=_
   unfold bindC
   rw [JJ fun v hv=>(List.nodup_cons.mp nd).1 (List.of_mem_zip hv).1,if_neg hk]
   simp
 | p :: P,w :: vs,i + 1,m,nd,h1,h2,hk=>by
   show bindC kindOf ((p,w) :: P.zip vs) m x=_
   unfold bindC
   exact JI (i:=i) (List.nodup_cons.mp nd).2 (by simpa using h1) (by simpa using h2) hk
def DB (N:List Str) (vs:List V):St:=vs.map some++List.replicate (N.length - vs.length) none
def DY (CX:CXT) (P:Program) (w:World) (K:PySem.W.Frag) (mg:Str→Option Value) (base:Heap) (N:List Str) (qual:Str) (scope:Scope) (f:Addr) (cd:Value) (A:Around) (outer:List Env) (s:Shared) (H:Hp) (E:XK):Cx where
 prog:=P
 w:=w
 K:=K
 mg:=mg
 base:=base
 A:=A.deeper (envOfC qual scope s.heap.objs.size f cd)
 N:=N
 s₀:=s
 H₀:=H
 env:=envOfC qual scope s.heap.objs.size f cd
 outer:=outer
 stack:=envOfC qual scope s.heap.objs.size f cd :: outer
 ex:=[]
 calm:=true
 fn:=fun _=>true
 pn:=[]
 xe:=fun e s'=>wpAny (model P w) (A.deeper (envOfC qual scope s.heap.objs.size f cd)) (leaving (envOfC qual scope s.heap.objs.size f cd) e) (fun _ s''=>CX outer H s E e s'') (fun e' s''=>CX outer H s E e' s'') s'
theorem K6 {sc:Scope} {n:Nat} {x:Str} (h:sc.names.lookup x=some .cell):∃c,(cellsFrom n sc.names []).lookup x=some c:=by
 have q:=PySem.W.cellsFrom_some sc.names n [] (.inl h)
 exact Option.isSome_iff_exists.mp q
theorem Oq {CX:CXT} {P:Program} {w:World} {K:PySem.W.Frag} {mg:Str→Option Value} {base:Heap} {N ps:List Str} {qual:Str} {scope:Scope} {f:Addr} {cd:Value} {A:Around} {outer:List Env} {s s1:Shared} {H:Hp} {E:XK} {us:List Value} {vs:List V}
 (S:FnScope N ps scope) (hd:A.handled=none) (e0:Env0 P w K mg base A outer s H) (hl:vs.length=ps.length) (r:Vals vs us)
 (x:InCallC s s.heap.objs.size (bindL (envOfC qual scope s.heap.objs.size f cd).kindOf (ps.zip us) fun _=>none) (cellsFrom (s.heap.objs.size + 1) scope.names []) (bindC (envOfC qual scope s.heap.objs.size f cd).kindOf (ps.zip us) fun _=>none) s1) :
 Inv (DY CX P w K mg base N qual scope f cd A outer s H E) [] (DB N vs) H s1:=by
 have hpl:ps.length≤N.length:=by have:=congrArg List.length S.pre;rw [List.length_take] at this;lia
 obtain ⟨h1,tk,rfl,hk⟩:=x.done
 have noA:∀b:Addr,b∉(DY CX P w K mg base N qual scope f cd A outer s H E).ex:=fun b z=>absurd (show b∈([]:List Addr) from z) (by simp)
 refine ⟨⟨e0.mod,S.kind,rfl,rfl,Nat.le_refl _,fun y z c h1 h2=>?_,fun y hy=>?_,fun y c _ h=>?_,fun _=>hd,Around.frames_deeper e0.frames,.inr ⟨rfl,rfl⟩,fun b z=>absurd z (noA b),e0.bs,e0.bsz,fun b _ _=>noA b,fun b z=>absurd z (noA b),e0.funs,e0.frf⟩,
  rfl,e0.bare,Un.kept hk,⟨_,x.toInCall.ns,fun i y v h1 h2 h3=>?_⟩,fun y c h=>⟨_,x.cell y c h⟩,e0.hok.fresh (Nat.le_refl _),fun y c h=>?_,fun p hp=>absurd (show p∈([]:List (Addr×Obj)) from hp) (by simp),e0.hok.kept hk,?_⟩
 ·exact name_of_addr x.apart (PySem.mem_of_lookup h1) (PySem.mem_of_lookup h2)
 ·have hy:scope.names.lookup y=some .cell∨scope.names.lookup y=some .free:=hy
  rcases hy with hy | hy
  ·exact K6 hy
  ·exact absurd rfl (S.nofree _ (PySem.mem_of_lookup hy))
 ·exact Nat.le_of_lt (x.above y c (PySem.mem_of_lookup h))
 ·have hi:i < vs.length:=by
   unfold DB at h2
   by_cases hi:i < vs.length
   ·exact hi
   ·rw [List.getElem?_append_right (by simpa using hi)] at h2
    rw [List.getElem?_replicate] at h2
    split at h2 <;> cases h2
  have ha:vs[i]?=some v:=by
   unfold DB at h2
   rw [List.getElem?_append_left (by simpa using hi),List.getElem?_map] at h2
   cases e:vs[i]? with
   | none=>rw [e] at h2;cases h2
   | some a=>rw [e] at h2;cases h2;rfl
  obtain ⟨u,hu,rv⟩:=r.get ha
  have hp:ps[i]?=some y:=by
   rw [←S.pre,List.getElem?_take_of_lt (by lia)];exact h1
  have ndP:ps.Nodup:=by rw [←S.pre];exact S.nd.sublist (List.take_sublist _ _)
  refine ⟨u,rv,?_⟩
  rcases S.par y (List.mem_of_getElem? hp) with k | k
  ·exact .inl ⟨k,JK ndP hp hu k⟩
  ·obtain ⟨c,e⟩:=K6 (n:=s.heap.objs.size + 1) k
   refine .inr ⟨.inl k,c,e,?_⟩
   have q:=x.cell y c e
   rw [JI ndP hp hu (by show scope.names.lookup y≠_;rw [k];decide)] at q
   exact q
 ·exact e0.hok.fresh (Nat.le_of_lt (x.above y c (PySem.mem_of_lookup h)))
 ·unfold DB
  show _=N.length
  rw [List.length_append,List.length_map,List.length_replicate]
  lia
theorem QD {CX:CXT} {P:Program} {w:World} {K:PySem.W.Frag} {mg:Str→Option Value} {base:Heap} {k:Nat} {f:Addr} {name qual:Str} {params:Arguments} {body:List Stmt} {scope:Scope} {dV kV doc pm cdv ct oc:Value} {an od:Option Addr}
 {osl:Array (Option Value)} {N ps:List Str} {sp:Sp} (lk:K.lookup f=some ⟨oc,od,.func (PySem.W.fnOf name qual params body scope dV kV doc pm an cdv ct),osl⟩) (hcd:PySem.W.codeIn K cdv qual=true) (S:FnScope N ps scope)
 (len:∀vs H Q E,sp vs H Q E→vs.length=ps.length)
 (hbody:∀(A:Around) (outer:List Env) (s:Shared) (H:Hp) (vs:List V) (Q:VK) (E:XK),Room k (A.deeper (envOfC qual scope s.heap.objs.size f cdv))→sp vs H Q E→
   ∃t,PSs (DY CX P w K mg base N qual scope f cdv A outer s H E) body t∧t { nx:=fun _ H'=>Q .non H',rt:=Q } (DB N vs) H) :
 FnOk P w K mg base CX (k + 1) f (PySem.W.fnOf name qual params body scope dV kV doc pm an cdv ct) ps sp:=by
 refine ⟨len,fun A outer s H args us vs Q E hr e0 hb r hsp=>?_⟩
 have hl:=len _ _ _ _ hsp
 have KX:K.In s.heap:=e0.mod.kin.keeps fun b o e=>(e0.bs b o e).1
 have lim:s.heap.NoLimit:=e0.mod.nolimit.keeps fun b o e=>(e0.bs b o e).1
 have hkind:∀y∈ps.zip us,scope.names.lookup y.1=some .local∨(scope.names.lookup y.1=some .cell∧((cellsFrom (s.heap.objs.size + 1) scope.names []).lookup y.1).isSome=true):=fun ⟨n,v⟩ hy=>by
  rcases S.par n (List.of_mem_zip hy).1 with q | q
  ·exact .inl q
  ·exact .inr ⟨q,PySem.W.cellsFrom_some _ _ _ (.inl q)⟩
 refine codeAny_call_function hr.depth (KX _ _ lk) rfl S.co S.gen rfl (PySem.W.codeRec_of KX hcd) (hb _ _ _ _ ?_)
 refine wpAny_newFunctionEnv_cells S.kind hkind fun env he s1 x=>?_
 subst he
 refine ⟨lim.keeps x.toInCall.keep,codeAny_func ?_⟩
 obtain ⟨t,ht,hq⟩:=hbody A outer s H vs Q E (hr.deeper _) hsp
 have I:Inv (DY CX P w K mg base N qual scope f cdv A outer s H E) [] (DB N vs) H s1:=Oq S hr.hd e0 hl r x
 refine wpAny_mono (ht [] s1 (DB N vs) H _ I hq) (fun fl s' hs=>?_) fun e s' hs=>hs
 have fin:∀{σ':St} {H':Hp} {v:V} {u:Value},Inv (DY CX P w K mg base N qual scope f cdv A outer s H E) [] σ' H' s'→RelV v u→Q v H'→CE outer P w H s Q u s':=
  fun {σ' H' v u} J rv q=>⟨v,H',J.os,J.bare,J.base,J.hok,rv,q⟩
 cases fl with
 | ret u=>
   obtain ⟨v,σ',H',J,rv,q⟩:=hs
   exact fin J rv q
 | next=>
   obtain ⟨σ',H',J,q⟩:=hs
   exact fin (v:=V.non) (u:=Value.none) J rfl q
 | brk=>
   obtain ⟨_,_,_,q⟩:=hs
   exact False.elim q
 | cont=>
   obtain ⟨_,_,_,q⟩:=hs
   exact False.elim q
section
variable {X:Cx} {x:Str} {p pos:Pos} {e:Expr} {es:List Expr} {t:TA} {id T:String} {r:List V→Hp→VK→Prop}
def tCB (r:List V→Hp→VK→Prop) (t:TA):TE:=fun σ H Q=>t σ H fun vs H1=>r vs H1 Q
theorem HA (hc:CG X (.builtin id) r) (hg:Gl X x) (hm:X.mg x=none) (hv:bootBuiltins x=some (.builtin id)) (ha:PA X (e :: es) t) (hn:x≠"__name__":=by decide) (hdb:(x == ("__debug__" : Str))=false:=by decide)
 (he:starEach (e :: es) X.env=(false,eval e X.env) :: starEach es X.env:=by rfl) (hpl:(backTo pos (starEach es X.env)).any (·.1)=false:=by rfl):PE X (.Call (.Name x p) (e :: es) [] pos) (tCB r t):=by
 intro pins s σ H Q I h
 refine wpAny_Call_Name_kw (Gm I hg hm hv ?_ hn hdb)
 exact PyProof.Rows.callWith_builtin1 (thn (ha pos pins s σ H _ I h) fun us s1 ⟨vs,H1,I1,r1,q1⟩=>hc pins s1 σ H1 vs us Q I1 r1 q1) he hpl
theorem JV (hc:CG X (.type T) r) (hg:Gl X x) (hm:X.mg x=none) (hv:bootBuiltins x=some (.type T)) (ha:PA X (e :: es) t) (hn:x≠"__name__":=by decide) (hdb:(x == ("__debug__" : Str))=false:=by decide)
 (he:starEach (e :: es) X.env=(false,eval e X.env) :: starEach es X.env:=by rfl) (hpl:(backTo pos (starEach es X.env)).any (·.1)=false:=by rfl):PE X (.Call (.Name x p) (e :: es) [] pos) (tCB r t):=by
 intro pins s σ H Q I h
 refine wpAny_Call_Name_kw (Gm I hg hm hv ?_ hn hdb)
 exact PyProof.Rows.callWith_type1 (thn (ha pos pins s σ H _ I h) fun us s1 ⟨vs,H1,I1,r1,q1⟩=>hc pins s1 σ H1 vs us Q I1 r1 q1) he hpl
end
end L2
namespace HT
open PySem PyProof.Rows
section
open PySem.SeqAt
open PySem.AutoSeq1 (wpAny_loadPart')
open PySem.MeetsSeq PySem.MeetsSeq2 PySem.MeetsSeq3
end
section
variable {prog:Program} {w:World} {A:Around} {E:Value→Shared→Prop} {s:Shared}
theorem Q7 {t b:Addr} {vs ws:List Value} {Q:Value→Shared→Prop} (ht:IsTup s.heap t vs.toArray) (hb:IsTup s.heap b ws.toArray) (hv:vs≠[])
 (h1:ws=[]→Q (.ref t) s) (h2:ws≠[]→Q (.ref s.heap.objs.size) { s with heap:=s.heap.push { cls:=.type "tuple",data:=.seq (vs++ws).toArray } })
 (hsz:vs.length + ws.length≤sizeLine):wpAny (model prog w) A (binaryOp .Add (.ref t) (.ref b)) Q E s:=by
 obtain ⟨⟨cls,dd,data,sl⟩,ho,hc,n,hd⟩:=id ht
 obtain ⟨⟨cls2,dd2,data2,sl2⟩,ho2,hc2,n2,hd2⟩:=id hb
 simp only at hc hd hc2 hd2
 subst hc hd hc2 hd2
 have e:vs.toArray++ws.toArray=(vs++ws).toArray:=by simp
 by_cases hw:ws=[]
 ·exact concat_meets ⟨_,ho,rfl⟩ ⟨_,ho2,rfl⟩ noFill_tuple_add seq_tuple_add PySem.F.slot_tuple_add PySem.F.entry_tuple_add (PySem.F.args_tuple_add_2 _ _)
   (tuple_addW1 t b vs.toArray ws.toArray n n2 dd dd2 sl sl2 (by simpa using hv) (by simp [hw])) ⟨ho,ho2,h1 hw⟩
 ·refine concat_meets ⟨_,ho,rfl⟩ ⟨_,ho2,rfl⟩ noFill_tuple_add seq_tuple_add PySem.F.slot_tuple_add PySem.F.entry_tuple_add (PySem.F.args_tuple_add_2 _ _)
   (tuple_addW2 t b vs.toArray ws.toArray n n2 dd dd2 sl sl2 (by simpa using hv) (by simpa using hw) (by rw [List.size_toArray,List.size_toArray];exact hsz)) ⟨ho,ho2,?_⟩
  rw [e]
  exact h2 hw
def sIx (n d:Nat):Option Int→Nat
 | none=>d
 | some v=>if v < 0 then (v + (n:Int)).toNat else min v.toNat n
theorem Ug (n d:Nat) (hd:d≤n) (o:Option Int):sIx n d o≤n:=by
 cases o with
 | none=>exact hd
 | some v=>
   show (if v < 0 then (v + (n:Int)).toNat else min v.toNat n)≤n
   by_cases hv:v < 0
   ·rw [if_pos hv];lia
   ·rw [if_neg hv];exact Nat.min_le_right _ _
theorem Mx (v:Int) (n d:Nat):(if v < 0 then max (v + (n:Int)) 0 else min v (n:Int))=((sIx n d (some v):Nat):Int):=by
 show (if v < 0 then max (v + (n:Int)) 0 else min v (n:Int))=(((if v < 0 then (v + (n:Int)).toNat else min v.toNat n):Nat):Int)
 by_cases hv:v < 0
 ·simp only [if_pos hv];lia
 ·simp only [if_neg hv];lia
theorem M7 (lo hi:Option Int) (n:Nat):Builtin.Slice.sliceAdjust lo hi 1 (n:Int)=(((sIx n 0 lo:Nat):Int),((sIx n n hi:Nat):Int)):=by
 have h1:¬((1:Int) < 0):=by lia
 unfold Builtin.Slice.sliceAdjust
 simp only [h1,if_false]
 refine Prod.ext ?_ ?_
 ·cases lo with
  | none=>rfl
  | some v=>exact Mx v n 0
 ·cases hi with
  | none=>rfl
  | some v=>exact Mx v n n
theorem NA (i j:Nat):Builtin.Slice.slicePlaces (i:Int) (j:Int) 1=j - i:=by
 unfold Builtin.Slice.slicePlaces
 have h1:(1:Int) > 0:=by lia
 simp only [h1,if_true,Int.ediv_one]
 split <;> lia
theorem IF {v:Value} {o:Option Int} {Q:Option Int→Shared→Prop} (p:IsPart v o) (h:Q o s):wpAny (model prog w) A (Builtin.Slice.slicePartIndex v) Q E s:=by
 cases p with
 | none=>exact slicePart_none h
 | int i t=>exact slicePart_int h
theorem ET {sl:Addr} {vl vu:Value} {lo hi:Option Int} {n:Nat} {Q:Int×Int×Nat→Shared→Prop} (hs:s.heap.IsSliceOf sl vl vu .none) (pl:IsPart vl lo) (pu:IsPart vu hi)
 (h:Q (((sIx n 0 lo:Nat):Int),1,sIx n n hi - sIx n 0 lo) s):wpAny (model prog w) A (Builtin.Slice.sliceApplied (.ref sl) (pure (n:Int))) Q E s:=by
 obtain ⟨os,hos,hcs,hds⟩:=id hs
 unfold Builtin.Slice.sliceApplied Builtin.Slice.sliceFields
 refine wpAny_bind (wpAny_bind (wpAny_field hos hds (x:=vl) rfl (wpAny_bind (wpAny_field hos hds (x:=vu) rfl (wpAny_bind (wpAny_field hos hds (x:=.none) rfl (wpAny_pure ?_)))))))
 refine wpAny_bind (slicePart_none ?_)
 show wpAny _ _ (if ((1:Int) == 0)=true then _ else _) _ _ s
 rw [if_neg (by decide)]
 refine wpAny_bind (IF pl (wpAny_bind (IF pu (wpAny_bind (wpAny_pure ?_)))))
 show wpAny _ _ (match Builtin.Slice.sliceAdjust lo hi 1 (n:Int) with | (lo,hi)=>pure (lo,(1:Int),Builtin.Slice.slicePlaces lo hi 1)) _ _ s
 rw [M7 lo hi n]
 show wpAny _ _ (pure (((sIx n 0 lo:Nat):Int),(1:Int),Builtin.Slice.slicePlaces ((sIx n 0 lo:Nat):Int) ((sIx n n hi:Nat):Int) 1)) _ _ s
 rw [NA]
 exact wpAny_pure h
theorem P8 (xs:Array Value) (i k:Nat):((List.range k).filterMap fun (m:Nat)=>xs[((i:Int) + (m:Int) * 1).toNat]?).toArray=((xs.toList.drop i).take k).toArray:=by
 have e:(fun (m:Nat)=>xs[((i:Int) + (m:Int) * 1).toNat]?)=fun m=>xs[i + m]?:=by
  funext m
  have:((i:Int) + (m:Int) * 1).toNat=i + m:=by lia
  rw [this]
 rw [e]
 have:=pick_run xs i k
 rw [List.filterMap_map] at this
 have e2:((fun x=>xs[x]?) ∘ fun x=>i + x)=fun m=>xs[i + m]?:=rfl
 rw [e2] at this
 rw [this]
theorem G4 {t sl:Addr} {items:Array Value} {vl vu:Value} {lo hi:Option Int} {Q:Value→Shared→Prop} (ht:IsTup s.heap t items) (hs:s.heap.IsSliceOf sl vl vu .none) (pl:IsPart vl lo) (pu:IsPart vu hi)
 (hw:¬(sIx items.size 0 lo=0∧sIx items.size items.size hi=items.size))
 (h:Q (.ref s.heap.objs.size) { s with heap:=s.heap.push { cls:=.type "tuple",data:=.seq ((items.toList.drop (sIx items.size 0 lo)).take (sIx items.size items.size hi - sIx items.size 0 lo)).toArray } })
 (hsz:items.size≤sizeLine):wpAny (model prog w) A (getItem (.ref t) (.ref sl)) Q E s:=by
 have htake:sizeOk (.seq ((items.toList.drop (sIx items.size 0 lo)).take (sIx items.size items.size hi - sIx items.size 0 lo)).toArray):=by
  show ((items.toList.drop (sIx items.size 0 lo)).take (sIx items.size items.size hi - sIx items.size 0 lo)).toArray.size≤sizeLine
  rw [List.size_toArray,List.length_take,List.length_drop,Array.length_toList]
  lia
 have hj:sIx items.size items.size hi≤items.size:=Ug _ _ (Nat.le_refl _) hi
 obtain ⟨os,hos,hcs,hds⟩:=id hs
 have hTs:s.TypeIs (.ref sl) "slice":=⟨os,hos,hcs⟩
 unfold getItem
 try with_reducible refine wpAny_holding ?_
 first | refine wpAny_bind (wpAny_pure ?_) | skip
 refine wpAny_bind (wpAny_sequenceKey ht.typeIs (by decide) ?_)
 refine wpAny_bind (wpAny_callSpecial?_slot (name:=Str.ofString "__getitem__") ht.typeIs PyProof.Rows.slot_tuple_getitem
  (wpAny_call_entry PyProof.Rows.slot_tuple_getitem ht.typeIs entry_tuple_getitem ?_ (args_tuple_getitem _ _)))
 show wpAny _ _ (Builtin.Tuple.tupleItemsOf (.ref t) >>= _) _ _ s
 refine wpAny_bind (tupleItemsOf_ ht ?_)
 refine wpAny_bind (wpAny_typeOf hTs ?_)
 rw [if_pos (by decide)]
 refine wpAny_bind (ET hs pl pu ?_)
 have hno:¬((((sIx items.size 0 lo:Nat):Int) == 0 && (1:Int) == 1 && (sIx items.size items.size hi - sIx items.size 0 lo) == items.size)=true):=by
  intro q
  rw [Bool.and_eq_true,Bool.and_eq_true] at q
  have q1:((sIx items.size 0 lo:Nat):Int)=0:=eq_of_beq q.1.1
  have q2:sIx items.size items.size hi - sIx items.size 0 lo=items.size:=eq_of_beq q.2
  exact hw ⟨by lia,by lia⟩
 show wpAny _ _ (if (((sIx items.size 0 lo:Nat):Int) == 0 && (1:Int) == 1 && (sIx items.size items.size hi - sIx items.size 0 lo) == items.size)=true then _ else _) _ _ s
 rw [if_neg hno,P8]
 first
  | exact wpAny_bind (m:=Builtin.Tuple.tupleExact _) (wpAny_newObj_type (wpAny_pure ⟨_,rfl,wpAny_pure h⟩) htake)
  | exact wpAny_bind (m:=Builtin.Tuple.tupleExact _) (wpAny_newObj_type (wpAny_bind (wpAny_pure (wpAny_pure ⟨_,rfl,wpAny_pure h⟩))) htake)
  | exact wpAny_bind (wpAny_bind (m:=Builtin.Tuple.tupleExact _) (wpAny_newObj_type (wpAny_pure (wpAny_pure ⟨_,rfl,wpAny_pure h⟩)) htake))
  | exact wpAny_bind (wpAny_bind (m:=Builtin.Tuple.tupleExact _) (wpAny_newObj_type (wpAny_pure ⟨_,rfl,wpAny_pure h⟩) htake))
end
end HT
namespace L2
open PySem PySem.Spec PyProof.Rows
abbrev TO:=St→Hp→(Option Int→Hp→Prop)→Prop
def PO (X:Cx) (e:Option Expr) (t:TO):Prop:=
 ∀(pins:List (Addr×Obj)) (s:Shared) (σ:St) (H:Hp) (Q:Option Int→Hp→Prop),Inv X pins σ H s→t σ H Q→
  wpAny (model X.prog X.w) X.A (evalPart e X.env) (fun u s'=>∃o H',Inv X pins σ H' s'∧IsPart u o∧Q o H') X.xe s
def Sz:TO:=fun _ H Q=>Q none H
def Ve (t:TE):TO:=fun σ H Q=>t σ H fun x H1=>∃i,x = .int i∧Q (some i) H1
section
variable {X:Cx} {e:Expr} {te:TE} {lo hi:Option Expr} {tl th:TO} {pos p2:Pos}
theorem Sa:PO X none Sz:=by
 intro pins s σ H Q I h
 rw [evalPart_none]
 exact wpAny_pure ⟨none,H,I,.none,h⟩
theorem Sb (h:PE X e te):PO X (some e) (Ve te):=by
 intro pins s σ H Q I hw
 rw [evalPart_some]
 refine thn (h pins s σ H _ I hw) fun u s1 ⟨x,H1,I1,r1,q1⟩=>?_
 obtain ⟨i,rfl,q⟩:=q1
 obtain ⟨t,rfl⟩:=r1
 exact ⟨some i,H1,I1,.int i t,q⟩
def SlR (X:Cx) (r:V→Option Int→Option Int→Hp→VK→Prop):Prop:=
 ∀(pins:List (Addr×Obj)) (s:Shared) (σ:St) (H:Hp) (x:V) (v vl vu:Value) (lo hi:Option Int) (sl:Addr) (Q:VK),Inv X pins σ H s→RelV x v→s.heap.IsSliceOf sl vl vu .none→IsPart vl lo→IsPart vu hi→r x lo hi H Q→
  ∃T id,typeLookup (.type T) "__getitem__" = pure (some (.builtin id))∧s.TypeIs v T∧wpAny (model X.prog X.w) X.A (getItem v (.ref sl)) (EP X pins σ Q) X.xe s
theorem SlR.or {r r':V→Option Int→Option Int→Hp→VK→Prop} (h:SlR X r) (h':SlR X r'):SlR X (fun x lo hi H Q=>r x lo hi H Q∨r' x lo hi H Q):=by
 intro pins s σ H x v vl vu lo hi sl Q I rx hs pl pu q
 rcases q with q | q
 ·exact h pins s σ H x v vl vu lo hi sl Q I rx hs pl pu q
 ·exact h' pins s σ H x v vl vu lo hi sl Q I rx hs pl pu q
def tSl (r:V→Option Int→Option Int→Hp→VK→Prop) (te:TE) (tl th:TO):TE:=fun σ H Q=>te σ H fun x H1=>tl σ H1 fun l H2=>th σ H2 fun u H3=>r x l u H3 Q
theorem P6 {r:V→Option Int→Option Int→Hp→VK→Prop} (hr:SlR X r) (he:PE X e te) (hl:PO X lo tl) (hu:PO X hi th):PE X (.Subscript e (.Slice lo hi none p2) pos) (tSl r te tl th):=by
 intro pins s σ H Q I h
 refine Subscript_ (thn (he pins s σ H _ I h) fun v s1 ⟨x,H1,I1,r1,q1⟩=>?_)
 refine wpAny_Slice (thn (hl pins s1 σ H1 _ I1 q1) fun vl s2 ⟨l,H2,I2,pl,q2⟩=>thn (hu pins s2 σ H2 _ I2 q2) fun vu s3 ⟨u,H3,I3,pu,q3⟩=>?_)
 rw [evalPart_none]
 refine wpAny_pure ?_
 have I4:Inv X pins σ H3 { s3 with heap:=s3.heap.push { cls:=.type "slice",data:=.fields #[vl,vu,.none] } }:=I3.kept (t':=s3.toks) fun b ob q=>Heap.get?_push_of_some _ q
 obtain ⟨T,id,hT,ht,hg⟩:=hr pins { s3 with heap:=s3.heap.push { cls:=.type "slice",data:=.fields #[vl,vu,.none] } } σ H3 x v vl vu l u s3.heap.objs.size Q I4 r1 (Heap.IsSliceOf.new ..) pl pu q3
 show wpAny (model X.prog X.w) X.A (subscriptTail e (.Slice lo hi none p2) v (.ref s3.heap.objs.size)) (EP X pins σ Q) X.xe { s3 with heap:=s3.heap.push { cls:=.type "slice",data:=.fields #[vl,vu,.none] } }
 exact tail_any (ops:=[.ref s3.heap.objs.size,v]) ht hT hg (by with_unfolding_all rfl)
def FF (xs:List V) (lo hi:Option Int):List V:=(xs.drop (HT.sIx xs.length 0 lo)).take (HT.sIx xs.length xs.length hi - HT.sIx xs.length 0 lo)
theorem G8 (xs:List V) (lo hi:Option Int):(FF xs lo hi).length≤xs.length:=by
 unfold FF
 rw [List.length_take,List.length_drop]
 lia
def Ud (K:PySem.W.Frag):V→Option Int→Option Int→Hp→VK→Prop:=fun x lo hi H Q=>∃a xs,x = .ref a∧SqT K H a xs∧
 ¬(HT.sIx xs.length 0 lo=0∧HT.sIx xs.length xs.length hi=xs.length)∧∀p,H p=none→Q (.ref p) (upd H p (.tup (FF xs lo hi)))
theorem Uj:SlR X (Ud X.K):=by
 intro pins s σ H x v vl vu lo hi sl Q I rx hs pl pu h
 obtain ⟨a,xs,rfl,hx,hw,q⟩:=h
 cases rx
 obtain ⟨its,r,ht,hz⟩:=I.tuple hx
 have hlen:its.toArray.size=xs.length:=by rw [List.size_toArray];exact r.length.symm
 refine ⟨"tuple",_,PyProof.Rows.slot_tuple_getitem.lookup,ht.typeIs,?_⟩
 refine HT.G4 ht hs pl pu (by rw [hlen];exact hw) ?_ (by rw [hlen];exact hz)
 rw [hlen]
 refine ⟨.ref s.heap.objs.size,_,I.laid (t':=s.toks) (o:=.tup (FF xs lo hi)) (fun b ob q=>Heap.get?_push_of_some _ q) (Nat.le_refl _) ?_,rfl,q _ (I.hok.fresh (Nat.le_refl _))⟩
 exact ⟨Nat.le_trans (G8 xs lo hi) hz,_,(r.drop (HT.sIx xs.length 0 lo)).take (HT.sIx xs.length xs.length hi - HT.sIx xs.length 0 lo),IsTup.new _ _⟩
def QJ (K:PySem.W.Frag):R2:=fun x y H Q=>∃a b xs ys,x = .ref a∧y = .ref b∧SqT K H a xs∧SqT K H b ys∧xs≠[]∧xs.length + ys.length≤sizeLine∧
 (ys=[]→Q (.ref a) H)∧(ys≠[]→∀p,H p=none→Q (.ref p) (upd H p (.tup (xs++ys))))
theorem Vals.nil_iff {xs:List V} {us:List Value} (r:Vals xs us):us=[]↔xs=[]:=by
 cases r with
 | nil=>simp
 | cons _ _=>simp
theorem RY:OpR X (binaryOp .Add) (QJ X.K):=by
 intro pins s σ H x y v u Q I rx ry h
 obtain ⟨a,b,xs,ys,rfl,rfl,ha,hb,hx,hz,q1,q2⟩:=h
 cases rx
 cases ry
 obtain ⟨its,r1,p1,_⟩:=I.tuple ha
 obtain ⟨its2,r2,p2,_⟩:=I.tuple hb
 refine HT.Q7 p1 p2 (fun z=>hx (r1.nil_iff.mp z)) (fun z=>⟨.ref a,H,I,rfl,q1 (r2.nil_iff.mp z)⟩) (fun z=>?_) (by rw [←r1.length,←r2.length];exact hz)
 refine ⟨.ref s.heap.objs.size,_,I.laid (t':=s.toks) (o:=.tup (xs++ys)) (fun b ob q=>Heap.get?_push_of_some _ q) (Nat.le_refl _) ?_,rfl,q2 (fun w=>z (r2.nil_iff.mpr w)) _ (I.hok.fresh (Nat.le_refl _))⟩
 exact ⟨by rw [List.length_append];exact hz,_,r1.append r2,IsTup.new _ _⟩
end
def ixN (n:Nat) (i:Int):Option Nat:=if 0≤i then (if i < n then some i.toNat else none) else if -(n:Int)≤i then some (i + n).toNat else none
def atI {α:Type} (xs:List α) (i:Int):Option α:=(ixN xs.length i).bind fun j=>xs[j]?
theorem Rx {n:Nat} {i:Int} {j:Nat} (h:ixN n i=some j):seqIndex? i n=some j∧j < n∧-(n:Int)≤i∧i < n:=by
 unfold ixN at h
 by_cases h0:0≤i
 ·rw [if_pos h0] at h
  by_cases h1:i < n
  ·rw [if_pos h1] at h
   have e:i.toNat=j:=Option.some.inj h
   exact ⟨by rw [seqIndex_of h0 h1,e],by lia,by lia,h1⟩
  ·rw [if_neg h1] at h;cases h
 ·rw [if_neg h0] at h
  by_cases h1 : -(n:Int)≤i
  ·rw [if_pos h1] at h
   have e:(i + n).toNat=j:=Option.some.inj h
   exact ⟨by rw [seqIndex_neg (by lia) h1,e],by lia,h1,by lia⟩
  ·rw [if_neg h1] at h;cases h
theorem IP {α:Type} {xs:List α} {i:Int} {v:α} (h:atI xs i=some v):∃j,seqIndex? i xs.length=some j∧xs[j]?=some v∧j < xs.length∧-(xs.length:Int)≤i∧i < xs.length:=by
 unfold atI at h
 cases e:ixN xs.length i with
 | none=>rw [e] at h;cases h
 | some j=>
   rw [e] at h
   obtain ⟨h1,h2,h3,h4⟩:=Rx e
   exact ⟨j,h1,h,h2,h3,h4⟩
def Mw (b:Expr):Prop:=∀o i,subscripted b false o i=operate [o,i] (getItem o i)
def IxR (X:Cx) (r:R2):Prop:=
 ∀(value slice:Expr) (pins:List (Addr×Obj)) (s:Shared) (σ:St) (H:Hp) (x y:V) (v u:Value) (Q:VK),Inv X pins σ H s→RelV x v→RelV y u→r x y H Q→
  subscripted slice false v u=operate [v,u] (getItem v u)→wpAny (model X.prog X.w) X.A (subscriptTail value slice v u) (EP X pins σ Q) X.xe s
def MtR (X:Cx) (id:String) (r:V→List V→Hp→VK→Prop):Prop:=
 ∀(pins:List (Addr×Obj)) (s:Shared) (σ:St) (H:Hp) (x:V) (xs:List V) (v:Value) (us:List Value) (Q:VK),Inv X pins σ H s→RelV x v→Vals xs us→r x xs H Q→
  wpAny (model X.prog X.w) X.A (call (.builtin id) (v :: us)) (EP X pins σ Q) X.xe s
section
variable {X:Cx} {a b:Expr} {ta tb:TE} {pos:Pos}
theorem IxR.or {r r':R2} (h:IxR X r) (h':IxR X r'):IxR X (fun x y H Q=>r x y H Q∨r' x y H Q):=by
 intro value slice pins s σ H x y v u Q I rx ry q hs
 rcases q with q | q
 ·exact h value slice pins s σ H x y v u Q I rx ry q hs
 ·exact h' value slice pins s σ H x y v u Q I rx ry q hs
theorem UV {r:R2} (hr:IxR X r) (ha:PE X a ta) (hb:PE X b tb) (hs:Mw b):PE X (.Subscript a b pos) (tOp r ta tb):=by
 intro pins s σ H Q I h
 exact Subscript_ (Pf ha hb I h fun v u s2 x y H2 I2 rx ry q=>hr a b pins s2 σ H2 x y v u Q I2 rx ry q (hs _ _))
def T6 (K:PySem.W.Frag):R2:=fun x y H Q=>∃p xs i v,x = .ref p∧y = .int i∧SqL K H p xs∧atI xs i=some v∧Q v H
def T8 (K:PySem.W.Frag):R2:=fun x y H Q=>∃p xs i v,x = .ref p∧y = .int i∧SqT K H p xs∧atI xs i=some v∧Q v H
def T7:R2:=fun x y H Q=>∃z i c,x = .str z∧y = .int i∧z.length≤sizeLine∧atI z.cps.toList i=some c∧Q (.str ⟨#[c]⟩) H
theorem ix_list:IxR X (T6 X.K):=by
 intro value slice pins s σ H x y v u Q I rx ry h hs
 obtain ⟨p,xs,i,z,rfl,rfl,hq,he,q⟩:=h
 cases rx
 obtain ⟨t,rfl⟩:=ry
 obtain ⟨its,r,pl,hz⟩:=I.list hq
 obtain ⟨j,h1,h2,h3,h4,h5⟩:=IP he
 obtain ⟨w,ew,rw'⟩:=r.get h2
 have hl:=r.length
 have hn:=Ij
 have fin:EP X pins σ Q w s:=⟨z,H,I,rw',q⟩
 by_cases h0:0≤i
 ·have hj:i.toNat=j:=by
   rw [seqIndex_of h0 h5] at h1
   exact Option.some.inj h1
  exact item_listR pl.isList h0 (by lia) (by rw [hj];simpa using ew) fin hs
 ·have hj:(i + (its.toArray.size:Int)).toNat=j:=by
   rw [seqIndex_neg (by lia) h4] at h1
   rw [List.size_toArray,←hl]
   exact Option.some.inj h1
  exact subscriptTail_builtinR (x:=w) pl.isList.typeIs slot_list_getitem.lookup
   (wpAny_getItem_list_neg (Q:=fun r s'=>r=w∧EP X pins σ Q r s') pl.isList (by lia) (by rw [List.size_toArray] <;> lia) (by lia) (by rw [hj];simpa using ew) ⟨rfl,fin⟩) hs
theorem ix_tup:IxR X (T8 X.K):=by
 intro value slice pins s σ H x y v u Q I rx ry h hs
 obtain ⟨p,xs,i,z,rfl,rfl,hq,he,q⟩:=h
 cases rx
 obtain ⟨t,rfl⟩:=ry
 obtain ⟨its,r,pl,hz⟩:=I.tuple hq
 obtain ⟨j,h1,h2,h3,h4,h5⟩:=IP he
 obtain ⟨w,ew,rw'⟩:=r.get h2
 have hl:=r.length
 have hn:=Ij
 have fin:EP X pins σ Q w s:=⟨z,H,I,rw',q⟩
 exact subscriptTail_builtinR (x:=w) pl.typeIs slot_tuple_getitem.lookup
  (getItem_tuple (j:=j) (Q:=fun r s'=>r=w∧EP X pins σ Q r s') pl (by lia) (by lia) (by rw [List.size_toArray,←hl];exact h1) (by simpa using ew) ⟨rfl,fin⟩) hs
theorem Tp:IxR X T7:=by
 intro value slice pins s σ H x y v u Q I rx ry h hs
 obtain ⟨z,i,c,rfl,rfl,hz,he,q⟩:=h
 obtain ⟨t,rfl⟩:=rx
 obtain ⟨t',rfl⟩:=ry
 obtain ⟨j,h1,h2,h3,h4,h5⟩:=IP he
 have hl:z.cps.toList.length=z.length:=by simp [Str.length]
 rw [hl] at h1 h4 h5
 have hn:=Ij
 exact tail_any (typeIs_str s z t) slot_str_getitem.lookup (getItem_str (c:=c) (by
  have e1:decide (i < -(2 ^ 63:Int))=false:=decide_eq_false (by lia)
  have e2:decide (i ≥ 2 ^ 63)=false:=decide_eq_false (by lia)
  rw [e1,e2,Bool.or_false]) (by rw [h1];simpa using h2) ⟨.str ⟨#[c]⟩,H,I.tok _,⟨_,rfl⟩,q⟩) hs
def rIx (K:PySem.W.Frag):R2:=fun x y H Q=>T6 K x y H Q∨T8 K x y H Q∨T7 x y H Q
theorem Ak:IxR X (rIx X.K):=ix_list.or (ix_tup.or Tp)
theorem LU (lo hi:Option Int) (n:Nat):(sliceBounds lo hi none n).1=((HT.sIx n 0 lo:Nat):Int)∧(sliceBounds lo hi none n).2.1=((HT.sIx n n hi:Nat):Int)∧(sliceBounds lo hi none n).2.2=1:=by
 refine ⟨?_,?_,rfl⟩
 ·cases lo with
  | none=>simp [sliceBounds,HT.sIx]
  | some i=>
    simp only [sliceBounds,HT.sIx,Option.getD_none,show (1:Int) > 0 by decide,if_true]
    by_cases h:i < 0
    ·simp only [h,if_true] <;> lia
    ·simp only [h,if_false] <;> lia
 ·cases hi with
  | none=>simp [sliceBounds,HT.sIx]
  | some i=>
    simp only [sliceBounds,HT.sIx,Option.getD_none,show (1:Int) > 0 by decide,if_true]
    by_cases h:i < 0
    ·simp only [h,if_true] <;> lia
    ·simp only [h,if_false] <;> lia
theorem Kj (its:List Value) (lo hi:Option Int):slicePick its.toArray lo hi none=((its.drop (HT.sIx its.length 0 lo)).take (HT.sIx its.length its.length hi - HT.sIx its.length 0 lo)).toArray:=by
 obtain ⟨h1,h2,h3⟩:=LU lo hi its.toArray.size
 unfold slicePick
 rw [h1,h2,h3]
 simp only [sliceRange_one,pick_run,List.size_toArray] <;> rfl
def Ub (K:PySem.W.Frag):V→Option Int→Option Int→Hp→VK→Prop:=fun x lo hi H Q=>∃a xs,x = .ref a∧SqL K H a xs∧∀p,H p=none→Q (.ref p) (upd H p (.lst (FF xs lo hi)))
theorem sl_list:SlR X (Ub X.K):=by
 intro pins s σ H x v vl vu lo hi sl Q I rx hs pl pu h
 obtain ⟨a,xs,rfl,hx,q⟩:=h
 cases rx
 obtain ⟨its,r,ht,hz⟩:=I.list hx
 have hlen:=r.length
 refine ⟨"list",_,slot_list_getitem.lookup,ht.isList.typeIs,?_⟩
 refine wpAny_getItem_list_slice ht.isList hs pl pu .none (by simp) ?_ (by rw [List.size_toArray] <;> lia)
 rw [Kj,←hlen]
 refine ⟨.ref s.heap.objs.size,_,I.laid (t':=s.toks) (o:=.lst (FF xs lo hi)) (fun b ob q=>Heap.get?_push_of_some _ q) (Nat.le_refl _) ?_,rfl,q _ (I.hok.fresh (Nat.le_refl _))⟩
 exact ⟨Nat.le_trans (G8 xs lo hi) hz,_,0,(r.drop (HT.sIx xs.length 0 lo)).take (HT.sIx xs.length xs.length hi - HT.sIx xs.length 0 lo),Heap.get?_push_size _ rfl⟩
theorem Ga:CG X (.type "list") (fun xs H Q=>∃p ys,xs=[.ref p]∧(SqL X.K H p ys∨SqT X.K H p ys)∧∀l,H l=none→Q (.ref l) (upd H l (.lst ys))):=by
 intro pins s σ H xs us Q I r h
 obtain ⟨p,ys,rfl,hq,q⟩:=h
 obtain ⟨u,rfl,rx⟩:=F0 r
 cases rx
 have fin:∀(its:List Value),Vals ys its→ys.length≤sizeLine→∀(h':Heap) (c':Nat),(∀b o',s.heap.get? b=some o'→h'.get? b=some o')→
  h'.get? s.heap.objs.size=some { cls:=.type "list",dict:=none,data:=.seq its.toArray c',slots:=#[] }→EP X pins σ Q (.ref s.heap.objs.size) { s with heap:=h' }:=fun its r' hz h' c' kp e=>
  ⟨.ref s.heap.objs.size,_,I.laid (t':=s.toks) kp (Nat.le_refl _) (show ObjOk X.prog X.w _ h' _ (.lst ys) from ⟨hz,its,c',r',e⟩),rfl,q _ (I.hok.fresh (Nat.le_refl _))⟩
 rcases hq with hq | hq
 ·obtain ⟨its,r',pl,hz⟩:=I.list hq
  have hlen:=r'.length
  obtain ⟨o,ho,hc,n,hd⟩:=pl.isList
  exact call_list_seq p (.inl rfl) ho hc hd (fun h' c' kp e=>fin its r' hz h' c' kp e) (by simp only [List.size_toArray] <;> lia)
 ·obtain ⟨its,r',pl,hz⟩:=I.tuple hq
  have hlen:=r'.length
  obtain ⟨o,ho,hc,n,hd⟩:=pl
  exact call_list_seq p (.inr rfl) ho hc hd (fun h' c' kp e=>fin its r' hz h' c' kp e) (by simp only [List.size_toArray] <;> lia)
theorem J6:CG X (.type "tuple") (fun xs H Q=>∃p ys,xs=[.ref p]∧((SqL X.K H p ys∧∀l,H l=none→Q (.ref l) (upd H l (.tup ys)))∨(SqT X.K H p ys∧Q (.ref p) H))):=by
 intro pins s σ H xs us Q I r h
 obtain ⟨p,ys,rfl,h⟩:=h
 obtain ⟨u,rfl,rx⟩:=F0 r
 cases rx
 rcases h with ⟨hq,q⟩ | ⟨hq,q⟩
 ·obtain ⟨its,r',pl,hz⟩:=I.list hq
  have hlen:=r'.length
  refine call_tuple_list pl.isList (fun h' kp=>?_) (by simp only [List.size_toArray] <;> lia)
  have I1:Inv X pins σ H { s with heap:=h' }:=I.kept (t':=s.toks) kp
  have I2:Inv X pins σ (upd H h'.objs.size (.tup ys)) { s with heap:=h'.push { cls:=.type "tuple",data:=.seq its.toArray } }:=
   I1.laid (t':=s.toks) (fun b o e=>Heap.get?_push_of_some _ e) (Nat.le_refl _) (show ObjOk X.prog X.w _ _ _ (.tup ys) from ⟨hz,its,r',IsTup.new _ _⟩)
  exact ⟨.ref h'.objs.size,_,I2,rfl,q _ (I1.hok.fresh (Nat.le_refl _))⟩
 ·obtain ⟨its,r',pl,hz⟩:=I.tuple hq
  exact call_tuple_same pl ⟨.ref p,H,I,rfl,q⟩
def tyV (K:PySem.W.Frag) (T:String) (x:V) (H:Hp):Prop:=match x with
 | .str _=>T = "str"
 | .int _=>T = "int"
 | .ref p=>(T = "list"∧∃xs,SqL K H p xs)∨(T = "tuple"∧∃o,K.lookup p=some o∧o.cls = .type "tuple"∧o.dict=none)∨
    (T = "dict"∧((∃kvs,H p=some (.dK kvs))∨∃kvs,H p=some (.dT kvs)))∨(T = "set"∧∃S n,H p=some (.set S n))
 | _=>False
theorem Us {pins:List (Addr×Obj)} {σ:St} {H:Hp} {s:Shared} {T:String} {x:V} {v:Value} (I:Inv X pins σ H s) (r:RelV x v) (ty:tyV X.K T x H) :
 s.TypeIs v T∧∀a,v = .ref a→∃ob,s.heap.get? a=some ob∧ob.dict=none:=by
 cases x with
 | str z=>
   obtain ⟨t,rfl⟩:=r
   cases (show T = "str" from ty)
   exact ⟨typeIs_str s z t,fun _ e=>nomatch e⟩
 | int i=>
   obtain ⟨t,rfl⟩:=r
   cases (show T = "int" from ty)
   exact ⟨typeIs_int s i t,fun _ e=>nomatch e⟩
 | ref p=>
   cases r
   rcases ty with ⟨rfl,xs,hq⟩ | ⟨rfl,o,hk,hc,hd⟩ | ⟨rfl,hk⟩ | ⟨rfl,S,n,hk⟩
   ·obtain ⟨its,_,pl,_⟩:=I.list hq
    refine ⟨pl.isList.typeIs,fun a e=>?_⟩
    cases e
    obtain ⟨o,n,e,c,hd,_⟩:=pl
    exact ⟨o,e,hd⟩
   ·refine ⟨⟨o,I.kIn p o hk,hc⟩,fun a e=>?_⟩
    cases e
    exact ⟨o,I.kIn _ o hk,hd⟩
   ·have z:∃o,s.heap.get? p=some o∧o.ExactDict:=by
     rcases hk with ⟨kvs,hk⟩ | ⟨kvs,hk⟩
     ·obtain ⟨_,_,_,_,o,_,_,e,ex,_⟩:=I.hok p _ hk
      exact ⟨o,e,ex⟩
     ·obtain ⟨_,_,_,_,o,_,_,e,ex,_⟩:=I.hok p _ hk
      exact ⟨o,e,ex⟩
    obtain ⟨o,e,ex⟩:=z
    refine ⟨⟨o,e,ex.1⟩,fun a e2=>?_⟩
    cases e2
    exact ⟨o,e,ex.2.1⟩
   ·obtain ⟨o,_,_,_,e,ex,_⟩:=I.hok p _ hk
    refine ⟨⟨o,e,ex.1⟩,fun a e2=>?_⟩
    cases e2
    exact ⟨o,e,ex.2.1⟩
 | _=>exact False.elim ty
def tBM (K:PySem.W.Frag) (T:String) (r:V→List V→Hp→VK→Prop) (to:TE) (t:TA):TE:=fun σ H Q=>to σ H fun x H1=>tyV K T x H1∧t σ H1 fun xs H2=>r x xs H2 Q
variable {o e:Expr} {es:List Expr} {to:TE} {t:TA} {name:Str} {apos cpos:Pos} {T id:String} {r:V→List V→Hp→VK→Prop}
theorem Ku (pa:PlainAttrs T) (slot:Slot T name id) (hty:typeOf (.builtin id)=pure (.type "method_descriptor")) (hm:MtR X id r) (ho:PE X o to) (ha:PA X (e :: es) t)
 (hbase:attributeBase o name X.env (eval o X.env)=eval o X.env:=by rfl)
 (hfew:((backTo cpos (starEach (e :: es) X.env)).all (fun x=>!x.1) && (backToKw cpos (keywordEach [] X.env)).all (fun x=>x.1.isSome)
   && decide ((e :: es).length + ([]:List Keyword).length + (if ([]:List Keyword).isEmpty then 0 else 1) < 30))=true:=by rfl)
 (hline:(apos.endLine == cpos.line)=true:=by rfl) (hs:starEach (e :: es) X.env=(false,eval e X.env) :: starEach es X.env:=by rfl) (hplain:(backTo cpos (starEach es X.env)).any (·.1)=false:=by rfl) :
 PE X (.Call (.Attribute o name apos) (e :: es) [] cpos) (tBM X.K T r to t):=by
 intro pins s σ H Q I h
 refine wpAny_Call_method_late hbase hfew hline rfl (thn (ho pins s σ H _ I h) fun v s1 ⟨x,H1,I1,r1,ty,q1⟩=>?_)
 obtain ⟨h1,h2⟩:=Us I1 r1 ty
 refine ⟨T,id,pa,slot,hty,h1,h2,?_⟩
 have hA:=ha cpos pins s1 σ H1 _ I1 q1
 rw [hs] at hA ⊢
 refine Calls.callWith_builtin (by show (false || (backTo cpos (starEach es X.env)).any (·.1))=false;rw [hplain] <;> rfl) (Calls.evalArgs_plain ?_)
 exact thn hA fun us s2 ⟨vs,H2,I2,r2,q2⟩=>hm pins s2 σ H2 x vs v us Q I2 r1 r2 q2
/- xs.append(e),list.index on a module's tuple .. are MtR facts of 06m -/
end
def MtM (X:Cx) (id:String) (r:V→List V→Hp→VK→Prop):Prop:=
 ∀(pins:List (Addr×Obj)) (s:Shared) (σ:St) (H:Hp) (x:V) (xs:List V) (v:Value) (us:List Value) (Q:VK),Inv X pins σ H s→RelV x v→Vals xs us→r x xs H Q→
  wpAny (model X.prog X.w) X.A (call (.builtin id) (v :: us)) (EP X pins σ Q) X.xe s
theorem Vals.one:∀{x:V} {us:List Value},Vals [x] us→∃u,us=[u]∧RelV x u
 | _,_,.cons r .nil=>⟨_,rfl,r⟩
theorem Vals.rep {xs:List V} {us:List Value} (h:Vals xs us):∀k:Nat,Vals (List.replicate k xs).flatten (List.replicate k us).flatten
 | 0=>.nil
 | k + 1=>by
   rw [List.replicate_succ,List.replicate_succ,List.flatten_cons,List.flatten_cons]
   exact Vals.append h (Vals.rep h k)
theorem Gj (its:List Value):∀(k:Nat) (acc:List Value),
 List.foldl (fun x1 x2=>x1++x2) acc.toArray (List.replicate k its.toArray)=(acc++(List.replicate k its).flatten).toArray
 | 0,acc=>by simp
 | k + 1,acc=>by
   have e:acc.toArray++its.toArray=(acc++its).toArray:=by simp
   have e2:(acc++its)++(List.replicate k its).flatten=acc++(List.replicate (k + 1) its).flatten:=by
    rw [List.replicate_succ,List.flatten_cons,List.append_assoc]
   rw [←e2,←Gj its k (acc++its),←e,List.replicate_succ,List.foldl_cons]
section
variable {X:Cx} {pins:List (Addr×Obj)} {σ:St} {H:Hp} {s:Shared} {l b:Addr} {xs ys zs:List V}
theorem Inv.lset {its its':List Value} {n:Nat} {f:Array Value→Array Value} {t':Nat} (I:Inv X pins σ H s) (hH:H l=some (.lst xs))
 (e:s.heap.get? l=some { cls:=.type "list",data:=.seq its.toArray n }) (hf:f its.toArray=its'.toArray) (hv:Vals ys its') (hz:ys.length≤sizeLine) :
 Inv X pins σ (upd H l (.lst ys)) { s with heap:=s.heap.update l (Obj.mapSeq f),toks:=t' }:=by
 have q:=PySem.IsL.update e f
 rw [hf] at q
 refine I.write (x:=l) (e:=l) (by rw [hH];exact trivial) (.inl rfl) (fun b' u hb hu=>(Heap.get?_update_other s.heap (Obj.mapSeq f) (Ne.symm hb)).trans hu) ⟨_,q⟩ ?_
 exact ⟨hz,its',_,hv,q⟩
theorem Inv.lnew {its:List Value} {t':Nat} (I:Inv X pins σ H s) (hv:Vals ys its) (hz:ys.length≤sizeLine) :
 Inv X pins σ (upd H s.heap.objs.size (.lst ys)) { s with heap:=s.heap.push { cls:=.type "list",data:=.seq its.toArray },toks:=t' }:=
 I.laid (fun _ _ q=>Heap.get?_push_of_some _ q) (Nat.le_refl _) ⟨hz,its,0,hv,Heap.get?_push_size _ rfl⟩
theorem Inv.fresh (I:Inv X pins σ H s):H s.heap.objs.size=none:=I.hok.fresh (Nat.le_refl _)
theorem Inv.lstM (I:Inv X pins σ H s) (hH:H l=some (.lst xs)):xs.length≤sizeLine∧∃(its:List Value) (n:Nat),Vals xs its∧xs.length=its.length∧s.heap.get? l=some { cls:=.type "list",data:=.seq its.toArray n }:=by
 obtain ⟨z,its,n,r,e⟩:=I.hok l _ hH
 exact ⟨z,its,n,r,r.length,e⟩
theorem Hs {n:Nat} (h:n≤sizeLine):Builtin.List.listTooLong n=false:=by
 unfold Builtin.List.listTooLong
 exact decide_eq_false (by lia)
end
section
variable {X:Cx}
def MN:V→List V→Hp→VK→Prop:=fun x vs H Q=>∃l xs y,x = .ref l∧vs=[y]∧H l=some (.lst xs)∧xs.length < sizeLine∧Q .non (upd H l (.lst (xs++[y])))
theorem Oz:MtM X "list.append" MN:=by
 intro pins s σ H x vs v us Q I rx rv h
 obtain ⟨l,xs,y,rfl,rfl,hH,hz,q⟩:=h
 cases rx
 obtain ⟨u,rfl,ru⟩:=rv.one
 obtain ⟨z,its,n,r,hl,e⟩:=I.lstM hH
 refine call_meets F.slot_list_append ⟨_,e,rfl⟩ F.entry_list_append (F.args_list_append_2 _ _) (PySem.list_append l its.toArray n u (by rw [List.size_toArray];lia)) ⟨e,?_⟩
 refine ⟨.non,_,I.lset (its':=its++[u]) hH e (by simp) (r.append (.cons ru .nil)) ?_,rfl,q⟩
 rw [List.length_append,List.length_singleton]
 lia
def MO:V→List V→Hp→VK→Prop:=fun x vs H Q=>∃l b xs zs,x = .ref l∧vs=[.ref b]∧H l=some (.lst xs)∧H b=some (.lst zs)∧xs.length + zs.length≤sizeLine∧Q .non (upd H l (.lst (xs++zs)))
theorem mt_extend:MtM X "list.extend" MO:=by
 intro pins s σ H x vs v us Q I rx rv h
 obtain ⟨l,b,xs,zs,rfl,rfl,hH,hB,hz,q⟩:=h
 cases rx
 obtain ⟨u,rfl,ru⟩:=rv.one
 cases ru
 obtain ⟨z,its,n,r,hl,e⟩:=I.lstM hH
 obtain ⟨z2,its2,n2,r2,hl2,e2⟩:=I.lstM hB
 have hsz:its.toArray.size + its2.toArray.size≤sizeLine:=by rw [List.size_toArray,List.size_toArray];lia
 have hlong:¬(!its.toArray.isEmpty && Builtin.List.listTooLong (its.toArray.size + its2.toArray.size))=true:=by
  rw [Hs hsz,Bool.and_false]
  exact Bool.false_ne_true
 refine call_meets F.slot_list_extend ⟨_,e,rfl⟩ F.entry_list_extend (F.args_list_extend_2 _ _)
  (AutoSeq1.list_extend_list_list_0 l its.toArray n b its2.toArray n2 hlong (by rw [List.size_toArray];lia) (by lia)) ⟨e,e2,?_⟩
 refine ⟨.non,_,I.lset (its':=its++its2) hH e (by simp) (r.append r2) ?_,rfl,q⟩
 rw [List.length_append]
 lia
def Qf:R2:=fun x y H Q=>∃l b xs zs,x = .ref l∧y = .ref b∧H l=some (.lst xs)∧H b=some (.lst zs)∧xs.length + zs.length≤sizeLine∧∀p,H p=none→Q (.ref p) (upd H p (.lst (xs++zs)))
theorem op_cat:OpR X (binaryOp .Add) Qf:=by
 intro pins s σ H x y v u Q I rx ry h
 obtain ⟨l,b,xs,zs,rfl,rfl,hH,hB,hz,q⟩:=h
 cases rx
 cases ry
 obtain ⟨z,its,n,r,hl,e⟩:=I.lstM hH
 obtain ⟨z2,its2,n2,r2,hl2,e2⟩:=I.lstM hB
 refine PySem.P.add_list e e2 ?_ (by rw [List.size_toArray,List.size_toArray];lia)
 have ea:its.toArray++its2.toArray=(its++its2).toArray:=by simp
 rw [ea]
 exact ⟨.ref _,_,I.lnew (t':=s.toks) (r.append r2) (by rw [List.length_append];lia),rfl,q _ I.fresh⟩
def T9:R2:=fun x y H Q=>∃l k xs,x = .ref l∧y = .int k∧H l=some (.lst xs)∧-(2 ^ 63)≤k∧k < 2 ^ 63∧xs.length * k.toNat≤sizeLine∧
 ∀p,H p=none→Q (.ref p) (upd H p (.lst (List.replicate k.toNat xs).flatten))
theorem Jj {α:Type} (xs:List α) (k:Nat):(List.replicate k xs).flatten.length=k * xs.length:=by
 induction k with
 | zero=>simp
 | succ k ih=>rw [List.replicate_succ,List.flatten_cons,List.length_append,ih,Nat.succ_mul,Nat.add_comm]
theorem TC:OpR X (binaryOp .Mult) T9:=by
 intro pins s σ H x y v u Q I rx ry h
 obtain ⟨l,k,xs,rfl,rfl,hH,h1,h2,hz,q⟩:=h
 cases rx
 obtain ⟨t,rfl⟩:=ry
 obtain ⟨z,its,n,r,hl,e⟩:=I.lstM hH
 have hlen:its.toArray.size * k.toNat≤sizeLine:=by rw [List.size_toArray,←hl];exact hz
 have hcap:¬its.toArray.size * k.toNat > (2 ^ 63 - 1) / 8:=by
  have:(sizeLine:Nat)≤(2 ^ 63 - 1) / 8:=by decide
  lia
 have hfit:¬(!Builtin.List.listFitsIndex k)=true:=by
  rw [fitsIndex_both h1 h2]
  exact Bool.false_ne_true
 have hlong:¬Builtin.List.listTooLong (its.toArray.size * k.toNat)=true:=by
  rw [Hs hlen]
  exact Bool.false_ne_true
 have hnew:List.foldl (fun x1 x2=>x1++x2) #[] (List.replicate (if its.toArray.isEmpty=true then 0 else k.toNat) its.toArray)=(List.replicate k.toNat its).flatten.toArray:=by
  have f0:∀m:Nat,List.foldl (fun x1 x2=>x1++x2) #[] (List.replicate m its.toArray)=(List.replicate m its).flatten.toArray:=fun m=>by
   have:=Gj its m []
   rw [List.nil_append] at this
   exact this
  rw [f0]
  cases its with
  | nil=>simp
  | cons a r'=>rw [if_neg (by simp)]
 refine wpAny_binaryOp_repeat_ref (T:="list") (U:="int") (by decide) ⟨_,e,rfl⟩ (fun s'=>typeIs_int s' k t) noFill_list_mul F.fills_int_mul F.slot_int_rmul repeat_list F.slot_int_index.lookup
  (call_meets F.slot_int_rmul (typeIs_int s k t) F.entry_int_rmul (F.args_int_rmul_2 _ _) (int___rmul___int_list k t l its.toArray n)
    ⟨e,rfl,⟨_,e,rfl⟩,call_meets F.slot_list_mul ⟨_,e,rfl⟩ F.entry_list_mul (F.args_list_mul_2 _ _) (AutoListH.list___mul___list_int_3 l its.toArray n k t hfit hcap hlong) ⟨e,?_⟩⟩)
 rw [hnew]
 exact ⟨.ref _,_,I.lnew (t':=s.toks) (r.rep k.toNat) (by rw [Jj,Nat.mul_comm];exact hz),rfl,q _ I.fresh⟩
end
section
variable {prog:Program} {w:World} {A:Around} {E:Value→Shared→Prop} {s:Shared}
end
section
variable {X:Cx}
end
end L2
namespace Att
open PySem PySem.W PySem.Calls PyProof.Rows
theorem Ih {P:Params} {h:Heap}:∀(ns:List Int) (vs:List Value),WellAll P h vs (ns.map WData.int)→IntsAre vs ns:=by
 intro ns
 induction ns with
 | nil=>
   intro vs w
   rw [List.map_nil] at w
   cases w
   exact .nil
 | cons n ns ih=>
   intro vs w
   rw [List.map_cons] at w
   cases w with
   | cons a b=>
     cases a
     exact .cons _ _ (ih _ b)
theorem OU {l:OpenLaw} {n:Nat} (hn:l.most=some n) {P:Params} {h:Heap} {args:List WData} {vals:List Value}
 (hpre:l.row.toRowW.claim.pre args=true) (hwl:WellAll P h vals args) :
 ∃a vs ns,vals=[Value.ref a]∧args=[WData.list (ns.map WData.int)]∧h.get? a=some { cls:=.type "list",data:=.seq vs.toArray }∧IntsAre vs ns∧ns.length≤n:=by
 have hsh:WShape.hasAll [] args [.list .int]=true:=(pre_splitW hpre).1
 have hc:l.pre.holds [] { args:=args }=true:=(pre_splitW hpre).2
 obtain ⟨d,r,rfl,h1,h2⟩:=hasAllW_cons hsh
 obtain rfl:=hasAllW_nil h2
 obtain ⟨xs,rfl,h3⟩:=hasW_list h1
 obtain ⟨ns,rfl⟩:=items_int h3
 have hlen:ns.length≤n:=by
  unfold OpenLaw.pre at hc
  have h4:(WTm.not (.lt (.lit (.int (n:Int))) (.len (.arg 0)))).holds [] { args:=[.list (ns.map .int)] }=true:=by
   have h4:=(holds_andW hc).1
   rw [hn] at h4
   exact h4
  have h5:=condW_of h4 (w_not (w_lt w_lit (w_len_list (w_arg rfl))))
  rw [List.length_map] at h5
  refine Nat.le_of_not_lt fun q=>?_
  have q':(n:Int) < ((ns.length:Nat):Int):=by lia
  first
   | (rw [decide_eq_true q'] at h5;exact absurd h5 (by decide))
   | (simp at h5;lia)
 cases hwl with
 | cons w1 w2=>
   cases w2
   cases w1 with
   | list ho hall=>exact ⟨_,_,ns,rfl,rfl,ho,Ih ns _ hall,hlen⟩
theorem OM (l:OpenLaw) (args:List WData):l.row.toRowW.claim.post args (.bool true) args=true:=
 postW_of (r:=l.row.toRowW) (X:=(true == true))
  (show WShape.has [] (.bool true) .bool=true by first | rfl | decide | simp [WShape.has,WShape.arms,WShape.armsAll])
  (show (WTm.eq .res (.lit (.bool true))).value [] { args:=args,res:=some (.bool true),after:=args }=some (.bool (true == true)) from w_eq_bool (w_res rfl) w_lit) rfl
theorem attach_call {l:OpenLaw} {n:Nat} {q:Program} {loose:List Str} {XP:(Str→Option Value)→Heap→Prop} {YP:World→Heap→Prop} {d:DefRec}
 (hn:l.most=some n) (hdf:d.params.defaults=[])
 (call:∀(w:World) (s₀ s₁:Shared) (mg mb:Str→Option Value) (fa:Addr) (o:Obj) (pm cd doc:Value) (a:Addr) (vs:List Value) (ns:List Int),
   Ground q loose [] XP w s₀ mg mb s₁.heap→YP w s₁.heap→
   s₁.heap.get? fa=some o→o.data = .func (docDef d.name d.params d.body d.scope pm cd doc)→s₁.heap.CodeRec cd d.name→mg d.name=some (.ref fa)→
   s₁.heap.get? a=some { cls:=.type "list",data:=.seq vs.toArray }→IntsAre vs ns→ns.length≤n→s₁.gens=#[]→
   codeAny (model l.prog w) callerA (.call (.ref fa) ⟨[.ref a],[]⟩) (fun r s'=>r = .ok (.ret (.bool true))∧OldK s₁.heap s'.heap∧s'.os=s₁.os∧AllBare s'.gens) s₁) :
 WalkO q loose XP YP l.row.toRowW d [] (fun f vs=>PySem.call f vs):=by
 intro w s₀ s₁ mg mb G Y fa o pm cd doc dV kV ho hd hcd hD hmg hg args vals as hpre hlay hrd hwl hlo
 obtain rfl:dV = .none:=Dflts.none hD hdf
 obtain rfl:kV = .none:=Dflts.noKw hD
 obtain ⟨a,vs,ns,rfl,rfl,hobj,hints,hlen⟩:=OU hn hpre hwl
 refine enter_call (codeAny_mono (call w s₀ s₁ mg mb fa o pm cd doc a vs ns G Y ho (fd_plain hd) hcd hmg hobj hints hlen hg) fun r s' hq=>?_)
 obtain ⟨rfl,h2,h3,h4⟩:=hq
 exact ⟨.inl ⟨.bool true,.bool true,[],rfl,fun _=>rfl,.bool true,OM l _,fun _=>⟨List.Pairwise.nil,fun _ hm=>(nomatch hm)⟩⟩,h2,h3,h4⟩
section
variable {prog:Program} {w:World} {A:Around} {E:Value→Shared→Prop} {s:Shared} {K:Frag}
def W9 (h:Heap) (L d:Addr):List (Addr×Obj):=(List.range h.objs.size).filterMap fun a=>if a=L∨a=d then none else (h.get? a).map fun o=>(a,o)
end
end Att
namespace L2
open PySem PySem.Spec PyProof.Rows
theorem J2:∀{vs:List Value} {ns:List Int},IntsAre vs ns→Vals (ns.map V.int) vs
 | _,_,.nil=>.nil
 | _,_,.cons n t h=>.cons ⟨t,rfl⟩ (J2 h)
def M1 (H:Hp):Prop:=∀b,H b=none∨∃o xs,H b=some (.frz o (.lst xs))
theorem PD {P:Program} {w:World} {K:PySem.W.Frag} {mg mb:Str→Option Value} {CX:CXT} {k:Nat} {fa a:Addr} {fd:FuncData} {x:Str} {sp:Sp} {s₁:Shared} {vs:List Value} {ns:List Int}
 (KX:K.In s₁.heap) (hns:s₁.heap.Ns mainGlobals mg) (hb:s₁.heap.Ns builtinsNs mb) (hbb:∀x:Str,x≠"__name__"→mb x=bootBuiltins x) (hlim:s₁.heap.NoLimit) (hg:s₁.gens=#[])
 (ha:s₁.heap.get? a=some { cls:=.type "list",data:=.seq vs.toArray }) (hi:IntsAre vs ns) (hl:ns.length≤sizeLine) (hr:Room k callerA)
 (F:∀base:Heap,K.In base→base.Ns mainGlobals mg→FnOk P w K mg base CX k fa fd [x] sp) (hbind:∀(s:Shared) (u:Value),BindsTo s fd ⟨[u],[]⟩ [(x,u)])
 (hsp:∀H:Hp,M1 H→SqL K H a (ns.map V.int)→sp [.ref a] H (fun v _=>v = .bl true) fun _ _ _=>False)
 (hCX:∀H e s',CX [] H s₁ (fun _ _ _=>False) e s'→False) :
 codeAny (model P w) callerA (.call (.ref fa) ⟨[.ref a],[]⟩) (fun r s'=>r = .ok (.ret (.bool true))∧OldK s₁.heap s'.heap∧s'.os=s₁.os∧AllBare s'.gens) s₁:=by
 have rv:=J2 hi
 have lenV:=hi.length
 -- from an abstract heap in which nothing but the script may be tracked
 have core:∀H:Hp,M1 H→SqL K H a (ns.map V.int)→HOk P w H s₁.heap→(∀b,H b≠none→b=a)→(H a≠none→K.lookup a=none)→
  codeAny (model P w) callerA (.call (.ref fa) ⟨[.ref a],[]⟩) (fun r s'=>r = .ok (.ret (.bool true))∧OldK s₁.heap s'.heap∧s'.os=s₁.os∧AllBare s'.gens) s₁:=by
  intro H hO hS hok hA hK
  have base_of:∀{b:Addr} {o:Obj},s₁.heap.get? b=some o→H b=none→(FM s₁.heap H).get? b=some o:=fun e n=>Px e n
  have noA:∀{b:Addr} {o:Obj} {es:Array DictEntry} {ep:Nat},s₁.heap.get? b=some o→o.data = .dict es ep→H b=none:=fun {b o es ep} e d=>by
   cases q:H b with
   | none=>rfl
   | some u=>
     have e':b=a:=hA b (by rw [q];simp)
     subst e'
     rw [ha] at e;cases e
     have d':Data.seq vs.toArray _=Data.dict es ep:=d
     cases d'
  have nsK:∀{b:Addr} {m:Str→Option Value},s₁.heap.Ns b m→(FM s₁.heap H).Ns b m:=fun {b m} ⟨o,es,ep,e,d,r⟩=>⟨o,es,ep,base_of e (noA e d),d,r⟩
  have hKb:K.In (FM s₁.heap H):=fun b o e=>base_of (KX b o e) (by
   cases q:H b with
   | none=>rfl
   | some u=>
     have e':b=a:=hA b (by rw [q];simp)
     subst e'
     rw [hK (by rw [q];simp)] at e;cases e)
  have hM:Mod K mg (FM s₁.heap H):=⟨hKb,nsK hns,⟨mb,nsK hb,hbb⟩,let ⟨mc,h1,h2⟩:=hlim;⟨mc,nsK h1,h2⟩⟩
  have e0:Env0 P w K mg (FM s₁.heap H) callerA [] s₁ H:=⟨rfl,hM,fun b o e=>RU e,Nat.le_of_eq (Op _ _),trivial,fun b hb=>absurd (show b∈([]:List Addr) from hb) (by simp),hok,.of_eq hg⟩
  refine codeAny_mono ((F _ hKb (nsK hns)).run callerA [] s₁ H ⟨[.ref a],[]⟩ [.ref a] [.ref a] _ _ hr e0 (hbind s₁ (.ref a)) (.cons rfl .nil) (hsp H hO hS)) fun r s' h=>?_
  cases r with
  | error e=>exact (hCX H e s' h).elim
  | ok fl=>
    cases fl with
    | next=>exact False.elim h
    | brk=>exact False.elim h
    | cont=>exact False.elim h
    | ret u=>
      obtain ⟨v,H',os,bare,un,hok',r',q⟩:=h
      have q':v = .bl true:=q
      subst q'
      obtain rfl:u=Value.bool true:=r'
      refine ⟨rfl,OldK.of_keep fun b o e=>?_,os,bare⟩
      cases q:H b with
      | none=>exact un.keep b o e q (by intro z;exact absurd (show b∈([]:List Addr) from z) (by simp)) (by simp)
      | some u=>
        rcases hO b with z | ⟨ob,xs,z⟩
        ·rw [q] at z;cases z
        ·have z2:=un.frzs b ob _ z
         obtain ⟨e1,_⟩:=hok b _ z
         obtain ⟨e2,_⟩:=hok' b _ z2
         rw [e] at e1;cases e1
         exact e2
 cases hk:K.lookup a with
 | some o=>
   -- the script is one of the module's own objects
   have e:=KX a o hk
   rw [ha] at e
   cases e
   refine core (fun _=>none) (fun _=>.inl rfl) (.inr ⟨_,vs.toArray,_,hk,rfl,rfl,rfl,by rw [List.size_toArray,lenV];exact hl,by simpa using rv⟩) (fun b u z=>by have z':(none:Option HO)=some u:=z;cases z') (fun b z=>absurd rfl z) fun z=>absurd rfl z
 | none=>
   refine core (fun b=>if b=a then some (.frz { cls:=.type "list",data:=.seq vs.toArray } (.lst (ns.map V.int))) else none) (fun b=>?_) (.inl (.inr ⟨{ cls:=.type "list",data:=.seq vs.toArray },if_pos rfl⟩)) (fun b u z=>?_) (fun b z=>?_) fun _=>hk
   ·by_cases hb:b=a
    ·exact .inr ⟨_,_,if_pos hb⟩
    ·exact .inl (if_neg hb)
   ·by_cases hb:b=a
    ·have z':=(if_pos hb).symm.trans z
     cases z'
     subst hb
     exact ⟨ha,by rw [List.length_map];exact hl,vs,_,rv,ha⟩
    ·have z':=(if_neg hb).symm.trans z
     cases z'
   ·by_cases hb:b=a
    ·exact hb
    ·exact absurd (if_neg hb) z
theorem SL {l:PySem.W.OpenLaw} {n k:Nat} {q:Program} {loose:List Str} {XP:(Str→Option Value)→Heap→Prop} {YP:World→Heap→Prop} {d:DefRec} {K:Params→PySem.W.Frag} {CX:World→CXT} {sp:World→Sp} {x:Str}
 (hn:l.most=some n) (hn2:n≤sizeLine) (hdf:d.params.defaults=[]) (hr:Room k callerA)
 (hY:∀(w:World) (h:Heap),YP w h→(K w.params).In h)
 (F:∀(w:World) (mg:Str→Option Value) (fa:Addr) (h:Heap),(K w.params).In h→h.Ns mainGlobals mg→mg d.name=some (.ref fa)→
   ∃fd:FuncData,(∀(s:Shared) (u:Value),BindsTo s fd ⟨[u],[]⟩ [(x,u)])∧
    ∀base:Heap,(K w.params).In base→base.Ns mainGlobals mg→FnOk l.prog w (K w.params) mg base (CX w) k fa fd [x] (sp w))
 (hsp:∀(w:World) (H:Hp) (a:Addr) (ns:List Int),ns.length≤n→M1 H→SqL (K w.params) H a (ns.map V.int)→sp w [.ref a] H (fun v _=>v = .bl true) fun _ _ _=>False)
 (hCX:∀(w:World) (H:Hp) (s:Shared) (e:Value) (s':Shared),CX w [] H s (fun _ _ _=>False) e s'→False) :
 PySem.W.WalkO q loose XP YP l.row.toRowW d [] (fun f vs=>PySem.call f vs):=by
 refine Att.attach_call hn hdf fun w s₀ s₁ mg mb fa o pm cd doc a vs ns G Y ho hd hcd hmg hobj hints hlen hg=>?_
 have KX:=hY w _ Y
 obtain ⟨fd,hb,hF⟩:=F w mg fa _ KX G.T.g hmg
 exact PD KX G.T.g G.T.b G.T.builtins G.T.nolimit hg hobj hints (Nat.le_trans hlen hn2) hr hF hb (fun H hO hS=>hsp w H a ns hlen hO hS) fun H e s'=>hCX w H s₁ e s'
def DI (s:Stmt):Arguments:=match s with
 | .FunctionDef _ a _ _ _ _ _ _ _ _=>a
 | _=>{ posonlyargs:=[],args:=[],vararg:=none,kwonlyargs:=[],kw_defaults:=[],kwarg:=none,defaults:=[] }
def B3 (s:Stmt):List Stmt:=match s with
 | .FunctionDef _ _ b _ _ _ _ _ _ _=>b
 | _=>[]
def Av (s:Stmt):Scope:=match s with
 | .FunctionDef _ _ _ _ _ _ sc _ _ _=>sc
 | _=>{ kind:=.function,names:=[],isGenerator:=false,isCoroutine:=false }
abbrev CX0:CXT:=fun _ _ _ _ _ _=>False
abbrev E0:XK:=fun _ _ _=>False
theorem QF {X:Cx}:KM CX0 X E0:=fun _ _ _ _ _ _ _ h=>h.elim
structure Fun (K:PySem.W.Frag) (x qual:Str) (st:Stmt) (f:Addr) (fd:FuncData):Prop where
 ex:∃(oc:Value) (od:Option Addr) (kV doc pm:Value) (an:Option Addr) (cdv ct:Value) (osl:Array (Option Value)),
  fd=PySem.W.fnOf x qual (DI st) (B3 st) (Av st) .none kV doc pm an cdv ct∧K.lookup f=some ⟨oc,od,.func fd,osl⟩∧PySem.W.codeIn K cdv qual=true
 kp:PySem.W.keepIn K (.ref f)=true
section
variable {P:Program} {w:World} {K:PySem.W.Frag} {mg:Str→Option Value} {base:Heap}
theorem Fun.ok {x qual:Str} {st:Stmt} {f:Addr} {fd:FuncData} {N ps:List Str} {k:Nat} {sp:Sp} (F:Fun K x qual st f fd) (S:FnScope N ps (Av st)) (len:∀vs H Q E,sp vs H Q E→vs.length=ps.length)
 (hbody:∀(cdv:Value) (A:Around) (outer:List Env) (s:Shared) (H:Hp) (vs:List V) (Q:VK) (E:XK),Room k (A.deeper (envOfC qual (Av st) s.heap.objs.size f cdv))→sp vs H Q E→
   ∃t,PSs (DY CX0 P w K mg base N qual (Av st) f cdv A outer s H E).nox (B3 st) t∧t { nx:=fun _ H'=>Q .non H',rt:=Q } (DB N vs) H):FnOk P w K mg base CX0 (k + 1) f fd ps sp:=by
 obtain ⟨oc,od,kV,doc,pm,an,cdv,ct,osl,rfl,lk,hcd⟩:=F.ex
 refine QD lk hcd S len fun A outer s H vs Q E hr hsp=>?_
 obtain ⟨t,h,q⟩:=hbody cdv A outer s H vs Q E hr hsp
 exact ⟨t,h.nox,q⟩
theorem Fun.binds {x qual:Str} {st:Stmt} {f:Addr} {fd:FuncData} {ps:List Str} (F:Fun K x qual st f fd)
 (h:∀(kV doc pm:Value) (an:Option Addr) (cdv ct:Value) (us:List Value),us.length=ps.length→bindArgs (PySem.W.fnOf x qual (DI st) (B3 st) (Av st) .none kV doc pm an cdv ct) ⟨us,[]⟩=pure (ps.zip us)):Binds K fd ps []:=by
 obtain ⟨oc,od,kV,doc,pm,an,cdv,ct,osl,rfl,lk,hcd⟩:=F.ex
 exact .all (h kV doc pm an cdv ct)
theorem Ie {x qual:Str} {st:Stmt} {f:Addr} {oc:Value} {od an:Option Addr} {osl:Array (Option Value)} {kV doc pm cdv ct:Value} (l:K.lookup f=some ⟨oc,od,.func (PySem.W.fnOf x qual (DI st) (B3 st) (Av st) .none kV doc pm an cdv ct),osl⟩)
 (c:PySem.W.codeIn K cdv qual=true) (k:PySem.W.keepIn K (.ref f)=true):Fun K x qual st f (PySem.W.fnOf x qual (DI st) (B3 st) (Av st) .none kV doc pm an cdv ct):=⟨⟨oc,od,kV,doc,pm,an,cdv,ct,osl,rfl,l,c⟩,k⟩
end
section
variable {X:Cx}
end
def Xl (H H':Hp):Prop:=∀b o,H b=some o→H' b=some o
section
variable {κ:Type} [DecidableEq κ]
def Es (kvs:List (κ×V)) (k:κ):Option V:=(kvs.find? fun kv=>decide (kv.1=k)).map (·.2)
def Dq (kvs:List (κ×V)) (k:κ) (v:V):List (κ×V):=
 if (kvs.any fun kv=>decide (kv.1=k))=true then kvs.map (fun kv=>if kv.1=k then (kv.1,v) else kv) else kvs++[(k,v)]
theorem L7 {p:κ×V} {r:List (κ×V)} {k:κ} (e:p.1=k):Es (p :: r) k=some p.2:=by simp [Es,List.find?_cons,e]
theorem L6 {p:κ×V} {r:List (κ×V)} {k:κ} (e:¬p.1=k):Es (p :: r) k=Es r k:=by simp [Es,List.find?_cons,e]
theorem G9 (kvs:List (κ×V)) (k:κ) (v:V):(Dq kvs k v).length≤kvs.length + 1:=by
 unfold Dq
 split
 ·rw [List.length_map];lia
 ·rw [List.length_append,List.length_cons,List.length_nil];lia
theorem KV.val {kvs:List (κ×V)} {vs:List (κ×Value)} (r:KV kvs vs) (k:κ):RelO (Es kvs k) (valueAt vs k):=by
 unfold KV at r
 induction r with
 | nil=>exact True.intro
 | @cons p q ps qs h t ih=>
   obtain ⟨h1,h2⟩:=h
   by_cases e:p.1=k
   ·have e':q.1=k:=h1.symm.trans e
    have b:valueAt (q :: qs) k=some q.2:=by simp [valueAt,List.find?_cons,e']
    rw [L7 e,b];exact h2
   ·have e':¬q.1=k:=fun z=>e (h1.trans z)
    have b:valueAt (q :: qs) k=valueAt qs k:=by simp [valueAt,List.find?_cons,e']
    rw [L6 e,b];exact ih
theorem KV.any {kvs:List (κ×V)} {vs:List (κ×Value)} (r:KV kvs vs) (k:κ):(kvs.any fun kv=>decide (kv.1=k))=vs.any fun kv=>decide (kv.1=k):=by
 unfold KV at r
 induction r with
 | nil=>rfl
 | cons h t ih=>rw [List.any_cons,List.any_cons,ih,h.1]
theorem KV.repl {kvs:List (κ×V)} {vs:List (κ×Value)} (r:KV kvs vs) (k:κ) {y:V} {u:Value} (ry:RelV y u) :
 KV (kvs.map fun kv=>if kv.1=k then (kv.1,y) else kv) (vs.map fun kv=>if kv.1=k then (kv.1,u) else kv):=by
 unfold KV at r ⊢
 induction r with
 | nil=>exact .nil
 | @cons p q ps qs h t ih=>
   rw [List.map_cons,List.map_cons]
   refine .cons ?_ ih
   obtain ⟨h1,h2⟩:=h
   by_cases e:p.1=k
   ·rw [if_pos e,if_pos (h1.symm.trans e)];exact ⟨h1,ry⟩
   ·rw [if_neg e,if_neg (fun z=>e (h1.trans z))];exact ⟨h1,h2⟩
theorem KV.put {kvs:List (κ×V)} {vs:List (κ×Value)} (r:KV kvs vs) (k:κ) {y:V} {u:Value} (ry:RelV y u):KV (Dq kvs k y) (stored vs k u):=by
 unfold Dq stored
 rw [r.any k]
 by_cases e:(vs.any fun kv=>decide (kv.1=k))=true
 ·rw [if_pos e,if_pos e];exact r.repl k ry
 ·rw [if_neg e,if_neg e];exact Paired.snoc r ⟨rfl,ry⟩
theorem KV.length {kvs:List (κ×V)} {vs:List (κ×Value)} (r:KV kvs vs):kvs.length=vs.length:=Paired.length r
end
theorem Np {P:Program} {w:World} {k:Key} {u:Value} (r:RelV (kV k) u):(CV P w).is k u=true:=by
 cases k with
 | inl i=>obtain ⟨t,e⟩:=(show ∃t,u=Value.int i t from r);subst e;exact Mh P w i t
 | inr x=>obtain ⟨t,e⟩:=(show ∃t,u=Value.str x t from r);subst e;exact Mi P w x t
abbrev KT (H:Hp):List (List Key×V)→List (List Key×Addr×Value)→Prop:=Paired fun p q=>p.1=q.1∧H q.2.1=some (.tup (p.1.map kV))∧RelV p.2 q.2.2
section
variable {P:Program} {w:World} {H:Hp} {h:Heap} {a:Addr}
theorem U5 {u:HO} (ok:HOk P w H h) (e:Rd H a u):ObjOk P w H h a u:=e.ok ok
theorem UI {kvs:List (Key×V)} (ok:HOk P w H h) (e:Rd H a (.dK kvs)):kvs.length≤sizeLine∧(a == sysModules)=false∧∃vs,KV kvs vs∧h.DictOf (CV P w) a vs:=
 show ObjOk P w H h a (.dK kvs) from U5 ok e
theorem Ng {kvs:List (Key×V)} (ok:HOk P w H h) (e:H a=some (.dK kvs)):kvs.length≤sizeLine∧(a == sysModules)=false∧∃vs,KV kvs vs∧h.DictOf (CV P w) a vs:=UI ok (.inl e)
end
def DGet (H:Hp) (a:Addr) (y:V) (r:Option V):Prop:=
 (∃kvs k,Rd H a (.dK kvs)∧y=kV k∧r=Es kvs k)∨∃kvs k b,Rd H a (.dT kvs)∧y = .ref b∧H b=some (.tup (k.map kV))∧r=Es kvs k
def Xj (H:Hp) (a:Addr) (y v:V) (H':Hp):Prop:=
 (∃kvs k,H a=some (.dK kvs)∧y=kV k∧kvs.length < sizeLine∧H'=upd H a (.dK (Dq kvs k v)))∨
 ∃kvs k b,H a=some (.dT kvs)∧y = .ref b∧H b=some (.tup (k.map kV))∧kvs.length < sizeLine∧H'=upd H a (.dT (Dq kvs k v))
theorem DGet.k {H:Hp} {a:Addr} {kvs:List (Key×V)} {k:Key} (e:H a=some (.dK kvs)):DGet H a (kV k) (Es kvs k):=.inl ⟨kvs,k,.inl e,rfl,rfl⟩
section
variable {X:Cx} {pins:List (Addr×Obj)} {σ:St} {H:Hp} {s:Shared} {a:Addr} {y v:V} {u r:Value} {o:Option V} {A:Around} {E:Value→Shared→Prop}
theorem Inv.big (I:Inv X pins σ H s):sysModules < s.heap.objs.size:=by
 have h:mainGlobals < s.heap.objs.size:=(I.mod.glob.keeps I.bk).lt
 exact Nat.lt_trans (by decide) h
theorem My {h':Heap} {t':Nat} {ob:HO} (I:Inv X pins σ H s) (mu:Mut (H a)) (hs:Heap.SameBut a s.heap h') (he:∃q,h'.get? a=some q) (new:ObjOk X.prog X.w (upd H a ob) h' a ob) :
 Inv X pins σ (upd H a ob) { s with heap:=h',toks:=t' }:=
 I.write (x:=a) (e:=a) mu (.inl rfl) (fun b q hb z=>(hs.2 b hb).trans z) he new
theorem N8 {P:Program} {w:World} {H':Hp} {h':Heap} {kvs:List (Key×V)} {vs:List (Key×Value)} (z:kvs.length≤sizeLine) (hd:(a == sysModules)=false) (rel:KV kvs vs) (dd:h'.DictOf (CV P w) a vs) :
 ObjOk P w H' h' a (.dK kvs):=⟨z,hd,vs,rel,dd⟩
end
section
variable {X:Cx} {pins:List (Addr×Obj)} {σ:St} {H:Hp} {s:Shared} {a:Addr} {kvs:List (Key×V)} {k:Key} {u:Value} {A:Around} {E:Value→Shared→Prop}
end
section
variable {X:Cx} {o i e value:Expr} {pos pos' tpos:Pos} {td ty tv:TE}
end
theorem Pn {P:Program} {w:World} {H:Hp} (h:Heap) (hb:sysModules < h.objs.size):ObjOk P w H (h.push { cls:=.type "dict",data:=.dict #[] }) h.objs.size (.dK []):=
 ⟨Nat.zero_le _,beq_eq_false_iff_ne.mpr (Ne.symm (Nat.ne_of_lt hb)),[],.nil,Heap.DictOf.new h⟩
section
variable {X:Cx} {pos:Pos}
end
def II:List (TE×TE)→St→Hp→(List (V×V)→Hp→Prop)→Prop
 | [],_,H,Q=>Q [] H
 | (tk,tv) :: r,σ,H,Q=>tk σ H fun x H1=>tv σ H1 fun y H2=>II r σ H2 fun ps H3=>Q ((x,y) :: ps) H3
abbrev VV:List (V×V)→List (Value×Value)→Prop:=Paired fun p q=>RelV p.1 q.1∧RelV p.2 q.2
def PPs (X:Cx) (pos:Pos) (keys:List (Option Expr)) (values:List Expr) (trs:List (TE×TE)):Prop:=
 ∀(pins:List (Addr×Obj)) (s:Shared) (σ:St) (H:Hp) (Q:List (V×V)→Hp→Prop),Inv X pins σ H s→II trs σ H Q→
  wpAny (model X.prog X.w) X.A (evalPairs (pairTrees keys values X.env pos)) (fun vs s'=>∃ps H',Inv X pins σ H' s'∧VV ps vs∧Q ps H') X.xe s
theorem Sc {X:Cx} {pos:Pos}:PPs X pos [] [] []:=fun pins s σ H Q I h=>pairTrees_nil_walk ⟨[],H,I,.nil,h⟩
theorem Qb {X:Cx} {pos:Pos} {k v:Expr} {ks:List (Option Expr)} {vs:List Expr} {tk tv:TE} {trs:List (TE×TE)} (hk:PE X k tk) (hv:PE X v tv) (hr:PPs X pos ks vs trs) :
 PPs X pos (some k :: ks) (v :: vs) ((tk,tv) :: trs):=fun pins s σ H Q I h=>
 pairTrees_cons_walk (thn (hk pins s σ H _ I h) fun u s1 ⟨x,H1,I1,rx,q1⟩=>thn (hv pins s1 σ H1 _ I1 q1) fun w2 s2 ⟨y,H2,I2,ry,q2⟩=>
  thn (hr pins s2 σ H2 _ I2 q2) fun ws s3 ⟨ps,H3,I3,rel,q3⟩=>⟨(x,y) :: ps,H3,I3,.cons ⟨rx,ry⟩ rel,q3⟩)
def EL (kvs more:List (Key×V)):List (Key×V):=more.foldl (fun acc kv=>Dq acc kv.1 kv.2) kvs
theorem KV.merge:∀{more:List (Key×V)} {rs:List (Key×Value)} {kvs:List (Key×V)} {vs:List (Key×Value)},KV more rs→KV kvs vs→KV (EL kvs more) (merged vs rs):=by
 intro more rs kvs vs r
 unfold KV at r
 induction r generalizing kvs vs with
 | nil=>intro q;exact q
 | @cons p q ps qs h t ih=>
   intro r0
   have e:KV (Dq kvs p.1 p.2) (stored vs q.1 q.2):=by
    have:=r0.put p.1 h.2
    rw [←h.1];exact this
   exact ih e
theorem F6:∀(more kvs:List (Key×V)),(EL kvs more).length≤kvs.length + more.length
 | [],kvs=>by show kvs.length≤kvs.length + 0;lia
 | p :: r,kvs=>by
   have h1:=F6 r (Dq kvs p.1 p.2)
   have h2:=G9 kvs p.1 p.2
   show (EL (Dq kvs p.1 p.2) r).length≤_
   rw [List.length_cons];lia
theorem HY {P:Program} {w:World}:∀{kvs:List (Key×V)} {ws:List (Value×Value)},VV (kvs.map fun kv=>(kV kv.1,kv.2)) ws→∃rs,Carries (CV P w) ws rs∧KV kvs rs
 | [],_,r=>by rw [List.map_nil] at r;cases r;exact ⟨[],True.intro,.nil⟩
 | p :: kvs,_,r=>by
   rw [List.map_cons] at r
   cases r with
   | @cons a b as bs h t=>
     obtain ⟨rs,c,q⟩:=HY (P:=P) (w:=w) t
     obtain ⟨b1,b2⟩:=b
     exact ⟨(p.1,b2) :: rs,⟨Np h.1,rfl,c⟩,.cons ⟨rfl,h.2⟩ q⟩
def Vb (trs:List (TE×TE)):TE:=fun σ H Q=>∀p,H p=none→II trs σ (upd H p (.dK [])) fun ps H2=>H2 p=some (.dK [])∧∃kvs:List (Key×V),ps=kvs.map (fun kv=>(kV kv.1,kv.2))∧kvs.length≤15∧Q (.ref p) (upd H2 p (.dK (EL [] kvs)))
theorem R5 {X:Cx} {pos:Pos} {keys:List (Option Expr)} {values:List Expr} {trs:List (TE×TE)} (h:PPs X pos keys values trs) (hall:keys.all (·.isSome)=true) (hl:keys.length=values.length) (h0:keys≠[])
 (h15:keys.length≤15):PE X (.Dict keys values pos) (Vb trs):=by
 intro pins s σ H Q I q
 have hn:=I.hok.fresh (Nat.le_refl s.heap.objs.size)
 have I1:=I.laid (a:=s.heap.objs.size) (o:=.dK []) (h':=s.heap.push { cls:=.type "dict",data:=.dict #[] }) (t':=s.toks) (fun _ _ q=>Heap.get?_push_of_some _ q) (Nat.le_refl _) (Pn s.heap I.big)
 refine wpAny_Dict_walk (knd:=CV X.prog X.w) hall hl h0 h15 (thn (h pins _ σ _ _ I1 (q _ hn)) fun ws s2 ⟨ps,H2,I2,rel,e,kvs,ep,lk,q2⟩=>?_)
 subst ep
 obtain ⟨rs,c,rk⟩:=HY (P:=X.prog) (w:=X.w) rel
 obtain ⟨z,hd,vs0,r0,dd⟩:=Ng I2.hok e
 cases r0
 refine ⟨rs,c,dd,fun h' dd' hs=>⟨.ref s.heap.objs.size,_,?_,rfl,q2⟩⟩
 have hz:(EL [] kvs).length≤sizeLine:=by
  have h1:=F6 kvs []
  rw [List.length_nil] at h1
  rw [sizeLine_eq];lia
 have he:∃q,h'.get? s.heap.objs.size=some q:=let ⟨q,_,_,hq,_⟩:=dd';⟨q,hq⟩
 exact My I2 (by rw [e];exact True.intro) hs he (N8 hz hd (rk.merge .nil) dd')
theorem EG {env:Env}:∀(l:List (Str×NameKind)) (cs:List (Str×Addr)),(∀x c,cs.lookup x=some c→env.cells.lookup x=some c)→(∀y∈l,y.2 = .free→∃c,env.cells.lookup y.1=some c)→
 ∃cl,(forIn l cs fun (x:Str×NameKind) r=>(match x with | (name,kind)=>if (kind == NameKind.free)=true then do let c ←cellOf env name;pure (ForInStep.yield ((name,c) :: r)) else pure (ForInStep.yield r):Sem (ForInStep (List (Str×Addr)))))=pure cl∧
  (∀x c,cl.lookup x=some c→env.cells.lookup x=some c)∧(∀x c,cs.lookup x=some c→∃c',cl.lookup x=some c')∧∀y∈l,y.2 = .free→∃c,cl.lookup y.1=some c
 | [],cs,h,_=>⟨cs,rfl,h,fun _ c e=>⟨c,e⟩,fun _ z=>nomatch z⟩
 | (n,k) :: l,cs,h,hf=>by
   by_cases hk:k = .free
   ·subst hk
    obtain ⟨c,hc⟩:=hf (n,.free) List.mem_cons_self rfl
    have hc':env.cells.lookup n=some c:=hc
    have e:cellOf env n=pure c:=by unfold cellOf;rw [hc']
    obtain ⟨cl,e1,e2,e3,e4⟩:=EG l ((n,c) :: cs) (fun x c' q=>by
     rw [List.lookup_cons] at q
     by_cases hx:(x == n)=true
     ·rw [hx] at q;cases q;rw [eq_of_beq hx];exact hc'
     ·rw [Bool.eq_false_iff.mpr hx] at q;exact h x c' q) (fun y hy=>hf y (List.mem_cons_of_mem _ hy))
    have self:((n,c) :: cs).lookup n=some c:=by rw [List.lookup_cons,beq_self_eq_true]
    refine ⟨cl,?_,e2,fun x c' q=>?_,fun y hy hyf=>?_⟩
    ·rw [List.forIn_cons]
     simp only [beq_self_eq_true,if_true,e]
     exact e1
    ·by_cases hx:(x == n)=true
     ·rw [eq_of_beq hx];exact e3 n c self
     ·exact e3 x c' (by rw [List.lookup_cons,Bool.eq_false_iff.mpr hx];exact q)
    ·rcases List.mem_cons.mp hy with z | z
     ·subst z;exact e3 n c self
     ·exact e4 y z hyf
   ·have hb:(k == NameKind.free)=false:=by simpa using hk
    obtain ⟨cl,e1,e2,e3,e4⟩:=EG l cs h (fun y hy=>hf y (List.mem_cons_of_mem _ hy))
    refine ⟨cl,?_,e2,e3,fun y hy hyf=>?_⟩
    ·rw [List.forIn_cons]
     simp only [hb,Bool.false_eq_true,if_false]
     exact e1
    ·rcases List.mem_cons.mp hy with z | z
     ·subst z;exact absurd hyf hk
     ·exact e4 y z hyf
theorem Nd {scope:Scope} {env:Env} (h:∀y∈scope.names,y.2 = .free→∃c,env.cells.lookup y.1=some c) :
 ∃cl,closureFor scope env=pure cl∧(∀x c,cl.lookup x=some c→env.cells.lookup x=some c)∧∀y∈scope.names,y.2 = .free→∃c,cl.lookup y.1=some c:=by
 obtain ⟨cl,e1,e2,_,e4⟩:=EG (env:=env) scope.names [] (fun _ _ q=>nomatch q) h
 refine ⟨cl,?_,e2,e4⟩
 simp only [closureFor]
 first | (rw [e1];rfl) | (simp only [e1];rfl) | (trace_state;exact e1)
theorem K8 {prog:Program} {w:World} {A:Around} {R:Result→Shared→Prop} {s:Shared} {elt target iter:Expr} {ifs:List Expr} {scope:Scope} {pos:Pos} {it acc:Value} {env:Env} (I:Nat→Shared→Prop)
 (turn:∀n s,I n s→wpAny (model prog w) A (pyNext it) (fun r s₁=>match r with
   | none=>R (.ok .next) s₁
   | some v=>wpAny (model prog w) A (letOwnedTupleGo target it v) (fun _ s₁'=>wpAny (model prog w) A (assign target env v) (fun _ s₂=>
      wpAny (model prog w) A (forIn ifs true fun c r=>if r=true then do let ok ←isTrue c env (eval c env);pure (ForInStep.yield ok) else pure (ForInStep.yield r)) (fun ok s₃=>
       if ok=true then wpAny (model prog w) A (eval elt env) (fun x s₄=>
        wpAny (model prog w) A (call (.builtin "list.append") [acc,x]) (fun _ s₅=>∃m,m < n∧I m s₅) (fun _ _=>False) s₄) (fun _ _=>False) s₃
       else ∃m,m < n∧I m s₃) (fun _ _=>False) s₂) (fun _ _=>False) s₁') (fun _ _=>False) s₁) (fun _ _=>False) s)
 (n:Nat) (h:I n s) :
 codeAny (model prog w) A (.compLoop (.ListComp elt [⟨target,iter,ifs,0⟩] scope pos) 0 it acc env) R s:=by
 refine codeAny_loop rfl I (fun n s hI=>?_) n h
 show wpAny _ A ((compTurn (.ListComp elt [⟨target,iter,ifs,0⟩] scope pos) 0 it acc env).onRaise (fun x=>do noteFrame x env;theTreesLotGoes x)) _ _ s
 refine wpAny_noted ?_
 rw [compTurn_list]
 refine wpAny_bind (wpAny_standAt (wpAny_bind (wpAny_mono (turn n s hI) (fun r s₁ h₁=>?_) fun _ _ h'=>h'.elim)))
 cases r with
 | none=>exact wpAny_pure h₁
 | some v=>
   refine wpAny_bind (wpAny_mono h₁ (fun _ s₁' h₁'=>?_) fun _ _ h'=>h'.elim)
   refine wpAny_bind (wpAny_mono h₁' (fun _ s₂ h₂=>wpAny_bind (wpAny_mono h₂ (fun ok s₃ h₃=>?_) fun _ _ h'=>h'.elim)) fun _ _ h'=>h'.elim)
   cases ok with
   | false=>exact wpAny_pure ⟨rfl,h₃⟩
   | true=>
     exact wpAny_bind (wpAny_bind (wpAny_mono h₃ (fun x s₄ h₄=>wpAny_bind (wpAny_mono h₄ (fun _ s₅ h₅=>wpAny_pure (wpAny_pure ⟨rfl,h₅⟩)) fun _ _ h'=>h'.elim)) fun _ _ h'=>h'.elim))
end L2
set_option maxHeartbeats 2000000
namespace L2
open PySem PySem.Spec PyProof.Rows
def Dp (X:Cx) (N':List Str) (scope:Scope) (cl:List (Str×Addr)) (C:Addr) (s2:Shared) (H2:Hp) (fp:List Addr):Cx where
 prog:=X.prog
 w:=X.w
 K:=X.K
 mg:=X.mg
 base:=X.base
 A:=X.A
 N:=N'
 s₀:=s2
 H₀:=H2
 env:=compEnvC scope cl C X.env
 outer:=X.stack
 stack:=X.stack
 ex:=fp
 fn:=fun _=>false
 calm:=X.calm
 pn:=[]
 xe:=fun _ _=>False
theorem Ha (h:Str→NameKind→NameKind) (x:Str):∀l:List (Str×NameKind),(l.map fun p=>(p.1,h p.1 p.2)).lookup x=(l.lookup x).map (h x)
 | []=>rfl
 | (n,k) :: l=>by
   show List.lookup x ((n,h n k) :: _)=_
   rw [List.lookup_cons,List.lookup_cons]
   by_cases hx:(x == n)=true
   ·rw [hx,eq_of_beq hx];rfl
   ·rw [Bool.eq_false_iff.mpr hx];exact Ha h x l
theorem Fv (scope:Scope) (env:Env) (x:Str):(relabel scope env).names.lookup x=(scope.names.lookup x).map fun k=>if (k == .free && env.scope.kind == .function && env.kindOf x == some .cell)=true then .cell else k:=by
 rw [←Ha (fun n k=>if (k == NameKind.free && env.scope.kind == .function && env.kindOf n == some .cell)=true then .cell else k) x scope.names]
 unfold relabel
 dsimp only
 congr 1
 apply List.map_congr_left
 intro p _
 obtain ⟨n,k⟩:=p
 dsimp only
 split <;> rfl
theorem CM {x:Str} {k:NameKind}:∀{l:List (Str×NameKind)},l.lookup x=some k→(x,k)∈l
 | (n,k') :: l,h=>by
   rw [List.lookup_cons] at h
   by_cases hx:(x == n)=true
   ·rw [hx] at h;cases h;rw [eq_of_beq hx];exact List.mem_cons_self
   ·rw [Bool.eq_false_iff.mpr hx] at h;exact List.mem_cons_of_mem _ (CM h)
theorem LO {scope:Scope} {env:Env} {x:Str} (hcell:∀y∈scope.names,y.2≠.cell) (h:(relabel scope env).names.lookup x=some .cell∨(relabel scope env).names.lookup x=some .free):scope.names.lookup x=some .free:=by
 rw [Fv] at h
 cases e:scope.names.lookup x with
 | none=>rw [e] at h;rcases h with h | h <;> cases h
 | some k=>
   by_cases hk:k = .free
   ·rw [hk]
   ·have hb:(k == NameKind.free)=false:=by simpa using hk
    rw [e] at h
    simp only [Option.map_some,hb,Bool.false_and,Bool.false_eq_true,if_false] at h
    rcases h with h | h
    ·cases h;exact absurd rfl (hcell _ (CM e))
    ·cases h;exact absurd rfl hk
def PIf (X:Cx) (ifs:List Expr) (t:TT):Prop:=
 ∀(pins:List (Addr×Obj)) (s:Shared) (σ:St) (H:Hp) (Q:Bool→Hp→Prop),Inv X pins σ H s→t σ H Q→
  wpAny (model X.prog X.w) X.A (forIn ifs true fun c r=>if r=true then do let ok ←isTrue c X.env (eval c X.env);pure (ForInStep.yield ok) else pure (ForInStep.yield r)) (TP X pins σ Q) X.xe s
def Vg:TT:=fun _ H Q=>Q true H
theorem R8 {X:Cx}:PIf X [] Vg:=fun _ _ _ H _ I h=>wpAny_tests_nil ⟨H,I,h⟩
theorem R9 {X:Cx} {c:Expr} {t:TT} (h:PT X c t):PIf X [c] t:=fun pins s σ H Q I q=>wpAny_tests_one (h pins s σ H Q I q)
def OY (J:It) (g:TG) (tt:TT) (te:TE) (σ₀:St) (H1:Hp) (Fin:List V→Hp→Prop):Prop:=
 ∃W:Nat→Nat→List V→St→Hp→Prop,(∃m,W 0 m [] σ₀ H1)∧∀i m acc σ' H',W i m acc σ' H'→acc.length≤sizeLine∧
  ((J.stop i H'∧Fin acc H')∨
    (J.go i H'∧∀x H2,J.yld i H' x H2→g x σ' H2 fun σ3 H3=>tt σ3 H3 fun b H4=>if b=true then te σ3 H4 fun v H5=>∃m',m' < m∧W (i + 1) m' (acc++[v]) σ3 H5 else ∃m',m' < m∧W (i + 1) m' acc σ3 H4))
def QS (wi:TI) (g:TG) (tt:TT) (te:TE) (σf:St→St):TE:=fun σ H Q=>wi σ H fun J H1=>OY J g tt te (σf σ) H1 fun acc H'=>∀p,H' p=none→acc.length≤sizeLine→Q (.ref p) (upd H' p (.lst acc))
structure CmpOk (X:Cx) (scope:Scope) (N':List Str) (σf:St→St):Prop where
 kind:scope.kind = .function
 cell:∀y∈scope.names,y.2≠.cell
 loc:∀y∈scope.names,y.2 = .local→scope.names.lookup y.1=some .local
 free:∀y∈scope.names,y.2 = .free→X.env.kindOf y.1=some .cell∨X.env.kindOf y.1=some .free
 len:∀σ:St,σ.length=X.N.length→(σf σ).length=N'.length
 vals:∀(σ:St) (j:Nat) (x:Str) (v:V),N'[j]?=some x→(σf σ)[j]?=some (some v)→∃i:Nat,X.N[i]?=some x∧σ[i]?=some (some v)∧scope.names.lookup x=some .free
section
variable {X:Cx} {tg elt iter:Expr} {ifs:List Expr} {scope:Scope} {pos:Pos} {N':List Str} {wi:TI} {g:TG} {tt:TT} {te:TE} {σf:St→St}
theorem Td {pins:List (Addr×Obj)} {σ:St} {H2:Hp} {s2:Shared} {cl:List (Str×Addr)} {C:Addr} {fp:List Addr} (O:CmpOk X scope N' σf) (I2:Inv X pins σ H2 s2) (f2:∀b∈fp,FpOk X pins H2 b) (hC:s2.heap.objs.size≤C)
 (hlt:∀b∈fp,b < s2.heap.objs.size) (e2:∀x c,cl.lookup x=some c→X.env.cells.lookup x=some c) (e4:∀y∈scope.names,y.2 = .free→∃c,cl.lookup y.1=some c):(Dp X N' scope cl C s2 H2 fp).Ok where
 mod:=I2.ok.mod
 kind:=O.kind
 glob:=I2.ok.glob
 blt:=I2.ok.blt
 above:=hC
 inj:=fun x y c h1 h2=>I2.ok.inj x y c (e2 x c h1) (e2 y c h2)
 has:=fun x h=>by
  have q:=LO (env:=X.env) (x:=x) O.cell h
  exact e4 _ (CM q) rfl
 cab:=fun x c h _=>nomatch h
 hd:=I2.ok.hd
 frames:=I2.ok.frames
 stk:=.inl rfl
 exf:=fun b hb=>⟨Nat.ne_of_lt (Nat.lt_of_lt_of_le (hlt b hb) hC),fun x c e=>(f2 b hb).2.2.2.2.1 x c (e2 x c e)⟩
 bs:=I2.bs
 bsz:=Nat.le_trans I2.ok.bsz I2.sz
 noex:=fun b o e hb=>by
  rcases (f2 b hb).2.2.2.1 with z | z
  ·exact I2.ok.noex b o e z
  ·exact absurd (Nat.lt_of_lt_of_le (Heap.lt_size (I2.ok.bs b o e).1) z) (Nat.lt_irrefl _)
 exfs:=fun b hb z=>by
  rcases List.mem_cons.mp (I2.stkSub b z) with q | q
  ·exact (f2 b hb).2.1 q
  ·exact (f2 b hb).2.2.1 q
 funs:=I2.stack
 frf:=I2.stkFree
theorem Ul {pins:List (Addr×Obj)} {σ:St} {H2:Hp} {s2:Shared} (I2:Inv X pins σ H2 s2) {a:Addr} (h:s2.heap.objs.size≤a):a∉frs X.stack:=fun hb=>by
 rcases List.mem_cons.mp (I2.stkSub a hb) with q | q
 ·exact absurd (Nat.lt_of_lt_of_le I2.lt h) (by rw [q];exact Nat.lt_irrefl _)
 ·exact I2.nofs h q
theorem Ph {pins:List (Addr×Obj)} {σ:St} {H2:Hp} {s2:Shared} {cl:List (Str×Addr)} {fp:List Addr} {it:Addr} {tn:Nat→Heap→Prop} {J:It} {Fin:List V→Hp→Prop} {RR:Value→Addr→Result→Shared→Prop} {E:Value→Shared→Prop} (O:CmpOk X scope N' σf) (hc:X.calm=true)
 (I2:Inv X pins σ H2 s2) (T:Turn X.prog X.w X.K tg J fp it tn) (st2:tn 0 s2.heap) (f2:∀b∈fp,FpOk X pins H2 b)
 (e2:∀x c,cl.lookup x=some c→X.env.cells.lookup x=some c) (e4:∀y∈scope.names,y.2 = .free→∃c,cl.lookup y.1=some c)
 (hg:∀C,PG (Dp X N' scope cl C s2 H2 fp) tg g) (ht:∀C,PIf (Dp X N' scope cl C s2 H2 fp) ifs tt) (he:∀C,PE (Dp X N' scope cl C s2 H2 fp) elt te)
 (B:OY J g tt te (σf σ) H2 Fin)
 (fin:∀C s' σ' H' acc m,s2.heap.objs.size≤C→C≠s2.heap.objs.size→Inv (Dp X N' scope cl C s2 H2 fp) [] σ' H' s'→H' s2.heap.objs.size=none→acc.length≤sizeLine→(∃its n,Vals acc its∧s'.heap.get? s2.heap.objs.size=some { cls:=.type "list",data:=.seq its.toArray n })→Fin acc H'→s'.heap.Ns C m→
   RR (.ref s2.heap.objs.size) C (.ok .next) s') :
 wpAny (model X.prog X.w) X.A (newList []) (fun acc s₃=>wpAny (model X.prog X.w) X.A (newFunctionEnv scope X.env.globals cl [] X.env.qual none .none (some X.env)) (fun cenv s₄=>
  codeAny (model X.prog X.w) X.A (.compStart (.ListComp elt [⟨tg,iter,ifs,0⟩] scope pos) 0 (.ref it) acc { cenv with scope:=relabel scope X.env }) (RR acc cenv.locals) s₄) E s₃) E s2:=by
 refine wpAny_newObj_type (wpAny_newFunctionEnv O.cell (by intro y hy;simp at hy) (fun h₁ hns₁ hsb₁=>?_) O.kind)
 dsimp only at hns₁ hsb₁ ⊢
 generalize hH2:s2.heap.push { cls:=.type "list",dict:=none,data:=.seq ([]:List Value).toArray }=HP at hns₁ hsb₁ ⊢
 have hC:HP.objs.size=s2.heap.objs.size + 1:=by rw [←hH2,Heap.size_push]
 generalize hDD:s2.heap.objs.size=DD at *
 generalize hCC:HP.objs.size=CC at *
 have hDC:DD≠CC:=by rw [hC];exact Nat.ne_of_lt (Nat.lt_succ_self _)
 have hCle:s2.heap.objs.size≤CC:=by rw [hC,hDD];exact Nat.le_succ _
 have hlt:∀b∈fp,b < s2.heap.objs.size:=fun b hb=>by obtain ⟨o,e,_⟩:=T.obj _ _ st2 b hb;exact Heap.lt_size e
 have hlt':∀b∈fp,b < DD:=fun b hb=>by rw [←hDD];exact hlt b hb
 have below:∀b,b < DD→b≠CC∧b≠DD:=fun b hb=>⟨by rw [hC];exact Nat.ne_of_lt (Nat.lt_succ_of_lt hb),Nat.ne_of_lt hb⟩
 have old:∀b o,s2.heap.get? b=some o→h₁.get? b=some o:=fun b o e=>hsb₁.extBut b o (below b (by rw [←hDD];exact Heap.lt_size e)).1 (Heap.get?_push_of_some _ (hH2 ▸ Heap.get?_push_of_some _ e))
 have hacc:h₁.get? DD=some { cls:=.type "list",data:=.seq ([]:List Value).toArray }:=by
  refine hsb₁.extBut _ _ hDC (Heap.get?_push_of_some _ ?_)
  rw [←hH2,←hDD]
  exact Heap.get?_push_size _ rfl
 have ok:=Td (cl:=cl) (C:=CC) O I2 f2 hCle hlt e2 e4
 have hfs:DD∉frs X.stack:=Ul I2 (by rw [hDD];exact Nat.le_refl _)
 obtain ⟨W,⟨m0,w0⟩,turn⟩:=B
 let X':Cx:=Dp X N' scope cl CC s2 H2 fp
 have I0:Inv X' [] (σf σ) H2 { s2 with heap:=h₁,toks:=s2.toks + ([]:List (Str×Value)).length }:=by
  refine ⟨ok,rfl,I2.bare,Un.kept old,⟨_,hns₁,fun j x v q1 q2 q3=>?_⟩,fun x c e=>?_,I2.hok.fresh hCle,fun x c e=>I2.freeC x c (e2 x c e),(fun p hp=>nomatch hp),I2.hok.kept old,O.len σ I2.len⟩
  ·obtain ⟨i,n1,n2,n3⟩:=O.vals σ j x v q1 q2
   obtain ⟨m,_,hl⟩:=I2.loc
   have hfr:=O.free _ (CM n3) rfl
   obtain ⟨u,r,l⟩:=hl i x v n1 n2 (.inr hfr)
   refine ⟨u,r,?_⟩
   rcases l with ⟨k,_⟩ | ⟨_,c,ec,hcell⟩
   ·rcases hfr with z | z <;> (have z':=k.symm.trans z;cases z')
   ·obtain ⟨c',ec'⟩:=e4 _ (CM n3) rfl
    have z:=e2 _ _ ec'
    have ez:X.env.cells.lookup x=some c':=z
    rw [ec] at ez
    cases ez
    refine .inr ⟨?_,c,ec',?_⟩
    ·show (relabel scope X.env).names.lookup x=some .cell∨(relabel scope X.env).names.lookup x=some .free
     rw [Fv,n3]
     simp only [Option.map_some]
     split
     ·exact .inl rfl
     ·exact .inr rfl
    ·obtain ⟨o,ho,hd⟩:=hcell
     exact ⟨o,old _ _ ho,hd⟩
  ·obtain ⟨v,o,ho,hd⟩:=I2.cell x c (e2 x c e)
   exact ⟨v,o,old _ _ ho,hd⟩
 have loop:∀s₃:Shared,s₃ = { s2 with heap:=h₁,toks:=s2.toks + ([]:List (Str×Value)).length }→
  codeAny (model X.prog X.w) X.A (.compLoop (.ListComp elt [⟨tg,iter,ifs,0⟩] scope pos) 0 (.ref it) (.ref DD) (compEnvC scope cl CC X.env)) (RR (.ref DD) CC) s₃:=by
  rintro s₃ rfl
  refine K8 (fun n s'=>∃i acc its nn σ' H',Inv X' [] σ' H' s'∧tn i s'.heap∧(∀b∈fp,H' b=none)∧Vals acc its∧s'.heap.get? DD=some { cls:=.type "list",data:=.seq its.toArray nn }∧H' DD=none∧W i n acc σ' H') ?_ m0
   ⟨0,[],[],0,σf σ,H2,I0,T.keep _ _ _ st2 (fun b _ o e=>old b o e),fun b hb=>(f2 b hb).1,.nil,hacc,I2.hok.fresh (by rw [hDD];exact Nat.le_refl _),w0⟩
  rintro n s' ⟨i,acc,its,nn,σ3,H3,I3,st3,fr3,hv,hD,hDn,w3⟩
  have I3p:Inv X' [(DD,({ cls:=.type "list",data:=.seq its.toArray nn }:Obj))] σ3 H3 s':=I3.pins_of fun p hp=>by
   have e:p=(DD,({ cls:=.type "list",data:=.seq its.toArray nn }:Obj)):=by simpa using hp
   subst e
   exact ⟨hD,hDn,hDC,hfs,fun v z=>nomatch z⟩
  have stat:∀{pins':List (Addr×Obj)} {H':Hp},(∀p∈pins',p.1=DD)→(∀b∈fp,H' b=none)→∀b∈fp,FpOk X' pins' H' b:=fun {pins' H'} hp hn b hb=>
   ⟨hn b hb,(ok.exf b hb).1,ok.exfs b hb,.inl hb,(ok.exf b hb).2,fun p hp' z=>by
    have e:p.1=DD:=hp p (by simpa [X',Dp] using hp')
    exact absurd (hlt' b hb) (by rw [←z,e];exact Nat.lt_irrefl _)⟩
  have one:∀p∈[(DD,({ cls:=.type "list",data:=.seq its.toArray nn }:Obj))],p.1=DD:=fun p hp=>by
   have e:p=(DD,({ cls:=.type "list",data:=.seq its.toArray nn }:Obj)):=by simpa using hp
   rw [e]
  obtain ⟨hz,tr⟩:=turn i n acc σ3 H3 w3
  rcases tr with ⟨stop,qf⟩ | ⟨go,step⟩
  ·refine thn (T.done X' rfl rfl rfl hc i _ s' σ3 H3 (fun _ _=>False) I3p (stat one fr3) st3 stop) fun r s4 ⟨hr,I4⟩=>?_
   subst hr
   obtain ⟨m4,hm4,_⟩:=I4.loc
   have pD:=(I4.pin (DD,({ cls:=.type "list",data:=.seq its.toArray nn }:Obj)) (by simp [X',Dp])).1
   have I4':Inv X' [] σ3 H3 s4:=I4.pins_of fun p hp=>nomatch hp
   exact fin CC s4 σ3 H3 acc m4 (by rw [hDD] at hCle;exact hCle) (Ne.symm hDC) I4' hDn hz ⟨its,nn,hv,pD⟩ qf hm4
  ·refine thn (T.item X' rfl rfl rfl hc i _ s' σ3 H3 (fun _ _=>False) I3p (stat one fr3) st3 go) fun r s4 ⟨u,hr,h4⟩=>?_
   subst hr
   refine thn h4 fun _ s5 ⟨x,H5,I5,r5,y5,st5,fr5⟩=>?_
   have I5':=I5.pinned (stat one fr5) (T.obj _ _ st5)
   refine thn (hg CC _ s5 σ3 H5 x u _ I5' r5 (step x H5 y5)) fun _ s6 ⟨σ6,H6,I6,q6⟩=>?_
   refine thn (ht CC _ s6 σ6 H6 _ I6 q6) fun b s7 ⟨H7,I7,q7⟩=>?_
   have back:∀{H8:Hp} {s8:Shared},Inv X' ([(DD,({ cls:=.type "list",data:=.seq its.toArray nn }:Obj))]++Gs fp s5.heap) σ6 H8 s8→
    s8.heap.get? DD=some { cls:=.type "list",data:=.seq its.toArray nn }∧H8 DD=none∧tn (i + 1) s8.heap∧(∀b∈fp,H8 b=none)∧Inv X' [] σ6 H8 s8:=fun {H8 s8} I8=>by
    have p1:=I8.pin (DD,({ cls:=.type "list",data:=.seq its.toArray nn }:Obj)) (by simp [X',Dp])
    refine ⟨p1.1,p1.2.1,T.keep _ _ _ st5 fun b hb o e=>(I8.pin (b,o) (List.mem_append_right _ (List.mem_append_right _ (Ey hb e)))).1,fun b hb=>?_,I8.pins_of fun p hp=>nomatch hp⟩
    obtain ⟨o,e,_⟩:=T.obj _ _ st5 b hb
    exact (I8.pin (b,o) (List.mem_append_right _ (List.mem_append_right _ (Ey hb e)))).2.1
   cases b with
   | false=>
     rw [if_neg Bool.false_ne_true] at q7 ⊢
     obtain ⟨m',hm,w7⟩:=q7
     obtain ⟨a1,a2,a3,a4,a5⟩:=back I7
     exact ⟨m',hm,i + 1,acc,its,nn,σ6,H7,a5,a3,a4,hv,a1,a2,w7⟩
   | true=>
     rw [if_pos rfl] at q7 ⊢
     refine thn (he CC _ s7 σ6 H7 _ I7 q7) fun y s8 ⟨v8,H8,I8,r8,m',hm,w8⟩=>?_
     obtain ⟨a1,a2,a3,a4,a5⟩:=back I8
     have hsz:its.toArray.size≤sizeLine:=by
      have e:=hv.length
      simpa [e] using hz
     refine wpAny_list_append_plain (hsz:=hsz) ⟨nn,a1⟩ fun h9 hl9 hs9=>?_
     obtain ⟨n9,e9⟩:=hl9
     have e9':h9.get? DD=some { cls:=.type "list",data:=.seq (its++[y]).toArray n9 }:=by simpa using e9
     refine ⟨m',hm,i + 1,acc++[v8],its++[y],n9,σ6,H8,a5.turned (t':=s8.toks) (h':=h9) (it:=DD) (fun b o hb e=>hs9.extBut b o hb e) a2 hDC (.inr (show s2.heap.objs.size≤DD by rw [hDD];exact Nat.le_refl _)) (fun x' c e z=>?_) (fun p hp=>nomatch hp),T.keep _ _ _ a3 fun b hb o e=>hs9.extBut b o (Nat.ne_of_lt (hlt' b hb)) e,a4,hv.append (.cons r8 .nil),e9',a2,w8⟩
     obtain ⟨v,o,ho,hd⟩:=I2.cell x' c (e2 x' c e)
     have:=Heap.lt_size ho
     rw [hDD,z] at this
     exact Nat.lt_irrefl _ this
 exact codeAny_compStart_list (loop _ rfl) (T.self _ 0 _ _ _ (T.keep _ _ _ st2 fun b _ o e=>old b o e) (loop _ rfl))
end
section
variable {X:Cx} {tg elt iter:Expr} {ifs:List Expr} {scope:Scope} {pos:Pos} {N':List Str} {wi:TI} {g:TG} {tt:TT} {te:TE} {σf:St→St}
theorem N5 {pins:List (Addr×Obj)} {σ σ':St} {H2 H':Hp} {s2 s':Shared} {cl:List (Str×Addr)} {fp:List Addr} {C:Addr} {acc:List V} {its:List Value} {n:Nat} {h':Heap} (I2:Inv X pins σ H2 s2) (f2:∀b∈fp,FpOk X pins H2 b)
 (hC:s2.heap.objs.size≤C) (hCD:C≠s2.heap.objs.size) (I':Inv (Dp X N' scope cl C s2 H2 fp) [] σ' H' s') (hDn:H' s2.heap.objs.size=none) (hz:acc.length≤sizeLine) (hv:Vals acc its)
 (hD:s'.heap.get? s2.heap.objs.size=some { cls:=.type "list",data:=.seq its.toArray n }) (hs:Heap.SameBut C s'.heap h') :
 Inv X pins σ (upd H' s2.heap.objs.size (.lst acc)) { s' with heap:=h' }:=by
 have U:=I'.base
 have lt:∀b o,s2.heap.get? b=some o→b≠C∧b≠s2.heap.objs.size:=fun b o e=>⟨Nat.ne_of_lt (Nat.lt_of_lt_of_le (Heap.lt_size e) hC),Nat.ne_of_lt (Heap.lt_size e)⟩
 have neD:∀b u,H' b=some u→b≠s2.heap.objs.size:=fun b u e=>Bg e hDn
 have neC:∀b u,H' b=some u→b≠C:=fun b u e=>Bg e I'.free
 refine I2.call' (s':={ s' with heap:=h' }) (ch:=fp) I'.os ⟨fun b o e n hb hx=>?_,fun b o e n hb hx=>?_,fun b o e n hx=>?_,fun b o e hx=>?_,fun b xs e=>?_,fun b o u e=>?_,fun b ps e=>?_⟩ ?_ I'.bare fun b hb=>⟨(f2 b hb).2.2.2.1,(f2 b hb).2.1,(f2 b hb).2.2.2.2.1,(f2 b hb).2.2.2.2.2⟩
 ·exact hs.extBut b o (lt b o e).1 (U.keep b o e n hb hx)
 ·obtain ⟨sl,q⟩:=U.slot b o e n hb hx
  exact ⟨sl,hs.extBut b _ (lt b o e).1 q⟩
 ·rw [AC (lt b o e).2];exact U.free b o e n hx
 ·obtain ⟨o',q⟩:=U.there b o e hx
  exact ⟨o',hs.extBut b _ (lt b o e).1 q⟩
 ·have q:=U.tups b xs e;rw [AC (neD b _ q)];exact q
 ·have q:=U.frzs b o u e;rw [AC (neD b _ q)];exact q
 ·obtain ⟨m,q⟩:=U.tbls b ps e
  exact ⟨m,by rw [AC (neD b _ q)];exact q⟩
 ·intro b u e
  by_cases hb:b=s2.heap.objs.size
  ·subst hb
   rw [A1] at e
   cases e
   exact ⟨hz,its,n,hv,hs.extBut _ _ (Ne.symm hCD) hD⟩
  ·rw [AC hb] at e
   refine (I'.hok b u e).stay (fun c v hc q=>hs.extBut c v ?_ q) (fun c q=>by rw [AC (neD c _ q)];exact q) fun c xs q=>by rw [AC (neD c _ q)];exact q
   rcases hc with z | z
   ·rw [z];exact neC b u e
   ·exact neC c _ z
theorem R4 (O:CmpOk X scope N' σf) (hc:X.calm=true) (hi:PI X tg iter wi)
 (hg:∀cl C s2 H2 fp,PG (Dp X N' scope cl C s2 H2 fp) tg g) (ht:∀cl C s2 H2 fp,PIf (Dp X N' scope cl C s2 H2 fp) ifs tt) (he:∀cl C s2 H2 fp,PE (Dp X N' scope cl C s2 H2 fp) elt te)
 (hs:∀x,foldedSetIterable iter X.env x=pure x:=by intro _;rfl):PE X (.ListComp elt [⟨tg,iter,ifs,0⟩] scope pos) (QS wi g tt te σf):=by
 intro pins s σ H Q I h
 obtain ⟨cl,e1,e2,e4⟩:=Nd (scope:=scope) (env:=X.env) fun y hy hf=>I.ok.has y.1 (O.free y hy hf)
 rw [eval_ListComp]
 refine wpAny_comprehension_free (use:=none) rfl hs e1 O.kind O.loc (thn (hi pins s σ H _ I h) fun v s1 h1=>thn h1 fun itv s2 h2=>?_)
 obtain ⟨it,fp,tn,J,H2,rfl,I2,T,st2,f2,B⟩:=h2
 refine Ph (RR:=fun acc C=>compPost (model X.prog X.w) X.A X.xe none (EP X pins σ Q) acc C) O hc I2 T st2 f2 e2 e4 (fun C=>hg cl C s2 H2 fp) (fun C=>ht cl C s2 H2 fp) (fun C=>he cl C s2 H2 fp) B ?_
 intro C s' σ' H' acc m hC hCD I' hDn hz hL fin hn
 obtain ⟨its,n,hv,hD⟩:=hL
 refine ⟨m,hn,fun h' hs'=>?_⟩
 exact ⟨.ref s2.heap.objs.size,upd H' _ (.lst acc),N5 I2 f2 hC hCD I' hDn hz hv hD hs',rfl,fin _ hDn hz⟩
end
end L2
set_option autoImplicit false
namespace F2
open PySem L2 PySem.Spec
inductive D where
 | non | bl (b:Bool) | int (i:Int) | str (x:Str) | tup (xs:List D) | lst (xs:List D) | scr (ns:List Int) | dic | obj (k:Nat) | ty (n:String) | exc (n:Str) (xs:List D)
structure Cf where
 ι:List Addr
 O:Addr→Prop
def Cf.A (c:Cf) (a:Addr):Prop:=a∈c.ι∨c.O a
def Scr (K:PySem.W.Frag) (c:Cf) (H:Hp) (a:Addr) (vs:List V):Prop:=
 ((∃o,H a=some (.frz o (.lst vs)))∧¬c.A a)∨
   ∃(o:Obj) (its:Array Value) (n:Nat),K.lookup a=some o∧o.cls = .type "list"∧o.dict=none∧o.data = .seq its n∧its.size≤sizeLine∧Vals vs its.toList
def XIs (x C:Addr) (dx:Option Addr) (h:Heap):Prop:=∃(o:Obj) (vs:Array Value),h.get? x=some o∧o.cls = .ref C∧o.dict=dx∧o.data = .fields vs
def Jc (n:Str):List Str:=if n = "NoTalk" then ["at"] else if n = "Broken" then ["at", "side"] else []
def XFld (c:Cf) (H:Hp) (dx:Option Addr) (ns:List Str) (vs:List V):Prop:=match dx with
 | none=>vs=[]
 | some d=>H d=some (.xd (ns.zip vs))∧¬c.A d
mutual
inductive Rep (K:PySem.W.Frag) (c:Cf) (H:Hp):V→D→Prop where
 | non:Rep K c H .non .non
 | bl (b:Bool):Rep K c H (.bl b) (.bl b)
 | int (i:Int):Rep K c H (.int i) (.int i)
 | str (x:Str):Rep K c H (.str x) (.str x)
 | ty (n:String):Rep K c H (.ty n) (.ty n)
 | tup {a:Addr} {vs:List V} {ds:List D}:H a=some (.tup vs)→¬c.A a→Reps K c H vs ds→Rep K c H (.ref a) (.tup ds)
 | lst {a:Addr} {vs:List V} {ds:List D}:H a=some (.lst vs)→¬c.A a→Reps K c H vs ds→Rep K c H (.ref a) (.lst ds)
 | scr {a:Addr} {ns:List Int}:Scr K c H a (ns.map V.int)→Rep K c H (.ref a) (.scr ns)
 | dic {a:Addr}:H a=some (.dK [])→¬c.A a→Rep K c H (.ref a) .dic
 | obj {a:Addr} {k:Nat}:c.ι[k]?=some a→Rep K c H (.ref a) (.obj k)
 | exc {x C:Addr} {dx:Option Addr} {n:Str} {vs:List V} {ds:List D}:PySem.W.nsIn K mainGlobals n=some (some (.ref C))→H x=some (.ext (XIs x C dx))→¬c.A x→XFld c H dx (Jc n) vs→Reps K c H vs ds→Rep K c H (.ref x) (.exc n ds)
inductive Reps (K:PySem.W.Frag) (c:Cf) (H:Hp):List V→List D→Prop where
 | nil:Reps K c H [] []
 | cons {v:V} {d:D} {vs:List V} {ds:List D}:Rep K c H v d→Reps K c H vs ds→Reps K c H (v :: vs) (d :: ds)
end
structure Ext (c:Cf) (H:Hp) (c':Cf) (H':Hp):Prop where
 keep:∀b o,H b=some o→¬c.A b→H' b=some o
 av:∀b o,H b=some o→c'.A b→c.A b
 io:∀(k:Nat) (a:Addr),c.ι[k]?=some a→c'.ι[k]?=some a
theorem Ext.refl {c:Cf} {H:Hp}:Ext c H c H:=⟨fun _ _ h _=>h,fun _ _ _ h=>h,fun _ _ h=>h⟩
theorem Ext.trans {c c1 c2:Cf} {H H1 H2:Hp} (a:Ext c H c1 H1) (b:Ext c1 H1 c2 H2):Ext c H c2 H2:=by
 refine ⟨fun x o h n=>?_,fun x o h n=>?_,fun k x h=>b.io k x (a.io k x h)⟩
 ·exact b.keep x o (a.keep x o h n) fun z=>n (a.av x o h z)
 ·by_cases q:c.A x
  ·exact q
  ·exact a.av x o h (b.av x o (a.keep x o h q) n)
theorem Scr.mono {K:PySem.W.Frag} {c c':Cf} {H H':Hp} {a:Addr} {vs:List V} (e:Ext c H c' H') (h:Scr K c H a vs):Scr K c' H' a vs:=by
 rcases h with ⟨⟨o,h⟩,n⟩ | h
 ·exact .inl ⟨⟨o,e.keep _ _ h n⟩,fun z=>n (e.av _ _ h z)⟩
 ·exact .inr h
theorem Scr.sq {K:PySem.W.Frag} {c:Cf} {H:Hp} {a:Addr} {vs:List V} (h:Scr K c H a vs):SqL K H a vs:=by
 rcases h with ⟨h,_⟩ | h
 ·exact .inl (.inr h)
 ·exact .inr h
theorem XFld.mono {c c':Cf} {H H':Hp} {dx:Option Addr} {ns:List Str} {vs:List V} (e:Ext c H c' H') (h:XFld c H dx ns vs):XFld c' H' dx ns vs:=by
 cases dx with
 | none=>exact h
 | some d=>exact ⟨e.keep _ _ h.1 h.2,fun z=>h.2 (e.av _ _ h.1 z)⟩
mutual
theorem Rep.mono {K:PySem.W.Frag} {c c':Cf} {H H':Hp} (e:Ext c H c' H'):∀{v:V} {d:D},Rep K c H v d→Rep K c' H' v d
 | _,_,.non=>.non
 | _,_,.bl b=>.bl b
 | _,_,.int i=>.int i
 | _,_,.str x=>.str x
 | _,_,.ty n=>.ty n
 | _,_,.tup h n r=>.tup (e.keep _ _ h n) (fun z=>n (e.av _ _ h z)) (Reps.mono e r)
 | _,_,.lst h n r=>.lst (e.keep _ _ h n) (fun z=>n (e.av _ _ h z)) (Reps.mono e r)
 | _,_,.scr h=>.scr (h.mono e)
 | _,_,.dic h n=>.dic (e.keep _ _ h n) (fun z=>n (e.av _ _ h z))
 | _,_,.obj h=>.obj (e.io _ _ h)
 | _,_,.exc g h n f r=>.exc g (e.keep _ _ h n) (fun z=>n (e.av _ _ h z)) (f.mono e) (Reps.mono e r)
theorem Reps.mono {K:PySem.W.Frag} {c c':Cf} {H H':Hp} (e:Ext c H c' H'):∀{vs:List V} {ds:List D},Reps K c H vs ds→Reps K c' H' vs ds
 | _,_,.nil=>.nil
 | _,_,.cons h t=>.cons (Rep.mono e h) (Reps.mono e t)
end
section
variable {K:PySem.W.Frag} {c:Cf} {H:Hp}
theorem Reps.length:∀{vs:List V} {ds:List D},Reps K c H vs ds→vs.length=ds.length
 | _,_,.nil=>rfl
 | _,_,.cons _ t=>by simp [Reps.length t]
theorem Reps.get:∀{vs:List V} {ds:List D} {i:Nat} {v:V} {d:D},Reps K c H vs ds→vs[i]?=some v→ds[i]?=some d→Rep K c H v d
 | _,_,_,_,_,.nil,e,_=>by simp at e
 | _,_,0,_,_,.cons r _,e,e'=>by simp at e e';subst e e';exact r
 | _,_,i + 1,_,_,.cons _ t,e,e'=>Reps.get (i:=i) t (by simpa using e) (by simpa using e')
theorem Reps.at:∀{vs:List V} {ds:List D} {i:Nat} {d:D},Reps K c H vs ds→ds[i]?=some d→∃v,vs[i]?=some v∧Rep K c H v d
 | _,_,_,_,.nil,e=>by simp at e
 | _,_,0,_,.cons r _,e=>by simp at e;subst e;exact ⟨_,rfl,r⟩
 | _,_,i + 1,_,.cons _ t,e=>by
   obtain ⟨v,h1,h2⟩:=Reps.at (i:=i) t (by simpa using e)
   exact ⟨v,by simpa using h1,h2⟩
theorem Reps.append:∀{vs ws:List V} {ds es:List D},Reps K c H vs ds→Reps K c H ws es→Reps K c H (vs++ws) (ds++es)
 | _,_,_,_,.nil,s=>s
 | _,_,_,_,.cons r t,s=>.cons r (Reps.append t s)
theorem Reps.take:∀{vs:List V} {ds:List D} (n:Nat),Reps K c H vs ds→Reps K c H (vs.take n) (ds.take n)
 | _,_,0,_=>.nil
 | _,_,_ + 1,.nil=>.nil
 | _,_,n + 1,.cons r t=>.cons r (Reps.take n t)
theorem Reps.drop:∀{vs:List V} {ds:List D} (n:Nat),Reps K c H vs ds→Reps K c H (vs.drop n) (ds.drop n)
 | _,_,0,r=>r
 | _,_,_ + 1,.nil=>.nil
 | _,_,n + 1,.cons _ t=>Reps.drop n t
theorem Reps.ints:∀ns:List Int,Reps K c H (ns.map V.int) (ns.map D.int)
 | []=>.nil
 | n :: r=>.cons (.int n) (Reps.ints r)
theorem Reps.rep {vs:List V} {ds:List D} (h:Reps K c H vs ds):∀k:Nat,Reps K c H (List.replicate k vs).flatten (List.replicate k ds).flatten
 | 0=>.nil
 | k + 1=>by
   rw [List.replicate_succ,List.replicate_succ,List.flatten_cons,List.flatten_cons]
   exact h.append (Reps.rep h k)
end
inductive Ob where
 | lst (xs:List D)
 | dct (kvs:List (Key×D))
inductive Sl where
 | val (d:D)
 | own (xs:List D)
structure T where
 env:List (Option Sl)
 S:List Ob
def KVR (K:PySem.W.Frag) (c:Cf) (H:Hp):List (Key×V)→List (Key×D)→Prop:=Paired fun p q=>p.1=q.1∧Rep K c H p.2 q.2
def ObR (K:PySem.W.Frag) (c:Cf) (H:Hp) (a:Addr):Ob→Prop
 | .lst ds=>∃vs,H a=some (.lst vs)∧Reps K c H vs ds
 | .dct kvs=>∃us,H a=some (.dK us)∧KVR K c H us kvs
theorem ObR.mono {K:PySem.W.Frag} {c c':Cf} {H H':Hp} {a:Addr} {o:Ob} (e:Ext c H c' H') (h:ObR K c H a o) (ha:H' a=H a):ObR K c' H' a o:=by
 cases o with
 | lst ds=>obtain ⟨vs,h1,h2⟩:=h;exact ⟨vs,ha.trans h1,h2.mono e⟩
 | dct kvs=>obtain ⟨us,h1,h2⟩:=h;exact ⟨us,ha.trans h1,Paired.mapP h2 fun _ _ z=>⟨z.1,z.2.mono e⟩⟩
theorem ObR.some {K:PySem.W.Frag} {c:Cf} {H:Hp} {a:Addr} {o:Ob} (h:ObR K c H a o):∃u,H a=some u:=by
 cases o with
 | lst ds=>obtain ⟨vs,h1,_⟩:=h;exact ⟨_,h1⟩
 | dct kvs=>obtain ⟨us,h1,_⟩:=h;exact ⟨_,h1⟩
structure SInv (K:PySem.W.Frag) (c:Cf) (S:List Ob) (H:Hp):Prop where
 len:c.ι.length=S.length
 nd:c.ι.Nodup
 obs:∀(k:Nat) (a:Addr) (o:Ob),c.ι[k]?=some a→S[k]?=some o→ObR K c H a o
 trk:∀b,c.O b→∃o,H b=some o
 dis:∀b,c.O b→b∉c.ι
theorem SInv.trkA {K:PySem.W.Frag} {c:Cf} {S:List Ob} {H:Hp} (s:SInv K c S H) {b:Addr} (h:c.A b):∃o,H b=some o:=by
 rcases h with h | h
 ·obtain ⟨k,hk,e⟩:=List.mem_iff_getElem.mp h
  have e1:c.ι[k]?=some b:=by rw [List.getElem?_eq_getElem hk,e]
  have hk':k < S.length:=by rw [←s.len];exact hk
  exact (s.obs k b _ e1 (List.getElem?_eq_getElem hk')).some
 ·exact s.trk b h
theorem SInv.free {K:PySem.W.Frag} {c:Cf} {S:List Ob} {H:Hp} (s:SInv K c S H) {b:Addr} (h:H b=none):¬c.A b:=fun z=>by
 obtain ⟨o,e⟩:=s.trkA z
 rw [h] at e;cases e
structure FInv (K:PySem.W.Frag) (Oo:Addr→Prop) (c:Cf) (t:T) (σ:St) (H:Hp):Prop where
 s:SInv K c t.S H
 len:t.env.length=σ.length
 sub:∀b,Oo b→c.O b
 val:∀(i:Nat) (d:D),t.env[i]?=some (some (.val d))→∃v,σ[i]?=some (some v)∧Rep K c H v d
 own:∀(i:Nat) (ds:List D),t.env[i]?=some (some (.own ds))→∃a vs,σ[i]?=some (some (.ref a))∧c.O a∧¬Oo a∧H a=some (.lst vs)∧Reps K c H vs ds
 inj:∀(i j:Nat) (ds es:List D) (a:Addr),t.env[i]?=some (some (.own ds))→t.env[j]?=some (some (.own es))→σ[i]?=some (some (.ref a))→σ[j]?=some (some (.ref a))→i=j
structure Stp (Oo:Addr→Prop) (c:Cf) (H:Hp) (c':Cf) (H':Hp):Prop where
 ext:Ext c H c' H'
 oo:∀b,Oo b→H' b=H b
theorem Stp.refl {Oo:Addr→Prop} {c:Cf} {H:Hp}:Stp Oo c H c H:=⟨.refl,fun _ _=>rfl⟩
theorem Stp.trans {Oo:Addr→Prop} {c c1 c2:Cf} {H H1 H2:Hp} (a:Stp Oo c H c1 H1) (b:Stp Oo c1 H1 c2 H2):Stp Oo c H c2 H2:=
 ⟨a.ext.trans b.ext,fun x h=>(b.oo x h).trans (a.oo x h)⟩
section
variable {K:PySem.W.Frag} {Oo:Addr→Prop} {c:Cf} {t:T} {σ:St} {H:Hp}
theorem Ext.laid {S:List Ob} (s:SInv K c S H) {p:Addr} {o:HO} (h:H p=none):Ext c H c (upd H p o):=
 ⟨fun b u e _=>by rw [AC (Bg e h)];exact e,fun _ _ _ z=>z,fun _ _ e=>e⟩
theorem SInv.laid {S:List Ob} (s:SInv K c S H) {p:Addr} {o:HO} (h:H p=none):SInv K c S (upd H p o):=
 ⟨s.len,s.nd,fun k a u e1 e2=>by
  have q:=s.obs k a u e1 e2
  obtain ⟨w,hw⟩:=q.some
  exact q.mono (Ext.laid s h) (AC (Bg hw h)),
  fun b z=>by obtain ⟨u,e⟩:=s.trk b z;exact ⟨u,by rw [AC (Bg e h)];exact e⟩,s.dis⟩
theorem FInv.laid (f:FInv K Oo c t σ H) {p:Addr} {o:HO} (h:H p=none):FInv K Oo c t σ (upd H p o):=by
 have e:=Ext.laid (o:=o) f.s h
 refine ⟨f.s.laid h,f.len,f.sub,fun i d q=>?_,fun i ds q=>?_,f.inj⟩
 ·obtain ⟨v,h1,h2⟩:=f.val i d q
  exact ⟨v,h1,h2.mono e⟩
 ·obtain ⟨a,vs,h1,h2,h3,h4,h5⟩:=f.own i ds q
  exact ⟨a,vs,h1,h2,h3,by rw [AC (Bg h4 h)];exact h4,h5.mono e⟩
theorem FInv.stp_laid (f:FInv K Oo c t σ H) {p:Addr} {o:HO} (h:H p=none):Stp Oo c H c (upd H p o):=
 ⟨Ext.laid f.s h,fun b z=>by obtain ⟨u,e⟩:=f.s.trk b (f.sub b z);exact AC (Bg e h)⟩
theorem FInv.set (f:FInv K Oo c t σ H) {i:Nat} {v:V} {d:D} (r:Rep K c H v d):FInv K Oo c { t with env:=t.env.set i (some (.val d)) } (σ.set i (some v)) H:=by
 have neq:∀{j:Nat} {x:Sl},(t.env.set i (some (.val d)))[j]?=some (some x)→(j=i∧x = .val d∧j < t.env.length)∨(j≠i∧t.env[j]?=some (some x)):=fun {j x} q=>by
  by_cases h:j=i
  ·subst h
   rw [List.getElem?_set] at q
   split at q
   ·split at q
    ·next h1=>injection q with q;injection q with q;exact .inl ⟨rfl,q.symm,h1⟩
    ·cases q
   ·next h1=>exact absurd rfl h1
  ·rw [List.getElem?_set_ne (Ne.symm h)] at q
   exact .inr ⟨h,q⟩
 refine ⟨f.s,by simp [f.len],f.sub,fun j e q=>?_,fun j ds q=>?_,fun j k ds es a q1 q2 q3 q4=>?_⟩
 ·rcases neq q with ⟨rfl,z,hl⟩ | ⟨h,q⟩
  ·cases z
   exact ⟨v,by rw [List.getElem?_set_self (by rw [←f.len];exact hl)],r⟩
  ·obtain ⟨u,h1,h2⟩:=f.val j e q
   exact ⟨u,by rw [List.getElem?_set_ne (Ne.symm h)];exact h1,h2⟩
 ·rcases neq q with ⟨rfl,z,_⟩ | ⟨h,q⟩
  ·cases z
  ·obtain ⟨a,vs,h1,h2⟩:=f.own j ds q
   exact ⟨a,vs,by rw [List.getElem?_set_ne (Ne.symm h)];exact h1,h2⟩
 ·rcases neq q1 with ⟨_,z,_⟩ | ⟨h,q1⟩
  ·cases z
  rcases neq q2 with ⟨_,z,_⟩ | ⟨h',q2⟩
  ·cases z
  rw [List.getElem?_set_ne (Ne.symm h)] at q3
  rw [List.getElem?_set_ne (Ne.symm h')] at q4
  exact f.inj j k ds es a q1 q2 q3 q4
theorem FInv.setOwn (f:FInv K Oo c t σ H) {i:Nat} {p:Addr} {vs:List V} {ds:List D} (h:H p=none) (r:Reps K c H vs ds) :
 ∃c',FInv K Oo c' { t with env:=t.env.set i (some (.own ds)) } (σ.set i (some (.ref p))) (upd H p (.lst vs))∧Stp Oo c H c' (upd H p (.lst vs)):=by
 let c':Cf:=⟨c.ι,fun b=>c.O b∨b=p⟩
 have nA:¬c.A p:=f.s.free h
 have ext:Ext c H c' (upd H p (.lst vs)):=by
  refine ⟨fun b u e _=>by rw [AC (Bg e h)];exact e,fun b u e z=>?_,fun _ _ e=>e⟩
  rcases z with z | z | z
  ·exact .inl z
  ·exact .inr z
  ·subst z;rw [h] at e;cases e
 have stp:Stp Oo c H c' (upd H p (.lst vs)):=⟨ext,fun b z=>by obtain ⟨u,e⟩:=f.s.trk b (f.sub b z);exact AC (Bg e h)⟩
 have sinv:SInv K c' t.S (upd H p (.lst vs)):=by
  refine ⟨f.s.len,f.s.nd,fun k a u e1 e2=>?_,fun b z=>?_,fun b z hb=>?_⟩
  ·have q:=f.s.obs k a u e1 e2
   obtain ⟨w,hw⟩:=q.some
   exact q.mono ext (AC (Bg hw h))
  ·rcases z with z | z
   ·obtain ⟨u,e⟩:=f.s.trk b z;exact ⟨u,by rw [AC (Bg e h)];exact e⟩
   ·subst z;exact ⟨_,A1⟩
  ·rcases z with z | z
   ·exact f.s.dis b z hb
   ·subst z;exact nA (.inl hb)
 have neq:∀{j:Nat} {x:Sl},(t.env.set i (some (.own ds)))[j]?=some (some x)→(j=i∧x = .own ds∧j < t.env.length)∨(j≠i∧t.env[j]?=some (some x)):=fun {j x} q=>by
  by_cases h:j=i
  ·subst h
   rw [List.getElem?_set] at q
   split at q
   ·split at q
    ·next h1=>injection q with q;injection q with q;exact .inl ⟨rfl,q.symm,h1⟩
    ·cases q
   ·next h1=>exact absurd rfl h1
  ·rw [List.getElem?_set_ne (Ne.symm h)] at q
   exact .inr ⟨h,q⟩
 have fresh:∀(j:Nat) (es:List D),t.env[j]?=some (some (.own es))→σ[j]?≠some (some (.ref p)):=fun j es q z=>by
  obtain ⟨a,vs',h1,_,_,h4,_⟩:=f.own j es q
  rw [h1] at z;injection z with z;injection z with z;injection z with z;subst z;rw [h] at h4;cases h4
 refine ⟨c',⟨sinv,by simp [f.len],fun b z=>.inl (f.sub b z),fun j e q=>?_,fun j es q=>?_,fun j k ds' es a q1 q2 q3 q4=>?_⟩,stp⟩
 ·rcases neq q with ⟨_,z,_⟩ | ⟨hn,q⟩
  ·cases z
  ·obtain ⟨u,h1,h2⟩:=f.val j e q
   exact ⟨u,by rw [List.getElem?_set_ne (Ne.symm hn)];exact h1,h2.mono ext⟩
 ·rcases neq q with ⟨rfl,z,hl⟩ | ⟨hn,q⟩
  ·cases z
   refine ⟨p,vs,by rw [List.getElem?_set_self (by rw [←f.len];exact hl)],.inr rfl,fun z=>?_,A1,r.mono ext⟩
   obtain ⟨u,e⟩:=f.s.trk p (f.sub p z)
   rw [h] at e;cases e
  ·obtain ⟨a,ws,h1,h2,h3,h4,h5⟩:=f.own j es q
   exact ⟨a,ws,by rw [List.getElem?_set_ne (Ne.symm hn)];exact h1,.inl h2,h3,by rw [AC (Bg h4 h)];exact h4,h5.mono ext⟩
 ·rcases neq q1 with ⟨z1,z2,l1⟩ | ⟨n1,r1⟩
  ·rcases neq q2 with ⟨y1,_,_⟩ | ⟨n2,r2⟩
   ·rw [z1,y1]
   ·subst z1
    rw [List.getElem?_set_self (by rw [←f.len];exact l1)] at q3
    injection q3 with q3;injection q3 with q3;injection q3 with q3;subst q3
    rw [List.getElem?_set_ne (Ne.symm n2)] at q4
    exact absurd q4 (fresh k es r2)
  ·rcases neq q2 with ⟨y1,y2,l2⟩ | ⟨n2,r2⟩
   ·subst y1
    rw [List.getElem?_set_self (by rw [←f.len];exact l2)] at q4
    injection q4 with q4;injection q4 with q4;injection q4 with q4;subst q4
    rw [List.getElem?_set_ne (Ne.symm n1)] at q3
    exact absurd q3 (fresh j ds' r1)
   ·rw [List.getElem?_set_ne (Ne.symm n1)] at q3
    rw [List.getElem?_set_ne (Ne.symm n2)] at q4
    exact f.inj j k ds' es a r1 r2 q3 q4
theorem FInv.frz (f:FInv K Oo c t σ H) {i:Nat} {ds:List D} (q:t.env[i]?=some (some (.own ds))) :
 ∃c' v,FInv K Oo c' { t with env:=t.env.set i (some (.val (.lst ds))) } σ H∧Stp Oo c H c' H∧σ[i]?=some (some v)∧Rep K c' H v (.lst ds):=by
 obtain ⟨a,vs,h1,h2,h3,h4,h5⟩:=f.own i ds q
 let c':Cf:=⟨c.ι,fun b=>c.O b∧b≠a⟩
 have ext:Ext c H c' H:=⟨fun _ _ e _=>e,fun b u e z=>z.elim .inl fun w=>.inr w.1,fun _ _ e=>e⟩
 have sinv:SInv K c' t.S H:=⟨f.s.len,f.s.nd,fun k b u e1 e2=>(f.s.obs k b u e1 e2).mono ext rfl,fun b z=>f.s.trk b z.1,fun b z=>f.s.dis b z.1⟩
 have nA:¬c'.A a:=fun z=>z.elim (fun w=>f.s.dis a h2 w) fun w=>w.2 rfl
 have hσ:σ.set i (some (.ref a))=σ:=by
  apply List.ext_getElem?
  intro j
  by_cases hj:j=i
  ·subst hj
   rw [List.getElem?_set_self (by have:=(List.getElem?_eq_some_iff.mp h1).1;exact this),h1]
  ·rw [List.getElem?_set_ne (Ne.symm hj)]
 have r:Rep K c' H (.ref a) (.lst ds):=.lst h4 nA (h5.mono ext)
 have f0:FInv K Oo c' { t with env:=t.env.set i (some (.val (.lst ds))) } σ H:=by
  have neq:∀{j:Nat} {x:Sl},(t.env.set i (some (.val (.lst ds))))[j]?=some (some x)→(j=i∧x = .val (.lst ds))∨(j≠i∧t.env[j]?=some (some x)):=fun {j x} q=>by
   by_cases h:j=i
   ·subst h
    rw [List.getElem?_set] at q
    split at q
    ·split at q
     ·injection q with q;injection q with q;exact .inl ⟨rfl,q.symm⟩
     ·cases q
    ·next h1=>exact absurd rfl h1
   ·rw [List.getElem?_set_ne (Ne.symm h)] at q
    exact .inr ⟨h,q⟩
  refine ⟨sinv,by simp [f.len],fun b z=>⟨f.sub b z,fun w=>h3 (w ▸ z)⟩,fun j e q'=>?_,fun j es q'=>?_,fun j k ds' es b q1 q2 q3 q4=>?_⟩
  ·rcases neq q' with ⟨rfl,z⟩ | ⟨hn,q'⟩
   ·cases z;exact ⟨_,h1,r⟩
   ·obtain ⟨u,w1,w2⟩:=f.val j e q'
    exact ⟨u,w1,w2.mono ext⟩
  ·rcases neq q' with ⟨_,z⟩ | ⟨hn,q'⟩
   ·cases z
   ·obtain ⟨b,ws,w1,w2,w3,w4,w5⟩:=f.own j es q'
    refine ⟨b,ws,w1,⟨w2,fun z=>?_⟩,w3,w4,w5.mono ext⟩
    subst z
    exact hn (f.inj j i es ds b q' q w1 h1)
  ·rcases neq q1 with ⟨_,z⟩ | ⟨_,q1⟩
   ·cases z
   rcases neq q2 with ⟨_,z⟩ | ⟨_,q2⟩
   ·cases z
   exact f.inj j k ds' es b q1 q2 q3 q4
 exact ⟨c',_,f0,⟨ext,fun _ _=>rfl⟩,h1,r⟩
theorem FInv.wrOwn (f:FInv K Oo c t σ H) {i:Nat} {ds ds':List D} {vs':List V} {a:Addr} (q:t.env[i]?=some (some (.own ds))) (h1:σ[i]?=some (some (.ref a))) (r:Reps K c H vs' ds') :
 FInv K Oo c { t with env:=t.env.set i (some (.own ds')) } σ (upd H a (.lst vs'))∧Stp Oo c H c (upd H a (.lst vs')):=by
 obtain ⟨a',vs,g1,h2,h3,h4,h5⟩:=f.own i ds q
 rw [h1] at g1;injection g1 with g1;injection g1 with g1;injection g1 with g1;subst g1
 have ext:Ext c H c (upd H a (.lst vs')):=⟨fun b u e n=>by rw [AC (fun (z:b=a)=>n (.inr (by rw [z];exact h2)))];exact e,fun _ _ _ z=>z,fun _ _ e=>e⟩
 have stp:Stp Oo c H c (upd H a (.lst vs')):=⟨ext,fun b z=>AC fun w=>h3 (w ▸ z)⟩
 have sinv:SInv K c t.S (upd H a (.lst vs')):=by
  refine ⟨f.s.len,f.s.nd,fun k b u e1 e2=>(f.s.obs k b u e1 e2).mono ext (AC fun z=>f.s.dis a h2 (z ▸ List.mem_of_getElem? e1)),fun b z=>?_,f.s.dis⟩
  by_cases hb:b=a
  ·subst hb;exact ⟨_,A1⟩
  ·obtain ⟨u,e⟩:=f.s.trk b z;exact ⟨u,by rw [AC hb];exact e⟩
 have neq:∀{j:Nat} {x:Sl},(t.env.set i (some (.own ds')))[j]?=some (some x)→(j=i∧x = .own ds')∨(j≠i∧t.env[j]?=some (some x)):=fun {j x} q=>by
  by_cases h:j=i
  ·subst h
   rw [List.getElem?_set] at q
   split at q
   ·split at q
    ·injection q with q;injection q with q;exact .inl ⟨rfl,q.symm⟩
    ·cases q
   ·next h1=>exact absurd rfl h1
  ·rw [List.getElem?_set_ne (Ne.symm h)] at q
   exact .inr ⟨h,q⟩
 refine ⟨⟨sinv,by simp [f.len],f.sub,fun j e q'=>?_,fun j es q'=>?_,fun j k es es' b q1 q2 q3 q4=>?_⟩,stp⟩
 ·rcases neq q' with ⟨_,z⟩ | ⟨_,q'⟩
  ·cases z
  ·obtain ⟨u,w1,w2⟩:=f.val j e q'
   exact ⟨u,w1,w2.mono ext⟩
 ·rcases neq q' with ⟨rfl,z⟩ | ⟨hn,q'⟩
  ·cases z;exact ⟨a,vs',h1,h2,h3,A1,r.mono ext⟩
  ·obtain ⟨b,ws,w1,w2,w3,w4,w5⟩:=f.own j es q'
   have hb:b≠a:=fun z=>by subst z;exact hn (f.inj j i es ds b q' q w1 h1)
   exact ⟨b,ws,w1,w2,w3,by rw [AC hb];exact w4,w5.mono ext⟩
 ·have old:∀{j:Nat} {x:List D},(t.env.set i (some (.own ds')))[j]?=some (some (.own x))→∃y,t.env[j]?=some (some (.own y)):=fun {j x} q'=>by
   rcases neq q' with ⟨rfl,_⟩ | ⟨_,q'⟩
   ·exact ⟨ds,q⟩
   ·exact ⟨x,q'⟩
  obtain ⟨y1,z1⟩:=old q1
  obtain ⟨y2,z2⟩:=old q2
  exact f.inj j k y1 y2 b z1 z2 q3 q4
theorem FInv.wrObj (f:FInv K Oo c t σ H) {k:Nat} {a:Addr} {o:Ob} {u:HO} (e:c.ι[k]?=some a) (r:∀c' H',Ext c H c' H'→H' a=some u→ObR K c' H' a o) :
 FInv K Oo c { t with S:=t.S.set k o } σ (upd H a u)∧Stp Oo c H c (upd H a u):=by
 have hA:a∈c.ι:=List.mem_of_getElem? e
 have ext:Ext c H c (upd H a u):=⟨fun b w h n=>by rw [AC (fun (z:b=a)=>n (.inl (by rw [z];exact hA)))];exact h,fun _ _ _ z=>z,fun _ _ e=>e⟩
 have neO:∀b,c.O b→b≠a:=fun b z w=>f.s.dis b z (w ▸ hA)
 have stp:Stp Oo c H c (upd H a u):=⟨ext,fun b z=>AC (neO b (f.sub b z))⟩
 have sinv:SInv K c (t.S.set k o) (upd H a u):=by
  refine ⟨by simp [f.s.len],f.s.nd,fun j b o' e1 e2=>?_,fun b z=>?_,f.s.dis⟩
  ·by_cases hj:j=k
   ·subst hj
    rw [e] at e1;cases e1
    have hl:j < t.S.length:=by rw [←f.s.len];exact (List.getElem?_eq_some_iff.mp e).1
    rw [List.getElem?_set_self hl] at e2;cases e2
    exact r c _ ext A1
   ·rw [List.getElem?_set_ne (Ne.symm hj)] at e2
    refine (f.s.obs j b o' e1 e2).mono ext (AC fun z=>?_)
    subst z
    obtain ⟨l1,g1⟩:=List.getElem?_eq_some_iff.mp e1
    obtain ⟨l2,g2⟩:=List.getElem?_eq_some_iff.mp e
    exact hj ((List.getElem_inj f.s.nd).mp (g1.trans g2.symm))
  ·obtain ⟨w,h⟩:=f.s.trk b z;exact ⟨w,by rw [AC (neO b z)];exact h⟩
 refine ⟨⟨sinv,f.len,f.sub,fun i d q=>?_,fun i ds q=>?_,f.inj⟩,stp⟩
 ·obtain ⟨v,h1,h2⟩:=f.val i d q
  exact ⟨v,h1,h2.mono ext⟩
 ·obtain ⟨b,vs,h1,h2,h3,h4,h5⟩:=f.own i ds q
  exact ⟨b,vs,h1,h2,h3,by rw [AC (neO b h2)];exact h4,h5.mono ext⟩
theorem FInv.newObj (f:FInv K Oo c t σ H) {p:Addr} {o:Ob} {u:HO} (h:H p=none) (r:∀c' H',Ext c H c' H'→H' p=some u→ObR K c' H' p o) :
 ∃c',FInv K Oo c' { t with S:=t.S++[o] } σ (upd H p u)∧Stp Oo c H c' (upd H p u)∧c'.ι[t.S.length]?=some p:=by
 let c':Cf:=⟨c.ι++[p],c.O⟩
 have nA:¬c.A p:=f.s.free h
 have ext:Ext c H c' (upd H p u):=by
  refine ⟨fun b w e _=>by rw [AC (Bg e h)];exact e,fun b w e z=>?_,fun k a e=>?_⟩
  ·rcases z with z | z
   ·rcases List.mem_append.mp z with z | z
    ·exact .inl z
    ·rw [List.mem_singleton] at z;subst z;rw [h] at e;cases e
   ·exact .inr z
  ·show (c.ι++[p])[k]?=some a
   rw [List.getElem?_append_left (List.getElem?_eq_some_iff.mp e).1];exact e
 have stp:Stp Oo c H c' (upd H p u):=⟨ext,fun b z=>by obtain ⟨w,e⟩:=f.s.trk b (f.sub b z);exact AC (Bg e h)⟩
 have at_:(c.ι++[p])[t.S.length]?=some p:=by rw [←f.s.len,List.getElem?_append_right (Nat.le_refl _)];simp
 have sinv:SInv K c' (t.S++[o]) (upd H p u):=by
  refine ⟨by simp [c',f.s.len],?_,fun j b o' e1 e2=>?_,fun b z=>?_,fun b z hb=>?_⟩
  ·show (c.ι++[p]).Nodup
   exact List.nodup_append.mpr ⟨f.s.nd,by simp,fun x hx y hy z=>by rw [List.mem_singleton] at hy;subst z;subst hy;exact nA (.inl hx)⟩
  ·have hlt:j < (t.S++[o]).length:=(List.getElem?_eq_some_iff.mp e2).1
   by_cases hj:j < t.S.length
   ·have e1':c.ι[j]?=some b:=by
     have q:(c.ι++[p])[j]?=some b:=e1
     rw [List.getElem?_append_left (by rw [f.s.len];exact hj)] at q;exact q
    rw [List.getElem?_append_left hj] at e2
    have q:=f.s.obs j b o' e1' e2
    obtain ⟨w,hw⟩:=q.some
    exact q.mono ext (AC (Bg hw h))
   ·have hj':j=t.S.length:=by simp at hlt;lia
    subst hj'
    rw [at_] at e1;cases e1
    rw [List.getElem?_append_right (Nat.le_refl _)] at e2
    simp at e2;subst e2
    exact r c' _ ext A1
  ·obtain ⟨w,e⟩:=f.s.trk b z;exact ⟨w,by rw [AC (Bg e h)];exact e⟩
  ·rcases List.mem_append.mp hb with w | w
   ·exact f.s.dis b z w
   ·rw [List.mem_singleton] at w;subst w;exact nA (.inr z)
 refine ⟨c',⟨sinv,f.len,f.sub,fun i d q=>?_,fun i ds q=>?_,f.inj⟩,stp,at_⟩
 ·obtain ⟨v,h1,h2⟩:=f.val i d q
  exact ⟨v,h1,h2.mono ext⟩
 ·obtain ⟨b,vs,h1,h2,h3,h4,h5⟩:=f.own i ds q
  exact ⟨b,vs,h1,h2,h3,by rw [AC (Bg h4 h)];exact h4,h5.mono ext⟩
theorem FInv.after (f:FInv K Oo c t σ H) {c':Cf} {S':List Ob} {H':Hp} (s:SInv K c' S' H') (st:Stp c.O c H c' H') (ho:∀b,c'.O b↔c.O b):FInv K Oo c' { t with S:=S' } σ H'∧Stp Oo c H c' H':=by
 refine ⟨⟨s,f.len,fun b z=>(ho b).mpr (f.sub b z),fun i d q=>?_,fun i ds q=>?_,f.inj⟩,st.ext,fun b z=>st.oo b (f.sub b z)⟩
 ·obtain ⟨v,h1,h2⟩:=f.val i d q
  exact ⟨v,h1,h2.mono st.ext⟩
 ·obtain ⟨b,vs,h1,h2,h3,h4,h5⟩:=f.own i ds q
  exact ⟨b,vs,h1,(ho b).mpr h2,h3,(st.oo b h2).trans h4,h5.mono st.ext⟩
end
abbrev M (α:Type):=T→Option (α×T)
inductive Out where
 | next | brk | cont | ret (d:D)
def ret {α:Type} (a:α):M α:=fun t=>some (a,t)
def fail {α:Type}:M α:=fun _=>none
def bnd {α β:Type} (f:M α) (g:α→M β):M β:=fun t=>match f t with
 | some (a,t1)=>g a t1
 | none=>none
theorem Aq {α β:Type} {f:M α} {g:α→M β} {t:T} {z:β×T} (h:bnd f g t=some z):∃a t1,f t=some (a,t1)∧g a t1=some z:=by
 unfold bnd at h
 cases e:f t with
 | none=>rw [e] at h;cases h
 | some p=>obtain ⟨a,t1⟩:=p;rw [e] at h;exact ⟨a,t1,rfl,h⟩
def LIM:Nat:=100000
theorem Cm:LIM≤sizeLine:=by unfold LIM;decide
theorem SV:LIM < sizeLine:=by unfold LIM;decide
section
variable (K:PySem.W.Frag)
def RE (f:M D):TE:=fun σ H Q=>∃Oo c t,FInv K Oo c t σ H∧∃r t',f t=some (r,t')∧∀v H' c',FInv K Oo c' t' σ H'→Stp Oo c H c' H'→Rep K c' H' v r→Q v H'
def RT (f:M Bool):TT:=fun σ H Q=>∃Oo c t,FInv K Oo c t σ H∧∃r t',f t=some (r,t')∧∀H' c',FInv K Oo c' t' σ H'→Stp Oo c H c' H'→Q r H'
def RA (f:M (List D)):TA:=fun σ H Q=>∃Oo c t,FInv K Oo c t σ H∧∃r t',f t=some (r,t')∧∀vs H' c',FInv K Oo c' t' σ H'→Stp Oo c H c' H'→Reps K c' H' vs r→Q vs H'
def RF (f:M (List D)):TE:=fun σ H Q=>∃Oo c t,FInv K Oo c t σ H∧∃ds t',f t=some (ds,t')∧∀p vs H' c',FInv K Oo c' t' σ H'→Stp Oo c H c' H'→Reps K c' H' vs ds→H' p=none→Q (.ref p) (upd H' p (.lst vs))
def RSg (μ:Cf→Hp→D→(V→Hp→Prop)→Prop) (f:M Out):TS:=fun E σ H=>∃Oo c t,FInv K Oo c t σ H∧∃o t',f t=some (o,t')∧∀σ' H' c',FInv K Oo c' t' σ' H'→Stp Oo c H c' H'→
 match o with
 | .next=>E.nx σ' H'
 | .brk=>E.bk σ' H'
 | .cont=>E.ct σ' H'
 | .ret r=>μ c' H' r E.rt
def μR:Cf→Hp→D→(V→Hp→Prop)→Prop:=fun c H r rt=>∀v,Rep K c H v r→rt v H
def μF:Cf→Hp→D→(V→Hp→Prop)→Prop:=fun c H r rt=>match r with
 | .lst ds=>∀p us,H p=none→Reps K c H us ds→rt (.ref p) (upd H p (.lst us))
 | _=>False
abbrev RS (f:M Out):TS:=RSg K (μR K) f
def RG (f:D→M Unit):TG:=fun v σ H Q=>∃Oo c t d,FInv K Oo c t σ H∧Rep K c H v d∧∃t',f d t=some ((),t')∧∀σ' H' c',FInv K Oo c' t' σ' H'→Stp Oo c H c' H'→Q σ' H'
structure ItOk (J:It) (c:Cf) (H:Hp) (ds:List D):Prop where
 go:∀c' H' (i:Nat),Ext c H c' H'→i < ds.length→J.go i H'
 yld:∀c' H' (i:Nat) x H'' d,Ext c H c' H'→ds[i]?=some d→J.yld i H' x H''→H''=H'∧Rep K c' H' x d
 stop:∀c' H',Ext c H c' H'→J.stop ds.length H'
def RI (f:M (List D)):TI:=fun σ H R=>∃Oo c t,FInv K Oo c t σ H∧∃ds t',f t=some (ds,t')∧∀J H' c',FInv K Oo c' t' σ H'→Stp Oo c H c' H'→ItOk K J c' H' ds→R J H'
def SY (R:V→Hp→VK→Prop) (h:D→M D):Prop:=∀{Oo:Addr→Prop} {c:Cf} {t:T} {σ:L2.St} {H:Hp} {x:V} {dx r:D} {t':T} {Q:VK},FInv K Oo c t σ H→Rep K c H x dx→h dx t=some (r,t')→
 (∀v H' c',FInv K Oo c' t' σ H'→Stp Oo c H c' H'→Rep K c' H' v r→Q v H')→R x H Q
def BT (R:R2) (h:D→D→M D):Prop:=∀{Oo:Addr→Prop} {c:Cf} {t:T} {σ:L2.St} {H:Hp} {x y:V} {dx dy r:D} {t':T} {Q:VK},FInv K Oo c t σ H→Rep K c H x dx→Rep K c H y dy→h dx dy t=some (r,t')→
 (∀v H' c',FInv K Oo c' t' σ H'→Stp Oo c H c' H'→Rep K c' H' v r→Q v H')→R x y H Q
def EF (R:List V→Hp→VK→Prop) (h:List D→M D):Prop:=∀{Oo:Addr→Prop} {c:Cf} {t:T} {σ:L2.St} {H:Hp} {xs:List V} {ds:List D} {r:D} {t':T} {Q:VK},FInv K Oo c t σ H→Reps K c H xs ds→h ds t=some (r,t')→
 (∀v H' c',FInv K Oo c' t' σ H'→Stp Oo c H c' H'→Rep K c' H' v r→Q v H')→R xs H Q
def M2 (R:R2) (h:D→D→M (List D)):Prop:=∀{Oo:Addr→Prop} {c:Cf} {t:T} {σ:L2.St} {H:Hp} {x y:V} {dx dy:D} {r:List D} {t':T} {Q:VK},FInv K Oo c t σ H→Rep K c H x dx→Rep K c H y dy→h dx dy t=some (r,t')→
 (∀p vs H' c',FInv K Oo c' t' σ H'→Stp Oo c H c' H'→Reps K c' H' vs r→H' p=none→Q (.ref p) (upd H' p (.lst vs)))→R x y H Q
def Kn (R:List V→Hp→VK→Prop) (h:List D→M (List D)):Prop:=∀{Oo:Addr→Prop} {c:Cf} {t:T} {σ:L2.St} {H:Hp} {xs:List V} {ds r:List D} {t':T} {Q:VK},FInv K Oo c t σ H→Reps K c H xs ds→h ds t=some (r,t')→
 (∀p vs H' c',FInv K Oo c' t' σ H'→Stp Oo c H c' H'→Reps K c' H' vs r→H' p=none→Q (.ref p) (upd H' p (.lst vs)))→R xs H Q
end
section
variable {X:Cx} {e a b:Expr} {pos:Pos}
theorem Bw {t t':TE} (h:PE X e t) (i:∀σ H Q,t' σ H Q→t σ H Q):PE X e t':=fun pins s σ H Q I q=>h pins s σ H Q I (i σ H Q q)
theorem KL {t t':TT} (h:PT X e t) (i:∀σ H Q,t' σ H Q→t σ H Q):PT X e t':=fun pins s σ H Q I q=>h pins s σ H Q I (i σ H Q q)
theorem NZ {t t':TT} (h:PW X e t) (i:∀σ H Q,t' σ H Q→t σ H Q):PW X e t':=fun w pins s σ H Q I q=>h w pins s σ H Q I (i σ H Q q)
theorem NX {es:List Expr} {t t':TA} (h:PA X es t) (i:∀σ H Q,t' σ H Q→t σ H Q):PA X es t':=fun pos pins s σ H Q I q=>h pos pins s σ H Q I (i σ H Q q)
theorem B9 {st:Stmt} {t t':TS} (h:PS X st t) (i:∀E σ H,t' E σ H→t E σ H):PS X st t':=fun pins s σ H E I q=>h pins s σ H E I (i E σ H q)
theorem Mu {st:List Stmt} {t t':TS} (h:PSs X st t) (i:∀E σ H,t' E σ H→t E σ H):PSs X st t':=fun pins s σ H E I q=>h pins s σ H E I (i E σ H q)
theorem KH {t t':TG} (h:PG X e t) (i:∀v σ H Q,t' v σ H Q→t v σ H Q):PG X e t':=fun pins s σ H v u Q I r q=>h pins s σ H v u Q I r (i v σ H Q q)
theorem KJ {tg:Expr} {t t':TI} (h:PI X tg e t) (i:∀σ H R,t' σ H R→t σ H R):PI X tg e t':=fun pins s σ H R I q=>h pins s σ H R I (i σ H R q)
def fC (d:D):M D:=ret d
theorem IZ {v:V} {d:D} (h:PE X e (tC v)) (r:∀c H,Rep X.K c H v d):PE X e (RE X.K (fC d)):=
 Bw h fun σ H Q ⟨Oo,c,t,f,r',t',eq,k⟩=>by
  cases eq
  exact k v H c f .refl (r c H)
theorem Ag {i:Int} {j:Nat}:PE X (.Constant (.int i) j pos) (RE X.K (fC (.int i))):=IZ TH fun _ _=>.int i
theorem Cs {i:Bool} {j:Nat}:PE X (.Constant (.bool i) j pos) (RE X.K (fC (.bl i))):=IZ UU fun _ _=>.bl i
theorem AA {i:Str} {j:Nat}:PE X (.Constant (.str i) j pos) (RE X.K (fC (.str i))):=IZ OG fun _ _=>.str i
theorem BN {j:Nat}:PE X (.Constant .none j pos) (RE X.K (fC .non)):=IZ TK fun _ _=>.non
theorem Ja {x:Str} {i:Int} {tk:Tok} (hg:Gl X x) (hm:X.mg x=some (.int i tk)) (hd:(x == ("__debug__" : Str))=false:=by decide):PE X (.Name x pos) (RE X.K (fC (.int i))):=
 IZ (MM hg hm (v:=.int i) ⟨tk,rfl⟩ hd) fun _ _=>.int i
theorem D5 {x:Str} {n:String} (hg:Gl X x) (hm:X.mg x=none) (hv:bootBuiltins x=some (.type n)) (hn:x≠"__name__":=by decide) (hd:(x == ("__debug__" : Str))=false:=by decide):PE X (.Name x pos) (RE X.K (fC (.ty n))):=
 IZ (MK hg hm hv (v:=.ty n) rfl hn hd) fun _ _=>.ty n
def Ad (i:Nat):M D:=fun t=>match t.env[i]? with
 | some (some (.val d))=>some (d,t)
 | some (some (.own ds))=>some (.lst ds,{ t with env:=t.env.set i (some (.val (.lst ds))) })
 | _=>none
theorem Nj {i:Nat} {t t':T} {r:D} (h:Ad i t=some (r,t')):(t.env[i]?=some (some (.val r))∧t'=t)∨∃ds,t.env[i]?=some (some (.own ds))∧r = .lst ds∧t' = { t with env:=t.env.set i (some (.val (.lst ds))) }:=by
 unfold Ad at h
 cases e:t.env[i]? with
 | none=>rw [e] at h;cases h
 | some o=>
   cases o with
   | none=>rw [e] at h;cases h
   | some sl=>
     cases sl with
     | val d=>rw [e] at h;cases h;exact .inl ⟨rfl,rfl⟩
     | own ds=>rw [e] at h;cases h;exact .inr ⟨ds,rfl,rfl,rfl⟩
theorem Ac (i:Nat) {x:Str} (hN:X.N[i]?=some x:=by rfl) (hv:Vis X.env.scope x:=by first | exact Or.inl rfl | exact Or.inr (Or.inl rfl) | exact Or.inr (Or.inr rfl)) (hd:(x == ("__debug__" : Str))=false:=by decide)
 (hcd:(x == ("__classdict__" : Str))=false:=by decide):PE X (.Name x pos) (RE X.K (Ad i)):=
 Bw (Ft hN hv hd hcd) fun σ H Q ⟨Oo,c,t,f,r,t',eq,k⟩=>by
  rcases Nj eq with ⟨q,rfl⟩ | ⟨ds,q,rfl,rfl⟩
  ·obtain ⟨v,h1,h2⟩:=f.val i r q
   exact ⟨v,h1,k v H c f .refl h2⟩
  ·obtain ⟨c',v,f',st,h1,h2⟩:=f.frz q
   exact ⟨v,h1,k v H c' f' st h2⟩
def Ah (f g:M D) (h:D→D→M D):M D:=bnd f fun x=>bnd g fun y=>h x y
theorem RE.two {K:PySem.W.Frag} {f g:M D} {h:D→D→M D} {R:R2} (s:BT K R h) {σ:L2.St} {H:Hp} {Q:VK} (q:RE K (Ah f g h) σ H Q):tOp R (RE K f) (RE K g) σ H Q:=by
 obtain ⟨Oo,c,t,fi,r,t',eq,k⟩:=q
 obtain ⟨dx,t1,e1,eq⟩:=Aq eq
 obtain ⟨dy,t2,e2,eq⟩:=Aq eq
 exact ⟨Oo,c,t,fi,dx,t1,e1,fun x H1 c1 f1 s1 rx=>⟨Oo,c1,t1,f1,dy,t2,e2,fun y H2 c2 f2 s2 ry=>s f2 (rx.mono s2.ext) ry eq fun v H' c' f' s' rv=>k v H' c' f' ((s1.trans s2).trans s') rv⟩⟩
theorem AF {op:Operator} {R:R2} {f g:M D} {h:D→D→M D} (ho:OpR X (binaryOp op) R) (s:BT X.K R h) (ha:PE X a (RE X.K f)) (hb:PE X b (RE X.K g)):PE X (.BinOp a op b pos) (RE X.K (Ah f g h)):=
 Bw (QG ho ha hb) fun _ _ _ q=>RE.two s q
theorem Ei {op:CmpOp} {R:R2} {f g:M D} {h:D→D→M D} (ho:OpR X (compareOp op) R) (s:BT X.K R h) (ha:PE X a (RE X.K f)) (hb:PE X b (RE X.K g)) (hm:behindInMarks op b=false):PE X (.Compare a [op] [b] pos) (RE X.K (Ah f g h)):=
 Bw (R3 ho ha hb hm) fun _ _ _ q=>RE.two s q
theorem An {R:R2} {f g:M D} {h:D→D→M D} (hr:IxR X R) (s:BT X.K R h) (ha:PE X a (RE X.K f)) (hb:PE X b (RE X.K g)) (hs:Mw b):PE X (.Subscript a b pos) (RE X.K (Ah f g h)):=
 Bw (UV hr ha hb hs) fun _ _ _ q=>RE.two s q
def fUn (f:M D) (h:D→M D):M D:=bnd f h
theorem QB {op:UnaryOp} {R:V→Hp→VK→Prop} {f:M D} {h:D→M D} (ho:UnR X (unaryOp op) R) (s:SY X.K R h) (ha:PE X a (RE X.K f)):PE X (.UnaryOp op a pos) (RE X.K (fUn f h)):=
 Bw (UW ho ha) fun σ H Q ⟨Oo,c,t,fi,r,t',eq,k⟩=>by
  obtain ⟨dx,t1,e1,eq⟩:=Aq eq
  exact ⟨Oo,c,t,fi,dx,t1,e1,fun x H1 c1 f1 s1 rx=>s f1 rx eq fun v H' c' f' s' rv=>k v H' c' f' (s1.trans s') rv⟩
def toB:D→M Bool
 | .bl b=>ret b
 | _=>fail
def AR (f:M D):M Bool:=bnd f toB
theorem HL {d:D} {t:T} {z:Bool×T} (h:toB d t=some z):∃b,d = .bl b∧z=(b,t):=by
 cases d with
 | bl b=>cases h;exact ⟨b,rfl,rfl⟩
 | _=>cases h
theorem RT.val {K:PySem.W.Frag} {f:M D} {σ:L2.St} {H:Hp} {Q:Bool→Hp→Prop} (q:RT K (AR f) σ H Q):RE K f σ H fun x H1=>∃k,x = .bl k∧Q k H1:=by
 obtain ⟨Oo,c,t,fi,r,t',eq,k⟩:=q
 obtain ⟨d,t1,e1,eq⟩:=Aq eq
 obtain ⟨b,rfl,z⟩:=HL eq
 cases z
 refine ⟨Oo,c,t,fi,_,t',e1,fun v H1 c1 f1 s1 rv=>?_⟩
 cases rv
 exact ⟨r,rfl,k H1 c1 f1 s1⟩
theorem Cn {f:M D} (h:PE X e (RE X.K f)) (he:∀whole,isTrue e X.env whole=(do let v ←whole;standAt e.pos;holding [v] (truthy v)):=by intro _;rfl):PT X e (RT X.K (AR f)):=
 KL (T0 h he) fun _ _ _ q=>RT.val q
theorem A0 {op:CmpOp} {R:R2} {f g:M D} {h:D→D→M D} (ho:OpR X (compareOp op) R) (s:BT X.K R h) (ha:PE X a (RE X.K f)) (hb:PE X b (RE X.K g)) (hm:behindInMarks op b=false):PT X (.Compare a [op] [b] pos) (RT X.K (AR (Ah f g h))):=
 KL (Se ho ha hb hm) fun σ H Q q=>RE.two s (RT.val q)
def EI (f g w:M D) (h h':D→D→M D):M D:=bnd f fun x=>bnd g fun y=>bnd (AR (h x y)) fun k=>if k=true then bnd w fun z=>h' y z else ret (.bl false)
theorem RE.chain {K:PySem.W.Frag} {f g w:M D} {h h':D→D→M D} {R R':R2} (s:BT K R h) (s':BT K R' h') {σ:L2.St} {H:Hp} {Q:VK} (q:RE K (EI f g w h h') σ H Q):OZ R R' (RE K f) (RE K g) (RE K w) σ H Q:=by
 obtain ⟨Oo,c,t,fi,r,t',eq,k⟩:=q
 obtain ⟨dx,t1,e1,eq⟩:=Aq eq
 obtain ⟨dy,t2,e2,eq⟩:=Aq eq
 obtain ⟨kb,t3,e3,eq⟩:=Aq eq
 obtain ⟨d3,t3',e3',e3⟩:=Aq e3
 obtain ⟨b3,rfl,z⟩:=HL e3
 cases z
 refine ⟨Oo,c,t,fi,dx,t1,e1,fun x H1 c1 f1 s1 rx=>⟨Oo,c1,t1,f1,dy,t2,e2,fun y H2 c2 f2 s2 ry=>s f2 (rx.mono s2.ext) ry e3' fun v H3 c3 f3 s3 rv=>?_⟩⟩
 cases rv
 refine ⟨kb,rfl,?_⟩
 cases kb with
 | false=>
   rw [if_neg Bool.false_ne_true] at eq ⊢
   cases eq
   exact k _ H3 c3 f3 ((s1.trans s2).trans s3) (.bl false)
 | true=>
   rw [if_pos rfl] at eq ⊢
   obtain ⟨dz,t4,e4,eq⟩:=Aq eq
   exact ⟨Oo,c3,t3,f3,dz,t4,e4,fun w' H4 c4 f4 s4 rw'=>s' f4 (ry.mono (s3.trans s4).ext) rw' eq fun v H' c' f' s' rv=>k v H' c' f' ((((s1.trans s2).trans s3).trans s4).trans s') rv⟩
theorem Lc {d:Expr} {op op':CmpOp} {R R':R2} {f g w:M D} {h h':D→D→M D} (ho:OpR X (compareOp op) R) (ho':OpR X (compareOp op') R') (s:BT X.K R h) (s':BT X.K R' h') (ha:PE X a (RE X.K f)) (hb:PE X b (RE X.K g)) (hd:PE X d (RE X.K w))
 (hm:lastMarks [op,op'] [b,d]=false:=by with_unfolding_all rfl):PE X (.Compare a [op,op'] [b,d] pos) (RE X.K (EI f g w h h')):=
 Bw (P4 ho ho' ha hb hd hm) fun _ _ _ q=>RE.chain s s' q
def Lb (f g:M Bool):M Bool:=bnd f fun k=>if k=true then g else ret false
def fOr (f g:M Bool):M Bool:=bnd f fun k=>if k=true then ret true else g
def Da (f:M Bool):M Bool:=bnd f fun k=>ret (!k)
def Et (f g:M D):M D:=bnd (AR f) fun k=>if k=true then g else ret (.bl false)
def Tg (f g:M D):M D:=bnd (AR f) fun k=>if k=true then ret (.bl true) else g
def Ib (f:M D):M D:=bnd (AR f) fun k=>ret (.bl (!k))
def fIf (f:M Bool) (g h:M D):M D:=bnd f fun k=>if k=true then g else h
variable {f g:M Bool} {u v w:M D} {rest:List Expr}
theorem D6 (h:PW X e (RT X.K f)):PT X e (RT X.K f):=h.pt
theorem Rp (ha:PT X a (RT X.K f)):PW X (.BoolOp .And [a] pos) (RT X.K f):=Sg ha
theorem DS (ha:PT X a (RT X.K f)):PW X (.BoolOp .Or [a] pos) (RT X.K f):=T3 ha
theorem Tl (ha:PT X a (RT X.K f)) (hb:PW X (.BoolOp .And (b :: rest) pos) (RT X.K g)):PW X (.BoolOp .And (a :: b :: rest) pos) (RT X.K (Lb f g)):=
 NZ (T2 ha hb) fun σ H Q ⟨Oo,c,t,fi,r,t',eq,k⟩=>by
  obtain ⟨kb,t1,e1,eq⟩:=Aq eq
  refine ⟨Oo,c,t,fi,kb,t1,e1,fun H1 c1 f1 s1=>?_⟩
  cases kb with
  | false=>rw [if_neg Bool.false_ne_true] at eq ⊢;cases eq;exact k H1 c1 f1 s1
  | true=>rw [if_pos rfl] at eq ⊢;exact ⟨Oo,c1,t1,f1,r,t',eq,fun H2 c2 f2 s2=>k H2 c2 f2 (s1.trans s2)⟩
theorem Ev (ha:PT X a (RT X.K f)) (hb:PW X (.BoolOp .Or (b :: rest) pos) (RT X.K g)):PW X (.BoolOp .Or (a :: b :: rest) pos) (RT X.K (fOr f g)):=
 NZ (U4 ha hb) fun σ H Q ⟨Oo,c,t,fi,r,t',eq,k⟩=>by
  obtain ⟨kb,t1,e1,eq⟩:=Aq eq
  refine ⟨Oo,c,t,fi,kb,t1,e1,fun H1 c1 f1 s1=>?_⟩
  cases kb with
  | true=>rw [if_pos rfl] at eq ⊢;cases eq;exact k H1 c1 f1 s1
  | false=>rw [if_neg Bool.false_ne_true] at eq ⊢;exact ⟨Oo,c1,t1,f1,r,t',eq,fun H2 c2 f2 s2=>k H2 c2 f2 (s1.trans s2)⟩
theorem CK (ha:PT X a (RT X.K f)):PT X (.UnaryOp .Not a pos) (RT X.K (Da f)):=
 KL (TZ ha) fun σ H Q ⟨Oo,c,t,fi,r,t',eq,k⟩=>by
  obtain ⟨kb,t1,e1,eq⟩:=Aq eq
  cases eq
  exact ⟨Oo,c,t,fi,kb,_,e1,fun H1 c1 f1 s1=>k H1 c1 f1 s1⟩
theorem LY {f:M D} {t:T} {kb:Bool} {t1:T} (h:AR f t=some (kb,t1)):f t=some (.bl kb,t1):=by
 obtain ⟨d,t2,e1,e2⟩:=Aq h
 obtain ⟨b,rfl,z⟩:=HL e2
 cases z
 exact e1
theorem Gg {op:PySem.BoolOp} (h:PE X a (RE X.K u)):PE X (.BoolOp op [a] pos) (RE X.K u):=TM h
theorem Gf (ha:PE X a (RE X.K u)) (hb:PE X (.BoolOp .And (b :: rest) pos) (RE X.K v)):PE X (.BoolOp .And (a :: b :: rest) pos) (RE X.K (Et u v)):=
 Bw (TF ha hb) fun σ H Q ⟨Oo,c,t,fi,r,t',eq,k⟩=>by
  obtain ⟨kb,t1,e1,eq⟩:=Aq eq
  refine ⟨Oo,c,t,fi,_,t1,LY e1,fun x H1 c1 f1 s1 rx=>?_⟩
  cases rx
  refine ⟨kb,rfl,?_⟩
  cases kb with
  | false=>rw [if_neg Bool.false_ne_true] at eq ⊢;cases eq;exact k _ H1 c1 f1 s1 (.bl false)
  | true=>rw [if_pos rfl] at eq ⊢;exact ⟨Oo,c1,t1,f1,r,t',eq,fun y H2 c2 f2 s2 ry=>k y H2 c2 f2 (s1.trans s2) ry⟩
theorem Ti (ha:PE X a (RE X.K u)):PE X (.UnaryOp .Not a pos) (RE X.K (Ib u)):=
 Bw (TL ha) fun σ H Q ⟨Oo,c,t,fi,r,t',eq,k⟩=>by
  obtain ⟨kb,t1,e1,eq⟩:=Aq eq
  cases eq
  refine ⟨Oo,c,t,fi,_,_,LY e1,fun x H1 c1 f1 s1 rx=>?_⟩
  cases rx
  exact ⟨kb,rfl,k _ H1 c1 f1 s1 (.bl (!kb))⟩
theorem Pq {d:Expr} (hc:PT X d (RT X.K f)) (ha:PE X a (RE X.K u)) (hb:PE X b (RE X.K v)):PE X (.IfExp d a b pos) (RE X.K (fIf f u v)):=
 Bw (P5 hc ha hb) fun σ H Q ⟨Oo,c,t,fi,r,t',eq,k⟩=>by
  obtain ⟨kb,t1,e1,eq⟩:=Aq eq
  refine ⟨Oo,c,t,fi,kb,t1,e1,fun H1 c1 f1 s1=>?_⟩
  cases kb with
  | false=>rw [if_neg Bool.false_ne_true] at eq ⊢;exact ⟨Oo,c1,t1,f1,r,t',eq,fun y H2 c2 f2 s2 ry=>k y H2 c2 f2 (s1.trans s2) ry⟩
  | true=>rw [if_pos rfl] at eq ⊢;exact ⟨Oo,c1,t1,f1,r,t',eq,fun y H2 c2 f2 s2 ry=>k y H2 c2 f2 (s1.trans s2) ry⟩
end
section
variable {X:Cx} {e a b:Expr} {es:List Expr} {pos:Pos}
def Ai:M (List D):=ret []
def Ab (f:M D) (g:M (List D)):M (List D):=bnd f fun d=>bnd g fun ds=>ret (d :: ds)
theorem Af:PA X [] (RA X.K Ai):=NX LG fun σ H Q ⟨Oo,c,t,fi,r,t',eq,k⟩=>by
 cases eq
 exact k [] H c fi .refl .nil
theorem Rg {f:M D} {g:M (List D)} (ha:PE X e (RE X.K f)) (hr:PA X es (RA X.K g)) (hs:starEach (e :: es) X.env=(false,eval e X.env) :: starEach es X.env:=by rfl):PA X (e :: es) (RA X.K (Ab f g)):=
 NX (Fs ha hr hs) fun σ H Q ⟨Oo,c,t,fi,r,t',eq,k⟩=>by
  obtain ⟨d,t1,e1,eq⟩:=Aq eq
  obtain ⟨ds,t2,e2,eq⟩:=Aq eq
  cases eq
  exact ⟨Oo,c,t,fi,d,t1,e1,fun x H1 c1 f1 s1 rx=>⟨Oo,c1,t1,f1,ds,_,e2,fun xs H2 c2 f2 s2 rxs=>k _ H2 c2 f2 (s1.trans s2) (.cons (rx.mono s2.ext) rxs)⟩⟩
def lim {α:Type} (n:Nat) (a:α):M α:=fun t=>if n≤LIM then some (a,t) else none
theorem DF {α:Type} {n:Nat} {a:α} {t:T} {z:α×T} (h:lim n a t=some z):n≤LIM∧z=(a,t):=by
 unfold lim at h
 split at h
 ·next h1=>cases h;exact ⟨h1,rfl⟩
 ·cases h
def Bo (f:M (List D)):M D:=bnd f fun ds=>lim ds.length (.tup ds)
theorem AZ {x1:Nat} {f:M (List D)} (h:PA X es (RA X.K f)):PE X (.Tuple es x1 pos) (RE X.K (Bo f)):=
 Bw (TN h) fun σ H Q ⟨Oo,c,t,fi,r,t',eq,k⟩=>by
  obtain ⟨ds,t1,e1,eq⟩:=Aq eq
  obtain ⟨hl,z⟩:=DF eq
  cases z
  refine ⟨Oo,c,t,fi,ds,_,e1,fun xs H1 c1 f1 s1 rxs=>⟨by rw [rxs.length];exact Nat.le_trans hl Cm,fun p hp=>?_⟩⟩
  exact k _ _ c1 (f1.laid hp) (s1.trans (f1.stp_laid hp)) (.tup A1 (f1.s.free hp) (rxs.mono (Ext.laid f1.s hp)))
def Bf (f:M (List D)):M (List D):=bnd f fun ds=>lim ds.length ds
theorem AN {f:M (List D)} (h:PA X es (RA X.K f)):PE X (.List es pos) (RF X.K (Bf f)):=
 Bw (TJ h) fun σ H Q ⟨Oo,c,t,fi,r,t',eq,k⟩=>by
  obtain ⟨ds,t1,e1,eq⟩:=Aq eq
  obtain ⟨hl,z⟩:=DF eq
  cases z
  exact ⟨Oo,c,t,fi,_,_,e1,fun xs H1 c1 f1 s1 rxs=>⟨by rw [rxs.length];exact Nat.le_trans hl Cm,fun p hp=>k p xs H1 c1 f1 s1 rxs hp⟩⟩
def AM (f:M (List D)):M D:=bnd f fun ds=>ret (.lst ds)
theorem AG {f:M (List D)} (h:PE X e (RF X.K f)):PE X e (RE X.K (AM f)):=
 Bw h fun σ H Q ⟨Oo,c,t,fi,r,t',eq,k⟩=>by
  obtain ⟨ds,t1,e1,eq⟩:=Aq eq
  cases eq
  exact ⟨Oo,c,t,fi,ds,_,e1,fun p xs H1 c1 f1 s1 rxs hp=>k _ _ c1 (f1.laid hp) (s1.trans (f1.stp_laid hp)) (.lst A1 (f1.s.free hp) (rxs.mono (Ext.laid f1.s hp)))⟩
def Nv (o:Ob):M D:=fun t=>some (.obj t.S.length,{ t with S:=t.S++[o] })
def IY (f:M (List D)):M D:=bnd f fun ds=>Nv (.lst ds)
theorem Oe {f:M (List D)} (h:PE X e (RF X.K f)):PE X e (RE X.K (IY f)):=
 Bw h fun σ H Q ⟨Oo,c,t,fi,r,t',eq,k⟩=>by
  obtain ⟨ds,t1,e1,eq⟩:=Aq eq
  cases eq
  refine ⟨Oo,c,t,fi,ds,_,e1,fun p xs H1 c1 f1 s1 rxs hp=>?_⟩
  obtain ⟨c2,f2,s2,e2⟩:=f1.newObj (o:=.lst ds) (u:=.lst xs) hp fun c' H' ex hu=>⟨xs,hu,rxs.mono ex⟩
  exact k _ _ c2 f2 (s1.trans s2) (.obj e2)
abbrev Fn:=List D→List Ob→Option (D×List Ob)
def spF (K:PySem.W.Frag) (f:Fn):Sp:=fun vs H Q _=>∃c ds S,SInv K c S H∧Reps K c H vs ds∧∃r S',f ds S=some (r,S')∧
 ∀v H' c',SInv K c' S' H'→Stp c.O c H c' H'→(∀b,c'.O b↔c.O b)→Rep K c' H' v r→Q v H'
def As (g:Fn) (f:M (List D)):M D:=bnd f fun ds t=>match g ds t.S with
 | some (r,S')=>some (r,{ t with S:=S' })
 | none=>none
theorem JP {g:Fn} {ds:List D} {t:T} {r:D} {t':T} (h:(match g ds t.S with | some (r,S')=>some (r,{ t with S:=S' }) | none=>none:Option (D×T))=some (r,t')):∃S',g ds t.S=some (r,S')∧t' = { t with S:=S' }:=by
 cases e:g ds t.S with
 | none=>rw [e] at h;cases h
 | some p=>obtain ⟨r',S'⟩:=p;rw [e] at h;cases h;exact ⟨S',rfl,rfl⟩
theorem Rh {k:Nat} {fa:Addr} {fd:FuncData} {ps:List Str} {g:Fn} {f:M (List D)} {x:Str} {p:Pos} (F:FnOk X.prog X.w X.K X.mg X.base CX0 k fa fd ps (spF X.K g)) (hr:Room k X.A) (hg:Gl X x) (hm:X.mg x=some (.ref fa)) (hk:PySem.W.keepIn X.K (.ref fa)=true) (hb:Binds X.K fd ps [])
 (ha:PA X (e :: es) (RA X.K f)) (hdb:(x == ("__debug__" : Str))=false:=by decide) (he:starEach (e :: es) X.env=(false,eval e X.env) :: starEach es X.env:=by rfl) (hpl:(backTo pos (starEach es X.env)).any (·.1)=false:=by rfl) :
 PE X (.Call (.Name x p) (e :: es) [] pos) (RE X.K (As g f)):=
 Bw (ML F hr hg hm hk hb .nil QF ha hdb he hpl) fun σ H Q ⟨Oo,c,t,fi,r,t',eq,kk⟩=>by
  obtain ⟨ds,t1,e1,eq⟩:=Aq eq
  obtain ⟨S',e2,rfl⟩:=JP eq
  refine ⟨Oo,c,t,fi,ds,t1,e1,fun vs H1 c1 f1 s1 rvs=>?_⟩
  show spF X.K g (vs++[]) H1 Q E0
  rw [List.append_nil]
  refine ⟨c1,ds,t1.S,f1.s,rvs,r,S',e2,fun v H' c' si st ho rv=>?_⟩
  obtain ⟨f2,s2⟩:=f1.after si st ho
  exact kk v H' c' f2 (s1.trans s2) rv
def fB (f:M (List D)) (h:List D→M D):M D:=bnd f h
theorem RE.callB {K:PySem.W.Frag} {f:M (List D)} {h:List D→M D} {R:List V→Hp→VK→Prop} (s:EF K R h) {σ:L2.St} {H:Hp} {Q:VK} (q:RE K (fB f h) σ H Q):tCB R (RA K f) σ H Q:=by
 obtain ⟨Oo,c,t,fi,r,t',eq,k⟩:=q
 obtain ⟨ds,t1,e1,eq⟩:=Aq eq
 exact ⟨Oo,c,t,fi,ds,t1,e1,fun xs H1 c1 f1 s1 rxs=>s f1 rxs eq fun v H' c' f' s' rv=>k v H' c' f' (s1.trans s') rv⟩
def fBF (f:M (List D)) (h:List D→M (List D)):M (List D):=bnd f h
theorem RF.callB {K:PySem.W.Frag} {f:M (List D)} {h:List D→M (List D)} {R:List V→Hp→VK→Prop} (s:Kn K R h) {σ:L2.St} {H:Hp} {Q:VK} (q:RF K (fBF f h) σ H Q):tCB R (RA K f) σ H Q:=by
 obtain ⟨Oo,c,t,fi,r,t',eq,k⟩:=q
 obtain ⟨ds,t1,e1,eq⟩:=Aq eq
 exact ⟨Oo,c,t,fi,ds,t1,e1,fun xs H1 c1 f1 s1 rxs=>s f1 rxs eq fun p vs H' c' f' s' rv hp=>k p vs H' c' f' (s1.trans s') rv hp⟩
theorem RF.two {K:PySem.W.Frag} {f g:M D} {h:D→D→M (List D)} {R:R2} (s:M2 K R h) {σ:L2.St} {H:Hp} {Q:VK} (q:RF K (bnd f fun x=>bnd g fun y=>h x y) σ H Q):tOp R (RE K f) (RE K g) σ H Q:=by
 obtain ⟨Oo,c,t,fi,r,t',eq,k⟩:=q
 obtain ⟨dx,t1,e1,eq⟩:=Aq eq
 obtain ⟨dy,t2,e2,eq⟩:=Aq eq
 exact ⟨Oo,c,t,fi,dx,t1,e1,fun x H1 c1 f1 s1 rx=>⟨Oo,c1,t1,f1,dy,t2,e2,fun y H2 c2 f2 s2 ry=>s f2 (rx.mono s2.ext) ry eq fun p vs H' c' f' s' rv hp=>k p vs H' c' f' ((s1.trans s2).trans s') rv hp⟩⟩
end
section
variable {X:Cx} {e a b:Expr} {pos:Pos} {st:Stmt} {sts:List Stmt}
def Aw (f g:M Out):M Out:=fun t=>match f t with
 | some (.next,t1)=>g t1
 | z=>z
def Ba:M Out:=ret .next
theorem AK {μ:Cf→Hp→D→(V→Hp→Prop)→Prop}:PSs X [] (RSg X.K μ Ba):=Mu Sd fun E σ H ⟨Oo,c,t,fi,o,t',eq,k⟩=>by
 cases eq
 exact k σ H c fi .refl
theorem Aj {μ:Cf→Hp→D→(V→Hp→Prop)→Prop} {f g:M Out} (h1:PS X st (RSg X.K μ f)) (h2:PSs X sts (RSg X.K μ g)):PSs X (st :: sts) (RSg X.K μ (Aw f g)):=
 Mu (Qd h1 h2) fun E σ H ⟨Oo,c,t,fi,o,t',eq,k⟩=>by
  unfold Aw at eq
  cases e1:f t with
  | none=>rw [e1] at eq;cases eq
  | some p=>
    obtain ⟨o1,t1⟩:=p
    rw [e1] at eq
    refine ⟨Oo,c,t,fi,o1,t1,e1,fun σ1 H1 c1 f1 s1=>?_⟩
    cases o1 with
    | next=>exact ⟨Oo,c1,t1,f1,o,t',eq,fun σ2 H2 c2 f2 s2=>k σ2 H2 c2 f2 (s1.trans s2)⟩
    | brk=>cases eq;exact k σ1 H1 c1 f1 s1
    | cont=>cases eq;exact k σ1 H1 c1 f1 s1
    | ret d=>cases eq;exact k σ1 H1 c1 f1 s1
theorem Ao {μ:Cf→Hp→D→(V→Hp→Prop)→Prop} {f:M Out} (h1:PS X st (RSg X.K μ f)):PSs X [st] (RSg X.K μ f):=Jy h1
def AU (f:M D):M Out:=bnd f fun d=>ret (.ret d)
theorem AE {f:M D} (h:PE X e (RE X.K f)):PS X (.Return (some e) pos) (RS X.K (AU f)):=
 B9 (Iz h) fun E σ H ⟨Oo,c,t,fi,o,t',eq,k⟩=>by
  obtain ⟨d,t1,e1,eq⟩:=Aq eq
  cases eq
  exact ⟨Oo,c,t,fi,d,_,e1,fun v H1 c1 f1 s1 rv=>k σ H1 c1 f1 s1 v rv⟩
def H9 (f:M D):M Out:=bnd f fun _=>ret .next
theorem Rn {μ:Cf→Hp→D→(V→Hp→Prop)→Prop} {f:M D} (h:PE X e (RE X.K f)) (hs:swapsWith e none pos.line X.env=pure false:=by rfl):PS X (.Expr e pos) (RSg X.K μ (H9 f)):=
 B9 (GQ h hs) fun E σ H ⟨Oo,c,t,fi,o,t',eq,k⟩=>by
  obtain ⟨d,t1,e1,eq⟩:=Aq eq
  cases eq
  exact ⟨Oo,c,t,fi,d,_,e1,fun v H1 c1 f1 s1 rv=>k σ H1 c1 f1 s1⟩
def ifS (f:M Bool) (g h:M Out):M Out:=bnd f fun k=>if k=true then g else h
theorem Bd {μ:Cf→Hp→D→(V→Hp→Prop)→Prop} {f:M Bool} {g h:M Out} {sa sb:List Stmt} (hc:PT X e (RT X.K f)) (ha:PSs X sa (RSg X.K μ g)) (hb:PSs X sb (RSg X.K μ h)):PS X (.If e sa sb pos) (RSg X.K μ (ifS f g h)):=
 B9 (U1 hc ha hb) fun E σ H ⟨Oo,c,t,fi,o,t',eq,k⟩=>by
  obtain ⟨kb,t1,e1,eq⟩:=Aq eq
  refine ⟨Oo,c,t,fi,kb,t1,e1,fun H1 c1 f1 s1=>?_⟩
  cases kb with
  | true=>rw [if_pos rfl] at eq ⊢;exact ⟨Oo,c1,t1,f1,o,t',eq,fun σ2 H2 c2 f2 s2=>k σ2 H2 c2 f2 (s1.trans s2)⟩
  | false=>rw [if_neg Bool.false_ne_true] at eq ⊢;exact ⟨Oo,c1,t1,f1,o,t',eq,fun σ2 H2 c2 f2 s2=>k σ2 H2 c2 f2 (s1.trans s2)⟩
def BL (i:Nat) (d:D):M Unit:=fun t=>some ((),{ t with env:=t.env.set i (some (.val d)) })
def A8 (i:Nat) (f:M D):M Out:=bnd f fun d=>bnd (BL i d) fun _=>ret .next
theorem RS.set {μ:Cf→Hp→D→(V→Hp→Prop)→Prop} {K:PySem.W.Frag} {i:Nat} {f:M D} {E:Ends} {σ:L2.St} {H:Hp} (q:RSg K μ (A8 i f) E σ H):NL (RE K f) (Kr i) E σ H:=by
 obtain ⟨Oo,c,t,fi,o,t',eq,k⟩:=q
 obtain ⟨d,t1,e1,eq⟩:=Aq eq
 cases eq
 exact ⟨Oo,c,t,fi,d,t1,e1,fun v H1 c1 f1 s1 rv=>k _ H1 c1 (f1.set rv) s1⟩
theorem AI {μ:Cf→Hp→D→(V→Hp→Prop)→Prop} {i:Nat} {x:Str} {f:M D} {pos':Pos} (hN:X.N.Nodup) (hi:X.N[i]?=some x) (hx:Loc X.env.scope x) (he:PE X e (RE X.K f)) (hs:swapsWith e (some (.Name x pos')) pos.line X.env=pure false:=by rfl) (hf:X.fn x=true∨X.env.scope.names.lookup x=some .local:=by first | exact .inl rfl | exact .inr rfl | assumption) :
 PS X (.Assign [.Name x pos'] e pos) (RSg X.K μ (A8 i f)):=B9 (LL hN hi hx he hs hf) fun _ _ _ q=>RS.set q
def Ep (i:Nat) (f:M (List D)):M Out:=bnd f fun ds t=>some (.next,{ t with env:=t.env.set i (some (.own ds)) })
theorem RS.own {μ:Cf→Hp→D→(V→Hp→Prop)→Prop} {K:PySem.W.Frag} {i:Nat} {f:M (List D)} {E:Ends} {σ:L2.St} {H:Hp} (q:RSg K μ (Ep i f) E σ H):NL (RF K f) (Kr i) E σ H:=by
 obtain ⟨Oo,c,t,fi,o,t',eq,k⟩:=q
 obtain ⟨ds,t1,e1,eq⟩:=Aq eq
 cases eq
 refine ⟨Oo,c,t,fi,ds,t1,e1,fun p vs H1 c1 f1 s1 rv hp=>?_⟩
 obtain ⟨c2,f2,s2⟩:=f1.setOwn (i:=i) hp rv
 exact k _ _ c2 f2 (s1.trans s2)
theorem Fl {μ:Cf→Hp→D→(V→Hp→Prop)→Prop} {i:Nat} {x:Str} {f:M (List D)} {pos':Pos} (hN:X.N.Nodup) (hi:X.N[i]?=some x) (hx:Loc X.env.scope x) (he:PE X e (RF X.K f)) (hs:swapsWith e (some (.Name x pos')) pos.line X.env=pure false:=by rfl) (hf:X.fn x=true∨X.env.scope.names.lookup x=some .local:=by first | exact .inl rfl | exact .inr rfl | assumption) :
 PS X (.Assign [.Name x pos'] e pos) (RSg X.K μ (Ep i f)):=B9 (LL hN hi hx he hs hf) fun _ _ _ q=>RS.own q
theorem Bu {i:Nat} {x:Str} (hN:X.N.Nodup) (hi:X.N[i]?=some x) (hx:Loc X.env.scope x) (hf:X.fn x=true∨X.env.scope.names.lookup x=some .local:=by first | exact .inl rfl | exact .inr rfl | assumption):PG X (.Name x pos) (RG X.K (BL i)):=
 KH (R6 hN hi hx hf) fun v σ H Q ⟨Oo,c,t,d,fi,rv,t',eq,k⟩=>by
  cases eq
  exact k _ H c (fi.set rv) .refl
def En (f:M D) (g:D→M Unit):M Out:=bnd f fun d=>bnd (g d) fun _=>ret .next
theorem Ej {μ:Cf→Hp→D→(V→Hp→Prop)→Prop} {tg:Expr} {f:M D} {g:D→M Unit} (he:PE X e (RE X.K f)) (hg:PG X tg (RG X.K g)) (hs:swapsWithSole [tg] e pos.line X.env=pure false:=by rfl) (hw:swappedStores [tg] e X.env=pure none:=by rfl) (hp:(assignEach [tg] X.env).map (·.2)=[assign tg X.env]:=by rfl) :
 PS X (.Assign [tg] e pos) (RSg X.K μ (En f g)):=
 B9 (by first | exact ON he hg hs hw | exact ON he hg hs hw hp) fun E σ H ⟨Oo,c,t,fi,o,t',eq,k⟩=>by
  obtain ⟨d,t1,e1,eq⟩:=Aq eq
  obtain ⟨u,t2,e2,eq⟩:=Aq eq
  cases eq
  exact ⟨Oo,c,t,fi,d,t1,e1,fun v H1 c1 f1 s1 rv=>⟨Oo,c1,t1,d,f1,rv,_,e2,fun σ2 H2 c2 f2 s2=>k σ2 H2 c2 f2 (s1.trans s2)⟩⟩
def RGs (K:PySem.W.Frag) (f:List D→M Unit):TGs:=fun vs σ H Q=>∃Oo c t ds,FInv K Oo c t σ H∧Reps K c H vs ds∧∃t',f ds t=some ((),t')∧∀σ' H' c',FInv K Oo c' t' σ' H'→Stp Oo c H c' H'→Q σ' H'
theorem Mt {ts:List Expr} {t t':TGs} (h:PGs X ts t) (i:∀v σ H Q,t' v σ H Q→t v σ H Q):PGs X ts t':=fun pins s σ H vs us Q I r q=>h pins s σ H vs us Q I r (i vs σ H Q q)
def EO:List D→M Unit
 | []=>ret ()
 | _=>fail
def B5 (f:D→M Unit) (g:List D→M Unit):List D→M Unit
 | d :: ds=>bnd (f d) fun _=>g ds
 | []=>fail
theorem GI:PGs X [] (RGs X.K EO):=Mt R7 fun vs σ H Q ⟨Oo,c,t,ds,fi,rv,t',eq,k⟩=>by
 cases rv with
 | nil=>cases eq;exact ⟨rfl,k σ H c fi .refl⟩
 | cons _ _=>cases eq
theorem RGs.cons {K:PySem.W.Frag} {f:D→M Unit} {g:List D→M Unit} {vs:List V} {σ:L2.St} {H:Hp} {Q:L2.St→Hp→Prop} (q:RGs K (B5 f g) vs σ H Q):QE (RG K f) (RGs K g) vs σ H Q:=by
 obtain ⟨Oo,c,t,ds,fi,rv,t',eq,k⟩:=q
 cases rv with
 | nil=>cases eq
 | cons r rs=>
   obtain ⟨u,t1,e1,eq⟩:=Aq eq
   exact ⟨_,_,rfl,Oo,c,t,_,fi,r,t1,e1,fun σ1 H1 c1 f1 s1=>⟨Oo,c1,t1,_,f1,rs.mono s1.ext,t',eq,fun σ2 H2 c2 f2 s2=>k σ2 H2 c2 f2 (s1.trans s2)⟩⟩
def unT (n:Nat) (g:List D→M Unit):D→M Unit
 | .tup ds=>if ds.length=n then g ds else fail
 | _=>fail
def C2 (st:D→M Unit) (b:M Out):List D→M Out
 | []=>ret .next
 | d :: r=>fun t=>match st d t with
   | none=>none
   | some (_,t1)=>match b t1 with
     | some (.next,t2)=>C2 st b r t2
     | some (.cont,t2)=>C2 st b r t2
     | some (.brk,t2)=>some (.next,t2)
     | some (.ret x,t2)=>some (.ret x,t2)
     | none=>none
def Db (f:M (List D)) (st:D→M Unit) (b:M Out):M Out:=bnd f fun ds=>C2 st b ds
theorem RS.for {μ:Cf→Hp→D→(V→Hp→Prop)→Prop} {K:PySem.W.Frag} {f:M (List D)} {g:D→M Unit} {b:M Out} {E:Ends} {σ:L2.St} {H:Hp} (q:RSg K μ (Db f g b) E σ H):Uo (RI K f) (RG K g) (RSg K μ b) E σ H:=by
 obtain ⟨Oo,c,t,fi,o,t',eq,k⟩:=q
 obtain ⟨ds,t1,e1,eq⟩:=Aq eq
 refine ⟨Oo,c,t,fi,ds,t1,e1,fun J H1 c1 f1 s1 it=>?_⟩
 refine ⟨fun i m σ' H'=>m=ds.length - i∧i≤ds.length∧∃c' t2,FInv K Oo c' t2 σ' H'∧Stp Oo c1 H1 c' H'∧C2 g b (ds.drop i) t2=some (o,t'),⟨_,rfl,Nat.zero_le _,c1,t1,f1,.refl,by rw [List.drop_zero];exact eq⟩,?_⟩
 rintro i m σ' H' ⟨rfl,hi,c',t2,f2,s2,e2⟩
 by_cases hlt:i < ds.length
 ·refine .inr ⟨it.go c' H' i s2.ext hlt,fun σ3 H3=>∃c3 t3,FInv K Oo c3 t3 σ3 H3∧Stp Oo c1 H1 c3 H3∧C2 g b (ds.drop (i + 1)) t3=some (o,t'),fun σ3 H3 h=>⟨ds.length - (i + 1),by lia,rfl,hlt,h⟩,fun x H'' hy=>?_⟩
  obtain ⟨rfl,rx⟩:=it.yld c' H' i x H'' _ s2.ext (List.getElem?_eq_getElem hlt) hy
  rw [List.drop_eq_getElem_cons hlt] at e2
  unfold C2 at e2
  cases e3:g ds[i] t2 with
  | none=>rw [e3] at e2;cases e2
  | some p=>
    obtain ⟨u,t3⟩:=p
    rw [e3] at e2
    try dsimp only at e2
    refine ⟨Oo,c',t2,_,f2,rx,t3,e3,fun σ3 H3 c3 f3 s3=>?_⟩
    cases e4:b t3 with
    | none=>rw [e4] at e2;cases e2
    | some p=>
      obtain ⟨o4,t4⟩:=p
      rw [e4] at e2
      try dsimp only at e2
      refine ⟨Oo,c3,t3,f3,o4,t4,e4,fun σ5 H5 c5 f5 s5=>?_⟩
      have s':=(s2.trans s3).trans s5
      cases o4 with
      | next=>exact ⟨c5,t4,f5,s',e2⟩
      | cont=>exact ⟨c5,t4,f5,s',e2⟩
      | brk=>cases e2;exact k σ5 H5 c5 f5 (s1.trans s')
      | ret r=>cases e2;exact k σ5 H5 c5 f5 (s1.trans s')
 ·have hi':i=ds.length:=by lia
  subst hi'
  rw [List.drop_length] at e2
  cases e2
  exact .inl ⟨it.stop c' H' s2.ext,k σ' H' c' f2 (s1.trans s2)⟩
theorem Du {μ:Cf→Hp→D→(V→Hp→Prop)→Prop} {tg iter:Expr} {body:List Stmt} {f:M (List D)} {g:D→M Unit} {b:M Out} (hp:PassesOwn (model X.prog X.w) X.A X.env X.xe) (hc:X.calm=true) (hi:PI X tg iter (RI X.K f)) (hg:PG X tg (RG X.K g)) (hb:PSs X body (RSg X.K μ b))
 (hs:∀x,foldedSetIterable iter X.env x=pure x:=by intro _;rfl):PS X (.For tg iter body [] pos) (RSg X.K μ (Db f g b)):=
 B9 (TX hp hc hi hg hb hs) fun _ _ _ q=>RS.for q
theorem ItOk.lst {K:PySem.W.Frag} {c:Cf} {H:Hp} {p:Addr} {ds:List D} (r:∀c' H',Ext c H c' H'→∃vs,SqL K H' p vs∧Reps K c' H' vs ds):ItOk K (Itl K p) c H ds:=by
 refine ⟨fun c' H' i ex hi=>?_,fun c' H' i x H'' d ex hd hy=>?_,fun c' H' ex=>?_⟩
 ·obtain ⟨vs,h1,h2⟩:=r c' H' ex
  obtain ⟨v,e,_⟩:=h2.at (List.getElem?_eq_getElem hi)
  exact ⟨vs,v,h1,e⟩
 ·obtain ⟨vs,h1,h2⟩:=r c' H' ex
  obtain ⟨rfl,h⟩:=hy
  exact ⟨rfl,h2.get (h vs h1) hd⟩
 ·obtain ⟨vs,h1,h2⟩:=r c' H' ex
  exact ⟨vs,h1,by rw [h2.length];exact Nat.le_refl _⟩
theorem ItOk.tup {K:PySem.W.Frag} {c:Cf} {H:Hp} {p:Addr} {ds:List D} (r:∀c' H',Ext c H c' H'→∃vs,SqT K H' p vs∧Reps K c' H' vs ds):ItOk K (Itt K p) c H ds:=by
 refine ⟨fun c' H' i ex hi=>?_,fun c' H' i x H'' d ex hd hy=>?_,fun c' H' ex=>?_⟩
 ·obtain ⟨vs,h1,h2⟩:=r c' H' ex
  obtain ⟨v,e,_⟩:=h2.at (List.getElem?_eq_getElem hi)
  exact ⟨vs,v,h1,e⟩
 ·obtain ⟨vs,h1,h2⟩:=r c' H' ex
  obtain ⟨rfl,h⟩:=hy
  exact ⟨rfl,h2.get (h vs h1) hd⟩
 ·obtain ⟨vs,h1,h2⟩:=r c' H' ex
  exact ⟨vs,h1,by rw [h2.length];exact Nat.le_refl _⟩
end
theorem FInv.leave {K:PySem.W.Frag} {Oo:Addr→Prop} {c:Cf} {t:T} {σ:L2.St} {H:Hp} (f:FInv K Oo c t σ H):SInv K ⟨c.ι,Oo⟩ t.S H∧Ext c H ⟨c.ι,Oo⟩ H:=by
 have ext:Ext c H ⟨c.ι,Oo⟩ H:=⟨fun _ _ e _=>e,fun b o _ z=>z.elim .inl fun w=>.inr (f.sub b w),fun _ _ e=>e⟩
 exact ⟨⟨f.s.len,f.s.nd,fun k a o e1 e2=>(f.s.obs k a o e1 e2).mono ext rfl,fun b z=>f.s.trk b (f.sub b z),fun b z=>f.s.dis b (f.sub b z)⟩,ext⟩
def env0 (m:Nat) (ds:List D):List (Option Sl):=ds.map (fun d=>some (.val d))++List.replicate (m - ds.length) none
def fnOf (n m:Nat) (g:M Out):Fn:=fun ds S=>if ds.length=n then (match g ⟨env0 m ds,S⟩ with
 | some (.ret r,t)=>some (r,t.S)
 | some (.next,t)=>some (.non,t.S)
 | _=>none) else none
theorem FL {K:PySem.W.Frag} {c:Cf} {S:List Ob} {H:Hp} {vs:List V} {ds:List D} {N:List Str} (s:SInv K c S H) (r:Reps K c H vs ds):FInv K c.O c ⟨env0 N.length ds,S⟩ (L2.DB N vs) H:=by
 have hlen:vs.length=ds.length:=r.length
 have none_:∀{i:Nat} {x:Sl},(env0 N.length ds)[i]?=some (some x)→∃d,ds[i]?=some d∧x = .val d:=fun {i x} q=>by
  unfold env0 at q
  by_cases hi:i < ds.length
  ·rw [List.getElem?_append_left (by simpa using hi),List.getElem?_map,List.getElem?_eq_getElem hi] at q
   simp at q
   exact ⟨ds[i],List.getElem?_eq_getElem hi,q.symm⟩
  ·rw [List.getElem?_append_right (by simpa using hi),List.getElem?_replicate] at q
   split at q <;> simp at q
 refine ⟨s,by simp [env0,L2.DB,hlen],fun _ z=>z,fun i d q=>?_,fun i es q=>?_,fun i j es _ a q _ _ _=>?_⟩
 ·obtain ⟨d',h1,h2⟩:=none_ q
  cases h2
  obtain ⟨v,h3,h4⟩:=r.at h1
  refine ⟨v,?_,h4⟩
  unfold L2.DB
  have hi:=(List.getElem?_eq_some_iff.mp h3).1
  rw [List.getElem?_append_left (by simpa using hi),List.getElem?_map,h3]
  rfl
 ·obtain ⟨_,_,h2⟩:=none_ q;cases h2
 ·obtain ⟨_,_,h2⟩:=none_ q;cases h2
theorem UL {P:Program} {w:World} {K:PySem.W.Frag} {mg:Str→Option Value} {base:Heap} {x qual:Str} {st:Stmt} {fa:Addr} {fd:FuncData} {N ps:List Str} {k:Nat} {g:M Out} (F:Fun K x qual st fa fd) (S:FnScope N ps (Av st))
 (hb:∀(cdv:Value) (A:Around) (outer:List Env) (s:Shared) (H:Hp) (E:XK),Room k (A.deeper (PyProof.Rows.envOfC qual (Av st) s.heap.objs.size fa cdv))→
   PSs (DY CX0 P w K mg base N qual (Av st) fa cdv A outer s H E).nox (B3 st) (RS K g)):FnOk P w K mg base CX0 (k + 1) fa fd ps (spF K (fnOf ps.length N.length g)):=by
 have hlen:∀{ds:List D} {S:List Ob} {z:D×List Ob},fnOf ps.length N.length g ds S=some z→ds.length=ps.length:=fun {ds S z} h=>by
  unfold fnOf at h
  split at h
  ·next h1=>exact h1
  ·cases h
 refine F.ok S (fun vs H Q E h=>?_) (fun cdv A outer s H vs Q E hr h=>?_)
 ·obtain ⟨c,ds,S,si,rs,r,S',e,_⟩:=h
  rw [rs.length];exact hlen e
 obtain ⟨c,ds,S0,si,rs,r,S',e,kk⟩:=h
 refine ⟨RS K g,hb cdv A outer s H E hr,?_⟩
 have hl:=hlen e
 unfold fnOf at e
 rw [if_pos hl] at e
 cases eg:g ⟨env0 N.length ds,S0⟩ with
 | none=>rw [eg] at e;cases e
 | some p=>
   obtain ⟨o,t⟩:=p
   rw [eg] at e
   refine ⟨c.O,c,_,FL si rs,o,t,eg,fun σ' H' c' f' s'=>?_⟩
   obtain ⟨si',ext'⟩:=f'.leave
   have st':Stp c.O c H ⟨c'.ι,c.O⟩ H':=⟨s'.ext.trans ext',s'.oo⟩
   cases o with
   | next=>cases e;exact kk .non H' _ si' st' (fun _=>Iff.rfl) .non
   | ret d=>cases e;exact fun v rv=>kk v H' _ si' st' (fun _=>Iff.rfl) (rv.mono ext')
   | brk=>cases e
   | cont=>cases e
section
variable {X:Cx} {e a b:Expr} {pos:Pos}
def items:D→M (List D)
 | .lst ds=>ret ds
 | .tup ds=>ret ds
 | .scr ns=>ret (ns.map .int)
 | _=>fail
def rngL (lo:Int) (n:Nat):List D:=(List.range n).map fun i=>.int (lo + (i:Nat))
theorem ItOk.rng {K:PySem.W.Frag} {c:Cf} {H:Hp} {lo:Int} {n:Nat}:ItOk K (Itr lo n) c H (rngL lo n):=by
 refine ⟨fun c' H' i ex hi=>?_,fun c' H' i x H'' d ex hd hy=>?_,fun c' H' ex=>?_⟩
 ·have:i < n:=by simpa [rngL] using hi
  exact this
 ·obtain ⟨rfl,rfl⟩:=hy
  refine ⟨rfl,?_⟩
  have hi:i < n:=by
   have:=(List.getElem?_eq_some_iff.mp hd).1
   simpa [rngL] using this
  have:d = .int (lo + (i:Nat)):=by
   rw [rngL,List.getElem?_map,List.getElem?_range hi] at hd
   simpa using hd.symm
  rw [this]
  exact .int _
 ·show n≤(rngL lo n).length
  simp [rngL]
def B1 (i:Int):Bool:=decide (-(2 ^ 62)≤i) && decide (i < 2 ^ 62)
def JA:List D→M (List D)
 | [.int j]=>fun t=>if B1 j=true then some (rngL 0 j.toNat,t) else none
 | _=>fail
def JB:List D→M (List D)
 | [.int i,.int j]=>fun t=>if (B1 i && B1 j)=true then some (rngL i (j - i).toNat,t) else none
 | _=>fail
def CO (f:M (List D)):M (List D):=bnd f JA
def E5 (f:M (List D)):M (List D):=bnd f JB
theorem DN {i:Int} (h:B1 i=true) : -(2 ^ 62)≤i∧i < 2 ^ 62:=by
 unfold B1 at h
 rw [Bool.and_eq_true] at h
 exact ⟨of_decide_eq_true h.1,of_decide_eq_true h.2⟩
theorem Og {tg:Expr} {f:M (List D)} {p:Pos} (hg:Gl X "range") (hm:X.mg "range" = none) (ha:PA X [a] (RA X.K f)) (hs:starEach [a] X.env=[(false,eval a X.env)]:=by rfl):PI X tg (.Call (.Name "range" p) [a] [] pos) (RI X.K (CO f)):=
 KJ (OI hg hm ha hs) fun σ H R ⟨Oo,c,t,fi,ds,t',eq,k⟩=>by
  obtain ⟨xs,t1,e1,eq⟩:=Aq eq
  refine ⟨Oo,c,t,fi,xs,t1,e1,fun vs H1 c1 f1 s1 rv=>?_⟩
  unfold JA at eq
  split at eq
  ·next j=>
   split at eq
   ·next hs=>
    cases eq
    cases rv with
    | cons r rs=>
      cases rs
      cases r
      obtain ⟨h1,h2⟩:=DN hs
      exact ⟨j,rfl,h1,h2,k _ H1 c1 f1 s1 ItOk.rng⟩
   ·cases eq
  ·cases eq
theorem Oh {tg:Expr} {f:M (List D)} {p:Pos} (hg:Gl X "range") (hm:X.mg "range" = none) (ha:PA X [a,b] (RA X.K f)) (hs:starEach [a,b] X.env=[(false,eval a X.env),(false,eval b X.env)]:=by rfl) (hs2:starEach [b] X.env=[(false,eval b X.env)]:=by rfl):PI X tg (.Call (.Name "range" p) [a,b] [] pos) (RI X.K (E5 f)):=
 KJ (OJ hg hm ha hs hs2) fun σ H R ⟨Oo,c,t,fi,ds,t',eq,k⟩=>by
  obtain ⟨xs,t1,e1,eq⟩:=Aq eq
  refine ⟨Oo,c,t,fi,xs,t1,e1,fun vs H1 c1 f1 s1 rv=>?_⟩
  unfold JB at eq
  split at eq
  ·next i j=>
   split at eq
   ·next hs=>
    cases eq
    rw [Bool.and_eq_true] at hs
    cases rv with
    | cons r rs=>
      cases r
      cases rs with
      | cons r rs=>
        cases rs
        cases r
        obtain ⟨h1,h2⟩:=DN hs.1
        obtain ⟨h3,h4⟩:=DN hs.2
        exact ⟨i,j,rfl,⟨h1,h2,h3,h4⟩,k _ H1 c1 f1 s1 ItOk.rng⟩
   ·cases eq
  ·cases eq
def CH (st:D→M Unit) (tst:M Bool) (elt:M D):List D→M (List D)
 | []=>ret []
 | d :: r=>bnd (st d) fun _=>bnd tst fun k=>if k=true then bnd elt fun x=>bnd (CH st tst elt r) fun xs=>ret (x :: xs) else CH st tst elt r
def Vh:Option (Option Sl)→Option Sl
 | some (some (.val d))=>some (.val d)
 | _=>none
def cenv (n:Nat) (fr:List Nat) (env:List (Option Sl)):List (Option Sl):=List.replicate n none++fr.map fun i=>Vh env[i]?
def Gc (n:Nat) (fr:List Nat) (σ:L2.St):L2.St:=List.replicate n none++fr.map fun i=>(σ[i]?).join
def DR (n:Nat) (fr:List Nat) (f:M (List D)) (st:D→M Unit) (tst:M Bool) (elt:M D):M (List D):=bnd f fun ds t=>match CH st tst elt ds ⟨cenv n fr t.env,t.S⟩ with
 | some (xs,t')=>if xs.length≤LIM then some (xs,{ t with S:=t'.S }) else none
 | none=>none
theorem Hk {n:Nat} {fr:List Nat} {env:List (Option Sl)} {j:Nat} {x:Sl} (h:(cenv n fr env)[j]?=some (some x)):∃i d,n≤j∧fr[j - n]?=some i∧env[i]?=some (some (.val d))∧x = .val d:=by
 unfold cenv at h
 by_cases hj:j < n
 ·rw [List.getElem?_append_left (by simpa using hj),List.getElem?_replicate] at h
  split at h <;> simp at h
 ·rw [List.getElem?_append_right (by simpa using hj),List.length_replicate,List.getElem?_map] at h
  cases e:fr[j - n]? with
  | none=>rw [e] at h;simp at h
  | some i=>
    rw [e] at h
    simp only [Option.map_some,Option.some.injEq] at h
    cases e2:env[i]? with
    | none=>rw [e2] at h;cases h
    | some o=>
      cases o with
      | none=>rw [e2] at h;cases h
      | some sl=>
        cases sl with
        | own _=>rw [e2] at h;cases h
        | val d=>rw [e2] at h;cases h;exact ⟨i,d,by lia,rfl,e2,rfl⟩
theorem Nm {K:PySem.W.Frag} {Oo:Addr→Prop} {c:Cf} {t:T} {σ:L2.St} {H:Hp} {n:Nat} {fr:List Nat} (f:FInv K Oo c t σ H):FInv K c.O c ⟨cenv n fr t.env,t.S⟩ (Gc n fr σ) H:=by
 refine ⟨f.s,by simp [cenv,Gc],fun _ z=>z,fun j d q=>?_,fun j es q=>?_,fun j _ es _ _ q _ _ _=>?_⟩
 ·obtain ⟨i,d',h0,h1,h2,h3⟩:=Hk q
  cases h3
  obtain ⟨v,h4,h5⟩:=f.val i d h2
  refine ⟨v,?_,h5⟩
  unfold Gc
  rw [List.getElem?_append_right (by simpa using h0),List.length_replicate,List.getElem?_map,h1]
  simp [h4]
 ·obtain ⟨_,_,_,_,_,h⟩:=Hk q;cases h
 ·obtain ⟨_,_,_,_,_,h⟩:=Hk q;cases h
theorem RF.comp {K:PySem.W.Frag} {n:Nat} {fr:List Nat} {f:M (List D)} {st:D→M Unit} {tst:M Bool} {elt:M D} {σ:L2.St} {H:Hp} {Q:VK} (q:RF K (DR n fr f st tst elt) σ H Q):QS (RI K f) (RG K st) (RT K tst) (RE K elt) (Gc n fr) σ H Q:=by
 obtain ⟨Oo,c,t,fi,xs,t',eq,k⟩:=q
 obtain ⟨ds,t1,e1,eq⟩:=Aq eq
 refine ⟨Oo,c,t,fi,ds,t1,e1,fun J H1 c1 f1 s1 it=>?_⟩
 cases e3:CH st tst elt ds ⟨cenv n fr t1.env,t1.S⟩ with
 | none=>rw [e3] at eq;cases eq
 | some p=>
   obtain ⟨ys,t3⟩:=p
   rw [e3] at eq
   dsimp only at eq
   split at eq
   case isFalse=>cases eq
   next hl=>
   cases eq
   refine ⟨fun i m acc σ' H'=>m=ds.length - i∧i≤ds.length∧∃c' t2 zs rest,FInv K c1.O c' t2 σ' H'∧Stp c1.O c1 H1 c' H'∧Reps K c' H' acc zs∧CH st tst elt (ds.drop i) t2=some (rest,t3)∧xs=zs++rest,
    ⟨_,rfl,Nat.zero_le _,c1,_,[],xs,Nm f1,.refl,.nil,by rw [List.drop_zero];exact e3,rfl⟩,?_⟩
   rintro i m acc σ' H' ⟨rfl,hi,c',t2,zs,rest,f2,s2,ra,e2,ez⟩
   have hacc:acc.length≤sizeLine:=by
    have:zs.length≤xs.length:=by rw [ez,List.length_append];exact Nat.le_add_right _ _
    rw [ra.length]
    exact Nat.le_trans this (Nat.le_trans hl Cm)
   refine ⟨hacc,?_⟩
   by_cases hlt:i < ds.length
   ·refine .inr ⟨it.go c' H' i s2.ext hlt,fun x H'' hy=>?_⟩
    obtain ⟨rfl,rx⟩:=it.yld c' H' i x H'' _ s2.ext (List.getElem?_eq_getElem hlt) hy
    rw [List.drop_eq_getElem_cons hlt] at e2
    unfold CH at e2
    obtain ⟨u,t4,e4,e2⟩:=Aq e2
    obtain ⟨kb,t5,e5,e2⟩:=Aq e2
    refine ⟨c1.O,c',t2,_,f2,rx,t4,e4,fun σ3 H3 c3 f3 s3=>⟨c1.O,c3,t4,f3,kb,t5,e5,fun H4 c4 f4 s4=>?_⟩⟩
    cases kb with
    | false=>
      rw [if_neg Bool.false_ne_true] at e2 ⊢
      exact ⟨ds.length - (i + 1),by lia,rfl,hlt,c4,t5,zs,rest,f4,(s2.trans s3).trans s4,ra.mono (s3.trans s4).ext,e2,ez⟩
    | true=>
      rw [if_pos rfl] at e2 ⊢
      obtain ⟨x6,t6,e6,e2⟩:=Aq e2
      obtain ⟨r7,t7,e7,e2⟩:=Aq e2
      cases e2
      refine ⟨c1.O,c4,t5,f4,x6,t6,e6,fun v H5 c5 f5 s5 rv=>?_⟩
      exact ⟨ds.length - (i + 1),by lia,rfl,hlt,c5,t6,zs++[x6],r7,f5,((s2.trans s3).trans s4).trans s5,(ra.mono ((s3.trans s4).trans s5).ext).append (.cons rv .nil),e7,by rw [ez,List.append_assoc];rfl⟩
   ·have hi':i=ds.length:=by lia
    subst hi'
    rw [List.drop_length] at e2
    cases e2
    refine .inl ⟨it.stop c' H' s2.ext,fun p hp _=>?_⟩
    obtain ⟨si,ext⟩:=f2.leave
    obtain ⟨f6,s6⟩:=f1.after si ⟨s2.ext.trans ext,s2.oo⟩ (fun _=>Iff.rfl)
    rw [List.append_nil] at ez
    subst ez
    exact k p acc H' _ f6 (s1.trans s6) (ra.mono ext) hp
end
end F2
namespace F2
open PySem L2 PySem.Spec PySem.SeqAt
def eq0:D→D→Option Bool
 | .int a,.int b=>some (a == b)
 | .str a,.str b=>some (a == b)
 | .bl a,.bl b=>some (a == b)
 | .non,.non=>some true
 | .int _,.str _=>some false
 | .str _,.int _=>some false
 | _,_=>none
def C1 (f:D→D→Option Bool):List D→List D→Option Bool
 | x :: xs,y :: ys=>match f x y,C1 f xs ys with
   | some a,some b=>some (a && b)
   | _,_=>none
 | _,_=>some true
def eqN:Nat→D→D→Option Bool
 | 0,x,y=>eq0 x y
 | n + 1,.tup xs,.tup ys=>(C1 (eqN n) xs ys).map fun b=>b && xs.length == ys.length
 | n + 1,.lst xs,.lst ys=>if xs.length=ys.length then C1 (eqN n) xs ys else some false
 | _ + 1,x,y=>eq0 x y
def ej (f:D→D→Option Bool) (xs ys:List D) (j:Nat):Bool:=match xs[j]?,ys[j]? with
 | some d,some e=>(f d e).getD true
 | _,_=>true
theorem C7 {f:D→D→Option Bool}:∀{xs ys:List D} {b:Bool},C1 f xs ys=some b→b=(List.range (min xs.length ys.length)).all (ej f xs ys)∧∀(j:Nat) d e,xs[j]?=some d→ys[j]?=some e→∃k,f d e=some k
 | [],ys,b,h=>by
   have h:some true=some b:=by simpa [C1] using h
   cases h
   refine ⟨by simp,fun j d e q _=>by simp at q⟩
 | x :: xs,[],b,h=>by
   have h:some true=some b:=by simpa [C1] using h
   cases h
   refine ⟨by simp,fun j d e _ q=>by simp at q⟩
 | x :: xs,y :: ys,b,h=>by
   unfold C1 at h
   cases e1:f x y with
   | none=>rw [e1] at h;cases h
   | some a=>
     cases e2:C1 f xs ys with
     | none=>rw [e1,e2] at h;cases h
     | some c=>
       rw [e1,e2] at h
       cases h
       obtain ⟨h1,h2⟩:=C7 e2
       refine ⟨?_,fun j d e q1 q2=>?_⟩
       ·have hm:min (x :: xs).length (y :: ys).length=min xs.length ys.length + 1:=by simp [Nat.succ_min_succ]
        rw [hm,List.range_succ_eq_map,List.all_cons,List.all_map,h1]
        have:ej f (x :: xs) (y :: ys) 0=a:=by simp [ej,e1]
        rw [this]
        rfl
       ·cases j with
        | zero=>simp at q1 q2;subst q1 q2;exact ⟨a,e1⟩
        | succ j=>exact h2 j d e (by simpa using q1) (by simpa using q2)
theorem FN {P:Program} {w:World} {H:Hp} {h:Heap} {a:Addr} {vs:List V} (o:HOk P w H h) (e:H a=some (.lst vs)):∃its:List Value,Vals vs its∧h.IsList a its.toArray:=by
 obtain ⟨_,its,n,r,q⟩:=o a _ e
 exact ⟨its,r,_,q,rfl,n,rfl⟩
theorem GK {P:Program} {w:World} {H:Hp} {h:Heap} {a:Addr} {vs:List V} (o:HOk P w H h) (e:H a=some (.tup vs)):∃its:List Value,Vals vs its∧h.IsTuple a its.toArray:=by
 obtain ⟨_,its,r,q⟩:=o a _ e
 exact ⟨its,r,q⟩
theorem IJ {vs:List V} {its:List Value} {j:Nat} (r:Vals vs its) (h:j < its.toArray.size):∃v,vs[j]?=some v∧RelV v its.toArray[j]:=by
 have h':j < its.length:=by simpa using h
 have hl:j < vs.length:=by rw [r.length];exact h'
 obtain ⟨u,e1,e2⟩:=r.get (List.getElem?_eq_getElem hl)
 refine ⟨vs[j],List.getElem?_eq_getElem hl,?_⟩
 rw [List.getElem?_eq_getElem h'] at e1
 cases e1
 simpa using e2
theorem N9 {f:D→D→Option Bool} {xs ys:List D} {b:Bool} (h:C1 f xs ys=some b) (ht:∀(j:Nat) d e k,xs[j]?=some d→ys[j]?=some e→f d e=some k→k=true):b=true:=by
 obtain ⟨h1,h2⟩:=C7 h
 rw [h1,List.all_eq_true]
 intro j hj
 have hj':=List.mem_range.mp hj
 have l1:j < xs.length:=by lia
 have l2:j < ys.length:=by lia
 obtain ⟨k,ek⟩:=h2 j _ _ (List.getElem?_eq_getElem l1) (List.getElem?_eq_getElem l2)
 have:=ht j _ _ k (List.getElem?_eq_getElem l1) (List.getElem?_eq_getElem l2) ek
 unfold ej
 rw [List.getElem?_eq_getElem l1,List.getElem?_eq_getElem l2]
 simp [ek,this]
theorem Gd {x y:D} {b:Bool} (e:eq0 x y=some b):(∃i j,x = .int i∧y = .int j∧(i == j)=b)∨(∃i j,x = .str i∧y = .str j∧(i == j)=b)∨(∃i j,x = .bl i∧y = .bl j∧(i == j)=b)∨(x = .non∧y = .non∧true=b)∨(∃i j,x = .int i∧y = .str j∧false=b)∨(∃i j,x = .str i∧y = .int j∧false=b):=by
 unfold eq0 at e
 split at e
 ·cases e;exact .inl ⟨_,_,rfl,rfl,rfl⟩
 ·cases e;exact .inr (.inl ⟨_,_,rfl,rfl,rfl⟩)
 ·cases e;exact .inr (.inr (.inl ⟨_,_,rfl,rfl,rfl⟩))
 ·cases e;exact .inr (.inr (.inr (.inl ⟨rfl,rfl,rfl⟩)))
 ·cases e;exact .inr (.inr (.inr (.inr (.inl ⟨_,_,rfl,rfl,rfl⟩))))
 ·cases e;exact .inr (.inr (.inr (.inr (.inr ⟨_,_,rfl,rfl,rfl⟩))))
 ·cases e
theorem Ge {n:Nat} {x y:D} {b:Bool} (e:eqN n x y=some b):eq0 x y=some b∨(∃m xs ys,n=m + 1∧x = .lst xs∧y = .lst ys∧(if xs.length=ys.length then C1 (eqN m) xs ys else some false)=some b)∨∃m xs ys b',n=m + 1∧x = .tup xs∧y = .tup ys∧C1 (eqN m) xs ys=some b'∧(b' && xs.length == ys.length)=b:=by
 unfold eqN at e
 split at e
 ·exact .inl e
 ·obtain ⟨b',e1,e2⟩:=Option.map_eq_some_iff.mp e
  exact .inr (.inr ⟨_,_,_,b',rfl,rfl,rfl,e1,e2⟩)
 ·exact .inr (.inl ⟨_,_,_,rfl,rfl,rfl,e⟩)
 ·exact .inl e
theorem IX {K:PySem.W.Frag} {c:Cf} {H:Hp}:∀(n:Nat) {v:V} {d e:D} {b:Bool},Rep K c H v d→Rep K c H v e→eqN n d e=some b→b=true
 | n,v,d,e,b,rd,re,q=>by
   have items:∀{m:Nat} {vs:List V} {ds es:List D} {b':Bool},n=m + 1→Reps K c H vs ds→Reps K c H vs es→C1 (eqN m) ds es=some b'→b'=true:=fun {m vs ds es b'} hm r1 r2 e'=>
    N9 e' fun j d e k q1 q2 ek=>by
     obtain ⟨v,g1,g2⟩:=r1.at q1
     exact IX m g2 (r2.get g1 q2) ek
   rcases Ge q with q0 | ⟨m,ds,es,hm,rfl,rfl,q0⟩ | ⟨m,ds,es,b',hm,rfl,rfl,q1,q2⟩
   ·rcases Gd q0 with ⟨i,j,rfl,rfl,rfl⟩ | ⟨i,j,rfl,rfl,rfl⟩ | ⟨i,j,rfl,rfl,rfl⟩ | ⟨rfl,rfl,rfl⟩ | ⟨i,j,rfl,rfl,rfl⟩ | ⟨i,j,rfl,rfl,rfl⟩
    ·cases rd;cases re;simp
    ·cases rd;cases re;simp
    ·cases rd;cases re;simp
    ·cases rd;cases re;rfl
    ·cases rd;cases re
    ·cases rd;cases re
   ·cases rd with
    | lst h1 h2 h3=>
      cases re with
      | lst g1 g2 g3=>
        rw [h1] at g1;cases g1
        rw [if_pos (h3.length.symm.trans g3.length)] at q0
        exact items hm h3 g3 q0
   ·cases rd with
    | tup h1 h2 h3=>
      cases re with
      | tup g1 g2 g3=>
        rw [h1] at g1;cases g1
        rw [←q2,items hm h3 g3 q1,h3.length.symm.trans g3.length]
        simp
theorem IW {P:Program} {w:World} {K:PySem.W.Frag} {c:Cf} {H:Hp} {s:Shared} (hok:HOk P w H s.heap):∀(n:Nat) {A:Around} {x y:V} {u v:Value} {dx dy:D} {b:Bool},RelV x u→RelV y v→Rep K c H x dx→Rep K c H y dy→eqN n dx dy=some b→A.units + n < cLine→
 RcAt A s u v b∧(EqAt A s u v b)
 | n,A,x,y,u,v,dx,dy,b,ru,rv,rx,ry,e,hu=>by
   have items:∀{m:Nat} {vs ws:List V} {is js:List Value} {ds es:List D} {b':Bool},n=m + 1→Vals vs is→Vals ws js→Reps K c H vs ds→Reps K c H ws es→C1 (eqN m) ds es=some b'→
    ∀j (h1:j < is.toArray.size) (h2:j < js.toArray.size),EqAt A.in1 s is.toArray[j] js.toArray[j] (ej (eqN m) ds es j):=fun {m vs ws is js ds es b'} hm r1 r2 q1 q2 e' j h1 h2=>by
    obtain ⟨v1,a1,a2⟩:=IJ r1 h1
    obtain ⟨v2,b1,b2⟩:=IJ r2 h2
    obtain ⟨l1,g1⟩:=List.getElem?_eq_some_iff.mp a1
    obtain ⟨l2,g2⟩:=List.getElem?_eq_some_iff.mp b1
    have k1:ds[j]?=some (ds[j]'(by rw [←q1.length];exact l1)):=List.getElem?_eq_getElem _
    have k2:es[j]?=some (es[j]'(by rw [←q2.length];exact l2)):=List.getElem?_eq_getElem _
    obtain ⟨kk,ek⟩:=(C7 e').2 j _ _ k1 k2
    have:ej (eqN m) ds es j=kk:=by unfold ej;rw [k1,k2];simp [ek]
    rw [this]
    have hu':A.in1.units + m < cLine:=by
     have:A.in1.units=A.units + 1:=by first | rfl | exact Around.units_in1 _ | simp [Around.in1,Around.units]
     lia
    exact (IW hok m a2 b2 (q1.get a1 k1) (q2.get b1 k2) ek hu').2
   have hu0:A.units < cLine:=by lia
   have conc:∀{p q:Addr} {k:Bool},p≠q→RcAt A s (.ref p) (.ref q) k→RcAt A s (.ref p) (.ref q) k∧EqAt A s (.ref p) (.ref q) k:=fun hn h=>⟨h,EqAt.of_refs hn h⟩
   rcases Ge e with e0 | ⟨m,ds,es,hm,rfl,rfl,e0⟩ | ⟨m,ds,es,b',hm,rfl,rfl,e1,e2⟩
   ·rcases Gd e0 with ⟨i,j,rfl,rfl,rfl⟩ | ⟨i,j,rfl,rfl,rfl⟩ | ⟨i,j,rfl,rfl,rfl⟩ | ⟨rfl,rfl,rfl⟩ | ⟨i,j,rfl,rfl,rfl⟩ | ⟨i,j,rfl,rfl,rfl⟩
    ·cases rx;cases ry;obtain ⟨t',rfl⟩:=ru;obtain ⟨t,rfl⟩:=rv;exact ⟨RcAt.int_int _ _ _ _,EqAt.int_int _ _ _ _⟩
    ·cases rx;cases ry;obtain ⟨t',rfl⟩:=ru;obtain ⟨t,rfl⟩:=rv;exact ⟨RcAt.str_str _ _ _ _,EqAt.str_str _ _ _ _⟩
    ·cases rx;cases ry;cases ru;cases rv;exact ⟨RcAt.bool_bool _ _,EqAt.bool_bool _ _⟩
    ·cases rx;cases ry;cases ru;cases rv;exact ⟨RcAt.none_none,EqAt.same _⟩
    ·cases rx;cases ry;obtain ⟨t',rfl⟩:=ru;obtain ⟨t,rfl⟩:=rv;exact ⟨RcAt.int_str _ _ _ _,EqAt.int_str _ _ _ _⟩
    ·cases rx;cases ry;obtain ⟨t',rfl⟩:=ru;obtain ⟨t,rfl⟩:=rv;exact ⟨RcAt.str_int _ _ _ _,EqAt.str_int _ _ _ _⟩
   ·cases rx with
    | @lst p vs _ g1 g2 g3=>
    cases ry with
    | @lst q ws _ h1 h2 h3=>
      cases ru
      cases rv
      obtain ⟨is,r1,l1⟩:=FN hok g1
      obtain ⟨js,r2,l2⟩:=FN hok h1
      have hs1:is.toArray.size=ds.length:=by rw [←g3.length,r1.length];simp
      have hs2:js.toArray.size=es.length:=by rw [←h3.length,r2.length];simp
      by_cases hl:ds.length=es.length
      ·rw [if_pos hl] at e0
       have hsz:is.toArray.size=js.toArray.size:=by rw [hs1,hs2,hl]
       have rc:=RcAt.lists l1 l2 hsz hu0 (items hm r1 r2 g3 h3 e0)
       have eb:(List.range is.toArray.size).all (ej (eqN m) ds es)=b:=by rw [(C7 e0).1,hs1,←hl,Nat.min_self]
       rw [eb] at rc
       by_cases hpq:p=q
       ·refine ⟨rc,?_⟩
        subst hpq
        rw [IX n (Rep.lst g1 g2 g3) (Rep.lst h1 h2 h3) e]
        exact EqAt.same _
       ·exact conc hpq rc
      ·rw [if_neg hl] at e0
       cases e0
       have hsz:(is.toArray.size != js.toArray.size)=true:=by rw [hs1,hs2];simpa using hl
       refine conc (fun z=>hl ?_) (RcAt.lists_lengths l1 l2 hsz hu0)
       subst z
       rw [g1] at h1;cases h1
       rw [←g3.length,←h3.length]
   ·cases rx with
    | @tup p vs _ g1 g2 g3=>
    cases ry with
    | @tup q ws _ h1 h2 h3=>
      cases ru
      cases rv
      obtain ⟨is,r1,l1⟩:=GK hok g1
      obtain ⟨js,r2,l2⟩:=GK hok h1
      have hs1:is.toArray.size=ds.length:=by rw [←g3.length,r1.length];simp
      have hs2:js.toArray.size=es.length:=by rw [←h3.length,r2.length];simp
      have rc:=RcAt.tuples l1 l2 hu0 (items hm r1 r2 g3 h3 e1)
      have eb:((List.range (min is.toArray.size js.toArray.size)).all (ej (eqN m) ds es) && is.toArray.size == js.toArray.size)=b:=by rw [hs1,hs2,←(C7 e1).1];exact e2
      rw [eb] at rc
      by_cases hpq:p=q
      ·refine ⟨rc,?_⟩
       subst hpq
       rw [IX n (Rep.tup g1 g2 g3) (Rep.tup h1 h2 h3) e]
       exact EqAt.same _
      ·exact conc hpq rc
theorem RK {P:Program} {w:World} {K:PySem.W.Frag} {c:Cf} {H:Hp} {s:Shared} (hok:HOk P w H s.heap) (n:Nat) {A:Around} {x y:V} {u v:Value} {dx dy:D} {b:Bool} (ru:RelV x u) (rv:RelV y v) (rx:Rep K c H x dx) (ry:Rep K c H y dy) (e:eqN n dx dy=some b) (hu:A.units + n < cLine) :
 RcNeAt A s u v (!b):=by
 have items:∀{m:Nat} {vs ws:List V} {is js:List Value} {ds es:List D} {b':Bool},n=m + 1→Vals vs is→Vals ws js→Reps K c H vs ds→Reps K c H ws es→C1 (eqN m) ds es=some b'→
  ∀j (h1:j < is.toArray.size) (h2:j < js.toArray.size),EqAt A.in1 s is.toArray[j] js.toArray[j] (ej (eqN m) ds es j):=fun {m vs ws is js ds es b'} hm r1 r2 q1 q2 e' j h1 h2=>by
  obtain ⟨v1,a1,a2⟩:=IJ r1 h1
  obtain ⟨v2,b1,b2⟩:=IJ r2 h2
  obtain ⟨l1,g1⟩:=List.getElem?_eq_some_iff.mp a1
  obtain ⟨l2,g2⟩:=List.getElem?_eq_some_iff.mp b1
  have k1:ds[j]?=some (ds[j]'(by rw [←q1.length];exact l1)):=List.getElem?_eq_getElem _
  have k2:es[j]?=some (es[j]'(by rw [←q2.length];exact l2)):=List.getElem?_eq_getElem _
  obtain ⟨kk,ek⟩:=(C7 e').2 j _ _ k1 k2
  have:ej (eqN m) ds es j=kk:=by unfold ej;rw [k1,k2];simp [ek]
  rw [this]
  have hu':A.in1.units + m < cLine:=by
   have:A.in1.units=A.units + 1:=rfl
   lia
  exact (IW hok m a2 b2 (q1.get a1 k1) (q2.get b1 k2) ek hu').2
 have hu0:A.units < cLine:=by lia
 rcases Ge e with e0 | ⟨m,ds,es,hm,rfl,rfl,e0⟩ | ⟨m,ds,es,b',hm,rfl,rfl,e1,e2⟩
 ·rcases Gd e0 with ⟨i,j,rfl,rfl,rfl⟩ | ⟨i,j,rfl,rfl,rfl⟩ | ⟨i,j,rfl,rfl,rfl⟩ | ⟨rfl,rfl,rfl⟩ | ⟨i,j,rfl,rfl,rfl⟩ | ⟨i,j,rfl,rfl,rfl⟩
  ·cases rx;cases ry;obtain ⟨t',rfl⟩:=ru;obtain ⟨t,rfl⟩:=rv;exact RcNeAt.int_int _ _ _ _
  ·cases rx;cases ry;obtain ⟨t',rfl⟩:=ru;obtain ⟨t,rfl⟩:=rv;exact RcNeAt.str_str _ _ _ _
  ·cases rx;cases ry;cases ru;cases rv;exact RcNeAt.bool_bool _ _
  ·cases rx;cases ry;cases ru;cases rv;exact RcNeAt.none_none
  ·cases rx;cases ry;obtain ⟨t',rfl⟩:=ru;obtain ⟨t,rfl⟩:=rv;exact RcNeAt.int_str _ _ _ _
  ·cases rx;cases ry;obtain ⟨t',rfl⟩:=ru;obtain ⟨t,rfl⟩:=rv;exact RcNeAt.str_int _ _ _ _
 ·cases rx with
  | @lst p vs _ g1 g2 g3=>
  cases ry with
  | @lst q ws _ h1 h2 h3=>
    cases ru
    cases rv
    obtain ⟨is,r1,l1⟩:=FN hok g1
    obtain ⟨js,r2,l2⟩:=FN hok h1
    have hs1:is.toArray.size=ds.length:=by rw [←g3.length,r1.length];simp
    have hs2:js.toArray.size=es.length:=by rw [←h3.length,r2.length];simp
    by_cases hl:ds.length=es.length
    ·rw [if_pos hl] at e0
     have hsz:is.toArray.size=js.toArray.size:=by rw [hs1,hs2,hl]
     have rc:=RcNeAt.lists l1 l2 hsz hu0 (items hm r1 r2 g3 h3 e0)
     rw [show (List.range is.toArray.size).all (ej (eqN m) ds es)=b by rw [(C7 e0).1,hs1,←hl,Nat.min_self]] at rc
     exact rc
    ·rw [if_neg hl] at e0
     cases e0
     exact RcNeAt.lists_lengths l1 l2 (by rw [hs1,hs2];simpa using hl) hu0
 ·cases rx with
  | @tup p vs _ g1 g2 g3=>
  cases ry with
  | @tup q ws _ h1 h2 h3=>
    cases ru
    cases rv
    obtain ⟨is,r1,l1⟩:=GK hok g1
    obtain ⟨js,r2,l2⟩:=GK hok h1
    have hs1:is.toArray.size=ds.length:=by rw [←g3.length,r1.length];simp
    have hs2:js.toArray.size=es.length:=by rw [←h3.length,r2.length];simp
    have rc:=RcNeAt.tuples l1 l2 hu0 (items hm r1 r2 g3 h3 e1)
    have eb:((List.range (min is.toArray.size js.toArray.size)).all (ej (eqN m) ds es) && is.toArray.size == js.toArray.size)=b:=by rw [hs1,hs2,←(C7 e1).1];exact e2
    rw [eb] at rc
    exact rc
def EQD:Nat:=40
def neD (x y:D):M D:=fun t=>(eqN EQD x y).map fun b=>(.bl (!b),t)
def NC (K:PySem.W.Frag) (g:Bool→Bool):R2:=fun x y H Q=>∃c dx dy b,Rep K c H x dx∧Rep K c H y dy∧eqN EQD dx dy=some b∧Q (.bl (g b)) H
theorem Bt {X:Cx} (hu:X.A.units + 64 < cLine):OpR X (compareOp .Eq) (NC X.K id):=by
 intro pins s σ H x y v u Q I rx ry h
 obtain ⟨c,dx,dy,b,q1,q2,e,q⟩:=h
 have hu':X.A.units + EQD < cLine:=by unfold EQD;lia
 exact (IW I.hok EQD rx ry q1 q2 e hu').1 X.prog X.w _ _ ⟨.bl b,H,I,rfl,q⟩
theorem Dv {X:Cx} (hu:X.A.units + 64 < cLine):OpR X (compareOp .NotEq) (NC X.K (!·)):=by
 intro pins s σ H x y v u Q I rx ry h
 obtain ⟨c,dx,dy,b,q1,q2,e,q⟩:=h
 have hu':X.A.units + EQD < cLine:=by unfold EQD;lia
 exact RK I.hok EQD rx ry q1 q2 e hu' X.prog X.w _ _ ⟨.bl (!b),H,I,rfl,q⟩
end F2
set_option maxHeartbeats 4000000
namespace F2
open PySem L2 PySem.Spec
section
variable {K:PySem.W.Frag}
def i2 (g:Int→Int→D):D→D→M D
 | .int i,.int j=>ret (g i j)
 | _,_=>fail
theorem Tn {g:Int→Int→D} {x y:D} {t:T} {z:D×T} (h:i2 g x y t=some z):∃i j,x = .int i∧y = .int j∧z=(g i j,t):=by
 cases x with
 | int i=>cases y with
   | int j=>cases h;exact ⟨i,j,rfl,rfl,rfl⟩
   | _=>cases h
 | _=>cases h
theorem Uh {gV:Int→Int→V} {g:Int→Int→D} (hr:∀i j c H,Rep K c H (gV i j) (g i j)):BT K (rI0 gV) (i2 g):=fun {Oo c t σ H x y dx dy r t' Q} f rx ry eq k=>by
 obtain ⟨i,j,rfl,rfl,z⟩:=Tn eq
 cases z
 cases rx
 cases ry
 exact ⟨i,j,rfl,rfl,k _ H c f .refl (hr i j c H)⟩
def i2C (C:Int→Int→Bool) (g:Int→Int→D):D→D→M D
 | .int i,.int j=>fun t=>if C i j=true then some (g i j,t) else none
 | _,_=>fail
theorem Ru {C:Int→Int→Bool} {g:Int→Int→D} {x y:D} {t:T} {z:D×T} (h:i2C C g x y t=some z):∃i j,x = .int i∧y = .int j∧C i j=true∧z=(g i j,t):=by
 cases x with
 | int i=>cases y with
   | int j=>
     unfold i2C at h
     dsimp only at h
     by_cases hc:C i j=true
     ·rw [if_pos hc] at h;cases h;exact ⟨i,j,rfl,rfl,hc,rfl⟩
     ·rw [if_neg hc] at h;cases h
   | _=>cases h
 | _=>cases h
theorem EC {P:Int→Int→Prop} {C:Int→Int→Bool} {gV:Int→Int→V} {g:Int→Int→D} (hP:∀i j,C i j=true→P i j) (hr:∀i j c H,Rep K c H (gV i j) (g i j)):BT K (rI P gV) (i2C C g):=fun {Oo c t σ H x y dx dy r t' Q} f rx ry eq k=>by
 obtain ⟨i,j,rfl,rfl,hc,z⟩:=Ru eq
 cases z
 cases rx
 cases ry
 exact ⟨i,j,rfl,rfl,hP i j hc,k _ H c f .refl (hr i j c H)⟩
def Di:=i2 fun i j=>.int (i - j)
def Kp (_ j:Int):Bool:=decide (0 < j) && decide (j < 1073741824)
def FJ:=i2C Kp fun i j=>.int (i / j)
def EM:=i2C (fun _ j=>decide (0 < j)) fun i j=>.int (i % j)
def Kv (i j:Int):Bool:=decide (0≤j) && decide (j≤1000000) && decide (i.natAbs < 2 ^ 64)
def HB:=i2C Kv fun i j=>.int (i ^ j.toNat)
def FR (i j:Int):Bool:=(decide (-(2 ^ 64) < i) && decide (i < 2 ^ 64)) || (decide (-(2 ^ 64) < j) && decide (j < 2 ^ 64))
def NJ:=i2C (fun _ j=>decide (0≤j)) fun i j=>.int (i / 2 ^ j.toNat)
theorem Cl:BT K (rI0 fun i j=>.int (i - j)) Di:=Uh fun i j _ _=>.int _
theorem HH:BT K (rI ST fun i j=>.int (i / j)) FJ:=EC (fun i j h=>by
 unfold Kp at h;rw [Bool.and_eq_true] at h;exact ⟨of_decide_eq_true h.1,of_decide_eq_true h.2⟩) fun i j _ _=>.int _
theorem D1:BT K (rI (fun _ j=>0 < j) fun i j=>.int (i % j)) EM:=EC (fun i j h=>of_decide_eq_true h) fun i j _ _=>.int _
theorem GY:BT K (rI SU fun i j=>.int (i ^ j.toNat)) HB:=EC (fun i j h=>by
 unfold Kv at h;rw [Bool.and_eq_true,Bool.and_eq_true] at h;exact ⟨of_decide_eq_true h.1.1,of_decide_eq_true h.1.2,of_decide_eq_true h.2⟩) fun i j _ _=>.int _
theorem Sr:BT K (rI (fun _ j=>0≤j) fun i j=>.int (i / 2 ^ j.toNat)) NJ:=EC (fun i j h=>of_decide_eq_true h) fun i j _ _=>.int _
theorem OA {i j:Int} (h:FR i j=true):CMul i j:=by
 unfold FR at h
 rw [Bool.or_eq_true,Bool.and_eq_true,Bool.and_eq_true] at h
 rcases h with h | h
 ·exact .inl ⟨of_decide_eq_true h.1,of_decide_eq_true h.2⟩
 ·exact .inr ⟨of_decide_eq_true h.1,of_decide_eq_true h.2⟩
def Lw:D→M D
 | .int i=>ret (.int (-i))
 | _=>fail
theorem MV:SY K (rU fun i=>.int (-i)) Lw:=fun {Oo c t σ H x dx r t' Q} f rx eq k=>by
 cases rx with
 | int i=>cases eq;exact ⟨i,rfl,k _ H c f .refl (.int _)⟩
 | _=>cases eq
def Pc:D→D→M D
 | .int i,.int j=>ret (.int (i + j))
 | .str x,.str y=>lim (x.length + y.length) (.str (x++y))
 | .lst xs,.lst ys=>lim (xs.length + ys.length) (.lst (xs++ys))
 | .tup xs,.tup ys=>fun t=>if xs.isEmpty=false∧xs.length + ys.length≤LIM then some (.tup (xs++ys),t) else none
 | _,_=>fail
def Si:R2:=fun x y H Q=>∃i j,x = .str i∧y = .str j∧i.length + j.length≤sizeLine∧Q (.str (i++j)) H
def NB (K:PySem.W.Frag):R2:=fun x y H Q=>rI0 (fun i j=>.int (i + j)) x y H Q∨(Si x y H Q∨(Qf x y H Q∨QJ K x y H Q))
theorem op_add4 {X:Cx}:OpR X (binaryOp .Add) (NB X.K):=op_add.or (op_add_str.or (op_cat.or RY))
theorem Sm:BT K (NB K) Pc:=fun {Oo c t σ H x y dx dy r t' Q} f rx ry eq k=>by
 cases rx with
 | int i=>
   cases ry with
   | int j=>cases eq;exact .inl ⟨i,j,rfl,rfl,k _ H c f .refl (.int _)⟩
   | _=>cases eq
 | str i=>
   cases ry with
   | str j=>
     obtain ⟨h,z⟩:=DF eq
     cases z
     exact .inr (.inl ⟨i,j,rfl,rfl,Nat.le_trans h Cm,k _ H c f .refl (.str _)⟩)
   | _=>cases eq
 | @lst a vs ds h1 h2 h3=>
   cases ry with
   | @lst b ws es g1 g2 g3=>
     obtain ⟨h,z⟩:=DF eq
     cases z
     refine .inr (.inr (.inl ⟨a,b,vs,ws,rfl,rfl,h1,g1,?_,fun p hp=>?_⟩))
     ·rw [h3.length,g3.length];exact Nat.le_trans h Cm
     ·exact k _ _ c (f.laid hp) (f.stp_laid hp) (.lst A1 (f.s.free hp) ((h3.append g3).mono (Ext.laid f.s hp)))
   | _=>cases eq
 | @tup a vs ds h1 h2 h3=>
   cases ry with
   | @tup b ws es g1 g2 g3=>
     unfold Pc at eq
     dsimp only at eq
     split at eq
     ·next h=>
      cases eq
      have hne:vs≠[]:=fun z=>by
       have:=h3.length
       rw [z] at this
       have h0:ds.length=0:=this.symm
       have:ds=[]:=List.length_eq_zero_iff.mp h0
       rw [this] at h
       simp at h
      refine .inr (.inr (.inr ⟨a,b,vs,ws,rfl,rfl,SqT.of h1,SqT.of g1,hne,?_,fun z=>?_,fun z p hp=>?_⟩))
      ·rw [h3.length,g3.length];exact Nat.le_trans h.2 Cm
      ·subst z
       have:es=[]:=List.length_eq_zero_iff.mp g3.length.symm
       subst this
       rw [List.append_nil] at k
       exact k _ H c f .refl (.tup h1 h2 h3)
      ·exact k _ _ c (f.laid hp) (f.stp_laid hp) (.tup A1 (f.s.free hp) ((h3.append g3).mono (Ext.laid f.s hp)))
     ·cases eq
   | _=>cases eq
 | _=>cases eq
def Hj:D→D→M (List D)
 | .lst xs,.lst ys=>lim (xs.length + ys.length) (xs++ys)
 | _,_=>fail
theorem HG:M2 K Qf Hj:=fun {Oo c t σ H x y dx dy r t' Q} f rx ry eq k=>by
 cases rx with
 | @lst a vs ds h1 h2 h3=>
   cases ry with
   | @lst b ws es g1 g2 g3=>
     obtain ⟨h,z⟩:=DF eq
     cases z
     refine ⟨a,b,vs,ws,rfl,rfl,h1,g1,?_,fun p hp=>k p _ H c f .refl (h3.append g3) hp⟩
     rw [h3.length,g3.length];exact Nat.le_trans h Cm
   | _=>cases eq
 | _=>cases eq
def isC:D→D→M D
 | x,.non=>fun t=>some (.bl (match x with | .non=>true | _=>false),t)
 | x,.bl b=>fun t=>some (.bl (match x with | .bl c=>c == b | _=>false),t)
 | _,_=>fail
def Ot (x y:D):M D:=bnd (isC x y) fun d=>match d with | .bl b=>ret (.bl (!b)) | _=>fail
def rIs (g:Bool→Bool):R2:=fun x y H Q=>(y = .non∨∃b,y = .bl b)∧Q (.bl (g (decide (x=y)))) H
theorem Q5 {x y:V} {v u:Value} (rx:RelV x v) (ry:RelV y u) (hy:y = .non∨∃b,y = .bl b):plainIs v u=true∧(v == u)=decide (x=y):=by
 rcases hy with rfl | ⟨b,rfl⟩
 ·cases ry
  cases x with
  | non=>cases rx;exact ⟨rfl,by simp⟩
  | bl _=>cases rx;exact ⟨rfl,by simp⟩
  | int _=>obtain ⟨t,rfl⟩:=rx;exact ⟨rfl,by simp⟩
  | str _=>obtain ⟨t,rfl⟩:=rx;exact ⟨rfl,by simp⟩
  | byt _=>obtain ⟨t,rfl⟩:=rx;exact ⟨rfl,by simp⟩
  | flt _=>obtain ⟨t,rfl⟩:=rx;exact ⟨rfl,by simp⟩
  | ref _=>cases rx;exact ⟨rfl,by simp⟩
  | ty _=>cases rx;exact ⟨rfl,by simp⟩
 ·cases ry
  cases x with
  | non=>cases rx;exact ⟨rfl,by simp⟩
  | bl c=>cases rx;exact ⟨rfl,by simp;cases c <;> cases b <;> rfl⟩
  | int _=>obtain ⟨t,rfl⟩:=rx;exact ⟨rfl,by simp⟩
  | str _=>obtain ⟨t,rfl⟩:=rx;exact ⟨rfl,by simp⟩
  | byt _=>obtain ⟨t,rfl⟩:=rx;exact ⟨rfl,by simp⟩
  | flt _=>obtain ⟨t,rfl⟩:=rx;exact ⟨rfl,by simp⟩
  | ref _=>cases rx;exact ⟨rfl,by simp⟩
  | ty _=>cases rx;exact ⟨rfl,by simp⟩
theorem LE {X:Cx}:OpR X (compareOp .Is) (rIs id):=by
 intro pins s σ H x y v u Q I rx ry h
 obtain ⟨hy,q⟩:=h
 obtain ⟨h1,h2⟩:=Q5 rx ry hy
 exact wpAny_is_plain h1 ⟨.bl _,H,I,by rw [h2];rfl,q⟩
theorem Rw {c:Cf} {H:Hp} {x y:V} {dx dy:D} {t:T} {z:D×T} (rx:Rep K c H x dx) (ry:Rep K c H y dy) (eq:isC dx dy t=some z):(y = .non∨∃b,y = .bl b)∧z=(.bl (decide (x=y)),t):=by
 cases ry with
 | non=>
   refine ⟨.inl rfl,?_⟩
   cases rx <;> (cases eq;first | rfl | simp)
 | bl b=>
   refine ⟨.inr ⟨b,rfl⟩,?_⟩
   cases rx <;> (cases eq;first | rfl | simp)
   next a=>cases a <;> cases b <;> rfl
 | _=>cases eq
theorem LS:BT K (rIs id) isC:=fun {Oo c t σ H x y dx dy r t' Q} f rx ry eq k=>by
 obtain ⟨h,z⟩:=Rw rx ry eq
 cases z
 exact ⟨h,k _ H c f .refl (.bl _)⟩
def ixD:D→D→M D
 | .lst ds,.int i=>fun t=>(atI ds i).map fun d=>(d,t)
 | .tup ds,.int i=>fun t=>(atI ds i).map fun d=>(d,t)
 | .scr ns,.int i=>fun t=>(atI ns i).map fun n=>(.int n,t)
 | .str x,.int i=>fun t=>if x.length≤LIM then (atI x.cps.toList i).map fun n=>(.str ⟨#[n]⟩,t) else none
 | .obj k,.int i=>fun t=>match t.S[k]? with
   | some (.lst ds)=>(atI ds i).map fun d=>(d,t)
   | _=>none
 | _,_=>fail
theorem Hh {c:Cf} {H:Hp} {vs:List V} {ds:List D} {i:Int} {d:D} (r:Reps K c H vs ds) (h:atI ds i=some d):∃v,atI vs i=some v∧Rep K c H v d:=by
 unfold atI at h ⊢
 obtain ⟨j,h1,h2⟩:=Option.bind_eq_some_iff.mp h
 obtain ⟨v,h3,h4⟩:=r.at h2
 exact ⟨v,by rw [r.length,h1];exact h3,h4⟩
theorem Q1 {α β:Type} (g:α→β) (xs:List α) (i:Int):atI (xs.map g) i=(atI xs i).map g:=by
 unfold atI
 rw [List.length_map]
 cases ixN xs.length i with
 | none=>rfl
 | some j=>simp
theorem Al:BT K (rIx K) ixD:=fun {Oo c t σ H x y dx dy r t' Q} f rx ry eq k=>by
 cases ry with
 | int i=>
   cases rx with
   | @lst a vs ds h1 h2 h3=>
     obtain ⟨d,e1,e2⟩:=Option.map_eq_some_iff.mp eq
     cases e2
     obtain ⟨v,e3,e4⟩:=Hh h3 e1
     exact .inl ⟨a,vs,i,v,rfl,rfl,SqL.of h1,e3,k _ H c f .refl e4⟩
   | @tup a vs ds h1 h2 h3=>
     obtain ⟨d,e1,e2⟩:=Option.map_eq_some_iff.mp eq
     cases e2
     obtain ⟨v,e3,e4⟩:=Hh h3 e1
     exact .inr (.inl ⟨a,vs,i,v,rfl,rfl,SqT.of h1,e3,k _ H c f .refl e4⟩)
   | @scr a ns h1=>
     obtain ⟨n,e1,e2⟩:=Option.map_eq_some_iff.mp eq
     cases e2
     exact .inl ⟨a,_,i,.int n,rfl,rfl,h1.sq,by rw [Q1,e1];rfl,k _ H c f .refl (.int n)⟩
   | str z=>
     unfold ixD at eq
     dsimp only at eq
     split at eq
     ·next hl=>
      obtain ⟨n,e1,e2⟩:=Option.map_eq_some_iff.mp eq
      cases e2
      exact .inr (.inr ⟨z,i,n,rfl,rfl,Nat.le_trans hl Cm,e1,k _ H c f .refl (.str _)⟩)
     ·cases eq
   | @obj a kk h1=>
     unfold ixD at eq
     dsimp only at eq
     cases es:t.S[kk]? with
     | none=>rw [es] at eq;cases eq
     | some o=>
       rw [es] at eq
       cases o with
       | dct _=>cases eq
       | lst ds=>
         obtain ⟨d,e1,e2⟩:=Option.map_eq_some_iff.mp eq
         cases e2
         obtain ⟨vs,g1,g2⟩:=f.s.obs kk a _ h1 es
         obtain ⟨v,e3,e4⟩:=Hh g2 e1
         exact .inl ⟨a,vs,i,v,rfl,rfl,SqL.of g1,e3,k _ H c f .refl e4⟩
   | _=>cases eq
 | _=>cases rx <;> cases eq
end
section
variable {X:Cx} {e a b:Expr} {es:List Expr} {pos:Pos}
def RO (K:PySem.W.Frag) (f:M (Option Int)):TO:=fun σ H Q=>∃Oo c t,FInv K Oo c t σ H∧∃r t',f t=some (r,t')∧∀H' c',FInv K Oo c' t' σ H'→Stp Oo c H c' H'→Q r H'
theorem NY {oe:Option Expr} {t t':TO} (h:PO X oe t) (i:∀σ H Q,t' σ H Q→t σ H Q):PO X oe t':=fun pins s σ H Q I q=>h pins s σ H Q I (i σ H Q q)
def fNo:M (Option Int):=ret none
def asI:D→M (Option Int)
 | .int i=>ret (some i)
 | _=>fail
def FI (f:M D):M (Option Int):=bnd f asI
theorem Jd:PO X none (RO X.K fNo):=NY Sa fun σ H Q ⟨Oo,c,t,fi,r,t',eq,k⟩=>by
 cases eq
 exact k H c fi .refl
theorem Je {f:M D} (h:PE X e (RE X.K f)):PO X (some e) (RO X.K (FI f)):=NY (Sb h) fun σ H Q ⟨Oo,c,t,fi,r,t',eq,k⟩=>by
 obtain ⟨d,t1,e1,eq⟩:=Aq eq
 refine ⟨Oo,c,t,fi,d,t1,e1,fun v H1 c1 f1 s1 rv=>?_⟩
 cases rv with
 | int i=>cases eq;exact ⟨i,rfl,k H1 c1 f1 s1⟩
 | _=>cases eq
def O9 (K:PySem.W.Frag) (R:V→Option Int→Option Int→Hp→VK→Prop) (h:D→Option Int→Option Int→M D):Prop:=∀{Oo:Addr→Prop} {c:Cf} {t:T} {σ:L2.St} {H:Hp} {x:V} {dx r:D} {lo hi:Option Int} {t':T} {Q:VK},FInv K Oo c t σ H→Rep K c H x dx→h dx lo hi t=some (r,t')→
 (∀v H' c',FInv K Oo c' t' σ H'→Stp Oo c H c' H'→Rep K c' H' v r→Q v H')→R x lo hi H Q
def fSl (f:M D) (l u:M (Option Int)) (h:D→Option Int→Option Int→M D):M D:=bnd f fun x=>bnd l fun lo=>bnd u fun hi=>h x lo hi
theorem Hl {R:V→Option Int→Option Int→Hp→VK→Prop} {h:D→Option Int→Option Int→M D} {f:M D} {l u:M (Option Int)} {lo hi:Option Expr} {p2:Pos} (hr:SlR X R) (s:O9 X.K R h) (he:PE X e (RE X.K f)) (hl:PO X lo (RO X.K l)) (hu:PO X hi (RO X.K u)):PE X (.Subscript e (.Slice lo hi none p2) pos) (RE X.K (fSl f l u h)):=
 Bw (P6 hr he hl hu) fun σ H Q ⟨Oo,c,t,fi,r,t',eq,k⟩=>by
  obtain ⟨d,t1,e1,eq⟩:=Aq eq
  obtain ⟨ol,t2,e2,eq⟩:=Aq eq
  obtain ⟨oh,t3,e3,eq⟩:=Aq eq
  exact ⟨Oo,c,t,fi,d,t1,e1,fun v H1 c1 f1 s1 rv=>⟨Oo,c1,t1,f1,ol,t2,e2,fun H2 c2 f2 s2=>⟨Oo,c2,t2,f2,oh,t3,e3,fun H3 c3 f3 s3=>
   s f3 (rv.mono (s2.trans s3).ext) eq fun v H' c' f' s' rv'=>k v H' c' f' (((s1.trans s2).trans s3).trans s') rv'⟩⟩⟩
def Ci {α:Type} (xs:List α) (lo hi:Option Int):List α:=(xs.drop (HT.sIx xs.length 0 lo)).take (HT.sIx xs.length xs.length hi - HT.sIx xs.length 0 lo)
def slD:D→Option Int→Option Int→M D
 | .lst ds,lo,hi=>ret (.lst (Ci ds lo hi))
 | .scr ns,lo,hi=>ret (.lst ((Ci ns lo hi).map .int))
 | .tup ds,lo,hi=>fun t=>if HT.sIx ds.length 0 lo=0∧HT.sIx ds.length ds.length hi=ds.length then none else some (.tup (Ci ds lo hi),t)
 | _,_,_=>fail
theorem HD {K:PySem.W.Frag} {c:Cf} {H:Hp} {vs:List V} {ds:List D} (r:Reps K c H vs ds) (lo hi:Option Int):Reps K c H (FF vs lo hi) (Ci ds lo hi):=by
 unfold FF Ci
 rw [r.length]
 exact (r.drop _).take _
theorem Pj {α β:Type} (g:α→β) (xs:List α) (lo hi:Option Int):Ci (xs.map g) lo hi=(Ci xs lo hi).map g:=by
 unfold Ci
 rw [List.length_map,List.map_take,List.map_drop]
theorem N7 (ns:List Int) (lo hi:Option Int):FF (ns.map V.int) lo hi=(Ci ns lo hi).map V.int:=Pj V.int ns lo hi
def Qg (K:PySem.W.Frag):V→Option Int→Option Int→Hp→VK→Prop:=fun x lo hi H Q=>Ub K x lo hi H Q∨Ud K x lo hi H Q
theorem sl2:SlR X (Qg X.K):=sl_list.or Uj
theorem Ui {K:PySem.W.Frag}:O9 K (Qg K) slD:=fun {Oo c t σ H x dx r lo hi t' Q} f rx eq k=>by
 cases rx with
 | @lst p vs ds h1 h2 h3=>
   cases eq
   exact .inl ⟨p,vs,rfl,SqL.of h1,fun q hq=>k _ _ c (f.laid hq) (f.stp_laid hq) (.lst A1 (f.s.free hq) ((HD h3 lo hi).mono (Ext.laid f.s hq)))⟩
 | @scr p ns h1=>
   cases eq
   refine .inl ⟨p,_,rfl,h1.sq,fun q hq=>k _ _ c (f.laid hq) (f.stp_laid hq) (.lst A1 (f.s.free hq) ?_)⟩
   rw [N7]
   exact Reps.ints _
 | @tup p vs ds h1 h2 h3=>
   unfold slD at eq
   dsimp only at eq
   split at eq
   ·cases eq
   ·next hn=>
    cases eq
    exact .inr ⟨p,vs,rfl,SqT.of h1,by rw [h3.length];exact hn,fun q hq=>k _ _ c (f.laid hq) (f.stp_laid hq) (.tup A1 (f.s.free hq) ((HD h3 lo hi).mono (Ext.laid f.s hq)))⟩
 | _=>cases eq
theorem V6 {id:String} {R:List V→Hp→VK→Prop} {h:List D→M D} {f:M (List D)} {x:Str} {p:Pos} (hc:CG X (.builtin id) R) (s:EF X.K R h) (hg:Gl X x) (hm:X.mg x=none) (hv:bootBuiltins x=some (.builtin id)) (ha:PA X (e :: es) (RA X.K f)) (hn:x≠"__name__":=by decide) (hdb:(x == ("__debug__" : Str))=false:=by decide)
 (he:starEach (e :: es) X.env=(false,eval e X.env) :: starEach es X.env:=by rfl) (hpl:(backTo pos (starEach es X.env)).any (·.1)=false:=by rfl):PE X (.Call (.Name x p) (e :: es) [] pos) (RE X.K (fB f h)):=
 Bw (HA hc hg hm hv ha hn hdb he hpl) fun _ _ _ q=>RE.callB s q
theorem V7 {id:String} {R:List V→Hp→VK→Prop} {h:List D→M D} {f:M (List D)} {x:Str} {p:Pos} (hc:CG X (.type id) R) (s:EF X.K R h) (hg:Gl X x) (hm:X.mg x=none) (hv:bootBuiltins x=some (.type id)) (ha:PA X (e :: es) (RA X.K f)) (hn:x≠"__name__":=by decide) (hdb:(x == ("__debug__" : Str))=false:=by decide)
 (he:starEach (e :: es) X.env=(false,eval e X.env) :: starEach es X.env:=by rfl) (hpl:(backTo pos (starEach es X.env)).any (·.1)=false:=by rfl):PE X (.Call (.Name x p) (e :: es) [] pos) (RE X.K (fB f h)):=
 Bw (JV hc hg hm hv ha hn hdb he hpl) fun _ _ _ q=>RE.callB s q
theorem V8 {id:String} {R:List V→Hp→VK→Prop} {h:List D→M (List D)} {f:M (List D)} {x:Str} {p:Pos} (hc:CG X (.type id) R) (s:Kn X.K R h) (hg:Gl X x) (hm:X.mg x=none) (hv:bootBuiltins x=some (.type id)) (ha:PA X (e :: es) (RA X.K f)) (hn:x≠"__name__":=by decide) (hdb:(x == ("__debug__" : Str))=false:=by decide)
 (he:starEach (e :: es) X.env=(false,eval e X.env) :: starEach es X.env:=by rfl) (hpl:(backTo pos (starEach es X.env)).any (·.1)=false:=by rfl):PE X (.Call (.Name x p) (e :: es) [] pos) (RF X.K (fBF f h)):=
 Bw (JV hc hg hm hv ha hn hdb he hpl) fun _ _ _ q=>RF.callB s q
theorem Nl {op:Operator} {R:R2} {f g:M D} {h:D→D→M (List D)} (ho:OpR X (binaryOp op) R) (s:M2 X.K R h) (ha:PE X a (RE X.K f)) (hb:PE X b (RE X.K g)):PE X (.BinOp a op b pos) (RF X.K (bnd f fun x=>bnd g fun y=>h x y)):=
 Bw (QG ho ha hb) fun _ _ _ q=>RF.two s q
end
section
variable {K:PySem.W.Frag}
theorem Ed {c:Cf} {H:Hp} {xs:List V} {d:D} (r:Reps K c H xs [d]):∃v,xs=[v]∧Rep K c H v d:=by
 cases r with
 | cons r rs=>cases rs;exact ⟨_,rfl,r⟩
theorem QP {c:Cf} {H:Hp} {xs:List V} {d e:D} (r:Reps K c H xs [d,e]):∃v u,xs=[v,u]∧Rep K c H v d∧Rep K c H u e:=by
 cases r with
 | cons r rs=>
   obtain ⟨u,rfl,q⟩:=Ed rs
   exact ⟨_,u,rfl,r,q⟩
def BR:List D→M D
 | [.lst ds]=>ret (.int ds.length)
 | [.tup ds]=>ret (.int ds.length)
 | [.scr ns]=>ret (.int ns.length)
 | [.str x]=>lim x.length (.int x.length)
 | [.obj k]=>fun t=>match t.S[k]? with
   | some (.lst ds)=>some (.int ds.length,t)
   | _=>none
 | _=>fail
theorem BM:EF K (fun xs H Q=>∃x n,xs=[x]∧SW K x H n∧Q (.int n) H) BR:=fun {Oo c t σ H xs ds r t' Q} f rx eq k=>by
 match ds,rx,eq with
 | [],_,eq=>cases eq
 | d0 :: _ :: _,_,eq=>cases d0 <;> cases eq
 | [d],rx,eq=>
   obtain ⟨v,rfl,rv⟩:=Ed rx
   cases rv with
   | @lst a vs ds h1 h2 h3=>cases eq;exact ⟨_,ds.length,rfl,.inl ⟨vs,SqL.of h1,h3.length.symm⟩,k _ H c f .refl (.int _)⟩
   | @tup a vs ds h1 h2 h3=>cases eq;exact ⟨_,ds.length,rfl,.inr ⟨vs,SqT.of h1,h3.length.symm⟩,k _ H c f .refl (.int _)⟩
   | @scr a ns h1=>cases eq;exact ⟨_,ns.length,rfl,.inl ⟨_,h1.sq,by simp⟩,k _ H c f .refl (.int _)⟩
   | str x=>
     obtain ⟨hl,z⟩:=DF eq
     cases z
     exact ⟨_,x.length,rfl,⟨Nat.le_trans hl Cm,rfl⟩,k _ H c f .refl (.int _)⟩
   | @obj a kk h1=>
     unfold BR at eq
     dsimp only at eq
     cases es:t.S[kk]? with
     | none=>rw [es] at eq;cases eq
     | some o=>
       rw [es] at eq
       cases o with
       | dct _=>cases eq
       | lst ds=>
         cases eq
         obtain ⟨vs,g1,g2⟩:=f.s.obs kk a _ h1 es
         exact ⟨_,ds.length,rfl,.inl ⟨vs,SqL.of g1,g2.length.symm⟩,k _ H c f .refl (.int _)⟩
   | _=>cases eq
def tyD:D→Option String
 | .non=>some "NoneType"
 | .bl _=>some "bool"
 | .int _=>some "int"
 | .str _=>some "str"
 | .lst _=>some "list"
 | .tup _=>some "tuple"
 | .dic=>some "dict"
 | _=>none
def Jh (n m:String):Option Bool:=match m with
 | "int"=>some (n == "int" || n == "bool")
 | "bool"=>some (n == "bool")
 | "str"=>some (n == "str")
 | "list"=>some (n == "list")
 | "tuple"=>some (n == "tuple")
 | "dict"=>some (n == "dict")
 | _=>none
def Dd:List D→M D
 | [d,.ty m]=>fun t=>match tyD d with
   | some n=>(Jh n m).map fun b=>(.bl b,t)
   | none=>none
 | _=>fail
theorem Rz {d:D} {n m:String} {b:Bool} (h1:tyD d=some n) (h2:Jh n m=some b):PySem.W.kitOne K (.type n) (.type m)=some b:=by
 have hm:m = "int"∨m = "bool"∨m = "str"∨m = "list"∨m = "tuple"∨m = "dict":=by
  unfold Jh at h2
  split at h2 <;> simp_all
 have hn:n = "NoneType"∨n = "bool"∨n = "int"∨n = "str"∨n = "list"∨n = "tuple"∨n = "dict":=by
  cases d <;> simp [tyD] at h1 <;> simp [←h1]
 rcases hm with rfl | rfl | rfl | rfl | rfl | rfl <;> rcases hn with rfl | rfl | rfl | rfl | rfl | rfl | rfl <;> (cases h2;rfl)
def T5 (K:PySem.W.Frag):List V→Hp→VK→Prop:=fun xs H Q=>∃x n t b,xs=[x,.ty n]∧TyOf K H x t∧PySem.W.kitOne K t (.type n)=some b∧Q (.bl b) H
theorem CB {X:Cx}:CG X (.builtin "isinstance") (T5 X.K):=by
 intro pins s σ H xs us Q I r h
 obtain ⟨x,n,t,b,rfl,ty,e,q⟩:=h
 obtain ⟨u,w',rfl,rx,rt⟩:=NP r
 cases rt
 exact JT I rx ty e fun tk=>⟨.bl b,H,I.tok tk,rfl,q⟩
theorem CW:EF K (T5 K) Dd:=fun {Oo c t σ H xs ds r t' Q} f rx eq k=>by
 unfold Dd at eq
 split at eq
 ·next d m=>
  obtain ⟨v,u,rfl,rv,ru⟩:=QP rx
  cases ru
  cases et:tyD d with
  | none=>rw [et] at eq;cases eq
  | some n=>
    rw [et] at eq
    obtain ⟨b,e1,e2⟩:=Option.map_eq_some_iff.mp eq
    cases e2
    refine ⟨v,m,.type n,b,rfl,?_,Rz et e1,k _ H c f .refl (.bl b)⟩
    cases rv <;> first | (cases et;first | exact .non | exact .bl _ | exact .int _ | exact .str _ | exact .lst ‹_› | exact .tup ‹_› | exact .dK ‹_›) | cases et
 ·cases eq
def LZ:List D→M D
 | [.lst ds]=>ret (.tup ds)
 | [.tup ds]=>ret (.tup ds)
 | [.obj k]=>fun t=>match t.S[k]? with
   | some (.lst ds)=>some (.tup ds,t)
   | _=>none
 | _=>fail
theorem Ss:EF K (fun xs H Q=>∃p ys,xs=[.ref p]∧((SqL K H p ys∧∀l,H l=none→Q (.ref l) (upd H l (.tup ys)))∨(SqT K H p ys∧Q (.ref p) H))) LZ:=fun {Oo c t σ H xs ds r t' Q} f rx eq k=>by
 match ds,rx,eq with
 | [],_,eq=>cases eq
 | d0 :: _ :: _,_,eq=>cases d0 <;> cases eq
 | [d],rx,eq=>
   obtain ⟨v,rfl,rv⟩:=Ed rx
   cases rv with
   | @lst a vs ds h1 h2 h3=>cases eq;exact ⟨a,vs,rfl,.inl ⟨SqL.of h1,fun q hq=>k _ _ c (f.laid hq) (f.stp_laid hq) (.tup A1 (f.s.free hq) (h3.mono (Ext.laid f.s hq)))⟩⟩
   | @tup a vs ds h1 h2 h3=>cases eq;exact ⟨a,vs,rfl,.inr ⟨SqT.of h1,k _ H c f .refl (.tup h1 h2 h3)⟩⟩
   | @obj a kk h1=>
     unfold LZ at eq
     dsimp only at eq
     cases es:t.S[kk]? with
     | none=>rw [es] at eq;cases eq
     | some o=>
       rw [es] at eq
       cases o with
       | dct _=>cases eq
       | lst ds=>
         cases eq
         obtain ⟨vs,g1,g2⟩:=f.s.obs kk a _ h1 es
         exact ⟨a,vs,rfl,.inl ⟨SqL.of g1,fun q hq=>k _ _ c (f.laid hq) (f.stp_laid hq) (.tup A1 (f.s.free hq) (g2.mono (Ext.laid f.s hq)))⟩⟩
   | _=>cases eq
def Ho:List D→M (List D)
 | [.lst ds]=>ret ds
 | [.tup ds]=>ret ds
 | [.scr ns]=>ret (ns.map .int)
 | [.obj k]=>fun t=>match t.S[k]? with
   | some (.lst ds)=>some (ds,t)
   | _=>none
 | _=>fail
theorem MU:Kn K (fun xs H Q=>∃p ys,xs=[.ref p]∧(SqL K H p ys∨SqT K H p ys)∧∀l,H l=none→Q (.ref l) (upd H l (.lst ys))) Ho:=fun {Oo c t σ H xs ds r t' Q} f rx eq k=>by
 match ds,rx,eq with
 | [],_,eq=>cases eq
 | d0 :: _ :: _,_,eq=>cases d0 <;> cases eq
 | [d],rx,eq=>
   obtain ⟨v,rfl,rv⟩:=Ed rx
   cases rv with
   | @lst a vs ds h1 h2 h3=>cases eq;exact ⟨a,vs,rfl,.inl (SqL.of h1),fun q hq=>k q vs H c f .refl h3 hq⟩
   | @tup a vs ds h1 h2 h3=>cases eq;exact ⟨a,vs,rfl,.inr (SqT.of h1),fun q hq=>k q vs H c f .refl h3 hq⟩
   | @scr a ns h1=>cases eq;exact ⟨a,_,rfl,.inl h1.sq,fun q hq=>k q _ H c f .refl (Reps.ints ns) hq⟩
   | @obj a kk h1=>
     unfold Ho at eq
     dsimp only at eq
     cases es:t.S[kk]? with
     | none=>rw [es] at eq;cases eq
     | some o=>
       rw [es] at eq
       cases o with
       | dct _=>cases eq
       | lst ds=>
         cases eq
         obtain ⟨vs,g1,g2⟩:=f.s.obs kk a _ h1 es
         exact ⟨a,vs,rfl,.inl (SqL.of g1),fun q hq=>k q vs H c f .refl g2 hq⟩
   | _=>cases eq
def Jg:List D→M D
 | [.int i]=>ret (.int i)
 | [.bl b]=>ret (.int (if b then 1 else 0))
 | _=>fail
theorem MT:EF K (fun xs H Q=>(∃i,xs=[.int i]∧Q (.int i) H)∨∃k,xs=[.bl k]∧Q (.int (if k then 1 else 0)) H) Jg:=fun {Oo c t σ H xs ds r t' Q} f rx eq k=>by
 match ds,rx,eq with
 | [],_,eq=>cases eq
 | d0 :: _ :: _,_,eq=>cases d0 <;> cases eq
 | [d],rx,eq=>
   obtain ⟨v,rfl,rv⟩:=Ed rx
   cases rv with
   | int i=>cases eq;exact .inl ⟨i,rfl,k _ H c f .refl (.int _)⟩
   | bl b=>cases eq;exact .inr ⟨b,rfl,k _ H c f .refl (.int _)⟩
   | _=>cases eq
def V2:List D→M D
 | [.int i]=>ret (.int (if i < 0 then -i else i))
 | _=>fail
def FQ:List D→M D
 | [.int i,.int j]=>ret (.int (if j < i then j else i))
 | _=>fail
def Wg:List D→M D
 | [.int i,.int j]=>ret (.int (if j > i then j else i))
 | _=>fail
theorem GW:EF K (fun xs H Q=>∃i j,xs=[.int i,.int j]∧Q (.int (if j < i then j else i)) H) FQ:=fun {Oo c t σ H xs ds r t' Q} f rx eq k=>by
 unfold FQ at eq
 split at eq
 ·next i j=>
  obtain ⟨v,u,rfl,rv,ru⟩:=QP rx
  cases rv;cases ru;cases eq
  exact ⟨i,j,rfl,k _ H c f .refl (.int _)⟩
 ·cases eq
def Jv:List D→M D
 | [.str x]=>fun t=>if x.length=1 then some (.int (x.cps.getD 0 0:Nat),t) else none
 | _=>fail
theorem MW:EF K (fun xs H Q=>∃x,xs=[.str x]∧x.length=1∧Q (.int (x.cps.getD 0 0:Nat)) H) Jv:=fun {Oo c t σ H xs ds r t' Q} f rx eq k=>by
 match ds,rx,eq with
 | [],_,eq=>cases eq
 | d0 :: _ :: _,_,eq=>cases d0 <;> cases eq
 | [d],rx,eq=>
   obtain ⟨v,rfl,rv⟩:=Ed rx
   cases rv with
   | str x=>
     unfold Jv at eq
     dsimp only at eq
     split at eq
     ·next h=>cases eq;exact ⟨x,rfl,h,k _ H c f .refl (.int _)⟩
     ·cases eq
   | _=>cases eq
end
end F2
namespace L2
open PySem PySem.Spec PyProof.Rows
open AutoSeq1 (wpAny_loadPart')
def QI (K:PySem.W.Frag):R2:=fun x y H Q=>∃a b ys,x = .ref a∧y = .ref b∧SqT K H a []∧SqT K H b ys∧Q (.ref b) H
theorem RW {X:Cx}:OpR X (binaryOp .Add) (QI X.K):=by
 intro pins s σ H x y v u Q I rx ry h
 obtain ⟨a,b,ys,rfl,rfl,h1,h2,q⟩:=h
 cases rx
 cases ry
 obtain ⟨its,r,⟨⟨cls,dd,data,sl⟩,ho,hc,n,hd⟩,z⟩:=I.tuple h1
 obtain ⟨its2,r2,⟨⟨cls2,dd2,data2,sl2⟩,ho2,hc2,n2,hd2⟩,z2⟩:=I.tuple h2
 simp only at hc hd hc2 hd2
 subst hc hd hc2 hd2
 cases r
 exact concat_meets ⟨_,ho,rfl⟩ ⟨_,ho2,rfl⟩ noFill_tuple_add seq_tuple_add PySem.F.slot_tuple_add PySem.F.entry_tuple_add (PySem.F.args_tuple_add_2 _ _)
  (tuple_addW0 a b #[] its2.toArray n n2 dd dd2 sl sl2 rfl) ⟨ho,ho2,.ref b,H,I,rfl,q⟩
theorem Hq:fillsNumberSlot (.type "tuple") "mul" = pure false:=
 PySem.fillsNumberSlot_seq (id:="tuple.__mul__") (r:=some (.builtin "tuple.__rmul__")) F.slot_tuple_mul.lookup (by decide +kernel) F.slot_tuple_rmul.lookup (by decide +kernel)
theorem LQ:seqRepeat? (.type "tuple")=pure (some (.builtin "tuple.__mul__")):=by
 unfold seqRepeat?
 rw [PySem.seqSlot_of (T:="tuple") (name:="__mul__") (id:="tuple.__mul__") F.slot_tuple_mul.lookup (by decide +kernel),PySem.seqSlot_of (T:="tuple") (name:="__rmul__") (id:="tuple.__rmul__") F.slot_tuple_rmul.lookup (by decide +kernel)]
 rfl
theorem Jz (a:Int) (t:Tok) (l:Addr) (items:Array Value) (n:Nat) (dd:Option Addr) (sl:Array (Option Value)) :
 Meets (Builtin.«int.__rmul__» ⟨[.int a t,.ref l],[]⟩) (fun _ R s=>s.heap.get? l=some { cls:=.type "tuple",dict:=dd,data:=.seq items n,slots:=sl }∧R (.ok (.ret Value.notImplemented)) s):=
 .of_wp fun prog w A R s h=>by obtain ⟨hp,g,d,tk,os⟩:=s;obtain ⟨hl,h⟩:=h;wp_walk;exact ⟨_,rfl,h⟩
theorem Mp (l:Addr) (items:Array Value) (n:Nat) (dd:Option Addr) (sl:Array (Option Value)) (x:Int) (u:Tok) (hc0:(decide (x < -(2 ^ 63)) || decide (x ≥ 2 ^ 63))=false) (hc1:(items.isEmpty || x == 1)=true) :
 Meets (Builtin.«tuple.__mul__» ⟨[.ref l,.int x u],[]⟩) (fun _ R s=>s.heap.get? l=some { cls:=.type "tuple",dict:=dd,data:=.seq items n,slots:=sl }∧R (.ok (.ret (Value.ref l))) s):=
 .of_wp fun prog w A R s h=>by
  obtain ⟨hp,g,d,tk,os⟩:=s;obtain ⟨hl,h⟩:=h;have f1:=AutoSeq1.idx_int;have f2:=AutoSeq1.sub_tuple_tuple;have f3:=AutoSeq1.sub_list_list;have f4:=AutoSeq1.sub_tuple_list;have f5:=AutoSeq1.sub_list_tuple
  wp_walk using wpAny_loadPart' hl
  refine wpAny_ite_split (fun z=>absurd z (by rw [hc0];decide)) fun _=>?_
  wp_walk using wpAny_loadPart' hl
  exact ⟨_,rfl,h⟩
theorem Mq (l:Addr) (items:Array Value) (n:Nat) (dd:Option Addr) (sl:Array (Option Value)) (x:Int) (u:Tok) (hc0:(decide (x < -(2 ^ 63)) || decide (x ≥ 2 ^ 63))=false) (hc1:(items.isEmpty || x == 1)=false) (hc2:(decide (x≤0) || items.isEmpty)=true) :
 Meets (Builtin.«tuple.__mul__» ⟨[.ref l,.int x u],[]⟩) (fun _ R s=>s.heap.get? l=some { cls:=.type "tuple",dict:=dd,data:=.seq items n,slots:=sl }∧R (.ok (.ret (Value.ref s.heap.objs.size))) { s with heap:=s.heap.push { cls:=Value.type "tuple",data:=Data.seq #[] },toks:=s.toks }):=
 .of_wp fun prog w A R s h=>by
  obtain ⟨hp,g,d,tk,os⟩:=s;obtain ⟨hl,h⟩:=h;have f1:=AutoSeq1.idx_int;have f2:=AutoSeq1.sub_tuple_tuple;have f3:=AutoSeq1.sub_list_list;have f4:=AutoSeq1.sub_tuple_list;have f5:=AutoSeq1.sub_list_tuple
  wp_walk using wpAny_loadPart' hl
  refine wpAny_ite_split (fun z=>absurd z (by rw [hc0];decide)) fun _=>?_
  wp_walk using wpAny_loadPart' hl
  exact ⟨_,rfl,h⟩
theorem Mr (l:Addr) (items:Array Value) (n:Nat) (dd:Option Addr) (sl:Array (Option Value)) (x:Int) (u:Tok) (hc0:(decide (x < -(2 ^ 63)) || decide (x ≥ 2 ^ 63))=false) (hc1:(items.isEmpty || x == 1)=false) (hc2:(decide (x≤0) || items.isEmpty)=false)
 (hc3:¬(items.size:Int) * x > (2 ^ 63 - 1) / 8) (hc4:Builtin.Tuple.tupleTooMany ((items.size:Int) * x)=false) (hsz:(List.foldl (fun x1 x2=>x1++x2) #[] (List.replicate x.toNat items)).size≤sizeLine) :
 Meets (Builtin.«tuple.__mul__» ⟨[.ref l,.int x u],[]⟩) (fun _ R s=>s.heap.get? l=some { cls:=.type "tuple",dict:=dd,data:=.seq items n,slots:=sl }∧R (.ok (.ret (Value.ref s.heap.objs.size))) { s with heap:=s.heap.push { cls:=Value.type "tuple",data:=Data.seq (List.foldl (fun x1 x2=>x1++x2) #[] (List.replicate x.toNat items)) },toks:=s.toks }):=
 .of_wp fun prog w A R s h=>by
  obtain ⟨hp,g,d,tk,os⟩:=s;obtain ⟨hl,h⟩:=h;have f1:=AutoSeq1.idx_int;have f2:=AutoSeq1.sub_tuple_tuple;have f3:=AutoSeq1.sub_list_list;have f4:=AutoSeq1.sub_tuple_list;have f5:=AutoSeq1.sub_list_tuple
  wp_walk using wpAny_loadPart' hl
  refine wpAny_ite_split (fun z=>absurd z (by rw [hc0];decide)) fun _=>?_
  wp_walk using wpAny_loadPart' hl
  refine wpAny_ite_split (fun z=>absurd z hc3) fun _=>?_
  wp_walk using wpAny_loadPart' hl
  exact ⟨_,rfl,h⟩
end L2
namespace L2
open PySem PySem.Spec PyProof.Rows
open AutoSeq1 (wpAny_loadPart')
def QO (K:PySem.W.Frag):R2:=fun x y H Q=>∃a k xs,x = .ref a∧y = .int k∧SqT K H a xs∧-(2 ^ 62)≤k∧k < 2 ^ 62∧xs.length * k.toNat≤sizeLine∧
 ((xs=[]∨k=1)→Q (.ref a) H)∧(¬(xs=[]∨k=1)→∀p,H p=none→Q (.ref p) (upd H p (.tup (List.replicate k.toNat xs).flatten)))
theorem Inv.tnew {X:Cx} {pins:List (Addr×Obj)} {σ:L2.St} {H:Hp} {s:Shared} {ys:List V} {its:List Value} {t':Nat} (I:Inv X pins σ H s) (hv:Vals ys its) (hz:ys.length≤sizeLine) :
 Inv X pins σ (upd H s.heap.objs.size (.tup ys)) { s with heap:=s.heap.push { cls:=.type "tuple",data:=.seq its.toArray },toks:=t' }:=
 I.laid (fun b u e=>Heap.get?_push_of_some _ e) (Nat.le_refl _) ⟨hz,its,hv,⟨_,Heap.get?_push_size _ rfl,rfl,_,rfl⟩⟩
theorem op_mulT {X:Cx}:OpR X (binaryOp .Mult) (QO X.K):=by
 intro pins s σ H x y v u Q I rx ry h
 obtain ⟨a,k,xs,rfl,rfl,hq,h1,h2,hz,q1,q2⟩:=h
 cases rx
 obtain ⟨t,rfl⟩:=ry
 obtain ⟨its,r,⟨⟨cls,dd,data,sl⟩,ho,hc,n,hd⟩,z⟩:=I.tuple hq
 simp only at hc hd
 subst hc hd
 have hl:=r.length
 have hc0:(decide (k < -(2 ^ 63)) || decide (k ≥ 2 ^ 63))=false:=by
  rw [Bool.or_eq_false_iff];exact ⟨decide_eq_false (by lia),decide_eq_false (by lia)⟩
 refine wpAny_binaryOp_repeat_ref (T:="tuple") (U:="int") (by decide) ⟨_,ho,rfl⟩ (fun s'=>typeIs_int s' k t) Hq F.fills_int_mul F.slot_int_rmul LQ F.slot_int_index.lookup
  (call_meets F.slot_int_rmul (typeIs_int s k t) F.entry_int_rmul (F.args_int_rmul_2 _ _) (Jz k t a its.toArray n dd sl) ⟨ho,rfl,⟨_,ho,rfl⟩,?_⟩)
 by_cases hs:xs=[]∨k=1
 ·have hc1:(its.toArray.isEmpty || k == 1)=true:=by
   rw [Bool.or_eq_true]
   rcases hs with z | z
   ·subst z;cases r;exact .inl rfl
   ·exact .inr (by simp [z])
  exact call_meets F.slot_tuple_mul ⟨_,ho,rfl⟩ F.entry_tuple_mul (F.args_tuple_mul_2 _ _) (Mp a its.toArray n dd sl k t hc0 hc1) ⟨ho,.ref a,H,I,rfl,q1 hs⟩
 ·have hne:its≠[]:=fun z=>hs (.inl (by subst z;cases r;rfl))
  have hk1:k≠1:=fun z=>hs (.inr z)
  have hem:its.toArray.isEmpty=false:=by cases its with | nil=>exact absurd rfl hne | cons _ _=>rfl
  have hc1:(its.toArray.isEmpty || k == 1)=false:=by rw [hem];simpa using hk1
  by_cases hk:k≤0
  ·have hc2:(decide (k≤0) || its.toArray.isEmpty)=true:=by rw [decide_eq_true hk];rfl
   refine call_meets F.slot_tuple_mul ⟨_,ho,rfl⟩ F.entry_tuple_mul (F.args_tuple_mul_2 _ _) (Mq a its.toArray n dd sl k t hc0 hc1 hc2) ⟨ho,?_⟩
   have hk0:k.toNat=0:=by lia
   refine ⟨.ref _,_,I.tnew (t':=s.toks) (ys:=[]) (its:=[]) .nil (Nat.zero_le _),rfl,?_⟩
   have:=q2 hs _ I.fresh
   rw [hk0] at this
   exact this
  ·have hc2:(decide (k≤0) || its.toArray.isEmpty)=false:=by rw [decide_eq_false hk,hem];rfl
   have hsz:its.length * k.toNat≤sizeLine:=by rw [←hl];exact hz
   have hmul:((its.toArray.size:Nat):Int) * k=((its.length * k.toNat:Nat):Int):=by
    rw [List.size_toArray,Int.natCast_mul,Int.toNat_of_nonneg (by lia)]
   have hline:(sizeLine:Nat)≤(2 ^ 63 - 1) / 8:=by decide
   have hc3:¬(its.toArray.size:Int) * k > (2 ^ 63 - 1) / 8:=by rw [hmul];lia
   have hc4:Builtin.Tuple.tupleTooMany ((its.toArray.size:Int) * k)=false:=by
    unfold Builtin.Tuple.tupleTooMany;rw [hmul];exact decide_eq_false (by lia)
   have f0:List.foldl (fun x1 x2=>x1++x2) #[] (List.replicate k.toNat its.toArray)=(List.replicate k.toNat its).flatten.toArray:=by
    have:=Gj its k.toNat []
    rw [List.nil_append] at this
    exact this
   have hfz:(List.foldl (fun x1 x2=>x1++x2) #[] (List.replicate k.toNat its.toArray)).size≤sizeLine:=by
    rw [f0,List.size_toArray,Jj,Nat.mul_comm];exact hsz
   refine call_meets F.slot_tuple_mul ⟨_,ho,rfl⟩ F.entry_tuple_mul (F.args_tuple_mul_2 _ _) (Mr a its.toArray n dd sl k t hc0 hc1 hc2 hc3 hc4 hfz) ⟨ho,?_⟩
   rw [f0]
   exact ⟨.ref _,_,I.tnew (t':=s.toks) (r.rep k.toNat) (by rw [Jj,Nat.mul_comm];exact hz),rfl,q2 hs _ I.fresh⟩
theorem Go (l:Addr) (items:Array Value) (n:Nat) (b:Addr) (items2:Array Value) (n2:Nat) (dd:Option Addr) (sl:Array (Option Value)) (hs0:¬(!items.isEmpty && Builtin.List.listTooLong (items.size + items2.size))=true) (hs1:items.size≤sizeLine) (hs2:items.size + items2.size≤sizeLine + 1) :
 Meets (Builtin.«list.extend» ⟨[.ref l,.ref b],[]⟩) (fun _ R s=>s.heap.get? l=some { cls:=.type "list",dict:=none,data:=.seq items n,slots:=#[] }∧s.heap.get? b=some { cls:=.type "tuple",dict:=dd,data:=.seq items2 n2,slots:=sl }∧R (.ok (.ret Value.none)) { s with heap:=s.heap.update l (Obj.mapSeq fun x=>x++items2),toks:=s.toks }):=
 .of_wp fun prog w A R s h=>by
  obtain ⟨hp,g,d,tk,os⟩:=s;obtain ⟨hl,hb,h⟩:=h;have f1:=AutoSeq1.idx_int;have f2:=AutoSeq1.sub_tuple_tuple;have f3:=AutoSeq1.sub_list_list;have f4:=AutoSeq1.sub_tuple_list;have f5:=AutoSeq1.sub_list_tuple
  have hz':(items++items2).size≤sizeLine + 1:=by rw [Array.size_append];exact hs2
  wp_walk using (wpAny_updateSeq hl rfl (hz:=hs1) (_hz':=hz')),wpAny_loadPart' hl,wpAny_loadPart' hb;exact ⟨_,rfl,h⟩
def LM (K:PySem.W.Frag):V→List V→Hp→VK→Prop:=fun x vs H Q=>∃l b xs zs,x = .ref l∧vs=[.ref b]∧H l=some (.lst xs)∧SqT K H b zs∧xs.length + zs.length≤sizeLine∧Q .non (upd H l (.lst (xs++zs)))
theorem Nu {X:Cx}:MtM X "list.extend" (LM X.K):=by
 intro pins s σ H x vs v us Q I rx rv h
 obtain ⟨l,b,xs,zs,rfl,rfl,hH,hB,hz,q⟩:=h
 cases rx
 obtain ⟨u,rfl,ru⟩:=rv.one
 cases ru
 obtain ⟨z,its,n,r,hl,e⟩:=I.lstM hH
 obtain ⟨its2,r2,⟨⟨cls,dd,data,sl⟩,ho,hc,n2,hd⟩,z2⟩:=I.tuple hB
 simp only at hc hd
 subst hc hd
 have hl2:=r2.length
 have hsz:its.toArray.size + its2.toArray.size≤sizeLine:=by rw [List.size_toArray,List.size_toArray];lia
 have hlong:¬(!its.toArray.isEmpty && Builtin.List.listTooLong (its.toArray.size + its2.toArray.size))=true:=by
  rw [Hs hsz,Bool.and_false]
  exact Bool.false_ne_true
 refine call_meets F.slot_list_extend ⟨_,e,rfl⟩ F.entry_list_extend (F.args_list_extend_2 _ _)
  (Go l its.toArray n b its2.toArray n2 dd sl hlong (by rw [List.size_toArray];lia) (by lia)) ⟨e,ho,?_⟩
 refine ⟨.non,_,I.lset (its':=its++its2) hH e (by simp) (r.append r2) ?_,rfl,q⟩
 rw [List.length_append]
 lia
theorem MtM.or {X:Cx} {id:String} {r r':V→List V→Hp→VK→Prop} (h:MtM X id r) (h':MtM X id r'):MtM X id (fun x xs H Q=>r x xs H Q∨r' x xs H Q):=by
 intro pins s σ H x xs v us Q I rx rv q
 rcases q with q | q
 ·exact h pins s σ H x xs v us Q I rx rv q
 ·exact h' pins s σ H x xs v us Q I rx rv q
section
variable {X:Cx} {a b c d:Expr} {ta tb tc td:TE} {pos:Pos}
end
end L2
namespace F2
open PySem L2 PySem.Spec
section
variable {K:PySem.W.Frag}
def Bs (x y:D):M D:=match x,y with
 | .tup [],.tup ys=>ret (.tup ys)
 | x,y=>Pc x y
def QH (K:PySem.W.Frag):R2:=fun x y H Q=>NB K x y H Q∨QI K x y H Q
theorem Bc {X:Cx}:OpR X (binaryOp .Add) (QH X.K):=op_add4.or RW
theorem AY:BT K (QH K) Bs:=fun {Oo c t σ H x y dx dy r t' Q} f rx ry eq k=>by
 unfold Bs at eq
 split at eq
 ·next ys=>
  cases eq
  cases rx with
  | tup h1 h2 h3=>
    cases h3
    cases ry with
    | tup g1 g2 g3=>exact .inr ⟨_,_,_,rfl,rfl,SqT.of h1,SqT.of g1,k _ H c f .refl (.tup g1 g2 g3)⟩
 ·exact .inl (Sm f rx ry eq k)
def Ls:D→D→M D
 | .int i,.int j=>fun t=>if FR i j=true then some (.int (i * j),t) else none
 | .tup xs,.int k=>fun t=>if B1 k=true∧xs.length * k.toNat≤LIM then some (.tup (List.replicate k.toNat xs).flatten,t) else none
 | .lst xs,.int k=>fun t=>if B1 k=true∧xs.length * k.toNat≤LIM then some (.lst (List.replicate k.toNat xs).flatten,t) else none
 | _,_=>fail
def NE (K:PySem.W.Frag):R2:=fun x y H Q=>rI CMul (fun i j=>.int (i * j)) x y H Q∨(QO K x y H Q∨T9 x y H Q)
theorem op_mul3 {X:Cx}:OpR X (binaryOp .Mult) (NE X.K):=op_mul.or (op_mulT.or TC)
theorem Sq:BT K (NE K) Ls:=fun {Oo c t σ H x y dx dy r t' Q} f rx ry eq k=>by
 cases ry with
 | int j=>
   cases rx with
   | int i=>
     unfold Ls at eq
     dsimp only at eq
     split at eq
     ·next h=>cases eq;exact .inl ⟨i,j,rfl,rfl,OA h,k _ H c f .refl (.int _)⟩
     ·cases eq
   | @tup a vs ds h1 h2 h3=>
     unfold Ls at eq
     dsimp only at eq
     split at eq
     ·next h=>
      cases eq
      obtain ⟨g1,g2⟩:=DN h.1
      refine .inr (.inl ⟨a,j,vs,rfl,rfl,SqT.of h1,g1,g2,by rw [h3.length];exact Nat.le_trans h.2 Cm,fun hs=>?_,fun hs p hp=>?_⟩)
      ·rcases hs with z | z
       ·subst z
        have:ds=[]:=List.length_eq_zero_iff.mp h3.length.symm
        subst this
        have e:(List.replicate j.toNat ([]:List D)).flatten=[]:=by simp
        rw [e] at k
        exact k _ H c f .refl (.tup h1 h2 h3)
       ·subst z
        have e:(List.replicate (1:Int).toNat ds).flatten=ds:=by simp
        rw [e] at k
        exact k _ H c f .refl (.tup h1 h2 h3)
      ·exact k _ _ c (f.laid hp) (f.stp_laid hp) (.tup A1 (f.s.free hp) ((h3.rep j.toNat).mono (Ext.laid f.s hp)))
     ·cases eq
   | @lst a vs ds h1 h2 h3=>
     unfold Ls at eq
     dsimp only at eq
     split at eq
     ·next h=>
      cases eq
      obtain ⟨g1,g2⟩:=DN h.1
      refine .inr (.inr ⟨a,j,vs,rfl,rfl,h1,by lia,by lia,by rw [h3.length];exact Nat.le_trans h.2 Cm,fun p hp=>?_⟩)
      exact k _ _ c (f.laid hp) (f.stp_laid hp) (.lst A1 (f.s.free hp) ((h3.rep j.toNat).mono (Ext.laid f.s hp)))
     ·cases eq
   | _=>cases eq
 | _=>cases rx <;> cases eq
end
section
variable {X:Cx} {e a b:Expr} {pos:Pos}
def Do (xs:List D):List D→Option (List D)
 | [d]=>if xs.length < LIM then some (xs++[d]) else none
 | _=>none
def FG (xs:List D):List D→Option (List D)
 | [.lst ys]=>if xs.length + ys.length≤LIM then some (xs++ys) else none
 | [.tup ys]=>if xs.length + ys.length≤LIM then some (xs++ys) else none
 | _=>none
def ownM (i:Nat) (h:List D→List D→Option (List D)) (g:M (List D)):M Out:=fun t=>match t.env[i]? with
 | some (some (.own _))=>bnd g (fun ds t1=>match t1.env[i]? with
   | some (some (.own xs))=>(h xs ds).map fun ys=>(.next,{ t1 with env:=t1.env.set i (some (.own ys)) })
   | _=>none) t
 | _=>none
def M3 (K:PySem.W.Frag) (R:V→List V→Hp→VK→Prop) (h:List D→List D→Option (List D)):Prop:=∀{c:Cf} {S:List Ob} {H:Hp} {a:Addr} {vs us:List V} {xs ds ys:List D} {Q:VK},SInv K c S H→H a=some (.lst vs)→Reps K c H vs xs→Reps K c H us ds→h xs ds=some ys→
 (∀ws,Reps K c H ws ys→Q .non (upd H a (.lst ws)))→R (.ref a) us H Q
theorem Sn {K:PySem.W.Frag}:M3 K MN Do:=fun {c S H a vs us xs ds ys Q} s h r rs e k=>by
 unfold Do at e
 split at e
 ·next d=>
  split at e
  ·next hl=>
   cases e
   obtain ⟨v,rfl,rv⟩:=Ed rs
   exact ⟨a,vs,v,rfl,rfl,h,by rw [r.length];exact Nat.lt_of_lt_of_le hl Cm,k _ (r.append (.cons rv .nil))⟩
  ·cases e
 ·cases e
def QK (K:PySem.W.Frag):V→List V→Hp→VK→Prop:=fun x xs H Q=>MO x xs H Q∨LM K x xs H Q
theorem MH {X:Cx}:MtM X "list.extend" (QK X.K):=mt_extend.or Nu
theorem MS {K:PySem.W.Frag}:M3 K (QK K) FG:=fun {c S H a vs us xs ds ys Q} s h r rs e k=>by
 unfold FG at e
 split at e
 ·split at e
  ·next hl=>
   cases e
   obtain ⟨v,rfl,rv⟩:=Ed rs
   cases rv with
   | lst h1 h2 h3=>exact .inl ⟨a,_,vs,_,rfl,rfl,h,h1,by rw [r.length,h3.length];exact Nat.le_trans hl Cm,k _ (r.append h3)⟩
  ·cases e
 ·split at e
  ·next hl=>
   cases e
   obtain ⟨v,rfl,rv⟩:=Ed rs
   cases rv with
   | tup h1 h2 h3=>exact .inr ⟨a,_,vs,_,rfl,rfl,h,SqT.of h1,by rw [r.length,h3.length];exact Nat.le_trans hl Cm,k _ (r.append h3)⟩
  ·cases e
 ·cases e
theorem RS.ownM {μ:Cf→Hp→D→(V→Hp→Prop)→Prop} {K:PySem.W.Frag} {i:Nat} {h:List D→List D→Option (List D)} {g:M (List D)} {R:V→List V→Hp→VK→Prop} (s:M3 K R h) {E:Ends} {σ:L2.St} {H:Hp} (q:RSg K μ (F2.ownM i h g) E σ H):QT (tBM K "list" R (Uq i) (RA K g)) E σ H:=by
 obtain ⟨Oo,c,t,fi,o,t',eq,k⟩:=q
 unfold F2.ownM at eq
 split at eq
 ·next xs0 e0=>
  obtain ⟨ds,t1,e1,eq⟩:=Aq eq
  obtain ⟨a,vs0,h1,h2,h3,h4,h5⟩:=fi.own i xs0 e0
  refine ⟨.ref a,h1,.inl ⟨rfl,vs0,SqL.of h4⟩,Oo,c,t,fi,ds,t1,e1,fun us H1 c1 f1 s1 rus=>?_⟩
  split at eq
  ·next xs ex=>
   obtain ⟨ys,ey,ez⟩:=Option.map_eq_some_iff.mp eq
   cases ez
   obtain ⟨a',vs,g1,g2,g3,g4,g5⟩:=f1.own i xs ex
   rw [h1] at g1;injection g1 with g1;injection g1 with g1;injection g1 with g1;subst g1
   refine s f1.s g4 g5 rus ey fun ws rws=>?_
   obtain ⟨f2,s2⟩:=f1.wrOwn ex h1 rws
   exact k σ _ c1 f2 (s1.trans s2)
  ·cases eq
 ·cases eq
theorem Oi {μ:Cf→Hp→D→(V→Hp→Prop)→Prop} (i:Nat) {x:Str} {es:List Expr} {g:M (List D)} {px apos cpos:Pos} (ha:PA X (e :: es) (RA X.K g)) (hN:X.N[i]?=some x:=by rfl) (hv:Vis X.env.scope x:=by first | exact Or.inl rfl | exact Or.inr (Or.inl rfl) | exact Or.inr (Or.inr rfl)) (hd:(x == ("__debug__" : Str))=false:=by decide)
 (hcd:(x == ("__classdict__" : Str))=false:=by decide)
 (hbase:attributeBase (.Name x px) "append" X.env (eval (.Name x px) X.env)=eval (.Name x px) X.env:=by rfl)
 (hfew:((backTo cpos (starEach (e :: es) X.env)).all (fun x=>!x.1) && (backToKw cpos (keywordEach [] X.env)).all (fun x=>x.1.isSome) && decide ((e :: es).length + ([]:List Keyword).length + (if ([]:List Keyword).isEmpty then 0 else 1) < 30))=true:=by rfl)
 (hline:(apos.endLine == cpos.line)=true:=by rfl) (hs:starEach (e :: es) X.env=(false,eval e X.env) :: starEach es X.env:=by rfl) (hplain:(backTo cpos (starEach es X.env)).any (·.1)=false:=by rfl) :
 PS X (.Expr (.Call (.Attribute (.Name x px) "append" apos) (e :: es) [] cpos) pos) (RSg X.K μ (ownM i Do g)):=
 B9 (GQ (Ku PySem.F.plainAttrs_list PySem.F.slot_list_append PySem.F.type_list_append Oz (Ft hN hv hd hcd) ha hbase hfew hline hs hplain)) fun _ _ _ q=>RS.ownM Sn q
theorem Oj {μ:Cf→Hp→D→(V→Hp→Prop)→Prop} (i:Nat) {x:Str} {es:List Expr} {g:M (List D)} {px apos cpos:Pos} (ha:PA X (e :: es) (RA X.K g)) (hN:X.N[i]?=some x:=by rfl) (hv:Vis X.env.scope x:=by first | exact Or.inl rfl | exact Or.inr (Or.inl rfl) | exact Or.inr (Or.inr rfl)) (hd:(x == ("__debug__" : Str))=false:=by decide)
 (hcd:(x == ("__classdict__" : Str))=false:=by decide)
 (hbase:attributeBase (.Name x px) "extend" X.env (eval (.Name x px) X.env)=eval (.Name x px) X.env:=by rfl)
 (hfew:((backTo cpos (starEach (e :: es) X.env)).all (fun x=>!x.1) && (backToKw cpos (keywordEach [] X.env)).all (fun x=>x.1.isSome) && decide ((e :: es).length + ([]:List Keyword).length + (if ([]:List Keyword).isEmpty then 0 else 1) < 30))=true:=by rfl)
 (hline:(apos.endLine == cpos.line)=true:=by rfl) (hs:starEach (e :: es) X.env=(false,eval e X.env) :: starEach es X.env:=by rfl) (hplain:(backTo cpos (starEach es X.env)).any (·.1)=false:=by rfl) :
 PS X (.Expr (.Call (.Attribute (.Name x px) "extend" apos) (e :: es) [] cpos) pos) (RSg X.K μ (ownM i FG g)):=
 B9 (GQ (Ku PySem.F.plainAttrs_list PySem.F.slot_list_extend PySem.F.type_list_extend MH (Ft hN hv hd hcd) ha hbase hfew hline hs hplain)) fun _ _ _ q=>RS.ownM MS q
def objM (h:List D→List D→Option (List D)) (f:M D) (g:M (List D)):M D:=bnd f fun o=>match o with
 | .obj k=>fun t=>match t.S[k]? with
   | some (.lst _)=>bnd g (fun ds t1=>match t1.S[k]? with
     | some (.lst xs)=>(h xs ds).map fun ys=>(.non,{ t1 with S:=t1.S.set k (.lst ys) })
     | _=>none) t
   | _=>none
 | _=>fail
theorem RE.objM {K:PySem.W.Frag} {h:List D→List D→Option (List D)} {f:M D} {g:M (List D)} {R:V→List V→Hp→VK→Prop} (s:M3 K R h) {σ:L2.St} {H:Hp} {Q:VK} (q:RE K (F2.objM h f g) σ H Q):tBM K "list" R (RE K f) (RA K g) σ H Q:=by
 obtain ⟨Oo,c,t,fi,r,t',eq,k⟩:=q
 obtain ⟨o,t0,e0,eq⟩:=Aq eq
 refine ⟨Oo,c,t,fi,o,t0,e0,fun x H0 c0 f0 s0 rx=>?_⟩
 cases rx with
 | @obj a kk hk=>
   dsimp only at eq
   split at eq
   ·next xs0 ex0=>
    obtain ⟨ds,t1,e1,eq⟩:=Aq eq
    obtain ⟨vs0,g0,g0'⟩:=f0.s.obs kk a _ hk ex0
    refine ⟨.inl ⟨rfl,vs0,SqL.of g0⟩,Oo,c0,t0,f0,ds,t1,e1,fun us H1 c1 f1 s1 rus=>?_⟩
    split at eq
    ·next xs ex=>
     obtain ⟨ys,ey,ez⟩:=Option.map_eq_some_iff.mp eq
     cases ez
     have hk1:=s1.ext.io _ _ hk
     obtain ⟨vs,g1,g2⟩:=f1.s.obs kk a _ hk1 ex
     refine s f1.s g1 g2 rus ey fun ws rws=>?_
     obtain ⟨f2,s2⟩:=f1.wrObj (o:=.lst ys) (u:=.lst ws) hk1 fun c' H' ext hu=>⟨ws,hu,rws.mono ext⟩
     exact k _ _ c1 f2 ((s0.trans s1).trans s2) .non
    ·cases eq
   ·cases eq
 | _=>cases eq
def Uk (o i d:D):M Unit:=match o,i with
 | .obj k,.int j=>fun t=>match t.S[k]? with
   | some (.lst xs)=>(ixN xs.length j).map fun n=>((),{ t with S:=t.S.set k (.lst (xs.set n d)) })
   | _=>none
 | _,_=>fail
def stD (f g:M D) (d:D):M Unit:=bnd f fun o=>bnd g fun i=>Uk o i d
end
section
variable {X:Cx} {e a b tg iter elt:Expr} {ifs:List Expr} {pos:Pos} {scope:Scope} {N':List Str} {n:Nat} {fr:List Nat} {f:M (List D)} {st:D→M Unit} {tst:M Bool} {el:M D}
def FX:M Bool:=ret true
theorem Fj:PIf X [] (RT X.K FX):=fun pins s σ H Q I ⟨Oo,c,t,fi,r,t',eq,k⟩=>R8 pins s σ H Q I (by cases eq;exact k H c fi .refl)
theorem Rk {g:M Bool} (h:PT X e (RT X.K g)):PIf X [e] (RT X.K g):=R9 h
theorem EA (O:CmpOk X scope N' (Gc n fr)) (hc:X.calm=true) (hi:PI X tg iter (RI X.K f))
 (hg:∀cl C s2 H2 fp,PG (Dp X N' scope cl C s2 H2 fp) tg (RG X.K st)) (ht:∀cl C s2 H2 fp,PIf (Dp X N' scope cl C s2 H2 fp) ifs (RT X.K tst)) (he:∀cl C s2 H2 fp,PE (Dp X N' scope cl C s2 H2 fp) elt (RE X.K el))
 (hs:∀x,foldedSetIterable iter X.env x=pure x:=by intro _;rfl):PE X (.ListComp elt [⟨tg,iter,ifs,0⟩] scope pos) (RF X.K (DR n fr f st tst el)):=
 Bw (R4 O hc hi hg ht he hs) fun _ _ _ q=>RF.comp q
theorem Fi (tgs:List Str) (frn:List (Nat×Str)) (hk:scope.kind = .function) (hcell:(scope.names.all fun y=>y.2 != .cell)=true) (hloc:(scope.names.all fun y=>y.2 != .local || scope.names.lookup y.1 == some .local)=true)
 (hfree:(scope.names.all fun y=>y.2 != .free || X.env.kindOf y.1 == some .cell || X.env.kindOf y.1 == some .free)=true)
 (hf:(frn.all fun p=>X.N[p.1]? == some p.2 && scope.names.lookup p.2 == some .free)=true):CmpOk X scope (tgs++frn.map (·.2)) (Gc tgs.length (frn.map (·.1))):=by
 rw [List.all_eq_true] at hcell hloc hfree hf
 refine ⟨hk,fun y hy=>by simpa using hcell y hy,fun y hy hl=>?_,fun y hy hl=>?_,fun σ _=>by simp [Gc],fun σ j x v h1 h2=>?_⟩
 ·have:=hloc y hy
  simpa [hl] using this
 ·have:=hfree y hy
  simpa [hl] using this
 ·unfold Gc at h2
  by_cases hj:j < tgs.length
  ·rw [List.getElem?_append_left (by simpa using hj),List.getElem?_replicate] at h2
   split at h2 <;> simp at h2
  ·rw [List.getElem?_append_right (by simpa using hj),List.length_replicate,List.getElem?_map,List.getElem?_map] at h2
   rw [List.getElem?_append_right (by simpa using hj),List.getElem?_map] at h1
   cases e:frn[j - tgs.length]? with
   | none=>rw [e] at h1;cases h1
   | some p=>
     rw [e] at h1 h2
     simp only [Option.map_some,Option.some.injEq] at h1 h2
     have hp:=hf p (List.mem_of_getElem? e)
     rw [Bool.and_eq_true] at hp
     refine ⟨p.1,by rw [←h1];simpa using hp.1,?_,by rw [←h1];simpa using hp.2⟩
     cases e2:σ[p.1]? with
     | none=>rw [e2] at h2;cases h2
     | some o=>rw [e2] at h2;simpa using h2
end
mutual
def B8:D→Bool
 | .tup xs=>Fd xs
 | .lst xs=>Fd xs
 | .obj _=>false
 | .scr _=>false
 | .exc _ _=>false
 | _=>true
def Fd:List D→Bool
 | []=>true
 | d :: r=>B8 d && Fd r
end
def c0:Cf:=⟨[],fun _=>False⟩
theorem IR (a:Addr):¬c0.A a:=fun h=>h.elim (fun z=>nomatch z) fun z=>z
mutual
theorem Fw {K:PySem.W.Frag} {c:Cf} {H:Hp}:∀{v:V} {d:D},Rep K c H v d→B8 d=true→Rep K c0 H v d
 | _,_,.non,_=>.non
 | _,_,.bl b,_=>.bl b
 | _,_,.int i,_=>.int i
 | _,_,.str x,_=>.str x
 | _,_,.ty n,_=>.ty n
 | _,_,.tup h n r,p=>.tup h (IR _) (GR r (by simpa [B8] using p))
 | _,_,.lst h n r,p=>.lst h (IR _) (GR r (by simpa [B8] using p))
 | _,_,.scr h,p=>by simp [B8] at p
 | _,_,.dic h n,_=>.dic h (IR _)
 | _,_,.obj h,p=>by simp [B8] at p
 | _,_,.exc _ _ _ _ _,p=>by simp [B8] at p
theorem GR {K:PySem.W.Frag} {c:Cf} {H:Hp}:∀{vs:List V} {ds:List D},Reps K c H vs ds→Fd ds=true→Reps K c0 H vs ds
 | _,_,.nil,_=>.nil
 | _,_,.cons h t,p=>by
   simp only [Fd,Bool.and_eq_true] at p
   exact .cons (Fw h p.1) (GR t p.2)
end
def Dr (S:List Ob):D→D
 | .obj k=>match S[k]? with
   | some (.lst ds)=>.lst ds
   | _=>.obj k
 | d=>d
def Pz:D→Bool
 | .obj _=>true
 | _=>false
def eqS (g:Bool→Bool) (x y:D):M D:=fun t=>
 if (Pz x || Pz y)=true then (if (B8 (Dr t.S x) && B8 (Dr t.S y))=true then (eqN EQD (Dr t.S x) (Dr t.S y)).map fun b=>(.bl (g b),t) else none)
 else (eqN EQD x y).map fun b=>(.bl (g b),t)
theorem B6 {K:PySem.W.Frag} {c:Cf} {S:List Ob} {H:Hp} {v:V} {d:D} (s:SInv K c S H) (r:Rep K c H v d) (p:B8 (Dr S d)=true):Rep K c0 H v (Dr S d):=by
 cases r with
 | @obj a k hk=>
   unfold Dr at p ⊢
   dsimp only at p ⊢
   split
   ·next ds e=>
    rw [e] at p
    obtain ⟨vs,h1,h2⟩:=s.obs k a _ hk e
    exact .lst h1 (IR _) (GR h2 (by simpa [B8] using p))
   ·next h=>
    split at p
    ·next ds e=>exact absurd e (h ds)
    ·simp [B8] at p
 | non=>exact .non
 | bl b=>exact .bl b
 | int b=>exact .int b
 | str b=>exact .str b
 | ty b=>exact .ty b
 | tup h n q=>exact Fw (.tup h n q) p
 | lst h n q=>exact Fw (.lst h n q) p
 | scr h=>exact Fw (c:=c) (.scr h) p
 | dic h n=>exact Fw (.dic h n) p
 | exc a b n f q=>exact Fw (.exc a b n f q) p
theorem AT {K:PySem.W.Frag} {g:Bool→Bool}:BT K (NC K g) (eqS g):=fun {Oo c t σ H x y dx dy r t' Q} f rx ry eq k=>by
 unfold eqS at eq
 split at eq
 ·split at eq
  ·next hp=>
   rw [Bool.and_eq_true] at hp
   obtain ⟨b,e1,e2⟩:=Option.map_eq_some_iff.mp eq
   cases e2
   exact ⟨c0,_,_,b,B6 f.s rx hp.1,B6 f.s ry hp.2,e1,k _ H c f .refl (.bl (g b))⟩
  ·cases eq
 ·obtain ⟨b,e1,e2⟩:=Option.map_eq_some_iff.mp eq
  cases e2
  exact ⟨c,dx,dy,b,rx,ry,e1,k _ H c f .refl (.bl (g b))⟩
theorem Ox {K:PySem.W.Frag} {H:Hp} {a:Addr} {ns:List Int} {f:Fn} {S':List Ob} (hO:M1 H) (hS:SqL K H a (ns.map V.int)) (e:f [.scr ns] []=some (.bl true,S')):spF K f [.ref a] H (fun v _=>v = .bl true) fun _ _ _=>False:=by
 refine ⟨c0,[.scr ns],[],⟨rfl,List.Pairwise.nil,fun k a o h=>by simp [c0] at h,fun b z=>z.elim,fun b z=>z.elim⟩,.cons (.scr ?_) .nil,.bl true,S',e,fun v H' c' _ _ _ rv=>by cases rv;rfl⟩
 rcases hS with (h | h) | h
 ·rcases hO a with z | ⟨o,xs,z⟩
  ·rw [z] at h;cases h
  ·rw [z] at h;cases h
 ·exact .inl ⟨h,IR _⟩
 ·exact .inr h
end F2
namespace L2
open PySem PySem.Spec PyProof.Rows
section
variable {prog:Program} {w:World} {A:Around} {E:Value→Shared→Prop} {s:Shared}
theorem HZ {it l:Addr} {items:Array Value} (hne:l≠it):∀(n i:Nat) (s:Shared) (Q:List Value→Shared→Prop),s.heap.IsListIter it l i→s.heap.IsList l items→i + n≤items.size→
 (∀h',h'.IsListIter it l (i + n)→Heap.SameBut it s.heap h'→Q ((items.toList.drop i).take n) { s with heap:=h' })→wpAny (model prog w) A (draw (.ref it) n) Q E s
 | 0,i,s,Q,hit,_,_,hQ=>wpAny_pure (by simpa using hQ s.heap hit (Heap.SameBut.refl ..))
 | n + 1,i,s,Q,hit,ht,hle,hQ=>by
   have hlt:i < items.size:=by lia
   refine wpAny_bind (wpAny_pyNext_list_item hit ht (x:=items[i]) (by simp [hlt]) fun h1 hit1 hs1=>?_)
   refine wpAny_bind (wpAny_holding (HZ hne n (i + 1) _ _ hit1 (ht.extBut hs1.extBut hne) (by lia) fun h2 hit2 hs2=>wpAny_pure ?_))
   have hd:items.toList.drop i=items[i] :: items.toList.drop (i + 1):=by simp [List.drop_eq_getElem_cons,hlt]
   have:=hQ h2 (by rw [show i + (n + 1)=i + 1 + n by lia];exact hit2) (hs1.trans hs2)
   rw [hd,List.take_succ_cons] at this
   exact this
theorem L4 {l:Addr} {items:Array Value} {targets:List (Bool×(Value→Sem Unit))} {Q:Unit→Shared→Prop} (hh:A.handled=none) (ht:s.heap.IsList l items) (hn:targets.length=items.size) (hstar:targets.findIdx? (·.1)=none)
 (h:∀h',Heap.ExtBut s.heap.objs.size s.heap h'→wpAny (model prog w) A (assignInOrder (targets.map (·.2)) items.toList) Q E { s with heap:=h' }):wpAny (model prog w) A (unpack (.ref l) targets) Q E s:=by
 have hlt:l≠s.heap.objs.size:=by obtain ⟨o,ho,_⟩:=ht;exact Nat.ne_of_lt (Heap.lt_size ho)
 unfold unpack
 rw [hn,hstar]
 refine wpAny_bind (wpAny_holding ?_)
 unfold unpackItems
 refine wpAny_bind ?_
 unfold notIterableAtAll
 refine wpAny_bind (wpAny_specialOf ht.typeIs PySem.F.slot_list_iter.lookup ?_)
 refine wpAny_pure ?_
 simp only [Bool.false_eq_true,if_false]
 refine wpAny_bind (wpAny_holding (wpAny_pyIter_list ht ?_))
 have hp:Heap.IsList (s.heap.push { cls:=.type "list_iterator",data:=.fields #[.ref l,.int 0 0] }) l items:=by
  obtain ⟨o,ho,r⟩:=ht
  exact ⟨o,Heap.get?_push_of_some _ ho,r⟩
 refine wpAny_bind (wpAny_holding (HZ hlt items.size 0 _ _ ⟨_,Heap.get?_push_size _ rfl,rfl,rfl⟩ hp (by lia) fun h1 hit1 hs1=>?_))
 have hall:List.take items.size (List.drop 0 items.toList)=items.toList:=by
  rw [List.drop_zero];exact List.take_of_length_le (by simp)
 rw [hall]
 rw [if_neg (by simp)]
 have ht1:Heap.IsList h1 l items:=hp.extBut hs1.extBut hlt
 refine wpAny_bind (wpAny_holding (wpAny_pyNext_list_end hh hit1 ht1 (by simp) fun h2 he2=>?_))
 simp only [Option.isSome_none,Bool.false_eq_true,if_false]
 exact wpAny_pure (h h2 fun b o hb e=>he2 b o hb (hs1.extBut b o hb (Heap.get?_push_of_some _ e)))
end
section
variable {X:Cx} {pos:Pos}
def gUn (K:PySem.W.Frag) (n:Nat) (t:TGs):TG:=fun v σ H Q=>∃a xs,v = .ref a∧(SqT K H a xs∨SqL K H a xs)∧xs.length=n∧t xs σ H Q
theorem UY {es:List Expr} {k:Nat} {t:TGs} {n:Nat} (hc:X.calm=true) (h:PGs X es t)
 (hn:(assignEach es X.env).length=n:=by rfl) (hst:(assignEach es X.env).findIdx? (·.1)=none:=by rfl):PG X (.Tuple es k pos) (gUn X.K n t):=by
 intro pins s σ H v u Q I r hw
 obtain ⟨a,xs,e1,hq | hq,hl,hw⟩:=hw
 ·exact TR hc h hn hst pins s σ H v u Q I r ⟨a,xs,e1,hq,hl,hw⟩
 ·subst e1
  cases r
  obtain ⟨its,rv,ht,hz⟩:=I.list hq
  rw [assign_Tuple]
  refine wpAny_bind (wpAny_standAt (L4 (I.ok.hd hc) ht.isList (by simp [hn,←hl,rv.length]) hst fun h' hx=>?_))
  have I1:Inv X pins σ H { s with heap:=h' }:=I.kept (t':=s.toks) fun b o e=>hx b o (Nat.ne_of_lt (Heap.lt_size e)) e
  exact h pins _ σ H xs _ Q I1 (by simpa using rv) hw
end
section
open HT
variable {prog:Program} {w:World} {A:Around} {E:Value→Shared→Prop} {s:Shared}
theorem F7 {t sl:Addr} {items:Array Value} {vl vu:Value} {lo hi:Option Int} {Q:Value→Shared→Prop} (ht:IsTup s.heap t items) (hs:s.heap.IsSliceOf sl vl vu .none) (pl:IsPart vl lo) (pu:IsPart vu hi)
 (hw:sIx items.size 0 lo=0∧sIx items.size items.size hi=items.size) (h:Q (.ref t) s):wpAny (model prog w) A (getItem (.ref t) (.ref sl)) Q E s:=by
 obtain ⟨os,hos,hcs,hds⟩:=id hs
 have hTs:s.TypeIs (.ref sl) "slice":=⟨os,hos,hcs⟩
 unfold getItem
 try with_reducible refine wpAny_holding ?_
 first | refine wpAny_bind (wpAny_pure ?_) | skip
 refine wpAny_bind (wpAny_sequenceKey ht.typeIs (by decide) ?_)
 refine wpAny_bind (wpAny_callSpecial?_slot (name:=Str.ofString "__getitem__") ht.typeIs PyProof.Rows.slot_tuple_getitem
  (wpAny_call_entry PyProof.Rows.slot_tuple_getitem ht.typeIs entry_tuple_getitem ?_ (args_tuple_getitem _ _)))
 show wpAny _ _ (Builtin.Tuple.tupleItemsOf (.ref t) >>= _) _ _ s
 refine wpAny_bind (tupleItemsOf_ ht ?_)
 refine wpAny_bind (wpAny_typeOf hTs ?_)
 rw [if_pos (by decide)]
 refine wpAny_bind (ET hs pl pu ?_)
 have hyes:(((sIx items.size 0 lo:Nat):Int) == 0 && (1:Int) == 1 && (sIx items.size items.size hi - sIx items.size 0 lo) == items.size)=true:=by
  rw [hw.1,hw.2];simp
 show wpAny _ _ (if (((sIx items.size 0 lo:Nat):Int) == 0 && (1:Int) == 1 && (sIx items.size items.size hi - sIx items.size 0 lo) == items.size)=true then _ else _) _ _ s
 rw [if_pos hyes]
 refine wpAny_bind (m:=Builtin.Tuple.tupleIsExact _) ?_
 unfold Builtin.Tuple.tupleIsExact
 refine wpAny_bind (wpAny_typeOf ht.typeIs (wpAny_pure ?_))
 rw [if_pos (by decide)]
 first
  | exact wpAny_bind (wpAny_rule (wpAny_pure ⟨_,rfl,wpAny_pure h⟩))
  | exact wpAny_bind (wpAny_rule (wpAny_bind (wpAny_pure (wpAny_pure ⟨_,rfl,wpAny_pure h⟩))))
end
section
variable {X:Cx}
def Ue (K:PySem.W.Frag):V→Option Int→Option Int→Hp→VK→Prop:=fun x lo hi H Q=>∃a xs,x = .ref a∧SqT K H a xs∧(HT.sIx xs.length 0 lo=0∧HT.sIx xs.length xs.length hi=xs.length)∧Q (.ref a) H
theorem Sw:SlR X (Ue X.K):=by
 intro pins s σ H x v vl vu lo hi sl Q I rx hs pl pu h
 obtain ⟨a,xs,rfl,hx,hw,q⟩:=h
 cases rx
 obtain ⟨its,r,ht,hz⟩:=I.tuple hx
 have hlen:its.toArray.size=xs.length:=by rw [List.size_toArray];exact r.length.symm
 exact ⟨"tuple",_,PyProof.Rows.slot_tuple_getitem.lookup,ht.typeIs,F7 ht hs pl pu (by rw [hlen];exact hw) ⟨.ref a,H,I,rfl,q⟩⟩
end
def Its (z:Str):It:=⟨fun i _=>i < z.cps.size,fun i H x H'=>H'=H∧∃c,z.cps[i]?=some c∧x = .str ⟨#[c]⟩,fun i _=>i=z.cps.size⟩
theorem L3 {P:Program} {w:World} {K:PySem.W.Frag} {tg:Expr} {T:String} {x:Str} {t:Tok} (it:Addr) (hT:["enumerate", "zip", "dict_itemiterator", "dict_reverseitemiterator", "odict_iterator", "itertools.zip_longest", "itertools.pairwise"].contains T=false)
 (W:∀A:Around,A.handled=none→Walks P w A it [it] [it] x.cps.size (SignAt x) (fun i h=>h.IsStrIter it T x t i))
 (self:∀(A:Around) (i:Nat) (s:Shared) (Q:Value→Shared→Prop) (E:Value→Shared→Prop),s.heap.IsStrIter it T x t i→Q (.ref it) s→wpAny (model P w) A (pyIter (.ref it)) Q E s) :
 Turn P w K tg (Its x) [it] it (fun i h=>h.IsStrIter it T x t i) where
 mem:=by simp
 obj:=fun i h st b hb=>by
  have e:b=it:=by simpa using hb
  subst e
  obtain ⟨o,e,c,d⟩:=st
  exact ⟨o,e,fun v z=>by rw [d] at z;cases z⟩
 keep:=fun i h h' st k=>by
  obtain ⟨o,e,r⟩:=st
  exact ⟨o,k it (by simp) o e,r⟩
 item:=by
  intro X hP hw hK hc i pins s σ H E I hf st hg
  subst hP hw hK
  obtain ⟨f0,f1,f2,f3,f4,f5⟩:=hf it (by simp)
  refine (W X.A (I.ok.hd hc)).item i s _ _ hg st fun v h' tk hv st' kk=>?_
  obtain ⟨c,u,hcc,rfl⟩:=hv
  have I1:Inv X pins σ H { s with heap:=h',toks:=tk }:=I.turned (fun b o hb e=>kk b o (by simpa using hb) e) f0 f1 f3 f4 f5
  obtain ⟨o,e,ec,ed⟩:=id st'
  exact ⟨_,rfl,Ks (s:={ s with heap:=h',toks:=tk }) e ec ed hT ⟨.str ⟨#[c]⟩,H,I1,⟨u,rfl⟩,⟨rfl,c,hcc,rfl⟩,st',fun b hb=>(hf b hb).1⟩⟩
 done:=by
  intro X hP hw hK hc i pins s σ H E I hf st hg
  subst hP hw hK
  obtain ⟨f0,f1,f2,f3,f4,f5⟩:=hf it (by simp)
  have hg':i=x.cps.size:=hg
  subst hg'
  exact (W X.A (I.ok.hd hc)).done s _ _ st fun h' tk kk=>⟨rfl,I.turned (fun b o hb e=>kk b o (by simpa using hb) e) f0 f1 f3 f4 f5⟩
 self:=fun A i s Q E st h=>self A i s Q E st h
section
variable {X:Cx} {tg:Expr} {pos:Pos}
def Wc (K:PySem.W.Frag) (tl:TE):TI:=fun σ H R=>tl σ H fun x H1=>(∃a,x = .ref a∧(∃xs,SqL K H1 a xs)∧R (Itl K a) H1)∨(∃a,x = .ref a∧(∃xs,SqT K H1 a xs)∧R (Itt K a) H1)∨∃z,x = .str z∧R (Its z) H1
theorem TU {l:Expr} {tl:TE} (hl:PE X l tl):PI X tg l (Wc X.K tl):=by
 intro pins s σ H R I h
 refine thn (hl pins s σ H _ I h) fun v s1 ⟨x,H1,I1,r1,q1⟩=>?_
 have fp:∀b∈[s1.heap.objs.size],FpOk X pins H1 b:=fun b hb=>by
  have e:b=s1.heap.objs.size:=by simpa using hb
  subst e
  exact I1.fpOk (Nat.le_refl _) (I1.hok.fresh (Nat.le_refl _))
 rcases q1 with ⟨a,rfl,⟨xs,hq⟩,q⟩ | ⟨a,rfl,⟨xs,hq⟩,q⟩ | ⟨z,rfl,q⟩
 ·cases r1
  obtain ⟨its,rv,p,hz⟩:=I1.list hq
  refine wpAny_pyIter_list p.isList ?_
  exact ⟨s1.heap.objs.size,[s1.heap.objs.size],_,_,H1,rfl,I1.kept (t':=s1.toks) fun b o e=>Heap.get?_push_of_some _ e,O0 a _,⟨_,Heap.get?_push_size _ rfl,rfl,rfl⟩,fp,q⟩
 ·cases r1
  obtain ⟨its,rv,p,hz⟩:=I1.tuple hq
  refine wpAny_pyIter_tuple (show s1.heap.IsTuple a its.toArray from p) ?_
  exact ⟨s1.heap.objs.size,[s1.heap.objs.size],_,_,H1,rfl,I1.kept (t':=s1.toks) fun b o e=>Heap.get?_push_of_some _ e,NO a _,⟨_,Heap.get?_push_size _ rfl,rfl,rfl⟩,fp,q⟩
 ·obtain ⟨t,rfl⟩:=r1
  cases ha:z.cps.all (· < 128)
  ·refine wpAny_pyIter_wide ha ?_
   exact ⟨s1.heap.objs.size,[s1.heap.objs.size],_,_,H1,rfl,I1.kept (t':=s1.toks) fun b o e=>Heap.get?_push_of_some _ e,L3 (T:="str_iterator") (x:=z) (t:=t) _ (by decide) (fun A hA=>Walks.strWide hA _ z t) (fun _ _ _ _ _ st h=>wpAny_pyIter_striter_wide st h),⟨_,Heap.get?_push_size _ rfl,rfl,rfl⟩,fp,q⟩
  ·refine wpAny_pyIter_ascii ha ?_
   exact ⟨s1.heap.objs.size,[s1.heap.objs.size],_,_,H1,rfl,I1.kept (t':=s1.toks) fun b o e=>Heap.get?_push_of_some _ e,L3 (T:="str_ascii_iterator") (x:=z) (t:=t) _ (by decide) (fun A hA=>Walks.strAscii hA _ z t) (fun _ _ _ _ _ st h=>wpAny_pyIter_striter_ascii st h),⟨_,Heap.get?_push_size _ rfl,rfl,rfl⟩,fp,q⟩
def QN:R2:=fun x y H Q=>∃z k,x = .str z∧y = .int k∧MulOk z k∧Q (.str (Txt.mul z k)) H
theorem RZ:OpR X (binaryOp .Mult) QN:=by
 intro pins s σ H x y v u Q I rx ry h
 obtain ⟨z,k,rfl,rfl,hk,q⟩:=h
 obtain ⟨t,rfl⟩:=rx
 obtain ⟨t',rfl⟩:=ry
 exact SB.mul hk fun t2 tk=>⟨.str _,H,I.tok tk,⟨t2,rfl⟩,q⟩
def Uc:V→Option Int→Option Int→Hp→VK→Prop:=fun x lo hi H Q=>∃z,x = .str z∧z.length≤sizeLine∧Q (.str (Txt.slice z lo hi)) H
theorem sl_str:SlR X Uc:=by
 intro pins s σ H x v vl vu lo hi sl Q I rx hs pl pu h
 obtain ⟨z,rfl,hz,q⟩:=h
 obtain ⟨t,rfl⟩:=rx
 refine ⟨"str",_,PySem.F.slot_str_getitem.lookup,typeIs_str _ _ _,?_⟩
 have part:∀{v:Value} {o:Option Int},IsPart v o→∃l:Option (Int×Tok),v=partValue l∧l.map (·.1)=o:=fun {v o} p=>by
  cases p with
  | none=>exact ⟨none,rfl,rfl⟩
  | int i t=>exact ⟨some (i,t),rfl,rfl⟩
 obtain ⟨l,rfl,el⟩:=part pl
 obtain ⟨u,rfl,eu⟩:=part pu
 refine wpAny_getItem_str_slice (l:=l) (u:=u) (st:=none) (by obtain ⟨o,h1,h2,h3⟩:=hs;exact ⟨o,h1,h2,h3⟩) rfl ?_
 unfold sliceMade slicePicked
 rw [el,eu]
 show (if ((1:Int) == 1 && (Builtin.Str.strSliceIndices lo hi 1 z.length).length == z.length)=true then Made.val (.str z t) else Made.str ⟨((Builtin.Str.strSliceIndices lo hi 1 z.length).filterMap (z.cps[·]?)).toArray⟩).post _ s
 have hle:=Txt.slice_le z lo hi
 unfold Txt.slice at q hle
 by_cases hc:((1:Int) == 1 && (Builtin.Str.strSliceIndices lo hi 1 z.length).length == z.length)=true
 ·rw [if_pos hc] at q ⊢
  exact ⟨.str z,H,I,⟨t,rfl⟩,q⟩
 ·rw [if_neg hc] at q hle ⊢
  exact ⟨Nat.le_trans hle hz,.str _,H,I.tok _,⟨_,rfl⟩,q⟩
def HC (g:Int→Int→Bool) (h:List Nat→List Nat→Bool):R2:=fun x y H Q=>(∃i j,x = .int i∧y = .int j∧Q (.bl (g i j)) H)∨∃i j,x = .str i∧y = .str j∧Q (.bl (h i.cps.toList j.cps.toList)) H
theorem LF:OpR X (compareOp .Lt) (HC (fun i j=>decide (i < j)) fun i j=>decide (i < j)):=op_lt.or fun pins s σ H x y v u Q I rx ry h=>by
 obtain ⟨i,j,rfl,rfl,q⟩:=h
 obtain ⟨t,rfl⟩:=rx
 obtain ⟨t',rfl⟩:=ry
 exact P.lt_str ⟨.bl _,H,I,rfl,q⟩
theorem Iv:OpR X (compareOp .LtE) (HC (fun i j=>decide (i≤j)) fun i j=>!(decide (j < i))):=op_le.or fun pins s σ H x y v u Q I rx ry h=>by
 obtain ⟨i,j,rfl,rfl,q⟩:=h
 obtain ⟨t,rfl⟩:=rx
 obtain ⟨t',rfl⟩:=ry
 exact P.le_str ⟨.bl _,H,I,rfl,q⟩
theorem Gr:OpR X (compareOp .Gt) (HC (fun i j=>decide (j < i)) fun i j=>decide (j < i)):=op_gt.or fun pins s σ H x y v u Q I rx ry h=>by
 obtain ⟨i,j,rfl,rfl,q⟩:=h
 obtain ⟨t,rfl⟩:=rx
 obtain ⟨t',rfl⟩:=ry
 exact P.gt_str ⟨.bl _,H,I,rfl,q⟩
end
end L2
namespace F2
open PySem L2 PySem.Spec
def DT:D→M (List D)
 | .lst ds=>ret ds
 | .scr ns=>ret (ns.map .int)
 | .tup ds=>ret ds
 | .str x=>ret (x.cps.toList.map fun c=>.str ⟨#[c]⟩)
 | _=>fail
def FH (f:M D):M (List D):=bnd f DT
def De:D→D→M D
 | .str x,.int k=>fun t=>if B1 k=true∧x.length * k.toNat≤LIM∧k≤LIM∧x.length≤LIM then some (.str (Txt.mul x k),t) else none
 | x,y=>Ls x y
def ES:D→Option Int→Option Int→M D
 | .str x,lo,hi=>lim x.length (.str (Txt.slice x lo hi))
 | .tup ds,lo,hi=>ret (.tup (Ci ds lo hi))
 | x,lo,hi=>slD x lo hi
def K7 (g:Int→Int→Bool) (h:List Nat→List Nat→Bool):D→D→M D
 | .int i,.int j=>ret (.bl (g i j))
 | .str x,.str y=>ret (.bl (h x.cps.toList y.cps.toList))
 | _,_=>fail
def ltA:=K7 (fun i j=>decide (i < j)) (fun i j=>decide (i < j))
def leA:=K7 (fun i j=>decide (i≤j)) (fun i j=>!(decide (j < i)))
def gtA:=K7 (fun i j=>decide (j < i)) (fun i j=>decide (j < i))
def geA:=K7 (fun i j=>decide (j≤i)) (fun i j=>!(decide (i < j)))
def unS (n:Nat) (g:List D→M Unit):D→M Unit
 | .tup ds=>if ds.length=n then g ds else fail
 | .lst ds=>if ds.length=n then g ds else fail
 | _=>fail
def V5:M D:=fC .dic
section
variable {X:Cx} {e a b:Expr} {pos:Pos} {st:Stmt}
theorem ItOk.str {K:PySem.W.Frag} {c:Cf} {H:Hp} {x:Str}:ItOk K (Its x) c H (x.cps.toList.map fun c=>.str ⟨#[c]⟩):=by
 refine ⟨fun c' H' i ex hi=>?_,fun c' H' i y H'' d ex hd hy=>?_,fun c' H' ex=>?_⟩
 ·show i < x.cps.size
  simpa using hi
 ·obtain ⟨rfl,n,hn,rfl⟩:=hy
  refine ⟨rfl,?_⟩
  have:d = .str ⟨#[n]⟩:=by
   rw [List.getElem?_map] at hd
   have hn':x.cps.toList[i]?=some n:=by simpa using hn
   rw [hn'] at hd
   simpa using hd.symm
  rw [this]
  exact .str _
 ·show _=x.cps.size
  simp
theorem Gh {tg:Expr} {f:M D} (h:PE X e (RE X.K f)):PI X tg e (RI X.K (FH f)):=
 KJ (TU h) fun σ H R ⟨Oo,c,t,fi,ds,t',eq,k⟩=>by
  obtain ⟨d,t1,e1,eq⟩:=Aq eq
  refine ⟨Oo,c,t,fi,d,t1,e1,fun v H1 c1 f1 s1 rv=>?_⟩
  cases rv with
  | @lst p vs ds' h1 h2 h3=>
    cases eq
    exact .inl ⟨p,rfl,⟨vs,SqL.of h1⟩,k _ H1 c1 f1 s1 (ItOk.lst fun c' H' ex=>⟨vs,SqL.of (ex.keep _ _ h1 h2),h3.mono ex⟩)⟩
  | @scr p ns h1=>
    cases eq
    exact .inl ⟨p,rfl,⟨_,h1.sq⟩,k _ H1 c1 f1 s1 (ItOk.lst fun c' H' ex=>⟨_,(h1.mono ex).sq,Reps.ints ns⟩)⟩
  | @tup p vs ds' h1 h2 h3=>
    cases eq
    exact .inr (.inl ⟨p,rfl,⟨vs,SqT.of h1⟩,k _ H1 c1 f1 s1 (ItOk.tup fun c' H' ex=>⟨vs,SqT.of (ex.keep _ _ h1 h2),h3.mono ex⟩)⟩)
  | str x=>
    cases eq
    exact .inr (.inr ⟨x,rfl,k _ H1 c1 f1 s1 ItOk.str⟩)
  | _=>cases eq
theorem RG.un {K:PySem.W.Frag} {n:Nat} {g:List D→M Unit} {v:V} {σ:L2.St} {H:Hp} {Q:L2.St→Hp→Prop} (q:RG K (unS n g) v σ H Q):gUn K n (RGs K g) v σ H Q:=by
 obtain ⟨Oo,c,t,d,fi,rv,t',eq,k⟩:=q
 cases rv with
 | @tup a vs ds h1 h2 h3=>
   unfold unS at eq
   by_cases hn:ds.length=n
   ·dsimp only at eq
    rw [if_pos hn] at eq
    exact ⟨a,vs,rfl,.inl (SqT.of h1),by rw [h3.length];exact hn,Oo,c,t,ds,fi,h3,t',eq,k⟩
   ·dsimp only at eq
    rw [if_neg hn] at eq;cases eq
 | @lst a vs ds h1 h2 h3=>
   unfold unS at eq
   by_cases hn:ds.length=n
   ·dsimp only at eq
    rw [if_pos hn] at eq
    exact ⟨a,vs,rfl,.inr (SqL.of h1),by rw [h3.length];exact hn,Oo,c,t,ds,fi,h3,t',eq,k⟩
   ·dsimp only at eq
    rw [if_neg hn] at eq;cases eq
 | _=>cases eq
theorem Kq {es:List Expr} {k n:Nat} {g:List D→M Unit} (hc:X.calm=true) (h:PGs X es (RGs X.K g)) (hn:(assignEach es X.env).length=n:=by rfl) (hst:(assignEach es X.env).findIdx? (·.1)=none:=by rfl):PG X (.Tuple es k pos) (RG X.K (unS n g)):=
 KH (UY hc h hn hst) fun _ _ _ _ q=>RG.un q
theorem CD {es:List Expr} {f:D→M Unit} {g:List D→M Unit} (h1:PG X e (RG X.K f)) (h2:PGs X es (RGs X.K g)) (hs:(assignEach (e :: es) X.env).map (·.2)=assign e X.env :: (assignEach es X.env).map (·.2):=by rfl):PGs X (e :: es) (RGs X.K (B5 f g)):=
 Mt (P7 h1 h2 hs) fun _ _ _ _ q=>RGs.cons q
end
section
variable {K:PySem.W.Frag}
def QM (K:PySem.W.Frag):R2:=fun x y H Q=>NE K x y H Q∨QN x y H Q
theorem DL {X:Cx}:OpR X (binaryOp .Mult) (QM X.K):=op_mul3.or RZ
theorem Mj {x:Str} {k:Int} (h:B1 k=true∧x.length * k.toNat≤LIM∧k≤LIM∧x.length≤LIM):MulOk x k:=by
 obtain ⟨g1,g2⟩:=DN h.1
 have hL:LIM=100000:=rfl
 refine ⟨?_,fun h1 _=>?_,fun h1 _=>?_⟩
 ·rw [Bool.or_eq_false_iff];exact ⟨decide_eq_false (by lia),decide_eq_false (by lia)⟩
 ·have h2:k≤100000:=by have:=h.2.2.1;rw [hL] at this;exact this
  have h3:x.length≤100000:=by have:=h.2.2.2;rw [hL] at this;exact this
  have h4:(92233720368547:Int)≤(2 ^ 63 - 1) / k:=by
   rw [Int.le_ediv_iff_mul_le (by lia)]
   lia
  lia
 ·have h5:=h.2.1
  rw [hL] at h5
  unfold Builtin.Str.tooLong
  first | exact decide_eq_false (by unfold sizeLine;lia) | (unfold sizeLine;exact decide_eq_false (by lia))
theorem Dh:BT K (QM K) De:=fun {Oo c t σ H x y dx dy r t' Q} f rx ry eq k=>by
 unfold De at eq
 split at eq
 ·next z kk=>
  split at eq
  ·next h=>
   cases eq
   cases rx
   cases ry
   exact .inr ⟨z,kk,rfl,rfl,Mj h,k _ H c f .refl (.str _)⟩
  ·cases eq
 ·exact .inl (Sq f rx ry eq k)
def Ua (K:PySem.W.Frag):V→Option Int→Option Int→Hp→VK→Prop:=fun x lo hi H Q=>Qg K x lo hi H Q∨(Uc x lo hi H Q∨Ue K x lo hi H Q)
theorem sl3 {X:Cx}:SlR X (Ua X.K):=sl2.or (sl_str.or Sw)
theorem Nf {α:Type} {xs:List α} {lo hi:Option Int} (h:HT.sIx xs.length 0 lo=0∧HT.sIx xs.length xs.length hi=xs.length):Ci xs lo hi=xs:=by
 unfold Ci;rw [h.1,h.2];simp
theorem JF:O9 K (Ua K) ES:=fun {Oo c t σ H x dx r lo hi t' Q} f rx eq k=>by
 unfold ES at eq
 split at eq
 ·next z=>
  obtain ⟨h,e⟩:=DF eq
  cases e
  cases rx
  exact .inr (.inl ⟨z,rfl,Nat.le_trans h Cm,k _ H c f .refl (.str _)⟩)
 ·next ds=>
  cases eq
  cases rx with
  | @tup p vs ds h1 h2 h3=>
    by_cases hw:HT.sIx ds.length 0 lo=0∧HT.sIx ds.length ds.length hi=ds.length
    ·rw [Nf hw] at k
     exact .inr (.inr ⟨p,vs,rfl,SqT.of h1,by rw [h3.length];exact hw,k _ H c f .refl (.tup h1 h2 h3)⟩)
    ·exact .inl (.inr ⟨p,vs,rfl,SqT.of h1,by rw [h3.length];exact hw,fun q hq=>k _ _ c (f.laid hq) (f.stp_laid hq) (.tup A1 (f.s.free hq) ((HD h3 lo hi).mono (Ext.laid f.s hq)))⟩)
 ·exact .inl (Ui f rx eq k)
theorem JD {g:Int→Int→Bool} {h:List Nat→List Nat→Bool}:BT K (HC g h) (K7 g h):=fun {Oo c t σ H x y dx dy r t' Q} f rx ry eq k=>by
 cases rx with
 | int i=>cases ry with
   | int j=>cases eq;exact .inl ⟨i,j,rfl,rfl,k _ H c f .refl (.bl _)⟩
   | _=>cases eq
 | str i=>cases ry with
   | str j=>cases eq;exact .inr ⟨i,j,rfl,rfl,k _ H c f .refl (.bl _)⟩
   | _=>cases eq
 | _=>cases eq
theorem JE:BT K (HC (fun i j=>decide (i < j)) fun i j=>decide (i < j)) ltA:=JD
theorem GV:BT K (HC (fun i j=>decide (i≤j)) fun i j=>!(decide (j < i))) leA:=JD
theorem Fy:BT K (HC (fun i j=>decide (j < i)) fun i j=>decide (j < i)) gtA:=JD
end
theorem BD {P:Program} {w:World} {K:PySem.W.Frag} {mg:Str→Option Value} {base:Heap} {x qual:Str} {st:Stmt} {fa:Addr} {fd:FuncData} {N ps:List Str} {k n m:Nat} {g:M Out} (e1:ps.length=n) (e2:N.length=m) (F:Fun K x qual st fa fd) (S:FnScope N ps (Av st))
 (hb:∀(cdv:Value) (A:Around) (outer:List Env) (s:Shared) (H:Hp) (E:XK),Room k (A.deeper (PyProof.Rows.envOfC qual (Av st) s.heap.objs.size fa cdv))→
   PSs (DY CX0 P w K mg base N qual (Av st) fa cdv A outer s H E).nox (B3 st) (RS K g)):FnOk P w K mg base CX0 (k + 1) fa fd ps (spF K (fnOf n m g)):=by
 subst e1 e2
 exact UL F S hb
theorem BE {P:Program} {w:World} {K:PySem.W.Frag} {mg:Str→Option Value} {base:Heap} {fa:Addr} {fd:FuncData} {ps:List Str} {k:Nat} {f g:Fn} (e:f=g) (h:FnOk P w K mg base CX0 k fa fd ps (spF K g)):FnOk P w K mg base CX0 k fa fd ps (spF K f):=by rw [e];exact h
theorem BX:bootBuiltins "len" = some (.builtin "len"):=by decide +kernel
theorem A7:bootBuiltins "isinstance" = some (.builtin "isinstance"):=by decide +kernel
theorem N2:bootBuiltins "ord" = some (.builtin "ord"):=by decide +kernel
theorem HR:bootBuiltins "min" = some (.builtin "min"):=by decide +kernel
theorem KY:bootBuiltins "int" = some (.type "int"):=by decide +kernel
theorem HS:bootBuiltins "str" = some (.type "str"):=by decide +kernel
theorem Q6:bootBuiltins "bool" = some (.type "bool"):=by decide +kernel
theorem IQ:bootBuiltins "list" = some (.type "list"):=by decide +kernel
theorem FE:bootBuiltins "tuple" = some (.type "tuple"):=by decide +kernel
def BU:Expr→Bool
 | .Starred _ _=>true
 | _=>false
theorem BI {e:Expr} {es:List Expr} {env:Env} (h:BU e=false):starEach (e :: es) env=(false,eval e env) :: starEach es env:=by
 cases e <;> first | rfl | cases h
def Ce (es:List Expr):Bool:=es.all fun e=>!BU e
theorem BJ:∀{es:List Expr} {env:Env} {p:Pos},Ce es=true→(backTo p (starEach es env)).any (·.1)=false∧(backTo p (starEach es env)).all (fun x=>!x.1)=true
 | [],env,p,_=>⟨rfl,rfl⟩
 | e :: es,env,p,h=>by
   have h':BU e=false∧Ce es=true:=by
    rw [Ce,List.all_cons,Bool.and_eq_true] at h
    exact ⟨by simpa using h.1,h.2⟩
   obtain ⟨h1,h2⟩:=BJ (es:=es) (env:=env) (p:=p) h'.2
   rw [BI h'.1]
   refine ⟨?_,?_⟩
   ·show (false || (backTo p (starEach es env)).any (·.1))=false
    rw [h1];rfl
   ·show (!false && (backTo p (starEach es env)).all (fun x=>!x.1))=true
    rw [h2];rfl
section
variable {X:Cx} {e a b:Expr} {es:List Expr} {pos:Pos}
theorem Aa {f:M D} {g:M (List D)} (ha:PE X e (RE X.K f)) (hr:PA X es (RA X.K g)) (hs:BU e=false:=by rfl):PA X (e :: es) (RA X.K (Ab f g)):=Rg ha hr (BI hs)
theorem Am {k:Nat} {fa:Addr} {fd:FuncData} {ps:List Str} {g:Fn} {f:M (List D)} {x:Str} {p:Pos} (F:FnOk X.prog X.w X.K X.mg X.base CX0 k fa fd ps (spF X.K g)) (hr:Room k X.A) (hg:Gl X x) (hm:X.mg x=some (.ref fa)) (hk:PySem.W.keepIn X.K (.ref fa)=true) (hb:Binds X.K fd ps [])
 (ha:PA X (e :: es) (RA X.K f)) (hdb:(x == ("__debug__" : Str))=false:=by decide) (h1:BU e=false:=by rfl) (h2:Ce es=true:=by rfl) :
 PE X (.Call (.Name x p) (e :: es) [] pos) (RE X.K (As g f)):=Rh F hr hg hm hk hb ha hdb (BI h1) (BJ h2).1
theorem BA {id:String} {R:List V→Hp→VK→Prop} {h:List D→M D} {f:M (List D)} {x:Str} {p:Pos} (hc:CG X (.builtin id) R) (s:EF X.K R h) (hg:Gl X x) (hm:X.mg x=none) (hv:bootBuiltins x=some (.builtin id)) (ha:PA X (e :: es) (RA X.K f)) (hn:x≠"__name__":=by decide) (hdb:(x == ("__debug__" : Str))=false:=by decide)
 (h1:BU e=false:=by rfl) (h2:Ce es=true:=by rfl):PE X (.Call (.Name x p) (e :: es) [] pos) (RE X.K (fB f h)):=V6 hc s hg hm hv ha hn hdb (BI h1) (BJ h2).1
theorem Nk {id:String} {R:List V→Hp→VK→Prop} {h:List D→M D} {f:M (List D)} {x:Str} {p:Pos} (hc:CG X (.type id) R) (s:EF X.K R h) (hg:Gl X x) (hm:X.mg x=none) (hv:bootBuiltins x=some (.type id)) (ha:PA X (e :: es) (RA X.K f)) (hn:x≠"__name__":=by decide) (hdb:(x == ("__debug__" : Str))=false:=by decide)
 (h1:BU e=false:=by rfl) (h2:Ce es=true:=by rfl):PE X (.Call (.Name x p) (e :: es) [] pos) (RE X.K (fB f h)):=V7 hc s hg hm hv ha hn hdb (BI h1) (BJ h2).1
theorem QC {id:String} {R:List V→Hp→VK→Prop} {h:List D→M (List D)} {f:M (List D)} {x:Str} {p:Pos} (hc:CG X (.type id) R) (s:Kn X.K R h) (hg:Gl X x) (hm:X.mg x=none) (hv:bootBuiltins x=some (.type id)) (ha:PA X (e :: es) (RA X.K f)) (hn:x≠"__name__":=by decide) (hdb:(x == ("__debug__" : Str))=false:=by decide)
 (h1:BU e=false:=by rfl) (h2:Ce es=true:=by rfl):PE X (.Call (.Name x p) (e :: es) [] pos) (RF X.K (fBF f h)):=V8 hc s hg hm hv ha hn hdb (BI h1) (BJ h2).1
theorem Ct {tg:Expr} {f:M (List D)} {p:Pos} (hg:Gl X "range") (hm:X.mg "range" = none) (ha:PA X [a] (RA X.K f)) (h1:BU a=false:=by rfl):PI X tg (.Call (.Name "range" p) [a] [] pos) (RI X.K (CO f)):=Og hg hm ha (BI h1)
theorem FK {tg:Expr} {f:M (List D)} {p:Pos} (hg:Gl X "range") (hm:X.mg "range" = none) (ha:PA X [a,b] (RA X.K f)) (h1:BU a=false:=by rfl) (h2:BU b=false:=by rfl):PI X tg (.Call (.Name "range" p) [a,b] [] pos) (RI X.K (E5 f)):=
 Oh hg hm ha (by rw [BI h1,BI h2];rfl) (BI h2)
theorem Of {cpos:Pos} (h1:BU e=false) (h2:Ce es=true) (h3:es.length < 20):((backTo cpos (starEach (e :: es) X.env)).all (fun x=>!x.1) && (backToKw cpos (keywordEach [] X.env)).all (fun x=>x.1.isSome) && decide ((e :: es).length + ([]:List Keyword).length + (if ([]:List Keyword).isEmpty then 0 else 1) < 30))=true:=by
 rw [(BJ (es:=e :: es) (env:=X.env) (p:=cpos) (by rw [Ce,List.all_cons,h1];exact h2)).2]
 show (true && true && decide (es.length + 1 + 0 + 0 < 30))=true
 simp;lia
theorem Dk {μ:Cf→Hp→D→(V→Hp→Prop)→Prop} (i:Nat) {x:Str} {g:M (List D)} {px apos cpos:Pos} (ha:PA X (e :: es) (RA X.K g)) (hN:X.N[i]?=some x:=by rfl) (hv:Vis X.env.scope x:=by first | exact Or.inl rfl | exact Or.inr (Or.inl rfl) | exact Or.inr (Or.inr rfl)) (hd:(x == ("__debug__" : Str))=false:=by decide)
 (hcd:(x == ("__classdict__" : Str))=false:=by decide) (hline:(apos.endLine == cpos.line)=true:=by rfl) (h1:BU e=false:=by rfl) (h2:Ce es=true:=by rfl) (h3:es.length < 20:=by decide) :
 PS X (.Expr (.Call (.Attribute (.Name x px) "append" apos) (e :: es) [] cpos) pos) (RSg X.K μ (ownM i Do g)):=Oi i ha hN hv hd hcd rfl (Of h1 h2 h3) hline (BI h1) (BJ h2).1
theorem Nn {μ:Cf→Hp→D→(V→Hp→Prop)→Prop} (i:Nat) {x:Str} {g:M (List D)} {px apos cpos:Pos} (ha:PA X (e :: es) (RA X.K g)) (hN:X.N[i]?=some x:=by rfl) (hv:Vis X.env.scope x:=by first | exact Or.inl rfl | exact Or.inr (Or.inl rfl) | exact Or.inr (Or.inr rfl)) (hd:(x == ("__debug__" : Str))=false:=by decide)
 (hcd:(x == ("__classdict__" : Str))=false:=by decide) (hline:(apos.endLine == cpos.line)=true:=by rfl) (h1:BU e=false:=by rfl) (h2:Ce es=true:=by rfl) (h3:es.length < 20:=by decide) :
 PS X (.Expr (.Call (.Attribute (.Name x px) "extend" apos) (e :: es) [] cpos) pos) (RSg X.K μ (ownM i FG g)):=Oj i ha hN hv hd hcd rfl (Of h1 h2 h3) hline (BI h1) (BJ h2).1
end
end F2
namespace HT
open PySem PySem.Spec L2 PyProof.Rows
section
variable {prog:Program} {w:World} {A:Around} {E:Value→Shared→Prop} {s:Shared}
end
end HT
namespace L2
open PySem PySem.Spec PyProof.Rows
section
variable {X:Cx} {e ek:Expr} {p2 pos:Pos} {te:TE} {tk:TO}
end
section
variable {X:Cx}
theorem Gb:∀{ys:List Str} {us:List Value},Vals (ys.map V.str) us→CarriedAll us (ys.map PyData.str)
 | [],_,r=>by cases r;exact .nil
 | _ :: _,_,r=>by
   cases r with
   | cons r1 r2=>obtain ⟨t,rfl⟩:=r1;exact .cons (.str _ _) (Gb r2)
def QL (K:PySem.W.Frag):V→List V→Hp→VK→Prop:=fun x xs H Q=>∃z a ys,x = .str z∧xs=[.ref a]∧SqL K H a (ys.map V.str)∧(∀y∈ys,y.length≤8)∧z.length≤8∧ys.length≤1048576∧Q (.str (Txt.join z ys)) H
theorem RJ:MtR X "str.join" (QL X.K):=by
 intro pins s σ H x xs v us Q I rx rs h
 obtain ⟨z,a,ys,rfl,rfl,ha,h1,h2,h3,q⟩:=h
 obtain ⟨t,rfl⟩:=rx
 obtain ⟨u,rfl,ru⟩:=F0 rs
 cases ru
 obtain ⟨its,r,pl,_⟩:=I.list ha
 refine join_madeW (l:=ys) (g:=id) 8 pl.isList (by rw [List.map_id];exact Gb r) h1 h3 (by lia) fun t' k=>?_
 rw [List.map_id]
 exact ⟨.str _,H,I.tok _,⟨_,rfl⟩,q⟩
end
section
variable {X:Cx}
end
section
variable {X:Cx}
end
end L2
namespace F2
open PySem L2 PySem.Spec
section
variable {X:Cx} {K:PySem.W.Frag}
def EV:List D→Option (List Str)
 | []=>some []
 | .str x :: r=>if x.length≤8 then (EV r).map (x :: ·) else none
 | _=>none
def joinM (f:M D) (g:M (List D)):M D:=bnd f fun o=>bnd g fun as=>match o,as with
 | .str z,[.lst ds]=>fun t=>match EV ds with
   | some ys=>if z.length≤8∧ys.length≤1048576 then some (.str (Txt.join z ys),t) else none
   | none=>none
 | _,_=>fail
theorem LX {c:Cf} {H:Hp}:∀{ds:List D} {vs:List V} {ys:List Str},Reps K c H vs ds→EV ds=some ys→vs=ys.map V.str∧∀y∈ys,y.length≤8
 | [],_,ys,r,e=>by
   cases r
   cases e
   exact ⟨rfl,fun _ h=>nomatch h⟩
 | d :: ds,_,ys,r,e=>by
   cases r with
   | cons r1 r2=>
     cases r1 with
     | str x=>
       unfold EV at e
       split at e
       ·next hx=>
        obtain ⟨zs,e1,rfl⟩:=Option.map_eq_some_iff.mp e
        obtain ⟨h1,h2⟩:=LX r2 e1
        refine ⟨by rw [h1];rfl,fun y hy=>?_⟩
        rcases List.mem_cons.mp hy with rfl | hy
        ·exact hx
        ·exact h2 y hy
       ·cases e
     | _=>cases e
theorem RE.joinM {f:M D} {g:M (List D)} {σ:L2.St} {H:Hp} {Q:VK} (q:RE K (F2.joinM f g) σ H Q):tBM K "str" (QL K) (RE K f) (RA K g) σ H Q:=by
 obtain ⟨Oo,c,t,fi,r,t',eq,k⟩:=q
 obtain ⟨d,t1,e1,eq⟩:=Aq eq
 obtain ⟨as,t2,e2,eq⟩:=Aq eq
 refine ⟨Oo,c,t,fi,d,t1,e1,fun v H1 c1 f1 s1 rv=>?_⟩
 split at eq
 ·next z ds=>
  cases rv
  refine ⟨rfl,Oo,c1,t1,f1,_,t2,e2,fun us H2 c2 f2 s2 rus=>?_⟩
  obtain ⟨w,rfl,rw'⟩:=Ed rus
  split at eq
  ·next ys ey=>
   split at eq
   ·next hz=>
    cases eq
    cases rw' with
    | @lst p vs ds h1 h2 h3=>
      obtain ⟨h4,h5⟩:=LX h3 ey
      subst h4
      exact ⟨_,p,ys,rfl,rfl,SqL.of h1,h5,hz.1,hz.2,k _ _ c2 f2 (s1.trans s2) (.str _)⟩
   ·cases eq
  ·cases eq
 ·cases eq
theorem Rj {o e:Expr} {es:List Expr} {f:M D} {g:M (List D)} {apos cpos:Pos} (ho:PE X o (RE X.K f)) (ha:PA X (e :: es) (RA X.K g))
 (hbase:attributeBase o "join" X.env (eval o X.env)=eval o X.env:=by rfl)
 (hfew:((backTo cpos (starEach (e :: es) X.env)).all (fun x=>!x.1) && (backToKw cpos (keywordEach [] X.env)).all (fun x=>x.1.isSome) && decide ((e :: es).length + ([]:List Keyword).length + (if ([]:List Keyword).isEmpty then 0 else 1) < 30))=true:=by rfl)
 (hline:(apos.endLine == cpos.line)=true:=by rfl) (hs:starEach (e :: es) X.env=(false,eval e X.env) :: starEach es X.env:=by rfl) (hplain:(backTo cpos (starEach es X.env)).any (·.1)=false:=by rfl) :
 PE X (.Call (.Attribute o "join" apos) (e :: es) [] cpos) (RE X.K (joinM f g)):=
 Bw (Ku PySem.F.plainAttrs_str PySem.F.slot_str_join PySem.F.type_str_join RJ ho ha hbase hfew hline hs hplain) fun _ _ _ q=>RE.joinM q
end
end F2
namespace L2
open PySem PySem.Spec PyProof.Rows
def OQ:R2:=fun x y H Q=>∃a kvs k v,x = .ref a∧y = .str k∧H a=some (.dK kvs)∧Es kvs (Sum.inr k:Key)=some v∧Q v H
def T4:V→V→V→Hp→(Hp→Prop)→Prop:=fun o i v H Q=>∃a kvs k,o = .ref a∧i = .str k∧H a=some (.dK kvs)∧kvs.length < sizeLine∧Q (upd H a (.dK (Dq kvs (Sum.inr k:Key) v)))
section
variable {X:Cx}
theorem DU:IxR X OQ:=by
 intro value slice pins s σ H x y v u Q I rx ry h hs
 obtain ⟨a,kvs,k,z,rfl,rfl,e,l,q⟩:=h
 cases rx
 obtain ⟨_,_,vs,rel,dd⟩:=Ng I.hok e
 have g:DGet H a (kV (Sum.inr k:Key)) (some z):=by rw [←l];exact DGet.k e
 have hT:=dd.typeIs
 unfold subscriptTail
 refine wpAny_bind ?_
 rw [getitemInPython_of_ne hT.not_modules]
 refine wpAny_bind (wpAny_specialOf hT PySem.F.slot_dict_getitem.lookup ?_)
 have get:wpAny (model X.prog X.w) X.A (getItem (.ref a) u) (EP X pins σ Q) X.xe s:=by
  obtain ⟨w',hw,rw'⟩:=RelO.some_of (v:=z) (o:=valueAt vs (Sum.inr k:Key)) (by rw [←l];exact rel.val _)
  exact wpAny_getItem_of (Np (k:=(Sum.inr k:Key)) ry) dd.mapOf hw ⟨z,H,I.tok _,rw',q⟩
 have fin:wpAny (model X.prog X.w) X.A (subscripted slice false (.ref a) u) (fun r s₃=>wpAny (model X.prog X.w) X.A (letTemporaryGo value (.ref a) r >>= fun _=>pure r) (EP X pins σ Q) X.xe s₃) X.xe s:=by
  rw [hs]
  exact wpAny_operating (wpAny_mono get (fun r s₃ h₃=>wpAny_bind (wpAny_letTemporaryGo (wpAny_pure h₃))) fun _ _ x=>x)
 first
  | exact wpAny_pure (wpAny_bind fin)
  | exact wpAny_bind (wpAny_pure (wpAny_bind fin))
  | exact wpAny_bind fin
theorem Su:SX X T4:=by
 intro pins s σ H o i v ov iv u Q I ro ri rv h
 obtain ⟨a,kvs,k,rfl,rfl,e,l,q⟩:=h
 cases ro
 obtain ⟨z,hd,vs,rel,dd⟩:=Ng I.hok e
 have hz:vs.length≤sizeLine:=by rw [←rel.length];exact z
 have hl:(Dq kvs (Sum.inr k:Key) v).length≤sizeLine:=by have:=G9 kvs (Sum.inr k:Key) v;lia
 refine wpAny_setItem_pairs (hsz:=hz) (Np (k:=(Sum.inr k:Key)) ri) dd fun h' dd' hs=>⟨_,?_,q⟩
 have he:∃q,h'.get? a=some q:=let ⟨q,_,_,hq,_⟩:=dd';⟨q,hq⟩
 exact My I (by rw [e];exact True.intro) hs he (N8 hl hd (rel.put _ rv) dd')
end
end L2
namespace F2
open PySem L2 PySem.Spec
def B0 (kvs:List (Key×D)) (k:Key):Option D:=(kvs.find? fun kv=>decide (kv.1=k)).map (·.2)
def Cb (kvs:List (Key×D)) (k:Key) (d:D):List (Key×D):=
 if (kvs.any fun kv=>decide (kv.1=k))=true then kvs.map (fun kv=>if kv.1=k then (kv.1,d) else kv) else kvs++[(k,d)]
def Dj:D→D→M D
 | .obj n,.str x=>fun t=>match t.S[n]? with
   | some (.dct kvs)=>(B0 kvs (.inr x)).map fun d=>(d,t)
   | _=>none
 | _,_=>fail
def Fz:D→D→D→M Unit
 | .obj n,.str x,d=>fun t=>match t.S[n]? with
   | some (.dct kvs)=>if kvs.length < LIM then some ((),{ t with S:=t.S.set n (.dct (Cb kvs (.inr x) d)) }) else none
   | _=>none
 | _,_,_=>fail
def G1 (f g:M D) (d:D):M Unit:=bnd f fun o=>bnd g fun i=>Fz o i d
def Dt:List (Str×M D)→M (List (Key×D))
 | []=>ret []
 | (k,f) :: r=>bnd f fun d=>bnd (Dt r) fun ps=>ret ((.inr k,d) :: ps)
def CU (ps:List (Key×D)):List (Key×D):=ps.foldl (fun acc kv=>Cb acc kv.1 kv.2) []
def IV (n:Nat) (ps:List (Key×D)):M D:=fun t=>match t.S[n]? with
 | some (.dct [])=>if ps.length≤15 then some (.obj n,{ t with S:=t.S.set n (.dct (CU ps)) }) else none
 | _=>none
def GH (l:List (Str×M D)):M D:=fun t=>bnd (Dt l) (IV t.S.length) { t with S:=t.S++[.dct []] }
section
variable {K:PySem.W.Frag} {c:Cf} {H:Hp}
theorem KVR.get {us:List (Key×V)} {kvs:List (Key×D)} (r:KVR K c H us kvs) (k:Key) {d:D} (e:B0 kvs k=some d):∃v,Es us k=some v∧Rep K c H v d:=by
 unfold KVR at r
 induction r with
 | nil=>simp [B0] at e
 | @cons p q ps qs h t ih=>
   by_cases hk:p.1=k
   ·have hq:q.1=k:=h.1.symm.trans hk
    have:B0 (q :: qs) k=some q.2:=by simp [B0,List.find?_cons,hq]
    rw [this] at e;cases e
    exact ⟨p.2,L7 hk,h.2⟩
   ·have hq:¬q.1=k:=fun z=>hk (h.1.trans z)
    have:B0 (q :: qs) k=B0 qs k:=by simp [B0,List.find?_cons,hq]
    rw [this] at e
    rw [L6 hk]
    exact ih e
theorem KVR.any {us:List (Key×V)} {kvs:List (Key×D)} (r:KVR K c H us kvs) (k:Key):(us.any fun kv=>decide (kv.1=k))=(kvs.any fun kv=>decide (kv.1=k)):=by
 unfold KVR at r
 induction r with
 | nil=>rfl
 | @cons p q ps qs h t ih=>rw [List.any_cons,List.any_cons,ih,h.1]
theorem KVR.put {us:List (Key×V)} {kvs:List (Key×D)} (r:KVR K c H us kvs) (k:Key) {v:V} {d:D} (rv:Rep K c H v d):KVR K c H (Dq us k v) (Cb kvs k d):=by
 unfold Dq Cb
 rw [r.any k]
 by_cases q:(kvs.any fun kv=>decide (kv.1=k))=true
 ·rw [if_pos q,if_pos q]
  clear q
  unfold KVR at r ⊢
  induction r with
  | nil=>exact .nil
  | @cons p q ps qs h t ih=>
    rw [List.map_cons,List.map_cons]
    refine .cons ?_ ih
    by_cases e:p.1=k
    ·rw [if_pos e,if_pos (h.1.symm.trans e)];exact ⟨h.1,rv⟩
    ·rw [if_neg e,if_neg (fun z=>e (h.1.trans z))];exact h
 ·rw [if_neg q,if_neg q]
  exact Paired.snoc r ⟨rfl,rv⟩
theorem KVR.length {us:List (Key×V)} {kvs:List (Key×D)} (r:KVR K c H us kvs):us.length=kvs.length:=Paired.length r
theorem KVR.mono {c':Cf} {H':Hp} {us:List (Key×V)} {kvs:List (Key×D)} (e:Ext c H c' H') (r:KVR K c H us kvs):KVR K c' H' us kvs:=Paired.mapP r fun _ _ z=>⟨z.1,z.2.mono e⟩
theorem KVR.merge:∀{ps:List (Key×D)} {us:List (Key×V)} {acc:List (Key×D)} {ua:List (Key×V)},KVR K c H us ps→KVR K c H ua acc→KVR K c H (EL ua us) (ps.foldl (fun acc kv=>Cb acc kv.1 kv.2) acc):=by
 intro ps us acc ua r
 unfold KVR at r
 induction r generalizing acc ua with
 | nil=>intro q;exact q
 | @cons p q ps qs h t ih=>
   intro r0
   refine ih ?_
   show KVR K c H (Dq ua p.1 p.2) (Cb acc q.1 q.2)
   have:=KVR.put r0 p.1 h.2
   rw [←h.1]
   exact this
theorem CA:BT K OQ Dj:=fun {Oo c t σ H x y dx dy r t' Q} f rx ry eq k=>by
 unfold Dj at eq
 split at eq
 ·next n z=>
  cases ry
  cases rx with
  | @obj a kk hk=>
    split at eq
    ·next kvs es=>
     obtain ⟨d,e1,e2⟩:=Option.map_eq_some_iff.mp eq
     cases e2
     obtain ⟨us,g1,g2⟩:=f.s.obs _ a _ hk es
     obtain ⟨v,e3,e4⟩:=g2.get _ e1
     exact ⟨a,us,z,v,rfl,rfl,g1,e3,k _ H c f .refl e4⟩
    ·cases eq
 ·cases eq
end
section
variable {X:Cx} {pos:Pos} {e:Expr}
theorem E6 {o i:Expr} {f g:M D} (ho:PE X o (RE X.K f)) (hi:PE X i (RE X.K g))
 (ha:∀v,assign (.Subscript o i pos) X.env v=(do
   let ov ←holding [v] (eval o X.env)
   let iv ←holding [v,ov] (eval i X.env)
   standAt pos
   holding [v,ov,iv] (setItem ov iv v)
   release [v,ov,iv] []):=by intro _;rfl):PG X (.Subscript o i pos) (RG X.K (G1 f g)):=
 KH (TQ ho hi Su ha) fun v σ H Q ⟨Oo,c,t,d,fi,rv,t',eq,k⟩=>by
  obtain ⟨d0,t1,e1,eq⟩:=Aq eq
  obtain ⟨di,t2,e2,eq⟩:=Aq eq
  refine ⟨Oo,c,t,fi,_,t1,e1,fun x H1 c1 f1 s1 rx=>⟨Oo,c1,t1,f1,di,t2,e2,fun y H2 c2 f2 s2 ry=>?_⟩⟩
  unfold Fz at eq
  split at eq
  ·next n z dd=>
   cases ry
   cases rx with
   | @obj a kk hk=>
     split at eq
     ·next kvs es=>
      split at eq
      ·next hl=>
       cases eq
       have hk2:=s2.ext.io _ _ hk
       obtain ⟨us,g1,g2⟩:=f2.s.obs _ a _ hk2 es
       refine ⟨a,us,z,rfl,rfl,g1,by rw [g2.length];exact Nat.lt_trans hl SV,?_⟩
       have rv2:=rv.mono (s1.trans s2).ext
       obtain ⟨f3,s3⟩:=f2.wrObj (o:=.dct (Cb kvs (.inr z) d)) (u:=.dK (Dq us (.inr z) v)) hk2 fun c' H' ext hu=>⟨_,hu,(g2.put _ rv2).mono ext⟩
       exact k σ _ c2 f3 ((s1.trans s2).trans s3)
      ·cases eq
     ·cases eq
  ·cases eq
def RP (K:PySem.W.Frag) (f:M (List (Key×D))) (σ:St) (H:Hp) (Q:List (V×V)→Hp→Prop):Prop:=
 ∃Oo c t,FInv K Oo c t σ H∧∃ps t',f t=some (ps,t')∧∀us H' c',FInv K Oo c' t' σ H'→Stp Oo c H c' H'→KVR K c' H' us ps→Q (us.map fun kv=>(kV kv.1,kv.2)) H'
def PPf (X:Cx) (pos:Pos) (keys:List (Option Expr)) (values:List Expr) (f:M (List (Key×D))):Prop:=
 ∃trs,PPs X pos keys values trs∧∀σ H Q,RP X.K f σ H Q→II trs σ H Q
theorem Jf:PPf X pos [] [] (Dt []):=⟨[],Sc,fun σ H Q ⟨Oo,c,t,fi,ps,t',eq,k⟩=>by
 cases eq
 exact k [] H c fi .refl .nil⟩
theorem DC {k:Str} {j:Nat} {kp:Pos} {v:Expr} {ks:List (Option Expr)} {vs:List Expr} {f:M D} {r:List (Str×M D)} (hv:PE X v (RE X.K f)) (hr:PPf X pos ks vs (Dt r)) :
 PPf X pos (some (.Constant (.str k) j kp) :: ks) (v :: vs) (Dt ((k,f) :: r)):=by
 obtain ⟨trs,h1,h2⟩:=hr
 refine ⟨_,Qb OG hv h1,fun σ H Q ⟨Oo,c,t,fi,ps,t',eq,kk⟩=>?_⟩
 obtain ⟨d,t1,e1,eq⟩:=Aq eq
 obtain ⟨qs,t2,e2,eq⟩:=Aq eq
 cases eq
 refine ⟨Oo,c,t,fi,d,t1,e1,fun y H1 c1 f1 s1 ry=>?_⟩
 refine h2 σ H1 _ ⟨Oo,c1,t1,f1,qs,_,e2,fun us H2 c2 f2 s2 ru=>?_⟩
 exact kk ((.inr k,y) :: us) H2 c2 f2 (s1.trans s2) (.cons ⟨rfl,ry.mono s2.ext⟩ ru)
theorem I9 {keys:List (Option Expr)} {values:List Expr} {l:List (Str×M D)} (h:PPf X pos keys values (Dt l)) (hall:keys.all (·.isSome)=true:=by rfl) (hl:keys.length=values.length:=by rfl) (h0:keys≠[]:=by exact List.cons_ne_nil _ _)
 (h15:keys.length≤15:=by exact Nat.le_of_ble_eq_true rfl):PE X (.Dict keys values pos) (RE X.K (GH l)):=by
 obtain ⟨trs,h1,h2⟩:=h
 refine Bw (R5 h1 hall hl h0 h15) fun σ H Q ⟨Oo,c,t,fi,r,t',eq,k⟩=>?_
 intro p hp
 obtain ⟨c1,f1,s1,e1⟩:=fi.newObj (o:=.dct []) (u:=.dK []) hp fun c' H' ex hu=>⟨[],hu,.nil⟩
 obtain ⟨ps,t2,e2,eq⟩:=Aq eq
 refine h2 σ _ _ ⟨Oo,c1,_,f1,ps,t2,e2,fun us H2 c2 f2 s2 ru=>?_⟩
 unfold IV at eq
 split at eq
 ·next es=>
  split at eq
  ·next hl15=>
   cases eq
   have hk2:=s2.ext.io _ _ e1
   obtain ⟨u0,g1,g2⟩:=f2.s.obs _ p _ hk2 es
   cases g2
   refine ⟨g1,us,rfl,by rw [ru.length];exact hl15,?_⟩
   obtain ⟨f3,s3⟩:=f2.wrObj (o:=.dct (CU ps)) (u:=.dK (EL [] us)) hk2 fun c' H' ext hu=>⟨_,hu,(KVR.merge ru .nil).mono ext⟩
   exact k _ _ c2 f3 (s1.trans (s2.trans s3)) (.obj hk2)
  ·cases eq
 ·cases eq
end
end F2
namespace L2
open PySem PySem.Spec PyProof.Rows
section
variable {X:Cx}
end
end L2
namespace F2
open PySem L2 PySem.Spec
section
variable {X:Cx} {pos:Pos} {e:Expr} {es:List Expr}
end
end F2
namespace L2
open PySem PySem.Spec PyProof.Rows
section
variable {prog:Program} {w:World} {A:Around} {I:Addr} {fp wr:List Addr} {G:Array GenState→Array GenState→Prop} {n:Nat} {P:Nat→Value→Prop} {St:Nat→Shared→Prop}
end
section
variable {X:Cx}
theorem UX {o:Expr} {to:TE} {apos cpos:Pos} (ho:PE X o to) (hbase:attributeBase o "upper" X.env (eval o X.env)=eval o X.env:=by rfl) (hline:(apos.endLine == cpos.line)=true:=by rfl) :
 PE X (.Call (.Attribute o "upper" apos) [] [] cpos) (fun σ H Q=>to σ H fun v H1=>∃x,v = .str x∧x.length≤1000∧(∀c∈x.cps.toList,c < 128)∧Q (.str ⟨x.cps.map up1⟩) H1):=by
 intro pins s σ H Q I h
 refine Call_method0 hbase hline (thn (ho pins s σ H _ I h) fun u s1 ⟨v,H1,I1,rv,x,ex,hl,ha,q⟩=>?_)
 subst ex
 obtain ⟨t,rfl⟩:=rv
 refine SB.upper ?_ ⟨.str (Txt.upper x),H1,I1.tok _,⟨_,rfl⟩,by rw [upper_ascii ha];exact q⟩
 rw [upper_ascii ha]
 unfold Builtin.Str.tooLong
 refine decide_eq_false ?_
 have:(⟨x.cps.map up1⟩:Str).length=x.length:=by simp [Str.length]
 rw [this]
 unfold sizeLine;lia
end
end L2
namespace F2
open PySem L2 PySem.Spec PyProof.Rows
def upD:D→M D
 | .str x=>fun t=>if x.length≤1000∧(x.cps.toList.all fun c=>decide (c < 128))=true then some (.str ⟨x.cps.map up1⟩,t) else none
 | _=>fail
section
variable {X:Cx} {pos:Pos} {e:Expr}
theorem UJ {o:Expr} {f:M D} {apos cpos:Pos} (ho:PE X o (RE X.K f)) (hbase:attributeBase o "upper" X.env (eval o X.env)=eval o X.env:=by rfl) (hline:(apos.endLine == cpos.line)=true:=by rfl) :
 PE X (.Call (.Attribute o "upper" apos) [] [] cpos) (RE X.K (fUn f upD)):=
 Bw (UX ho hbase hline) fun σ H Q ⟨Oo,c,t,fi,r,t',eq,k⟩=>by
  obtain ⟨d,t1,e1,eq⟩:=Aq eq
  refine ⟨Oo,c,t,fi,d,t1,e1,fun x H1 c1 f1 s1 rx=>?_⟩
  unfold upD at eq
  split at eq
  ·next z=>
   split at eq
   ·next hz=>
    cases eq
    cases rx
    exact ⟨z,rfl,hz.1,fun c hc=>of_decide_eq_true (List.all_eq_true.mp hz.2 c hc),k _ H1 c1 f1 s1 (.str _)⟩
   ·cases eq
  ·cases eq
end
end F2
namespace F2
open PySem L2 PySem.Spec
def Ma (f:M Bool) (b:M Out):Nat→M Out
 | 0=>fun _=>none
 | n + 1=>fun t=>match f t with
   | none=>none
   | some (false,t1)=>some (.next,t1)
   | some (true,t1)=>match b t1 with
     | some (.next,t2)=>Ma f b n t2
     | some (.cont,t2)=>Ma f b n t2
     | some (.brk,t2)=>some (.next,t2)
     | some (.ret x,t2)=>some (.ret x,t2)
     | none=>none
def UE:Nat:=1000000
def Xc (f:M Bool) (b:M Out):M Out:=Ma f b UE
section
variable {X:Cx} {pos:Pos}
end
end F2
namespace L2
open PySem PySem.Spec PyProof.Rows
end L2
namespace F2
open PySem L2 PySem.Spec
end F2
namespace L2
open PySem PySem.Spec PyProof.Rows
section
variable {X:Cx} {tg:Expr}
end
end L2
namespace F2
open PySem L2 PySem.Spec
section
variable {X:Cx} {pos:Pos} {e:Expr} {es:List Expr}
end
def D0 (H:Hp) (a:Addr):Hp:=fun b=>if b=a then none else H b
theorem P1 {H:Hp} {a:Addr} {o:HO} (h:H a=some o):upd (D0 H a) a o=H:=by
 funext b
 by_cases e:b=a
 ·subst e;rw [A1];exact h.symm
 ·rw [AC e];unfold D0;rw [if_neg e]
section
variable {K:PySem.W.Frag} {Oo:Addr→Prop} {c:Cf} {t:T} {σ:L2.St} {H:Hp}
theorem FInv.out (f:FInv K Oo c t σ H) {i:Nat} {ds:List D} (e:t.env[i]?=some (some (.own ds))) {a:Addr} (ha:σ[i]?=some (some (.ref a))) :
 FInv K Oo ⟨c.ι,fun b=>c.O b∧b≠a⟩ { t with env:=t.env.set i none } σ (D0 H a)∧Stp Oo c H ⟨c.ι,fun b=>c.O b∧b≠a⟩ (D0 H a):=by
 obtain ⟨a',vs,g1,g2,g3,g4,g5⟩:=f.own i ds e
 rw [ha] at g1;injection g1 with g1;injection g1 with g1;injection g1 with g1;subst g1
 have ni:a∉c.ι:=f.s.dis a g2
 have ext:Ext c H ⟨c.ι,fun b=>c.O b∧b≠a⟩ (D0 H a):=by
  refine ⟨fun b o hb hn=>?_,fun b o hb z=>?_,fun k b h=>h⟩
  ·unfold D0;rw [if_neg fun z=>hn (by rw [z];exact .inr g2)];exact hb
  ·rcases z with z | z
   ·exact .inl z
   ·exact .inr z.1
 have stp:Stp Oo c H ⟨c.ι,fun b=>c.O b∧b≠a⟩ (D0 H a):=⟨ext,fun b hb=>by unfold D0;rw [if_neg fun z=>g3 (by rw [←z];exact hb)]⟩
 have old:∀{j:Nat} {x:Sl},(t.env.set i none)[j]?=some (some x)→j≠i∧t.env[j]?=some (some x):=fun {j x} q=>by
  by_cases h:j=i
  ·subst h
   rw [List.getElem?_set] at q
   split at q
   ·split at q <;> simp at q
   ·contradiction
  ·exact ⟨h,by rw [List.getElem?_set_ne (Ne.symm h)] at q;exact q⟩
 refine ⟨⟨⟨f.s.len,f.s.nd,fun k b o e1 e2=>?_,fun b hb=>?_,fun b hb=>f.s.dis b hb.1⟩,by simpa using f.len,fun b hb=>⟨f.sub b hb,fun z=>g3 (by rw [←z];exact hb)⟩,fun j d q=>?_,fun j es q=>?_,fun j k es fs b q1 q2 q3 q4=>?_⟩,stp⟩
 ·refine (f.s.obs k b o e1 e2).mono ext ?_
  unfold D0
  rw [if_neg fun z=>ni (by rw [←z];exact List.mem_of_getElem? e1)]
 ·obtain ⟨o,ho⟩:=f.s.trk b hb.1
  exact ⟨o,by unfold D0;rw [if_neg hb.2];exact ho⟩
 ·obtain ⟨v,h1,h2⟩:=f.val j d (old q).2
  exact ⟨v,h1,h2.mono ext⟩
 ·obtain ⟨nj,q'⟩:=old q
  obtain ⟨b,us,k1,k2,k3,k4,k5⟩:=f.own j es q'
  have nb:b≠a:=fun z=>nj (f.inj j i es ds a q' e (by rw [k1,z]) ha)
  exact ⟨b,us,k1,⟨k2,nb⟩,k3,by unfold D0;rw [if_neg nb];exact k4,k5.mono ext⟩
 ·exact f.inj j k es fs b (old q1).2 (old q2).2 q3 q4
end
def Gx (i:Nat):M Out:=fun t=>match t.env[i]? with
 | some (some (.own xs))=>some (.ret (.lst xs),{ t with env:=t.env.set i none })
 | _=>none
def Gw (f:M (List D)):M Out:=bnd f fun ds=>ret (.ret (.lst ds))
section
variable {X:Cx} {pos:Pos} {e:Expr} {es:List Expr}
theorem EB {f:M (List D)} (h:PE X e (RF X.K f)):PS X (.Return (some e) pos) (RSg X.K (μF X.K) (Gw f)):=
 B9 (Iz h) fun E σ H ⟨Oo,c,t,fi,o,t',eq,k⟩=>by
  obtain ⟨ds,t1,e1,eq⟩:=Aq eq
  cases eq
  exact ⟨Oo,c,t,fi,ds,_,e1,fun p us H1 c1 f1 s1 ru hp=>k σ H1 c1 f1 s1 p us hp ru⟩
theorem Om (i:Nat) {x:Str} {px:Pos} (hN:X.N[i]?=some x:=by rfl) (hv:Vis X.env.scope x:=by first | exact Or.inl rfl | exact Or.inr (Or.inl rfl) | exact Or.inr (Or.inr rfl)) (hd:(x == ("__debug__" : Str))=false:=by decide)
 (hcd:(x == ("__classdict__" : Str))=false:=by decide):PS X (.Return (some (.Name x px)) pos) (RSg X.K (μF X.K) (Gx i)):=
 B9 (Iz (Ft hN hv hd hcd)) fun E σ H ⟨Oo,c,t,fi,o,t',eq,k⟩=>by
  unfold Gx at eq
  split at eq
  ·next xs ex=>
   cases eq
   obtain ⟨a,vs,h1,h2,h3,h4,h5⟩:=fi.own i xs ex
   refine ⟨.ref a,h1,?_⟩
   obtain ⟨f2,s2⟩:=fi.out ex h1
   have:=k σ (D0 H a) _ f2 s2 a vs (by unfold D0;rw [if_pos rfl]) (h5.mono s2.ext)
   rw [P1 h4] at this
   exact this
  ·cases eq
def HK (K:PySem.W.Frag) (f:Fn):Sp:=fun vs H Q _=>∃c ds S,SInv K c S H∧Reps K c H vs ds∧∃rs S',f ds S=some (.lst rs,S')∧
 ∀p us H' c',SInv K c' S' H'→Stp c.O c H c' H'→(∀b,c'.O b↔c.O b)→Reps K c' H' us rs→H' p=none→Q (.ref p) (upd H' p (.lst us))
def DQ (g:Fn) (f:M (List D)):M (List D):=bnd f fun ds t=>match g ds t.S with
 | some (.lst rs,S')=>some (rs,{ t with S:=S' })
 | _=>none
theorem Nc {g:Fn} {ds:List D} {t:T} {rs:List D} {t':T} (h:(match g ds t.S with | some (.lst rs,S')=>some (rs,{ t with S:=S' }) | _=>none:Option (List D×T))=some (rs,t')):∃S',g ds t.S=some (.lst rs,S')∧t' = { t with S:=S' }:=by
 split at h
 ·next rs' S' e=>cases h;exact ⟨S',e,rfl⟩
 ·cases h
theorem Ld {k:Nat} {fa:Addr} {fd:FuncData} {ps:List Str} {g:Fn} {f:M (List D)} {x:Str} {p:Pos} (F:FnOk X.prog X.w X.K X.mg X.base CX0 k fa fd ps (HK X.K g)) (hr:Room k X.A) (hg:Gl X x) (hm:X.mg x=some (.ref fa)) (hk:PySem.W.keepIn X.K (.ref fa)=true) (hb:Binds X.K fd ps [])
 (ha:PA X (e :: es) (RA X.K f)) (hdb:(x == ("__debug__" : Str))=false:=by decide) (h1:BU e=false:=by rfl) (h2:Ce es=true:=by rfl) :
 PE X (.Call (.Name x p) (e :: es) [] pos) (RF X.K (DQ g f)):=
 Bw (ML F hr hg hm hk hb .nil QF ha hdb (BI h1) (BJ h2).1) fun σ H Q ⟨Oo,c,t,fi,rs,t',eq,kk⟩=>by
  obtain ⟨ds,t1,e1,eq⟩:=Aq eq
  obtain ⟨S',e2,rfl⟩:=Nc eq
  refine ⟨Oo,c,t,fi,ds,t1,e1,fun vs H1 c1 f1 s1 rvs=>?_⟩
  show HK X.K g (vs++[]) H1 Q E0
  rw [List.append_nil]
  refine ⟨c1,ds,t1.S,f1.s,rvs,rs,S',e2,fun p us H' c' si st ho ru hp=>?_⟩
  obtain ⟨f2,s2⟩:=f1.after si st ho
  exact kk p us H' c' f2 (s1.trans s2) ru hp
theorem Eh {k:Nat} {fa:Addr} {fd:FuncData} {ps:List Str} {g:Fn} {f:M (List D)} {x:Str} {p:Pos} (F:FnOk X.prog X.w X.K X.mg X.base CX0 k fa fd ps (HK X.K g)) (hr:Room k X.A) (hg:Gl X x) (hm:X.mg x=some (.ref fa)) (hk:PySem.W.keepIn X.K (.ref fa)=true) (hb:Binds X.K fd ps [])
 (ha:PA X (e :: es) (RA X.K f)) (hdb:(x == ("__debug__" : Str))=false:=by decide) (h1:BU e=false:=by rfl) (h2:Ce es=true:=by rfl) :
 PE X (.Call (.Name x p) (e :: es) [] pos) (RE X.K (AM (DQ g f))):=AG (Ld F hr hg hm hk hb ha hdb h1 h2)
end
theorem MC {P:Program} {w:World} {K:PySem.W.Frag} {mg:Str→Option Value} {base:Heap} {x qual:Str} {st:Stmt} {fa:Addr} {fd:FuncData} {N ps:List Str} {k n m:Nat} {g:M Out} (e1:ps.length=n) (e2:N.length=m) (F:Fun K x qual st fa fd) (S:FnScope N ps (Av st))
 (hb:∀(cdv:Value) (A:Around) (outer:List Env) (s:Shared) (H:Hp) (E:XK),Room k (A.deeper (PyProof.Rows.envOfC qual (Av st) s.heap.objs.size fa cdv))→
   PSs (DY CX0 P w K mg base N qual (Av st) fa cdv A outer s H E).nox (B3 st) (RSg K (μF K) g)):FnOk P w K mg base CX0 (k + 1) fa fd ps (HK K (fnOf n m g)):=by
 subst e1 e2
 have hlen:∀{ds:List D} {S:List Ob} {z:D×List Ob},fnOf ps.length N.length g ds S=some z→ds.length=ps.length:=fun {ds S z} h=>by
  unfold fnOf at h
  split at h
  ·next h1=>exact h1
  ·cases h
 refine F.ok S (fun vs H Q E h=>?_) (fun cdv A outer s H vs Q E hr h=>?_)
 ·obtain ⟨c,ds,S,si,rs,r,S',e,_⟩:=h
  rw [rs.length];exact hlen e
 obtain ⟨c,ds,S0,si,rs,r,S',e,kk⟩:=h
 refine ⟨RSg K (μF K) g,hb cdv A outer s H E hr,?_⟩
 have hl:=hlen e
 unfold fnOf at e
 rw [if_pos hl] at e
 cases eg:g ⟨env0 N.length ds,S0⟩ with
 | none=>rw [eg] at e;cases e
 | some p=>
   obtain ⟨o,t⟩:=p
   rw [eg] at e
   refine ⟨c.O,c,_,FL si rs,o,t,eg,fun σ' H' c' f' s'=>?_⟩
   obtain ⟨si',ext'⟩:=f'.leave
   have st':Stp c.O c H ⟨c'.ι,c.O⟩ H':=⟨s'.ext.trans ext',s'.oo⟩
   cases o with
   | next=>cases e
   | ret d=>
     cases e
     exact fun p us hp ru=>kk p us H' _ si' st' (fun _=>Iff.rfl) (ru.mono ext') hp
   | brk=>cases e
   | cont=>cases e
theorem MQ {P:Program} {w:World} {K:PySem.W.Frag} {mg:Str→Option Value} {base:Heap} {fa:Addr} {fd:FuncData} {ps:List Str} {k:Nat} {f g:Fn} (e:f=g) (h:FnOk P w K mg base CX0 k fa fd ps (HK K g)):FnOk P w K mg base CX0 k fa fd ps (HK K f):=by rw [e];exact h
end F2
namespace L2
open PySem PySem.Spec PyProof.Rows
section
variable {X:Cx}
theorem R1 {o:Expr} {to:TE} {apos cpos:Pos} (ho:PE X o to) (hbase:attributeBase o "bit_length" X.env (eval o X.env)=eval o X.env:=by rfl) (hline:(apos.endLine == cpos.line)=true:=by rfl) :
 PE X (.Call (.Attribute o "bit_length" apos) [] [] cpos) (fun σ H Q=>to σ H fun v H1=>∃i,v = .int i∧Q (.int (Builtin.Int.intBits i:Nat)) H1):=by
 intro pins s σ H Q I h
 refine Call_method0 hbase hline (thn (ho pins s σ H _ I h) fun u s1 ⟨v,H1,I1,rv,i,ex,q⟩=>?_)
 subst ex
 obtain ⟨t,rfl⟩:=rv
 exact ⟨"int", "int.bit_length",PySem.F.plainAttrs_int,PySem.F.slot_int_bit_length,PySem.F.type_int_bit_length,typeIs_int _ _ _,(fun _ e=>nomatch e),
  method0_gives PySem.F.slot_int_bit_length PySem.F.entry_int_bit_length (typeIs_int _ _ _) (PySem.F.args_int_bit_length_1 _) (PySem.AutoIntG2.int_bit_length_int_0 i t) ⟨.int (Builtin.Int.intBits i:Nat),H1,I1.tok _,⟨_,rfl⟩,q⟩⟩
end
end L2
namespace F2
open PySem L2 PySem.Spec
def Ko:D→M D
 | .int i=>ret (.int (Builtin.Int.intBits i:Nat))
 | _=>fail
section
variable {X:Cx} {pos:Pos} {e:Expr} {es:List Expr}
theorem Oc {o:Expr} {f:M D} {apos cpos:Pos} (ho:PE X o (RE X.K f)) (hbase:attributeBase o "bit_length" X.env (eval o X.env)=eval o X.env:=by rfl) (hline:(apos.endLine == cpos.line)=true:=by rfl) :
 PE X (.Call (.Attribute o "bit_length" apos) [] [] cpos) (RE X.K (fUn f Ko)):=
 Bw (R1 ho hbase hline) fun σ H Q ⟨Oo,c,t,fi,r,t',eq,k⟩=>by
  obtain ⟨d,t1,e1,eq⟩:=Aq eq
  refine ⟨Oo,c,t,fi,d,t1,e1,fun x H1 c1 f1 s1 rx=>?_⟩
  unfold Ko at eq
  split at eq
  ·next i=>
   cases eq
   cases rx
   exact ⟨i,rfl,k _ H1 c1 f1 s1 (.int _)⟩
  ·cases eq
end
section
variable {X:Cx} {b elt:Expr} {pos:Pos}
end
end F2
namespace L2
open PySem PySem.Spec PyProof.Rows
end L2
namespace F2
open PySem L2 PySem.Spec
structure ItOk2 (K:PySem.W.Frag) (J:It) (c:Cf) (H:Hp) (ds:List D):Prop where
 go:∀c' H' (i:Nat),Ext c H c' H'→i < ds.length→J.go i H'
 yld:∀c' H' (i:Nat) x H'' d,Ext c H c' H'→ds[i]?=some d→J.yld i H' x H''→∃p vs es,x = .ref p∧H' p=none∧H''=upd H' p (.tup vs)∧d = .tup es∧Reps K c' H' vs es
 stop:∀c' H',Ext c H c' H'→J.stop ds.length H'
section
variable {X:Cx} {pos:Pos} {e:Expr}
end
end F2
namespace L2
open PySem PySem.Spec PyProof.Rows
section
variable {X:Cx}
end
end L2
namespace F2
open PySem L2 PySem.Spec
section
variable {X:Cx} {pos:Pos} {e:Expr} {es:List Expr}
end
end F2
namespace L2
open PySem PySem.Spec PyProof.Rows
section
variable {X:Cx} {e ek:Expr} {p2 pos:Pos} {te:TE} {tk:TO}
end
end L2
namespace F2
open PySem L2 PySem.Spec
section
variable {X:Cx}
end
end F2
namespace L2
open PySem PySem.Spec PyProof.Rows
section
variable {X:Cx}
end
end L2
namespace F2
open PySem L2 PySem.Spec
section
variable {X:Cx} {pos:Pos}
end
end F2
namespace L2
open PySem PySem.Spec PyProof.Rows
theorem J7 {x y:Int} (h0:0 < y) (h1:y < 18446744073709551616):Builtin.divisionGoesByPylong x y=false:=by
 unfold Builtin.divisionGoesByPylong
 have hl:y.natAbs.log2 < 64:=(Nat.log2_lt (by lia)).mpr (by show y.natAbs < 2 ^ 64;lia)
 have e:(y == 0)=false:=by rw [beq_eq_false_iff_ne];lia
 simp only [e,Bool.false_eq_true,if_false]
 rw [Bool.and_eq_false_iff]
 left
 rw [decide_eq_false_iff_not]
 lia
def Qu (i j:Int):Prop:=0 < j∧j < 18446744073709551616
section
variable {X:Cx}
theorem JM {i:Int} (h:i.natAbs < 2 ^ 512):Builtin.Int.intBits i≤2 ^ 20:=by
 unfold Builtin.Int.intBits
 split
 ·exact Nat.zero_le _
 ·next z=>
  have hz:i.natAbs≠0:=by
   intro e
   have:i=0:=by lia
   subst this
   exact z rfl
  have:=(Nat.log2_lt hz).mpr h
  lia
def Qv (i j:Int):Prop:=i.natAbs < 2 ^ 512∧j.natAbs < 2 ^ 512
theorem Ju:OpR X (binaryOp .Mult) (rI Qv fun i j=>.int (i * j)):=opI fun _ _ _ _ _ _ _ hc q=>mul_int q (IntMulOk.of_bits (JM hc.1) (JM hc.2))
theorem LD:OpR X (binaryOp .FloorDiv) (rI Qu fun i j=>.int (i / j)):=opI fun i j _ _ _ _ _ hc q=>by
 have h1:(0:Int) < j:=hc.1
 exact floordiv_int (by lia) (by rw [Int.fdiv_eq_ediv_of_nonneg i (by lia)];exact q) (.inl (J7 hc.1 hc.2))
end
end L2
namespace F2
open PySem L2 PySem.Spec
def K9 (i j:Int):Bool:=decide (0 < j) && decide (j < 18446744073709551616)
def Ic:=i2C K9 fun i j=>.int (i / j)
theorem JX {K:PySem.W.Frag}:BT K (rI Qu fun i j=>.int (i / j)) Ic:=EC (fun i j h=>by
 unfold K9 at h
 rw [Bool.and_eq_true,decide_eq_true_eq,decide_eq_true_eq] at h
 exact h) fun _ _ _ _=>.int _
def Lu (i j:Int):Bool:=decide (i.natAbs < 2 ^ 512) && decide (j.natAbs < 2 ^ 512)
def Jm:=i2C Lu fun i j=>.int (i * j)
theorem HI {K:PySem.W.Frag}:BT K (rI Qv fun i j=>.int (i * j)) Jm:=EC (fun i j h=>by
 unfold Lu at h
 rw [Bool.and_eq_true] at h
 exact ⟨of_decide_eq_true h.1,of_decide_eq_true h.2⟩) fun _ _ _ _=>.int _
end F2
namespace L2
open PySem PySem.Spec PyProof.Rows
section
variable {X:Cx}
end
section
variable {X:Cx}
end
section
variable {X:Cx}
end
end L2
namespace F2
open PySem L2 PySem.Spec
section
variable {X:Cx} {pos:Pos} {e:Expr} {es:List Expr}
end
end F2
namespace L2
open PySem PySem.Spec PyProof.Rows
section
variable {X:Cx}
end
end L2
namespace F2
open PySem L2 PySem.Spec
def Nq:List (Key×D)→Option (List Int)
 | []=>some []
 | (.inl k,_) :: r=>(Nq r).map (k :: ·)
 | _=>none
section
variable {K:PySem.W.Frag} {c:Cf} {H:Hp}
end
section
variable {X:Cx} {pos:Pos} {e b:Expr}
end
end F2
namespace L2
open PySem PySem.Spec PyProof.Rows
def tb (led:Bool) (pl:List Nat):SetTable:={ mask:=7,place:=pl.toArray,dummies:=#[],finger:=0,led:=led,moves:=0,plain:=true }
section
variable {P:Program} {w:World} {A:Around} {E:Value→Shared→Prop} {s:Shared}
end
section
variable {P:Program} {w:World} {A:Around} {I:Addr} {fp wr:List Addr} {G:Array GenState→Array GenState→Prop} {n:Nat} {Pr:Nat→Value→Prop} {St:Nat→Shared→Prop}
end
section
variable {P:Program} {w:World} {A:Around} {E:Value→Shared→Prop} {s:Shared}
end
section
variable {prog:Program} {w:World} {A:Around}
end
section
variable {X:Cx}
end
end L2
namespace F2
open PySem L2 PySem.Spec PyProof.Rows
section
variable {X:Cx} {pos:Pos} {e:Expr}
end
end F2
namespace L2
open PySem PySem.Spec PyProof.Rows
section
variable {P:Program} {w:World} {A:Around} {E:Value→Shared→Prop} {s:Shared}
structure ZT (h:Heap) (z TI TO i1 i2 t1 t2:Addr) (n:Nat):Prop where
 zz:IsZip h z TI TO .none
 ti:IsPair h TI (.ref i1) (.ref i2)
 ot:∃a b,IsPair h TO a b
 p1:h.IsTupleIter i1 t1 n
 p2:h.IsTupleIter i2 t2 n
end
section
variable {P:Program} {w:World} {A:Around} {E:Value→Shared→Prop} {s:Shared}
end
def Itz (K:PySem.W.Frag) (a b:Addr):It:=
 ⟨fun i H=>∃xs ys x y,SqT K H a xs∧SqT K H b ys∧xs[i]?=some x∧ys[i]?=some y,fun i H v H'=>∃p x y,v = .ref p∧H p=none∧(∀xs,SqT K H a xs→xs[i]?=some x)∧(∀ys,SqT K H b ys→ys[i]?=some y)∧H'=upd H p (.tup [x,y]),fun i H=>∃xs ys,SqT K H a xs∧SqT K H b ys∧(xs.length≤i∨ys.length≤i)⟩
end L2
namespace F2
open PySem L2 PySem.Spec
def W1:List D→List D→List D
 | x :: xs,y :: ys=>.tup [x,y] :: W1 xs ys
 | _,_=>[]
section
variable {X:Cx} {e a b tg iter elt:Expr} {ifs:List Expr} {pos:Pos} {scope:Scope} {N':List Str} {n:Nat} {fr:List Nat} {f:M (List D)} {st:D→M Unit} {tst:M Bool} {el:M D}
end
def EQ (S:List Ob):D→D
 | .tup ds=>.tup (ds.map (Dr S))
 | d=>Dr S d
theorem JW {K:PySem.W.Frag} {c:Cf} {S:List Ob} {H:Hp} (s:SInv K c S H):∀{vs:List V} {ds:List D},Reps K c H vs ds→Fd (ds.map (Dr S))=true→Reps K c0 H vs (ds.map (Dr S))
 | _,_,.nil,_=>.nil
 | _,_,.cons h t,p=>by
   simp only [List.map_cons,Fd,Bool.and_eq_true] at p
   exact .cons (B6 s h p.1) (JW s t p.2)
theorem LP {K:PySem.W.Frag} {c:Cf} {S:List Ob} {H:Hp} {v:V} {d:D} (s:SInv K c S H) (r:Rep K c H v d) (p:B8 (EQ S d)=true):Rep K c0 H v (EQ S d):=by
 cases r with
 | tup h n q=>exact .tup h (IR _) (JW s q (by simpa [EQ,B8] using p))
 | @obj a k hk=>exact B6 s (.obj hk) p
 | non=>exact B6 s .non p
 | bl b=>exact B6 s (.bl b) p
 | int b=>exact B6 s (.int b) p
 | str b=>exact B6 s (.str b) p
 | ty b=>exact B6 s (.ty b) p
 | lst h n q=>exact B6 s (.lst h n q) p
 | scr h=>exact B6 s (.scr h) p
 | dic h n=>exact B6 s (.dic h n) p
 | exc a b n f q=>exact B6 s (.exc a b n f q) p
def eqT (g:Bool→Bool) (x y:D):M D:=fun t=>if (B8 (EQ t.S x) && B8 (EQ t.S y))=true then (eqN EQD (EQ t.S x) (EQ t.S y)).map fun b=>(.bl (g b),t) else none
theorem So {K:PySem.W.Frag} {g:Bool→Bool}:BT K (NC K g) (eqT g):=fun {Oo c t σ H x y dx dy r t' Q} f rx ry eq k=>by
 unfold eqT at eq
 split at eq
 ·next hp=>
  rw [Bool.and_eq_true] at hp
  obtain ⟨b,e1,e2⟩:=Option.map_eq_some_iff.mp eq
  cases e2
  exact ⟨c0,_,_,b,LP f.s rx hp.1,LP f.s ry hp.2,e1,k _ H c f .refl (.bl (g b))⟩
 ·cases eq
section
variable {X:Cx} {elt:Expr} {pos:Pos} {e:Expr} {es:List Expr}
theorem Od {o:Expr} {f:M D} {g:M (List D)} {apos cpos:Pos} (ho:PE X o (RE X.K f)) (ha:PA X (e :: es) (RA X.K g))
 (hbase:attributeBase o "extend" X.env (eval o X.env)=eval o X.env:=by rfl)
 (hfew:((backTo cpos (starEach (e :: es) X.env)).all (fun x=>!x.1) && (backToKw cpos (keywordEach [] X.env)).all (fun x=>x.1.isSome) && decide ((e :: es).length + ([]:List Keyword).length + (if ([]:List Keyword).isEmpty then 0 else 1) < 30))=true:=by rfl)
 (hline:(apos.endLine == cpos.line)=true:=by rfl) (hs:starEach (e :: es) X.env=(false,eval e X.env) :: starEach es X.env:=by rfl) (hplain:(backTo cpos (starEach es X.env)).any (·.1)=false:=by rfl) :
 PE X (.Call (.Attribute o "extend" apos) (e :: es) [] cpos) (RE X.K (objM FG f g)):=
 Bw (Ku PySem.F.plainAttrs_list PySem.F.slot_list_extend PySem.F.type_list_extend MH ho ha hbase hfew hline hs hplain) fun _ _ _ q=>RE.objM MS q
end
end F2
namespace L2
open PySem PySem.Spec PyProof.Rows
section
variable {X:Cx} {pins:List (Addr×Obj)} {σ:St} {H:Hp} {s:Shared} {a:Addr} {kvs:List (Key×V)} {o:Obj}
end
section
variable {X:Cx}
end
section
variable {X:Cx}
end
end L2
namespace F2
open PySem L2 PySem.Spec SeqAt
def NV (K:PySem.W.Frag) (H:Hp) (v w:V):Prop:=∃c dv dw,Rep K c H v dv∧Rep K c H w dw∧eqN EQD dv dw=some true
def SS (K:PySem.W.Frag) (H:Hp) (v w:V):Prop:=NV K H v w∨∃a b us ts,v = .ref a∧w = .ref b∧H a=some (.dK us)∧H b=some (.dK ts)∧us.length=ts.length∧(∀kv∈us,∃n:Int,kv.1=Sum.inl n)∧(∀kv∈ts,∃n:Int,kv.1=Sum.inl n)∧∀kv∈us,∃z,Es ts kv.1=some z∧NV K H kv.2 z
def Xn (K:PySem.W.Frag) (b:Bool):R2:=fun x y H Q=>∃p q vs ws,x = .ref p∧y = .ref q∧H p=some (.lst vs)∧H q=some (.lst ws)∧vs.length=ws.length∧(∀(j:Nat) v w,vs[j]?=some v→ws[j]?=some w→SS K H v w)∧Q (.bl b) H
def KU (S:List Ob) (x y:D):Bool:=B8 (Dr S x) && B8 (Dr S y) && decide (eqN EQD (Dr S x) (Dr S y)=some true)
def W7 (S:List Ob) (x y:D):Bool:=match x,y with
 | .obj m,.obj n=>match S[m]?,S[n]? with
   | some (.dct kvs),some (.dct lvs)=>kvs.length == lvs.length && (Nq kvs).isSome && (Nq lvs).isSome && kvs.all (fun kv=>match B0 lvs kv.1 with | some e=>KU S kv.2 e | none=>false)
   | _,_=>KU S x y
 | _,_=>KU S x y
end F2
namespace F2
open PySem L2 PySem.Spec
section
variable {X:Cx} {pos:Pos}
end
end F2
namespace L2
open PySem PySem.Spec PyProof.Rows
structure ZL (h:Heap) (z TI TO i1 i2 t1 t2:Addr) (n:Nat):Prop where
 zz:IsZip h z TI TO .none
 ti:IsPair h TI (.ref i1) (.ref i2)
 ot:∃a b,IsPair h TO a b
 p1:h.IsListIter i1 t1 n
 p2:h.IsListIter i2 t2 n
end L2
namespace F2
open PySem L2 PySem.Spec
section
variable {X:Cx} {a b:Expr} {pos:Pos}
end
end F2
namespace L2
open PySem PySem.Spec PyProof.Rows PySem.W
section
variable {prog:Program} {w:World} {A:Around} {h:Heap} {g:Array GenState} {d:Drawn} {t:Nat} {os:OsState} {R:Result→Shared→Prop}
variable {nm q:Str} {C N fI:Addr} {bs bm bmB:List Value} {hdct:Bool} {sn:List Str} {sub:List Value} {ab:Bool} {col:Option Bool} {dd:Option Addr} {k0 k1 k2 k3 k5:Option Value} {B newId initId:String} {mN:Str→Option Value}
abbrev excObj (C tp:Addr):Obj:={ cls:=.ref C,data:=.fields #[.ref tp,.none,.none,.none,.bool false,.none] }
abbrev GN (h:Heap) (C:Addr) (us:List Value):Heap:=(h.push { cls:=.type "tuple",data:=.seq us.toArray }).push (excObj C h.objs.size)
theorem PN (F:ExcBaseFacts B newId initId bmB) (T:OwnTail h bmB bm) {us:List Value} (hC:h.get? C=some (excClassObj nm q C N bs bm hdct sn sub ab col dd k0 k1 k2 k3 k5 newId)) (hn:h.Ns N mN) (hni:mN "__init__" = some (.ref fI))
 (hb:Looks (model prog w) h (bindSpecial (.ref fI) (.ref (h.objs.size + 1))) (.ref fI,[.ref (h.objs.size + 1)])) (hus:us.length≤sizeLine)
 (hq:codeAny (model prog w) (A.under (.builtin "type.__call__" ⟨.ref C :: us,[]⟩)) (.call (.ref fI) ⟨.ref (h.objs.size + 1) :: us,[]⟩) (InitBack (h.objs.size + 1) R) ⟨GN h C us,g,d,t,os⟩) :
 codeAny (model prog w) A (.call (.ref C) ⟨us,[]⟩) R ⟨h,g,d,t,os⟩:=by
 have c1:=tc_lookup
 have c2:=tc_bind (.ref C)
 have ty:(⟨h,g,d,t,os⟩:Shared).TypeIs (.ref C) "type":=⟨_,hC,rfl⟩
 refine codeAny_of_tree ?_
 show wpAny _ _ (callAny (.ref C) _) _ _ _
 repeat (any_goals (first
  | assumption
  | with_reducible refine wpAny_loadPart_at hC ?_
  | wp_step))
 refine ⟨rfl,codeAny_call_builtin_at (Code.quiet_builtin _ (by decide +kernel)) entry_typeCall (wpAny_check_type_call_sub hC ?_)⟩
 repeat (first
  | with_reducible refine wpAny_loadPart_at hC ?_
  | with_reducible refine wpAny_madeBy_exc hC ?_
  | wp_step)
 refine codeAny_call_builtin_code (Code.quiet_builtin _ F.quiet) (wpAny_check_new_subT F T hC (codeAny_exc_new_subT F T hC ?_ hus))
 change wpAny _ _ _ _ _ (Shared.mk (GN h C us) g d t os)
 have kp:∀b o,h.get? b=some o→(GN h C us).get? b=some o:=fun b o e=>Heap.get?_push_of_some _ (Heap.get?_push_of_some _ e)
 have he:(GN h C us).get? (h.objs.size + 1)=some { cls:=.ref C,data:=.fields #[.ref h.objs.size,.none,.none,.none,.bool false,.none] }:=by heap_get
 have n1:(GN h C us).Ns N mN:=hn.keeps kp
 have cC:(Value.ref C :: bm).contains (.ref C)=true:=by simp
 unfold isInstance
 repeat (first
  | with_reducible refine wpAny_loadPart_at he ?_
  | (with_reducible refine wpAny_isSubtype_exc (kp _ _ hC) ?_;rw [cC])
  | wp_step)
 show wpAny _ _ (typeLookup (.ref C) _) _ _ _
 refine wpAny_typeLookup_tail (kp _ _ hC) n1 (T.keeps kp) F.mroIs F.init.lookup ?_
 rw [hni]
 refine wpAny_holding (wpAny_bind ((hb.keeps kp).at ?_))
 refine wpAny_bind (wpAny_call (codeAny_mono hq fun r s' z=>?_))
 cases r with
 | error e=>exact z
 | ok f=>
   cases f with
   | ret v=>
     obtain ⟨rfl,z⟩:=z
     exact wpAny_pure (wpAny_pure z)
   | _=>exact z.elim
end
end L2
namespace L2
open PySem PySem.Spec PyProof.Rows PySem.W PySem.Builtin PySem.Builtin.ObjectAttr
theorem OR (self:Value):refuseLoop self "__setattr__" [.type "ValueError",.type "Exception",.type "BaseException",.type "object"]=pure ():=by
 kernel_rfl
abbrev Ia (C P:Addr):List Value:=[.ref C,.ref P,.type "ValueError",.type "Exception",.type "BaseException",.type "object"]
theorem NF (self:Value) (C P:Addr):refuseLoop self "__setattr__" (Ia C P)=pure ():=by
 rw [Ia,refuseLoop_ref,refuseLoop_ref]
 exact OR self
section
variable {prog:Program} {w:World} {A:Around} {s:Shared} {K:PySem.W.Frag} {x C P tp:Addr} {R:Result→Shared→Prop} {name:Str} {v:Value} {tk:Tok} {cd:ClassData}
theorem R0 (X:K.In s.heap) (hx:s.heap.get? x=some (excObj C tp)) (hc:clsIn K C=some cd) (hmr:cd.mro=Ia C P) (ha:findIn K (.ref C) name=some none)
 (h:wpAny (model prog w) A.in1 (storeInOwnDict (.ref x) (.ref C) (.str name tk) name v false) (fun fin s'=>match fin with | .done f=>R (.ok f) s' | .again c'=>c'.quiet=true∧codeAny (model prog w) A c' R s') (fun e s'=>R (.error e) s') s) :
 codeAny (model prog w) A (.call (.builtin "object.__setattr__") ⟨[.ref x,.str name tk,v],[]⟩) R s:=by
 have SF:=PySem.F.store_object
 have I:InstAt s.heap x (excObj C tp) C none:=⟨hx,rfl,rfl,trivial⟩
 have ob:Looks (model prog w) s.heap (isInstance (.ref x) (.type "object")) true:=I.type.andThen (looks_mroIn X (by unfold mroIn;rw [hc,Option.bind_some,hmr];rfl))
 refine codeAny_call_builtin SF.slot.plain SF.entry (@check_slot (model prog w) _ _ s "object.__setattr__" "object" "__setattr__" (.ref x) [.str name tk,v] [] _ SF.kind SF.split ob (SF.args (.ref x) (.str name tk) v) ?_)
 have mr:Looks (model prog w) s.heap (mroOf (.ref C)) (Ia C P):=by rw [←hmr];exact (looks_clsIn X hc).andThen .now
 rw [osa_eq,refuse_eq]
 refine wpAny_bind (wpAny_bind (I.type.here (wpAny_bind (mr.here ?_))))
 rw [NF]
 refine wpAny_pure (wpAny_bind (I.type.here (wpAny_bind ((looks_findIn X ha).here ?_))))
 exact wpAny_bind (wpAny_pure h)
theorem Sv {E:Value→Shared→Prop} {Q:Unit→Shared→Prop} (X:K.In s.heap) (hx:s.heap.get? x=some (excObj C tp)) (hs:findIn K (.ref C) "__setattr__" = some (some (.builtin "object.__setattr__"))) (hc:clsIn K C=some cd) (hmr:cd.mro=Ia C P) (hd:cd.hasDict=true) (ha:findIn K (.ref C) name=some none)
 (h:∀h',(∀b o,b≠x→s.heap.get? b=some o→h'.get? b=some o)→h'.get? x=some { excObj C tp with dict:=some s.heap.objs.size }→h'.Ns1 s.heap.objs.size (fun y=>if y=name then some v else none)→Q () { s with heap:=h',toks:=s.toks + 2 }) :
 wpAny (model prog w) A (setAttr (.ref x) name v) Q E s:=by
 have I:InstAt s.heap x (excObj C tp) C none:=⟨hx,rfl,rfl,trivial⟩
 refine set_plain X I hs (R0 (s:={ s with toks:=s.toks + 1 }) X hx hc hmr ha ?_)
 refine wpAny_bind (wpAny_pure (wpAny_bind (wpAny_bind (wpAny_loadPart (s:={ s with toks:=s.toks + 1 }) hx (wpAny_bind (Looks.here (s:={ s with toks:=s.toks + 1 }) (looks_clsIn X hc) ?_))))))
 rw [hd,if_neg (by decide)]
 show wpAny _ _ (alloc _ >>= fun dx=>update x _ >>= fun _=>pure (some dx)) _ _ _
 have hx1:(s.heap.push emptyDict).get? x=some (excObj C tp):=Heap.get?_push_of_some _ hx
 have hne:s.heap.objs.size≠x:=Nat.ne_of_gt (Heap.lt_size hx)
 refine wpAny_bind (wpAny_alloc (s:={ s with toks:=s.toks + 1 }) (wpAny_bind (wpAny_update hx1 (wpAny_pure ?_))))
 have hx2:((s.heap.push emptyDict).update x fun o=>{ o with dict:=some s.heap.objs.size }).get? x=some { excObj C tp with dict:=some s.heap.objs.size }:=Heap.get?_update_self _ hx1 rfl
 have hk:∀b o,b≠x→s.heap.get? b=some o→((s.heap.push emptyDict).update x fun o=>{ o with dict:=some s.heap.objs.size }).get? b=some o:=fun b o hb e=>(Heap.get?_update_other _ _ (Ne.symm hb)).trans (Heap.get?_push_of_some _ e)
 have hdx:((s.heap.push emptyDict).update x fun o=>{ o with dict:=some s.heap.objs.size }).get? s.heap.objs.size=some emptyDict:=(Heap.get?_update_other _ _ (Ne.symm hne)).trans (Heap.get?_push_size _ rfl)
 have n1:((s.heap.push emptyDict).update x fun o=>{ o with dict:=some s.heap.objs.size }).Ns1 s.heap.objs.size fun _=>none:=⟨_,#[],_,hdx,rfl,(fun e he=>by simp at he),(by simp [UniqKeys]),fun _=>rfl⟩
 refine wpAny_bind (wpAny_pure (wpAny_bind ?_))
 refine wpAny_nsSet1 n1 fun h' n2 sb=>?_
 obtain ⟨oD,esD,epD,hoD,hdD,hcD⟩:=n2.count (PySem.Within.cons name v (ns:=[]) (fun y u=>absurd rfl u))
 refine wpAny_bind (wpAny_lookBehind hoD (by rw [hdD];exact pastItsLine_dict (Nat.le_trans hcD (by show 1≤_;decide))) ?_)
 exact wpAny_pure (h h' (fun b o hb e=>by
  by_cases hb2:b=s.heap.objs.size
  ·subst hb2;exact absurd (Heap.lt_size e) (Nat.lt_irrefl _)
  ·exact (sb.2 b hb2).trans (hk b o hb e)) ((sb.2 x (Ne.symm hne)).trans hx2) n2)
end
end L2
namespace L2
open PySem PySem.Spec PyProof.Rows PySem.W
def XRec (h:Heap) (x C:Addr) (dx:Option Addr) (tb:Value):Prop:=∃(o:Obj) (vs:Array Value),h.get? x=some o∧o.cls = .ref C∧o.dict=dx∧o.data = .fields vs∧vs[1]?=some tb
def XTb (h:Heap) (T:Addr):Prop:=∃(o:Obj) (ts:Array Value),h.get? T=some o∧o.data = .fields ts∧ts[3]?=some .none
structure XKeep (fs ch:List Addr) (h h':Heap):Prop where
 keep:∀b o,b∉ch→b∉fs→h.get? b=some o→h'.get? b=some o
 slot:∀b o,b∉ch→h.get? b=some o→∃sl,h'.get? b=some { o with slots:=sl }
section
variable {M:Model} {A:Around} {E:Value→Shared→Prop} {s:Shared} {env:Env} {outer:List Env} {base:Heap} {L x C:Addr} {dx:Option Addr} {tb:Value} {Q:Unit→Shared→Prop}
theorem Lq {o:Obj} {vs:Array Value} (hd:o.data = .fields vs) (f:Array Value→Array Value):(o.mapFields f).data = .fields (f vs)∧(o.mapFields f).cls=o.cls∧(o.mapFields f).dict=o.dict:=by
 obtain ⟨c,d,dt,sl⟩:=o
 cases hd
 exact ⟨rfl,rfl,rfl⟩
end
abbrev VE:List Value:=[.type "ValueError",.type "Exception",.type "BaseException",.type "object"]
structure XCl (K:PySem.W.Frag) (C:Addr) (bm:List Value):Prop where
 ex:∃cd dd k0 k1 k2 k3 k5,K.lookup C=some { cls:=.type "type",dict:=dd,data:=.cls cd,slots:=#[k0,k1,k2,k3,some (.builtin "ValueError.__new__"),k5] }∧cd.mro = .ref C :: bm∧cd.hasDel=false∧cd.hasDict=true∧nsOkIn K cd.ns=true
 tl:tailIn K VE bm=true
def KA (K:PySem.W.Frag) (C:Addr) (bm:List Value):Bool:=tailIn K VE bm && match K.lookup C with
 | some ⟨.type "type",_,.cls cd,sl⟩=>(match sl.toList with
   | [_,_,_,_,some (.builtin n),_]=>n == "ValueError.__new__" && cd.mro == .ref C :: bm && !cd.hasDel && cd.hasDict && nsOkIn K cd.ns
   | _=>false)
 | _=>false
theorem XCl.of_in {K:PySem.W.Frag} {C:Addr} {bm:List Value} (q:KA K C bm=true):XCl K C bm:=by
 unfold KA at q
 rw [Bool.and_eq_true] at q
 refine ⟨?_,q.1⟩
 have q:=q.2
 split at q
 ·rename_i dd cd sl ho
  split at q
  ·rename_i k0 k1 k2 k3 n k5 hs
   simp only [Bool.and_eq_true,beq_iff_eq,Bool.not_eq_true'] at q
   obtain ⟨⟨⟨⟨rfl,h1⟩,h2⟩,h3⟩,h4⟩:=q
   have hsl:sl=#[k0,k1,k2,k3,some (.builtin "ValueError.__new__"),k5]:=by
    cases sl
    exact congrArg Array.mk hs
   exact ⟨cd,dd,k0,k1,k2,k3,k5,by rw [ho,hsl],h1,h2,h3,h4⟩
  ·cases q
 ·cases q
theorem XCl.obj {K:PySem.W.Frag} {C:Addr} {bm:List Value} {h:Heap} (c:XCl K C bm) (X:K.In h):∃nm q N bs sn sub ab col dd k0 k1 k2 k3 k5,h.get? C=some (excClassObj nm q C N bs bm true sn sub ab col dd k0 k1 k2 k3 k5 "ValueError.__new__")∧h.Ns N (h.nsMap N):=by
 obtain ⟨⟨nm,bs,mro,ns,qn,hd,sn,sub,ab,col,del⟩,dd,k0,k1,k2,k3,k5,h1,h2,h3,h4,h5⟩:=c.ex
 dsimp only at h2 h3 h4 h5
 subst h2 h3 h4
 exact ⟨nm,qn,ns,bs,sn,sub,ab,col,dd,k0,k1,k2,k3,k5,X _ _ h1,.of_isNs (isNs_of_in X h5)⟩
theorem XCl.tail {K:PySem.W.Frag} {C:Addr} {bm:List Value} {h:Heap} (c:XCl K C bm) (X:K.In h):OwnTail h VE bm:=tail_of_in X c.tl
theorem XCl.has {K:PySem.W.Frag} {C:Addr} {bm:List Value} {h:Heap} (c:XCl K C bm) (X:K.In h):(Value.ref C :: bm).contains (.type "BaseException")=true:=by
 rw [List.contains_cons,(c.tail X).hasType (b:=true) (by decide +kernel),Bool.or_true]
section
variable {M:Model} {A:Around} {E:Value→Shared→Prop} {env:Env} {K:PySem.W.Frag} {C:Addr} {bm:List Value} {s:Shared}
theorem Qh {t:Sem Value} {Q:Flow→Shared→Prop} (c:XCl K C bm) (hh:A.handled=none)
 (h:wpAny M A t (fun v s1=>∃x dx,v = .ref x∧K.In s1.heap∧XRec s1.heap x C dx .none∧E v s1) E s):wpAny M A (raiseStmt env (some t) none) Q E s:=by
 unfold raiseStmt
 refine wpAny_bind (wpAny_mono h (fun v s1 q=>?_) fun _ _ z=>z)
 obtain ⟨x,dx,rfl,X,⟨o,vs,hx,hc,hd,hdt,h1⟩,hE⟩:=q
 obtain ⟨nm,q,N,bs,sn,sub,ab,col,dd,k0,k1,k2,k3,k5,hC,_⟩:=c.obj X
 have hb:=c.has X
 obtain ⟨hp,g,d,tk,os⟩:=s1
 repeat (first
  | (with_reducible refine wpAny_loadPart_at hx ?_;rw [hc])
  | with_reducible refine wpAny_loadPart_at hC ?_
  | (with_reducible refine wpAny_isSubtype_exc hC ?_;rw [hb])
  | with_reducible refine wpAny_field hx hdt h1 ?_
  | wp_step)
 exact wpAny_raiseNew_none hh hE
end
def CX1 (P:Program) (w:World):CXT:=fun outer H s E e s'=>∃(x C:Addr) (dx:Option Addr) (T:Addr) (H':Hp),e = .ref x∧s'.os=s.os∧AllBare s'.gens∧Un (frs outer) [] H H' s.heap s'.heap∧HOk P w H' s'.heap∧
 H' x=some (.ext (F2.XIs x C dx))∧s.heap.objs.size≤x∧s.heap.objs.size≤T∧T≠x∧H' T=none∧XRec s'.heap x C dx (.ref T)∧XTb s'.heap T∧E (.ref x) dx H'
theorem XRec.is {h:Heap} {x C:Addr} {dx:Option Addr} {tb:Value} (r:XRec h x C dx tb):F2.XIs x C dx h:=by
 obtain ⟨o,vs,h1,h2,h3,h4,_⟩:=r
 exact ⟨o,vs,h1,h2,h3,h4⟩
theorem XIs.stay {x C:Addr} {dx:Option Addr} {h1 h2:Heap} (r:F2.XIs x C dx h1) (k:∀o,h1.get? x=some o→h2.get? x=some o):F2.XIs x C dx h2:=by
 obtain ⟨o,vs,e,q⟩:=r
 exact ⟨o,vs,k o e,q⟩
theorem Oa {P:Program} {w:World} {H:Hp} {h:Heap} {x C:Addr} {dx:Option Addr} (r:F2.XIs x C dx h):ObjOk P w H h x (.ext (F2.XIs x C dx)):=
 ⟨r,let ⟨o,_,e,_⟩:=r;⟨o,e⟩,fun _ _ q k=>XIs.stay q k⟩
section
variable {X:Cx} {pins:List (Addr×Obj)} {σ:St} {H H':Hp} {s s':Shared} {h':Heap} {x C T:Addr} {dx:Option Addr} {ch:List Addr}
theorem Qm (k:XKeep (frs X.stack) ch s.heap h') (hT:∀b∈ch,b=x∨b=T):Un (frs X.stack) (x :: T :: []) H H s.heap h':=by
 have nch:∀b:Addr,b∉(x :: T :: [])→b∉ch:=fun b hb z=>hb (by rcases hT b z with rfl | rfl <;> simp)
 refine ⟨fun b o e n hb hx=>k.keep b o (nch b hx) hb e,fun b o e n hb hx=>k.slot b o (nch b hx) e,fun b o e n _=>n,fun b o e hx=>?_,fun _ _ e=>e,fun _ _ _ e=>e,fun b ps e=>⟨#[],by rw [e];simp⟩⟩
 obtain ⟨sl,q⟩:=k.slot b o (nch b hx) e
 exact ⟨_,q⟩
theorem Inv.left (I:Inv X pins σ H s) (hx:H x=some (.ext (F2.XIs x C dx))) (hT:H T=none) (nx:X.s₀.heap.objs.size≤x) (nT:X.s₀.heap.objs.size≤T) (k:XKeep (frs X.stack) ch s.heap h') (hc:∀b∈ch,b=x∨b=T) (r:F2.XIs x C dx h')
 (oT:∀y c,X.env.cells.lookup y=some c→c≠T) (lT:T≠X.env.locals) (pT:∀p∈X.pn++pins,p.1≠T):Inv X pins σ H { s with heap:=h' }:=by
 have nfr:∀b u,H b=some u→b∉frs X.stack:=fun b u e z=>by rw [I.stkFree b z] at e;cases e
 refine I.call (g':=s.gens) (t':=s.toks) (d':=s.drawn) (ch:=[x,T]) (Qm k hc) (fun b u e=>?_) I.bare fun b hb=>?_
 ·by_cases hb:b=x
  ·subst hb;rw [hx] at e;cases e;exact Oa r
  ·refine (I.hok b u e).stay (fun c v hcc q=>k.keep c v ?_ ?_ q) (fun _ q=>q) fun _ _ q=>q
   ·intro z
    rcases hcc with rfl | hcc
    ·rcases hc c z with q | q
     ·exact hb q
     ·rw [q,hT] at e;cases e
    ·rcases hc c z with q | q
     ·rw [q,hx] at hcc;cases hcc
     ·rw [q,hT] at hcc;cases hcc
   ·rcases hcc with rfl | hcc
    ·exact nfr _ _ e
    ·exact nfr _ _ hcc
 ·have q:b=x∨b=T:=by simpa using hb
  rcases q with rfl | rfl
  ·exact ⟨.inr nx,(fun z=>by rw [z,I.free] at hx;cases hx),(fun y c e z=>by subst z;rw [I.freeC y c e] at hx;cases hx),fun p hp z=>by rw [←z,(I.pin p hp).2.1] at hx;cases hx⟩
  ·exact ⟨.inr nT,lT,oT,pT⟩
theorem Inv.raised (I:Inv X pins σ H s) {E:XK} {e:Value} (q:CX1 X.prog X.w X.stack H s E e s'):∃(x C:Addr) (dx:Option Addr) (T:Addr) (H':Hp),e = .ref x∧Inv X pins σ H' s'∧H' x=some (.ext (F2.XIs x C dx))∧s.heap.objs.size≤x∧s.heap.objs.size≤T∧T≠x∧H' T=none∧XRec s'.heap x C dx (.ref T)∧XTb s'.heap T∧E (.ref x) dx H':=by
 obtain ⟨x,C,dx,T,H',he,os,bare,un,hok,hx,nx,nT,ne,hT,r,tb,q⟩:=q
 obtain ⟨hh,g,d,t,os'⟩:=s'
 obtain rfl:os'=s.os:=os
 exact ⟨x,C,dx,T,H',he,I.call (h':=hh) (g':=g) (d':=d) (t':=t) (ch:=[]) un hok bare (fun b z=>absurd z (by simp)),hx,nx,nT,ne,hT,r,tb,q⟩
theorem Inv.newT (I:Inv X pins σ H s) (h:s.heap.objs.size≤T):T≠X.env.locals∧(∀y c,X.env.cells.lookup y=some c→c≠T)∧∀p∈X.pn++pins,p.1≠T:=by
 have far:∀b o,s.heap.get? b=some o→b≠T:=fun b o e z=>absurd (Nat.lt_of_lt_of_le (Heap.lt_size e) h) (by rw [z];exact Nat.lt_irrefl _)
 refine ⟨fun z=>absurd I.lt (by rw [←z];exact Nat.not_lt.mpr h),fun y c e=>?_,fun p hp=>far _ _ (I.pin p hp).1⟩
 obtain ⟨v,o,ho,_⟩:=I.cell y c e
 exact far c o ho
end
section
variable {P:Program} {w:World} {K:PySem.W.Frag} {mg:Str→Option Value} {base:Heap} {N:List Str} {qual:Str} {scope:Scope} {f:Addr} {cd:Value} {A:Around} {outer:List Env} {s₀:Shared} {H₀:Hp} {E:XK}
end
def exO (x C tp:Addr):HO:=.ext fun h=>h.get? x=some (excObj C tp)
def Ni (x C tp dx:Addr):HO:=.ext fun h=>h.get? x=some { excObj C tp with dict:=some dx }
theorem Tf {P:Program} {w:World} {H:Hp} {h:Heap} {x C tp:Addr} (e:h.get? x=some (excObj C tp)):ObjOk P w H h x (exO x C tp):=⟨e,⟨_,e⟩,fun _ _ p k=>k _ p⟩
theorem Rf {P:Program} {w:World} {H:Hp} {h:Heap} {x C tp dx:Addr} (e:h.get? x=some { excObj C tp with dict:=some dx }):ObjOk P w H h x (Ni x C tp dx):=⟨e,⟨_,e⟩,fun _ _ p k=>k _ p⟩
structure XAt (K:PySem.W.Frag) (C P:Addr) (f:Str):Prop where
 cl:XCl K C (.ref P :: VE)
 set:findIn K (.ref C) "__setattr__" = some (some (.builtin "object.__setattr__"))
 no:findIn K (.ref C) f=some none
theorem XCl.cls {K:PySem.W.Frag} {C:Addr} {bm:List Value} (c:XCl K C bm):∃cd,clsIn K C=some cd∧cd.mro = .ref C :: bm∧cd.hasDict=true:=by
 obtain ⟨cd,dd,k0,k1,k2,k3,k5,h1,h2,_,h4,_⟩:=c.ex
 exact ⟨cd,by unfold clsIn;rw [h1],h2,h4⟩
def sXF (K:PySem.W.Frag) (P:Addr) (ta tv:TE) (f:Str):TS:=fun D σ H=>tv σ H fun y H1=>ta σ H1 fun x H2=>∃a C tp,x = .ref a∧H2 a=some (exO a C tp)∧XAt K C P f∧
 ∀dx,H2 dx=none→dx≠a→D.nx σ (upd (upd H2 dx (.xd [(f,y)])) a (Ni a C tp dx))
theorem U2 {X:Cx} {P:Addr} {o value:Expr} {ta tv:TE} {f:Str} {pos' pos:Pos} (ha:PE X o ta) (hv:PE X value tv) (hs:swapsWith value (some (.Attribute o f pos')) pos.line X.env=pure false):PS X (.Assign [.Attribute o f pos'] value pos) (sXF X.K P ta tv f):=by
 intro pins s σ H D I h
 refine plainObj_wpAny_Assign_Attribute (thn (hv pins s σ H _ I h) fun u s1 ⟨y,H1,I1,ry,q⟩=>thn (ha pins s1 σ H1 _ I1 q) fun ov s2 ⟨x,H2,I2,rx,a,C,tp,ex,ea,c,q2⟩=>?_) hs
 subst ex
 obtain rfl:ov=Value.ref a:=rx
 obtain ⟨cd,c1,c2,c3⟩:=c.cl.cls
 have hx:s2.heap.get? a=some (excObj C tp):=(I2.hok a _ ea).1
 refine Sv I2.kIn hx c.set c1 c2 c3 c.no fun h' k e n=>?_
 have fr:=I2.hok.fresh (Nat.le_refl s2.heap.objs.size)
 have ne:s2.heap.objs.size≠a:=(fun z=>by rw [z,ea] at fr;cases fr)
 have nn:∀b u,H2 b=some u→b≠s2.heap.objs.size:=fun b u z=>Bg z fr
 have na:∀b u,s2.heap.get? b=some u→H2 b=none→b≠a:=fun b u _ z w'=>by rw [w',ea] at z;cases z
 refine ⟨σ,_,I2.un (h':=h') (t':=s2.toks + 2) ⟨fun b u e1 e2 _ _=>k b u (na b u e1 e2) e1,fun b u e1 e2 _ _=>⟨u.slots,k b u (na b u e1 e2) e1⟩,fun b u e1 e2 _=>?_,fun b u e1 _=>?_,fun b xs e1=>?_,fun b o' u e1=>?_,fun b ps e1=>⟨#[],?_⟩⟩ fun b u e1=>?_,q2 s2.heap.objs.size fr ne⟩
 ·rw [AC (na b u e1 e2),AC (Nat.ne_of_lt (Heap.lt_size e1))];exact e2
 ·by_cases hb:b=a
  ·subst hb;exact ⟨_,e⟩
  ·exact ⟨_,k b u hb e1⟩
 ·rw [AC (fun z=>by rw [z,ea] at e1;cases e1),AC (nn _ _ e1)];exact e1
 ·rw [AC (fun z=>by rw [z,ea] at e1;cases e1),AC (nn _ _ e1)];exact e1
 ·rw [AC (fun z=>by rw [z,ea] at e1;cases e1),AC (nn _ _ e1),e1];simp
 ·by_cases hb:b=a
  ·subst hb;rw [A1] at e1;cases e1;exact Rf e
  ·rw [AC hb] at e1
   by_cases hb2:b=s2.heap.objs.size
   ·subst hb2;rw [A1] at e1;cases e1
    refine ⟨_,n,fun g=>?_⟩
    by_cases hg:g=f
    ·subst hg;simp only [List.lookup,beq_self_eq_true,if_true];exact ry
    ·have hgb:(g == f)=false:=beq_eq_false_iff_ne.mpr hg
     simp only [List.lookup,hgb,if_neg hg];trivial
   ·rw [AC hb2] at e1
    refine (I2.hok b u e1).stay (fun z v hz q=>k z v ?_ q) (fun z q=>?_) fun z xs q=>?_
    ·rcases hz with rfl | hz
     ·exact hb
     ·intro w';rw [w',ea] at hz;cases hz
    ·rw [AC (fun z=>by rw [z,ea] at q;cases q),AC (nn _ _ q)];exact q
    ·rw [AC (fun z=>by rw [z,ea] at q;cases q),AC (nn _ _ q)];exact q
theorem Nw {K:PySem.W.Frag} {h:Heap} {N:Addr} {m:Str→Option Value} {n:Str} {v:Value} (X:K.In h) (G:h.Ns N m) (e:nsIn K N n=some (some v)):m n=some v:=by
 obtain ⟨o,es,ep,ho,hd,_,hf⟩:=G
 unfold nsIn at e
 split at e
 ·next c d es' n' sl q=>
  have z:=X _ _ q
  rw [ho] at z
  cases z
  cases hd
  split at e
  ·next en he=>
   rw [←hf]
   unfold nsFind findBy
   rw [←Array.find?_toList,he]
   simpa using e
  ·split at e <;> cases e
 ·cases e
structure XMk (K:PySem.W.Frag) (C P f:Addr):Prop where
 cl:XCl K C (.ref P :: VE)
 init:∃cd,clsIn K C=some cd∧nsIn K cd.ns "__init__" = some (some (.ref f))
 fn:isFn K (.ref f)=true
 kp:keepIn K (.ref C)=true
def spI (K:PySem.W.Frag) (P:Addr) (a:Str):Sp:=fun vs H Q _=>∃x C tp v,vs=[.ref x,v]∧H x=some (exO x C tp)∧XAt K C P a∧∀dx,H dx=none→dx≠x→Q .non (upd (upd H dx (.xd [(a,v)])) x (Ni x C tp dx))
section
variable {X:Cx} {k:Nat} {f C P:Addr} {fd:FuncData} {pins:List (Addr×Obj)} {σ:St} {H:Hp} {s:Shared} {Q:Value→Shared→Prop} {us:List Value} {vs:List V} {a:Str} {ps:List Str} {v:V} {u:Value}
theorem OT (M:XMk X.K C P f) (ha:XAt X.K C P a) (F:FnOk X.prog X.w X.K X.mg X.base CX0 k f fd ps (spI X.K P a)) (hr:Room (k + 1) X.A) (hb:Binds X.K fd ps []) (I:Inv X pins σ H s) (r:RelV v u)
 (h:∀s' x dx,Inv X pins σ (upd (upd H dx (.xd [(a,v)])) x (.ext (F2.XIs x C (some dx)))) s'→H x=none→H dx=none→dx≠x→s.heap.objs.size≤x→XRec s'.heap x C (some dx) .none→Q (.ref x) s'):wpAny (model X.prog X.w) X.A (call (.ref C) [u]) Q X.xe s:=by
 obtain ⟨nm,q,N,bs,sn,sub,ab,col,dd,k0,k1,k2,k3,k5,hC,hN⟩:=M.cl.obj I.kIn
 have hni:s.heap.nsMap N "__init__" = some (.ref f):=by
  obtain ⟨cd,c1,c2⟩:=M.init
  refine Nw I.kIn hN ?_
  unfold clsIn at c1
  split at c1
  ·next l=>
   cases c1
   have z:=I.kIn _ _ l
   rw [hC] at z
   cases z
   exact c2
  ·cases c1
 have I1:Inv X pins σ (upd H (s.heap.objs.size + 1) (exO (s.heap.objs.size + 1) C s.heap.objs.size)) { s with heap:=GN s.heap C [u] }:=by
  refine I.laid (t':=s.toks) (fun b o e=>Heap.get?_push_of_some _ (Heap.get?_push_of_some _ e)) (Nat.le_succ _) (Tf ?_)
  show ((s.heap.push _).push _).get? _=_
  heap_get
 have hx0:=I.hok.fresh (Nat.le_succ s.heap.objs.size)
 have r2:Vals [V.ref (s.heap.objs.size + 1),v] [Value.ref (s.heap.objs.size + 1),u]:=.cons rfl (.cons r .nil)
 have hsp:spI X.K P a [V.ref (s.heap.objs.size + 1),v] (upd H (s.heap.objs.size + 1) (exO (s.heap.objs.size + 1) C s.heap.objs.size))
  (fun w' H'=>w' = .non∧∃dx,H dx=none∧dx≠s.heap.objs.size + 1∧H'=upd (upd H dx (.xd [(a,v)])) (s.heap.objs.size + 1) (Ni (s.heap.objs.size + 1) C s.heap.objs.size dx)) E0:=by
  refine ⟨_,C,s.heap.objs.size,v,rfl,A1,ha,fun dx h1 h2=>⟨rfl,dx,by rw [AC h2] at h1;exact h1,h2,?_⟩⟩
  funext b
  by_cases e1:b=s.heap.objs.size + 1
  ·subst e1;rw [A1,A1]
  ·by_cases e2:b=dx
   ·subst e2;rw [AC e1,AC e1,A1,A1]
   ·rw [AC e1,AC e1,AC e2,AC e2,AC e1]
 have hl:([Value.ref (s.heap.objs.size + 1),u]++[]).length=ps.length:=by
  have e:=F.len _ _ _ _ hsp
  simpa using e
 obtain ⟨hh,g,d,t,os⟩:=s
 refine wpAny_call (PN PySem.F.excBase_ValueError (M.cl.tail I.kIn) hC hN hni ((bind_fn I.kIn _ (beq_iff_eq.mp M.fn))) (by show 1≤sizeLine;decide) ?_)
 refine codeAny_mono (F.run _ X.stack _ _ ⟨[Value.ref (hh.objs.size + 1),u],[]⟩ [Value.ref (hh.objs.size + 1),u] _ _ E0 (hr.make C [u] []) (I1.env0.make C [u] []) (by have:=hb _ [Value.ref (hh.objs.size + 1),u] I1.kIn hl;simpa using this) r2 hsp) fun r s' hq'=>?_
 cases r with
 | error e=>exact hq'.elim
 | ok fl=>
   cases fl with
   | ret w'=>
     obtain ⟨v',H',I3,rv,rfl,dx,d1,d2,rfl⟩:=I1.after hq'
     refine ⟨rv,?_⟩
     have hx:=(I3.hok (hh.objs.size + 1) _ A1).1
     have hx:s'.heap.get? (hh.objs.size + 1)=some { excObj C hh.objs.size with dict:=some dx }:=hx
     have xr:XRec s'.heap (hh.objs.size + 1) C (some dx) .none:=⟨_,_,hx,rfl,rfl,rfl,rfl⟩
     have I4:=I3.write (x:=hh.objs.size + 1) (e:=hh.objs.size + 1) (o:=.ext (F2.XIs (hh.objs.size + 1) C (some dx))) (h':=s'.heap) (t':=s'.toks) (by rw [A1];trivial) (.inl rfl) (fun _ _ _ z=>z) ⟨_,hx⟩ (Oa xr.is)
     rw [SC] at I4
     exact h s' (hh.objs.size + 1) dx I4 hx0 d1 d2 (Nat.le_succ _) xr
   | next=>exact False.elim hq'
   | brk=>exact False.elim hq'
   | cont=>exact False.elim hq'
end
section
variable {M:Model} {A:Around} {E:Value→Shared→Prop} {K:PySem.W.Frag} {s:Shared} {x C C':Addr} {bm bm':List Value} {dx:Option Addr} {tb:Value}
theorem PP {Q:Bool→Shared→Prop} (c:XCl K C bm) (c':XCl K C' bm') (X:K.In s.heap) (hx:XRec s.heap x C dx tb) (h:Q ((Value.ref C :: bm).contains (.ref C')) s):wpAny M A (excMatches (.ref x) (.ref C')) Q E s:=by
 obtain ⟨nm,q,N,bs,sn,sub,ab,col,dd,k0,k1,k2,k3,k5,hC,_⟩:=c.obj X
 obtain ⟨nm',q',N',bs',sn',sub',ab',col',dd',k0',k1',k2',k3',k5',hC',_⟩:=c'.obj X
 have hb:=c'.has X
 obtain ⟨o,vs,ho,hc,hd,hdt,h1⟩:=hx
 obtain ⟨hp,g,d,tk,os⟩:=s
 have ty:(⟨hp,g,d,tk,os⟩:Shared).TypeIs (.ref C') "type":=⟨_,hC',rfl⟩
 have nt:=tc_notTuple
 cases hbb:(Value.ref C :: bm).contains (.ref C') <;> (
  rw [hbb] at h
  unfold excMatches
  repeat (first
   | (with_reducible refine wpAny_loadPart_at ho ?_;rw [hc])
   | with_reducible refine wpAny_loadPart_at hC' ?_
   | (with_reducible refine wpAny_isSubtype_exc hC' ?_;rw [hb])
   | (with_reducible refine wpAny_isSubtype_exc hC ?_;rw [hbb])
   | wp_step)
  exact h)
end
def Pb (h:Heap) (T:Addr) (fl:Value):Prop:=∃(o:Obj) (ts:Array Value),h.get? T=some o∧o.data = .fields ts∧ts[3]?=some fl
section
variable {M:Model} {A:Around} {E:Value→Shared→Prop} {s:Shared} {env:Env} {outer:List Env} {base:Heap} {L x C:Addr} {dx:Option Addr} {tb:Value} {Q:Unit→Shared→Prop}
theorem JQ {hadNext:Bool} {hd:Value} (hfr:A.frames=some (env :: outer)) (hl:s.heap.FunFrames base (env :: outer)) (hf:env.frame=some L) (hx:XRec s.heap x C dx tb)
 (h:∀h' T,s.heap.objs.size≤T→T≠x→XRec h' x C dx (.ref T)→Pb h' T (rawInt L)→XKeep (frs (env :: outer)) [x] s.heap h'→Q () { s with heap:=h' }) :
 wpAny M A (do let fo ←frameOf env;let at' ←entryPlaceOf L hadNext;let en ←EntryCells.newEntry hd fo .none (rawInt L) .none at';setField (.ref x) 1 en) Q E s:=by
 obtain ⟨ox,vs,gx,cx,dxe,dtx,tbx⟩:=hx
 have v1:1 < vs.size:=(Array.getElem?_eq_some_iff.mp tbx).1
 have nfr:x∉frs (env :: outer):=fun z=>by
  obtain ⟨_,o2,g2,n2⟩:=hl.mem z
  rw [gx] at g2;cases g2
  exact n2 vs dtx
 refine wpAny_bind (wpAny_frameOf_fun hfr hl hf fun h1 so=>?_)
 refine wpAny_bind (wpAny_entryPlaceOf fun at' ip=>?_)
 unfold EntryCells.newEntry newFields
 refine wpAny_bind (wpAny_newObj_type ?_ (ip.sizeOk5 _ _ _ _ _))
 generalize hne:(Obj.mk (Value.type "traceback") none (Data.fields ([hd,Value.ref L,Value.none,rawInt L,Value.none]++if at'.isEmpty=true then List.replicate 6 Value.none else at').toArray) #[])=nob
 have dn:nob.data = .fields ([hd,Value.ref L,Value.none,rawInt L,Value.none]++if at'.isEmpty=true then List.replicate 6 Value.none else at').toArray:=by rw [←hne]
 have gx1:h1.get? x=some ox:=(so.2.1 x nfr).trans gx
 have gx2:(h1.push nob).get? x=some ox:=Heap.get?_push_of_some _ gx1
 have nex:h1.objs.size≠x:=Nat.ne_of_gt (Heap.lt_size gx1)
 refine wpAny_setField gx2 dtx v1 ?_
 obtain ⟨m1,m2,m3⟩:=Lq dtx (·.setIfInBounds 1 (Value.ref h1.objs.size))
 have gx3:=Heap.get?_update_self (Obj.mapFields (·.setIfInBounds 1 (Value.ref h1.objs.size))) gx2 (Obj.isFreed_of_fields m1)
 have gT2:(h1.push nob).get? h1.objs.size=some nob:=Heap.get?_push_size h1 (Obj.isFreed_of_fields dn)
 have gT3:=(Heap.get?_update_other (h1.push nob) (Obj.mapFields (·.setIfInBounds 1 (Value.ref h1.objs.size))) (Ne.symm nex)).trans gT2
 have vx:(vs.setIfInBounds 1 (Value.ref h1.objs.size))[1]?=some (.ref h1.objs.size):=by simp [v1]
 have old:∀b o,b≠x→h1.get? b=some o→((h1.push nob).update x (Obj.mapFields (·.setIfInBounds 1 (Value.ref h1.objs.size)))).get? b=some o:=fun b o hb e=>by
  rw [Heap.get?_update_other _ _ (Ne.symm hb)]
  exact Heap.get?_push_of_some _ e
 refine h _ h1.objs.size (Nat.le_of_eq so.1.symm) nex ⟨_,_,gx3,m2.trans cx,m3.trans dxe,m1,vx⟩ ⟨_,_,gT3,dn,?_⟩ ⟨fun b o hb hbf e=>old b o (fun z=>hb (by simp [z])) ((so.2.1 b hbf).trans e),fun b o hb e=>?_⟩
 ·rw [List.getElem?_toArray];rfl
 ·obtain ⟨sl,e1⟩:=so.2.2 b o e
  exact ⟨sl,old b _ (fun z=>hb (by simp [z])) e1⟩
end
structure XOn (X:Cx) (pins:List (Addr×Obj)) (H:Hp) (s:Shared) (x C:Addr) (dx:Option Addr) (T:Option Addr) (fl:Value):Prop where
 hx:H x=some (.ext (F2.XIs x C dx))
 nx:X.s₀.heap.objs.size≤x
 rc:XRec s.heap x C dx (match T with | some a=>.ref a | none=>.none)
 tb:∀a,T=some a→a≠x∧H a=none∧X.s₀.heap.objs.size≤a∧(a≠X.env.locals∧(∀y c,X.env.cells.lookup y=some c→c≠a)∧∀p∈X.pn++pins,p.1≠a)∧Pb s.heap a fl
 fo:fl = .none∨fl=rawInt X.env.locals
section
variable {M:Model} {A:Around} {Er:Value→Shared→Prop} {X:Cx} {pins:List (Addr×Obj)} {σ:St} {H:Hp} {s:Shared} {x C:Addr} {dx T:Option Addr} {fl:Value} {Q:Unit→Shared→Prop}
theorem GZ (fr:Option Addr) (I:Inv X pins σ H s) {a:Addr} (o:XOn X pins H s x C dx (some a) fl) (hfr:fr=none∨fr=some X.env.locals)
 (k:∀h',Inv X pins σ H { s with heap:=h' }→XOn X pins H { s with heap:=h' } x C dx (some a) (fr.elim Value.none fun f=>rawInt f)→Q () { s with heap:=h' }):wpAny M A (setFlight (.ref x) fr) Q Er s:=by
 obtain ⟨ox,vs,gx,cx,dxe,dtx,tbx⟩:=id o.rc
 obtain ⟨ne,hT,nT,oT,ot,ts,gT,dT,t3⟩:=o.tb a rfl
 unfold setFlight
 refine wpAny_bind (wpAny_field gx dtx tbx ?_)
 rw [if_pos (show (Value.ref a != Value.none)=true from rfl)]
 refine wpAny_setField gT dT (Array.getElem?_eq_some_iff.mp t3).1 ?_
 obtain ⟨m1,m2,m3⟩:=Lq dT (·.setIfInBounds 3 (fr.elim Value.none fun f=>rawInt f))
 have gT2:=Heap.get?_update_self (Obj.mapFields (·.setIfInBounds 3 (fr.elim Value.none fun f=>rawInt f))) gT (Obj.isFreed_of_fields m1)
 have oth:∀b,b≠a→(s.heap.update a (Obj.mapFields (·.setIfInBounds 3 (fr.elim Value.none fun f=>rawInt f)))).get? b=s.heap.get? b:=fun b z=>Heap.get?_update_other _ _ (Ne.symm z)
 have rc':XRec (s.heap.update a (Obj.mapFields (·.setIfInBounds 3 (fr.elim Value.none fun f=>rawInt f)))) x C dx (.ref a):=⟨ox,vs,(oth x (Ne.symm ne)).trans gx,cx,dxe,dtx,tbx⟩
 refine k _ (I.left o.hx hT o.nx nT (ch:=[a]) ⟨fun b u hb _ e=>(oth b (by simpa using hb)).trans e,fun b u hb e=>⟨u.slots,(oth b (by simpa using hb)).trans e⟩⟩ (fun b hb=>.inr (by simpa using hb)) rc'.is oT.2.1 oT.1 oT.2.2) ⟨o.hx,o.nx,rc',fun a' e=>?_,?_⟩
 ·cases e
  exact ⟨ne,hT,nT,oT,_,_,gT2,m1,by rw [Array.getElem?_setIfInBounds_self,if_pos (Array.getElem?_eq_some_iff.mp t3).1]⟩
 ·rcases hfr with rfl | rfl
  ·exact .inl rfl
  ·exact .inr rfl
theorem Ht (hA:A.frames=some X.stack) (I:Inv X pins σ H s) (hs:X.stack=X.env :: X.outer) (hf:X.env.frame=some X.env.locals) (o:XOn X pins H s x C dx T fl)
 (k:∀h' a,Inv X pins σ H { s with heap:=h' }→XOn X pins H { s with heap:=h' } x C dx (some a) (rawInt X.env.locals)→Q () { s with heap:=h' }):wpAny M A (noteFrame (.ref x) X.env) Q Er s:=by
 obtain ⟨ox,vs,gx,cx,dxe,dtx,tbx⟩:=id o.rc
 have fin:∀(s1:Shared) (hh:∃h1,s1 = { s with heap:=h1 }) (ch:List Addr) (h':Heap) (a:Addr),Inv X pins σ H s1→s1.heap.objs.size≤a→a≠x→XRec h' x C dx (.ref a)→Pb h' a (rawInt X.env.locals)→XKeep (frs (X.env :: X.outer)) [x] s1.heap h'→Q () { s1 with heap:=h' }:=by
  rintro s1 ⟨h1,rfl⟩ ch h' a I1 l1 l2 l3 l4 l5
  obtain ⟨o1,o2,o3⟩:=I1.newT l1
  have J:=I1.left o.hx (I1.hok.fresh l1) o.nx (Nat.le_trans I1.sz l1) (ch:=[x]) (hs ▸ l5) (fun b hb=>.inl (by simpa using hb)) l3.is o2 o1 o3
  exact k h' a J ⟨o.hx,o.nx,l3,fun a' e=>by cases e;exact ⟨l2,I1.hok.fresh l1,Nat.le_trans I1.sz l1,⟨o1,o2,o3⟩,l4⟩,.inr rfl⟩
 unfold noteFrame
 simp only [hf]
 refine wpAny_bind (wpAny_field gx dtx tbx ?_)
 cases T with
 | none=>
   rw [if_neg (by decide)]
   exact JQ (hA.trans (congrArg some hs)) (hs ▸ I.stack) hf o.rc fun h' a l1 l2 l3 l4 l5=>fin s ⟨s.heap,rfl⟩ [] h' a I l1 l2 l3 l4 l5
 | some T₀=>
   obtain ⟨ne,hT,nT,oT,ot,ts,gT,dT,t3⟩:=o.tb T₀ rfl
   rw [if_pos (show (Value.ref T₀ != Value.none)=true from rfl)]
   refine wpAny_bind (wpAny_field gT dT t3 ?_)
   rcases o.fo with rfl | rfl
   ·rw [if_neg (show ¬((Value.none == rawInt X.env.locals)=true) from by simp [rawInt])]
    refine wpAny_bind (wpAny_setField gT dT (Array.getElem?_eq_some_iff.mp t3).1 ?_)
    have oth:∀b,b≠T₀→(s.heap.update T₀ (Obj.mapFields (·.setIfInBounds 3 Value.none))).get? b=s.heap.get? b:=fun b z=>Heap.get?_update_other _ _ (Ne.symm z)
    have rc':XRec (s.heap.update T₀ (Obj.mapFields (·.setIfInBounds 3 Value.none))) x C dx (.ref T₀):=⟨ox,vs,(oth x (Ne.symm ne)).trans gx,cx,dxe,dtx,tbx⟩
    have J:=I.left o.hx hT o.nx nT (ch:=[T₀]) ⟨fun b u hb _ e=>(oth b (by simpa using hb)).trans e,fun b u hb e=>⟨u.slots,(oth b (by simpa using hb)).trans e⟩⟩ (fun b hb=>.inr (by simpa using hb)) rc'.is oT.2.1 oT.1 oT.2.2
    exact JQ (s:={ s with heap:=s.heap.update T₀ (Obj.mapFields (·.setIfInBounds 3 Value.none)) }) (hA.trans (congrArg some hs)) (hs ▸ J.stack) hf rc' fun h' a l1 l2 l3 l4 l5=>fin _ ⟨_,rfl⟩ [] h' a J l1 l2 l3 l4 l5
   ·rw [if_pos (show (rawInt X.env.locals == rawInt X.env.locals)=true from by first | (simp;done) | exact beq_self_eq_true _)]
    exact wpAny_pure (k s.heap T₀ I ⟨o.hx,o.nx,o.rc,o.tb,.inr rfl⟩)
end
def XE (X:Cx) (E:St→XK):Value→Shared→Prop:=fun e s=>∃pins σ H x C dx T fl,e = .ref x∧Inv X pins σ H s∧XOn X pins H s x C dx T fl∧E σ (.ref x) dx H
def Fg (CX:CXT) (X:Cx) (E:St→XK):Prop:=∀(pins:List (Addr×Obj)) (σ:St) (H:Hp) (s:Shared) (e:Value) (s':Shared),Inv X pins σ H s→CX X.stack H s (E σ) e s'→X.xe e s'
section
variable {M:Model} {X:Cx} {E:St→XK}
theorem XE.own (hs:X.stack=X.env :: X.outer) (hf:X.env.frame=some X.env.locals):PassesOwn M X.A X.env (XE X E):=by
 rintro e s ⟨pins,σ,H,x,C,dx,T,fl,rfl,I,o,q⟩
 refine Ht I.ok.frames I hs hf o fun h' a I' o'=>?_
 obtain ⟨ox,vs,gx,cx,dxe,dtx,tbx⟩:=id o'.rc
 unfold cameBackBy
 refine wpAny_bind (wpAny_field gx dtx tbx ?_)
 rw [if_neg (show ¬((Value.ref a == Value.none)=true) from by intro z;cases z)]
 rw [hf]
 exact GZ _ I' o' (.inr rfl) fun h'' I'' o''=>⟨pins,σ,H,x,C,dx,some a,_,rfl,I'',o'',q⟩
theorem XE.pass:Fg (CX1 X.prog X.w) (X.wish (XE X E)) E:=by
 intro pins σ H s e s' I q
 obtain ⟨x,C,dx,T,H',rfl,J,hx,nx,nT,ne,hT,r,tb,q⟩:=I.unwish.raised q
 exact ⟨pins,σ,H',x,C,dx,some T,.none,rfl,J,⟨hx,Nat.le_trans I.sz nx,r,fun a e=>by cases e;exact ⟨ne,hT,Nat.le_trans I.sz nT,I.unwish.newT nT,tb⟩,.inl rfl⟩,q⟩
end
section
variable {P:Program} {w:World} {K:PySem.W.Frag} {mg:Str→Option Value} {base:Heap}
abbrev cxX (P:Program) (w:World) (K:PySem.W.Frag) (mg:Str→Option Value) (base:Heap) (N:List Str) (qual:Str) (scope:Scope) (f:Addr) (cd:Value) (A:Around) (outer:List Env) (s:Shared) (H:Hp) (E:XK):Cx:=
 (DY (CX1 P w) P w K mg base N qual scope f cd A outer s H E).wish (XE (DY (CX1 P w) P w K mg base N qual scope f cd A outer s H E) fun _=>E)
theorem XE.leaves {N:List Str} {qual:Str} {scope:Scope} {f:Addr} {cd:Value} {A:Around} {outer:List Env} {s₀:Shared} {H₀:Hp} {E:XK} {e:Value} {s:Shared}
 (h:XE (DY (CX1 P w) P w K mg base N qual scope f cd A outer s₀ H₀ E) (fun _=>E) e s):(DY (CX1 P w) P w K mg base N qual scope f cd A outer s₀ H₀ E).xe e s:=by
 obtain ⟨pins,σ,H,x,C,dx,T,fl,rfl,I,o,q⟩:=h
 refine wpAny_bind (Ht I.ok.frames I rfl rfl o fun h' a I' o'=>?_)
 refine GZ none I' o' (.inl rfl) fun h'' I'' o''=>?_
 obtain ⟨ne,hT,nT,oT,tb⟩:=o''.tb a rfl
 exact ⟨x,C,dx,a,H,rfl,I''.os,I''.bare,I''.base,I''.hok,o''.hx,o''.nx,nT,ne,hT,o''.rc,tb,q⟩
theorem Fun.okX {x qual:Str} {st:Stmt} {f:Addr} {fd:FuncData} {N ps:List Str} {k:Nat} {sp:Sp} (F:Fun K x qual st f fd) (S:FnScope N ps (Av st)) (len:∀vs H Q E,sp vs H Q E→vs.length=ps.length)
 (hbody:∀(cdv:Value) (A:Around) (outer:List Env) (s:Shared) (H:Hp) (vs:List V) (Q:VK) (E:XK),Room k (A.deeper (envOfC qual (Av st) s.heap.objs.size f cdv))→sp vs H Q E→
   ∃t,PSs (cxX P w K mg base N qual (Av st) f cdv A outer s H E) (B3 st) t∧t { nx:=fun _ H'=>Q .non H',rt:=Q } (DB N vs) H):FnOk P w K mg base (CX1 P w) (k + 1) f fd ps sp:=by
 obtain ⟨oc,od,kV,doc,pm,an,cdv,ct,osl,rfl,lk,hcd⟩:=F.ex
 refine QD lk hcd S len fun A outer s H vs Q E hr hsp=>?_
 obtain ⟨t,h,q⟩:=hbody cdv A outer s H vs Q E hr hsp
 exact ⟨t,fun pins s1 σ H1 D I hw=>wpAny_mono (h pins s1 σ H1 D (I.wish _) hw) (fun _ _ q=>q.unwish) fun _ _ z=>z.leaves,q⟩
theorem FnOk.calm {k:Nat} {f:Addr} {fd:FuncData} {ps:List Str} {sp sp':Sp} (F:FnOk P w K mg base (CX1 P w) k f fd ps sp) (h:∀vs H Q E,sp' vs H Q E→sp vs H Q E0):FnOk P w K mg base CX0 k f fd ps sp':=by
 refine ⟨fun vs H Q E q=>F.len vs H Q E0 (h _ _ _ _ q),fun A outer s H args us vs Q E hr he hb hv hs=>codeAny_mono (F.run A outer s H args us vs Q E0 hr he hb hv (h _ _ _ _ hs)) fun r s' q=>?_⟩
 cases r with
 | error e=>obtain ⟨_,_,_,_,_,_,_,_,_,_,_,_,_,_,_,_,_,z⟩:=q;exact z.elim
 | ok fl=>cases fl <;> exact q
end
section
variable {X:Cx} {CX:CXT} {k:Nat} {f:Addr} {fd:FuncData} {ps:List Str} {sp:Sp} {E:St→XK} {x:Str} {p pos:Pos} {e:Expr} {es:List Expr} {t:TA}
def Um (sp:Sp) (E:St→XK) (t:TA):TE:=fun σ H Q=>t σ H fun vs H1=>sp vs H1 Q (E σ)
theorem P3 (F:FnOk X.prog X.w X.K X.mg X.base CX k f fd ps sp) (hr:Room k X.A) (hg:Gl X x) (hm:X.mg x=some (.ref f)) (hk:PySem.W.keepIn X.K (.ref f)=true) (hb:Binds X.K fd ps []) (hx:Fg CX X E)
 (ha:PA X (e :: es) t) (hdb:(x == ("__debug__" : Str))=false:=by decide) (he:starEach (e :: es) X.env=(false,eval e X.env) :: starEach es X.env:=by rfl) (hpl:(backTo pos (starEach es X.env)).any (·.1)=false:=by rfl) :
 PE X (.Call (.Name x p) (e :: es) [] pos) (Um sp E t):=by
 intro pins s σ H Q I h
 refine wpAny_Call_Name_kw (Fm I hg hm ?_ hdb)
 refine PySem.W.callWith_K (h₀:=X.base) I.ok.mod.kin hk (thn (ha pos pins s σ H _ I h) fun us s1 ⟨vs,H1,I1,r,q⟩=>⟨I1.kIn,?_⟩) he hpl
 have hl:(us++[]).length=ps.length:=by rw [List.append_nil,←r.length];exact F.len _ _ _ _ q
 refine wpAny_call (codeAny_mono (F.run X.A X.stack s1 H1 ⟨us,[]⟩ us vs Q (E σ) hr I1.env0 (by have:=hb s1 us I1.kIn hl;rwa [List.append_nil] at this) r q) fun r s' hq=>?_)
 cases r with
 | error e=>exact hx pins σ H1 s1 e s' I1 hq
 | ok fl=>
   cases fl with
   | ret u=>exact I1.after hq
   | next=>exact False.elim hq
   | brk=>exact False.elim hq
   | cont=>exact False.elim hq
end
def PM (X:Cx) (e:Expr) (C:Addr) (t:St→Hp→(Addr→Option Addr→Hp→Prop)→Prop):Prop:=
 ∀(pins:List (Addr×Obj)) (s:Shared) (σ:St) (H:Hp) (Q:Addr→Option Addr→Hp→Prop),Inv X pins σ H s→t σ H Q→
  wpAny (model X.prog X.w) X.A (eval e X.env) (fun v s1=>∃x dx H1,v = .ref x∧Inv X pins σ H1 s1∧H1 x=some (.ext (F2.XIs x C dx))∧X.s₀.heap.objs.size≤x∧XRec s1.heap x C dx .none∧Q x dx H1) X.xe s
def HN (X:Cx) (E:St→XK):Prop:=∀(pins:List (Addr×Obj)) (σ:St) (H:Hp) (s:Shared) (x C:Addr) (dx:Option Addr),Inv X pins σ H s→XOn X pins H s x C dx none .none→E σ (.ref x) dx H→X.xe (.ref x) s
theorem XE.raises {X:Cx} {E:St→XK}:HN (X.wish (XE X E)) E:=fun pins σ H s x C dx I o q=>⟨pins,σ,H,x,C,dx,none,.none,rfl,I.unwish,⟨o.hx,o.nx,o.rc,o.tb,o.fo⟩,q⟩
theorem Qc {X:Cx} {e:Expr} {C:Addr} {bm:List Value} {t:St→Hp→(Addr→Option Addr→Hp→Prop)→Prop} {E:St→XK} {pos:Pos} (hc:X.calm=true) (c:XCl X.K C bm) (hx:HN X E) (h:PM X e C t)
 (ho:evalOpt (some e) X.env=some (eval e X.env):=by rfl):PS X (.Raise (some e) none pos) (fun _ σ H=>t σ H fun x dx H1=>E σ (.ref x) dx H1):=by
 intro pins s σ H D I q
 rw [arm_exec_Raise,ho]
 refine wpAny_bind (wpAny_standAt ?_)
 refine Qh c (I.ok.hd hc) ?_
 refine wpAny_bind (wpAny_mono (h pins s σ H _ I q) (fun v s1 ⟨x,dx,H1,e1,I1,hx1,nx,r,q1⟩=>?_) fun _ _ z=>z)
 subst e1
 refine wpAny_bind (wpAny_standAt (wpAny_pure ⟨x,dx,rfl,I1.kIn,r,hx pins σ H1 s1 x C dx I1 ⟨hx1,nx,r,(fun a e=>by cases e),.inl rfl⟩ q1⟩))
section
variable {prog:Program} {w:World} {A:Around} {E:Value→Shared→Prop} {h:Heap} {g:Array GenState} {d:Drawn} {t:Nat} {os:OsState} {Q:Value→Shared→Prop}
variable {nm q:Str} {C N:Addr} {bs bm bmB:List Value} {hdct:Bool} {sn:List Str} {sub:List Value} {ab:Bool} {col:Option Bool} {dd:Option Addr} {k0 k1 k2 k3 k5:Option Value} {B newId initId:String} {mN:Str→Option Value}
end
section
variable {X:Cx} {k:Nat} {f C P:Addr} {fd:FuncData} {a:Str} {ps:List Str} {n:Str} {p pos:Pos} {e:Expr} {es:List Expr}
theorem TV {t:TA} (M:XMk X.K C P f) (ha:XAt X.K C P a) (F:FnOk X.prog X.w X.K X.mg X.base CX0 k f fd ps (spI X.K P a)) (hr:Room (k + 1) X.A) (hb:Binds X.K fd ps []) (hg:Gl X n) (hm:X.mg n=some (.ref C)) (hA:PA X [e] t)
 (hdb:(n == ("__debug__" : Str))=false:=by decide) (h1:starEach [e] X.env=[(false,eval e X.env)]:=by rfl) :
 PM X (.Call (.Name n p) [e] [] pos) C (fun σ H Q=>t σ H fun vs H1=>∃v,vs=[v]∧∀x dx,H1 x=none→H1 dx=none→dx≠x→Q x (some dx) (upd (upd H1 dx (.xd [(a,v)])) x (.ext (F2.XIs x C (some dx))))):=by
 intro pins s σ H Q I h
 refine wpAny_Call_Name_kw (Fm I hg hm ?_ hdb)
 refine PySem.W.callWith_K (h₀:=X.base) I.ok.mod.kin M.kp (thn (hA pos pins s σ H _ I h) fun us s1 ⟨vs,H1,I1,r,v,ev,q⟩=>⟨I1.kIn,?_⟩) h1 rfl
 subst ev
 cases r with
 | cons r0 rs=>
   cases rs
   exact OT M ha F hr hb I1 r0 fun s' x dx I' hx hdx ne nx rc=>⟨x,some dx,_,rfl,I',A1,Nat.le_trans I1.sz nx,rc,q x dx hx hdx ne⟩
end
abbrev Cx.mark (X:Cx) (x:Addr):Cx:={ X with A:=X.A.mark (some (.ref x)),calm:=false,xe:=fun _ _=>False }
section
variable {X:Cx} {pins:List (Addr×Obj)} {σ:St} {H:Hp} {s:Shared} {D:Ends}
theorem Inv.mark (I:Inv X pins σ H s) (x:Addr):Inv (X.mark x) pins σ H s:=
 ⟨⟨I.ok.mod,I.ok.kind,I.ok.glob,I.ok.blt,I.ok.above,I.ok.inj,I.ok.has,I.ok.cab,(fun z=>by cases z),I.ok.frames,I.ok.stk,I.ok.exf,I.ok.bs,I.ok.bsz,I.ok.noex,I.ok.exfs,I.ok.funs,I.ok.frf⟩,I.os,I.bare,I.base,I.loc,I.cell,I.free,I.freeC,I.pin,I.hok,I.len⟩
theorem Inv.unmark {x:Addr} (J:X.Ok) (I:Inv (X.mark x) pins σ H s):Inv X pins σ H s:=⟨J,I.os,I.bare,I.base,I.loc,I.cell,I.free,I.freeC,I.pin,I.hok,I.len⟩
theorem Inv.repin {pn' pins':List (Addr×Obj)} {xe:Value→Shared→Prop} (I:Inv X pins σ H s) (h:∀p∈pn'++pins',p∈X.pn++pins):Inv { X with pn:=pn',xe:=xe } pins' σ H s:=
 ⟨⟨I.ok.mod,I.ok.kind,I.ok.glob,I.ok.blt,I.ok.above,I.ok.inj,I.ok.has,I.ok.cab,I.ok.hd,I.ok.frames,I.ok.stk,I.ok.exf,I.ok.bs,I.ok.bsz,I.ok.noex,I.ok.exfs,I.ok.funs,I.ok.frf⟩,I.os,I.bare,I.base,I.loc,I.cell,I.free,I.freeC,fun p hp=>I.pin p (h p hp),I.hok,I.len⟩
theorem FZ {M:Model} {A:Around} {E:Value→Shared→Prop} {i:Nat} {n:Str} {pos:Pos} {Q:Unit→Shared→Prop} (I:Inv X pins σ H s) (hN:X.N.Nodup) (hi:X.N[i]?=some n) (hk:X.env.scope.names.lookup n=some .local)
 (h:∀s',Inv X pins (σ.set i none) H s'→Q () s'):wpAny M A (do bindName X.env n .none;unbindBehindTheSuite X.env n pos) Q E s:=by
 refine wpAny_bind (wpAny_bindName (FW (v:=.non) I hN hi (.inl hk) rfl (fun s1 I1=>?_) (.inr hk)))
 unfold unbindBehindTheSuite
 have hiσ:i < σ.length:=by rw [I.len];exact (List.getElem?_eq_some_iff.mp hi).1
 obtain ⟨m,hn,hl⟩:=id I1.loc
 have hcls:(X.env.scope.kind == .class || (X.env.scope.kind == .module && X.env.locals != X.env.globals))=false:=by rw [I.ok.kind];rfl
 obtain ⟨u0,_,lk⟩:=hl i n .non hi (by rw [List.getElem?_set_self hiσ]) (.inl hk)
 have hv:m n=some u0:=by
  rcases lk with ⟨_,e⟩ | ⟨k,_⟩
  ·exact e
  ·have k:X.env.scope.names.lookup n=some .cell∨X.env.scope.names.lookup n=some .free:=k
   rw [hk] at k;rcases k with k | k <;> cases k
 refine wpAny_onRaise (wpAny_unbindName_local hk hn hv hcls fun h' u hn' hs=>?_)
 have cne:=I1.cne
 have tracked:HOk X.prog X.w H h':=fun b ob e=>by
  refine (I1.hok b ob e).stay (fun c w' hc q=>(hs.2 c ?_).trans q) (fun _ q=>q) fun _ _ q=>q
  rintro rfl
  rcases hc with rfl | hc
  ·rw [I1.free] at e;cases e
  ·rw [I1.free] at hc;cases hc
 have far:∀b o,X.s₀.heap.get? b=some o→b≠X.env.locals:=fun b o e=>Nat.ne_of_lt (Nat.lt_of_lt_of_le (Heap.lt_size e) I1.ok.above)
 refine h _ ⟨I1.ok,I1.os,I1.bare,⟨fun b o e n hb hx=>?_,fun b o e n hb hx=>?_,I1.base.free,fun b o e hx=>?_,I1.base.tups,I1.base.frzs,I1.base.tbls⟩,⟨_,hn',fun j y v' e1 e2 e3=>?_⟩,fun y c e=>?_,I1.free,I1.freeC,fun p hp=>?_,tracked,by simpa using I.len⟩
 ·exact (hs.2 b (far b o e)).trans (I1.base.keep b o e n hb hx)
 ·obtain ⟨sl,e1⟩:=I1.base.slot b o e n hb hx
  exact ⟨sl,(hs.2 b (far b o e)).trans e1⟩
 ·obtain ⟨o',e1⟩:=I1.base.there b o e hx
  exact ⟨o',(hs.2 b (far b o e)).trans e1⟩
 ·by_cases hj:j=i
  ·subst hj
   rw [List.getElem?_set_self hiσ] at e2
   cases e2
  ·rw [List.getElem?_set_ne (Ne.symm hj)] at e2
   obtain ⟨u',r',q⟩:=hl j y v' e1 (by rw [List.getElem?_set_ne (Ne.symm hj)];exact e2) e3
   refine ⟨u',r',?_⟩
   rcases q with ⟨k,e⟩ | ⟨k,c,e,z⟩
   ·refine .inl ⟨k,?_⟩
    have:y≠n:=fun e=>hj (Hr hN e1 (e ▸ hi))
    simp [this,e]
   ·exact .inr ⟨k,c,e,z.sameBut hs (cne y c e)⟩
 ·obtain ⟨w',z⟩:=I1.cell y c e
  exact ⟨w',z.sameBut hs (cne y c e)⟩
 ·obtain ⟨e,n,ne,nf,d⟩:=I1.pin p hp
  exact ⟨(hs.2 p.1 ne).trans e,n,ne,nf,d⟩
end
def PH (X:Cx) (hs:List ExceptHandler) (th:Addr→Addr→Option Addr→TS):Prop:=∀(pins:List (Addr×Obj)) (s:Shared) (σ:St) (H:Hp) (x C:Addr) (dx:Option Addr) (T:Addr) (D:Ends),Inv X pins σ H s→XOn X pins H s x C dx (some T) .none→th x C dx D σ H→
 wpAny (model X.prog X.w) X.A (handleBy (.ref x) X.env hs) (SP X pins D) X.xe s
def Ends.unset (D:Ends) (i:Nat):Ends:={ nx:=fun σ H=>D.nx (σ.set i none) H,rt:=D.rt,bk:=fun σ H=>D.bk (σ.set i none) H,ct:=fun σ H=>D.ct (σ.set i none) H }
section
variable {X:Cx} {n v:Str} {C':Addr} {bm':List Value} {p pos:Pos} {b₀:Stmt} {suite:List Stmt} {rest:List ExceptHandler} {ts:Addr→TS} {tr:Addr→Addr→Option Addr→TS} {i:Nat}
def Wk (K:PySem.W.Frag) (C':Addr) (i:Nat) (ts:Addr→TS) (tr:Addr→Addr→Option Addr→TS):Addr→Addr→Option Addr→TS:=fun x C dx D σ H=>∃bm,XCl K C bm∧
 if (Value.ref C :: bm).contains (.ref C')=true then ts x (D.unset i) (σ.set i (some (.ref x))) H else tr x C dx D σ H
theorem UZ (hg:Gl X n) (hm:X.mg n=some (.ref C')) (c':XCl X.K C' bm') (hN:X.N.Nodup) (hi:X.N[i]?=some v) (hl:X.env.scope.names.lookup v=some .local) (hb:∀x,PSs (X.mark x) (b₀ :: suite) (ts x)) (hr:PH X rest tr)
 (hdb:(n == ("__debug__" : Str))=false:=by decide):PH X (.ExceptHandler (some (.Name n p)) (some v) (b₀ :: suite) pos :: rest) (Wk X.K C' i ts tr):=by
 intro pins s σ H x C dx T D I o ⟨bm,c,q⟩
 have Im:=I.mark x
 refine wpAny_handleBy_cons (codeAny_handlers_test (Fm Im hg hm ?_ hdb)) (by intro z;cases z)
 refine PP c c' I.kIn o.rc ?_
 cases hc:(Value.ref C :: bm).contains (.ref C') with
 | false=>
   rw [hc,if_neg (by decide)] at q
   exact hr pins s σ H x C dx T D I o q
 | true=>
   rw [hc,if_pos rfl] at q
   refine codeAny_handlers_suite_as ?_
   refine GZ none I o (.inl rfl) fun h1 I1 o1=>?_
   refine FW (v:=.ref x) I1 hN hi (.inl hl) rfl (fun s2 I2=>?_) (.inr hl)
   refine wpAny_mono (hb x pins s2 _ H _ (I2.mark x) q) (fun f s3 z=>?_) fun _ _ z=>z.elim
   show wpAny _ _ _ _ _ _
   have J:=I.ok
   cases f with
   | next=>obtain ⟨σ',H',I',q'⟩:=z;exact FZ (I'.unmark J) hN hi hl fun s4 I4=>⟨_,H',I4,q'⟩
   | brk=>obtain ⟨σ',H',I',q'⟩:=z;exact FZ (I'.unmark J) hN hi hl fun s4 I4=>⟨_,H',I4,q'⟩
   | cont=>obtain ⟨σ',H',I',q'⟩:=z;exact FZ (I'.unmark J) hN hi hl fun s4 I4=>⟨_,H',I4,q'⟩
   | ret u=>obtain ⟨w,σ',H',I',r,q'⟩:=z;exact FZ (I'.unmark J) hN hi hl fun s4 I4=>⟨w,_,H',I4,r,q'⟩
theorem TY {body:List Stmt} {h₀:ExceptHandler} {hs:List ExceptHandler} {tb:(St→XK)→TS} {th:Addr→Addr→Option Addr→TS} (h1:X.stack=X.env :: X.outer) (h2:X.env.frame=some X.env.locals)
 (hb:∀(pn:List (Addr×Obj)) (E:St→XK),PSs { X with pn:=pn,xe:=XE { X with pn:=pn } E } body (tb E)) (hh:PH X (h₀ :: hs) th) :
 PS X (.Try body (h₀ :: hs) [] [] pos) (fun D σ H=>tb (fun σ' v dx H'=>∀x C,v = .ref x→H' x=some (.ext (F2.XIs x C dx))→(∃h,F2.XIs x C dx h)→th x C dx D σ' H') D σ H):=by
 intro pins s σ H D I q
 refine wpAny_Try_except ?_
 refine wpAny_mono (hb (X.pn++pins) _ [] s σ H D (I.repin fun p hp=>by simpa using hp) q) (fun f s1 z=>?_) fun e s1 z=>?_
 ·have back:∀{σ':St} {H':Hp},Inv { X with pn:=X.pn++pins,xe:=XE { X with pn:=X.pn++pins } (fun σ' v dx H'=>∀x C,v = .ref x→H' x=some (.ext (F2.XIs x C dx))→(∃h,F2.XIs x C dx h)→th x C dx D σ' H') } [] σ' H' s1→Inv X pins σ' H' s1:=fun J=>J.repin (X:={ X with pn:=X.pn++pins,xe:=_ }) (pn':=X.pn) (pins':=pins) (xe:=X.xe) fun p hp=>by simpa using hp
  cases f with
  | next=>obtain ⟨σ',H',J,q'⟩:=z;exact wpAny_execs_nil ⟨σ',H',back J,q'⟩
  | brk=>obtain ⟨σ',H',J,q'⟩:=z;exact ⟨σ',H',back J,q'⟩
  | cont=>obtain ⟨σ',H',J,q'⟩:=z;exact ⟨σ',H',back J,q'⟩
  | ret u=>obtain ⟨w,σ',H',J,r,q'⟩:=z;exact ⟨w,σ',H',back J,r,q'⟩
 ·obtain ⟨pins',σ',H',x,C,dx,T,fl,rfl,J,o,q'⟩:=z
  have J1:Inv X pins σ' H' s1:=J.repin (X:={ X with pn:=X.pn++pins }) (pn':=X.pn) (pins':=pins) (xe:=X.xe) fun p hp=>by
   simp only [List.mem_append] at hp ⊢;exact .inl hp
  have o1:XOn X pins H' s1 x C dx T fl:=⟨o.hx,o.nx,o.rc,fun a e=>by
   obtain ⟨z1,z2,z3,⟨y1,y2,y3⟩,z5⟩:=o.tb a e
   exact ⟨z1,z2,z3,⟨y1,y2,fun p hp=>y3 p (by simp only [List.mem_append] at hp ⊢;exact .inl hp)⟩,z5⟩,o.fo⟩
  refine Ht J1.ok.frames J1 h1 h2 o1 fun h' a I' o'=>GZ none I' o' (.inl rfl) fun h'' I'' o''=>?_
  exact hh pins _ σ' H' x C dx a D I'' o'' (q' x C rfl o.hx ⟨_,o.rc.is⟩)
end
end L2
namespace F2
open PySem L2 PySem.Spec
def BK:D→Bool
 | .exc _ _=>true
 | _=>false
def exE (E:XK) (v:V) (H:Hp):Prop:=∀x dx,v = .ref x→E (.ref x) dx H
section
variable (K:PySem.W.Frag)
def RX (E:L2.St→XK) (f:M D):TE:=fun σ H Q=>∃Oo c t,FInv K Oo c t σ H∧∃r t',f t=some (r,t')∧∀v H' c',FInv K Oo c' t' σ H'→Stp Oo c H c' H'→Rep K c' H' v r→if BK r=true then exE (E σ) v H' else Q v H'
def μX (E:XK):Cf→Hp→D→(V→Hp→Prop)→Prop:=fun c H r rt=>∀v,Rep K c H v r→if BK r=true then exE E v H else rt v H
def RSX (E:L2.St→XK) (f:M Out):TS:=fun D σ H=>∃Oo c t,FInv K Oo c t σ H∧∃o t',f t=some (o,t')∧∀σ' H' c',FInv K Oo c' t' σ' H'→Stp Oo c H c' H'→
 match o with
 | .next=>D.nx σ' H'
 | .brk=>D.bk σ' H'
 | .cont=>D.ct σ' H'
 | .ret r=>∀v,Rep K c' H' v r→if BK r=true then exE (E σ') v H' else D.rt v H'
def spX (f:Fn):Sp:=fun vs H Q E=>∃c ds S,SInv K c S H∧Reps K c H vs ds∧∃r S',f ds S=some (r,S')∧
 ∀v H' c',SInv K c' S' H'→Stp c.O c H c' H'→(∀b,c'.O b↔c.O b)→Rep K c' H' v r→if BK r=true then exE E v H' else Q v H'
end
def Hv (g:Fn):Fn:=fun ds S=>match g ds S with
 | some (r,S')=>if BK r=true then none else some (r,S')
 | none=>none
theorem OF {g:Fn} {ds:List D} {S S':List Ob} {r:D} (h:Hv g ds S=some (r,S')):g ds S=some (r,S')∧BK r=false:=by
 unfold Hv at h
 split at h
 ·next r' S1 e=>
  by_cases hx:BK r'=true
  ·rw [if_pos hx] at h;cases h
  ·rw [if_neg hx] at h;cases h;exact ⟨e,by simpa using hx⟩
 ·cases h
section
variable {P:Program} {w:World} {K:PySem.W.Frag} {mg:Str→Option Value} {base:Heap}
theorem QA {k:Nat} {fa:Addr} {fd:FuncData} {ps:List Str} {g:Fn} (F:FnOk P w K mg base (CX1 P w) k fa fd ps (spX K g)):FnOk P w K mg base CX0 k fa fd ps (spF K (Hv g)):=
 F.calm fun vs H Q E ⟨c,ds,S,si,rs,r,S',e,kk⟩=>by
  obtain ⟨e1,e2⟩:=OF e
  exact ⟨c,ds,S,si,rs,r,S',e1,fun v H' c' a1 a2 a3 a4=>by rw [if_neg (by rw [e2];decide)];exact kk v H' c' a1 a2 a3 a4⟩
theorem MD {x qual:Str} {st:Stmt} {fa:Addr} {fd:FuncData} {N ps:List Str} {k n m:Nat} {g:M Out} (e1:ps.length=n) (e2:N.length=m) (F:Fun K x qual st fa fd) (S:FnScope N ps (Av st))
 (hb:∀(cdv:Value) (A:Around) (outer:List Env) (s:Shared) (H:Hp) (E:XK),Room k (A.deeper (PyProof.Rows.envOfC qual (Av st) s.heap.objs.size fa cdv))→
   Fg (CX1 P w) (cxX P w K mg base N qual (Av st) fa cdv A outer s H E) (fun _=>E)→HN (cxX P w K mg base N qual (Av st) fa cdv A outer s H E) (fun _=>E)→
   PassesOwn (model P w) (cxX P w K mg base N qual (Av st) fa cdv A outer s H E).A (cxX P w K mg base N qual (Av st) fa cdv A outer s H E).env (cxX P w K mg base N qual (Av st) fa cdv A outer s H E).xe→
   PSs (cxX P w K mg base N qual (Av st) fa cdv A outer s H E) (B3 st) (RSg K (μX K E) g)):FnOk P w K mg base (CX1 P w) (k + 1) fa fd ps (spX K (fnOf n m g)):=by
 subst e1 e2
 have hlen:∀{ds:List D} {S:List Ob} {z:D×List Ob},fnOf ps.length N.length g ds S=some z→ds.length=ps.length:=fun {ds S z} h=>by
  unfold fnOf at h
  split at h
  ·next h1=>exact h1
  ·cases h
 refine F.okX S (fun vs H Q E h=>?_) (fun cdv A outer s H vs Q E hr h=>?_)
 ·obtain ⟨c,ds,S,si,rs,r,S',e,_⟩:=h
  rw [rs.length];exact hlen e
 obtain ⟨c,ds,S0,si,rs,r,S',e,kk⟩:=h
 refine ⟨RSg K (μX K E) g,hb cdv A outer s H E hr XE.pass XE.raises (XE.own rfl rfl),?_⟩
 have hl:=hlen e
 unfold fnOf at e
 rw [if_pos hl] at e
 cases eg:g ⟨env0 N.length ds,S0⟩ with
 | none=>rw [eg] at e;cases e
 | some p=>
   obtain ⟨o,t⟩:=p
   rw [eg] at e
   refine ⟨c.O,c,_,FL si rs,o,t,eg,fun σ' H' c' f' s'=>?_⟩
   obtain ⟨si',ext'⟩:=f'.leave
   have st':Stp c.O c H ⟨c'.ι,c.O⟩ H':=⟨s'.ext.trans ext',s'.oo⟩
   cases o with
   | next=>cases e;exact kk .non H' _ si' st' (fun _=>Iff.rfl) .non
   | ret d=>cases e;exact fun v rv=>kk v H' _ si' st' (fun _=>Iff.rfl) (rv.mono ext')
   | brk=>cases e
   | cont=>cases e
theorem MR {fa:Addr} {fd:FuncData} {ps:List Str} {k:Nat} {f g:Fn} (e:f=g) (h:FnOk P w K mg base (CX1 P w) k fa fd ps (spX K g)):FnOk P w K mg base (CX1 P w) k fa fd ps (spX K f):=by rw [e];exact h
end
section
variable {X:Cx} {e a b:Expr} {es:List Expr} {pos:Pos} {E:L2.St→XK} {st:Stmt}
theorem QQ {E:XK} {f:M Out} (h:PS X st (RSX X.K (fun _=>E) f)):PS X st (RSg X.K (μX X.K E) f):=B9 h fun D σ H ⟨Oo,c,t,fi,o,t',eq,k⟩=>⟨Oo,c,t,fi,o,t',eq,fun σ' H' c' f' s'=>by
 have q:=k σ' H' c' f' s'
 cases o <;> exact q⟩
theorem MF {k:Nat} {fa:Addr} {fd:FuncData} {ps:List Str} {g:Fn} {f:M (List D)} {x:Str} {p:Pos} (F:FnOk X.prog X.w X.K X.mg X.base (CX1 X.prog X.w) k fa fd ps (spX X.K g)) (hr:Room k X.A) (hg:Gl X x) (hm:X.mg x=some (.ref fa)) (hk:PySem.W.keepIn X.K (.ref fa)=true) (hb:Binds X.K fd ps [])
 (hx:Fg (CX1 X.prog X.w) X E) (ha:PA X (e :: es) (RA X.K f)) (hdb:(x == ("__debug__" : Str))=false:=by decide) (h1:BU e=false:=by rfl) (h2:Ce es=true:=by rfl) :
 PE X (.Call (.Name x p) (e :: es) [] pos) (RX X.K E (As g f)):=
 Bw (P3 F hr hg hm hk hb hx ha hdb (BI h1) (BJ h2).1) fun σ H Q ⟨Oo,c,t,fi,r,t',eq,kk⟩=>by
  obtain ⟨ds,t1,e1,eq⟩:=Aq eq
  obtain ⟨S',e2,rfl⟩:=JP eq
  refine ⟨Oo,c,t,fi,ds,t1,e1,fun vs H1 c1 f1 s1 rvs=>?_⟩
  refine ⟨c1,ds,t1.S,f1.s,rvs,r,S',e2,fun v H' c' si st ho rv=>?_⟩
  obtain ⟨f2,s2⟩:=f1.after si st ho
  exact kk v H' c' f2 (s1.trans s2) rv
def nxD (f:M D):M D:=bnd f fun d=>if BK d=true then fail else ret d
theorem PX {f:M D} {t t':T} {r:D} (h:nxD f t=some (r,t')):f t=some (r,t')∧BK r=false:=by
 obtain ⟨d,t1,e1,h⟩:=Aq h
 by_cases hx:BK d=true
 ·rw [if_pos hx] at h;cases h
 ·rw [if_neg hx] at h;cases h;exact ⟨e1,by simpa using hx⟩
theorem To {r:D} {A B:Prop} (h:BK r=false) (q:if BK r=true then A else B):B:=by rw [if_neg (by rw [h];decide)] at q;exact q
def Pi (g:M D) (h:D→M D):M D:=bnd g fun y=>if BK y=true then ret y else nxD (h y)
def Xh (f g:M D) (h:D→D→M D):M D:=bnd f fun x=>Pi g fun y=>h x y
def Xi (f g:M D) (h:D→D→M D):M D:=Pi f fun x=>bnd g fun y=>h x y
def W8 (g:Fn) (f:M D):M D:=Pi f fun d t=>match g [d] t.S with
 | some (r,S')=>some (r,{ t with S:=S' })
 | none=>none
def Qi (i:Nat) (f:M D):M Out:=bnd f fun d=>if BK d=true then ret (.ret d) else bnd (BL i d) fun _=>ret .next
theorem Ro {i:Nat} {x:Str} {f:M D} {pos':Pos} (hN:X.N.Nodup) (hi:X.N[i]?=some x) (hx:Loc X.env.scope x) (he:PE X e (RX X.K E f)) (hs:swapsWith e (some (.Name x pos')) pos.line X.env=pure false:=by rfl) (hf:X.fn x=true∨X.env.scope.names.lookup x=some .local:=by first | exact .inl rfl | exact .inr rfl | assumption) :
 PS X (.Assign [.Name x pos'] e pos) (RSX X.K E (Qi i f)):=B9 (LL hN hi hx he hs hf) fun D σ H ⟨Oo,c,t,fi,o,t',eq,k⟩=>by
 obtain ⟨d,t1,e1,eq⟩:=Aq eq
 refine ⟨Oo,c,t,fi,d,t1,e1,fun v H1 c1 f1 s1 rv=>?_⟩
 by_cases hx:BK d=true
 ·rw [if_pos hx] at eq ⊢
  cases eq
  have:=k σ H1 c1 f1 s1 v rv
  rw [if_pos hx] at this
  exact this
 ·rw [if_neg hx] at eq ⊢
  cases eq
  exact k _ H1 c1 (f1.set rv) s1
def Nh (f:M D):M Out:=bnd f fun d=>if BK d=true then ret (.ret d) else ret .next
theorem Ps {f:M D} (h:PE X e (RX X.K E f)) (hs:swapsWith e none pos.line X.env=pure false:=by rfl):PS X (.Expr e pos) (RSX X.K E (Nh f)):=
 B9 (GQ h hs) fun D σ H ⟨Oo,c,t,fi,o,t',eq,k⟩=>by
  obtain ⟨d,t1,e1,eq⟩:=Aq eq
  refine ⟨Oo,c,t,fi,d,t1,e1,fun v H1 c1 f1 s1 rv=>?_⟩
  by_cases hx:BK d=true
  ·rw [if_pos hx] at eq ⊢
   cases eq
   have:=k σ H1 c1 f1 s1 v rv
   rw [if_pos hx] at this
   exact this
  ·rw [if_neg hx] at eq ⊢
   cases eq
   exact k σ H1 c1 f1 s1
def Xm (f:M D) (g:D→M Unit):M Out:=bnd f fun d=>if BK d=true then ret (.ret d) else bnd (g d) fun _=>ret .next
theorem Pt {f:M Out} (h:PS X st (RSX X.K E f)):PSs X [st] (RSX X.K E f):=Jy h
end
end F2
namespace L2
open PySem PySem.Spec PyProof.Rows PySem.W PySem.Builtin PySem.Builtin.ObjectAttr
structure XGet (K:PySem.W.Frag) (C:Addr):Prop where
 ga:findIn K (.ref C) "__getattribute__" = some (some (.builtin "BaseException.__getattribute__"))
 gt:findIn K (.ref C) "__getattr__" = some none
 mb:mroIn K C (.type "BaseException")=some true
 mo:mroIn K C (.type "object")=some true
 hd:hasDictIn K C=true
section
variable {prog:Program} {w:World} {A:Around} {E:Value→Shared→Prop} {s:Shared} {K:PySem.W.Frag} {x C:Addr} {ox:Obj} {od:Option Obj} {name:Str} {tk:Tok} {Q:Value→Shared→Prop} {R:Result→Shared→Prop}
theorem JR {fill expr:Bool} (X:K.In s.heap) (I:InstAt s.heap x ox C od) (g:XGet K C)
 (h:codeAny (model prog w) A (.call (.builtin "BaseException.__getattribute__") ⟨[.ref x,.str name tk],[]⟩) (fun r s'=>match r with | .ok (.ret v)=>wpAny (model prog w) A (handedOut v) Q E s' | _=>False) s) :
 wpAny (model prog w) A (getAttrBy (.ref x) (.str name tk) fill expr) Q E s:=by
 have L0:=I.type (M:=model prog w)
 have L1:=looks_findIn (M:=model prog w) X g.ga
 have L2:=looks_findIn (M:=model prog w) X g.gt
 have ne:(onTheHeap (Value.ref C) && Value.builtin "BaseException.__getattribute__" == Value.builtin "object.__getattribute__")=false:=by
  rw [show (Value.builtin "BaseException.__getattribute__" == Value.builtin "object.__getattribute__")=false from by decide +kernel];rfl
 unfold getAttrBy
 refine wpAny_holding (wpAny_bind (L0.here (wpAny_bind (L1.here ?_))))
 show wpAny _ _ (if (onTheHeap (Value.ref C) && Value.builtin "BaseException.__getattribute__" == Value.builtin "object.__getattribute__")=true then _ else _) _ _ _
 rw [if_neg (by rw [ne];decide)]
 unfold getAttrByItsOwn hookBefore
 rw [if_pos (show onTheHeap (Value.ref C)=true from rfl)]
 refine wpAny_bind (L2.here (wpAny_bind (wpAny_attempt (wpAny_holding ?_))))
 unfold callGetattribute
 rw [if_neg (show ¬((expr && onTheHeap (Value.builtin "BaseException.__getattribute__"))=true) from by cases expr <;> decide)]
 unfold boundAndCalled
 refine wpAny_bind (wpAny_of_eq (PySem.F.excAttr_ValueError.ga.bind _) (wpAny_call (codeAny_mono h fun r s' z=>?_)))
 cases r with
 | error e=>exact z.elim
 | ok f=>cases f <;> first | exact z | exact z.elim
theorem Lk (X:K.In s.heap) (I:InstAt s.heap x ox C od) (g:XGet K C)
 (h:wpAny (model prog w) A.in1 («object.__getattribute__» ⟨[.ref x,.str name tk],[]⟩) (fun fin s'=>match fin with | .done f=>R (.ok f) s' | .again c'=>c'.quiet=true∧codeAny (model prog w) A c' R s') (fun e s'=>R (.error e) s') s) :
 codeAny (model prog w) A (.call (.builtin "BaseException.__getattribute__") ⟨[.ref x,.str name tk],[]⟩) R s:=by
 have ob:Looks (model prog w) s.heap (isInstance (.ref x) (.type "BaseException")) true:=I.type.andThen (looks_mroIn X g.mb)
 refine codeAny_call_builtin PySem.F.excAttr_ValueError.ga.plain PySem.F.entry_bexc_ga (@check_slot (model prog w) _ _ s "BaseException.__getattribute__" "BaseException" "__getattribute__" (.ref x) [.str name tk] [] _ (by decide +kernel) (by decide +kernel) ob (PySem.F.args_bexc_ga (.ref x) (.str name tk)) h)
theorem Pu {v:Value} (X:K.In s.heap) (I:InstAt s.heap x ox C od) (g:XGet K C) (hf:findObj K C od name=some (.value v)) (h:R (.ok (.ret v)) s) :
 codeAny (model prog w) A (.call (.builtin "BaseException.__getattribute__") ⟨[.ref x,.str name tk],[]⟩) R s:=by
 refine Lk X I g ?_
 have L0:=I.type (M:=model prog w)
 have L1:=looks_find (M:=model prog w) X I hf
 refine wpAny_bind (wpAny_pure (wpAny_bind (wpAny_pure (wpAny_bind (L0.here (wpAny_bind (L1.here ?_)))))))
 exact wpAny_pure h
theorem Rr {gg a:Value} (X:K.In s.heap) (I:InstAt s.heap x ox C od) (g:XGet K C) (hf:findObj K C od name=some (.bind gg a)) (h:codeAny (model prog w) A.in1 (.call gg ⟨[a,.ref x,.ref C],[]⟩) (fun r s'=>match r with | .ok (.ret v)=>R (.ok (.ret v)) s' | .ok _=>False | .error e=>R (.error e) s') s) :
 codeAny (model prog w) A (.call (.builtin "BaseException.__getattribute__") ⟨[.ref x,.str name tk],[]⟩) R s:=by
 refine Lk X I g ?_
 have L0:=I.type (M:=model prog w)
 have L1:=looks_find (M:=model prog w) X I hf
 refine wpAny_bind (wpAny_pure (wpAny_bind (wpAny_pure (wpAny_bind (L0.here (wpAny_bind (L1.here ?_)))))))
 show wpAny _ _ (bindTo gg a (.ref x) (.ref C)) _ _ _
 unfold bindTo
 refine wpAny_bind (wpAny_holding (wpAny_call (codeAny_mono h fun r s' z=>?_)))
 cases r with
 | error e=>exact z
 | ok f=>cases f <;> first | exact wpAny_pure z | exact z.elim
end
end L2
namespace L2
open PySem PySem.Spec PyProof.Rows PySem.W
theorem Q8 (K:PySem.W.Frag):specialIn K (.builtin "object.__class__") "__get__" = some (some (.builtin "getset_descriptor.__get__")):=by kernel_rfl
theorem N4 (K:PySem.W.Frag):takesIn K (.builtin "object.__class__")=some true:=by kernel_rfl
theorem Le {K:PySem.W.Frag} {C:Addr} {od:Option Obj} (hc:(clsIn K C).isSome=true) (ha:findIn K (.ref C) "__class__" = some (some (.builtin "object.__class__"))):findObj K C od "__class__" = some (.bind (.builtin "getset_descriptor.__get__") (.builtin "object.__class__")):=by
 obtain ⟨cd,hc⟩:=Option.isSome_iff_exists.mp hc
 unfold findObj
 rw [hc,Option.bind_some,ha,Option.bind_some]
 simp [Q8,N4]
def Qz (x C:Addr) (h:Heap):Prop:=∃ox od,InstAt h x ox C od
theorem PC {K:PySem.W.Frag} {x C:Addr} (g:XGet K C) (ha:findIn K (.ref C) "__class__" = some (some (.builtin "object.__class__"))):KitX K (.ref x) (.ref C) (Qz x C) where
 ty:=fun _ _ _ ⟨_,_,I⟩=>I.type
 it:=fun _ _ X _=>by
  obtain ⟨cd,hc,_⟩:=any_some g.hd
  unfold clsIn at hc
  split at hc
  ·next ho=>
   intro A' Q' E' s' k q
   unfold isType loadHead
   exact wpAny_bind (wpAny_loadPart (k _ _ (X _ _ ho)) (wpAny_pure q))
  ·cases hc
 ne:=fun h tp dd its n sl X htp=>by
  obtain ⟨cd,hc,_⟩:=any_some g.hd
  refine Bool.eq_false_iff.mpr fun q=>?_
  have e:C=tp:=Value.ref.inj (beq_iff_eq.mp q)
  subst e
  unfold clsIn at hc
  split at hc
  ·next ho=>
   have z:=(X _ _ ho).symm.trans htp
   cases z
  ·cases hc
 ca:=fun {prog w A E Q s} X ⟨ox,od,I⟩ k=>by
  obtain ⟨cd,hc,_⟩:=any_some g.hd
  unfold getAttr? getAttrBy?
  refine wpAny_bind (wpAny_mkText (wpAny_bind (wpAny_attempt ?_)))
  refine JR (s:={ s with toks:=s.toks + 1 }) X I g (Rr X I g (Le (by rw [hc];rfl) ha) (class_get (s:={ s with toks:=s.toks + 1 }) X I g.mo ?_))
  exact handed_on rfl (wpAny_pure k)
end L2
namespace F2
open PySem L2 PySem.Spec PySem.W
abbrev BO:List Str:=["NoValue", "Short", "Broken", "NoTalk", "NoName", "NoText", "NoRow"]
structure XM (K:PySem.W.Frag) (mg:Str→Option Value) (P:Addr) (ca:Str→Addr):Prop where
 pm:mg "ParleyError" = some (.ref P)
 pc:XCl K P VE
 ns:∀n∈BO,nsIn K mainGlobals n=some (some (.ref (ca n)))
 ms:∀n∈BO,mg n=some (.ref (ca n))
 cl:∀n∈BO,XCl K (ca n) (.ref P :: VE)
 inj:∀n∈BO,∀m∈BO,ca n=ca m→n=m
 np:∀n∈BO,ca n≠P
 kp:∀n∈BO,keepIn K (.ref (ca n))=true
 gt:∀n∈BO,XGet K (ca n)
 gc:∀n∈BO,findIn K (.ref (ca n)) "__class__" = some (some (.builtin "object.__class__"))
 na:∀n∈BO,findIn K (.ref (ca n)) "at" = some none
 nd:∀n∈BO,findIn K (.ref (ca n)) "side" = some none
def EX (n m:Str):Bool:=m == "ParleyError" || m == "ValueError" || n == m
theorem DP {a b:Addr} {r:List Value}:(Value.ref a :: r).contains (.ref b)=(a == b || r.contains (.ref b)):=by
 rw [List.contains_cons]
 congr 1
 by_cases h:a=b
 ·subst h;simp
 ·rw [beq_eq_false_iff_ne.mpr h,beq_eq_false_iff_ne.mpr (fun z:Value.ref b=Value.ref a=>h (Value.ref.inj z).symm)]
theorem SZ {b:Addr}:VE.contains (.ref b)=false:=rfl
section
variable {K:PySem.W.Frag} {mg:Str→Option Value} {P:Addr} {ca:Str→Addr}
theorem XM.subP (x:XM K mg P ca) {n:Str} (hn:n∈BO):(Value.ref (ca n) :: .ref P :: VE).contains (.ref P)=EX n "ParleyError":=by
 rw [DP,DP,beq_self_eq_true,Bool.true_or,Bool.or_true];rfl
theorem XM.subE (x:XM K mg P ca) {n m:Str} (hn:n∈BO) (hm:m∈BO):(Value.ref (ca n) :: .ref P :: VE).contains (.ref (ca m))=EX n m:=by
 rw [DP,DP,SZ,beq_eq_false_iff_ne.mpr (Ne.symm (x.np m hm)),Bool.or_false,Bool.or_false]
 have h1:(m == ("ParleyError" : Str))=false∧(m == ("ValueError" : Str))=false:=by
  simp only [BO,List.mem_cons,List.not_mem_nil,or_false] at hm
  rcases hm with rfl | rfl | rfl | rfl | rfl | rfl | rfl <;> exact ⟨by decide,by decide⟩
 unfold EX
 rw [h1.1,h1.2,Bool.false_or,Bool.false_or]
 by_cases h:n=m
 ·subst h;rw [beq_self_eq_true,beq_self_eq_true]
 ·rw [beq_eq_false_iff_ne.mpr h,beq_eq_false_iff_ne.mpr fun z=>h (x.inj n hn m hm z)]
theorem XM.of (x:XM K mg P ca) {n:Str} {C:Addr} (hn:n∈BO) (h:nsIn K mainGlobals n=some (some (.ref C))):C=ca n:=by
 rw [x.ns n hn] at h
 injection h with h;injection h with h;injection h with h
 exact h.symm
end
theorem SQ {x C C':Addr} {dx dx':Option Addr} (h:XIs x C dx=XIs x C' dx') (e:∃h,XIs x C dx h):C=C'∧dx=dx':=by
 obtain ⟨hh,o,vs,e1,e2,e3,e4⟩:=e
 have q:XIs x C' dx' hh:=by rw [←h];exact ⟨o,vs,e1,e2,e3,e4⟩
 obtain ⟨o',vs',q1,q2,q3,q4⟩:=q
 rw [e1] at q1;cases q1
 rw [e2] at q2;cases q2
 exact ⟨rfl,e3.symm.trans q3⟩
section
variable {X:Cx} {e:Expr} {es:List Expr} {pos p pos2:Pos} {E:L2.St→XK} {P:Addr} {ca:Str→Addr}
def XN1 (prog:Program) (w:World) (K:PySem.W.Frag) (mg:Str→Option Value) (base:Heap) (C P:Addr):Prop:=
 ∃(f:Addr) (fd:FuncData) (ps:List Str),XMk K C P f∧XAt K C P "at"∧Binds K fd ps []∧FnOk prog w K mg base CX0 1 f fd ps (spI K P "at")
def IB (n:Str) (f:M (List D)):M Out:=bnd f fun ds=>match ds with
 | [d]=>ret (.ret (.exc n [d]))
 | _=>fail
theorem Ol {f:M (List D)} (x:XM X.K X.mg P ca) (xn:XN1 X.prog X.w X.K X.mg X.base (ca "NoTalk") P) (hr:L2.Room 2 X.A) (hc:X.calm=true) (hx:HN X E) (hg:Gl X "NoTalk") (ha:PA X [e] (RA X.K f))
 (h1:BU e=false:=by rfl):PS X (.Raise (some (.Call (.Name "NoTalk" p) [e] [] pos)) none pos2) (RSX X.K E (IB "NoTalk" f)):=by
 obtain ⟨fa,fd,ps,M,A,B,F⟩:=xn
 have hn:("NoTalk" : Str)∈BO:=by decide
 refine B9 (Qc hc M.cl hx (TV M A F hr B hg (x.ms _ hn) ha (by decide) (BI h1))) fun D σ H ⟨Oo,c,t,fi,o,t',eq,k⟩=>?_
 obtain ⟨ds,t1,e1,eq⟩:=Aq eq
 refine ⟨Oo,c,t,fi,ds,t1,e1,fun vs H1 c1 f1 s1 rvs=>?_⟩
 match ds,rvs,eq with
 | [],_,eq=>cases eq
 | _ :: _ :: _,_,eq=>cases eq
 | [d],.cons (v:=v0) rv .nil,eq=>
   cases eq
   refine ⟨_,rfl,fun y dx hy hdx ne=>?_⟩
   have f2:=f1.laid (o:=.xd [("at",v0)]) hdx
   have hy2:upd H1 dx (.xd [("at",v0)]) y=none:=by rw [AC (Ne.symm ne)];exact hy
   have f3:=f2.laid (o:=.ext (XIs y (ca "NoTalk") (some dx))) hy2
   have s3:=s1.trans ((f1.stp_laid (o:=.xd [("at",v0)]) hdx).trans (f2.stp_laid (o:=.ext (XIs y (ca "NoTalk") (some dx))) hy2))
   refine k σ _ c1 f3 s3 (.ref y) (.exc (x.ns _ hn) A1 (f2.s.free hy2) ?_ (.cons (rv.mono ((f1.stp_laid hdx).ext.trans (f2.stp_laid hy2).ext)) .nil)) y (some dx) rfl
   exact ⟨by rw [AC ne,A1];rfl,f1.s.free hdx⟩
def XN0 (K:PySem.W.Frag) (C:Addr):Prop:=∃cd,clsIn K C=some cd∧nsIn K cd.ns "__init__" = some none
def Xa (n:Str) (f:M (List D)):M Out:=bnd f fun ds=>if ds.length≤1000 then ret (.ret (.exc n [])) else fail
end
section
variable {X:Cx} {pos p:Pos} {P:Addr} {ca:Str→Addr} {μ:Cf→Hp→D→(V→Hp→Prop)→Prop}
def RH (K:PySem.W.Frag) (ca:Str→Addr) (μ:Cf→Hp→D→(V→Hp→Prop)→Prop) (h:D→M Out):Addr→Addr→Option Addr→TS:=fun x C dx E σ H=>∃Oo c t n ds,FInv K Oo c t σ H∧n∈BO∧C=ca n∧Rep K c H (.ref x) (.exc n ds)∧
 ∃o t',h (.exc n ds) t=some (o,t')∧∀σ' H' c',FInv K Oo c' t' σ' H'→Stp Oo c H c' H'→
  match o with
  | .next=>E.nx σ' H'
  | .brk=>E.bk σ' H'
  | .cont=>E.ct σ' H'
  | .ret r=>μ c' H' r E.rt
def unE (i:Nat) (t:T):T:={ t with env:=t.env.set i none }
theorem FInv.unset {K:PySem.W.Frag} {Oo:Addr→Prop} {c:Cf} {t:T} {σ:L2.St} {H:Hp} (f:FInv K Oo c t σ H) (i:Nat):FInv K Oo c (unE i t) (σ.set i none) H:=by
 have neq:∀{j:Nat} {x:Sl},(t.env.set i none)[j]?=some (some x)→j≠i∧t.env[j]?=some (some x):=fun {j x} q=>by
  by_cases h:j=i
  ·subst h
   rw [List.getElem?_set] at q
   split at q
   ·split at q
    ·injection q with q;cases q
    ·cases q
   ·next h1=>exact absurd rfl h1
  ·rw [List.getElem?_set_ne (Ne.symm h)] at q
   exact ⟨h,q⟩
 refine ⟨f.s,by simp [unE,f.len],f.sub,fun j e q=>?_,fun j ds q=>?_,fun j k ds es a q1 q2 q3 q4=>?_⟩
 ·obtain ⟨h,q⟩:=neq q
  obtain ⟨u,h1,h2⟩:=f.val j e q
  exact ⟨u,by rw [List.getElem?_set_ne (Ne.symm h)];exact h1,h2⟩
 ·obtain ⟨h,q⟩:=neq q
  obtain ⟨a,vs,h1,h2⟩:=f.own j ds q
  exact ⟨a,vs,by rw [List.getElem?_set_ne (Ne.symm h)];exact h1,h2⟩
 ·obtain ⟨h,q1⟩:=neq q1
  obtain ⟨h',q2⟩:=neq q2
  rw [List.getElem?_set_ne (Ne.symm h)] at q3
  rw [List.getElem?_set_ne (Ne.symm h')] at q4
  exact f.inj j k ds es a q1 q2 q3 q4
def hAs (n':Str) (i:Nat) (s:M Out) (r:D→M Out):D→M Out:=fun e t=>match e with
 | .exc n ds=>if EX n n'=true then (match s { t with env:=t.env.set i (some (.val (.exc n ds))) } with
   | some (o,t2)=>some (o,unE i t2)
   | none=>none) else r (.exc n ds) t
 | _=>none
def hNo (n':Str) (s:M Out) (r:D→M Out):D→M Out:=fun e t=>match e with
 | .exc n ds=>if EX n n'=true then s t else r (.exc n ds) t
 | _=>none
def Tm:D→M Out:=fun _ _=>none
theorem Tj:PH X [] (RH X.K ca μ Tm):=fun _ _ _ _ _ _ _ _ _ _ _ ⟨_,_,_,_,_,_,_,_,_,_,_,e,_⟩=>by cases e
theorem UK {n' v:Str} {C':Addr} {bm':List Value} {i:Nat} {b₀:Stmt} {suite:List Stmt} {rest:List ExceptHandler} {s:M Out} {r:D→M Out} (x:XM X.K X.mg P ca) (hg:Gl X n') (hm:X.mg n'=some (.ref C')) (c':XCl X.K C' bm') (hs:∀n∈BO,(Value.ref (ca n) :: .ref P :: VE).contains (.ref C')=EX n n')
 (hN:X.N.Nodup) (hi:X.N[i]?=some v) (hl:X.env.scope.names.lookup v=some .local) (hb:∀x,PSs (X.mark x) (b₀ :: suite) (RSg X.K μ s)) (hr:PH X rest (RH X.K ca μ r)) (hdb:(n' == ("__debug__" : Str))=false:=by decide) :
 PH X (.ExceptHandler (some (.Name n' p)) (some v) (b₀ :: suite) pos :: rest) (RH X.K ca μ (hAs n' i s r)):=by
 intro pins s0 σ H y C dx T D I o q
 refine UZ hg hm c' hN hi hl hb hr hdb pins s0 σ H y C dx T D I o ?_
 obtain ⟨Oo,c,t,n,ds,fi,hn,rfl,rv,o1,t',eq,k⟩:=q
 refine ⟨_,x.cl n hn,?_⟩
 rw [hs n hn]
 unfold hAs at eq
 dsimp only at eq
 by_cases hb':EX n n'=true
 ·rw [if_pos hb'] at eq ⊢
  cases e1:s { t with env:=t.env.set i (some (.val (.exc n ds))) } with
  | none=>rw [e1] at eq;cases eq
  | some z=>
    obtain ⟨o2,t2⟩:=z
    rw [e1] at eq
    cases eq
    refine ⟨Oo,c,_,fi.set rv,o1,t2,e1,fun σ' H' c2 f2 s2=>?_⟩
    have:=k _ H' c2 (f2.unset i) s2
    cases o1 <;> exact this
 ·rw [if_neg hb'] at eq ⊢
  exact ⟨Oo,c,t,n,ds,fi,hn,rfl,rv,o1,t',eq,k⟩
def Ff (b:M Out) (h:D→M Out):M Out:=fun t=>match b t with
 | some (.ret (.exc n ds),t1)=>if n∈BO then h (.exc n ds) t1 else none
 | z=>z
theorem Tk {body:List Stmt} {h₀:ExceptHandler} {hs:List ExceptHandler} {b:M Out} {h:D→M Out} (x:XM X.K X.mg P ca) (hμ:∀c H r rt,BK r=false→(∀v,Rep X.K c H v r→rt v H)=μ c H r rt) (h1:X.stack=X.env :: X.outer) (h2:X.env.frame=some X.env.locals)
 (hb:∀(pn:List (Addr×Obj)) (E:L2.St→XK),Fg (CX1 X.prog X.w) { X with pn:=pn,xe:=XE { X with pn:=pn } E } E→PSs { X with pn:=pn,xe:=XE { X with pn:=pn } E } body (RSX X.K E b)) (hh:PH X (h₀ :: hs) (RH X.K ca μ h)):PS X (.Try body (h₀ :: hs) [] [] pos) (RSg X.K μ (Ff b h)):=
 B9 (TY h1 h2 (fun pn E=>hb pn E (XE.pass (X:={ X with pn:=pn }))) hh) fun D σ H ⟨Oo,c,t,fi,o,t',eq,k⟩=>by
  unfold Ff at eq
  cases e1:b t with
  | none=>rw [e1] at eq;cases eq
  | some z=>
    obtain ⟨o1,t1⟩:=z
    rw [e1] at eq
    refine ⟨Oo,c,t,fi,o1,t1,e1,fun σ1 H1 c1 f1 s1=>?_⟩
    cases o1 with
    | next=>cases eq;exact k σ1 H1 c1 f1 s1
    | brk=>cases eq;exact k σ1 H1 c1 f1 s1
    | cont=>cases eq;exact k σ1 H1 c1 f1 s1
    | ret r=>
      intro v rv
      cases hx:BK r with
      | false=>
        rw [if_neg (by decide)]
        have eq':some (Out.ret r,t1)=some (o,t'):=by cases r <;> first | exact eq | cases hx
        cases eq'
        have q:=k σ1 H1 c1 f1 s1
        have q:μ c1 H1 r D.rt:=q
        rw [←hμ _ _ _ _ hx] at q
        exact q v rv
      | true=>
        rw [if_pos rfl]
        intro y dx hv y' C hy' hC hex
        cases rv with
        | @exc x0 C0 dx0 n vs ds g hx0 hA fl rs=>
          cases hv
          cases hy'
          dsimp only at eq
          split at eq
          ·next hn=>
           rw [hx0] at hC
           injection hC with hC;injection hC with hC
           obtain ⟨e2,e3⟩:=SQ hC.symm hex
           have:=x.of hn g
           exact ⟨Oo,c1,t1,n,ds,f1,hn,e2.trans this,.exc g hx0 hA fl rs,o,t',eq,fun σ' H' c' f' s'=>k σ' H' c' f' (s1.trans s')⟩
          ·cases eq
        | _=>cases hx
end
def DE (n:Str):D→M D
 | .exc m _=>if m∈BO then ret (.bl (EX m n)) else fail
 | .non=>ret (.bl false)
 | .bl _=>ret (.bl false)
 | .int _=>ret (.bl false)
 | .str _=>ret (.bl false)
 | .lst _=>ret (.bl false)
 | .tup _=>ret (.bl false)
 | .dic=>ret (.bl false)
 | _=>fail
def ND (K:PySem.W.Frag) (c:Value):List V→Hp→VK→Prop:=fun xs H Q=>∃x y t b,xs=[x,y]∧(∀u,RelV y u→u=c)∧
 (TyOf K H x t∨∃a C dx,x = .ref a∧t = .ref C∧H a=some (.ext (XIs a C dx))∧(∀d,dx=some d→∃fs,H d=some (.xd fs))∧XGet K C∧findIn K (.ref C) "__class__" = some (some (.builtin "object.__class__")))∧kitOne K t c=some b∧Q (.bl b) H
theorem VM {X:Cx} {pins:List (Addr×Obj)} {σ:L2.St} {H:Hp} {s:Shared} {a C:Addr} {dx:Option Addr} (I:Inv X pins σ H s) (h:H a=some (.ext (XIs a C dx))) (hd:∀d,dx=some d→∃fs,H d=some (.xd fs)):Qz a C s.heap:=by
 obtain ⟨o,vs,e1,e2,e3,e4⟩:=(I.hok a _ h).1
 have nc:notCls o=true:=by unfold notCls;rw [e4]
 cases dx with
 | none=>exact ⟨o,none,e1,e2,nc,by rw [e3];trivial⟩
 | some d=>
   obtain ⟨fs,hf⟩:=hd d rfl
   obtain ⟨mA,n,_⟩:=(show ObjOk X.prog X.w H s.heap d (.xd fs) from I.hok d _ hf)
   obtain ⟨od,ho,_⟩:=Gp n
   exact ⟨o,some od,e1,e2,nc,by rw [e3];exact ho⟩
theorem JO {X:Cx} {c:Value}:CG X (.builtin "isinstance") (ND X.K c):=by
 intro pins s σ H xs us Q I r h
 obtain ⟨x,y,t,b,rfl,hy,ty,e,q⟩:=h
 obtain ⟨u,w',rfl,rx,rt⟩:=NP r
 cases hy _ rt
 rcases ty with ty | ⟨a,C,dx,rfl,rfl,ha,hd,g,gc⟩
 ·exact JT I rx ty e fun tk=>⟨.bl b,H,I.tok tk,rfl,q⟩
 ·cases (show u=Value.ref a from rx)
  exact kia_one (PC g gc) I.kIn (VM I ha hd) e (fun z=>nomatch z) fun tk=>⟨.bl b,H,I.tok tk,rfl,q⟩
theorem Tv {K:PySem.W.Frag} {d:D} {T:String} {C':Addr} {bm':List Value} (h:tyD d=some T) (c':XCl K C' bm'):kitOne K (.type T) (.ref C')=some false:=by
 obtain ⟨cd,dd,k0,k1,k2,k3,k5,h1,h2,h3,h4,h5⟩:=c'.ex
 have e1:clsIn K C'=some cd:=by unfold clsIn;rw [h1]
 have e2:typeIn K (.ref C')=some (.type "type"):=by
  show (K.lookup C').map _=_
  rw [h1];rfl
 have z:((clsIn K C').isSome && typeIn K (.ref C') == some (.type "type"))=true:=by rw [e1,e2,Option.isSome_some,Bool.true_and];decide
 have hT:T = "NoneType"∨T = "bool"∨T = "int"∨T = "str"∨T = "list"∨T = "tuple"∨T = "dict":=by
  cases d <;> simp [tyD] at h <;> simp [←h]
 unfold kitOne kitCls
 rw [if_neg (by intro q;cases beq_iff_eq.mp q)]
 dsimp only
 rw [if_pos z]
 rcases hT with rfl | rfl | rfl | rfl | rfl | rfl | rfl <;> rfl
theorem RB {K:PySem.W.Frag} {d:D} {T:String} (h:tyD d=some T):kitOne K (.type T) (.type "ValueError")=some false:=by
 have hT:T = "NoneType"∨T = "bool"∨T = "int"∨T = "str"∨T = "list"∨T = "tuple"∨T = "dict":=by
  cases d <;> simp [tyD] at h <;> simp [←h]
 rcases hT with rfl | rfl | rfl | rfl | rfl | rfl | rfl <;> rfl
theorem OX {K:PySem.W.Frag} {C:Addr} {bm:List Value} (c:XCl K C bm) (v:Value):subIn K (.ref C) v=some ((Value.ref C :: bm).contains v):=by
 obtain ⟨cd,h1,h2,_⟩:=c.cls
 show mroIn K C v=_
 unfold mroIn
 rw [h1,Option.bind_some,h2];rfl
theorem Ry {K:PySem.W.Frag} {C C':Addr} {bm bm':List Value} (c:XCl K C bm) (c':XCl K C' bm'):kitOne K (.ref C) (.ref C')=some ((Value.ref C :: bm).contains (.ref C')):=by
 obtain ⟨cd,dd,k0,k1,k2,k3,k5,h1,h2,h3,h4,h5⟩:=c'.ex
 have e1:clsIn K C'=some cd:=by unfold clsIn;rw [h1]
 have e2:typeIn K (.ref C')=some (.type "type"):=by
  show (K.lookup C').map _=_
  rw [h1];rfl
 have z:((clsIn K C').isSome && typeIn K (.ref C') == some (.type "type"))=true:=by rw [e1,e2,Option.isSome_some,Bool.true_and];decide
 unfold kitOne kitCls
 by_cases h:C=C'
 ·subst h;rw [if_pos (by simp)];simp
 ·rw [if_neg (fun q=>h (Value.ref.inj (beq_iff_eq.mp q)))]
  dsimp only
  rw [if_pos z]
  exact OX c _
theorem UO {K:PySem.W.Frag} {C P:Addr} (c:XCl K C (.ref P :: VE)):kitOne K (.ref C) (.type "ValueError")=some true:=by
 unfold kitOne kitCls
 rw [if_neg (by intro q;cases beq_iff_eq.mp q)]
 dsimp only
 rw [if_pos (by decide +kernel),OX c]
 rw [List.contains_cons,List.contains_cons,show VE.contains (.type "ValueError")=true from by decide +kernel,Bool.or_true,Bool.or_true]
section
variable {X:Cx} {P:Addr} {ca:Str→Addr} {a:Expr} {f:M D} {p pos q:Pos}
theorem MG {n:Str} {c:Value} {y:V} (x:XM X.K X.mg P ca) (hy:∀u,RelV y u→u=c) (k1:∀d T,tyD d=some T→kitOne X.K (.type T) c=some false) (k2:∀m∈BO,kitOne X.K (.ref (ca m)) c=some (EX m n)) {σ:L2.St} {H:Hp} {Q:VK} (h:RE X.K (bnd f (DE n)) σ H Q) :
 tCB (ND X.K c) (NM (RE X.K f) (NM (tC y) Up)) σ H Q:=by
 obtain ⟨Oo,c0,t,fi,r,t',eq,k⟩:=h
 obtain ⟨d,t1,e1,eq⟩:=Aq eq
 refine ⟨Oo,c0,t,fi,d,t1,e1,fun v H1 c1 f1 s1 rv=>?_⟩
 show ND X.K c [v,y] H1 Q
 cases rv with
 | @exc x0 C0 dx0 m vs ds g hx0 hA fl rs=>
   unfold DE at eq
   dsimp only at eq
   split at eq
   ·next hm=>
    cases eq
    have hc:=x.of hm g
    subst hc
    refine ⟨_,_,_,_,rfl,hy,.inr ⟨x0,ca m,dx0,rfl,rfl,hx0,fun d hd=>?_,x.gt m hm,x.gc m hm⟩,k2 m hm,k _ H1 c1 f1 s1 (.bl _)⟩
    subst hd
    exact ⟨_,fl.1⟩
   ·cases eq
 | non=>cases eq;exact ⟨_,_,_,_,rfl,hy,.inl .non,k1 .non _ rfl,k _ H1 c1 f1 s1 (.bl _)⟩
 | bl b=>cases eq;exact ⟨_,_,_,_,rfl,hy,.inl (.bl _),k1 (.bl b) _ rfl,k _ H1 c1 f1 s1 (.bl _)⟩
 | int i=>cases eq;exact ⟨_,_,_,_,rfl,hy,.inl (.int _),k1 (.int i) _ rfl,k _ H1 c1 f1 s1 (.bl _)⟩
 | str i=>cases eq;exact ⟨_,_,_,_,rfl,hy,.inl (.str _),k1 (.str i) _ rfl,k _ H1 c1 f1 s1 (.bl _)⟩
 | lst h1 h2 h3=>cases eq;exact ⟨_,_,_,_,rfl,hy,.inl (.lst h1),k1 (.lst []) _ rfl,k _ H1 c1 f1 s1 (.bl _)⟩
 | tup h1 h2 h3=>cases eq;exact ⟨_,_,_,_,rfl,hy,.inl (.tup h1),k1 (.tup []) _ rfl,k _ H1 c1 f1 s1 (.bl _)⟩
 | dic h1 h2=>cases eq;exact ⟨_,_,_,_,rfl,hy,.inl (.dK h1),k1 .dic _ rfl,k _ H1 c1 f1 s1 (.bl _)⟩
 | _=>cases eq
theorem DJ {n:Str} (x:XM X.K X.mg P ca) (hn:n∈BO) (hg:Gl X "isinstance") (hm:X.mg "isinstance" = none) (hv:bootBuiltins "isinstance" = some (.builtin "isinstance")) (hgn:Gl X n) (ha:PE X a (RE X.K f)) (hdb:(n == ("__debug__" : Str))=false:=by decide) (h1:BU a=false:=by rfl) :
 PE X (.Call (.Name "isinstance" p) [a,.Name n q] [] pos) (RE X.K (bnd f (DE n))):=
 Bw (HA JO hg hm hv (Fs ha (Fs (MM hgn (x.ms n hn) (v:=.ref (ca n)) rfl hdb) LG (BI (e:=.Name n q) rfl)) (BI h1)) (by decide) (by decide) (BI h1) (BJ (es:=[.Name n q]) rfl).1)
  fun σ H Q h=>MG (n:=n) (c:=.ref (ca n)) (y:=.ref (ca n)) x (fun u r=>r) (fun d T e=>Tv e (x.cl n hn)) (fun m hm=>by rw [Ry (x.cl m hm) (x.cl n hn),x.subE hm hn]) h
theorem Ri (x:XM X.K X.mg P ca) (hg:Gl X "isinstance") (hm:X.mg "isinstance" = none) (hv:bootBuiltins "isinstance" = some (.builtin "isinstance")) (hgn:Gl X "ValueError") (hmn:X.mg "ValueError" = none) (hvn:bootBuiltins "ValueError" = some (.type "ValueError")) (ha:PE X a (RE X.K f)) (h1:BU a=false:=by rfl) :
 PE X (.Call (.Name "isinstance" p) [a,.Name "ValueError" q] [] pos) (RE X.K (bnd f (DE "ValueError"))):=
 Bw (HA JO hg hm hv (Fs ha (Fs (MK hgn hmn hvn (v:=.ty "ValueError") rfl (by decide) (by decide)) LG (BI (e:=.Name "ValueError" q) rfl)) (BI h1)) (by decide) (by decide) (BI h1) (BJ (es:=[.Name "ValueError" q]) rfl).1)
  fun σ H Q h=>MG (n:="ValueError") (c:=.type "ValueError") (y:=.ty "ValueError") x (fun u r=>r) (fun d T e=>RB e) (fun m hm=>by rw [UO (x.cl m hm)];rfl) h
def KW (nm:Str):D→M D
 | .exc n ds=>if n∈BO then (match ((Jc n).zip ds).lookup nm with
   | some d=>ret d
   | none=>fail) else fail
 | _=>fail
theorem Hb {K:PySem.W.Frag} {c:Cf} {H:Hp} {nm:Str} {d:D}:∀{ns:List Str} {vs:List V} {ds:List D},Reps K c H vs ds→(ns.zip ds).lookup nm=some d→∃v,(ns.zip vs).lookup nm=some v∧Rep K c H v d
 | [],_,_,_,e=>by cases e
 | _ :: _,_,_,.nil,e=>by cases e
 | n :: ns,_,_,.cons (v:=v0) (d:=d0) r rs,e=>by
   by_cases h:nm=n
   ·subst h
    simp only [List.zip_cons_cons,List.lookup,beq_self_eq_true,Option.some.injEq] at e ⊢
    subst e
    exact ⟨v0,rfl,r⟩
   ·have hb:(nm == n)=false:=beq_eq_false_iff_ne.mpr h
    simp only [List.zip_cons_cons,List.lookup,hb] at e ⊢
    exact Hb rs e
theorem J3:bootBuiltins "ValueError" = some (.type "ValueError"):=by decide +kernel
theorem Th {nm:Str} (x:XM X.K X.mg P ca) (hno:∀n∈BO,findIn X.K (.ref (ca n)) nm=some none) (ha:PE X a (RE X.K f)) (hb:attributeBase a nm X.env (eval a X.env)=eval a X.env):PE X (.Attribute a nm pos) (RE X.K (bnd f (KW nm))):=by
 intro pins s σ H Q I h
 obtain ⟨Oo,c0,t,fi,r,t',eq,k⟩:=h
 obtain ⟨d,t1,e1,eq⟩:=Aq eq
 refine Q3 hb (thn (ha pins s σ H (fun v H1=>∃c1,FInv X.K Oo c1 t1 σ H1∧Stp Oo c0 H c1 H1∧Rep X.K c1 H1 v d) I ⟨Oo,c0,t,fi,d,t1,e1,fun v H1 c1 f1 s1 rv=>⟨c1,f1,s1,rv⟩⟩) fun u s1 ⟨v,H1,I1,rx,c1,f1,st1,rv⟩=>?_)
 cases rv with
 | @exc x0 C0 dx0 m vs ds g hx0 hA fl rs=>
   cases (show u=Value.ref x0 from rx)
   unfold KW at eq
   dsimp only at eq
   split at eq
   ·next hm=>
    have hc:=x.of hm g
    subst hc
    cases el:((Jc m).zip ds).lookup nm with
    | none=>rw [el] at eq;cases eq
    | some d'=>
      rw [el] at eq
      cases eq
      obtain ⟨v',l1,r1⟩:=Hb rs el
      cases dx0 with
      | none=>
        have fl:vs=[]:=fl
        subst fl
        simp at l1
      | some dd=>
        have hdd:H1 dd=some (.xd ((Jc m).zip vs)):=fl.1
        obtain ⟨o,vs0,q1,q2,q3,q4⟩:=(I1.hok x0 _ hx0).1
        have nc:notCls o=true:=by unfold notCls;rw [q4]
        obtain ⟨mA,nA,rA⟩:=(show ObjOk X.prog X.w H1 s1.heap dd (.xd ((Jc m).zip vs)) from I1.hok dd _ hdd)
        obtain ⟨od,ho,hl⟩:=Gp nA
        obtain ⟨u',hu,ru⟩:=RelO.some_of (v:=v') (o:=mA nm) (by rw [←l1];exact rA nm)
        have IA:InstAt s1.heap x0 o (ca m) (some od):=⟨q1,q2,nc,by rw [q3];exact ho⟩
        unfold getAttr
        refine wpAny_bind (wpAny_mkText ?_)
        refine JR (s:={ s1 with toks:=s1.toks + 1 }) I1.kIn IA (x.gt m hm) (Pu I1.kIn IA (x.gt m hm) (findObj_own (x.gt m hm).hd (hno m hm) rfl (by rw [hl,hu])) ?_)
        exact handed_on (On ru) ⟨v',H1,I1.tok _,ru,k v' H1 c1 f1 st1 r1⟩
   ·cases eq
 | _=>cases eq
end
def NU (K:PySem.W.Frag) (P c:Addr):Bool:=KA K c (.ref P :: VE) && keepIn K (.ref c) && findIn K (.ref c) "__getattribute__" == some (some (.builtin "BaseException.__getattribute__")) && findIn K (.ref c) "__getattr__" == some none && mroIn K c (.type "BaseException") == some true
 && mroIn K c (.type "object") == some true && hasDictIn K c && findIn K (.ref c) "__class__" == some (some (.builtin "object.__class__")) && findIn K (.ref c) "at" == some none && findIn K (.ref c) "side" == some none
structure XOne (K:PySem.W.Frag) (P c:Addr):Prop where
 cl:XCl K c (.ref P :: VE)
 kp:keepIn K (.ref c)=true
 gt:XGet K c
 gc:findIn K (.ref c) "__class__" = some (some (.builtin "object.__class__"))
 na:findIn K (.ref c) "at" = some none
 nd:findIn K (.ref c) "side" = some none
theorem D3 {K:PySem.W.Frag} {P c:Addr} (h:NU K P c=true):XOne K P c:=by
 unfold NU at h
 simp only [Bool.and_eq_true,beq_iff_eq] at h
 obtain ⟨⟨⟨⟨⟨⟨⟨⟨⟨h1,h2⟩,h3⟩,h4⟩,h5⟩,h6⟩,h7⟩,h8⟩,h9⟩,h10⟩:=h
 exact ⟨.of_in h1,h2,⟨h3,h4,h5,h6,h7⟩,h8,h9,h10⟩
def Fc (c1 c2 c3 c4 c5 c6 c7:Addr):Str→Addr:=fun n=>if n = "NoValue" then c1 else if n = "Short" then c2 else if n = "Broken" then c3 else if n = "NoTalk" then c4 else if n = "NoName" then c5 else if n = "NoText" then c6 else c7
theorem CI {Q:Str→Prop} (h1:Q "NoValue") (h2:Q "Short") (h3:Q "Broken") (h4:Q "NoTalk") (h5:Q "NoName") (h6:Q "NoText") (h7:Q "NoRow"):∀n∈BO,Q n:=by
 intro n hn
 simp only [BO,List.mem_cons,List.not_mem_nil,or_false] at hn
 rcases hn with rfl | rfl | rfl | rfl | rfl | rfl | rfl <;> assumption
def NT (K:PySem.W.Frag) (P:Addr) (cs:List Addr):Bool:=KA K P VE && cs.all (NU K P)
theorem VN {K:PySem.W.Frag} {h:Heap} {mg:Str→Option Value} {P c1 c2 c3 c4 c5 c6 c7:Addr} (X:K.In h) (G:h.Ns mainGlobals mg) (p:nsIn K mainGlobals "ParleyError" = some (some (.ref P))) (a1:nsIn K mainGlobals "NoValue" = some (some (.ref c1))) (a2:nsIn K mainGlobals "Short" = some (some (.ref c2)))
 (a3:nsIn K mainGlobals "Broken" = some (some (.ref c3))) (a4:nsIn K mainGlobals "NoTalk" = some (some (.ref c4))) (a5:nsIn K mainGlobals "NoName" = some (some (.ref c5))) (a6:nsIn K mainGlobals "NoText" = some (some (.ref c6))) (a7:nsIn K mainGlobals "NoRow" = some (some (.ref c7)))
 (q:NT K P [c1,c2,c3,c4,c5,c6,c7]=true) (nd:[P,c1,c2,c3,c4,c5,c6,c7].Nodup):XM K mg P (Fc c1 c2 c3 c4 c5 c6 c7):=by
 unfold NT at q
 simp only [List.all_cons,List.all_nil,Bool.and_true,Bool.and_eq_true] at q
 obtain ⟨q0,q1,q2,q3,q4,q5,q6,q7⟩:=q
 have o1:=D3 q1
 have o2:=D3 q2
 have o3:=D3 q3
 have o4:=D3 q4
 have o5:=D3 q5
 have o6:=D3 q6
 have o7:=D3 q7
 have inj:∀n∈BO,∀m∈BO,Fc c1 c2 c3 c4 c5 c6 c7 n=Fc c1 c2 c3 c4 c5 c6 c7 m→n=m:=by
  simp only [List.nodup_cons,List.mem_cons,List.not_mem_nil,or_false,not_or,List.nodup_nil,and_true] at nd
  obtain ⟨⟨n1,n2,n3,n4,n5,n6,n7⟩,⟨m12,m13,m14,m15,m16,m17⟩,⟨m23,m24,m25,m26,m27⟩,⟨m34,m35,m36,m37⟩,⟨m45,m46,m47⟩,⟨m56,m57⟩,m67,_⟩:=nd
  have h1:Fc c1 c2 c3 c4 c5 c6 c7 "NoValue" = c1:=rfl
  have h2:Fc c1 c2 c3 c4 c5 c6 c7 "Short" = c2:=rfl
  have h3:Fc c1 c2 c3 c4 c5 c6 c7 "Broken" = c3:=rfl
  have h4:Fc c1 c2 c3 c4 c5 c6 c7 "NoTalk" = c4:=rfl
  have h5:Fc c1 c2 c3 c4 c5 c6 c7 "NoName" = c5:=rfl
  have h6:Fc c1 c2 c3 c4 c5 c6 c7 "NoText" = c6:=rfl
  have h7:Fc c1 c2 c3 c4 c5 c6 c7 "NoRow" = c7:=rfl
  refine CI ?_ ?_ ?_ ?_ ?_ ?_ ?_ <;> refine CI ?_ ?_ ?_ ?_ ?_ ?_ ?_ <;> intro e <;> first | rfl | (exfalso;rw [h1] at e) | (exfalso;rw [h2] at e) | (exfalso;rw [h3] at e) | (exfalso;rw [h4] at e) | (exfalso;rw [h5] at e) | (exfalso;rw [h6] at e) | (exfalso;rw [h7] at e)
  all_goals (first | rw [h1] at e | rw [h2] at e | rw [h3] at e | rw [h4] at e | rw [h5] at e | rw [h6] at e | rw [h7] at e)
  all_goals (first | contradiction | (have e:=e.symm;contradiction))
 refine ⟨mg_of X G p,.of_in q0,CI a1 a2 a3 a4 a5 a6 a7,CI (mg_of X G a1) (mg_of X G a2) (mg_of X G a3) (mg_of X G a4) (mg_of X G a5) (mg_of X G a6) (mg_of X G a7),CI o1.cl o2.cl o3.cl o4.cl o5.cl o6.cl o7.cl,inj,?_,
  CI o1.kp o2.kp o3.kp o4.kp o5.kp o6.kp o7.kp,CI o1.gt o2.gt o3.gt o4.gt o5.gt o6.gt o7.gt,CI o1.gc o2.gc o3.gc o4.gc o5.gc o6.gc o7.gc,CI o1.na o2.na o3.na o4.na o5.na o6.na o7.na,CI o1.nd o2.nd o3.nd o4.nd o5.nd o6.nd o7.nd⟩
 simp only [List.nodup_cons,List.mem_cons,List.not_mem_nil,or_false,not_or] at nd
 obtain ⟨⟨n1,n2,n3,n4,n5,n6,n7⟩,_⟩:=nd
 exact CI (Ne.symm n1) (Ne.symm n2) (Ne.symm n3) (Ne.symm n4) (Ne.symm n5) (Ne.symm n6) (Ne.symm n7)
def Eg (s:Stmt) (k:Nat):Stmt:=match s with
 | .ClassDef _ _ _ body _ _ _ _ _ _ _=>body.getD k (.Pass ⟨0,0,0,0⟩)
 | _=>.Pass ⟨0,0,0,0⟩
def Ll (K:PySem.W.Frag) (C f:Addr):Bool:=match clsIn K C with
 | some cd=>nsIn K cd.ns "__init__" == some (some (.ref f))
 | none=>false
def XF1 (K:PySem.W.Frag) (C P:Addr) (qual:Str) (st:Stmt):Prop:=∃(f:Addr) (fd:FuncData),XMk K C P f∧XAt K C P "at"∧Binds K fd ["self", "at"] []∧Fun K "__init__" qual st f fd
theorem UD {K:PySem.W.Frag} {C P f:Addr} {qual:Str} {st:Stmt} {od an:Option Addr} {sl:Array (Option Value)} {oc kV dc pm cd ct:Value} (o:XOne K P C) (i:Ll K C f=true) (hf:isFn K (.ref f)=true) (hs:findIn K (.ref C) "__setattr__" = some (some (.builtin "object.__setattr__")))
 (l:K.lookup f=some ⟨oc,od,.func (PySem.W.fnOf "__init__" qual (DI st) (B3 st) (Av st) .none kV dc pm an cd ct),sl⟩) (c:codeIn K cd qual=true) (k:keepIn K (.ref f)=true)
 (hb:∀(kV doc pm:Value) (an:Option Addr) (cdv ct:Value) (us:List Value),us.length=2→bindArgs (PySem.W.fnOf "__init__" qual (DI st) (B3 st) (Av st) .none kV doc pm an cdv ct) ⟨us,[]⟩=pure ((["self", "at"]:List Str).zip us)):XF1 K C P qual st:=by
 refine ⟨f,_,⟨o.cl,?_,hf,o.kp⟩,⟨o.cl,hs,o.na⟩,(Ie (st:=st) l c k).binds (ps:=["self", "at"]) hb,Ie (st:=st) l c k⟩
 unfold Ll at i
 split at i
 ·next cd' e=>exact ⟨cd',e,beq_iff_eq.mp i⟩
 ·cases i
theorem Py {prog:Program} {w:World} {K:PySem.W.Frag} {mg:Str→Option Value} {base:Heap} {C P:Addr} {qual:Str} {st:Stmt} {p1 p2 p3 p4:Pos} (hbd:B3 st=[.Assign [.Attribute (.Name "self" p1) "at" p2] (.Name "at" p3) p4]) (S:FnScope ["self", "at"] ["self", "at"] (Av st))
 (s1:(Av st).names.lookup ("self" : Str)=some NameKind.local) (s2:(Av st).names.lookup ("at" : Str)=some NameKind.local) (x:XF1 K C P qual st):XN1 prog w K mg base C P:=by
 obtain ⟨f,fd,M,A,B,F⟩:=x
 refine ⟨f,fd,_,M,A,B,F.ok (k:=0) S (fun vs H Q E h=>?_) fun cdv A' outer s H vs Q E hr h=>?_⟩
 ·obtain ⟨y,C',tp,v,rfl,_⟩:=h;rfl
 ·rw [hbd]
  refine ⟨_,Jy (U2 (P:=P) (Ft (i:=0) rfl (.inl s1) (by decide) (by decide)) (Ft (i:=1) rfl (.inl s2) (by decide) (by decide)) rfl),?_⟩
  obtain ⟨y,C',tp,v,rfl,hy,ha,k⟩:=h
  exact ⟨v,rfl,.ref y,rfl,y,C',tp,rfl,hy,ha,fun dx h1 h2=>k dx h1 h2⟩
inductive Kd where
 | pl | fr | ex
abbrev okK (k:Kd) (P:Program) (w:World) (K:PySem.W.Frag) (mg:Str→Option Value) (base:Heap) (n:Nat) (fa:Addr) (fd:FuncData) (ps:List Str) (f:Fn):Prop:=match k with
 | .pl=>FnOk P w K mg base CX0 n fa fd ps (spF K f)
 | .fr=>FnOk P w K mg base CX0 n fa fd ps (HK K f)
 | .ex=>FnOk P w K mg base (CX1 P w) n fa fd ps (spX K f)
section
variable {X:Cx} {e a b:Expr} {pos:Pos} {f g:M D}
theorem ME {E:XK} (h:PE X e (RE X.K f)):PS X (.Return (some e) pos) (RSg X.K (μX X.K E) (AU (nxD f))):=
 B9 (Iz h) fun D σ H ⟨Oo,c,t,fi,o,t',eq,k⟩=>by
  obtain ⟨d,t1,e1,eq⟩:=Aq eq
  cases eq
  obtain ⟨e2,e3⟩:=PX e1
  exact ⟨Oo,c,t,fi,d,_,e2,fun v H1 c1 f1 s1 rv=>To e3 (k σ H1 c1 f1 s1 v rv)⟩
end
theorem Tw {K:PySem.W.Frag}:∀(c:Cf) (H:Hp) (r:D) (rt:V→Hp→Prop),BK r=false→(∀v,Rep K c H v r→rt v H)=μR K c H r rt:=fun _ _ _ _ _=>rfl
end F2
namespace LW
open PySem L2 F2
def Ec:M Out:=
 (AU (Et (fB (Ab (Ad 0) (Ab (fC (.ty "int")) Ai)) Dd) (Ib (fB (Ab (Ad 0) (Ab (fC (.ty "bool")) Ai)) Dd))))
def Cz (K3:Fn):M Out:=
 (AU (Et (As K3 (Ab (Ad 0) Ai)) (EI (Ad 1) (Ad 0) (Ad 2) leA leA)))
def Ik (IS K1 K0 K2 CZ:Fn):M Out:=
 (Aw (A8 2 (Ah (Ad 0) (fC (.int 0)) ixD))
 (Aw (ifS (AR (Ah (Ad 2) (fC (.str "nothing")) (eqS id)))
   (AU (Ah (Ad 1) (fC .non) isC))
   Ba)
 (Aw (ifS (AR (Ah (Ad 2) (fC (.str "number")) (eqS id)))
   (AU (As CZ (Ab (Ad 1) (Ab (Ah (Ad 0) (fC (.int 1)) ixD) (Ab (Ah (Ad 0) (fC (.int 2)) ixD) Ai)))))
   Ba)
 (Aw (ifS (AR (Ah (Ad 2) (fC (.str "text")) (eqS id)))
   (AU (As K2 (Ab (Ad 0) (Ab (Ad 1) Ai))))
   Ba)
 (Aw (ifS (AR (Ah (Ad 2) (fC (.str "list")) (eqS id)))
   (AU (As K0 (Ab (Ad 0) (Ab (Ad 1) Ai))))
   Ba)
 (Aw (ifS (AR (Ah (Ad 2) (fC (.str "pair")) (eqS id)))
   (AU (As K1 (Ab (Ad 0) (Ab (Ad 1) Ai))))
   Ba)
 (AU (As IS (Ab (Ad 0) (Ab (Ad 1) Ai))))))))))
def Eb (Na:Fn):M Out:=
 (Aw (ifS (fOr (Da (AR (fB (Ab (Ad 1) (Ab (fC (.ty "str")) Ai)) Dd))) (AR (Ah (fB (Ab (Ad 1) Ai) BR) (Ah (Ad 0) (fC (.int 1)) ixD) gtA)))
   (AU (fC (.bl false)))
   Ba)
 (Aw (Db (FH (Ad 1)) (BL 2)
   (ifS (Da (AR (As Na (Ab (fB (Ab (Ad 2) Ai) Jv) Ai))))
   (AU (fC (.bl false)))
   Ba))
 (AU (fC (.bl true)))))
def E7:M Out:=
 (AU (Et (EI (fC (.int 32)) (Ad 0) (fC (.int 126)) leA leA) (Ah (Ad 0) (fC (.int 37)) (eqS fun b=>!b))))
def D9 (DH:Fn):M Out:=
 (Aw (ifS (fOr (Da (AR (fB (Ab (Ad 1) (Ab (fC (.ty "list")) Ai)) Dd))) (AR (Ah (fB (Ab (Ad 1) Ai) BR) (Ah (Ad 0) (fC (.int 2)) ixD) gtA)))
   (AU (fC (.bl false)))
   Ba)
 (Aw (Db (FH (Ad 1)) (BL 2)
   (ifS (Da (AR (As DH (Ab (Ah (Ad 0) (fC (.int 1)) ixD) (Ab (Ad 2) Ai)))))
   (AU (fC (.bl false)))
   Ba))
 (AU (fC (.bl true)))))
def Ea (DH:Fn):M Out:=
 (Aw (ifS (fOr (Da (AR (fB (Ab (Ad 1) (Ab (fC (.ty "tuple")) Ai)) Dd))) (AR (Ah (fB (Ab (Ad 1) Ai) BR) (fC (.int 2)) (eqS fun b=>!b))))
   (AU (fC (.bl false)))
   Ba)
 (AU (Et (As DH (Ab (Ah (Ad 0) (fC (.int 1)) ixD) (Ab (Ah (Ad 1) (fC (.int 0)) ixD) Ai))) (As DH (Ab (Ah (Ad 0) (fC (.int 2)) ixD) (Ab (Ah (Ad 1) (fC (.int 1)) ixD) Ai))))))
def Dy (DH CZ:Fn):M Out:=
 (Aw (ifS (fOr (Da (AR (fB (Ab (Ad 1) (Ab (fC (.ty "tuple")) Ai)) Dd))) (AR (Ah (fB (Ab (Ad 1) Ai) BR) (fC (.int 3)) (eqS fun b=>!b))))
   (AU (fC (.bl false)))
   Ba)
 (Aw (ifS (fOr (Da (AR (fB (Ab (Ah (Ad 1) (fC (.int 0)) ixD) (Ab (fC (.ty "str")) Ai)) Dd))) (AR (Ah (Ah (Ad 1) (fC (.int 0)) ixD) (fC (.str "of")) (eqS fun b=>!b))))
   (AU (fC (.bl false)))
   Ba)
 (Aw (ifS (Da (AR (As CZ (Ab (Ah (Ad 1) (fC (.int 1)) ixD) (Ab (fC (.int 0)) (Ab (Ah (fB (Ab (Ah (Ad 0) (fC (.int 1)) ixD) Ai) BR) (fC (.int 1)) Di) Ai))))))
   (AU (fC (.bl false)))
   Ba)
 (AU (As DH (Ab (Ah (Ah (Ad 0) (fC (.int 1)) ixD) (Ah (Ad 1) (fC (.int 1)) ixD) ixD) (Ab (Ah (Ad 1) (fC (.int 2)) ixD) Ai)))))))
def DV:M Out:=
 (AU (Ah (Ah (Ah (Ah (Ad 0) (Ah (Ad 1) (fC (.int 0)) ixD) ixD) (fC (.int 1)) ixD) (Ah (Ad 1) (fC (.int 1)) ixD) ixD) (fC (.int 2)) ixD))
def CL (DH IT:Fn):M Out:=
 (Aw (ifS (fOr (Da (AR (fB (Ab (Ad 1) (Ab (fC (.ty "tuple")) Ai)) Dd))) (AR (Ah (fB (Ab (Ad 1) Ai) BR) (fC (.int 3)) (eqS fun b=>!b))))
   (AU (fC .non))
   Ba)
 (Aw (ifS (fOr (Da (AR (fB (Ab (Ah (Ad 1) (fC (.int 0)) ixD) (Ab (fC (.ty "str")) Ai)) Dd))) (AR (Ah (Ah (Ad 1) (fC (.int 0)) ixD) (Ah (Ad 0) (fC (.int 0)) ixD) (eqS fun b=>!b))))
   (AU (fC .non))
   Ba)
 (Aw (A8 2 (As IT (Ab (Ad 0) (Ab (Ah (Ad 1) (fC (.int 1)) ixD) Ai))))
 (Aw (ifS (fOr (AR (Ah (Ad 2) (fC .non) isC)) (Da (AR (As DH (Ab (Ah (Ah (Ah (Ad 0) (fC (.int 1)) ixD) (Ad 2) ixD) (fC (.int 1)) ixD) (Ab (Ah (Ad 1) (fC (.int 2)) ixD) Ai))))))
   (AU (fC .non))
   Ba)
 (AU (Ad 2))))))
def Ch (Mg:Fn):M Out:=
 (Aw (ifS (Da (AR (fB (Ab (Ad 1) (Ab (fC (.ty "str")) Ai)) Dd)))
   (AU (fC .non))
   Ba)
 (Aw (A8 2 (As Mg (Ab (Ad 0) Ai)))
 (Aw (Db (CO (Ab (fB (Ab (Ad 2) Ai) BR) Ai)) (BL 3)
   (ifS (AR (Ah (Ah (Ah (Ad 2) (Ad 3) ixD) (fC (.int 0)) ixD) (Ad 1) (eqS id)))
   (AU (Ad 3))
   Ba))
 (AU (fC .non)))))
def Ex (N3:Fn):M Out:=
 (AU (fIf (AR (As N3 (Ab (Ad 0) Ai))) (Bo Ai) (Ah (Ad 0) (fC (.int 1)) ixD)))
def FP:M Out:=
 (AU (Ah (Ah (Ad 0) (fC (.int 0)) ixD) (fC (.str "end")) (eqS id)))
def C5 (B2 IU HX:Fn):M Out:=
 (Aw (A8 2 (Ah (Ad 0) (fC (.int 0)) ixD))
 (Aw (ifS (AR (Ah (Ad 2) (fC (.str "nothing")) (eqS id)))
   (Gw (Bf Ai))
   Ba)
 (Aw (ifS (AR (Ah (Ad 2) (fC (.str "number")) (eqS id)))
   (Gw (DQ HX (Ab (Ah (Ad 1) (Ah (Ad 0) (fC (.int 1)) ixD) Di) (Ab (As IU (Ab (Ah (Ah (Ad 0) (fC (.int 2)) ixD) (Ah (Ad 0) (fC (.int 1)) ixD) Di) Ai)) Ai))))
   Ba)
 (Aw (ifS (AR (Ah (Ad 2) (fC (.str "text")) (eqS id)))
   (Gw (bnd (AM (Bf (Ab (fB (Ab (Ad 1) Ai) BR) Ai))) fun x=>bnd (AM (DR 1 [] (FH (Ad 1)) (BL 0) FX (fB (Ab (Ad 0) Ai) Jv))) fun y=>Hj x y))
   Ba)
 (Aw (ifS (AR (Ah (Ad 2) (fC (.str "list")) (eqS id)))
   (Aw (Ep 3 (Bf (Ab (fB (Ab (Ad 1) Ai) BR) Ai)))
 (Aw (Db (FH (Ad 1)) (BL 4)
   (ownM 3 FG (Ab (AM (DQ B2 (Ab (Ah (Ad 0) (fC (.int 1)) ixD) (Ab (Ad 4) Ai)))) Ai)))
 (Gx 3)))
   Ba)
 (Aw (ifS (AR (Ah (Ad 2) (fC (.str "pair")) (eqS id)))
   (Gw (bnd (AM (DQ B2 (Ab (Ah (Ad 0) (fC (.int 1)) ixD) (Ab (Ah (Ad 1) (fC (.int 0)) ixD) Ai)))) fun x=>bnd (AM (DQ B2 (Ab (Ah (Ad 0) (fC (.int 2)) ixD) (Ab (Ah (Ad 1) (fC (.int 1)) ixD) Ai)))) fun y=>Hj x y))
   Ba)
 (Gw (bnd (AM (Bf (Ab (Ah (Ad 1) (fC (.int 1)) ixD) Ai))) fun x=>bnd (AM (DQ B2 (Ab (Ah (Ah (Ad 0) (fC (.int 1)) ixD) (Ah (Ad 1) (fC (.int 1)) ixD) ixD) (Ab (Ah (Ad 1) (fC (.int 2)) ixD) Ai)))) fun y=>Hj x y))))))))
def DA:M Out:=
 (AU (Ah (Ah (fUn (Ad 0) Ko) (fC (.int 7)) Bs) (fC (.int 8)) FJ))
def Dm (Nb:Fn):M Out:=
 (Gw (DR 1 [0,1] (E5 (Ab (fC (.int 1)) (Ab (Ah (Ad 1) (fC (.int 1)) Bs) Ai))) (BL 0) FX (Ah (As Nb (Ab (Ad 1) (Ab (Ah (Ad 2) (Ad 0) Di) Ai))) (fC (.int 256)) EM)))
def E9:M Out:=
 (AU (Ah (Ad 0) (Ah (fC (.int 8)) (Ad 1) De) NJ))
def C6 (B2:Fn):M Out:=
 (AU (Ah (AM (Bf (Ab (Ad 1) Ai))) (AM (DQ B2 (Ab (Ah (Ah (Ah (Ad 0) (fC (.int 1)) ixD) (Ad 1) ixD) (fC (.int 1)) ixD) (Ab (Ad 2) Ai)))) Bs))
def Cv:M Out:=
 (Aw (ifS (AR (Ah (Ad 1) (fB (Ab (Ad 0) Ai) BR) ltA))
   (AU (Ah (Ad 0) (Ad 1) ixD))
   Ba)
 (AU (fC (.int 0))))
def Cc (HV:Fn):M Out:=
 (Aw (A8 2 (As HV (Ab (Ad 0) (Ab (Ad 1) Ai))))
 (AU (GH [("rest",(Ad 2)),("mixed",(Ah (Ad 2) (Ah (fC (.int 10)) (fC (.int 12)) HB) ltA)),("count",(Ah (fC (.int 3)) (Ah (fC (.int 5)) (Ad 1) De) Bs))])))
def Cd:M Out:=
 (Aw (A8 2 (Ah (Ad 0) (fC (.str "rest")) Dj))
 (Aw (ifS (Da (AR (Ah (Ad 0) (fC (.str "mixed")) Dj)))
   (Aw (En (Ah (Ad 2) (Ad 1) Ic) (G1 (Ad 0) (fC (.str "rest"))))
 (AU (Ah (Ad 2) (Ad 1) EM)))
   Ba)
 (Aw (En (Ah (Ah (Ad 0) (fC (.str "count")) Dj) (fC (.int 1)) Bs) (G1 (Ad 0) (fC (.str "count"))))
 (Aw (A8 2 (Ah (Ah (Ad 2) (fC (.int 1000000000163)) EM) (Ah (fC (.int 70001)) (Ah (Ad 0) (fC (.str "count")) Dj) Jm) Bs))
 (Aw (A8 2 (Ah (Ah (Ad 2) (Ah (Ad 2) (fC (.int 29)) Bs) Jm) (fC (.int 1000000000193)) EM))
 (Aw (A8 2 (Ah (Ah (Ad 2) (Ad 2) Jm) (fC (.int 999999999959)) EM))
 (Aw (En (Ad 2) (G1 (Ad 0) (fC (.str "rest"))))
 (AU (Ah (Ah (Ad 2) (fC (.int 9)) Ic) (Ad 1) EM)))))))))
def CP (Au Cq:Fn):M Out:=
 (Aw (A8 2 (As Au (Ab (Ad 0) (Ab (Ah (fC (.int 3)) (Ah (fC (.int 3)) (fB (Ab (Ah (Ad 1) (fC (.int 0)) gtA) Ai) Jg) De) Bs) Ai))))
 (Aw (ifS (AR (Ah (Ad 2) (fC (.int 0)) (eqS id)))
   (AU (Bo (Ab (fC (.str "nothing")) Ai)))
   Ba)
 (Aw (ifS (AR (Ah (Ad 2) (fC (.int 1)) (eqS id)))
   (Aw (A8 3 (Ah (AM (Bf (Ab (fC (.int 0)) (Ab (Ah (As Au (Ab (Ad 0) (Ab (fC (.int 9)) Ai))) (fC (.int 4)) Di) (Ab (Ah (As Au (Ab (Ad 0) (Ab (Ah (fC (.int 10)) (fC (.int 17)) HB) Ai))) (Ah (fC (.int 10)) (fC (.int 16)) HB) Di) Ai))))) (As Au (Ab (Ad 0) (Ab (fC (.int 3)) Ai))) ixD))
 (AU (Bo (Ab (fC (.str "number")) (Ab (Ad 3) (Ab (Ah (Ad 3) (Ah (AM (Bf (Ab (fC (.int 0)) (Ab (fC (.int 1)) (Ab (fC (.int 255)) (Ab (fC (.int 256)) (Ab (fC (.int 300)) (Ab (fC (.int 70000)) (Ab (As Au (Ab (Ad 0) (Ab (Ah (fC (.int 10)) (fC (.int 17)) HB) Ai))) Ai))))))))) (As Au (Ab (Ad 0) (Ab (fC (.int 7)) Ai))) ixD) Bs) Ai))))))
   Ba)
 (Aw (ifS (AR (Ah (Ad 2) (fC (.int 2)) (eqS id)))
   (AU (Bo (Ab (fC (.str "text")) (Ab (Ah (AM (Bf (Ab (fC (.int 0)) (Ab (fC (.int 1)) (Ab (fC (.int 5)) (Ab (fC (.int 250)) Ai)))))) (As Au (Ab (Ad 0) (Ab (fC (.int 4)) Ai))) ixD) Ai))))
   Ba)
 (Aw (ifS (AR (Ah (Ad 2) (fC (.int 3)) (eqS id)))
   (AU (Bo (Ab (fC (.str "list")) (Ab (As Cq (Ab (Ad 0) (Ab (Ah (Ad 1) (fC (.int 1)) Di) Ai))) (Ab (Ah (AM (Bf (Ab (fC (.int 0)) (Ab (fC (.int 2)) (Ab (fC (.int 6)) (Ab (fC (.int 250)) Ai)))))) (As Au (Ab (Ad 0) (Ab (fC (.int 4)) Ai))) ixD) Ai)))))
   Ba)
 (Aw (ifS (AR (Ah (Ad 2) (fC (.int 4)) (eqS id)))
   (AU (Bo (Ab (fC (.str "pair")) (Ab (As Cq (Ab (Ad 0) (Ab (Ah (Ad 1) (fC (.int 1)) Di) Ai))) (Ab (As Cq (Ab (Ad 0) (Ab (Ah (Ad 1) (fC (.int 1)) Di) Ai))) Ai)))))
   Ba)
 (AU (Bo (Ab (fC (.str "choice")) (Ab (fB (Ab (AM (DR 1 [0,1] (CO (Ab (Ah (fC (.int 1)) (As Au (Ab (Ad 0) (Ab (fC (.int 3)) Ai))) Bs) Ai)) (BL 0) FX (As Cq (Ab (Ad 1) (Ab (Ah (Ad 2) (fC (.int 1)) Di) Ai))))) Ai) LZ) Ai))))))))))
def B4 (BH Au:Fn):M Out:=
 (Aw (A8 2 (Ah (Ad 1) (fC (.int 0)) ixD))
 (Aw (ifS (AR (Ah (Ad 2) (fC (.str "nothing")) (eqS id)))
   (AU (fC .non))
   Ba)
 (Aw (ifS (AR (Ah (Ad 2) (fC (.str "number")) (eqS id)))
   (AU (Ah (AM (Bf (Ab (Ah (Ad 1) (fC (.int 1)) ixD) (Ab (Ah (Ad 1) (fC (.int 2)) ixD) (Ab (Ah (Ah (Ad 1) (fC (.int 1)) ixD) (As Au (Ab (Ad 0) (Ab (Ah (Ah (Ah (Ad 1) (fC (.int 2)) ixD) (Ah (Ad 1) (fC (.int 1)) ixD) Di) (fC (.int 1)) Bs) Ai))) Bs) Ai))))) (As Au (Ab (Ad 0) (Ab (fC (.int 3)) Ai))) ixD))
   Ba)
 (Aw (ifS (AR (Ah (Ad 2) (fC (.str "text")) (eqS id)))
   (Aw (A8 3 (fC (.str " !#09AZaz~{")))
 (AU (joinM (fC (.str "")) (Ab (AM (DR 1 [3,0] (CO (Ab (fB (Ab (Ah (Ad 1) (fC (.int 1)) ixD) (Ab (As Au (Ab (Ad 0) (Ab (fC (.int 7)) Ai))) Ai)) FQ) Ai)) (BL 0) FX (Ah (Ad 1) (As Au (Ab (Ad 2) (Ab (fC (.int 11)) Ai))) ixD))) Ai))))
   Ba)
 (Aw (ifS (AR (Ah (Ad 2) (fC (.str "list")) (eqS id)))
   (AU (AM (DR 1 [0,1] (CO (Ab (fB (Ab (Ah (Ad 1) (fC (.int 2)) ixD) (Ab (As Au (Ab (Ad 0) (Ab (fC (.int 4)) Ai))) Ai)) FQ) Ai)) (BL 0) FX (As BH (Ab (Ad 1) (Ab (Ah (Ad 2) (fC (.int 1)) ixD) Ai))))))
   Ba)
 (Aw (ifS (AR (Ah (Ad 2) (fC (.str "pair")) (eqS id)))
   (AU (Bo (Ab (As BH (Ab (Ad 0) (Ab (Ah (Ad 1) (fC (.int 1)) ixD) Ai))) (Ab (As BH (Ab (Ad 0) (Ab (Ah (Ad 1) (fC (.int 2)) ixD) Ai))) Ai))))
   Ba)
 (Aw (A8 4 (As Au (Ab (Ad 0) (Ab (fB (Ab (Ah (Ad 1) (fC (.int 1)) ixD) Ai) BR) Ai))))
 (AU (Bo (Ab (fC (.str "of")) (Ab (Ad 4) (Ab (As BH (Ab (Ad 0) (Ab (Ah (Ah (Ad 1) (fC (.int 1)) ixD) (Ad 4) ixD) Ai))) Ai))))))))))))
def Cw (Au Cq CJ:Fn):M Out:=
 (Aw (A8 1 (As CJ (Ab (Ad 0) (Ab (fC (.int 0)) Ai))))
 (Aw (A8 2 (Ah (AM (Bf (Ab (Ah (fC (.int 1)) (As Au (Ab (Ad 1) (Ab (fC (.int 5)) Ai))) Bs) (Ab (Ah (fC (.int 1)) (As Au (Ab (Ad 1) (Ab (fC (.int 9)) Ai))) Bs) (Ab (fC (.int 30)) Ai))))) (As Au (Ab (Ad 1) (Ab (fC (.int 3)) Ai))) ixD))
 (Aw (Ep 3 (Bf Ai))
 (Aw (Db (CO (Ab (Ad 2) Ai)) (BL 4)
   (Aw (A8 1 (As CJ (Ab (Ad 0) (Ab (Ah (fC (.int 1)) (Ah (Ad 4) (fC (.int 13)) EM) Bs) Ai))))
 (Aw (En (Ah (Ah (Ah (Ad 1) (fC (.str "rest")) Dj) (Ah (fC (.int 1)) (Ah (Ad 4) (fC (.int 13)) FJ) Bs) FJ) (Ah (fC (.int 37)) (Ad 4) De) Bs) (G1 (Ad 1) (fC (.str "rest"))))
 (ifS (Lb (AR (Ah (As Au (Ab (Ad 1) (Ab (fC (.int 6)) Ai))) (fC (.int 0)) (eqS id))) (AR (Ah (Ad 4) (fC (.int 0)) gtA)))
   (ownM 3 Do (Ab (Bo (Ab (fC (.str "end")) Ai)) Ai))
   (Aw (A8 5 (Ah (AM (Bf (Ab (fC (.str "left")) (Ab (fC (.str "right")) Ai)))) (As Au (Ab (Ad 1) (Ab (fC (.int 2)) Ai))) ixD))
 (Aw (Ep 6 (Bf Ai))
 (Aw (Db (CO (Ab (Ah (AM (Bf (Ab (fC (.int 1)) (Ab (fC (.int 2)) (Ab (fC (.int 3)) (Ab (fC (.int 9)) Ai)))))) (As Au (Ab (Ad 1) (Ab (fC (.int 4)) Ai))) ixD) Ai)) (BL 7)
   (Aw (A8 8 (Ah (Ah (fC (.str "abcdefghi")) (Ad 7) ixD) (Ah (Ah (fC (.str "xyz")) (As Au (Ab (Ad 1) (Ab (fC (.int 3)) Ai))) ixD) (As Au (Ab (Ad 1) (Ab (fC (.int 8)) Ai))) De) Bs))
 (Aw (A8 9 (Ah (AM (Bf (Ab (As Au (Ab (Ad 1) (Ab (Ad 2) Ai))) (Ab (fB (Ab (Ah (Ad 2) (fC (.int 1)) Di) (Ab (Ah (Ad 4) (fC (.int 1)) Bs) Ai)) FQ) Ai)))) (As Au (Ab (Ad 1) (Ab (fC (.int 2)) Ai))) ixD))
 (ownM 6 Do (Ab (Bo (Ab (Ad 8) (Ab (As Cq (Ab (Ad 1) (Ab (As Au (Ab (Ad 1) (Ab (fC (.int 3)) Ai))) Ai))) (Ab (Ad 9) Ai)))) Ai)))))
 (ownM 3 Do (Ab (Bo (Ab (Ad 5) (Ab (Ad 6) Ai))) Ai)))))))))
 (AU (Ad 3))))))
def C4 (BH Au CJ:Fn):M Out:=
 (Aw (Ep 4 (Bf Ai))
 (Aw (A8 5 (fC (.int 0)))
 (Aw (Ep 6 (Bf (Ab (fC (.int 0)) Ai)))
 (Aw (Db (E5 (Ab (Ad 2) (Ab (fB (Ab (fB (Ab (Ad 0) Ai) BR) (Ab (Ad 3) Ai)) FQ) Ai))) (BL 7)
   (Aw (A8 8 (As CJ (Ab (Ad 0) (Ab (Ad 7) Ai))))
 (ifS (AR (Ah (Ah (Ad 1) (Ad 5) ixD) (Bo (Ab (fC (.str "end")) Ai)) (eqS fun b=>!b)))
   (Aw (En (Ah (Ad 1) (Ad 5) ixD) (unS 2 (B5 (BL 9) (B5 (BL 10) EO))))
 (Aw (En (Ah (Ad 10) (As Au (Ab (Ad 8) (Ab (fB (Ab (Ad 10) Ai) BR) Ai))) ixD) (unS 3 (B5 (BL 11) (B5 (BL 12) (B5 (BL 13) EO)))))
 (Aw (ownM 4 Do (Ab (Bo (Ab (Ad 9) (Ab (Ad 11) (Ab (As BH (Ab (Ad 8) (Ab (Ad 12) Ai))) Ai)))) Ai))
 (Aw (A8 5 (Ad 13))
 (ownM 6 Do (Ab (Ad 5) Ai))))))
   Ba)))
 (AU (AM (Bf (Ab (Ad 4) (Ab (Ad 6) Ai)))))))))
def Dz (J5 J4:Fn):M Out:=
 (Aw (A8 2 (fC (.int 0)))
 (Aw (Ep 3 (Bf Ai))
 (Aw (Db (CO (Ab (fB (Ab (Ad 1) Ai) BR) Ai)) (BL 4)
   (Aw (A8 5 (As J4 (Ab (Ah (Ad 0) (Ad 2) ixD) (Ab (Ah (Ad 1) (Ad 4) ixD) Ai))))
 (Aw (ifS (AR (Ah (Ad 5) (fC .non) isC))
   (IB "NoTalk" (Ab (Ad 4) Ai))
   Ba)
 (Aw (A8 6 (Bo (Ab (Ad 2) (Ab (Ad 5) Ai))))
 (Aw (ownM 3 Do (Ab (Ad 6) Ai))
 (A8 2 (As J5 (Ab (Ad 0) (Ab (Ad 6) Ai)))))))))
 (AU (nxD (Ad 3))))))
def Cr (Hi Mf:Fn):M Out:=
 (Aw (A8 2 (GH [("left",(IY (Bf Ai))),("right",(IY (Bf Ai)))]))
 (Aw (Qi 3 (As Mf (Ab (Ad 0) (Ab (Ad 1) Ai))))
 (Aw (Db (CO (Ab (fB (Ab (Ad 3) Ai) BR) Ai)) (BL 4)
   (Aw (A8 5 (Ah (Ad 0) (Ah (Ah (Ad 3) (Ad 4) ixD) (fC (.int 0)) ixD) ixD))
 (H9 (objM FG (Ah (Ad 2) (Ah (Ad 5) (fC (.int 0)) ixD) Dj) (Ab (As Hi (Ab (Ad 5) (Ab (Ah (Ah (Ad 3) (Ad 4) ixD) (fC (.int 1)) ixD) (Ab (Ah (Ah (Ad 1) (Ad 4) ixD) (fC (.int 2)) ixD) Ai)))) Ai)))))
 (AU (nxD (Bo (Ab (Ah (Ad 2) (fC (.str "left")) Dj) (Ab (Ah (Ad 2) (fC (.str "right")) Dj) Ai))))))))
def Dl (Au Ck BH:Fn):M Out:=
 (Aw (A8 2 (Ah (Ad 1) (fC (.int 0)) ixD))
 (Aw (ifS (AR (Ah (Ad 2) (fC (.str "nothing")) (eqS id)))
   (AU (Ah (AM (Bf (Ab (fC (.int 0)) (Ab (fC (.bl false)) (Ab (fC (.str "")) (Ab (AM (Bf Ai)) Ai)))))) (As Au (Ab (Ad 0) (Ab (fC (.int 4)) Ai))) ixD))
   Ba)
 (Aw (ifS (AR (Ah (Ad 2) (fC (.str "number")) (eqS id)))
   (AU (Ah (AM (Bf (Ab (Ah (Ah (Ad 1) (fC (.int 2)) ixD) (fC (.int 1)) Bs) (Ab (Ah (Ah (Ad 1) (fC (.int 1)) ixD) (fC (.int 1)) Di) (Ab (fC (.str "1")) (Ab (fC .non) (Ab (fC (.bl true)) (Ab (Bo (Ab (Ah (Ad 1) (fC (.int 1)) ixD) Ai)) Ai)))))))) (As Au (Ab (Ad 0) (Ab (fC (.int 6)) Ai))) ixD))
   Ba)
 (Aw (ifS (AR (Ah (Ad 2) (fC (.str "text")) (eqS id)))
   (AU (Ah (AM (Bf (Ab (Ah (fC (.str "a")) (Ah (Ah (Ad 1) (fC (.int 1)) ixD) (fC (.int 1)) Bs) De) (Ab (fC (.int 5)) (Ab (fC .non) (Ab (AM (Bf (Ab (fC (.str "a")) Ai))) (Ab (fC (.str "a\n")) Ai))))))) (As Au (Ab (Ad 0) (Ab (fC (.int 5)) Ai))) ixD))
   Ba)
 (Aw (ifS (AR (Ah (Ad 2) (fC (.str "list")) (eqS id)))
   (Aw (A8 3 (fSl (Ah (AM (Bf (Ab (As BH (Ab (Ad 0) (Ab (Ah (Ad 1) (fC (.int 1)) ixD) Ai))) Ai))) (fC (.int 7)) De) fNo (FI (Ah (Ah (Ad 1) (fC (.int 2)) ixD) (fC (.int 1)) Bs)) ES))
 (AU (Ah (AM (Bf (Ab (Bo Ai) (Ab (fC .non) (Ab (fC (.str "")) (Ab (AM (Bf (Ab (As Ck (Ab (Ad 0) (Ab (Ah (Ad 1) (fC (.int 1)) ixD) Ai))) Ai))) (Ab (Ah (AM (Bf (Ab (Ad 3) (Ab (fC (.int 5)) Ai)))) (fB (Ab (Ah (Ah (Ad 1) (fC (.int 2)) ixD) (fC (.int 6)) gtA) Ai) Jg) ixD) Ai))))))) (As Au (Ab (Ad 0) (Ab (fC (.int 5)) Ai))) ixD)))
   Ba)
 (Aw (ifS (AR (Ah (Ad 2) (fC (.str "pair")) (eqS id)))
   (Aw (A8 4 (As BH (Ab (Ad 0) (Ab (Ah (Ad 1) (fC (.int 1)) ixD) Ai))))
 (Aw (A8 5 (As BH (Ab (Ad 0) (Ab (Ah (Ad 1) (fC (.int 2)) ixD) Ai))))
 (Aw (A8 6 (AM (Bf (Ab (Bo (Ab (Ad 4) Ai)) (Ab (Bo (Ab (Ad 4) (Ab (Ad 5) (Ab (Ad 5) Ai)))) (Ab (AM (Bf (Ab (Ad 4) (Ab (Ad 5) Ai)))) (Ab (Bo (Ab (As Ck (Ab (Ad 0) (Ab (Ah (Ad 1) (fC (.int 1)) ixD) Ai))) (Ab (Ad 5) Ai))) (Ab (fC .non) Ai))))))))
 (AU (Ah (Ah (Ad 6) (AM (Bf (Ab (Bo (Ab (Ad 4) (Ab (As Ck (Ab (Ad 0) (Ab (Ah (Ad 1) (fC (.int 2)) ixD) Ai))) Ai))) Ai))) Bs) (As Au (Ab (Ad 0) (Ab (fC (.int 6)) Ai))) ixD)))))
   Ba)
 (Aw (A8 7 (As Au (Ab (Ad 0) (Ab (fB (Ab (Ah (Ad 1) (fC (.int 1)) ixD) Ai) BR) Ai))))
 (Aw (A8 4 (As BH (Ab (Ad 0) (Ab (Ah (Ah (Ad 1) (fC (.int 1)) ixD) (Ad 7) ixD) Ai))))
 (Aw (A8 6 (AM (Bf (Ab (Bo (Ab (fC (.str "of")) (Ab (fB (Ab (Ah (Ad 1) (fC (.int 1)) ixD) Ai) BR) (Ab (Ad 4) Ai)))) (Ab (Bo (Ab (fC (.str "of")) (Ab (fUn (fC (.int 1)) Lw) (Ab (Ad 4) Ai)))) (Ab (Bo (Ab (fC (.str "of")) (Ab (Ad 7) Ai))) (Ab (Bo (Ab (Ad 7) (Ab (Ad 4) Ai))) (Ab (Bo (Ab (fC (.str "of")) (Ab (Ad 7) (Ab (As Ck (Ab (Ad 0) (Ab (Ah (Ah (Ad 1) (fC (.int 1)) ixD) (Ad 7) ixD) Ai))) Ai)))) (Ab (fC .non) Ai)))))))))
 (AU (Ah (Ah (Ad 6) (AM (Bf (Ab (Bo (Ab (fC (.str "of")) (Ab (fC (.bl true)) (Ab (Ad 4) Ai)))) (Ab (Bo (Ab (fC (.str "on")) (Ab (Ad 7) (Ab (Ad 4) Ai)))) (Ab (AM (Bf (Ab (fC (.str "of")) (Ab (Ad 7) (Ab (Ad 4) Ai))))) Ai))))) Bs) (As Au (Ab (Ad 0) (Ab (fC (.int 9)) Ai))) ixD)))))))))))
def D8 (Au Ck:Fn):M Out:=
 (Aw (En (Ad 3) (unS 3 (B5 (BL 4) (B5 (BL 5) (B5 (BL 6) EO)))))
 (Aw (A8 7 (Ah (GH [("left",(fC (.str "right"))),("right",(fC (.str "left")))]) (Ad 4) Dj))
 (Aw (A8 8 (Ah (Ah (Ad 1) (Ad 2) ixD) (fC (.int 1)) ixD))
 (Aw (A8 9 (Ah (AM (DR 1 [5] (FH (Ad 8)) (BL 0) (AR (Ah (Ah (Ad 0) (fC (.int 0)) ixD) (Ad 1) (eqS id))) (Ah (Ad 0) (fC (.int 1)) ixD))) (fC (.int 0)) ixD))
 (Aw (A8 10 (AM (Bf (Ab (Bo (Ab (Ad 7) (Ab (Ad 5) (Ab (Ad 6) Ai)))) (Ab (Bo (Ab (Ad 4) (Ab (Ah (Ad 5) (fC (.str "q")) Bs) (Ab (Ad 6) Ai)))) (Ab (Bo (Ab (Ad 4) (Ab (fUn (Ad 5) upD) (Ab (Ad 6) Ai)))) (Ab (Bo (Ab (Ad 4) (Ab (fC (.str "")) (Ab (Ad 6) Ai)))) Ai)))))))
 (Aw (A8 10 (Ah (Ad 10) (AM (Bf (Ab (Bo (Ab (Ad 4) (Ab (fC .non) (Ab (Ad 6) Ai)))) (Ab (Bo (Ab (Ad 4) (Ab (fC (.int 0)) (Ab (Ad 6) Ai)))) (Ab (Bo (Ab (Ad 4) (Ab (Ad 5) Ai))) (Ab (Bo (Ab (Ad 4) (Ab (Ad 5) (Ab (Ad 6) (Ab (Ad 6) Ai))))) (Ab (AM (Bf (Ab (Ad 4) (Ab (Ad 5) (Ab (Ad 6) Ai))))) Ai))))))) Bs))
 (Aw (A8 10 (Ah (Ad 10) (AM (Bf (Ab (fC .non) (Ab (Bo (Ab (fC (.str "Left")) (Ab (Ad 5) (Ab (Ad 6) Ai)))) (Ab (Bo (Ab (fC .non) (Ab (Ad 5) (Ab (Ad 6) Ai)))) Ai))))) Bs))
 (Aw (ifS (AR (Ah (As Au (Ab (Ad 0) (Ab (fC (.int 2)) Ai))) (fC (.int 0)) (eqS id)))
   (AU (Bo (Ab (Ad 4) (Ab (Ad 5) (Ab (As Ck (Ab (Ad 0) (Ab (Ad 9) Ai))) Ai)))))
   Ba)
 (AU (Ah (Ad 10) (As Au (Ab (Ad 0) (Ab (fC (.int 12)) Ai))) ixD))))))))))
def Cy (D4:Fn):M Out:=
 (Aw (A8 2 (AM (Bf Ai)))
 (Aw (A8 3 (fC .non))
 (Aw (Ff (Nh (As D4 (Ab (Ad 0) (Ab (Ad 1) Ai)))) (hAs "ParleyError" 4 (Aw (A8 2 (AM (Bf (Ab (bnd (Ad 4) (DE "NoTalk")) (Ab (bnd (Ad 4) (DE "ValueError")) (Ab (bnd (Ad 4) (DE "NoName")) (Ab (bnd (Ad 4) (DE "NoRow")) Ai)))))))
 (Aw (A8 2 (Ah (Ad 2) (AM (Bf (Ab (bnd (Ad 4) (DE "Broken")) (Ab (bnd (Ad 4) (DE "NoText")) (Ab (bnd (Ad 4) (DE "NoValue")) (Ab (bnd (Ad 4) (DE "Short")) Ai)))))) Bs))
 (ifS (AR (bnd (Ad 4) (DE "NoTalk")))
   (A8 3 (bnd (Ad 4) (KW "at")))
   Ba))) Tm))
 (Aw (ifS (AR (Ah (Ad 2) (Ah (AM (Bf (Ab (fC (.bl true)) (Ab (fC (.bl true)) Ai)))) (Ah (AM (Bf (Ab (fC (.bl false)) Ai))) (fC (.int 6)) De) Bs) (eqS fun b=>!b)))
   (AU (fC .non))
   Ba)
 (AU (Ad 3))))))
def E8 (D4 E3 Me Au CJ KZ HW:Fn):M Out:=
 (Aw (A8 1 (As HW (Ab (Ad 0) Ai)))
 (Aw (En (As KZ (Ab (Ad 0) (Ab (Ad 1) (Ab (fC (.int 14)) (Ab (fC (.int 50)) Ai))))) (unS 2 (B5 (BL 2) (B5 (BL 3) EO))))
 (Aw (A8 4 (As (Hv D4) (Ab (Ad 1) (Ab (AM (fBF (Ab (Ad 2) Ai) Ho)) Ai))))
 (Aw (Db (E5 (Ab (fC (.int 50)) (Ab (fC (.int 58)) Ai))) (BL 5)
   (Aw (A8 6 (As CJ (Ab (Ad 0) (Ab (Ad 5) Ai))))
 (Aw (A8 7 (As Au (Ab (Ad 6) (Ab (Ah (fB (Ab (Ad 2) Ai) BR) (fC (.int 1)) Bs) Ai))))
 (Aw (ifS (AR (Ah (Ad 7) (fB (Ab (Ad 2) Ai) BR) ltA))
   (A8 8 (Ah (Ah (fSl (Ad 2) fNo (FI (Ad 7)) ES) (AM (Bf (Ab (As Me (Ab (Ad 6) (Ab (Ad 1) (Ab (Ah (Ad 3) (Ad 7) ixD) (Ab (Ah (Ad 2) (Ad 7) ixD) Ai))))) Ai))) Bs) (fSl (Ad 2) (FI (Ah (Ad 7) (fC (.int 1)) Bs)) fNo ES) Bs))
   (ifS (AR (Ah (Ah (Ad 1) (Ah (Ad 3) (Ad 7) ixD) ixD) (Bo (Ab (fC (.str "end")) Ai)) (eqS id)))
   (A8 8 (Ah (Ad 2) (AM (Bf (Ab (Ah (AM (Bf (Ab (Bo (Ab (fC (.str "left")) (Ab (fC (.str "a")) (Ab (fC .non) Ai)))) (Ab (Bo (Ab (fC (.str "right")) (Ab (fC (.str "b")) (Ab (fC (.int 1)) Ai)))) (Ab (Ah (Ad 2) (fUn (fC (.int 1)) Lw) ixD) Ai))))) (As Au (Ab (Ad 6) (Ab (fC (.int 3)) Ai))) ixD) Ai))) Bs))
   (A8 8 (Ah (Ad 2) (AM (Bf (Ab (Bo (Ab (fC (.str "end")) (Ab (fC (.str "a")) (Ab (fC .non) Ai)))) Ai))) Bs))))
 (Aw (A8 9 (AM (fBF (Ab (Ad 8) Ai) Ho)))
 (ifS (fOr (AR (Ah (As E3 (Ab (Ad 1) (Ab (Ad 9) Ai))) (Ad 7) (eqS fun b=>!b))) (AR (Ah (Ad 9) (Ad 8) (eqS fun b=>!b))))
   (AU (fC (.bl false)))
   Ba))))))
 (AU (Et (Ah (As (Hv D4) (Ab (Ad 1) (Ab (Ad 2) Ai))) (Ad 4) (eqT id)) (Ah (As E3 (Ab (AM (Bf (Ab (Bo (Ab (fC (.str "end")) Ai)) Ai))) (Ab (AM (Bf (Ab (Bo (Ab (fC (.str "left")) (Ab (fC (.str "a")) (Ab (fC .non) Ai)))) Ai))) Ai))) (fC (.int 0)) (eqS id))))))))
end LW
namespace F2
open PySem L2
def W {α:Type} (m:M α) (t:T) (P:α→T→Prop):Prop:=∃a t',m t=some (a,t')∧P a t'
def Wf (g:Fn) (ds:List D) (S:List Ob) (P:D→List Ob→Prop):Prop:=∃r S',g ds S=some (r,S')∧P r S'
theorem W.mono {α:Type} {m:M α} {t:T} {P Q:α→T→Prop} (h:W m t P) (i:∀a t',P a t'→Q a t'):W m t Q:=by
 obtain ⟨a,t',e,p⟩:=h
 exact ⟨a,t',e,i a t' p⟩
theorem Wf.mono {g:Fn} {ds:List D} {S:List Ob} {P Q:D→List Ob→Prop} (h:Wf g ds S P) (i:∀r S',P r S'→Q r S'):Wf g ds S Q:=by
 obtain ⟨a,t',e,p⟩:=h
 exact ⟨a,t',e,i a t' p⟩
section
variable {α β:Type}
theorem AQ {m:M α} {t:T} {P:α→T→Prop} {a:α} {t':T} (e:m t=some (a,t')):W m t P↔P a t':=by
 constructor
 ·rintro ⟨a',t1,e',p⟩;rw [e] at e';cases e';exact p
 ·exact fun p=>⟨a,t',e,p⟩
theorem F8 {m:M α} {t:T} {P:α→T→Prop} (e:m t=none):W m t P↔False:=by
 constructor
 ·rintro ⟨a',t1,e',p⟩;rw [e] at e';cases e'
 ·exact False.elim
@[simp] theorem W_ret {a:α} {t:T} {P:α→T→Prop}:W (ret a) t P↔P a t:=AQ rfl
@[simp] theorem W_fail {t:T} {P:α→T→Prop}:W (fail:M α) t P↔False:=F8 rfl
@[simp] theorem W_bnd {f:M α} {g:α→M β} {t:T} {P:β→T→Prop}:W (bnd f g) t P↔W f t fun a t1=>W (g a) t1 P:=by
 constructor
 ·rintro ⟨b,t',e,p⟩
  obtain ⟨a,t1,e1,e2⟩:=Aq e
  exact ⟨a,t1,e1,b,t',e2,p⟩
 ·rintro ⟨a,t1,e1,b,t',e2,p⟩
  exact ⟨b,t',by unfold bnd;rw [e1];exact e2,p⟩
@[simp] theorem Qx {c:Prop} [Decidable c] {f g:M α} {t:T} {P:α→T→Prop}:W (if c then f else g) t P↔if c then W f t P else W g t P:=by split <;> rfl
@[simp] theorem Xe {n:Nat} {a:α} {t:T} {P:α→T→Prop}:W (lim n a) t P↔n≤LIM∧P a t:=by
 unfold lim
 constructor
 ·rintro ⟨a',t',e,p⟩
  split at e
  ·cases e;exact ⟨by assumption,p⟩
  ·cases e
 ·rintro ⟨h,p⟩
  exact ⟨a,t,by simp only [h,if_true],p⟩
end
variable {t:T} {env:List (Option Sl)} {S:List Ob}
@[simp] theorem W_fC {d:D} {P:D→T→Prop}:W (fC d) t P↔P d t:=AQ rfl
@[simp] theorem N1 {i:Nat} {P:D→T→Prop}:W (Ad i) t P↔match t.env[i]? with
 | some (some (.val d))=>P d t
 | some (some (.own ds))=>P (.lst ds) ⟨t.env.set i (some (.val (.lst ds))),t.S⟩
 | _=>False:=by
 cases e:t.env[i]? with
 | none=>exact F8 (by unfold Ad;simp [e])
 | some o=>
   cases o with
   | none=>exact F8 (by unfold Ad;simp [e])
   | some sl=>
     cases sl with
     | val d=>exact AQ (by unfold Ad;simp [e])
     | own ds=>exact AQ (by unfold Ad;simp [e])
@[simp] theorem W_fBin {f g:M D} {h:D→D→M D} {P:D→T→Prop}:W (Ah f g h) t P↔W f t fun x t1=>W g t1 fun y t2=>W (h x y) t2 P:=by simp [Ah]
@[simp] theorem W_fUn {f:M D} {h:D→M D} {P:D→T→Prop}:W (fUn f h) t P↔W f t fun x t1=>W (h x) t1 P:=by simp [fUn]
@[simp] theorem W_toB {b:Bool} {P:Bool→T→Prop}:W (toB (.bl b)) t P↔P b t:=AQ rfl
@[simp] theorem W_fTst {f:M D} {P:Bool→T→Prop}:W (AR f) t P↔W f t fun x t1=>W (toB x) t1 P:=by simp [AR]
@[simp] theorem W_fChain {f g w:M D} {h h':D→D→M D} {P:D→T→Prop}:W (EI f g w h h') t P↔W f t fun x t1=>W g t1 fun y t2=>W (h x y) t2 fun k t3=>W (toB k) t3 fun k t4=>if k=true then W w t4 fun z t5=>W (h' y z) t5 P else P (.bl false) t4:=by
 simp [EI]
@[simp] theorem W_fAnd {f g:M Bool} {P:Bool→T→Prop}:W (Lb f g) t P↔W f t fun k t1=>if k=true then W g t1 P else P false t1:=by simp [Lb]
@[simp] theorem W_fOr {f g:M Bool} {P:Bool→T→Prop}:W (fOr f g) t P↔W f t fun k t1=>if k=true then P true t1 else W g t1 P:=by simp [fOr]
@[simp] theorem W_fNot {f:M Bool} {P:Bool→T→Prop}:W (Da f) t P↔W f t fun k t1=>P (!k) t1:=by simp [Da]
@[simp] theorem W_fAndV {f g:M D} {P:D→T→Prop}:W (Et f g) t P↔W f t fun x t1=>W (toB x) t1 fun k t2=>if k=true then W g t2 P else P (.bl false) t2:=by simp [Et]
@[simp] theorem W6 {f g:M D} {P:D→T→Prop}:W (Tg f g) t P↔W f t fun x t1=>W (toB x) t1 fun k t2=>if k=true then P (.bl true) t2 else W g t2 P:=by simp [Tg]
@[simp] theorem W_fNotV {f:M D} {P:D→T→Prop}:W (Ib f) t P↔W f t fun x t1=>W (toB x) t1 fun k t2=>P (.bl (!k)) t2:=by simp [Ib]
@[simp] theorem W_fIf {f:M Bool} {g h:M D} {P:D→T→Prop}:W (fIf f g h) t P↔W f t fun k t1=>if k=true then W g t1 P else W h t1 P:=by simp [fIf]
@[simp] theorem W_fNil {P:List D→T→Prop}:W Ai t P↔P [] t:=AQ rfl
@[simp] theorem W_fCons {f:M D} {g:M (List D)} {P:List D→T→Prop}:W (Ab f g) t P↔W f t fun d t1=>W g t1 fun ds t2=>P (d :: ds) t2:=by simp [Ab]
@[simp] theorem W_fTup {f:M (List D)} {P:D→T→Prop}:W (Bo f) t P↔W f t fun ds t1=>ds.length≤LIM∧P (.tup ds) t1:=by simp [Bo]
@[simp] theorem W_fLst {f:M (List D)} {P:List D→T→Prop}:W (Bf f) t P↔W f t fun ds t1=>ds.length≤LIM∧P ds t1:=by simp [Bf]
@[simp] theorem W_fPure {f:M (List D)} {P:D→T→Prop}:W (AM f) t P↔W f t fun ds t1=>P (.lst ds) t1:=by simp [AM]
@[simp] theorem W_newOb {o:Ob} {P:D→T→Prop}:W (Nv o) t P↔P (.obj t.S.length) ⟨t.env,t.S++[o]⟩:=AQ rfl
@[simp] theorem Ta {f:M (List D)} {P:D→T→Prop}:W (IY f) t P↔W f t fun ds t1=>W (Nv (.lst ds)) t1 P:=by simp [IY]
@[simp] theorem W_fCall {g:Fn} {f:M (List D)} {P:D→T→Prop}:W (As g f) t P↔W f t fun ds t1=>Wf g ds t1.S fun r S'=>P r ⟨t1.env,S'⟩:=by
 unfold As
 rw [W_bnd]
 constructor
 ·rintro ⟨ds,t1,e1,r,t',e2,p⟩
  refine ⟨ds,t1,e1,?_⟩
  dsimp only at e2
  cases e:g ds t1.S with
  | none=>rw [e] at e2;cases e2
  | some z=>obtain ⟨r',S'⟩:=z;rw [e] at e2;cases e2;exact ⟨r,_,e,p⟩
 ·rintro ⟨ds,t1,e1,r,S',e2,p⟩
  exact ⟨ds,t1,e1,r,_,by simp only [e2],p⟩
@[simp] theorem W_fB {f:M (List D)} {h:List D→M D} {P:D→T→Prop}:W (fB f h) t P↔W f t fun ds t1=>W (h ds) t1 P:=by simp [fB]
@[simp] theorem W_fBF {f:M (List D)} {h:List D→M (List D)} {P:List D→T→Prop}:W (fBF f h) t P↔W f t fun ds t1=>W (h ds) t1 P:=by simp [fBF]
@[simp] theorem W_seqS {f g:M Out} {P:Out→T→Prop}:W (Aw f g) t P↔W f t fun o t1=>match o with
 | .next=>W g t1 P
 | .brk=>P .brk t1
 | .cont=>P .cont t1
 | .ret d=>P (.ret d) t1:=by
 unfold Aw
 constructor
 ·rintro ⟨o,t',e,p⟩
  dsimp only at e
  cases e1:f t with
  | none=>rw [e1] at e;cases e
  | some z=>
    obtain ⟨o1,t1⟩:=z
    rw [e1] at e
    refine ⟨o1,t1,e1,?_⟩
    cases o1 with
    | next=>exact ⟨o,t',e,p⟩
    | brk=>cases e;exact p
    | cont=>cases e;exact p
    | ret d=>cases e;exact p
 ·rintro ⟨o,t1,e,p⟩
  cases o with
  | next=>obtain ⟨o,t',e',p⟩:=p;exact ⟨o,t',by simp only [e];exact e',p⟩
  | brk=>exact ⟨_,_,by simp only [e],p⟩
  | cont=>exact ⟨_,_,by simp only [e],p⟩
  | ret d=>exact ⟨_,_,by simp only [e],p⟩
@[simp] theorem W_skipS {P:Out→T→Prop}:W Ba t P↔P .next t:=AQ rfl
@[simp] theorem W_retS {f:M D} {P:Out→T→Prop}:W (AU f) t P↔W f t fun d t1=>P (.ret d) t1:=by simp [AU]
@[simp] theorem W_dropS {f:M D} {P:Out→T→Prop}:W (H9 f) t P↔W f t fun d t1=>P .next t1:=by simp [H9]
@[simp] theorem W_ifS {f:M Bool} {g h:M Out} {P:Out→T→Prop}:W (ifS f g h) t P↔W f t fun k t1=>if k=true then W g t1 P else W h t1 P:=by simp [ifS]
@[simp] theorem W_putV {i:Nat} {d:D} {P:Unit→T→Prop}:W (BL i d) t P↔P () ⟨t.env.set i (some (.val d)),t.S⟩:=AQ rfl
@[simp] theorem W_setS {i:Nat} {f:M D} {P:Out→T→Prop}:W (A8 i f) t P↔W f t fun d t1=>P .next ⟨t1.env.set i (some (.val d)),t1.S⟩:=by
 simp only [A8,W_bnd,W_ret,W_putV]
@[simp] theorem W_ownS {i:Nat} {f:M (List D)} {P:Out→T→Prop}:W (Ep i f) t P↔W f t fun ds t1=>P .next ⟨t1.env.set i (some (.own ds)),t1.S⟩:=by
 unfold Ep;rw [W_bnd]
 have:∀(ds:List D) (t1:T),W (fun t:T=>some (Out.next,({ t with env:=t.env.set i (some (.own ds)) }:T))) t1 P↔P .next ⟨t1.env.set i (some (.own ds)),t1.S⟩:=fun ds t1=>AQ rfl
 simp only [this]
@[simp] theorem W_asgS {f:M D} {g:D→M Unit} {P:Out→T→Prop}:W (En f g) t P↔W f t fun d t1=>W (g d) t1 fun _ t2=>P .next t2:=by simp [En]
@[simp] theorem W_putNil {P:Unit→T→Prop}:W (EO []) t P↔P () t:=AQ rfl
@[simp] theorem W_putCons {f:D→M Unit} {g:List D→M Unit} {d:D} {ds:List D} {P:Unit→T→Prop}:W (B5 f g (d :: ds)) t P↔W (f d) t fun _ t1=>W (g ds) t1 P:=by simp [B5]
@[simp] theorem W_unS_lst {n:Nat} {g:List D→M Unit} {ds:List D} {P:Unit→T→Prop}:W (unS n g (.lst ds)) t P↔ds.length=n∧W (g ds) t P:=by
 unfold unS;simp only [Qx,W_fail];split <;> simp [*]
@[simp] theorem W_unS_tup {n:Nat} {g:List D→M Unit} {ds:List D} {P:Unit→T→Prop}:W (unS n g (.tup ds)) t P↔ds.length=n∧W (g ds) t P:=by
 unfold unS;simp only [Qx,W_fail];split <;> simp [*]
@[simp] theorem W_forS {f:M (List D)} {st:D→M Unit} {b:M Out} {P:Out→T→Prop}:W (Db f st b) t P↔W f t fun ds t1=>W (C2 st b ds) t1 P:=by simp [Db]
@[simp] theorem W_forL_nil {st:D→M Unit} {b:M Out} {P:Out→T→Prop}:W (C2 st b []) t P↔P .next t:=AQ rfl
theorem Mc {st:D→M Unit} {b:M Out} {d:D} {r:List D} {P:Out→T→Prop}:W (C2 st b (d :: r)) t P↔W (st d) t fun _ t1=>W b t1 fun o t2=>match o with
 | .next=>W (C2 st b r) t2 P
 | .cont=>W (C2 st b r) t2 P
 | .brk=>P .next t2
 | .ret x=>P (.ret x) t2:=by
 constructor
 ·rintro ⟨o,t',e,p⟩
  unfold C2 at e
  cases e1:st d t with
  | none=>rw [e1] at e;cases e
  | some z=>
    obtain ⟨u,t1⟩:=z
    rw [e1] at e
    try dsimp only at e
    refine ⟨u,t1,e1,?_⟩
    cases e2:b t1 with
    | none=>rw [e2] at e;cases e
    | some z=>
      obtain ⟨o2,t2⟩:=z
      rw [e2] at e
      try dsimp only at e
      refine ⟨o2,t2,e2,?_⟩
      cases o2 with
      | next=>exact ⟨o,t',e,p⟩
      | cont=>exact ⟨o,t',e,p⟩
      | brk=>cases e;exact p
      | ret x=>cases e;exact p
 ·rintro ⟨u,t1,e1,o,t2,e2,p⟩
  cases o with
  | next=>obtain ⟨o,t',e',p⟩:=p;exact ⟨o,t',by unfold C2;simp only [e1,e2];exact e',p⟩
  | cont=>obtain ⟨o,t',e',p⟩:=p;exact ⟨o,t',by unfold C2;simp only [e1,e2];exact e',p⟩
  | brk=>exact ⟨_,_,by unfold C2;simp only [e1,e2],p⟩
  | ret x=>exact ⟨_,_,by unfold C2;simp only [e1,e2],p⟩
theorem Dx {st:D→M Unit} {b:M Out} {P:Out→T→Prop} (I:List D→T→Prop):∀(ds:List D) (t:T),I ds t→
 (∀d r t,I (d :: r) t→d∈ds→W (st d) t fun _ t1=>W b t1 fun o t2=>match o with
   | .next=>I r t2
   | .cont=>I r t2
   | .brk=>P .next t2
   | .ret x=>P (.ret x) t2)→(∀t,I [] t→P .next t)→W (C2 st b ds) t P
 | [],t,h,_,fin=>W_forL_nil.mpr (fin t h)
 | d :: r,t,h,turn,fin=>by
   rw [Mc]
   refine (turn d r t h List.mem_cons_self).mono fun _ t1 h1=>h1.mono fun o t2 h2=>?_
   cases o with
   | next=>exact Dx I r t2 h2 (fun d' r' t' h' m=>turn d' r' t' h' (List.mem_cons_of_mem _ m)) fin
   | cont=>exact Dx I r t2 h2 (fun d' r' t' h' m=>turn d' r' t' h' (List.mem_cons_of_mem _ m)) fin
   | brk=>exact h2
   | ret x=>exact h2
@[simp] theorem W_fComp {n:Nat} {fr:List Nat} {f:M (List D)} {st:D→M Unit} {tst:M Bool} {elt:M D} {P:List D→T→Prop}:W (DR n fr f st tst elt) t P↔W f t fun ds t1=>W (CH st tst elt ds) ⟨cenv n fr t1.env,t1.S⟩ fun xs t'=>xs.length≤LIM∧P xs ⟨t1.env,t'.S⟩:=by
 unfold DR
 rw [W_bnd]
 constructor
 ·rintro ⟨ds,t1,e1,xs,t',e2,p⟩
  refine ⟨ds,t1,e1,?_⟩
  dsimp only at e2
  cases e:CH st tst elt ds ⟨cenv n fr t1.env,t1.S⟩ with
  | none=>rw [e] at e2;cases e2
  | some z=>
    obtain ⟨ys,t3⟩:=z
    rw [e] at e2
    dsimp only at e2
    split at e2
    ·cases e2;exact ⟨_,_,e,by assumption,p⟩
    ·cases e2
 ·rintro ⟨ds,t1,e1,xs,t',e2,h,p⟩
  exact ⟨ds,t1,e1,xs,_,by simp only [e2,h,if_true],p⟩
@[simp] theorem W_compL_nil {st:D→M Unit} {tst:M Bool} {elt:M D} {P:List D→T→Prop}:W (CH st tst elt []) t P↔P [] t:=AQ rfl
theorem KP {st:D→M Unit} {tst:M Bool} {elt:M D} {d:D} {r:List D} {P:List D→T→Prop}:W (CH st tst elt (d :: r)) t P↔W (st d) t fun _ t1=>W tst t1 fun k t2=>
 if k=true then W elt t2 fun x t3=>W (CH st tst elt r) t3 fun xs t4=>P (x :: xs) t4 else W (CH st tst elt r) t2 P:=by
 rw [CH];simp
theorem DO {st:D→M Unit} {tst:M Bool} {elt:M D} {P:List D→T→Prop} (I:List D→List D→T→Prop):∀(ds:List D) (acc:List D) (t:T),I acc ds t→
 (∀acc d r t,I acc (d :: r) t→d∈ds→W (st d) t fun _ t1=>W tst t1 fun k t2=>if k=true then W elt t2 fun x t3=>I (acc++[x]) r t3 else I acc r t2)→
 (∀acc t,I acc [] t→P acc t)→W (CH st tst elt ds) t fun xs t'=>P (acc++xs) t'
 | [],acc,t,h,_,fin=>W_compL_nil.mpr (by rw [List.append_nil];exact fin acc t h)
 | d :: r,acc,t,h,turn,fin=>by
   rw [KP]
   have turn':∀acc d' r' t',I acc (d' :: r') t'→d'∈r→_:=fun acc d' r' t' h' m=>turn acc d' r' t' h' (List.mem_cons_of_mem _ m)
   refine (turn acc d r t h List.mem_cons_self).mono fun _ t1 h1=>h1.mono fun k t2 h2=>?_
   cases k with
   | true=>
     rw [if_pos rfl] at h2 ⊢
     refine h2.mono fun x t3 h3=>(DO I r (acc++[x]) t3 h3 turn' fin).mono fun xs t4 h4=>?_
     rw [List.append_assoc] at h4
     exact h4
   | false=>
     rw [if_neg Bool.false_ne_true] at h2 ⊢
     exact DO I r acc t2 h2 turn' fin
theorem A4 {n m:Nat} {g:M Out} {ds:List D} {P:D→List Ob→Prop} (h:ds.length=n) (w:W g ⟨env0 m ds,S⟩ fun o t=>match o with
 | .ret r=>P r t.S
 | .next=>P .non t.S
 | _=>False):Wf (fnOf n m g) ds S P:=by
 obtain ⟨o,t,e,p⟩:=w
 cases o with
 | ret r=>exact ⟨r,t.S,by unfold fnOf;rw [if_pos h,e],p⟩
 | next=>exact ⟨.non,t.S,by unfold fnOf;rw [if_pos h,e],p⟩
 | brk=>exact p.elim
 | cont=>exact p.elim
@[simp] theorem W_tTru {P:Bool→T→Prop}:W FX t P↔P true t:=AQ rfl
@[simp] theorem W5 {P:D→T→Prop}:W V5 t P↔P .dic t:=AQ rfl
end F2
namespace F2
open PySem L2
variable {t:T} {P:D→T→Prop}
theorem M5 {α β:Type} {o:Option β} {g:β→α×T} {Q:α→T→Prop} {m:M α} (e:m t=o.map g):W m t Q↔∃b,o=some b∧Q (g b).1 (g b).2:=by
 constructor
 ·rintro ⟨a,t',e',p⟩
  rw [e] at e'
  obtain ⟨b,h1,h2⟩:=Option.map_eq_some_iff.mp e'
  exact ⟨b,h1,by rw [h2];exact p⟩
 ·rintro ⟨b,h,p⟩
  exact ⟨_,_,by rw [e,h];rfl,p⟩
theorem M4 {α:Type} {c:Prop} [Decidable c] {z:α×T} {Q:α→T→Prop} {m:M α} (e:m t=if c then some z else none):W m t Q↔c∧Q z.1 z.2:=by
 constructor
 ·rintro ⟨a,t',e',p⟩
  rw [e] at e'
  split at e'
  ·cases e';exact ⟨by assumption,p⟩
  ·cases e'
 ·rintro ⟨h,p⟩
  exact ⟨_,_,by rw [e,if_pos h],p⟩
theorem KQ {α β:Type} {o:Option β} (f:β→α) {Q:α→T→Prop} {m:M α} (e:m t=o.map fun b=>(f b,t)):W m t Q↔∃b,o=some b∧Q (f b) t:=M5 (g:=fun b=>(f b,t)) e
theorem FB {α:Type} {c:Prop} [Decidable c] {a:α} {Q:α→T→Prop} {m:M α} (e:m t=if c then some (a,t) else none):W m t Q↔c∧Q a t:=M4 (z:=(a,t)) e
@[simp] theorem W_ix_tup {ds:List D} {i:Int}:W (ixD (.tup ds) (.int i)) t P↔∃d,atI ds i=some d∧P d t:=KQ id rfl
@[simp] theorem W_ix_lst {ds:List D} {i:Int}:W (ixD (.lst ds) (.int i)) t P↔∃d,atI ds i=some d∧P d t:=KQ id rfl
@[simp] theorem W_ix_scr {ns:List Int} {i:Int}:W (ixD (.scr ns) (.int i)) t P↔∃n,atI ns i=some n∧P (.int n) t:=KQ D.int rfl
@[simp] theorem W_ix_str {x:Str} {i:Int}:W (ixD (.str x) (.int i)) t P↔x.length≤LIM∧∃n,atI x.cps.toList i=some n∧P (.str ⟨#[n]⟩) t:=by
 by_cases h:x.length≤LIM
 ·have:ixD (.str x) (.int i) t=(atI x.cps.toList i).map fun n=>(.str ⟨#[n]⟩,t):=by simp only [ixD,h,if_true]
  rw [M5 this];simp [h]
 ·rw [F8 (by simp only [ixD,h,if_false])];simp [h]
@[simp] theorem FD {α:Type} {a:α} {r:List α}:atI (a :: r) 0=some a:=by simp [atI,ixN]
@[simp] theorem M8 {α:Type} {a b:α} {r:List α}:atI (a :: b :: r) 1=some b:=by
 have:(1:Int) < ((a :: b :: r).length:Nat):=by simp;lia
 simp only [atI,ixN,this,if_true,show (0:Int)≤1 by decide];rfl
@[simp] theorem M9 {α:Type} {a b c:α} {r:List α}:atI (a :: b :: c :: r) 2=some c:=by
 have:(2:Int) < ((a :: b :: c :: r).length:Nat):=by simp;lia
 simp only [atI,ixN,this,if_true,show (0:Int)≤2 by decide];rfl
theorem Q2 {α:Type} {xs:List α} {i:Int} (h0:0≤i) (h1:i < xs.length):∃d,atI xs i=some d∧d∈xs∧xs[i.toNat]?=some d:=by
 have hl:i.toNat < xs.length:=by lia
 refine ⟨xs[i.toNat],?_,List.getElem_mem hl,List.getElem?_eq_getElem hl⟩
 simp [atI,ixN,h0,h1,hl]
@[simp] theorem W_len_lst {ds:List D}:W (BR [.lst ds]) t P↔P (.int ds.length) t:=AQ rfl
@[simp] theorem W_len_tup {ds:List D}:W (BR [.tup ds]) t P↔P (.int ds.length) t:=AQ rfl
@[simp] theorem W_len_scr {ds:List Int}:W (BR [.scr ds]) t P↔P (.int ds.length) t:=AQ rfl
@[simp] theorem W_len_str {x:Str}:W (BR [.str x]) t P↔x.length≤LIM∧P (.int x.length) t:=by simp [BR]
@[simp] theorem W_isi {d:D} {m:String}:W (Dd [d,.ty m]) t P↔∃n,tyD d=some n∧∃b,Jh n m=some b∧P (.bl b) t:=by
 cases e:tyD d with
 | none=>rw [F8 (by simp only [Dd,e])];simp
 | some n=>
   have:Dd [d,.ty m] t=(Jh n m).map fun b=>(.bl b,t):=by simp only [Dd,e]
   rw [M5 this];simp
def Ii:D→Bool
 | .non=>true
 | _=>false
def Wd (b:Bool):D→Bool
 | .bl c=>c == b
 | _=>false
@[simp] theorem W_is_non {x:D}:W (isC x .non) t P↔P (.bl (Ii x)) t:=AQ (by cases x <;> rfl)
@[simp] theorem W4 {x:D} {b:Bool}:W (isC x (.bl b)) t P↔P (.bl (Wd b x)) t:=AQ (by cases x <;> rfl)
@[simp] theorem W3 {x y:D}:W (Ot x y) t P↔W (isC x y) t fun d t1=>W (toB d) t1 fun b t2=>P (.bl (!b)) t2:=by
 unfold Ot
 rw [W_bnd]
 constructor
 ·exact fun h=>h.mono fun d t1 h1=>by
   cases d with
   | bl b=>simpa using h1
   | _=>exact (W_fail.mp h1).elim
 ·exact fun h=>h.mono fun d t1 h1=>by
   cases d with
   | bl b=>simpa using h1
   | _=>obtain ⟨_,_,e,_⟩:=h1;cases e
@[simp] theorem W_add_int {i j:Int}:W (Bs (.int i) (.int j)) t P↔P (.int (i + j)) t:=AQ rfl
@[simp] theorem W_sub_int {i j:Int}:W (Di (.int i) (.int j)) t P↔P (.int (i - j)) t:=AQ rfl
@[simp] theorem W_lt_int {i j:Int}:W (ltA (.int i) (.int j)) t P↔P (.bl (decide (i < j))) t:=AQ rfl
@[simp] theorem W_le_int {i j:Int}:W (leA (.int i) (.int j)) t P↔P (.bl (decide (i≤j))) t:=AQ rfl
@[simp] theorem W_gt_int {i j:Int}:W (gtA (.int i) (.int j)) t P↔P (.bl (decide (j < i))) t:=AQ rfl
@[simp] theorem VT {i j:Int}:W (geA (.int i) (.int j)) t P↔P (.bl (decide (j≤i))) t:=AQ rfl
@[simp] theorem VY {i j:Str}:W (ltA (.str i) (.str j)) t P↔P (.bl (decide (i.cps.toList < j.cps.toList))) t:=AQ rfl
@[simp] theorem VU {i j:Str}:W (gtA (.str i) (.str j)) t P↔P (.bl (decide (j.cps.toList < i.cps.toList))) t:=AQ rfl
@[simp] theorem W_neg {i:Int}:W (Lw (.int i)) t P↔P (.int (-i)) t:=AQ rfl
@[simp] theorem W_fdiv {i j:Int}:W (FJ (.int i) (.int j)) t P↔(0 < j∧j < 1073741824)∧P (.int (i / j)) t:=by
 rw [M4 (m:=FJ (.int i) (.int j)) (c:=Kp i j=true) (z:=(.int (i / j),t)) rfl];simp [Kp]
@[simp] theorem W_mod {i j:Int}:W (EM (.int i) (.int j)) t P↔0 < j∧P (.int (i % j)) t:=by
 rw [M4 (m:=EM (.int i) (.int j)) (c:=decide (0 < j)=true) (z:=(.int (i % j),t)) rfl];simp
@[simp] theorem W_pow {i j:Int}:W (HB (.int i) (.int j)) t P↔Kv i j=true∧P (.int (i ^ j.toNat)) t:=FB rfl
@[simp] theorem W_mul_int {i j:Int}:W (De (.int i) (.int j)) t P↔FR i j=true∧P (.int (i * j)) t:=FB rfl
@[simp] theorem W_mul_lst {xs:List D} {k:Int}:W (De (.lst xs) (.int k)) t P↔(B1 k=true∧xs.length * k.toNat≤LIM)∧P (.lst (List.replicate k.toNat xs).flatten) t:=FB rfl
@[simp] theorem W_mul_str {x:Str} {k:Int}:W (De (.str x) (.int k)) t P↔(B1 k=true∧x.length * k.toNat≤LIM∧k≤LIM∧x.length≤LIM)∧P (.str (Txt.mul x k)) t:=FB rfl
theorem Fq {i j:Int} (h1 : -18446744073709551616 < i) (h2:i < 18446744073709551616):FR i j=true:=by simp [FR,h1,h2]
theorem CF {k:Int} (h1 : -4611686018427387904≤k) (h2:k < 4611686018427387904):B1 k=true:=by simp [B1,h1,h2]
@[simp] theorem W_add_str {x y:Str}:W (Bs (.str x) (.str y)) t P↔x.length + y.length≤LIM∧P (.str (x++y)) t:=by
 have:Bs (.str x) (.str y)=lim (x.length + y.length) (.str (x++y)):=rfl
 rw [this];simp
@[simp] theorem W_add_lst {x y:List D}:W (Bs (.lst x) (.lst y)) t P↔x.length + y.length≤LIM∧P (.lst (x++y)) t:=by
 have:Bs (.lst x) (.lst y)=lim (x.length + y.length) (.lst (x++y)):=rfl
 rw [this];simp
@[simp] theorem VO {d:D} {x y:List D}:W (Bs (.tup (d :: x)) (.tup y)) t P↔x.length + 1 + y.length≤LIM∧P (.tup (d :: x++y)) t:=by
 have:Bs (.tup (d :: x)) (.tup y) t=if (d :: x).isEmpty=false∧(d :: x).length + y.length≤LIM then some (.tup (d :: x++y),t) else none:=rfl
 rw [M4 this];simp
@[simp] theorem UF {y:List D}:W (Bs (.tup []) (.tup y)) t P↔P (.tup y) t:=AQ rfl
@[simp] theorem W_cat {x y:List D} {Q:List D→T→Prop}:W (Hj (.lst x) (.lst y)) t Q↔x.length + y.length≤LIM∧Q (x++y) t:=by
 have:Hj (.lst x) (.lst y)=lim (x.length + y.length) (x++y):=rfl
 rw [this];simp
@[simp] theorem Xd {i:Int}:W (V2 [.int i]) t P↔P (.int (if i < 0 then -i else i)) t:=AQ rfl
@[simp] theorem W_min {i j:Int}:W (FQ [.int i,.int j]) t P↔P (.int (if j < i then j else i)) t:=AQ rfl
@[simp] theorem Xf {i j:Int}:W (Wg [.int i,.int j]) t P↔P (.int (if j > i then j else i)) t:=AQ rfl
@[simp] theorem VP {i:Int}:W (Jg [.int i]) t P↔P (.int i) t:=AQ rfl
@[simp] theorem W_int_bl {b:Bool}:W (Jg [.bl b]) t P↔P (.int (if b then 1 else 0)) t:=AQ rfl
@[simp] theorem W_ord {x:Str}:W (Jv [.str x]) t P↔x.length=1∧P (.int (x.cps.getD 0 0:Nat)) t:=FB rfl
@[simp] theorem W_tup_lst {ds:List D}:W (LZ [.lst ds]) t P↔P (.tup ds) t:=AQ rfl
@[simp] theorem W_lst_lst {ds:List D} {Q:List D→T→Prop}:W (Ho [.lst ds]) t Q↔Q ds t:=AQ rfl
@[simp] theorem VQ {ds:List D} {Q:List D→T→Prop}:W (Ho [.tup ds]) t Q↔Q ds t:=AQ rfl
@[simp] theorem W_eq_str {g:Bool→Bool} {x y:Str}:W (eqS g (.str x) (.str y)) t P↔P (.bl (g (x == y))) t:=AQ rfl
@[simp] theorem W_eq_int {g:Bool→Bool} {x y:Int}:W (eqS g (.int x) (.int y)) t P↔P (.bl (g (x == y))) t:=AQ rfl
@[simp] theorem W2 {g:Bool→Bool} {x y:Bool}:W (eqS g (.bl x) (.bl y)) t P↔P (.bl (g (x == y))) t:=AQ rfl
@[simp] theorem VS {g:Bool→Bool} {x:List D}:W (eqS g (.lst x) (.lst [])) t P↔P (.bl (g x.isEmpty)) t:=by
 refine AQ ?_
 cases x <;> rfl
theorem Df {a b:String}:Str.ofString a=Str.ofString b↔a=b:=by
 constructor
 ·intro h
  rw [Str.ofString_eq_toList,Str.ofString_eq_toList] at h
  injection h with h
  have h:=congrArg Array.toList h
  simp only at h
  have hinj:∀xs ys:List Char,xs.map Char.toNat=ys.map Char.toNat→xs=ys:=by
   intro xs
   induction xs with
   | nil=>intro ys h;cases ys with | nil=>rfl | cons _ _=>simp at h
   | cons x xs ih=>
     intro ys h
     cases ys with
     | nil=>simp at h
     | cons y ys=>
       simp only [List.map_cons,List.cons.injEq] at h
       rw [ih ys h.2,Char.toNat_inj.mp h.1]
  exact String.toList_inj.mp (hinj _ _ (by simpa using h))
 ·exact fun h=>by rw [h]
@[simp] theorem Tz {a b:String}:(Str.ofString a == Str.ofString b)=(a == b):=by
 rw [Bool.eq_iff_iff,beq_iff_eq,beq_iff_eq,Df]
@[simp] theorem W_sl_lst {ds:List D} {lo hi:Option Int}:W (ES (.lst ds) lo hi) t P↔P (.lst (Ci ds lo hi)) t:=AQ rfl
@[simp] theorem VZ {ds:List Int} {lo hi:Option Int}:W (ES (.scr ds) lo hi) t P↔P (.lst ((Ci ds lo hi).map .int)) t:=AQ rfl
@[simp] theorem V0 {x:Str} {lo hi:Option Int}:W (ES (.str x) lo hi) t P↔x.length≤LIM∧P (.str (Txt.slice x lo hi)) t:=by
 have:ES (.str x) lo hi=lim x.length (.str (Txt.slice x lo hi)):=rfl
 rw [this];simp
@[simp] theorem V1 {ds:List D} {lo hi:Option Int}:W (ES (.tup ds) lo hi) t P↔P (.tup (Ci ds lo hi)) t:=AQ rfl
@[simp] theorem W_fSl {f:M D} {l u:M (Option Int)} {h:D→Option Int→Option Int→M D}:W (fSl f l u h) t P↔W f t fun x t1=>W l t1 fun lo t2=>W u t2 fun hi t3=>W (h x lo hi) t3 P:=by simp [fSl]
@[simp] theorem W_fNo {Q:Option Int→T→Prop}:W fNo t Q↔Q none t:=AQ rfl
@[simp] theorem W_asI {i:Int} {Q:Option Int→T→Prop}:W (asI (.int i)) t Q↔Q (some i) t:=AQ rfl
@[simp] theorem W_fPart {f:M D} {Q:Option Int→T→Prop}:W (FI f) t Q↔W f t fun x t1=>W (asI x) t1 Q:=by simp [FI]
@[simp] theorem W_fItA {f:M D} {Q:List D→T→Prop}:W (FH f) t Q↔W f t fun x t1=>W (DT x) t1 Q:=by simp [FH]
@[simp] theorem W_it_lst {ds:List D} {Q:List D→T→Prop}:W (DT (.lst ds)) t Q↔Q ds t:=AQ rfl
@[simp] theorem VX {ds:List D} {Q:List D→T→Prop}:W (DT (.tup ds)) t Q↔Q ds t:=AQ rfl
@[simp] theorem VW {ds:List Int} {Q:List D→T→Prop}:W (DT (.scr ds)) t Q↔Q (ds.map .int) t:=AQ rfl
@[simp] theorem W_it_str {x:Str} {Q:List D→T→Prop}:W (DT (.str x)) t Q↔Q (x.cps.toList.map fun c=>.str ⟨#[c]⟩) t:=AQ rfl
@[simp] theorem W_fRng1 {f:M (List D)} {Q:List D→T→Prop}:W (CO f) t Q↔W f t fun x t1=>W (JA x) t1 Q:=by simp [CO]
@[simp] theorem W_fRng2 {f:M (List D)} {Q:List D→T→Prop}:W (E5 f) t Q↔W f t fun x t1=>W (JB x) t1 Q:=by simp [E5]
@[simp] theorem W_rng1 {j:Int} {Q:List D→T→Prop}:W (JA [.int j]) t Q↔B1 j=true∧Q (rngL 0 j.toNat) t:=FB rfl
@[simp] theorem W_rng2 {i j:Int} {Q:List D→T→Prop}:W (JB [.int i,.int j]) t Q↔(B1 i && B1 j)=true∧Q (rngL i (j - i).toNat) t:=FB rfl
@[simp] theorem W_ownM {i:Nat} {h:List D→List D→Option (List D)} {g:M (List D)} {Q:Out→T→Prop}:W (ownM i h g) t Q↔(∃xs,t.env[i]?=some (some (.own xs)))∧W g t fun ds t1=>∃xs,t1.env[i]?=some (some (.own xs))∧∃ys,h xs ds=some ys∧Q .next ⟨t1.env.set i (some (.own ys)),t1.S⟩:=by
 constructor
 ·rintro ⟨o,t',e,p⟩
  unfold ownM at e
  split at e
  ·next xs e0=>
   refine ⟨⟨xs,e0⟩,?_⟩
   obtain ⟨ds,t1,e1,e⟩:=Aq e
   refine ⟨ds,t1,e1,?_⟩
   split at e
   ·next ys e2=>
    obtain ⟨zs,e3,e4⟩:=Option.map_eq_some_iff.mp e
    cases e4
    exact ⟨ys,e2,zs,e3,p⟩
   ·cases e
  ·cases e
 ·rintro ⟨⟨xs,e0⟩,ds,t1,e1,ys,e2,zs,e3,p⟩
  exact ⟨_,_,by unfold ownM bnd;simp only [e0,e1,e2,e3,Option.map_some],p⟩
@[simp] theorem app1_one {xs:List D} {d:D} {ys:List D}:Do xs [d]=some ys↔xs.length < LIM∧xs++[d]=ys:=by
 unfold Do;split <;> simp [*]
@[simp] theorem Xg {f g:M D} {d:D} {Q:Unit→T→Prop}:W (stD f g d) t Q↔W f t fun o t1=>W g t1 fun i t2=>W (Uk o i d) t2 Q:=by simp [stD]
end F2
namespace F2
open PySem L2
variable {t:T} {P:D→T→Prop} {Q:List D→T→Prop} {R:Out→T→Prop} {B:Bool→T→Prop} {U:Unit→T→Prop}
def Eo (k:Bool) (A B:Prop):Prop:=if k=true then A else B
theorem Hn {k:Bool} {A B:Prop} (h:k=true) (a:A):Eo k A B:=by unfold Eo;rw [if_pos h];exact a
theorem Ji {k:Bool} {A B:Prop} (h:k=false) (b:B):Eo k A B:=by unfold Eo;rw [if_neg (by rw [h];exact Bool.false_ne_true)];exact b
theorem BZ {k:Bool} {A B:Prop} (a:k=true→A) (b:k=false→B):Eo k A B:=by cases h:k with
 | true=>exact Hn rfl (a h)
 | false=>exact Ji rfl (b h)
def NI (g:M Out) (R:Out→T→Prop) (o:Out) (t1:T):Prop:=match o with
 | .next=>W g t1 R
 | o=>R o t1
theorem Cj {g:M Out} {t1:T} (h:W g t1 R):NI g R .next t1:=h
theorem HJ {g:M Out} {t1:T} {d:D} (h:R (.ret d) t1):NI g R (.ret d) t1:=h
theorem WR {f g:M Out} (h:W f t (NI g R)):W (Aw f g) t R:=W_seqS.mpr (h.mono fun o t1 h1=>by cases o <;> exact h1)
theorem VD (h:R .next t):W Ba t R:=W_skipS.mpr h
theorem WQ {f:M D} (h:W f t fun d t1=>R (.ret d) t1):W (AU f) t R:=W_retS.mpr h
theorem Vp {f:M D} (h:W f t fun d t1=>R .next t1):W (H9 f) t R:=W_dropS.mpr h
theorem wIf {f:M Bool} {g h:M Out} (w:W f t fun k t1=>Eo k (W g t1 R) (W h t1 R)):W (ifS f g h) t R:=W_ifS.mpr w
theorem WS {i:Nat} {f:M D} (h:W f t fun d t1=>R .next ⟨t1.env.set i (some (.val d)),t1.S⟩):W (A8 i f) t R:=W_setS.mpr h
theorem WO {i:Nat} {f:M (List D)} (h:W f t fun d t1=>R .next ⟨t1.env.set i (some (.own d)),t1.S⟩):W (Ep i f) t R:=W_ownS.mpr h
theorem Wv {f:M D} {g:D→M Unit} (h:W f t fun d t1=>W (g d) t1 fun _ t2=>R .next t2):W (En f g) t R:=W_asgS.mpr h
theorem Wz {f:M (List D)} {st:D→M Unit} {b:M Out} (h:W f t fun ds t1=>W (C2 st b ds) t1 R):W (Db f st b) t R:=W_forS.mpr h
theorem wC {d:D} (h:P d t):W (fC d) t P:=W_fC.mpr h
theorem F3 {i:Nat} {d:D} (e:t.env[i]?=some (some (.val d))) (h:P d t):W (Ad i) t P:=by rw [N1,e];exact h
theorem VI {i:Nat} {ds:List D} (e:t.env[i]?=some (some (.own ds))) (h:P (.lst ds) ⟨t.env.set i (some (.val (.lst ds))),t.S⟩):W (Ad i) t P:=by rw [N1,e];exact h
theorem JG {f g:M D} {h:D→D→M D} (w:W f t fun x t1=>W g t1 fun y t2=>W (h x y) t2 P):W (Ah f g h) t P:=W_fBin.mpr w
theorem wUn {f:M D} {h:D→M D} (w:W f t fun x t1=>W (h x) t1 P):W (fUn f h) t P:=W_fUn.mpr w
theorem DX {α β:Type} {f:M α} {g:α→M β} {K:β→T→Prop} (w:W f t fun x t1=>W (g x) t1 K):W (bnd f g) t K:=W_bnd.mpr w
theorem NQ {b:Bool} (h:B b t):W (toB (.bl b)) t B:=W_toB.mpr h
theorem NR {f:M D} (h:W f t fun x t1=>W (toB x) t1 B):W (AR f) t B:=W_fTst.mpr h
theorem Uw {f g w:M D} {h h':D→D→M D} (q:W f t fun x t1=>W g t1 fun y t2=>W (h x y) t2 fun k t3=>W (toB k) t3 fun k t4=>Eo k (W w t4 fun z t5=>W (h' y z) t5 P) (P (.bl false) t4)):W (EI f g w h h') t P:=W_fChain.mpr q
theorem Ws {f g:M Bool} (h:W f t fun k t1=>Eo k (W g t1 B) (B false t1)):W (Lb f g) t B:=W_fAnd.mpr h
theorem wOr {f g:M Bool} (h:W f t fun k t1=>Eo k (B true t1) (W g t1 B)):W (fOr f g) t B:=W_fOr.mpr h
theorem WM {f:M Bool} (h:W f t fun k t1=>B (!k) t1):W (Da f) t B:=W_fNot.mpr h
theorem Vl {f g:M D} (h:W f t fun x t1=>W (toB x) t1 fun k t2=>Eo k (W g t2 P) (P (.bl false) t2)):W (Et f g) t P:=W_fAndV.mpr h
theorem Vv {f:M D} (h:W f t fun x t1=>W (toB x) t1 fun k t2=>P (.bl (!k)) t2):W (Ib f) t P:=W_fNotV.mpr h
theorem WC {f:M Bool} {g h:M D} (w:W f t fun k t1=>Eo k (W g t1 P) (W h t1 P)):W (fIf f g h) t P:=W_fIf.mpr w
theorem L9 (h:Q [] t):W Ai t Q:=W_fNil.mpr h
theorem F1 {f:M D} {g:M (List D)} (h:W f t fun d t1=>W g t1 fun ds t2=>Q (d :: ds) t2):W (Ab f g) t Q:=W_fCons.mpr h
def Gn (n:Nat) (A:Prop):Prop:=n≤LIM∧A
theorem Cg {n:Nat} {A:Prop} (h:n≤LIM) (a:A):Gn n A:=⟨h,a⟩
theorem WW {f:M (List D)} (h:W f t fun ds t1=>Gn ds.length (P (.tup ds) t1)):W (Bo f) t P:=W_fTup.mpr h
theorem WI {f:M (List D)} (h:W f t fun ds t1=>Gn ds.length (Q ds t1)):W (Bf f) t Q:=W_fLst.mpr h
theorem Vz {f:M (List D)} (h:W f t fun ds t1=>P (.lst ds) t1):W (AM f) t P:=W_fPure.mpr h
theorem WN {f:M (List D)} (h:W f t fun ds t1=>P (.obj t1.S.length) ⟨t1.env,t1.S++[.lst ds]⟩):W (IY f) t P:=by rw [Ta];exact h.mono fun ds t1 h=>W_newOb.mpr h
theorem Ky {g:Fn} {f:M (List D)} (h:W f t fun ds t1=>Wf g ds t1.S fun r S'=>P r ⟨t1.env,S'⟩):W (As g f) t P:=W_fCall.mpr h
theorem wB {f:M (List D)} {h:List D→M D} (w:W f t fun ds t1=>W (h ds) t1 P):W (fB f h) t P:=W_fB.mpr w
theorem wBF {f:M (List D)} {h:List D→M (List D)} (w:W f t fun ds t1=>W (h ds) t1 Q):W (fBF f h) t Q:=W_fBF.mpr w
theorem Gz {i:Nat} {d:D} (h:U () ⟨t.env.set i (some (.val d)),t.S⟩):W (BL i d) t U:=W_putV.mpr h
theorem SH (h:U () t):W (EO []) t U:=W_putNil.mpr h
theorem Qp {f:D→M Unit} {g:List D→M Unit} {d:D} {ds:List D} (h:W (f d) t fun _ t1=>W (g ds) t1 U):W (B5 f g (d :: ds)) t U:=W_putCons.mpr h
theorem WY {n:Nat} {g:List D→M Unit} {ds:List D} (e:ds.length=n) (h:W (g ds) t U):W (unS n g (.lst ds)) t U:=W_unS_lst.mpr ⟨e,h⟩
theorem WZ {n:Nat} {g:List D→M Unit} {ds:List D} (e:ds.length=n) (h:W (g ds) t U):W (unS n g (.tup ds)) t U:=W_unS_tup.mpr ⟨e,h⟩
theorem Vo {n:Nat} {fr:List Nat} {f:M (List D)} {st:D→M Unit} {tst:M Bool} {elt:M D} (h:W f t fun ds t1=>W (CH st tst elt ds) ⟨cenv n fr t1.env,t1.S⟩ fun xs t'=>Gn xs.length (Q xs ⟨t1.env,t'.S⟩)):W (DR n fr f st tst elt) t Q:=W_fComp.mpr h
theorem HM (h:B true t):W FX t B:=W_tTru.mpr h
theorem EY {ds:List D} {i:Int} {d:D} (e:atI ds i=some d) (h:P d t):W (ixD (.tup ds) (.int i)) t P:=W_ix_tup.mpr ⟨d,e,h⟩
theorem BB {ds:List D} {i:Int} {d:D} (e:atI ds i=some d) (h:P d t):W (ixD (.lst ds) (.int i)) t P:=W_ix_lst.mpr ⟨d,e,h⟩
theorem QV {ds:List D} (h:P (.int ds.length) t):W (BR [.lst ds]) t P:=W_len_lst.mpr h
theorem QX {ds:List D} (h:P (.int ds.length) t):W (BR [.tup ds]) t P:=W_len_tup.mpr h
theorem Vt {ds:List Int} (h:P (.int ds.length) t):W (BR [.scr ds]) t P:=W_len_scr.mpr h
theorem QW {x:Str} (e:x.length≤LIM) (h:P (.int x.length) t):W (BR [.str x]) t P:=W_len_str.mpr ⟨e,h⟩
theorem Qo {d:D} {m n:String} {b:Bool} (e:tyD d=some n) (e':Jh n m=some b) (h:P (.bl b) t):W (Dd [d,.ty m]) t P:=W_isi.mpr ⟨n,e,b,e',h⟩
theorem WD {x:D} (h:P (.bl (Ii x)) t):W (isC x .non) t P:=W_is_non.mpr h
theorem Vi {i j:Int} (h:P (.int (i + j)) t):W (Bs (.int i) (.int j)) t P:=W_add_int.mpr h
theorem VF {i j:Int} (h:P (.int (i - j)) t):W (Di (.int i) (.int j)) t P:=W_sub_int.mpr h
theorem WJ {i j:Int} (h:P (.bl (decide (i < j))) t):W (ltA (.int i) (.int j)) t P:=W_lt_int.mpr h
theorem WH {i j:Int} (h:P (.bl (decide (i≤j))) t):W (leA (.int i) (.int j)) t P:=W_le_int.mpr h
theorem WA {i j:Int} (h:P (.bl (decide (j < i))) t):W (gtA (.int i) (.int j)) t P:=W_gt_int.mpr h
theorem WL {i:Int} (h:P (.int (-i)) t):W (Lw (.int i)) t P:=W_neg.mpr h
theorem Ux {i j:Int} (h1:0 < j) (h2:j < 1073741824) (h:P (.int (i / j)) t):W (FJ (.int i) (.int j)) t P:=W_fdiv.mpr ⟨⟨h1,h2⟩,h⟩
theorem L8 {i j:Int} (h1:0 < j) (h:P (.int (i % j)) t):W (EM (.int i) (.int j)) t P:=W_mod.mpr ⟨h1,h⟩
theorem WP {i j:Int} (h1:Kv i j=true) (h:P (.int (i ^ j.toNat)) t):W (HB (.int i) (.int j)) t P:=W_pow.mpr ⟨h1,h⟩
theorem IL {i j:Int} (h1:FR i j=true) (h:P (.int (i * j)) t):W (De (.int i) (.int j)) t P:=W_mul_int.mpr ⟨h1,h⟩
theorem QY {xs:List D} {k:Int} (h1:B1 k=true∧xs.length * k.toNat≤LIM) (h:P (.lst (List.replicate k.toNat xs).flatten) t):W (De (.lst xs) (.int k)) t P:=W_mul_lst.mpr ⟨h1,h⟩
theorem QZ {x:Str} {k:Int} (h1:B1 k=true∧x.length * k.toNat≤LIM∧k≤LIM∧x.length≤LIM) (h:P (.str (Txt.mul x k)) t):W (De (.str x) (.int k)) t P:=W_mul_str.mpr ⟨h1,h⟩
theorem Vk {x y:Str} (h:Gn (x.length + y.length) (P (.str (x++y)) t)):W (Bs (.str x) (.str y)) t P:=W_add_str.mpr h
theorem Vj {x y:List D} (h:Gn (x.length + y.length) (P (.lst (x++y)) t)):W (Bs (.lst x) (.lst y)) t P:=W_add_lst.mpr h
theorem Ww {x y:List D} (h:Gn (x.length + y.length) (Q (x++y) t)):W (Hj (.lst x) (.lst y)) t Q:=W_cat.mpr h
theorem WK {i j:Int} (h:P (.int (if j < i then j else i)) t):W (FQ [.int i,.int j]) t P:=W_min.mpr h
theorem Vq {i:Bool} (h:P (.int (if i then 1 else 0)) t):W (Jg [.bl i]) t P:=W_int_bl.mpr h
theorem UA {x:Str} (e:x.length=1) (h:P (.int (x.cps.getD 0 0:Nat)) t):W (Jv [.str x]) t P:=W_ord.mpr ⟨e,h⟩
theorem VG {ds:List D} (h:P (.tup ds) t):W (LZ [.lst ds]) t P:=W_tup_lst.mpr h
theorem Vu {ds:List D} (h:Q ds t):W (Ho [.lst ds]) t Q:=W_lst_lst.mpr h
theorem Qn {g:Bool→Bool} {x y:Str} (h:P (.bl (g (x == y))) t):W (eqS g (.str x) (.str y)) t P:=W_eq_str.mpr h
theorem Uz {g:Bool→Bool} {x y:Int} (h:P (.bl (g (x == y))) t):W (eqS g (.int x) (.int y)) t P:=W_eq_int.mpr h
theorem WU {ds:List D} {lo hi:Option Int} (h:P (.lst (Ci ds lo hi)) t):W (ES (.lst ds) lo hi) t P:=W_sl_lst.mpr h
theorem wSl {f:M D} {l u:M (Option Int)} {h:D→Option Int→Option Int→M D} (w:W f t fun x t1=>W l t1 fun lo t2=>W u t2 fun hi t3=>W (h x lo hi) t3 P):W (fSl f l u h) t P:=W_fSl.mpr w
theorem wNo {K:Option Int→T→Prop} (h:K none t):W fNo t K:=W_fNo.mpr h
theorem Wu {i:Int} {K:Option Int→T→Prop} (h:K (some i) t):W (asI (.int i)) t K:=W_asI.mpr h
theorem Vy {f:M D} {K:Option Int→T→Prop} (h:W f t fun x t1=>W (asI x) t1 K):W (FI f) t K:=W_fPart.mpr h
theorem WE {f:M D} (h:W f t fun x t1=>W (DT x) t1 Q):W (FH f) t Q:=W_fItA.mpr h
theorem WF {ds:List D} (h:Q ds t):W (DT (.lst ds)) t Q:=W_it_lst.mpr h
theorem WG {x:Str} (h:Q (x.cps.toList.map fun c=>.str ⟨#[c]⟩) t):W (DT (.str x)) t Q:=W_it_str.mpr h
theorem VA {f:M (List D)} (h:W f t fun x t1=>W (JA x) t1 Q):W (CO f) t Q:=W_fRng1.mpr h
theorem VB {f:M (List D)} (h:W f t fun x t1=>W (JB x) t1 Q):W (E5 f) t Q:=W_fRng2.mpr h
theorem EZ {j:Int} (e:B1 j=true) (h:Q (rngL 0 j.toNat) t):W (JA [.int j]) t Q:=W_rng1.mpr ⟨e,h⟩
theorem Qq {i j:Int} (e:(B1 i && B1 j)=true) (h:Q (rngL i (j - i).toNat) t):W (JB [.int i,.int j]) t Q:=W_rng2.mpr ⟨e,h⟩
theorem Vx {i:Nat} {xs:List D} {h:List D→List D→Option (List D)} {g:M (List D)} (e:t.env[i]?=some (some (.own xs))) (w:W g t fun ds t1=>∃xs,t1.env[i]?=some (some (.own xs))∧∃ys,h xs ds=some ys∧R .next ⟨t1.env.set i (some (.own ys)),t1.S⟩):W (ownM i h g) t R:=W_ownM.mpr ⟨⟨xs,e⟩,w⟩
theorem Wt {i:Nat} {xs:List D} {d:D} {t1:T} {A:List D→Prop} (e:t1.env[i]?=some (some (.own xs))) (w:Gn (xs.length + 1) (A (xs++[d]))):∃xs,t1.env[i]?=some (some (.own xs))∧∃ys,Do xs [d]=some ys∧A ys:=
 ⟨xs,e,_,app1_one.mpr ⟨w.1,rfl⟩,w.2⟩
end F2
namespace F2
open PySem L2
section
variable {t:T} {P:D→T→Prop} {B:Bool→T→Prop} {Q:List D→T→Prop}
theorem VH {i:Nat} {n:Int} {ds:List D} {d:D} (e:t.env[i]?=some (some (.val (.tup ds)))) (a:atI ds n=some d) (h:P d t):W (Ah (Ad i) (fC (.int n)) ixD) t P:=JG (F3 e (wC (EY a h)))
theorem Vs {i:Nat} {x y:Str} {ds:List D} {g:Bool→Bool} (e:t.env[i]?=some (some (.val (.tup (.str y :: ds))))) (h:B (g (y == x)) t):W (AR (Ah (Ah (Ad i) (fC (.int 0)) ixD) (fC (.str x)) (eqS g))) t B:=NR (JG (JG (F3 e (wC (EY FD (wC (Qn (NQ h))))))))
theorem UC {i:Nat} {x y:Str} {g:Bool→Bool} (e:t.env[i]?=some (some (.val (.str y)))) (h:B (g (y == x)) t):W (AR (Ah (Ad i) (fC (.str x)) (eqS g))) t B:=NR (JG (F3 e (wC (Qn (NQ h)))))
theorem UB {i:Nat} {x y:Int} {g:Bool→Bool} (e:t.env[i]?=some (some (.val (.int y)))) (h:B (g (y == x)) t):W (AR (Ah (Ad i) (fC (.int x)) (eqS g))) t B:=NR (JG (F3 e (wC (Uz (NQ h)))))
theorem SD {g:Fn} {i:Nat} {d:D} (e:t.env[i]?=some (some (.val d))) (h:Wf g [d] t.S fun r S'=>P r ⟨t.env,S'⟩):W (As g (Ab (Ad i) Ai)) t P:=Ky (F1 (F3 e (L9 h)))
theorem SE {g:Fn} {i j:Nat} {d d':D} (e:t.env[i]?=some (some (.val d))) (e':t.env[j]?=some (some (.val d'))) (h:Wf g [d,d'] t.S fun r S'=>P r ⟨t.env,S'⟩):W (As g (Ab (Ad i) (Ab (Ad j) Ai))) t P:=Ky (F1 (F3 e (F1 (F3 e' (L9 h)))))
theorem SG {g:Fn} {i:Nat} {d d':D} (e:t.env[i]?=some (some (.val d))) (h:Wf g [d,d'] t.S fun r S'=>P r ⟨t.env,S'⟩):W (As g (Ab (Ad i) (Ab (fC d') Ai))) t P:=Ky (F1 (F3 e (F1 (wC (L9 h)))))
end
end F2
set_option maxHeartbeats 1000000
namespace LW
open PySem L2 F2
local macro_rules | `(tactic| walk_at "w1")=>`(tactic| first
 | ((with_reducible refine' Vs ?wv ?_);(case wv=>exact rfl)) | ((with_reducible refine' VH ?wv ?wu ?_);(case wv=>exact rfl);(case wu=>first | exact rfl | exact FD | exact M8 | exact M9)) | ((with_reducible refine' UC ?wv ?_);(case wv=>exact rfl)) | ((with_reducible refine' UB ?wv ?_);(case wv=>exact rfl))
 | ((with_reducible refine' SD ?wv ?_);(case wv=>exact rfl)) | ((with_reducible refine' SE ?wv ?wu ?_);(case wv=>exact rfl);(case wu=>exact rfl)) | ((with_reducible refine' SG ?wv ?_);(case wv=>exact rfl)) | ((with_reducible refine' wCallV3 ?wv ?wu ?wt ?_);(case wv=>exact rfl);(case wu=>exact rfl);(case wt=>exact rfl))
 | with_reducible refine WR ?_ | with_reducible refine Cj ?_ | with_reducible refine HJ ?_ | with_reducible refine WS ?_ | with_reducible refine JG ?_ | with_reducible refine wC ?_
 | ((with_reducible refine' F3 ?wv ?_);(case wv=>exact rfl)) | with_reducible refine F1 ?_ | with_reducible refine L9 ?_ | with_reducible refine wIf ?_ | with_reducible refine NR ?_ | with_reducible refine NQ ?_ | with_reducible refine WQ ?_ | with_reducible refine Ky ?_
 | ((with_reducible refine' EY ?wv ?_);(case wv=>first | exact rfl | exact FD | exact M8 | exact M9)) | ((with_reducible refine' BB ?wv ?_);(case wv=>first | exact rfl | exact FD | exact M8 | exact M9)) | with_reducible refine Qn ?_ | with_reducible refine Uz ?_ | with_reducible refine wEqB ?_ | with_reducible refine Vi ?_ | with_reducible refine VF ?_
 | with_reducible refine VD ?_ | with_reducible refine wB ?_ | with_reducible refine wBF ?_ | with_reducible refine Vz ?_ | with_reducible refine WW ?_ | with_reducible refine WI ?_ | ((with_reducible refine Cg ?wv ?_);(case wv=>exact Nat.le_of_ble_eq_true rfl)) | with_reducible refine WN ?_ | with_reducible refine Wv ?_ | with_reducible refine Wz ?_
 | ((with_reducible refine Hn ?wv ?_);(case wv=>exact rfl)) | ((with_reducible refine Ji ?wv ?_);(case wv=>exact rfl)) | with_reducible refine Ws ?_ | with_reducible refine wOr ?_ | with_reducible refine WM ?_ | with_reducible refine Vl ?_ | with_reducible refine wOrV ?_ | with_reducible refine Vv ?_ | with_reducible refine WC ?_ | with_reducible refine Uw ?_
 | ((with_reducible refine' VI ?wv ?_);(case wv=>exact rfl)) | with_reducible refine wUn ?_ | with_reducible refine WL ?_ | with_reducible refine WD ?_ | with_reducible refine wIsB ?_ | with_reducible refine wIsNot ?_
 | with_reducible refine WJ ?_ | with_reducible refine WH ?_ | with_reducible refine WA ?_ | with_reducible refine wGeI ?_ | with_reducible refine wLtS ?_ | with_reducible refine wGtS ?_
 | with_reducible refine QV ?_ | with_reducible refine QX ?_ | with_reducible refine Vt ?_ | ((with_reducible refine' Qo ?wv ?wu ?_);(case wv=>exact rfl);(case wu=>exact rfl))
 | ((with_reducible refine WP ?wv ?_);(case wv=>decide)) | ((with_reducible refine Ux ?wv ?wu ?_);(case wv=>decide);(case wu=>decide)) | ((with_reducible refine L8 ?wv ?_);(case wv=>decide))
 | with_reducible refine wAbs ?_ | with_reducible refine WK ?_ | with_reducible refine wMax ?_ | with_reducible refine wInt ?_ | with_reducible refine Vq ?_ | with_reducible refine VG ?_ | with_reducible refine Vu ?_ | with_reducible refine wLstT ?_
 | with_reducible refine Vk ?_ | with_reducible refine Vj ?_ | with_reducible refine wAddT ?_ | with_reducible refine wAddT0 ?_ | with_reducible refine Ww ?_ | with_reducible refine wEqNil ?_
 | with_reducible refine wSl ?_ | with_reducible refine wNo ?_ | with_reducible refine Vy ?_ | with_reducible refine Wu ?_ | with_reducible refine WU ?_ | with_reducible refine wSlR ?_ | with_reducible refine wSlS ?_ | with_reducible refine wSlT ?_
 | with_reducible refine WE ?_ | with_reducible refine WF ?_ | with_reducible refine wItT ?_ | with_reducible refine wItR ?_ | with_reducible refine WG ?_ | with_reducible refine VA ?_ | with_reducible refine VB ?_ | ((with_reducible refine EZ ?wv ?_);(case wv=>decide)) | ((with_reducible refine Qq ?wv ?_);(case wv=>decide))
 | with_reducible refine Gz ?_ | with_reducible refine SH ?_ | with_reducible refine Qp ?_ | ((with_reducible refine WY ?wv ?_);(case wv=>exact rfl)) | ((with_reducible refine WZ ?wv ?_);(case wv=>exact rfl)) | with_reducible refine Vo ?_ | with_reducible refine HM ?_ | with_reducible refine wDic ?_ | with_reducible refine WO ?_ | with_reducible refine DX ?_ | with_reducible refine Vp ?_
 | ((with_reducible refine' Vx ?wv ?_);(case wv=>exact rfl)) | ((with_reducible refine' Wt ?wv ?_);(case wv=>exact rfl)) | with_reducible refine wStD ?_)
local macro_rules | `(tactic| walk_at "w")=>`(tactic| repeat (walk_at "w1"))
structure DeckAt (k c:Nat) (S:List Ob):Prop where
 ne:k≠c
 at_:∃(cells:List Int) (par pos:Int),S[k]?=some (.lst [.obj c,.int par,.int pos])∧S[c]?=some (.lst (cells.map .int))∧cells≠[]∧0≤pos
def Xk (k c:Nat) (S S':List Ob):Prop:=S'.length=S.length∧∀j:Nat,j≠k→j≠c→S'[j]?=S[j]?
theorem Ca {n:Nat} {i:Int} (h0:0≤i) (h1:i < n):ixN n i=some i.toNat:=by simp [ixN,h0,h1]
theorem GJ {S:List Ob} {k:Nat} {o o':Ob} (h:S[k]?=some o):(S.set k o')[k]?=some o':=by
 obtain ⟨hl,_⟩:=List.getElem?_eq_some_iff.mp h
 exact List.getElem?_set_self hl
inductive Sh where
 | nothing | number (lo hi:Int) | text (m:Int) | list (s:Sh) (m:Int) | pair (s r:Sh) | choice (ss:List Sh)
mutual
def Sh.d:Sh→D
 | .nothing=>.tup [.str "nothing"]
 | .number lo hi=>.tup [.str "number",.int lo,.int hi]
 | .text m=>.tup [.str "text",.int m]
 | .list s m=>.tup [.str "list",s.d,.int m]
 | .pair s r=>.tup [.str "pair",s.d,r.d]
 | .choice ss=>.tup [.str "choice",.tup (shD ss)]
def shD:List Sh→List D
 | []=>[]
 | s :: r=>s.d :: shD r
end
mutual
def Sh.depth:Sh→Nat
 | .nothing=>1
 | .number _ _=>1
 | .text _=>1
 | .list s _=>s.depth + 1
 | .pair s r=>max s.depth r.depth + 1
 | .choice ss=>Ee ss + 1
def Ee:List Sh→Nat
 | []=>0
 | s :: r=>max s.depth (Ee r)
end
theorem CY:∀ss:List Sh,(shD ss).length=ss.length
 | []=>rfl
 | s :: r=>by simp [shD,CY r]
theorem G0:∀(ss:List Sh) (k:Nat),(shD ss)[k]?=(ss[k]?).map Sh.d
 | [],k=>by simp [shD]
 | s :: r,0=>by simp [shD]
 | s :: r,k + 1=>by simp [shD,G0 r k]
theorem DM:∀(ss:List Sh) (k:Nat) (s:Sh),ss[k]?=some s→s.depth≤Ee ss
 | [],k,s,h=>by simp at h
 | s :: r,0,s',h=>by simp at h;subst h;simp [Ee];lia
 | s :: r,k + 1,s',h=>by
   have:=DM r k s' (by simpa using h)
   simp [Ee];lia
theorem Sh.depth_pos (s:Sh):1≤s.depth:=by cases s <;> simp [Sh.depth]
def CT (n:Nat):Bool:=decide (32≤n) && decide (n≤126) && decide (n≠37)
def FO:Str→Bool:=fun o=>o == ("of" : Str)
mutual
def Ax:Sh→D→Bool
 | .nothing,d=>Ii d
 | .number lo hi,d=>match d with
   | .int i=>decide (lo≤i) && decide (i≤hi)
   | _=>false
 | .text m,d=>match d with
   | .str x=>decide ((x.length:Int)≤m) && x.cps.toList.all CT
   | _=>false
 | .list s m,d=>match d with
   | .lst ds=>decide ((ds.length:Int)≤m) && ds.all fun e=>Ax s e
   | _=>false
 | .pair s r,d=>match d with
   | .tup [a,b]=>Ax s a && Ax r b
   | _=>false
 | .choice ss,d=>match d with
   | .tup [.str o,.int k,x]=>FO o && (decide (0≤k) && decide (k < ss.length)) && Id ss k.toNat x
   | _=>false
def Id:List Sh→Nat→D→Bool
 | [],_,_=>false
 | s :: _,0,d=>Ax s d
 | _ :: r,k + 1,d=>Id r k d
end
theorem Cu:∀(ss:List Sh) (k:Nat) (s:Sh) (d:D),ss[k]?=some s→Id ss k d=Ax s d
 | [],k,s,d,h=>by simp at h
 | s :: r,0,s',d,h=>by simp at h;subst h;simp [Id]
 | s :: r,k + 1,s',d,h=>by rw [Id];exact Cu r k s' d (by simpa using h)
mutual
def okD:D→Bool
 | .str x=>decide (x.length≤90000)
 | .tup xs=>oks xs
 | .lst xs=>oks xs
 | .obj _=>false
 | .scr _=>false
 | .exc _ _=>false
 | .ty _=>false
 | _=>true
def oks:List D→Bool
 | []=>true
 | d :: r=>okD d && oks r
end
theorem GP:∀{xs:List D},oks xs=true→∀d∈xs,okD d=true
 | x :: r,h,d,m=>by
   rw [oks,Bool.and_eq_true] at h
   rcases List.mem_cons.mp m with z | z
   ·subst z;exact h.1
   ·exact GP h.2 d z
theorem LC:∀{xs:List D},(∀d∈xs,okD d=true)→oks xs=true
 | [],_=>rfl
 | x :: r,h=>by
   rw [oks,Bool.and_eq_true]
   exact ⟨h x List.mem_cons_self,LC fun d m=>h d (List.mem_cons_of_mem _ m)⟩
abbrev Pure1 (f:Fn) (ds:List D) (r:D):Prop:=∀S,Wf f ds S fun v S'=>v=r∧S'=S
theorem Pure1.use {f:Fn} {ds:List D} {r:D} (h:Pure1 f ds r) {S:List Ob} {P:D→List Ob→Prop} (p:P r S):Wf f ds S P:=(h S).mono fun _ _ ⟨e1,e2⟩=>by subst e1 e2;exact p
def Os:D→Bool
 | .int _=>true
 | _=>false
theorem Lm {d:D} (h:okD d=true):Pure1 (fnOf 1 1 Ec) [d] (.bl (Os d)):=by
 intro S
 refine A4 rfl ?_
 unfold Ec
 cases d <;> first | (simp [okD] at h;done) | (walk_at "w";exact ⟨rfl,rfl⟩)
def ED (lo hi:Int):D→Bool
 | .int i=>decide (lo≤i) && decide (i≤hi)
 | _=>false
def Ms (f:Fn):Prop:=∀d,okD d=true→Pure1 f [d] (.bl (Os d))
def FC (f:Fn):Prop:=∀d lo hi,okD d=true→Pure1 f [d,.int lo,.int hi] (.bl (ED lo hi d))
theorem O5 {c:Fn} (hc:Ms c):FC (fnOf 3 3 (Cz c)):=by
 intro d lo hi h S
 refine A4 rfl ?_
 unfold Cz
 walk_at "w"
 refine (hc d h).use ?_
 cases d with
 | int i=>
   walk_at "w"
   refine BZ (fun e=>?_) fun e=>?_
   ·walk_at "w"
    exact ⟨by simp only [ED,e,Bool.true_and],rfl⟩
   ·exact ⟨by simp only [ED,e,Bool.false_and],rfl⟩
 | _=>walk_at "w";exact ⟨rfl,rfl⟩
def KN (f:Fn):Prop:=∀n:Nat,Pure1 f [.int n] (.bl (CT n))
theorem No:KN (fnOf 1 1 E7):=by
 intro n S
 refine A4 rfl ?_
 unfold E7
 walk_at "w"
 have c1:decide ((32:Int)≤n)=decide (32≤n):=decide_eq_decide.mpr (by lia)
 have c2:decide ((n:Int)≤126)=decide (n≤126):=decide_eq_decide.mpr (by lia)
 have c3:(!((n:Int) == 37))=decide (n≠37):=by
  by_cases h:n=37
  ·subst h;rfl
  ·have:¬((n:Int)=37):=by lia
   simp [h,this]
 rw [c1]
 refine BZ (fun e=>?_) fun e=>?_
 ·walk_at "w"
  rw [c2]
  refine BZ (fun e'=>?_) fun e'=>?_
  ·walk_at "w"
   exact ⟨by simp only [CT,e,e',c3,Bool.true_and],rfl⟩
  ·exact ⟨by simp only [CT,e,e',Bool.false_and,Bool.and_false],rfl⟩
 ·walk_at "w"
  exact ⟨by simp only [CT,e,Bool.false_and],rfl⟩
def KO (f:Fn):Prop:=∀m d,okD d=true→Pure1 f [(Sh.text m).d,d] (.bl (Ax (.text m) d))
theorem Lj {c:Fn} (hc:KN c):KO (fnOf 2 3 (Eb c)):=by
 intro m d h S
 refine A4 rfl ?_
 unfold Eb
 rw [Sh.d]
 cases d with
 | str x=>
   have hx:x.length≤LIM:=Nat.le_trans (by simpa [okD] using h) (show 90000≤LIM by decide)
   walk_at "w"
   refine QW hx ?_
   walk_at "w"
   refine BZ (fun e=>?_) fun e=>?_
   ·walk_at "w"
    have:¬((x.length:Int)≤m):=by have:=of_decide_eq_true e;lia
    exact ⟨by simp [Ax,this],rfl⟩
   ·walk_at "w"
    have e':(x.length:Int)≤m:=by have:=of_decide_eq_false e;lia
    refine Dx (fun r t=>t.S=S∧∃cs:List Nat,r=cs.map (fun c=>D.str ⟨#[c]⟩)∧(x.cps.toList.all CT=cs.all CT)∧∃z,t.env=[some (.val (.tup [.str "text",.int m])),some (.val (.str x)),z]) _ _ ⟨rfl,x.cps.toList,rfl,rfl,_,rfl⟩ ?_ ?_
    ·rintro d r t ⟨hs,cs,hr,hall,z,ht⟩ _
     obtain ⟨env,S2⟩:=t
     subst hs ht
     cases cs with
     | nil=>simp at hr
     | cons c cs=>
       simp only [List.map_cons,List.cons.injEq] at hr
       obtain ⟨rfl,rfl⟩:=hr
       walk_at "w"
       refine UA rfl ?_
       walk_at "w"
       refine (hc c).use ?_
       walk_at "w"
       refine BZ (fun q=>?_) fun q=>?_
       ·walk_at "w"
        have q':CT c=false:=by simpa using q
        refine ⟨?_,rfl⟩
        simp only [Ax,hall,List.all_cons,q',Bool.false_and,Bool.and_false]
       ·walk_at "w"
        have q':CT c=true:=by simpa using q
        exact ⟨rfl,cs,rfl,by rw [hall,List.all_cons,q',Bool.true_and],_,rfl⟩
    ·rintro t ⟨hs,cs,hr,hall,z,ht⟩
     obtain ⟨env,S2⟩:=t
     subst hs ht
     have:cs=[]:=by cases cs with | nil=>rfl | cons _ _=>simp at hr
     subst this
     walk_at "w"
     exact ⟨by simp [Ax,e',hall],rfl⟩
 | obj _=>simp [okD] at h
 | scr _=>simp [okD] at h
 | ty _=>simp [okD] at h
 | exc _ _=>simp [okD] at h
 | _=>walk_at "w";exact ⟨by simp [Ax],rfl⟩
def EE (f:Fn) (n:Nat):Prop:=∀s:Sh,s.depth≤n→∀d,okD d=true→Pure1 f [s.d,d] (.bl (Ax s d))
def NW (f:Fn) (n:Nat):Prop:=∀(s:Sh) (m:Int),s.depth≤n→∀d,okD d=true→Pure1 f [(Sh.list s m).d,d] (.bl (Ax (.list s m) d))
theorem Lh {c:Fn} {n:Nat} (hc:EE c n):NW (fnOf 2 3 (D9 c)) n:=by
 intro s m hs d h S
 refine A4 rfl ?_
 unfold D9
 rw [Sh.d]
 cases d with
 | lst ds=>
   have hx:∀d∈ds,okD d=true:=GP (by simpa [okD] using h)
   walk_at "w"
   refine BZ (fun e=>?_) fun e=>?_
   ·walk_at "w"
    have:¬((ds.length:Int)≤m):=by have:=of_decide_eq_true e;lia
    exact ⟨by simp [Ax,this],rfl⟩
   ·walk_at "w"
    have e':(ds.length:Int)≤m:=by have:=of_decide_eq_false e;lia
    refine Dx (fun r t=>t.S=S∧(ds.all (fun e=>Ax s e)=r.all fun e=>Ax s e)∧∃z,t.env=[some (.val (.tup [.str "list",s.d,.int m])),some (.val (.lst ds)),z]) _ _ ⟨rfl,rfl,_,rfl⟩ ?_ ?_
    ·rintro d r t ⟨hS,hall,z,ht⟩ hm
     obtain ⟨env,S2⟩:=t
     subst hS ht
     walk_at "w"
     refine (hc s hs d (hx d hm)).use ?_
     walk_at "w"
     refine BZ (fun q=>?_) fun q=>?_
     ·walk_at "w"
      have q':Ax s d=false:=by simpa using q
      refine ⟨?_,rfl⟩
      simp only [Ax,hall,List.all_cons,q',Bool.false_and,Bool.and_false]
     ·walk_at "w"
      have q':Ax s d=true:=by simpa using q
      exact ⟨rfl,by rw [hall,List.all_cons,q',Bool.true_and],_,rfl⟩
    ·rintro t ⟨hS,hall,z,ht⟩
     obtain ⟨env,S2⟩:=t
     subst hS ht
     walk_at "w"
     exact ⟨by simp only [Ax,e',decide_true,hall,List.all_nil,Bool.true_and],rfl⟩
 | obj _=>simp [okD] at h
 | scr _=>simp [okD] at h
 | ty _=>simp [okD] at h
 | exc _ _=>simp [okD] at h
 | _=>walk_at "w";exact ⟨by simp [Ax],rfl⟩
def N0 (f:Fn) (n:Nat):Prop:=∀(s r:Sh),s.depth≤n→r.depth≤n→∀d,okD d=true→Pure1 f [(Sh.pair s r).d,d] (.bl (Ax (.pair s r) d))
theorem Li {c:Fn} {n:Nat} (hc:EE c n):N0 (fnOf 2 2 (Ea c)) n:=by
 intro s r hs hr d h S
 refine A4 rfl ?_
 unfold Ea
 rw [Sh.d]
 cases d with
 | tup ds=>
   have hx:∀d∈ds,okD d=true:=GP (by simpa [okD] using h)
   walk_at "w"
   match ds,hx with
   | [],_=>walk_at "w";exact ⟨by simp [Ax],rfl⟩
   | [a],_=>walk_at "w";exact ⟨by simp [Ax],rfl⟩
   | [a,b],hx=>
     walk_at "w"
     refine (hc s hs a (hx a (by simp))).use ?_
     walk_at "w"
     refine BZ (fun e=>?_) fun e=>?_
     ·walk_at "w"
      refine (hc r hr b (hx b (by simp))).use ?_
      exact ⟨by simp only [Ax,e,Bool.true_and],rfl⟩
     ·exact ⟨by simp only [Ax,e,Bool.false_and],rfl⟩
   | a :: b :: e :: l,_=>
     refine Hn ?_ ?_
     ·show (!(((a :: b :: e :: l).length:Int) == 2))=true
      simp;lia
     walk_at "w"
     exact ⟨by simp [Ax],rfl⟩
 | obj _=>simp [okD] at h
 | scr _=>simp [okD] at h
 | ty _=>simp [okD] at h
 | exc _ _=>simp [okD] at h
 | _=>walk_at "w";exact ⟨by simp [Ax],rfl⟩
def KB (f:Fn) (n:Nat):Prop:=∀(ss:List Sh),Ee ss≤n→∀d,okD d=true→Pure1 f [(Sh.choice ss).d,d] (.bl (Ax (.choice ss) d))
theorem Jb {c c':Fn} {n:Nat} (hc:EE c n) (hw:FC c'):KB (fnOf 2 2 (Dy c c')) n:=by
 intro ss hs d h S
 refine A4 rfl ?_
 unfold Dy
 rw [Sh.d]
 cases d with
 | tup ds=>
   have hx:∀d∈ds,okD d=true:=GP (by simpa [okD] using h)
   walk_at "w"
   match ds,hx with
   | [],_=>walk_at "w";exact ⟨by simp [Ax],rfl⟩
   | [a],_=>walk_at "w";exact ⟨by simp [Ax],rfl⟩
   | [a,b],_=>walk_at "w";exact ⟨by simp [Ax],rfl⟩
   | [a,b,e],hx=>
     walk_at "w"
     have ha:=hx a (by simp)
     cases a with
     | str o=>
       walk_at "w"
       refine BZ (fun q=>?_) fun q=>?_
       ·walk_at "w"
        have q':FO o=false:=by simpa [FO] using q
        refine ⟨?_,rfl⟩
        cases b <;> simp only [Ax,q',Bool.false_and]
       ·walk_at "w"
        have q':FO o=true:=by simpa [FO] using q
        refine (hw b 0 _ (hx b (by simp))).use ?_
        walk_at "w"
        cases b with
        | int k=>
          refine BZ (fun q=>?_) fun q=>?_
          ·walk_at "w"
           refine ⟨?_,rfl⟩
           have:(decide (0≤k) && decide (k < (ss.length:Int)))=false:=by
            have q2:k < 0∨((shD ss).length:Int) - 1 < k:=by simpa [ED] using q
            rw [CY] at q2
            simp;lia
           simp only [Ax,this,Bool.false_and,Bool.and_false]
          ·have q2:0≤k∧k≤((shD ss).length:Int) - 1:=by simpa [ED] using q
           have q3:=q2
           rw [CY] at q3
           have hk:k.toNat < ss.length:=by lia
           have e1:ss[k.toNat]?=some ss[k.toNat]:=List.getElem?_eq_getElem hk
           have e2:atI (shD ss) k=some (ss[k.toNat]).d:=by
            unfold atI
            rw [CY,Ca q3.1 (by lia)]
            simp [G0,e1]
           walk_at "w"
           refine EY e2 ?_
           walk_at "w"
           refine (hc _ (Nat.le_trans (DM ss _ _ e1) hs) e (hx e (by simp))).use ?_
           refine ⟨?_,rfl⟩
           have:(decide (0≤k) && decide (k < (ss.length:Int)))=true:=by simp;lia
           simp only [Ax,q',this,Bool.true_and,Cu ss _ _ e e1]
        | _=>
          walk_at "w"
          exact ⟨by simp [Ax],rfl⟩
     | obj _=>simp [okD] at ha
     | scr _=>simp [okD] at ha
     | ty _=>simp [okD] at ha
     | exc _ _=>simp [okD] at ha
     | _=>walk_at "w";exact ⟨by simp [Ax],rfl⟩
   | a :: b :: e :: f :: l,_=>
     refine Hn ?_ ?_
     ·show (!(((a :: b :: e :: f :: l).length:Int) == 3))=true
      simp;lia
     walk_at "w"
     exact ⟨by simp [Ax],rfl⟩
 | obj _=>simp [okD] at h
 | scr _=>simp [okD] at h
 | ty _=>simp [okD] at h
 | exc _ _=>simp [okD] at h
 | _=>walk_at "w";exact ⟨by simp [Ax],rfl⟩
theorem Rm {cc cp cl ct cw:Fn} {n:Nat} (h1:KB cc n) (h2:N0 cp n) (h3:NW cl n) (h4:KO ct) (h5:FC cw):EE (fnOf 2 3 (Ik cc cp cl ct cw)) (n + 1):=by
 intro s hs d h S
 refine A4 rfl ?_
 unfold Ik
 cases s with
 | nothing=>
   rw [Sh.d]
   walk_at "w"
   exact ⟨by rw [Ax],rfl⟩
 | number lo hi=>
   rw [Sh.d]
   walk_at "w"
   refine (h5 d lo hi h).use ⟨?_,rfl⟩
   cases d <;> simp [Ax,ED]
 | text m=>
   rw [Sh.d]
   walk_at "w"
   exact (h4 m d h).use ⟨rfl,rfl⟩
 | list s m=>
   rw [Sh.depth] at hs
   have q:=h3 s m (by lia) d h
   rw [Sh.d] at q ⊢
   walk_at "w"
   exact q.use ⟨rfl,rfl⟩
 | pair s r=>
   rw [Sh.depth] at hs
   have q:=h2 s r (by lia) (by lia) d h
   rw [Sh.d] at q ⊢
   walk_at "w"
   exact q.use ⟨rfl,rfl⟩
 | choice ss=>
   rw [Sh.depth] at hs
   have q:=h1 ss (by lia) d h
   rw [Sh.d] at q ⊢
   walk_at "w"
   exact q.use ⟨rfl,rfl⟩
theorem JS (x:Array Nat):∀(n:Nat) (acc:Array Nat),((List.replicate n x).foldl (·++·) acc).toList=acc.toList++(List.replicate n x.toList).flatten
 | 0,acc=>by simp
 | n + 1,acc=>by
   rw [List.replicate_succ,List.foldl_cons,JS x n,List.replicate_succ,List.flatten_cons]
   simp
theorem OB {x:Str} {k:Int}:(Txt.mul x k).cps.toList=(List.replicate k.toNat x.cps.toList).flatten:=by
 unfold Txt.mul
 split
 ·have:k.toNat=0:=by lia
  rw [this];rfl
 ·split
  ·next h=>
   rw [Bool.or_eq_true] at h
   rcases h with h | h
   ·have:k=1:=by simpa using h
    subst this;simp
   ·have:x.cps.toList=[]:=by
     have h':x.length=0:=by simpa using h
     exact List.eq_nil_of_length_eq_zero (by simpa [Str.length] using h')
    rw [this];simp
  ·have:=JS x.cps k.toNat #[]
   simpa using this
theorem DK (x:Str):x.length=x.cps.toList.length:=by simp [Str.length]
theorem E2 (x y:Str):(x++y).cps.toList=x.cps.toList++y.cps.toList:=by
 show (x.cps++y.cps).toList=_
 simp
theorem Sk {α:Type} (a:α) (k:Nat):(List.replicate k [a]).flatten=List.replicate k a:=by
 induction k with
 | zero=>rfl
 | succ k ih=>rw [List.replicate_succ,List.flatten_cons,ih,List.replicate_succ];rfl
theorem JH {f:D→D} {fr:List (Option Sl)} {S:List Ob} {elt:M D} {ds:List D} {z:Option Sl} (h:∀d∈ds,W elt ⟨some (.val d) :: fr,S⟩ fun x t'=>x=f d∧t'=⟨some (.val d) :: fr,S⟩) :
 W (CH (BL 0) FX elt ds) ⟨z :: fr,S⟩ fun xs t'=>xs=ds.map f∧t'.S=S:=by
 refine (DO (P:=fun xs t'=>xs=ds.map f∧t'.S=S) (fun acc r t=>acc++r.map f=ds.map f∧∃z,t=⟨z :: fr,S⟩) ds [] _ ⟨rfl,z,rfl⟩ ?_ ?_).mono fun xs t' h=>h
 ·rintro acc d r t ⟨h1,z,rfl⟩ hm
  refine Gz (HM ?_)
  rw [if_pos rfl]
  refine (h d hm).mono fun x t' ⟨e1,e2⟩=>?_
  subst e1 e2
  exact ⟨by rw [List.append_assoc];exact h1,_,rfl⟩
 ·rintro acc t ⟨h1,z,rfl⟩
  exact ⟨by simpa using h1,rfl⟩
mutual
def sz:D→Nat
 | .tup xs=>szs xs + 1
 | .lst xs=>szs xs + 1
 | _=>1
def szs:List D→Nat
 | []=>0
 | d :: r=>sz d + szs r
end
mutual
def wf:Sh→Bool
 | .nothing=>true
 | .number lo hi=>decide (-1000000000000000000 < lo) && decide (lo≤hi) && decide (hi < 1000000000000000000)
 | .text m=>decide (0≤m) && decide (m≤250)
 | .list s m=>decide (0≤m) && decide (m≤250) && wf s
 | .pair s r=>wf s && wf r
 | .choice ss=>decide (1≤ss.length) && decide (ss.length≤9) && wfs ss
def wfs:List Sh→Bool
 | []=>true
 | s :: r=>wf s && wfs r
end
mutual
def cnt:Sh→Nat
 | .list s _=>cnt s + 1
 | .pair s r=>cnt s + cnt r + 1
 | .choice ss=>Te ss + 1
 | _=>1
def Te:List Sh→Nat
 | []=>0
 | s :: r=>cnt s + Te r
end
theorem D2:∀{ss:List Sh},wfs ss=true→∀s∈ss,wf s=true
 | x :: r,h,s,m=>by
   rw [wfs,Bool.and_eq_true] at h
   rcases List.mem_cons.mp m with z | z
   ·subst z;exact h.1
   ·exact D2 h.2 s z
theorem O3:∀{ss:List Sh},(∀s∈ss,wf s=true)→wfs ss=true
 | [],_=>rfl
 | x :: r,h=>by rw [wfs,h x List.mem_cons_self,O3 fun s m=>h s (List.mem_cons_of_mem _ m)];rfl
theorem LT:∀ss:List Sh,shD ss=ss.map Sh.d
 | []=>rfl
 | s :: r=>by rw [shD,LT r];rfl
theorem JY:∀{ss:List Sh} {s:Sh},s∈ss→s.depth≤Ee ss
 | x :: r,s,m=>by
   rw [Ee]
   rcases List.mem_cons.mp m with z | z
   ·subst z;lia
   ·have:=JY z;lia
theorem C3 {xs:List D} {i:Int} (h0:0≤i) (h1:i < xs.length) {p:D→Prop} (h:∀d∈xs,p d):∃d,atI xs i=some d∧p d:=by
 obtain ⟨d,e,m,_⟩:=Q2 h0 h1
 exact ⟨d,e,h d m⟩
def Qw (k c l:Nat) (S S':List Ob):Prop:=S'.length=S.length∧∀j:Nat,j≠k→j≠c→j≠l→S'[j]?=S[j]?
def NK (deep:Int):Int:=if deep < 2 then 0 else 2 * deep + 4
def bd (deep x:Int):Int:=if deep < 2 then 1 else max x 1 + NK deep - (if deep + 1≤x then 1 else 0)
def tb (deep y i:Int):Int:=if deep=2 then i else if i=0 then 0 else y + NK (deep - 1) + i - 1 - (if deep≤y then 1 else 0)
structure ShapeRes (k c l:Nat) (S:List Ob) (deep x:Int) (s:Sh) (S':List Ob):Prop where
 w:wf s=true
 dep:(s.depth:Int)≤max deep 1
 lft:S'[l]?=some (.lst [.int (x - cnt s)])
 one:x≤1→cnt s=1
 few:(cnt s:Int)≤max x 1 + NK deep
 deck:DeckAt k c S'
 kp:Qw k c l S S'
 few2:(cnt s:Int)≤bd deep x
theorem Pl {xs:List D} {k:Int} (h0:0≤k) (h1:k≤xs.length):Ci xs none (some k)=xs.take k.toNat:=by
 have:HT.sIx xs.length xs.length (some k)=k.toNat:=by simp only [HT.sIx];rw [if_neg (by lia)];lia
 unfold Ci
 rw [this]
 simp [HT.sIx]
theorem Pk {xs:List D} {k:Int} (h0:0≤k) (h1:k≤xs.length):Ci xs (some k) none=xs.drop k.toNat:=by
 have:HT.sIx xs.length 0 (some k)=k.toNat:=by simp only [HT.sIx];rw [if_neg (by lia)];lia
 unfold Ci
 rw [this]
 simp only [HT.sIx]
 rw [List.take_of_length_le (by simp)]
theorem PR {n:Nat} {k:Int}:(Txt.mul ⟨#[n]⟩ k).cps.toList=List.replicate k.toNat n:=by rw [OB];exact Sk n k.toNat
theorem Ln {n:Nat} {k:Int}:(Txt.mul ⟨#[n]⟩ k).length=k.toNat:=by rw [DK,PR,List.length_replicate]
structure Sep (ks:List (Nat×Nat)):Prop where
 sep:∀p∈ks,∀q∈ks,p=q∨(q.1≠p.1∧q.1≠p.2∧q.2≠p.1∧q.2≠p.2)
mutual
def dpt:D→Nat
 | .lst ds=>EH ds + 1
 | .tup ds=>EH ds + 1
 | _=>1
def EH:List D→Nat
 | []=>0
 | d :: r=>max (dpt d) (EH r)
end
theorem MA:∀{ds:List D} {n:Nat},(∀d∈ds,dpt d≤n)→EH ds≤n
 | [],n,_=>by simp [EH]
 | x :: r,n,h=>by
   rw [EH]
   have h1:=h x List.mem_cons_self
   have h2:=MA fun d m=>h d (List.mem_cons_of_mem _ m)
   lia
theorem Mz (d:D):0 < dpt d:=by cases d <;> simp [dpt]
mutual
def smD:D→Bool
 | .str x=>decide (x.length≤300)
 | .int i=>decide (-1000000000000000000000000 < i) && decide (i < 1000000000000000000000000)
 | .tup xs=>decide (xs.length≤300) && sms xs
 | .lst xs=>decide (xs.length≤300) && sms xs
 | .obj _=>false
 | .scr _=>false
 | .ty _=>false
 | .exc _ _=>false
 | _=>true
def sms:List D→Bool
 | []=>true
 | d :: r=>smD d && sms r
end
theorem OV:∀{xs:List D},(∀d∈xs,smD d=true)→sms xs=true
 | [],_=>rfl
 | x :: r,h=>by
   rw [sms,Bool.and_eq_true]
   exact ⟨h x List.mem_cons_self,OV fun d m=>h d (List.mem_cons_of_mem _ m)⟩
mutual
theorem QR:∀{d:D},smD d=true→okD d=true
 | .str x,h=>by rw [smD,decide_eq_true_eq] at h;rw [okD,decide_eq_true_eq];lia
 | .tup xs,h=>by rw [smD,Bool.and_eq_true] at h;rw [okD];exact LV h.2
 | .lst xs,h=>by rw [smD,Bool.and_eq_true] at h;rw [okD];exact LV h.2
 | .obj _,h=>by simp [smD] at h
 | .scr _,h=>by simp [smD] at h
 | .ty _,h=>by simp [smD] at h
 | .non,_=>by simp [okD]
 | .bl _,_=>by simp [okD]
 | .int _,_=>by simp [okD]
 | .dic,_=>by simp [okD]
theorem LV:∀{xs:List D},sms xs=true→oks xs=true
 | [],_=>by simp [oks]
 | d :: r,h=>by rw [sms,Bool.and_eq_true] at h;rw [oks,Bool.and_eq_true];exact ⟨QR h.1,LV h.2⟩
end
theorem C8 {f:D→D→Option Bool}:∀{xs:List D},(∀d∈xs,f d d=some true)→C1 f xs xs=some true
 | [],_=>rfl
 | x :: r,h=>by
   rw [C1,h x List.mem_cons_self,C8 fun d m=>h d (List.mem_cons_of_mem _ m)]
   rfl
theorem C9:∀(n:Nat) (d:D),dpt d≤n→smD d=true→d≠.dic→(∀xs,d = .lst xs∨d = .tup xs→∀x∈xs,eqN (n - 1) x x=some true)→eqN n d d=some true
 | 0,d,hd,_,_,_=>absurd hd (by have:=Mz d;lia)
 | n + 1,.lst xs,_,_,_,h=>by
   rw [eqN,if_pos rfl]
   exact C8 (h xs (.inl rfl))
 | n + 1,.tup xs,_,_,_,h=>by
   have e:C1 (eqN n) xs xs=some true:=C8 (h xs (.inr rfl))
   rw [eqN,e]
   simp
 | n + 1,.non,_,_,_,_=>rfl
 | n + 1,.bl b,_,_,_,_=>by show some (b == b)=some true;rw [beq_self_eq_true]
 | n + 1,.int b,_,_,_,_=>by show some (b == b)=some true;rw [beq_self_eq_true]
 | n + 1,.str b,_,_,_,_=>by show some (b == b)=some true;rw [beq_self_eq_true]
 | n + 1,.dic,_,_,h,_=>absurd rfl h
 | n + 1,.obj _,_,h,_,_=>by simp [smD] at h
 | n + 1,.scr _,_,h,_,_=>by simp [smD] at h
 | n + 1,.ty _,_,h,_,_=>by simp [smD] at h
theorem Fk:∀(n:Nat) (s:Sh),s.depth≤n→wf s=true→∀d,Ax s d=true→smD d=true∧dpt d≤s.depth∧∀m,s.depth≤m→eqN m d d=some true
 | 0,s,h,_,_,_=>absurd s.depth_pos (by lia)
 | n + 1,s,hs,hw,d,hf=>by
   have l2:(Str.ofString "of").length≤300:=by decide +kernel
   cases s with
   | nothing=>
     cases d <;> simp [Ax,Ii] at hf
     refine ⟨rfl,by simp [dpt,Sh.depth],fun m hm=>?_⟩
     have:=(Sh.nothing).depth_pos
     obtain ⟨m,rfl⟩:∃k,m=k + 1:=⟨m - 1,by lia⟩
     exact C9 _ _ (by simp [dpt]) rfl (by simp) (by simp)
   | number lo hi=>
     simp only [wf,Bool.and_eq_true,decide_eq_true_eq] at hw
     cases d <;> simp [Ax] at hf
     rename_i i
     have sm:smD (.int i)=true:=by
      simp only [smD,Bool.and_eq_true,decide_eq_true_eq]
      lia
     refine ⟨sm,by simp [dpt,Sh.depth],fun m hm=>?_⟩
     rw [Sh.depth] at hm
     obtain ⟨m,rfl⟩:∃k,m=k + 1:=⟨m - 1,by lia⟩
     exact C9 _ _ (by simp [dpt]) sm (by simp) (by simp)
   | text q=>
     simp only [wf,Bool.and_eq_true,decide_eq_true_eq] at hw
     cases d <;> simp [Ax] at hf
     rename_i x
     have sm:smD (.str x)=true:=by
      simp only [smD,decide_eq_true_eq]
      lia
     refine ⟨sm,by simp [dpt,Sh.depth],fun m hm=>?_⟩
     rw [Sh.depth] at hm
     obtain ⟨m,rfl⟩:∃k,m=k + 1:=⟨m - 1,by lia⟩
     exact C9 _ _ (by simp [dpt]) sm (by simp) (by simp)
   | list s q=>
     simp only [wf,Bool.and_eq_true,decide_eq_true_eq] at hw
     rw [Sh.depth] at hs
     cases d <;> simp only [Ax,Bool.false_eq_true] at hf
     rename_i ds
     rw [Bool.and_eq_true,decide_eq_true_eq,List.all_eq_true] at hf
     have ih:=fun d m=>Fk n s (by lia) hw.2 d (hf.2 d m)
     have sm:smD (.lst ds)=true:=by
      rw [smD,Bool.and_eq_true,decide_eq_true_eq]
      exact ⟨by lia,OV fun d m=>(ih d m).1⟩
     have dd:EH ds≤s.depth:=MA fun d m=>(ih d m).2.1
     refine ⟨sm,by rw [dpt,Sh.depth];lia,fun m hm=>?_⟩
     rw [Sh.depth] at hm
     obtain ⟨m,rfl⟩:∃k,m=k + 1:=⟨m - 1,by lia⟩
     refine C9 _ _ (by rw [dpt];lia) sm (by simp) fun xs e x hx=>?_
     rcases e with e | e
     ·cases e;exact (ih x hx).2.2 m (by lia)
     ·cases e
   | pair s r=>
     simp only [wf,Bool.and_eq_true] at hw
     rw [Sh.depth] at hs
     match d,hf with
     | .tup [a,b],hf=>
       simp only [Ax,Bool.and_eq_true] at hf
       have i1:=Fk n s (by lia) hw.1 a hf.1
       have i2:=Fk n r (by lia) hw.2 b hf.2
       have sm:smD (.tup [a,b])=true:=by simp [smD,sms,i1.1,i2.1]
       have h1:=i1.2.1
       have h2:=i2.2.1
       refine ⟨sm,by simp only [dpt,EH,Sh.depth];lia,fun m hm=>?_⟩
       rw [Sh.depth] at hm
       obtain ⟨m,rfl⟩:∃k,m=k + 1:=⟨m - 1,by lia⟩
       refine C9 _ _ (by simp only [dpt,EH];lia) sm (by simp) fun xs e x hx=>?_
       rcases e with e | e
       ·cases e
       ·cases e
        simp only [List.mem_cons,List.not_mem_nil,or_false] at hx
        rcases hx with rfl | rfl
        ·exact i1.2.2 m (by lia)
        ·exact i2.2.2 m (by lia)
   | choice ss=>
     simp only [wf,Bool.and_eq_true,decide_eq_true_eq] at hw
     rw [Sh.depth] at hs
     match d,hf with
     | .tup [.str o,.int k,x],hf=>
       simp only [Ax,Bool.and_eq_true,decide_eq_true_eq] at hf
       obtain ⟨⟨ho,k0,k1⟩,hf⟩:=hf
       have hk:k.toNat < ss.length:=by lia
       have e1:ss[k.toNat]?=some ss[k.toNat]:=List.getElem?_eq_getElem hk
       rw [Cu ss _ _ _ e1] at hf
       have hd:=DM ss _ _ e1
       have ih:=Fk n _ (by lia) (D2 hw.2 _ (List.getElem_mem hk)) x hf
       have ho':o.length≤300:=by
        have:o=("of" : Str):=by simpa [FO] using ho
        subst this;exact l2
       have sm:smD (.tup [.str o,.int k,x])=true:=by
        simp only [smD,sms,ih.1,Bool.and_true,Bool.and_eq_true,decide_eq_true_eq,List.length_cons,List.length_nil]
        lia
       have h1:=ih.2.1
       have h2:=Mz x
       have p1:=(ss[k.toNat]).depth_pos
       refine ⟨sm,by simp only [dpt,EH,Sh.depth];lia,fun m hm=>?_⟩
       rw [Sh.depth] at hm
       obtain ⟨m,rfl⟩:∃k,m=k + 1:=⟨m - 1,by lia⟩
       refine C9 _ _ (by simp only [dpt,EH];lia) sm (by simp) fun xs e y hy=>?_
       rcases e with e | e
       ·cases e
       ·cases e
        obtain ⟨m',rfl⟩:∃k,m=k + 1:=⟨m - 1,by lia⟩
        simp only [List.mem_cons,List.not_mem_nil,or_false] at hy
        rcases hy with rfl | rfl | rfl
        ·exact C9 _ _ (by simp [dpt]) (by simp [smD,ho']) (by simp) (by simp)
        ·exact C9 _ _ (by simp [dpt]) (by simp only [smD,Bool.and_eq_true,decide_eq_true_eq];lia) (by simp) (by simp)
        ·exact ih.2.2 _ (by lia)
theorem M0 {d:D} {g:Bool→Bool} {t:T} {P:D→T→Prop} (h0:Pz d=false) (h:eqN EQD d d=some true) (p:P (.bl (g true)) t):W (eqS g d d) t P:=⟨_,_,by simp [eqS,h0,h],p⟩
theorem QU {f:M D} {g:M (List D)} {t:T} {P:D→T→Prop} (h:W f t fun o t1=>W g t1 fun as t2=>∃z ds ys,o = .str z∧as=[.lst ds]∧EV ds=some ys∧(z.length≤8∧ys.length≤1048576)∧P (.str (Txt.join z ys)) t2):W (joinM f g) t P:=by
 refine DX (h.mono fun o t1 h1=>DX (h1.mono fun as t2 h2=>?_))
 obtain ⟨z,ds,ys,rfl,rfl,e,hl,p⟩:=h2
 refine ⟨_,_,?_,p⟩
 simp only [e]
 rw [if_pos hl]
theorem EW:∀ns:List Nat,EV (ns.map fun n=>D.str ⟨#[n]⟩)=some (ns.map fun n=>(⟨#[n]⟩:Str))
 | []=>rfl
 | n :: r=>by
   rw [List.map_cons,EV,if_pos (Nat.le_of_ble_eq_true rfl),EW r]
   rfl
theorem Ig:∀(ns:List Nat) (acc:Array Nat),((ns.map fun n=>(⟨#[n]⟩:Str)).foldl (fun acc p=>acc++(Str.ofString "").cps++p.cps) acc).toList=acc.toList++ns
 | [],acc=>by simp
 | n :: r,acc=>by
   have e:(Str.ofString "").cps=#[]:=by decide +kernel
   rw [List.map_cons,List.foldl_cons,Ig r,e]
   simp
theorem Ew (ns:List Nat):(Txt.join (Str.ofString "") (ns.map fun n=>(⟨#[n]⟩:Str))).cps.toList=ns:=by
 show (List.foldl (fun (acc:Array Nat) (p:Str)=>acc++(Str.ofString "").cps++p.cps) (((ns.map fun n=>(⟨#[n]⟩:Str)).headD Str.empty).cps) ((ns.map fun n=>(⟨#[n]⟩:Str)).drop 1)).toList=ns
 cases ns with
 | nil=>rfl
 | cons n r=>
   rw [List.map_cons,List.drop_one,List.tail_cons,Ig]
   rfl
structure ValueRes (k c l:Nat) (S:List Ob) (s:Sh) (r:D) (S':List Ob):Prop where
 fit:Ax s r=true
 lft:∃a b:Int,S'[l]?=some (.lst [.int a,.int b])
 deck:DeckAt k c S'
 kp:Qw k c l S S'
theorem Dn {n:Nat} {x:Str} {kvs:List (Key×D)} {d:D} {t:T} {P:D→T→Prop} (e:t.S[n]?=some (.dct kvs)) (e2:B0 kvs (.inr x)=some d) (h:P d t):W (Dj (.obj n) (.str x)) t P:=
 ⟨d,t,by simp only [Dj,e,e2];rfl,h⟩
theorem E1 {f g:M D} {d:D} {t:T} {U:Unit→T→Prop} (h:W f t fun o t1=>W g t1 fun i t2=>W (Fz o i d) t2 U):W (G1 f g d) t U:=DX (h.mono fun o t1 h1=>DX h1)
theorem DG {n:Nat} {x:Str} {d:D} {kvs:List (Key×D)} {t:T} {U:Unit→T→Prop} (e:t.S[n]?=some (.dct kvs)) (hl:kvs.length < LIM) (h:U () ⟨t.env,t.S.set n (.dct (Cb kvs (.inr x) d))⟩):W (Fz (.obj n) (.str x) d) t U:=
 ⟨(),_,by simp only [Fz,e,if_pos hl],h⟩
theorem IK {l:List (Str×M D)} {t:T} {P:D→T→Prop} (h:W (Dt l) ⟨t.env,t.S++[.dct []]⟩ fun ps t1=>t1.S[t.S.length]?=some (.dct [])∧ps.length≤15∧P (.obj t.S.length) ⟨t1.env,t1.S.set t.S.length (.dct (CU ps))⟩):W (GH l) t P:=by
 obtain ⟨ps,t1,e1,e2,e3,p⟩:=h
 refine ⟨_,_,?_,p⟩
 unfold GH bnd
 simp only [e1]
 unfold IV
 simp only [e2,if_pos e3]
theorem El {t:T} {Q:List (Key×D)→T→Prop} (h:Q [] t):W (Dt []) t Q:=⟨_,_,rfl,h⟩
theorem BS {k:Str} {f:M D} {r:List (Str×M D)} {t:T} {Q:List (Key×D)→T→Prop} (h:W f t fun d t1=>W (Dt r) t1 fun ps t2=>Q ((.inr k,d) :: ps) t2):W (Dt ((k,f) :: r)) t Q:=
 DX (h.mono fun d t1 h1=>DX (h1.mono fun ps t2 h2=>⟨_,_,rfl,h2⟩))
structure St where
 rest:Int
 mixed:Bool
 turn:Int
def St.ob (s:St):Ob:=.dct [(.inr (Str.ofString "rest"),.int s.rest),(.inr (Str.ofString "mixed"),.bl s.mixed),(.inr (Str.ofString "turn"),.int s.turn)]
def take (s:St) (m:Int):Int×St:=
 if s.mixed=false then (s.rest % m,⟨s.rest / m,s.mixed,s.turn⟩)
 else
  let stir:=(s.rest % 2147483579 + 70001 * (s.turn + 1)) % 2147483579
  let rest:=(stir * stir % 2147483563 * 50021 + 7) % 2147483579
  (rest / 5 % m,⟨rest,s.mixed,s.turn + 1⟩)
theorem BY (a:Int) (n:Nat):(rngL a n).length=n:=by simp [rngL]
inductive GS where
 | fin
 | st (side:Str) (ws:List (Str×Sh×Int))
def wdD (w:Str×Sh×Int):D:=.tup [.str w.1,w.2.1.d,.int w.2.2]
def GS.d:GS→D
 | .fin=>.tup [.str (Str.ofString "end")]
 | .st side ws=>.tup [.str side,.lst (ws.map wdD)]
def GS.isFin:GS→Bool
 | .fin=>true
 | _=>false
theorem O2 {g:Bool→Bool} {x:GS} {t:T} {P:D→T→Prop} (h:P (.bl (g x.isFin)) t):W (eqS g x.d (.tup [.str (Str.ofString "end")])) t P:=by
 cases x with
 | fin=>exact ⟨_,_,by
    show Option.map (fun b=>(D.bl (g b),t)) (Option.map (fun b=>b && true) (some ((Str.ofString "end" == Str.ofString "end") && true)))=some (D.bl (g true),t)
    rw [beq_self_eq_true];rfl,h⟩
 | st side ws=>exact ⟨_,_,by
    show Option.map (fun b=>(D.bl (g b),t)) (Option.map (fun b=>b && false) (some ((side == Str.ofString "end") && true)))=some (D.bl (g false),t)
    cases (side == Str.ofString "end") <;> rfl,h⟩
theorem ER {a:Int} {n j:Nat} {d:D} {r:List D} (e:d :: r=(rngL a n).drop j):d = .int (a + j)∧r=(rngL a n).drop (j + 1)∧j < n:=by
 have hj:j < (rngL a n).length:=by
  rcases Nat.lt_or_ge j (rngL a n).length with h | h
  ·exact h
  ·rw [List.drop_eq_nil_of_le h] at e;cases e
 rw [List.drop_eq_getElem_cons hj] at e
 injection e with e1 e2
 rw [BY] at hj
 refine ⟨?_,e2,hj⟩
 rw [e1]
 simp [rngL]
structure WOk (n:Int) (w:Str×Sh×Int):Prop where
 ok:wf w.2.1=true
 dep:w.2.1.depth≤3
 lo:0≤w.2.2
 hi:w.2.2 < n
 nm:w.1.length≤90000
inductive GSOk (n:Int):GS→Prop
 | fin:GSOk n .fin
 | st {side:Str} {ws:List (Str×Sh×Int)}:(side=Str.ofString "left"∨side=Str.ofString "right")→0 < ws.length→ws.length≤9→(ws.map (·.1)).Nodup→(∀w∈ws,WOk n w)→GSOk n (.st side ws)
structure GOk (g:List GS):Prop where
 ne:0 < g.length
 le:g.length≤30
 all:∀x∈g,GSOk g.length x
def IN (f:Fn):Prop:=∀(n:Int) (x:GS),GSOk n x→Pure1 f [x.d] (.bl x.isFin)
theorem Ou:IN (fnOf 1 1 FP):=by
 intro n x hx S
 refine A4 rfl ?_
 unfold FP
 cases hx with
 | fin=>
   rw [GS.d]
   walk_at "w"
   exact ⟨by simp [GS.isFin],rfl⟩
 | st hs _ _ _ _=>
   rw [GS.d]
   walk_at "w"
   refine ⟨?_,rfl⟩
   rcases hs with rfl | rfl <;> simp [GS.isFin]
def GS.words:GS→D
 | .fin=>.tup []
 | .st _ ws=>.lst (ws.map wdD)
def GS.ws:GS→List (Str×Sh×Int)
 | .fin=>[]
 | .st _ ws=>ws
def GG (f:Fn):Prop:=∀(n:Int) (x:GS),GSOk n x→Pure1 f [x.d] x.words
theorem Qt {ce:Fn} (he:IN ce):GG (fnOf 1 1 (Ex ce)):=by
 intro n x hx S
 refine A4 rfl ?_
 unfold Ex
 cases x with
 | fin=>
   walk_at "w"
   refine (he n .fin hx).use ?_
   walk_at "w"
   exact ⟨rfl,rfl⟩
 | st side ws=>
   walk_at "w"
   refine (he n (.st side ws) hx).use ?_
   rw [GS.d]
   walk_at "w"
   exact ⟨rfl,rfl⟩
def Gu:Option Nat→D
 | some i=>.int i
 | none=>.non
def Hf (f:Fn):Prop:=∀(n:Int) (x:GS) (nm:Str),GSOk n x→Pure1 f [x.d,.str nm] (Gu (x.ws.findIdx? fun w=>w.1 == nm))
theorem Gi {α:Type} {p:α→Bool} {l:List α} {j:Nat} (h:∀i (hi:i < l.length),i < j→p l[i]=false) {x:α} (hx:l[j]?=some x) (hp:p x=true):l.findIdx? p=some j:=by
 obtain ⟨hj,e⟩:=List.getElem?_eq_some_iff.mp hx
 rw [List.findIdx?_eq_some_iff_getElem]
 exact ⟨hj,by rw [e];exact hp,fun i hi=>by simpa using h i (by lia) hi⟩
theorem Jx {cw:Fn} (hw:GG cw):Hf (fnOf 2 4 (Ch cw)):=by
 intro n x nm hx S
 refine A4 rfl ?_
 unfold Ch
 walk_at "w"
 refine (hw n x hx).use ?_
 have key:∀(ws:List (Str×Sh×Int)) (d:D),ws.length≤9→(∀(t:T) (P:D→T→Prop),P (.int ws.length) t→W (BR [d]) t P)→(∀(t:T) (P:D→T→Prop) (i:Nat) (w:Str×Sh×Int),ws[i]?=some w→P (wdD w) t→W (ixD d (.int i)) t P)→
  W (Aw (Db (CO (Ab (fB (Ab (Ad 2) Ai) BR) Ai)) (BL 3)
  (ifS (AR (Ah (Ah (Ah (Ad 2) (Ad 3) ixD) (fC (.int 0)) ixD) (Ad 1) (eqS id)))
  (AU (Ad 3))
  Ba))
 (AU (fC .non))) ⟨[some (.val x.d),some (.val (.str nm)),some (.val d),none],S⟩ fun o t=>match o with
   | .ret r=>r=Gu (ws.findIdx? fun w=>w.1 == nm)∧t.S=S
   | .next=>D.non=Gu (ws.findIdx? fun w=>w.1 == nm)∧t.S=S
   | _=>False:=by
   intro ws d hl len ix
   walk_at "w"
   refine len _ _ ?_
   walk_at "w"
   refine EZ (CF (by lia) (by lia)) ?_
   refine Dx (fun r t=>∃(j:Nat) (e3:Option Sl),(∀i (hi:i < ws.length),i < j→(ws[i].1 == nm)=false)∧j≤ws.length∧r=(rngL 0 ((ws.length:Nat):Int).toNat).drop j∧t=⟨[some (.val x.d),some (.val (.str nm)),some (.val d),e3],S⟩) _ _ ⟨0,none,fun i hi h=>absurd h (by lia),by lia,rfl,rfl⟩ ?_ ?_
   ·rintro d' r t ⟨j,e3,hj,hjl,hr,rfl⟩ _
    obtain ⟨rfl,hr',hjn⟩:=ER hr
    rw [Int.toNat_natCast] at hjn
    have e:ws[j]?=some ws[j]:=List.getElem?_eq_getElem hjn
    rw [Int.zero_add]
    walk_at "w"
    refine ix _ _ j _ e ?_
    unfold wdD
    walk_at "w"
    refine BZ (fun q=>?_) fun q=>?_
    ·walk_at "w"
     refine ⟨?_,rfl⟩
     rw [Gi hj e q]
     rfl
    ·walk_at "w"
     refine ⟨j + 1,_,fun i hi hij=>?_,by lia,hr',rfl⟩
     rcases Nat.lt_or_ge i j with h | h
     ·exact hj i hi h
     ·have:i=j:=by lia
      subst this
      exact q
   ·rintro t ⟨j,e3,hj,hjl,hr,rfl⟩
    have hj':j=ws.length:=by
     have:=congrArg List.length hr
     rw [List.length_nil,List.length_drop,BY,Int.toNat_natCast] at this
     lia
    subst hj'
    walk_at "w"
    refine ⟨?_,rfl⟩
    rw [List.findIdx?_eq_none_iff.mpr]
    ·rfl
    ·intro w hw'
     obtain ⟨i,hi,rfl⟩:=List.mem_iff_getElem.mp hw'
     exact hj i hi hi
 cases hx with
 | fin=>
   refine Cj ?_
   refine key [] (.tup []) (by decide) (fun t P h=>QX h) fun t P i w e h=>?_
   simp at e
 | @st side ws h1 h2 h3 h4 h5=>
   refine Cj ?_
   refine key ws (.lst (ws.map wdD)) h3 (fun t P h=>QV (by rw [List.length_map];exact h)) fun t P i w e h=>?_
   obtain ⟨hi,_⟩:=List.getElem?_eq_some_iff.mp e
   refine BB ?_ h
   unfold atI
   rw [Ca (by lia) (by rw [List.length_map];lia)]
   show (ws.map wdD)[(i:Int).toNat]?=_
   rw [Int.toNat_natCast,List.getElem?_map,e]
   rfl
theorem Ra {n:Nat} {x:Int}:eqN n (.int x) (.int x)=some true:=by
 cases n <;> (show some (x == x)=some true;rw [beq_self_eq_true])
theorem Rc {n:Nat} {xs:List D} (h:∀x∈xs,eqN n x x=some true):eqN (n + 1) (.tup xs) (.tup xs)=some true:=by
 rw [eqN,C8 h];simp
theorem Rb {n:Nat} {xs:List D} (h:∀x∈xs,eqN n x x=some true):eqN (n + 1) (.lst xs) (.lst xs)=some true:=by
 rw [eqN,if_pos rfl,C8 h]
def GS.side:GS→Str
 | .fin=>Str.ofString "end"
 | .st s _=>s
def Bx (g:List GS) (q:Nat):GS:=g.getD q .fin
def wdAt (g:List GS) (q p:Nat):Str×Sh×Int:=(Bx g q).ws.getD p (Str.ofString "",.nothing,0)
def CQ (g:List GS) (q p:Nat):Nat:=(wdAt g q p).2.2.toNat
def DW (g:List GS) (q p:Nat) (v:D):D:=.tup [.str (Bx g q).side,.str (wdAt g q p).1,v]
abbrev Mv:=Nat×D
def AO (g:List GS):Nat→List Mv→Nat
 | q,[]=>q
 | q,(p,_) :: r=>AO g (CQ g q p) r
def Be (g:List GS):Nat→List Mv→List D
 | _,[]=>[]
 | q,(p,v) :: r=>DW g q p v :: Be g (CQ g q p) r
def Cp (g:List GS):Nat→List Mv→List D
 | _,[]=>[]
 | q,(p,_) :: r=>.tup [.int q,.int p] :: Cp g (CQ g q p) r
def BV (g:List GS):Nat→List Mv→List D
 | q,[]=>[.int q]
 | q,(p,_) :: r=>.int q :: BV g (CQ g q p) r
structure MvOk (g:List GS) (q:Nat) (p:Nat) (v:D):Prop where
 lt:q < g.length
 pl:p < (Bx g q).ws.length
 fit:Ax (wdAt g q p).2.1 v=true
def okQ (g:List GS):Nat→List Mv→Prop
 | _,[]=>True
 | q,(p,v) :: r=>MvOk g q p v∧okQ g (CQ g q p) r
theorem Gk (g:List GS):∀(q:Nat) (a b:List Mv),AO g q (a++b)=AO g (AO g q a) b
 | q,[],b=>rfl
 | q,(p,v) :: r,b=>by rw [List.cons_append,AO,AO,Gk g _ r b]
theorem Gq (g:List GS):∀(q:Nat) (a b:List Mv),Be g q (a++b)=Be g q a++Be g (AO g q a) b
 | q,[],b=>rfl
 | q,(p,v) :: r,b=>by rw [List.cons_append,Be,Be,AO,Gq g _ r b];rfl
theorem IG (g:List GS):∀(q:Nat) (a b:List Mv),Cp g q (a++b)=Cp g q a++Cp g (AO g q a) b
 | q,[],b=>rfl
 | q,(p,v) :: r,b=>by rw [List.cons_append,Cp,Cp,AO,IG g _ r b];rfl
theorem Gy (g:List GS):∀(q:Nat) (a:List Mv) (p:Nat) (v:D),BV g q (a++[(p,v)])=BV g q a++[.int (CQ g (AO g q a) p)]
 | q,[],p,v=>rfl
 | q,(p',v') :: r,p,v=>by rw [List.cons_append,BV,BV,AO,Gy g _ r p v];rfl
theorem Fr (g:List GS):∀(q:Nat) (a b:List Mv),okQ g q (a++b)↔okQ g q a∧okQ g (AO g q a) b
 | q,[],b=>by simp [okQ,AO]
 | q,(p,v) :: r,b=>by rw [List.cons_append,okQ,okQ,AO,Fr g _ r b,and_assoc]
theorem Bv (g:List GS):∀(q:Nat) (a:List Mv),(Be g q a).length=a.length
 | q,[]=>rfl
 | q,(p,v) :: r=>by rw [Be,List.length_cons,Bv g _ r,List.length_cons]
theorem Ez (g:List GS):∀(q:Nat) (a:List Mv),(Cp g q a).length=a.length
 | q,[]=>rfl
 | q,(p,v) :: r=>by rw [Cp,List.length_cons,Ez g _ r,List.length_cons]
theorem Fe (g:List GS):∀(q:Nat) (a:List Mv),(BV g q a).length=a.length + 1
 | q,[]=>rfl
 | q,(p,v) :: r=>by rw [BV,List.length_cons,Fe g _ r,List.length_cons]
theorem Il (g:List GS):∀(q:Nat) (a:List Mv) (i:Nat),(Be g q a).take i=Be g q (a.take i)
 | q,[],i=>by simp [Be]
 | q,(p,v) :: r,0=>rfl
 | q,(p,v) :: r,i + 1=>by rw [Be,List.take_succ_cons,List.take_succ_cons,Be,Il g _ r i]
theorem Hc (g:List GS):∀(q:Nat) (a:List Mv) (i:Nat),i≤a.length→(BV g q a)[i]?=some (.int (AO g q (a.take i)))
 | q,[],0,_=>rfl
 | q,[],i + 1,h=>absurd h (by simp)
 | q,(p,v) :: r,0,_=>rfl
 | q,(p,v) :: r,i + 1,h=>by
   rw [BV,List.getElem?_cons_succ,Hc g _ r i (by simpa using h),List.take_succ_cons,AO]
theorem Fa (g:List GS):∀(q:Nat) (a:List Mv) (i:Nat) (p:Nat) (v:D),a[i]?=some (p,v)→(Be g q a)[i]?=some (DW g (AO g q (a.take i)) p v)
 | q,[],i,p,v,h=>by simp at h
 | q,(p',v') :: r,0,p,v,h=>by
   simp at h
   obtain ⟨rfl,rfl⟩:=h
   rfl
 | q,(p',v') :: r,i + 1,p,v,h=>by
   rw [Be,List.getElem?_cons_succ,Fa g _ r i p v (by simpa using h),List.take_succ_cons,AO]
theorem Lx {g:List GS} {q:Nat} {a:List Mv} (h:okQ g q a) (i:Nat):okQ g q (a.take i):=by
 rw [←List.take_append_drop i a,Fr] at h
 exact h.1
theorem Jo {g:List GS} {q:Nat} {a:List Mv} (h:okQ g q a) {i p:Nat} {v:D} (e:a[i]?=some (p,v)):MvOk g (AO g q (a.take i)) p v:=by
 obtain ⟨hi,e'⟩:=List.getElem?_eq_some_iff.mp e
 have hd:a.drop i=(p,v) :: a.drop (i + 1):=by rw [List.drop_eq_getElem_cons hi,e']
 rw [←List.take_append_drop i a,Fr,hd,okQ] at h
 exact h.2.1
theorem DZ {g:List GS} (h:GOk g) {q:Nat} (hq:q < g.length):GSOk g.length (Bx g q):=by
 unfold Bx
 rw [List.getD_eq_getElem?_getD,List.getElem?_eq_getElem hq]
 exact h.all _ (List.getElem_mem hq)
theorem Dc {g:List GS} {q:Nat} (hq:q < g.length):atI (g.map GS.d) q=some (Bx g q).d:=by
 unfold atI
 rw [Ca (by lia) (by rw [List.length_map];lia)]
 show (g.map GS.d)[(q:Int).toNat]?=_
 unfold Bx
 rw [Int.toNat_natCast,List.getElem?_map,List.getD_eq_getElem?_getD,List.getElem?_eq_getElem hq]
 rfl
theorem FV {g:List GS} {q p:Nat} (hp:p < (Bx g q).ws.length):∃side ws,Bx g q = .st side ws∧p < ws.length∧ws[p]?=some (wdAt g q p):=by
 unfold wdAt
 cases e:Bx g q with
 | fin=>rw [e] at hp;simp [GS.ws] at hp
 | st side ws=>
   rw [e] at hp
   have hp:p < ws.length:=hp
   refine ⟨side,ws,rfl,hp,?_⟩
   show ws[p]?=some (ws.getD p _)
   rw [List.getD_eq_getElem?_getD,List.getElem?_eq_getElem hp]
   rfl
theorem GC {ws:List (Str×Sh×Int)} {p:Nat} {w:Str×Sh×Int} (e:ws[p]?=some w):atI (ws.map wdD) p=some (wdD w):=by
 obtain ⟨hp,_⟩:=List.getElem?_eq_some_iff.mp e
 unfold atI
 rw [Ca (by lia) (by rw [List.length_map];lia)]
 show (ws.map wdD)[(p:Int).toNat]?=_
 rw [Int.toNat_natCast,List.getElem?_map,e]
 rfl
theorem F4 {g:List GS} (h:GOk g) {q p:Nat} (hq:q < g.length) (hp:p < (Bx g q).ws.length):WOk g.length (wdAt g q p):=by
 obtain ⟨side,ws,e,hp',e2⟩:=FV hp
 have:=DZ h hq
 rw [e] at this
 cases this with
 | st _ _ _ _ h5=>exact h5 _ (List.mem_of_getElem? e2)
theorem RL {g:List GS} (h:GOk g) {q p:Nat} (hq:q < g.length) (hp:p < (Bx g q).ws.length):CQ g q p < g.length:=by
 have:=F4 h hq hp
 unfold CQ
 have h1:=this.lo
 have h2:=this.hi
 lia
theorem GM {g:List GS} (h:GOk g):∀{a:List Mv} {q:Nat},q < g.length→okQ g q a→AO g q a < g.length
 | [],q,hq,_=>hq
 | (p,v) :: r,q,hq,hk=>by
   rw [okQ] at hk
   rw [AO]
   exact GM h (RL h hq hk.1.pl) hk.2
theorem Eu {ws:List (Str×Sh×Int)} (nd:(ws.map (·.1)).Nodup) {p:Nat} {w:Str×Sh×Int} (e:ws[p]?=some w):(ws.findIdx? fun x=>x.1 == w.1)=some p:=by
 obtain ⟨hp,ep⟩:=List.getElem?_eq_some_iff.mp e
 refine Gi (fun i hi hip=>?_) e (by simp)
 rw [←ep]
 have hne:¬ws[i].1=ws[p].1:=fun z=>by
  have h1:i < (ws.map (·.1)).length:=by rw [List.length_map];exact hi
  have h2:p < (ws.map (·.1)).length:=by rw [List.length_map];exact hp
  have:(ws.map (·.1))[i]=(ws.map (·.1))[p]:=by rw [List.getElem_map,List.getElem_map];exact z
  have:=(List.getElem_inj nd).mp this
  lia
 simpa using hne
theorem MJ:∀{xs:List D},(∀d∈xs,okD d=true)→oks xs=true
 | [],_=>by rw [oks]
 | d :: r,h=>by rw [oks,h d List.mem_cons_self,MJ fun x m=>h x (List.mem_cons_of_mem _ m)];rfl
theorem EJ:∀(n:Nat) (s:Sh),s.depth≤n→wf s=true→∀v,Ax s v=true→okD v=true
 | 0,s,h,_,_,_=>absurd s.depth_pos (by lia)
 | n + 1,s,hd,hw,v,h=>by
   cases s with
   | nothing=>cases v <;> first | rfl | (simp [Ax,Ii] at h;done)
   | number lo hi=>cases v <;> first | rfl | (simp [Ax] at h;done)
   | text q=>
     simp only [wf,Bool.and_eq_true,decide_eq_true_eq] at hw
     cases v <;> simp only [Ax,Bool.false_eq_true] at h
     simp only [Bool.and_eq_true,decide_eq_true_eq] at h
     rw [okD,decide_eq_true_eq]
     lia
   | list s q=>
     rw [Sh.depth] at hd
     simp only [wf,Bool.and_eq_true,decide_eq_true_eq] at hw
     cases v <;> simp only [Ax,Bool.false_eq_true] at h
     simp only [Bool.and_eq_true,decide_eq_true_eq,List.all_eq_true] at h
     rw [okD]
     exact MJ fun d m=>EJ n s (by lia) hw.2 d (h.2 d m)
   | pair a b=>
     rw [Sh.depth] at hd
     simp only [wf,Bool.and_eq_true] at hw
     unfold Ax at h
     split at h
     ·rw [Bool.and_eq_true] at h
      rw [okD,oks,oks,oks,EJ n a (by lia) hw.1 _ h.1,EJ n b (by lia) hw.2 _ h.2];rfl
     ·cases h
   | choice ss=>
     rw [Sh.depth] at hd
     simp only [wf,Bool.and_eq_true,decide_eq_true_eq] at hw
     unfold Ax at h
     split at h
     ·next o k x=>
      simp only [Bool.and_eq_true,decide_eq_true_eq] at h
      have hk:k.toNat < ss.length:=by lia
      have e1:ss[k.toNat]?=some ss[k.toNat]:=List.getElem?_eq_getElem hk
      have h2:=h.2
      rw [Cu ss _ _ _ e1] at h2
      have ho:o=("of" : Str):=eq_of_beq h.1.1
      have hx:=EJ n _ (Nat.le_trans (DM ss _ _ e1) (by lia)) (D2 hw.2 _ (List.getElem_mem hk)) x h2
      subst ho
      have hl:okD (.str ("of" : Str))=true:=by decide +kernel
      rw [okD,oks,oks,oks,oks,hl,hx];rfl
     ·cases h
def Hg (f:Fn):Prop:=∀(g:List GS) (q p:Nat) (v:D),GOk g→MvOk g q p v→Pure1 f [(Bx g q).d,DW g q p v] (.int p)
theorem Kg {cf cp:Fn} (hf:EE cf 3) (hp:Hf cp):Hg (fnOf 2 3 (CL cf cp)):=by
 intro g q p v hg hm S
 refine A4 rfl ?_
 unfold CL
 obtain ⟨side,ws,e,hpl,ew⟩:=FV hm.pl
 have hgs:=DZ hg hm.lt
 have hw:=F4 hg hm.lt hm.pl
 have hfit:=hm.fit
 unfold DW
 rw [e] at hgs ⊢
 generalize wdAt g q p=w at ew hw hfit ⊢
 have hov:okD v=true:=EJ 3 w.2.1 hw.dep hw.ok v hfit
 show W _ ⟨[some (.val (.tup [.str side,.lst (ws.map wdD)])),some (.val (.tup [.str side,.str w.1,v])),none],S⟩ _
 walk_at "w"
 refine Ji (by simp) ?_
 walk_at "w"
 have hpn:=hp g.length (.st side ws) w.1 hgs
 have hidx:((GS.st side ws).ws.findIdx? fun x=>x.1 == w.1)=some p:=by
  cases hgs with
  | st _ _ _ h4 _=>exact Eu h4 ew
 rw [hidx] at hpn
 refine hpn.use ?_
 show NI _ _ .next ⟨[some (.val (.tup [.str side,.lst (ws.map wdD)])),some (.val (.tup [.str side,.str w.1,v])),some (.val (.int p))],S⟩
 walk_at "w"
 refine BB (GC ew) ?_
 unfold wdD
 walk_at "w"
 refine (hf w.2.1 hw.dep v hov).use ?_
 rw [hfit]
 walk_at "w"
 exact ⟨rfl,rfl⟩
def KF (f:Fn):Prop:=∀(g:List GS) (q p:Nat),GOk g→q < g.length→p < (Bx g q).ws.length→Pure1 f [.lst (g.map GS.d),.tup [.int q,.int p]] (.int (CQ g q p))
theorem RM:KF (fnOf 2 2 DV):=by
 intro g q p hg hq hp S
 refine A4 rfl ?_
 unfold DV
 obtain ⟨side,ws,e,hpl,ew⟩:=FV hp
 have hw:=F4 hg hq hp
 have hlo:=hw.lo
 walk_at "w"
 refine BB (Dc hq) ?_
 rw [e,GS.d]
 walk_at "w"
 refine BB (GC ew) ?_
 unfold wdD
 walk_at "w"
 refine ⟨?_,rfl⟩
 unfold CQ
 congr 1
 lia
theorem t7 {a0 a1 e4 e5 e6:Option Sl} {x y:D} {X Y:List D} {S:List Ob} (h:x=y) (h2:X=Y):(⟨[a0,a1,some (.val x),some (.own X),e4,e5,e6],S⟩:T)=⟨[a0,a1,some (.val y),some (.own Y),e4,e5,e6],S⟩:=by subst h h2;rfl
theorem G3 {f:M (List D)} {t:T} {P:Out→T→Prop} (h:W f t fun ds t1=>P (.ret (.lst ds)) t1):W (Gw f) t P:=W_bnd.mpr (h.mono fun _ _ p=>W_ret.mpr p)
theorem FA {g:Fn} {f:M (List D)} {t:T} {P:List D→T→Prop} (h:W f t fun ds t1=>Wf g ds t1.S fun r S'=>∃rs,r = .lst rs∧P rs ⟨t1.env,S'⟩):W (DQ g f) t P:=by
 refine W_bnd.mpr (h.mono fun ds t1 ⟨r,S',e,rs,er,p⟩=>?_)
 subst er
 exact ⟨rs,⟨t1.env,S'⟩,by simp only [e],p⟩
theorem SK {i:Nat} {xs:List D} {t:T} {P:Out→T→Prop} (e:t.env[i]?=some (some (.own xs))) (h:P (.ret (.lst xs)) ⟨t.env.set i none,t.S⟩):W (Gx i) t P:=⟨_,_,by simp only [Gx,e],h⟩
theorem Vn {i:Int} {t:T} {P:D→T→Prop} (h:P (.int (Builtin.Int.intBits i:Nat)) t):W (Ko (.int i)) t P:=⟨_,_,rfl,h⟩
theorem WT {i j:Int} {t:T} {P:D→T→Prop} (h0:0≤j) (h:P (.int (i / 2 ^ j.toNat)) t):W (NJ (.int i) (.int j)) t P:=⟨_,_,by simp [NJ,i2C,h0],h⟩
theorem Wy {i:Nat} {xs ys:List D} {t1:T} {A:List D→Prop} (e:t1.env[i]?=some (some (.own xs))) (l:xs.length + ys.length≤LIM) (w:A (xs++ys)):∃xs,t1.env[i]?=some (some (.own xs))∧∃zs,FG xs [.lst ys]=some zs∧A zs:=
 ⟨xs,e,xs++ys,by simp [FG,l],w⟩
def wid (n:Nat):Nat:=if n=0 then 0 else n.log2 / 8 + 1
theorem Oy {n:Nat} (h:2≤n):n.log2=(n / 2).log2 + 1:=by rw [Nat.log2_def,if_pos h]
theorem PL {n:Nat} (h:n < 2):n.log2=0:=by rw [Nat.log2_def,if_neg (by lia)]
theorem Lo:∀(k:Nat) {n:Nat},2 ^ k≤n→n.log2=(n / 2 ^ k).log2 + k
 | 0,n,_=>by rw [Nat.pow_zero,Nat.div_one,Nat.add_zero]
 | k + 1,n,h=>by
   have h2:2 ^ k * 2≤n:=by rw [←Nat.pow_succ];exact h
   have h3:2≤n / 2 ^ k:=(Nat.le_div_iff_mul_le (Nat.pow_pos (by decide))).mpr (by rw [Nat.mul_comm];exact h2)
   rw [Lo k (Nat.le_trans (Nat.le_mul_of_pos_right _ (by decide)) h2),Oy h3,Nat.div_div_eq_div_mul,←Nat.pow_succ,Nat.add_assoc,Nat.add_comm 1 k]
theorem PJ {n:Nat} (h:256≤n):n.log2=(n / 256).log2 + 8:=Lo 8 h
theorem PK {n:Nat} (h:n < 256):n.log2 < 8:=by
 by_cases z:n=0
 ·subst z;rw [PL (by lia)];lia
 ·exact (Nat.log2_lt z).mpr h
theorem Qr {n:Nat} (h:0 < n):wid n=wid (n / 256) + 1:=by
 unfold wid
 rw [if_neg (by lia)]
 by_cases z:n < 256
 ·have:=PK z
  rw [if_pos (by lia)];lia
 ·rw [if_neg (by lia),PJ (by lia)];lia
theorem Mb:∀(k n:Nat),n < 256 ^ k→wid n≤k
 | 0,n,h=>by
   have:n=0:=by simpa using h
   subst this;decide
 | k + 1,n,h=>by
   by_cases z:n=0
   ·subst z;exact Nat.zero_le _
   ·rw [Qr (by lia)]
    have:=Mb k (n / 256) (Nat.div_lt_of_lt_mul (by rw [Nat.pow_succ] at h;lia))
    lia
theorem Pg (n:Nat):((Builtin.Int.intBits (n:Int):Nat) + 7) / 8=wid n:=by
 unfold Builtin.Int.intBits wid
 by_cases z:n=0
 ·subst z;rfl
 ·have:((n:Int) == 0)=false:=by simp;exact z
  rw [this,if_neg (by simp),if_neg z,Int.natAbs_natCast];lia
def nb:Nat→Nat→List D
 | 0,_=>[]
 | w + 1,n=>nb w (n / 256)++[.int ((n % 256:Nat):Int)]
theorem Lv:∀w n,(nb w n).length=w
 | 0,n=>rfl
 | w + 1,n=>by rw [nb,List.length_append,Lv];rfl
theorem OC:∀w n:Nat,(List.range w).map (fun k=>D.int ((n / 2 ^ (8 * (w - 1 - k)) % 256:Nat):Int))=nb w n
 | 0,n=>rfl
 | w + 1,n=>by
   rw [List.range_succ,List.map_append,nb,←OC w (n / 256)]
   congr 1
   ·refine List.map_congr_left fun k hk=>?_
    rw [List.mem_range] at hk
    have e:8 * (w + 1 - 1 - k)=8 + 8 * (w - 1 - k):=by lia
    rw [e,Nat.pow_add,Nat.div_div_eq_div_mul]
   ·simp
mutual
def Bn:Sh→D→List D
 | .nothing,_=>[]
 | .number lo hi,d=>match d with
   | .int i=>nb (wid (hi - lo).toNat) (i - lo).toNat
   | _=>[]
 | .text _,d=>match d with
   | .str x=>.int (x.length:Nat) :: x.cps.toList.map fun n=>D.int (n:Nat)
   | _=>[]
 | .list s _,d=>match d with
   | .lst ds=>.int (ds.length:Nat) :: (ds.map fun d=>Bn s d).flatten
   | _=>[]
 | .pair s r,d=>match d with
   | .tup [a,b]=>Bn s a++Bn r b
   | _=>[]
 | .choice ss,d=>match d with
   | .tup [_,.int k,x]=>.int k :: HU ss k.toNat x
   | _=>[]
def HU:List Sh→Nat→D→List D
 | [],_,_=>[]
 | s :: _,0,d=>Bn s d
 | _ :: r,k + 1,d=>HU r k d
end
theorem Ef:∀(ss:List Sh) (k:Nat) (s:Sh) (d:D),ss[k]?=some s→HU ss k d=Bn s d
 | [],k,s,d,h=>by simp at h
 | s :: r,0,s',d,h=>by simp at h;subst h;simp [HU]
 | s :: r,k + 1,s',d,h=>by rw [HU];exact Ef r k s' d (by simpa using h)
def GD (f:Fn) (n:Nat):Prop:=∀(s:Sh),s.depth≤n→wf s=true→∀d,Ax s d=true→(Bn s d).length≤LIM→Pure1 f [s.d,d] (.lst (Bn s d))
def KC (f:Fn):Prop:=∀(n j:Nat),j≤1000→Pure1 f [.int n,.int j] (.int ((n / 2 ^ (8 * j):Nat):Int))
theorem RC:KC (fnOf 2 2 E9):=by
 intro n j hj S
 refine A4 rfl ?_
 unfold E9
 walk_at "w"
 refine IL (Fq (by decide) (by decide)) ?_
 refine WT (by lia) ?_
 refine ⟨?_,rfl⟩
 have:(8 * (j:Int)).toNat=8 * j:=by lia
 rw [this]
 simp
def M6 (f:Fn):Prop:=∀n:Nat,n < 256 ^ 9→Pure1 f [.int n] (.int (wid n:Nat))
theorem Qs:M6 (fnOf 1 1 DA):=by
 intro n _ S
 refine A4 rfl ?_
 unfold DA
 walk_at "w"
 refine Vn ?_
 walk_at "w"
 refine ⟨?_,rfl⟩
 rw [←Pg]
 simp
def KG (f:Fn):Prop:=∀(n w:Nat),w≤1000→Pure1 f [.int n,.int w] (.lst (nb w n))
theorem GT (i:Int) (n:Nat):rngL i n=(List.range n).map fun k:Nat=>D.int (i + k):=by
 rfl
theorem RQ {c:Fn} (hc:KC c):KG (fnOf 2 2 (Dm c)):=by
 intro n w hw S
 have hL:LIM=100000:=rfl
 refine A4 rfl ?_
 unfold Dm
 refine G3 ?_
 walk_at "w"
 refine Qq (by rw [CF (by decide) (by decide),CF (by lia) (by lia)];rfl) ?_
 refine (JH (f:=fun d=>match d with | .int k=>.int ((n / 2 ^ (8 * (w - k.toNat)) % 256:Nat):Int) | _=>d) (fr:=[some (.val (.int n)),some (.val (.int w))]) ?_).mono ?_
 ·intro d m
  rw [GT] at m
  obtain ⟨k,hk,rfl⟩:=List.mem_map.mp m
  rw [List.mem_range] at hk
  walk_at "w"
  have e:((w:Int) - (1 + (k:Int)))=((w - (1 + k):Nat):Int):=by lia
  rw [e]
  refine (hc n (w - (1 + k)) (by lia)).use ?_
  walk_at "w"
  refine ⟨?_,rfl⟩
  have e2:(1 + (k:Int)).toNat=1 + k:=by lia
  dsimp only
  rw [e2]
  simp
 ·rintro xs t' ⟨rfl,hS⟩
  have hn:((w:Int) + 1 - 1).toNat=w:=by lia
  rw [GT,hn]
  refine Cg (by simp only [List.length_map,List.length_range,hL];lia) ?_
  refine ⟨?_,hS⟩
  rw [←OC w n,List.map_map]
  congr 1
  refine List.map_congr_left fun k hk=>?_
  rw [List.mem_range] at hk
  have e2:(1 + (k:Int)).toNat=1 + k:=by lia
  have e3:w - (1 + k)=w - 1 - k:=by lia
  simp only [Function.comp,e2,e3]
theorem Sx {lo hi:Int} (h:wf (.number lo hi)=true):(hi - lo).toNat < 256 ^ 9:=by
 simp only [wf,Bool.and_eq_true,decide_eq_true_eq] at h
 have:(256:Nat) ^ 9=4722366482869645213696:=by decide
 lia
theorem N6 (x:Str):(x.cps.toList.map fun c=>D.str ⟨#[c]⟩).map (fun d=>match d with | .str y=>D.int (y.cps.getD 0 0:Nat) | _=>d)=x.cps.toList.map fun n=>D.int (n:Nat):=by
 rw [List.map_map]
 refine List.map_congr_left fun n _=>?_
 rfl
theorem Rl {c cw cn:Fn} {n:Nat} (hc:GD c n) (hw:M6 cw) (hn:KG cn):GD (fnOf 2 5 (C5 c cw cn)) (n + 1):=by
 intro s hs hwf d hf hlen S
 have hL:LIM=100000:=rfl
 refine A4 rfl ?_
 unfold C5
 cases s with
 | nothing=>
   rw [Sh.d]
   walk_at "w"
   refine G3 ?_
   walk_at "w"
   exact ⟨by rw [Bn],rfl⟩
 | number lo hi=>
   have hsp:=Sx hwf
   have hwd:=Mb 9 _ hsp
   simp only [wf,Bool.and_eq_true,decide_eq_true_eq] at hwf
   cases d <;> simp [Ax] at hf
   rename_i i
   rw [Sh.d]
   walk_at "w"
   refine G3 (FA ?_)
   walk_at "w"
   have e1:hi - lo=(((hi - lo).toNat:Nat):Int):=by lia
   have e2:i - lo=(((i - lo).toNat:Nat):Int):=by lia
   rw [e1,e2]
   refine (hw _ hsp).use ?_
   walk_at "w"
   refine (hn _ _ (by lia)).use ?_
   exact ⟨_,rfl,by rw [Bn],rfl⟩
 | text q=>
   simp only [wf,Bool.and_eq_true,decide_eq_true_eq] at hwf
   cases d <;> simp [Ax] at hf
   rename_i x
   rw [Sh.d]
   walk_at "w"
   refine G3 ?_
   refine DX ?_
   walk_at "w"
   refine QW (by rw [hL];lia) ?_
   walk_at "w"
   refine (JH (f:=fun d=>match d with | .str y=>D.int (y.cps.getD 0 0:Nat) | _=>d) (fr:=[]) ?_).mono ?_
   ·intro d m
    obtain ⟨k,hk,rfl⟩:=List.mem_map.mp m
    walk_at "w"
    refine UA rfl ?_
    exact ⟨rfl,rfl⟩
   ·rintro xs t' ⟨rfl,hS⟩
    rw [N6]
    have hl:x.cps.toList.length≤250:=by rw [←DK];lia
    refine Cg (by rw [List.length_map,hL];lia) ?_
    walk_at "w"
    refine Cg (by simp only [List.length_map,List.length_cons,List.length_nil,hL];lia) ?_
    exact ⟨by rw [Bn];rfl,hS⟩
 | list s q=>
   simp only [wf,Bool.and_eq_true,decide_eq_true_eq] at hwf
   rw [Sh.depth] at hs
   cases d <;> simp only [Ax,Bool.false_eq_true] at hf
   rename_i ds
   rw [Bool.and_eq_true,decide_eq_true_eq,List.all_eq_true] at hf
   rw [Bn] at hlen ⊢
   rw [Sh.d]
   walk_at "w"
   refine Dx (fun r t=>∃(z:Option Sl) (acc:List D),t=⟨[some (.val (.tup [.str "list",s.d,.int q])),some (.val (.lst ds)),some (.val (.str "list")),some (.own acc),z],S⟩∧acc++(r.map fun d=>Bn s d).flatten = .int (ds.length:Nat) :: (ds.map fun d=>Bn s d).flatten) _ _ ⟨_,_,rfl,rfl⟩ ?_ ?_
   ·rintro d r t ⟨z,acc,rfl,hacc⟩ m
    rw [List.map_cons,List.flatten_cons,←List.append_assoc] at hacc
    have hl:acc.length + (Bn s d).length≤LIM:=by
     have:=congrArg List.length hacc
     rw [List.length_append,List.length_append] at this
     lia
    walk_at "w"
    refine FA ?_
    walk_at "w"
    refine (hc s (Nat.le_of_succ_le_succ hs) hwf.2 d (hf.2 d m) (Nat.le_trans (Nat.le_add_left _ _) hl)).use ⟨_,rfl,?_⟩
    walk_at "w"
    refine Wy rfl hl ?_
    exact ⟨_,_,rfl,hacc⟩
   ·rintro t ⟨z,acc,rfl,hacc⟩
    rw [List.map_nil,List.flatten_nil,List.append_nil] at hacc
    walk_at "w"
    refine SK rfl ?_
    exact ⟨by rw [hacc],rfl⟩
 | pair s r=>
   simp only [wf,Bool.and_eq_true] at hwf
   rw [Sh.depth] at hs
   match d,hf,hlen with
   | .tup [a,b],hf,hlen=>
     simp only [Ax,Bool.and_eq_true] at hf
     rw [Bn] at hlen ⊢
     rw [List.length_append] at hlen
     rw [Sh.d]
     walk_at "w"
     refine G3 ?_
     refine DX ?_
     walk_at "w"
     refine FA ?_
     walk_at "w"
     refine (hc s (Nat.le_trans (Nat.le_max_left _ _) (Nat.le_of_succ_le_succ hs)) hwf.1 a hf.1 (Nat.le_trans (Nat.le_add_right _ _) hlen)).use ⟨_,rfl,?_⟩
     refine DX ?_
     walk_at "w"
     refine FA ?_
     walk_at "w"
     refine (hc r (Nat.le_trans (Nat.le_max_right _ _) (Nat.le_of_succ_le_succ hs)) hwf.2 b hf.2 (Nat.le_trans (Nat.le_add_left _ _) hlen)).use ⟨_,rfl,?_⟩
     walk_at "w"
     refine Cg hlen ?_
     exact ⟨rfl,rfl⟩
 | choice ss=>
   simp only [wf,Bool.and_eq_true,decide_eq_true_eq] at hwf
   rw [Sh.depth] at hs
   match d,hf,hlen with
   | .tup [.str o,.int k,x],hf,hlen=>
     simp only [Ax,Bool.and_eq_true,decide_eq_true_eq] at hf
     obtain ⟨⟨ho,k0,k1⟩,hf⟩:=hf
     have hk:k.toNat < ss.length:=by lia
     have e1:ss[k.toNat]?=some ss[k.toNat]:=List.getElem?_eq_getElem hk
     have hl:=CY ss
     have e2:atI (shD ss) k=some (ss[k.toNat]).d:=by
      unfold atI
      rw [Ca k0 (by lia)]
      show (shD ss)[k.toNat]?=_
      rw [G0,e1];rfl
     rw [Cu ss _ _ _ e1] at hf
     rw [Bn] at hlen ⊢
     rw [Ef ss _ _ _ e1] at hlen ⊢
     rw [List.length_cons] at hlen
     rw [Sh.d]
     walk_at "w"
     refine G3 ?_
     walk_at "w"
     refine FA ?_
     walk_at "w"
     refine EY e2 ?_
     walk_at "w"
     refine (hc _ (Nat.le_trans (DM ss _ _ e1) (Nat.le_of_succ_le_succ hs)) (D2 hwf.2 _ (List.getElem_mem hk)) x hf (Nat.le_of_succ_le hlen)).use ⟨_,rfl,?_⟩
     walk_at "w"
     refine Cg (by simp only [List.length_cons,List.length_nil];lia) ?_
     exact ⟨rfl,rfl⟩
abbrev kR:Key:=.inr (Str.ofString "rest")
abbrev kM:Key:=.inr (Str.ofString "mixed")
abbrev kC:Key:=.inr (Str.ofString "count")
theorem kRM:¬kR=kM:=by intro h;injection h with h;rw [Df] at h;exact absurd h (by decide)
theorem kRC:¬kR=kC:=by intro h;injection h with h;rw [Df] at h;exact absurd h (by decide)
theorem kMC:¬kM=kC:=by intro h;injection h with h;rw [Df] at h;exact absurd h (by decide)
theorem kMR:¬kM=kR:=fun h=>kRM h.symm
theorem kCR:¬kC=kR:=fun h=>kRC h.symm
abbrev BP (a b c:D):List (Key×D):=[(kR,a),(kM,b),(kC,c)]
theorem Jw {a b c:D}:B0 (BP a b c) kR=some a:=by simp [B0,List.find?_cons]
theorem LI {a b c:D}:B0 (BP a b c) kM=some b:=by
 unfold B0 BP;rw [List.find?_cons,show decide (kR=kM)=false from decide_eq_false kRM];simp [List.find?_cons]
theorem FT {a b c:D}:B0 (BP a b c) kC=some c:=by
 unfold B0 BP
 rw [List.find?_cons,show decide (kR=kC)=false from decide_eq_false kRC]
 dsimp only
 rw [List.find?_cons,show decide (kM=kC)=false from decide_eq_false kMC]
 simp [List.find?_cons]
theorem Fu {a b c d:D}:Cb (BP a b c) kR d=BP d b c:=by
 unfold Cb BP
 rw [if_pos (by simp)]
 simp only [List.map_cons,List.map_nil,if_true,if_neg kMR,if_neg kCR]
theorem LK {a b c d:D}:Cb (BP a b c) kC d=BP a b d:=by
 unfold Cb BP
 rw [if_pos (by simp)]
 simp only [List.map_cons,List.map_nil,if_true,if_neg kRC,if_neg kMC]
theorem LH {a b c:D}:CU (BP a b c)=BP a b c:=by
 unfold CU
 simp only [List.foldl_cons,List.foldl_nil]
 have e1:Cb [] kR a=[(kR,a)]:=by simp [Cb]
 rw [e1]
 have e2:Cb [(kR,a)] kM b=[(kR,a),(kM,b)]:=by
  unfold Cb
  rw [if_neg (by simp only [List.any_cons,List.any_nil,Bool.or_false,decide_eq_true_eq];exact kRM)];rfl
 rw [e2]
 unfold Cb
 rw [if_neg (by
  simp only [List.any_cons,List.any_nil,Bool.or_false,Bool.or_eq_true,decide_eq_true_eq]
  intro h
  rcases h with h | h
  ·exact kRC h
  ·exact kMC h)]
 rfl
def Room (k r:Nat) (S:List Ob):Prop:=∃(a c:Int) (b:Bool),S[k]?=some (.dct (BP (.int a) (.bl b) (.int c)))∧0≤c∧c + r≤1000000000000000000000000000000
theorem Room.mono {k r r':Nat} {S:List Ob} (h:Room k r S) (e:r'≤r):Room k r' S:=by
 obtain ⟨a,c,b,h1,h2,h3⟩:=h
 exact ⟨a,c,b,h1,h2,by lia⟩
theorem Room.drop {k r m:Nat} {S:List Ob} (h:Room k (r + m) S):Room k r S:=h.mono (Nat.le_add_right _ _)
theorem Room.loop {k r q m:Nat} {S:List Ob} (h:Room k (r + q * (m + 1)) S):Room k (r + q * m + q) S:=by rw [Nat.mul_succ,←Nat.add_assoc] at h;exact h
theorem G2 {i j:Int} {t:T} {P:D→T→Prop} (h1:i.natAbs < 2 ^ 512) (h2:j.natAbs < 2 ^ 512) (h:P (.int (i * j)) t):W (Jm (.int i) (.int j)) t P:=
 ⟨_,_,by simp only [Jm,i2C,Lu,decide_eq_true h1,decide_eq_true h2];rfl,h⟩
theorem Kz {i j:Int} {t:T} {P:D→T→Prop} (h1:0 < j) (h2:j < 18446744073709551616) (h:P (.int (i / j)) t):W (Ic (.int i) (.int j)) t P:=
 ⟨_,_,by simp only [Ic,i2C,K9,decide_eq_true h1,decide_eq_true h2];rfl,h⟩
theorem D7 {i:Int} (h0:0≤i) (h:i < 10000000000000000000000000000000000000000000000000000000000000000000000000000000):i.natAbs < 2 ^ 512:=by
 have:(10000000000000000000000000000000000000000000000000000000000000000000000000000000:Nat)≤2 ^ 512:=by decide
 lia
theorem CS {k:Nat} {S:List Ob} {o o':Ob} (h:S[k]?=some o):(S.set k o')[k]?=some o':=GJ h
def PTakeOk (f:Fn):Prop:=∀(k r:Nat) (S:List Ob) (m:Int),0 < m→m < 4611686018427387904→Room k (r + 1) S→Wf f [.obj k,.int m] S fun v S'=>(∃i,v = .int i∧0≤i∧i < m)∧Room k r S'
theorem PTakeOk.use {f:Fn} (h:PTakeOk f) {k r:Nat} {S:List Ob} {m:Int} (many:Int) (d:Room k (r + 1) S) {P:D→List Ob→Prop} (p:∀i S',0≤i→i < many→Room k r S'→P (.int i) S') (e:m=many:=by first | rfl | decide) (h1:0 < many:=by decide) (h2:many < 4611686018427387904:=by decide):Wf f [.obj k,.int m] S P:=by
 subst e
 exact (h k r S m h1 h2 d).mono fun v S' ⟨⟨i,e,i0,i1⟩,q⟩=>by subst e;exact p i S' i0 i1 q
theorem Qe:PTakeOk (fnOf 2 3 Cd):=by
 intro k n S m hm0 hm1 ⟨a,c,b,hS,c0,c1⟩
 refine A4 rfl ?_
 unfold Cd
 walk_at "w"
 refine Dn hS Jw ?_
 walk_at "w"
 refine Dn hS LI ?_
 walk_at "w"
 refine BZ (fun z=>?_) fun z=>?_
 ·walk_at "w"
  refine Kz hm0 (by lia) ?_
  refine E1 ?_
  walk_at "w"
  refine DG hS (by show 3 < 100000;decide) ?_
  rw [Fu]
  walk_at "w"
  refine L8 hm0 ?_
  exact ⟨⟨_,rfl,Int.emod_nonneg _ (by lia),Int.emod_lt_of_pos _ hm0⟩,_,_,_,CS hS,c0,by lia⟩
 ·walk_at "w"
  refine Dn hS FT ?_
  walk_at "w"
  refine E1 ?_
  walk_at "w"
  refine DG hS (by show 3 < 100000;decide) ?_
  rw [LK]
  have g1:(S.set k (.dct (BP (.int a) (.bl b) (.int (c + 1)))))[k]?=some (.dct (BP (.int a) (.bl b) (.int (c + 1)))):=CS hS
  refine Cj ?_
  change W _ ⟨[some (.val (.obj k)),some (.val (.int m)),some (.val (.int a))],S.set k (.dct (BP (.int a) (.bl b) (.int (c + 1))))⟩ _
  generalize S.set k (.dct (BP (.int a) (.bl b) (.int (c + 1))))=S1 at g1 ⊢
  walk_at "w"
  have a0:=Int.emod_nonneg a (b:=1000000000163) (by decide)
  have a1:=Int.emod_lt_of_pos a (b:=1000000000163) (by decide)
  generalize a % 1000000000163=x at a0 a1
  refine Dn g1 FT ?_
  obtain ⟨s,es⟩:∃s,s=c + 1:=⟨_,rfl⟩
  rw [←es]
  rw [←es] at g1
  have s0:0≤s:=by lia
  have s1:s≤1000000000000000000000000000000:=by lia
  refine G2 (by decide) (D7 s0 (by lia)) ?_
  walk_at "w"
  refine G2 (D7 (by lia) (by lia)) (D7 (by lia) (by lia)) ?_
  walk_at "w"
  have b0:=Int.emod_nonneg ((x + 70001 * s) * (x + 70001 * s + 29)) (b:=1000000000193) (by decide)
  have b1:=Int.emod_lt_of_pos ((x + 70001 * s) * (x + 70001 * s + 29)) (b:=1000000000193) (by decide)
  generalize (x + 70001 * s) * (x + 70001 * s + 29) % 1000000000193=y at b0 b1
  refine G2 (D7 (by lia) (by lia)) (D7 (by lia) (by lia)) ?_
  walk_at "w"
  refine E1 ?_
  walk_at "w"
  refine DG g1 (by show 3 < 100000;decide) ?_
  rw [Fu]
  walk_at "w"
  refine Kz (by decide) (by decide) ?_
  walk_at "w"
  refine L8 hm0 ?_
  exact ⟨⟨_,rfl,Int.emod_nonneg _ (by lia),Int.emod_lt_of_pos _ hm0⟩,_,_,_,CS g1,by lia,by lia⟩
def GE (f:Fn):Prop:=∀(ns:List Int) (k:Nat),k≤1000→∃c:Int,Pure1 f [.scr ns,.int k] (.int c)
theorem P2:GE (fnOf 2 2 Cv):=by
 intro ns k hk
 by_cases z:k < ns.length
 ·refine ⟨ns[k],fun S=>A4 rfl ?_⟩
  unfold Cv
  walk_at "w"
  refine Hn (decide_eq_true (by lia)) ?_
  walk_at "w"
  refine W_ix_scr.mpr ⟨ns[k],?_,?_⟩
  ·unfold atI
   rw [Ca (by lia) (by lia)]
   show ns[(k:Int).toNat]?=_
   rw [Int.toNat_natCast,List.getElem?_eq_getElem z]
  ·walk_at "w"
   exact ⟨rfl,rfl⟩
 ·refine ⟨0,fun S=>A4 rfl ?_⟩
  unfold Cv
  walk_at "w"
  refine Ji (decide_eq_false (by lia)) ?_
  walk_at "w"
  exact ⟨rfl,rfl⟩
theorem Fh {S:List Ob} {x:Ob}:(S++[x])[S.length]?=some x:=by simp
def GF (f:Fn):Prop:=∀(ns:List Int) (k:Nat) (S:List Ob),k≤1000→Wf f [.scr ns,.int k] S fun r S'=>∃n,r = .obj n∧Room n 900000000000000000000000000000 S'
theorem Qa {cc:Fn} (hc:GE cc):GF (fnOf 2 3 (Cc cc)):=by
 intro ns k S hk
 obtain ⟨c,hc⟩:=hc ns k hk
 refine A4 rfl ?_
 unfold Cc
 walk_at "w"
 refine hc.use ?_
 walk_at "w"
 refine IK ?_
 refine BS ?_
 walk_at "w"
 refine BS ?_
 walk_at "w"
 refine BS ?_
 walk_at "w"
 refine IL (Fq (by decide) (by decide)) ?_
 walk_at "w"
 refine El ?_
 refine ⟨Fh,by show 3≤15;decide,S.length,rfl,?_⟩
 exact ⟨c,3 + 5 * (k:Int),_,(CS Fh).trans (congrArg (fun l=>some (Ob.dct l)) LH),by lia,by lia⟩
def cs:Nat→Nat
 | 0=>10
 | d + 1=>10 + 3 * cs d
theorem UH (d:Nat):10≤cs d:=by cases d <;> simp [cs]
theorem EU {n m:Nat} (h:n≤m) (hm:m≤1000:=by decide):B1 (n:Int)=true:=CF (by lia) (by lia)
theorem EK {α:Type} {l:List α} {x:α} {m n:Nat} (h:l.length + (m + 1)=n):(l++[x]).length + m=n:=by rw [List.length_append,←h];simp only [List.length_cons,List.length_nil];lia
theorem Fp {α:Type} {l:List α} {x:α} {p:α→Prop} (h:∀y∈l,p y) (hx:p x):∀y∈l++[x],p y:=fun y hy=>by
 rcases List.mem_append.mp hy with h' | h'
 ·exact h y h'
 ·rw [List.mem_singleton] at h';subst h';exact hx
theorem Fo {a n:Nat} (h:a≤n) (hn:n≤100000:=by decide):a≤LIM:=Nat.le_trans h hn
theorem V4 {ss:List Sh} {n:Nat} (h:∀x∈ss,x.depth≤n):(Sh.choice ss).depth≤n + 1:=by
 rw [Sh.depth]
 refine Nat.succ_le_succ ?_
 induction ss with
 | nil=>rw [Ee];exact Nat.zero_le _
 | cons x r ih=>rw [Ee];exact Nat.max_le.mpr ⟨h x List.mem_cons_self,ih fun y m=>h y (List.mem_cons_of_mem _ m)⟩
structure Drawn (k r:Nat) (dp:Nat) (v:D) (S':List Ob):Prop where
 ex:∃s:Sh,v=s.d∧s.depth≤dp∧wf s=true
 pool:Room k r S'
def PShapeOk (f:Fn) (n:Nat):Prop:=∀(d k r:Nat) (S:List Ob),d < n→Room k (r + cs d) S→Wf f [.obj k,.int d] S fun v S'=>Drawn k r (d + 1) v S'
theorem PShapeOk.use {f:Fn} {n:Nat} (h:PShapeOk f n) {d k r:Nat} {S:List Ob} (hd:d < n) (q:Room k (r + cs d) S) {P:D→List Ob→Prop} (p:∀s S',s.depth≤d + 1→wf s=true→Room k r S'→P s.d S'):Wf f [.obj k,.int d] S P:=
 (h d k r S hd q).mono fun v S' ⟨⟨s,e,h1,h2⟩,q⟩=>by subst e;exact p s S' h1 h2 q
theorem OO {ct cr:Fn} {n:Nat} (ht:PTakeOk ct) (hr:n=0∨PShapeOk cr n):PShapeOk (fnOf 2 4 (CP ct cr)) (n + 1):=by
 intro d k r S hd p0
 refine A4 rfl ?_
 unfold CP
 have hcs:=UH d
 walk_at "w"
 refine IL (Fq (by decide) (by decide)) ?_
 walk_at "w"
 refine ht.use (r:=r + (cs d - 1)) (if d=0 then 3 else 6) (p0.mono (by lia)) (fun i S1 i0 i1 p1=>?_) ?_ (by split <;> decide) (by split <;> decide)
 ·walk_at "w"
  refine BZ (fun z=>?_) fun z=>?_
  ·walk_at "w"
   exact ⟨⟨.nothing,by rw [Sh.d],by show 1≤_;lia,rfl⟩,p1.drop⟩
  walk_at "w"
  refine BZ (fun y=>?_) fun y=>?_
  ·walk_at "w"
   refine ht.use (r:=r + 8) 9 (p1.mono (by lia)) fun a S2 a0 a1 p2=>?_
   walk_at "w"
   refine ht.use (r:=r + 7) 100000000000000000 p2 fun b S3 b0 b1 p3=>?_
   walk_at "w"
   refine ht.use (r:=r + 6) 3 p3 fun g S4 z0 z1 p4=>?_
   have e16:(10:Int) ^ (16:Int).toNat=10000000000000000:=by decide
   rw [e16]
   obtain ⟨dd,ed,lo,rfl,l0,l1⟩:=C3 (xs:=[D.int 0,D.int (a - 4),D.int (b - 10000000000000000)]) z0 (by simpa using z1) (p:=fun d=>∃m:Int,d = .int m∧-100000000000000000≤m∧m≤100000000000000000) (by
    simp only [List.forall_mem_cons]
    clear z0 z1 ht p4 p3 p2 p1 p0
    exact ⟨⟨_,rfl,by decide,by decide⟩,⟨_,rfl,by lia,by lia⟩,⟨_,rfl,by lia,by lia⟩,fun _ z=>nomatch z⟩)
   refine BB ed ?_
   walk_at "w"
   refine ht.use (r:=r + 5) 100000000000000000 p4 fun x S5 x0 x1 p5=>?_
   walk_at "w"
   refine ht.use (r:=r + 4) 7 p5 fun h S6 h0 h1 p6=>?_
   obtain ⟨dd,ed,hi,rfl,m0,m1⟩:=C3 (xs:=[D.int 0,D.int 1,D.int 255,D.int 256,D.int 300,D.int 70000,D.int x]) h0 (by simpa using h1) (p:=fun d=>∃m:Int,d = .int m∧0≤m∧m≤100000000000000000) (by
    simp only [List.forall_mem_cons]
    exact ⟨⟨_,rfl,by decide,by decide⟩,⟨_,rfl,by decide,by decide⟩,⟨_,rfl,by decide,by decide⟩,⟨_,rfl,by decide,by decide⟩,⟨_,rfl,by decide,by decide⟩,⟨_,rfl,by decide,by decide⟩,⟨_,rfl,x0,Int.le_of_lt x1⟩,fun _ z=>nomatch z⟩)
   refine BB ed ?_
   walk_at "w"
   refine ⟨⟨.number lo (lo + hi),by rw [Sh.d],by show 1≤_;lia,?_⟩,p6.drop⟩
   simp only [wf,Bool.and_eq_true,decide_eq_true_eq]
   clear p0 p1 p2 p3 p4 p5 p6
   lia
  walk_at "w"
  refine BZ (fun x=>?_) fun x=>?_
  ·walk_at "w"
   refine ht.use (r:=r + 8) 4 (p1.mono (by lia)) fun g S4 z0 z1 p4=>?_
   obtain ⟨dd,ed,m,rfl,m0,m1⟩:=C3 (xs:=[D.int 0,D.int 1,D.int 5,D.int 250]) z0 (by simpa using z1) (p:=fun d=>∃m:Int,d = .int m∧0≤m∧m≤250) (by
    simp only [List.forall_mem_cons]
    exact ⟨⟨_,rfl,by decide,by decide⟩,⟨_,rfl,by decide,by decide⟩,⟨_,rfl,by decide,by decide⟩,⟨_,rfl,by decide,by decide⟩,fun _ z=>nomatch z⟩)
   refine BB ed ?_
   walk_at "w"
   refine ⟨⟨.text m,by rw [Sh.d],by show 1≤_;lia,?_⟩,p4.drop⟩
   simp only [wf,Bool.and_eq_true,decide_eq_true_eq]
   exact ⟨m0,m1⟩
  have i3:3≤i:=by
   have z':¬i=0:=by simpa using z
   have y':¬i=1:=by simpa using y
   have x':¬i=2:=by simpa using x
   lia
  obtain ⟨d,rfl⟩:∃e,d=e + 1:=⟨d - 1,by
   have:¬d=0:=fun e=>by rw [if_pos e] at i1;lia
   lia⟩
  have e0:(((d + 1:Nat):Int) - 1)=(d:Int):=by lia
  rcases hr with rfl | hr
  ·exact absurd (Nat.lt_of_succ_lt_succ hd) (Nat.not_lt_zero _)
  have hd':=Nat.lt_of_succ_lt_succ hd
  have ec:cs (d + 1)=10 + 3 * cs d:=rfl
  rw [ec] at p1
  replace p1:Room k (r + 9 + 3 * cs d) S1:=p1.mono (by lia)
  clear p0 hcs ec
  walk_at "w"
  refine BZ (fun w=>?_) fun w=>?_
  ·walk_at "w"
   rw [e0]
   refine hr.use (r:=r + 9) hd' (p1.mono (by lia)) fun s S2 s1 s2 p2=>?_
   walk_at "w"
   refine ht.use (r:=r + 8) 4 p2 fun g S4 z0 z1 p4=>?_
   obtain ⟨dd,ed,m,rfl,m0,m1⟩:=C3 (xs:=[D.int 0,D.int 2,D.int 6,D.int 250]) z0 (by simpa using z1) (p:=fun d=>∃m:Int,d = .int m∧0≤m∧m≤250) (by
    simp only [List.forall_mem_cons]
    exact ⟨⟨_,rfl,by decide,by decide⟩,⟨_,rfl,by decide,by decide⟩,⟨_,rfl,by decide,by decide⟩,⟨_,rfl,by decide,by decide⟩,fun _ z=>nomatch z⟩)
   refine BB ed ?_
   walk_at "w"
   refine ⟨⟨.list s m,by rw [Sh.d],by rw [Sh.depth];lia,?_⟩,p4.drop⟩
   simp only [wf,Bool.and_eq_true,decide_eq_true_eq]
   exact ⟨⟨m0,m1⟩,s2⟩
  walk_at "w"
  refine BZ (fun v=>?_) fun v=>?_
  ·walk_at "w"
   rw [e0]
   refine hr.use (r:=r + cs d) hd' (p1.mono (by lia)) fun s S2 s1 s2 p2=>?_
   walk_at "w"
   rw [e0]
   refine hr.use hd' p2 fun s' S3 s3 s4 p3=>?_
   walk_at "w"
   exact ⟨⟨.pair s s',by rw [Sh.d],by rw [Sh.depth];lia,by simp only [wf,s2,s4,Bool.and_self]⟩,p3⟩
  walk_at "w"
  refine ht.use (r:=r + 3 * cs d) 3 (p1.mono (by lia)) fun a S3 a0 a1 p3=>?_
  walk_at "w"
  obtain ⟨m,em⟩:=Int.eq_ofNat_of_zero_le (Int.add_nonneg (by decide:(0:Int)≤1) a0)
  rw [em]
  have m13:1≤m∧m≤3:=by clear p1 p3;lia
  refine EZ (EU m13.2) ?_
  refine (DO (P:=fun xs t'=>∃ss:List Sh,xs=ss.map Sh.d∧ss.length=m∧(∀s∈ss,s.depth≤d + 1∧wf s=true)∧Room k r t'.S) (fun acc q t=>∃(ss:List Sh) (S':List Ob) (z:Option Sl),acc=ss.map Sh.d∧ss.length + q.length=m∧(∀s∈ss,s.depth≤d + 1∧wf s=true)∧Room k (r + cs d * q.length) S'∧t=⟨[z,some (.val (.obj k)),some (.val (.int ((d + 1:Nat):Int)))],S'⟩) _ [] _ ⟨[],S3,_,rfl,by simp [rngL],by simp,p3.mono (by rw [BY,Int.toNat_natCast,Nat.mul_comm];exact Nat.add_le_add_left (Nat.mul_le_mul_right _ m13.2) _),rfl⟩ ?_ ?_).mono ?_
  ·rintro acc d' q t ⟨ss,S',z,rfl,h1,h2,h3,rfl⟩ _
   rw [List.length_cons] at h1 h3
   refine Gz (HM ?_)
   rw [if_pos rfl]
   walk_at "w"
   rw [e0]
   refine hr.use hd' h3.loop fun s S5 q1 q2 q3=>?_
   exact ⟨ss++[s],S5,_,by rw [List.map_append];rfl,EK h1,Fp h2 ⟨q1,q2⟩,q3,rfl⟩
  ·rintro acc t ⟨ss,S',z,rfl,h1,h2,h3,rfl⟩
   exact ⟨ss,rfl,h1,h2,h3⟩
  ·rintro xs t' ⟨ss,hxs,h1,h2,h3⟩
   rw [List.nil_append] at hxs
   subst hxs
   refine Cg (Fo (n:=3) (by rw [List.length_map,h1];exact m13.2)) ?_
   walk_at "w"
   refine ⟨⟨.choice ss,by rw [Sh.d,LT],V4 fun x hx=>(h2 x hx).1,?_⟩,h3⟩
   simp only [wf,Bool.and_eq_true,decide_eq_true_eq]
   exact ⟨⟨by lia,by lia⟩,O3 fun x hx=>(h2 x hx).2⟩
 ·by_cases e:d=0
  ·subst e;decide
  ·rw [if_neg e]
   have:decide ((d:Int) > 0)=true:=decide_eq_true (by lia)
   rw [this];decide
theorem Pp {s:Sh} {q:Int} {m:Nat} (h:(Sh.list s q).depth≤m + 1):s.depth≤m:=by rw [Sh.depth] at h;exact Nat.le_of_succ_le_succ h
theorem La {a b:Sh} {m:Nat} (h:(Sh.pair a b).depth≤m + 1):a.depth≤m∧b.depth≤m:=by rw [Sh.depth] at h;lia
theorem Po {ss:List Sh} {m:Nat} (h:(Sh.choice ss).depth≤m + 1):∀x∈ss,x.depth≤m:=fun x hx=>by rw [Sh.depth] at h;exact Nat.le_trans (JY hx) (Nat.le_of_succ_le_succ h)
theorem Kw {ss:List Sh} {k:Nat} (h:k < ss.length):atI (shD ss) (k:Int)=some (ss[k]).d:=by
 unfold atI
 rw [Ca (by lia) (by rw [CY];lia)]
 show (shD ss)[(k:Int).toNat]?=_
 rw [Int.toNat_natCast,G0,List.getElem?_eq_getElem h];rfl
def sg11:Str:=" !#09AZaz~{"
theorem MX {i:Int} (h0:0≤i) (h1:i < 11):∃c,atI sg11.cps.toList i=some c∧CT c=true:=by
 have hl:sg11.cps.toList.length=11:=by decide +kernel
 have ha:sg11.cps.toList.all CT=true:=by decide +kernel
 have hi:i.toNat < sg11.cps.toList.length:=by lia
 refine ⟨sg11.cps.toList[i.toNat],?_,List.all_eq_true.mp ha _ (List.getElem_mem hi)⟩
 unfold atI
 rw [Ca h0 (by lia)]
 show sg11.cps.toList[i.toNat]?=_
 rw [List.getElem?_eq_getElem hi]
def vB:Nat→Nat
 | 0=>10
 | m + 1=>10 + vB m * 3
theorem Room.vA {k r m:Nat} {S:List Ob} (h:Room k (r + vB (m + 1)) S):Room k (r + 10) S:=h.mono (by rw [vB];lia)
theorem Room.vL {k r m:Nat} {S:List Ob} (h:Room k (r + vB (m + 1)) S):Room k (r + vB m * 3 + 1) S:=h.mono (by rw [vB];lia)
theorem Room.vP {k r m:Nat} {S:List Ob} (h:Room k (r + vB (m + 1)) S):Room k (r + vB m + vB m) S:=h.mono (by rw [vB];lia)
theorem Room.vC {k r m:Nat} {S:List Ob} (h:Room k (r + vB (m + 1)) S):Room k (r + vB m + 1) S:=h.mono (by rw [vB];lia)
theorem Kx {n m:Nat} (h:n≤10):n≤vB (m + 1):=by rw [vB];lia
theorem Uu {n m:Nat} (h:n≤vB m * 3):n + 1≤vB (m + 1):=by rw [vB];lia
theorem Uv {n p m:Nat} (h:n≤vB m) (h2:p≤vB m):n + p≤vB (m + 1):=by rw [vB];lia
theorem Ut {n m:Nat} (h:n≤vB m):n + 1≤vB (m + 1):=by rw [vB];lia
theorem MB {A v b l c:Nat} (h:A + b * (l + 1)≤c) (hv:v≤b):A + v + b * l≤c:=by rw [Nat.mul_succ] at h;lia
theorem OD {lo hi:Int} (h:wf (.number lo hi)=true):lo≤hi∧0 < hi - lo + 1∧hi - lo + 1 < 4611686018427387904∧wid (hi - lo).toNat≤8:=by
 simp only [wf,Bool.and_eq_true,decide_eq_true_eq] at h
 refine ⟨by lia,by lia,by lia,Mb 8 _ ?_⟩
 have:(256:Nat) ^ 8=18446744073709551616:=by decide
 lia
theorem MI {lo hi g:Int} (z0:0≤g) (z1:g < hi - lo + 1):lo≤lo + g∧lo + g≤hi:=by lia
theorem Kt {g q:Int} (c:Nat) (g0:0≤g) (q0:0≤q) (g1:g < (c:Int) + 1):∃m:Nat,(if g < q then g else q)=m∧m≤c∧(m:Int)≤q:=⟨(if g < q then g else q).toNat,by split <;> lia⟩
structure Val (k r:Nat) (s:Sh) (c:Nat) (v:D) (S':List Ob):Prop where
 fit:Ax s v=true
 len:(Bn s v).length≤c
 pool:Room k r S'
def PValOk (f:Fn) (m:Nat):Prop:=∀(s:Sh) (k r:Nat) (S:List Ob),s.depth≤m→wf s=true→Room k (r + vB m) S→Wf f [.obj k,s.d] S fun v S'=>Val k r s (vB m) v S'
theorem Sf {cv ct:Fn} {m:Nat} (ht:PTakeOk ct) (hv:m=0∨PValOk cv m):PValOk (fnOf 2 5 (B4 cv ct)) (m + 1):=by
 intro s k r S hd hw p0
 have rec_:∀{s':Sh} {r':Nat} {S':List Ob} {P:D→List Ob→Prop},s'.depth≤m→wf s'=true→Room k (r' + vB m) S'→(∀v S'',Ax s' v=true→(Bn s' v).length≤vB m→Room k r' S''→P v S'')→Wf cv [.obj k,s'.d] S' P:=fun {s' r' S' P} h1 h2 q p=>by
  rcases hv with rfl | hv
  ·exact absurd (Nat.lt_of_lt_of_le s'.depth_pos h1) (Nat.not_lt_zero _)
  ·exact (hv s' k r' S' h1 h2 q).mono fun v S'' ⟨g1,g2,g3⟩=>p v S'' g1 g2 g3
 refine A4 rfl ?_
 unfold B4
 cases s with
 | nothing=>
   rw [Sh.d]
   walk_at "w"
   exact ⟨by rw [Ax];rfl,by rw [Bn];exact Nat.zero_le _,p0.drop⟩
 | number lo hi=>
   obtain ⟨w0,w1,w2,w3⟩:=OD hw
   rw [Sh.d]
   walk_at "w"
   refine ht.use (r:=r + 9) (hi - lo + 1) p0.vA (fun g S1 z0 z1 p1=>?_) rfl w1 w2
   walk_at "w"
   refine ht.use (r:=r + 8) 3 p1 fun i S2 i0 i1 p2=>?_
   obtain ⟨d,ed,q,rfl,q0,q1⟩:=C3 (xs:=[D.int lo,D.int hi,D.int (lo + g)]) i0 (by simpa using i1) (p:=fun d=>∃m:Int,d = .int m∧lo≤m∧m≤hi) (by
    simp only [List.forall_mem_cons]
    exact ⟨⟨_,rfl,Int.le_refl _,w0⟩,⟨_,rfl,w0,Int.le_refl _⟩,⟨_,rfl,MI z0 z1⟩,fun _ z=>nomatch z⟩)
   refine BB ed ?_
   exact ⟨by simp only [Ax,Bool.and_eq_true,decide_eq_true_eq];exact ⟨q0,q1⟩,by rw [Bn,Lv];exact Kx (Nat.le_trans w3 (by decide)),p2.drop⟩
 | text q=>
   simp only [wf,Bool.and_eq_true,decide_eq_true_eq] at hw
   rw [Sh.d]
   walk_at "w"
   refine QU ?_
   walk_at "w"
   refine ht.use (r:=r + 9) 7 p0.vA fun g S1 z0 z1 p1=>?_
   walk_at "w"
   obtain ⟨n,en,n3,nq⟩:=Kt 6 z0 hw.1 z1
   rw [en]
   refine EZ (EU n3) ?_
   refine (DO (P:=fun xs t'=>∃ns:List Nat,xs=ns.map (fun n=>D.str ⟨#[n]⟩)∧ns.all CT=true∧ns.length=n∧Room k r t'.S) (fun acc q t=>∃(ns:List Nat) (S':List Ob) (z:Option Sl),acc=ns.map (fun n=>D.str ⟨#[n]⟩)∧ns.all CT=true∧ns.length + q.length=n∧Room k (r + 1 * q.length) S'∧t=⟨[z,some (.val (.str sg11)),some (.val (.obj k))],S'⟩) _ [] _ ⟨[],S1,_,rfl,rfl,by simp [rngL],p1.mono (by rw [BY,Int.toNat_natCast];exact Nat.add_le_add_left (Nat.le_trans (Nat.mul_le_mul_left 1 n3) (by decide)) _),rfl⟩ ?_ ?_).mono ?_
   ·rintro acc d q t ⟨ns,S',z,rfl,h1,h2,h3,rfl⟩ _
    rw [List.length_cons] at h2 h3
    refine Gz (HM ?_)
    rw [if_pos rfl]
    walk_at "w"
    refine ht.use 11 h3.loop fun i S5 i0 i1 p5=>?_
    obtain ⟨c,ec,hc⟩:=MX i0 i1
    refine W_ix_str.mpr ⟨by decide +kernel,c,ec,?_⟩
    refine ⟨ns++[c],S5,_,by rw [List.map_append];rfl,by simp [List.all_append,h1,hc],EK h2,p5,rfl⟩
   ·rintro acc t ⟨ns,S',z,rfl,h1,h2,h3,rfl⟩
    exact ⟨ns,rfl,h1,h2,h3.drop⟩
   ·rintro xs t' ⟨ns,e,h1,h2,h3⟩
    rw [List.nil_append] at e
    subst e h2
    refine Cg (Fo (n:=6) (by rw [List.length_map];exact n3)) ?_
    walk_at "w"
    refine ⟨_,_,_,rfl,rfl,EW ns,⟨by decide +kernel,by rw [List.length_map];clear p0 p1;lia⟩,?_⟩
    refine HJ ?_
    refine ⟨?_,?_,h3⟩
    ·rw [Ax]
     simp only [Bool.and_eq_true,decide_eq_true_eq]
     rw [DK,Ew]
     exact ⟨nq,h1⟩
    ·rw [Bn,List.length_cons,List.length_map,Ew]
     exact Kx (Nat.le_trans (Nat.succ_le_succ n3) (by decide))
 | list s q=>
   simp only [wf,Bool.and_eq_true,decide_eq_true_eq] at hw
   rw [Sh.d]
   walk_at "w"
   refine ht.use 4 p0.vL fun g S1 z0 z1 p1=>?_
   walk_at "w"
   obtain ⟨n,en,n2,nq⟩:=Kt 3 z0 hw.1.1 z1
   rw [en]
   have nb2:vB m * n≤vB m * 3:=Nat.mul_le_mul_left _ n2
   refine EZ (EU n2) ?_
   refine (DO (P:=fun xs t'=>(∀x∈xs,Ax s x=true)∧xs.length=n∧((xs.map fun d=>Bn s d).flatten).length≤vB m * 3∧Room k r t'.S) (fun acc l t=>∃(S':List Ob) (z:Option Sl),(∀x∈acc,Ax s x=true)∧acc.length + l.length=n∧((acc.map fun d=>Bn s d).flatten).length + vB m * l.length≤vB m * 3∧Room k (r + vB m * l.length) S'∧t=⟨[z,some (.val (.obj k)),some (.val (.tup [.str "list",s.d,.int q]))],S'⟩) _ [] _ ⟨S1,_,by simp,by simp [rngL],by rw [BY,Int.toNat_natCast];exact Nat.le_trans (Nat.le_of_eq (Nat.zero_add _)) nb2,p1.mono (by rw [BY,Int.toNat_natCast];exact Nat.add_le_add_left nb2 _),rfl⟩ ?_ ?_).mono ?_
   ·rintro acc d l t ⟨S',z,h1,h2,h3,h4,rfl⟩ _
    rw [List.length_cons] at h2 h3 h4
    refine Gz (HM ?_)
    rw [if_pos rfl]
    walk_at "w"
    refine rec_ (Pp hd) hw.2 h4.loop fun v S5 f1 f2 p5=>?_
    refine ⟨S5,_,Fp h1 f1,EK h2,?_,p5,rfl⟩
    rw [List.map_append,List.flatten_append,List.length_append]
    simp only [List.map_cons,List.map_nil,List.flatten_cons,List.flatten_nil,List.append_nil]
    exact MB h3 f2
   ·rintro acc t ⟨S',z,h1,h2,h3,h4,rfl⟩
    exact ⟨h1,h2,h3,h4.drop⟩
   ·rintro xs t' ⟨h1,h2,h3,h4⟩
    rw [List.nil_append] at h1 h2 h3
    subst h2
    refine Cg (Fo (n:=3) n2) ?_
    refine ⟨?_,by rw [Bn,List.length_cons];exact Uu h3,h4⟩
    rw [Ax,Bool.and_eq_true,decide_eq_true_eq,List.all_eq_true]
    exact ⟨nq,h1⟩
 | pair a b=>
   simp only [wf,Bool.and_eq_true] at hw
   rw [Sh.d]
   walk_at "w"
   refine rec_ (La hd).1 hw.1 p0.vP fun v S1 f1 f2 p1=>?_
   walk_at "w"
   refine rec_ (La hd).2 hw.2 p1 fun u S2 g1 g2 p2=>?_
   walk_at "w"
   exact ⟨by simp only [Ax,f1,g1,Bool.and_self],by rw [Bn,List.length_append];exact Uv f2 g2,p2⟩
 | choice ss=>
   simp only [wf,Bool.and_eq_true,decide_eq_true_eq] at hw
   rw [Sh.d]
   walk_at "w"
   rw [CY]
   refine ht.use (ss.length:Int) p0.vC (fun i S1 i0 i1 p1=>?_) rfl (by clear p0;lia) (by clear p0;lia)
   obtain ⟨j,rfl⟩:=Int.eq_ofNat_of_zero_le i0
   have hj:j < ss.length:=Int.ofNat_lt.mp i1
   have e1:ss[j]?=some ss[j]:=List.getElem?_eq_getElem hj
   walk_at "w"
   refine EY (Kw hj) ?_
   walk_at "w"
   refine rec_ (Po hd _ (List.getElem_mem hj)) (D2 hw.2 _ (List.getElem_mem hj)) p1 fun v S2 f1 f2 p2=>?_
   walk_at "w"
   have hof:FO (Str.ofString "of")=true:=by decide +kernel
   refine ⟨?_,?_,p2⟩
   ·simp only [Ax,Bool.and_eq_true,decide_eq_true_eq]
    exact ⟨⟨hof,i0,i1⟩,by rw [Int.toNat_natCast,Cu ss _ _ _ e1];exact f1⟩
   ·rw [Bn,Int.toNat_natCast,Ef ss _ _ _ e1,List.length_cons]
    exact Ut f2
theorem JU:∀w n,∀x∈nb w n,∃i:Int,x = .int i
 | 0,n=>fun x h=>by simp [nb] at h
 | w + 1,n=>fun x h=>by
   rw [nb] at h
   rcases List.mem_append.mp h with h | h
   ·exact JU w _ x h
   ·rw [List.mem_singleton] at h;exact ⟨_,h⟩
theorem Ds:∀(n:Nat) (s:Sh),s.depth≤n→∀d,Ax s d=true→∀x∈Bn s d,∃i:Int,x = .int i
 | 0,s,h,_,_=>absurd s.depth_pos (by lia)
 | n + 1,s,hs,d,hf=>by
   intro x hx
   cases s with
   | nothing=>simp [Bn] at hx
   | number lo hi=>cases d <;> simp only [Bn,List.not_mem_nil] at hx;exact JU _ _ x hx
   | text q=>
     cases d <;> simp only [Bn,List.not_mem_nil] at hx
     rcases List.mem_cons.mp hx with h | h
     ·exact ⟨_,h⟩
     ·obtain ⟨k,_,e⟩:=List.mem_map.mp h;exact ⟨_,e.symm⟩
   | list s q=>
     rw [Sh.depth] at hs
     cases d <;> simp only [Ax,Bool.false_eq_true] at hf
     simp only [Bool.and_eq_true,List.all_eq_true] at hf
     rw [Bn] at hx
     rcases List.mem_cons.mp hx with h | h
     ·exact ⟨_,h⟩
     ·obtain ⟨l,hl,hx⟩:=List.mem_flatten.mp h
      obtain ⟨d',hd',rfl⟩:=List.mem_map.mp hl
      exact Ds n s (by lia) d' (hf.2 d' hd') x hx
   | pair s r=>
     rw [Sh.depth] at hs
     unfold Ax at hf
     split at hf
     ·rw [Bool.and_eq_true] at hf
      rw [Bn] at hx
      rcases List.mem_append.mp hx with h | h
      ·exact Ds n s (by lia) _ hf.1 x h
      ·exact Ds n r (by lia) _ hf.2 x h
     ·cases hf
   | choice ss=>
     rw [Sh.depth] at hs
     unfold Ax at hf
     split at hf
     ·next o k y=>
      simp only [Bool.and_eq_true,decide_eq_true_eq] at hf
      have hk:k.toNat < ss.length:=by lia
      have e1:ss[k.toNat]?=some ss[k.toNat]:=List.getElem?_eq_getElem hk
      have h2:=hf.2
      rw [Cu ss _ _ _ e1] at h2
      rw [Bn,Ef ss _ _ _ e1] at hx
      rcases List.mem_cons.mp hx with h | h
      ·exact ⟨_,h⟩
      ·exact Ds n _ (Nat.le_trans (DM ss _ _ e1) (by lia)) _ h2 x h
     ·cases hf
def hd1 (x:Str):Option Nat:=x.cps.toList.head?
def abc9:Str:="abcdefghi"
def xyz3:Str:="xyz"
theorem Tb {j:Nat} (h:j < 9):atI abc9.cps.toList (j:Int)=some (97 + j):=by
 have:j=0∨j=1∨j=2∨j=3∨j=4∨j=5∨j=6∨j=7∨j=8:=by lia
 rcases this with rfl | rfl | rfl | rfl | rfl | rfl | rfl | rfl | rfl <;> decide +kernel
theorem Ty {n m:Nat} {k:Int} (h:k < 8):((⟨#[n]⟩:Str)++Txt.mul ⟨#[m]⟩ k).length≤90000:=by
 rw [DK,E2,List.length_append,PR,List.length_replicate]
 show 1 + _≤_
 lia
theorem US {n m:Nat} {k:Int}:hd1 ((⟨#[n]⟩:Str)++Txt.mul ⟨#[m]⟩ k)=some n:=by
 unfold hd1
 rw [E2]
 rfl
theorem UQ {ws:List (Str×Sh×Int)} (h:ws.map (fun w=>hd1 w.1)=(List.range ws.length).map fun i=>some (97 + i)):(ws.map (·.1)).Nodup:=by
 have h1:((ws.map (·.1)).map hd1).Nodup:=by
  rw [List.map_map]
  show (ws.map fun w=>hd1 w.1).Nodup
  rw [h]
  refine List.Pairwise.map _ (R:=fun a b:Nat=>a≠b) (fun a b h e=>?_) List.nodup_range
  injection e with e
  lia
 exact (List.pairwise_map.mp h1).imp fun h e=>h (congrArg hd1 e)
theorem Rt {ws:List (Str×Sh×Int)} {w:Str×Sh×Int} (h:ws.map (fun w=>hd1 w.1)=(List.range ws.length).map fun i=>some (97 + i)) (hw:hd1 w.1=some (97 + ws.length)):(ws++[w]).map (fun w=>hd1 w.1)=(List.range (ws++[w]).length).map fun i=>some (97 + i):=by
 rw [List.map_append,h,List.length_append,List.length_singleton,List.range_succ,List.map_append]
 simp [hw]
theorem t10 {a0 a1 a2 e4 e5 e6 e7 e8 e9:Option Sl} {X Y:List D} {S:List Ob} (h:X=Y):(⟨[a0,a1,a2,some (.own X),e4,e5,e6,e7,e8,e9],S⟩:T)=⟨[a0,a1,a2,some (.own Y),e4,e5,e6,e7,e8,e9],S⟩:=by subst h;rfl
theorem Wi {a0 a1 a2 a3 e4 e5 e7 e8 e9:Option Sl} {X Y:List D} {S:List Ob} (h:X=Y):(⟨[a0,a1,a2,a3,e4,e5,some (.own X),e7,e8,e9],S⟩:T)=⟨[a0,a1,a2,a3,e4,e5,some (.own Y),e7,e8,e9],S⟩:=by subst h;rfl
def okB (g:List GS):Nat→List Mv→Prop
 | _,[]=>True
 | q,(p,v) :: r=>(Bn (wdAt g q p).2.1 v).length≤400∧okB g (CQ g q p) r
theorem GO (g:List GS):∀(q:Nat) (a b:List Mv),okB g q (a++b)↔okB g q a∧okB g (AO g q a) b
 | q,[],b=>by simp [okB,AO]
 | q,(p,v) :: r,b=>by rw [List.cons_append,okB,okB,AO,GO g _ r b,and_assoc]
theorem Hu {g:List GS} {q:Nat} {a:List Mv} (h:okB g q a) (i:Nat):okB g q (a.take i):=by
 rw [←List.take_append_drop i a,GO] at h
 exact h.1
structure TOk (g:List GS) (mv:List Mv):Prop where
 ok:okQ g 0 mv
 bd:okB g 0 mv
 len:mv.length≤60
theorem PValOk.use {f:Fn} {m:Nat} (h:PValOk f m) {s:Sh} {k r:Nat} {S:List Ob} (hd:s.depth≤m) (hw:wf s=true) (q:Room k (r + vB m) S) {P:D→List Ob→Prop} (p:∀v S',Ax s v=true→(Bn s v).length≤vB m→P v S'):Wf f [.obj k,s.d] S P:=
 (h s k r S hd hw q).mono fun v S' ⟨h1,h2,_⟩=>p v S' h1 h2
theorem t14 {a0 a1 a2 a3 e7 e8 e9 e10 e11 e12 e13:Option Sl} {x y:D} {X Y X' Y':List D} {S:List Ob} (h:X=Y) (h2:x=y) (h3:X'=Y'):(⟨[a0,a1,a2,a3,some (.own X),some (.val x),some (.own X'),e7,e8,e9,e10,e11,e12,e13],S⟩:T)=⟨[a0,a1,a2,a3,some (.own Y),some (.val y),some (.own Y'),e7,e8,e9,e10,e11,e12,e13],S⟩:=by subst h h2 h3;rfl
theorem Vw {k:Nat} {h:List D→List D→Option (List D)} {g:M (List D)} {f:M D} {t:T} {P:D→T→Prop} (w:W f t fun o t1=>o = .obj k∧∃xs0,t1.S[k]?=some (.lst xs0)∧W g t1 fun ds t2=>∃xs ys,t2.S[k]?=some (.lst xs)∧h xs ds=some ys∧P .non ⟨t2.env,t2.S.set k (.lst ys)⟩):W (objM h f g) t P:=by
 unfold objM
 refine W_bnd.mpr (w.mono fun o t1 ⟨e,xs0,e1,w⟩=>?_)
 subst e
 obtain ⟨ds,t2,e2,xs,ys,e3,e4,p⟩:=w
 refine ⟨_,_,?_,p⟩
 simp only [e1,bnd,e2,e3,e4]
 rfl
def BQ (g:List GS) (sd:Str):Nat→List Mv→List D
 | _,[]=>[]
 | q,(p,v) :: r=>(if (Bx g q).side=sd then .int p :: Bn (wdAt g q p).2.1 v else [])++BQ g sd (CQ g q p) r
theorem GA (g:List GS) (sd:Str):∀(q:Nat) (a b:List Mv),BQ g sd q (a++b)=BQ g sd q a++BQ g sd (AO g q a) b
 | q,[],b=>rfl
 | q,(p,v) :: r,b=>by rw [List.cons_append,BQ,BQ,AO,GA g sd _ r b,List.append_assoc]
theorem GB (g:List GS) (sd:Str):∀(q:Nat) (a:List Mv),okB g q a→(BQ g sd q a).length≤401 * a.length
 | q,[],_=>Nat.zero_le _
 | q,(p,v) :: r,h=>by
   rw [okB] at h
   have:=GB g sd _ r h.2
   rw [BQ,List.length_append,List.length_cons]
   have h1:(if (Bx g q).side=sd then D.int p :: Bn (wdAt g q p).2.1 v else []).length≤401:=by
    split
    ·rw [List.length_cons];exact Nat.succ_le_succ h.1
    ·exact Nat.zero_le _
   lia
theorem F5 {g:List GS} (hg:GOk g) (sd:Str):∀(q:Nat) (a:List Mv),okQ g q a→∀x∈BQ g sd q a,∃i:Int,x = .int i
 | q,[],_,x,hx=>nomatch hx
 | q,(p,v) :: r,h,x,hx=>by
   rw [okQ] at h
   rw [BQ] at hx
   rcases List.mem_append.mp hx with hx | hx
   ·split at hx
    ·rcases List.mem_cons.mp hx with e | hx
     ·exact ⟨_,e⟩
     ·exact Ds _ _ (Nat.le_refl _) _ h.1.fit x hx
    ·cases hx
   ·exact F5 hg sd _ r h.2 x hx
theorem IH (g:List GS):∀(q:Nat) (a:List Mv) (i:Nat) (p:Nat) (v:D),a[i]?=some (p,v)→(Cp g q a)[i]?=some (.tup [.int (AO g q (a.take i)),.int p])
 | q,[],i,p,v,h=>by simp at h
 | q,(p',v') :: r,0,p,v,h=>by
   simp at h
   obtain ⟨rfl,rfl⟩:=h
   rfl
 | q,(p',v') :: r,i + 1,p,v,h=>by
   rw [Cp,List.getElem?_cons_succ,IH g _ r i p v (by simpa using h),List.take_succ_cons,AO]
def KD (f:Fn):Prop:=∀(g:List GS) (q p:Nat) (v:D),GOk g→MvOk g q p v→(Bn (wdAt g q p).2.1 v).length≤400→Pure1 f [(Bx g q).d,.int p,v] (.lst (.int p :: Bn (wdAt g q p).2.1 v))
theorem RD {c:Fn} (hc:GD c 3):KD (fnOf 3 3 (C6 c)):=by
 intro g q p v hg hm hb S
 have hL:LIM=100000:=rfl
 refine A4 rfl ?_
 unfold C6
 obtain ⟨side,ws,e,hpl,ew⟩:=FV hm.pl
 have hw:=F4 hg hm.lt hm.pl
 have hfit:=hm.fit
 rw [e,GS.d]
 walk_at "w"
 refine FA ?_
 walk_at "w"
 refine BB (GC ew) ?_
 unfold wdD
 walk_at "w"
 refine (hc _ hw.dep hw.ok v hfit (by lia)).use ?_
 refine ⟨_,rfl,?_⟩
 walk_at "w"
 refine Cg (by rw [hL];show 1 + _≤_;lia) ?_
 exact ⟨rfl,rfl⟩
abbrev kL:Key:=.inr (Str.ofString "left")
abbrev kRt:Key:=.inr (Str.ofString "right")
theorem kLR:¬kL=kRt:=by intro h;injection h with h;rw [Df] at h;exact absurd h (by decide)
theorem sLR:¬Str.ofString "left" = Str.ofString "right":=fun h=>kLR (congrArg Sum.inr h)
theorem Jk {a b:D}:B0 [(kL,a),(kRt,b)] kL=some a:=by simp [B0,List.find?_cons]
theorem Jl {a b:D}:B0 [(kL,a),(kRt,b)] kRt=some b:=by
 unfold B0;rw [List.find?_cons,show decide (kL=kRt)=false from decide_eq_false kLR];simp [List.find?_cons]
theorem Lp {a b:D}:CU [(kL,a),(kRt,b)]=[(kL,a),(kRt,b)]:=by
 unfold CU
 simp only [List.foldl_cons,List.foldl_nil]
 have e1:Cb [] kL a=[(kL,a)]:=by simp [Cb]
 rw [e1]
 unfold Cb
 rw [if_neg (by simp only [List.any_cons,List.any_nil,Bool.or_false,decide_eq_true_eq];exact kLR)];rfl
theorem MY {g:List GS} (hg:GOk g) {q p:Nat} {v:D} (h:MvOk g q p v):(Bx g q).side=Str.ofString "left"∨(Bx g q).side=Str.ofString "right":=by
 obtain ⟨side,ws,e,hpl,ew⟩:=FV h.pl
 have:=DZ hg h.lt
 rw [e] at this ⊢
 cases this with
 | st hs _ _ _ _=>exact hs
abbrev sL:Str:=Str.ofString "left"
abbrev sR:Str:=Str.ofString "right"
structure Wr (K A B:Nat) (S:List Ob) (xs ys:List D):Prop where
 k:S[K]?=some (.dct [(kL,.obj A),(kRt,.obj B)])
 a:S[A]?=some (.lst xs)
 b:S[B]?=some (.lst ys)
 ab:A≠B
 ka:K≠A
 kb:K≠B
theorem IE {S:List Ob} {i j:Nat} {o x:Ob} (h:i≠j) (e:S[j]?=some o):(S.set i x)[j]?=some o:=by rw [List.getElem?_set_ne h];exact e
theorem Wr.setA {K A B:Nat} {S:List Ob} {xs ys zs:List D} (h:Wr K A B S xs ys):Wr K A B (S.set A (.lst zs)) zs ys:=⟨IE (Ne.symm h.ka) h.k,GJ h.a,IE h.ab h.b,h.ab,h.ka,h.kb⟩
theorem Wr.setB {K A B:Nat} {S:List Ob} {xs ys zs:List D} (h:Wr K A B S xs ys):Wr K A B (S.set B (.lst zs)) xs zs:=⟨IE (Ne.symm h.kb) h.k,IE (Ne.symm h.ab) h.a,GJ h.b,h.ab,h.ka,h.kb⟩
def FrO (F:List (Nat×Ob)) (k:Nat) (S:List Ob):Prop:=∀p∈F,p.1≠k∧S[p.1]?=some p.2
theorem FrO.set {F:List (Nat×Ob)} {k:Nat} {S:List Ob} {o:Ob} (h:FrO F k S):FrO F k (S.set k o):=fun p hp=>⟨(h p hp).1,by rw [List.getElem?_set_ne (Ne.symm (h p hp).1)];exact (h p hp).2⟩
def FAll (F:List (Nat×Ob)) (S:List Ob):Prop:=∀p∈F,S[p.1]?=some p.2
theorem FAll.app {F:List (Nat×Ob)} {S ex:List Ob} (h:FAll F S):FAll F (S++ex):=fun p hp=>by rw [List.getElem?_append_left (List.getElem?_eq_some_iff.mp (h p hp)).1];exact h p hp
theorem FrO.all {F:List (Nat×Ob)} {k:Nat} {S:List Ob} (h:FrO F k S):FAll F S:=fun p hp=>(h p hp).2
theorem FrO.new {F:List (Nat×Ob)} {S:List Ob} {x:Ob} (h:FAll F S):FrO F S.length (S++[x]):=fun p hp=>⟨Nat.ne_of_lt (List.getElem?_eq_some_iff.mp (h p hp)).1,FAll.app h p hp⟩
theorem FrO.app {F:List (Nat×Ob)} {k:Nat} {S ex:List Ob} (h:FrO F k S):FrO F k (S++ex):=fun p hp=>⟨(h p hp).1,FAll.app h.all p hp⟩
def RoomF (F:List (Nat×Ob)) (k r:Nat) (S:List Ob):Prop:=Room k r S∧FrO F k S
theorem RoomF.mono {F:List (Nat×Ob)} {k r r':Nat} {S:List Ob} (h:RoomF F k r S) (e:r'≤r):RoomF F k r' S:=⟨h.1.mono e,h.2⟩
theorem RoomF.drop {F:List (Nat×Ob)} {k r m:Nat} {S:List Ob} (h:RoomF F k (r + m) S):RoomF F k r S:=h.mono (Nat.le_add_right _ _)
theorem RoomF.loop {F:List (Nat×Ob)} {k r q m:Nat} {S:List Ob} (h:RoomF F k (r + q * (m + 1)) S):RoomF F k (r + q * m + q) S:=⟨h.1.loop,h.2⟩
theorem RoomF.vA {F:List (Nat×Ob)} {k r m:Nat} {S:List Ob} (h:RoomF F k (r + vB (m + 1)) S):RoomF F k (r + 10) S:=⟨h.1.vA,h.2⟩
theorem RoomF.vL {F:List (Nat×Ob)} {k r m:Nat} {S:List Ob} (h:RoomF F k (r + vB (m + 1)) S):RoomF F k (r + vB m * 3 + 1) S:=⟨h.1.vL,h.2⟩
theorem RoomF.vP {F:List (Nat×Ob)} {k r m:Nat} {S:List Ob} (h:RoomF F k (r + vB (m + 1)) S):RoomF F k (r + vB m + vB m) S:=⟨h.1.vP,h.2⟩
theorem RoomF.vC {F:List (Nat×Ob)} {k r m:Nat} {S:List Ob} (h:RoomF F k (r + vB (m + 1)) S):RoomF F k (r + vB m + 1) S:=⟨h.1.vC,h.2⟩
theorem RoomF.app {F:List (Nat×Ob)} {k r:Nat} {S ex:List Ob} (h:RoomF F k r S):RoomF F k r (S++ex):=by
 obtain ⟨⟨a,c,b,h1,h2,h3⟩,h4⟩:=h
 exact ⟨⟨a,c,b,by rw [List.getElem?_append_left (List.getElem?_eq_some_iff.mp h1).1];exact h1,h2,h3⟩,h4.app⟩
def PTakeF (F:List (Nat×Ob)) (f:Fn):Prop:=∀(k r:Nat) (S:List Ob) (m:Int),0 < m→m < 4611686018427387904→RoomF F k (r + 1) S→Wf f [.obj k,.int m] S fun v S'=>(∃i,v = .int i∧0≤i∧i < m)∧RoomF F k r S'
theorem PTakeF.use {F:List (Nat×Ob)} {f:Fn} (h:PTakeF F f) {k r:Nat} {S:List Ob} {m:Int} (many:Int) (d:RoomF F k (r + 1) S) {P:D→List Ob→Prop} (p:∀i S',0≤i→i < many→RoomF F k r S'→P (.int i) S') (e:m=many:=by first | rfl | decide) (h1:0 < many:=by decide) (h2:many < 4611686018427387904:=by decide):Wf f [.obj k,.int m] S P:=by
 subst e
 exact (h k r S m h1 h2 d).mono fun v S' ⟨⟨i,e,i0,i1⟩,q⟩=>by subst e;exact p i S' i0 i1 q
theorem T1 {F:List (Nat×Ob)}:PTakeF F (fnOf 2 3 Cd):=by
 intro k n S m hm0 hm1 ⟨⟨a,c,b,hS,c0,c1⟩,fr⟩
 refine A4 rfl ?_
 unfold Cd
 walk_at "w"
 refine Dn hS Jw ?_
 walk_at "w"
 refine Dn hS LI ?_
 walk_at "w"
 refine BZ (fun z=>?_) fun z=>?_
 ·walk_at "w"
  refine Kz hm0 (by lia) ?_
  refine E1 ?_
  walk_at "w"
  refine DG hS (by show 3 < 100000;decide) ?_
  rw [Fu]
  walk_at "w"
  refine L8 hm0 ?_
  exact ⟨⟨_,rfl,Int.emod_nonneg _ (by lia),Int.emod_lt_of_pos _ hm0⟩,⟨_,_,_,CS hS,c0,by lia⟩,fr.set⟩
 ·walk_at "w"
  refine Dn hS FT ?_
  walk_at "w"
  refine E1 ?_
  walk_at "w"
  refine DG hS (by show 3 < 100000;decide) ?_
  rw [LK]
  have g1:(S.set k (.dct (BP (.int a) (.bl b) (.int (c + 1)))))[k]?=some (.dct (BP (.int a) (.bl b) (.int (c + 1)))):=CS hS
  have fr1:FrO F k (S.set k (.dct (BP (.int a) (.bl b) (.int (c + 1))))):=fr.set
  refine Cj ?_
  change W _ ⟨[some (.val (.obj k)),some (.val (.int m)),some (.val (.int a))],S.set k (.dct (BP (.int a) (.bl b) (.int (c + 1))))⟩ _
  generalize S.set k (.dct (BP (.int a) (.bl b) (.int (c + 1))))=S1 at g1 fr1 ⊢
  walk_at "w"
  have a0:=Int.emod_nonneg a (b:=1000000000163) (by decide)
  have a1:=Int.emod_lt_of_pos a (b:=1000000000163) (by decide)
  generalize a % 1000000000163=x at a0 a1
  refine Dn g1 FT ?_
  obtain ⟨s,es⟩:∃s,s=c + 1:=⟨_,rfl⟩
  rw [←es]
  rw [←es] at g1
  have s0:0≤s:=by lia
  have s1:s≤1000000000000000000000000000000:=by lia
  refine G2 (by decide) (D7 s0 (by lia)) ?_
  walk_at "w"
  refine G2 (D7 (by lia) (by lia)) (D7 (by lia) (by lia)) ?_
  walk_at "w"
  have b0:=Int.emod_nonneg ((x + 70001 * s) * (x + 70001 * s + 29)) (b:=1000000000193) (by decide)
  have b1:=Int.emod_lt_of_pos ((x + 70001 * s) * (x + 70001 * s + 29)) (b:=1000000000193) (by decide)
  generalize (x + 70001 * s) * (x + 70001 * s + 29) % 1000000000193=y at b0 b1
  refine G2 (D7 (by lia) (by lia)) (D7 (by lia) (by lia)) ?_
  walk_at "w"
  refine E1 ?_
  walk_at "w"
  refine DG g1 (by show 3 < 100000;decide) ?_
  rw [Fu]
  walk_at "w"
  refine Kz (by decide) (by decide) ?_
  walk_at "w"
  refine L8 hm0 ?_
  exact ⟨⟨_,rfl,Int.emod_nonneg _ (by lia),Int.emod_lt_of_pos _ hm0⟩,⟨_,_,_,CS g1,by lia,by lia⟩,fr1.set⟩
def KK (F:List (Nat×Ob)) (f:Fn):Prop:=∀(ns:List Int) (k:Nat) (S:List Ob),k≤1000→FAll F S→Wf f [.scr ns,.int k] S fun r S'=>∃n,r = .obj n∧RoomF F n 900000000000000000000000000000 S'
theorem TW {F:List (Nat×Ob)} {cc:Fn} (hc:GE cc):KK F (fnOf 2 3 (Cc cc)):=by
 intro ns k S hk hF
 obtain ⟨c,hc⟩:=hc ns k hk
 refine A4 rfl ?_
 unfold Cc
 walk_at "w"
 refine hc.use ?_
 walk_at "w"
 refine IK ?_
 refine BS ?_
 walk_at "w"
 refine BS ?_
 walk_at "w"
 refine BS ?_
 walk_at "w"
 refine IL (Fq (by decide) (by decide)) ?_
 walk_at "w"
 refine El ?_
 refine ⟨Fh,by show 3≤15;decide,S.length,rfl,?_⟩
 exact ⟨⟨c,3 + 5 * (k:Int),_,(CS Fh).trans (congrArg (fun l=>some (Ob.dct l)) LH),by lia,by lia⟩,FrO.set (FrO.new hF)⟩
structure ValF (F:List (Nat×Ob)) (k r:Nat) (s:Sh) (c:Nat) (v:D) (S':List Ob):Prop where
 fit:Ax s v=true
 len:(Bn s v).length≤c
 pool:RoomF F k r S'
def Km (F:List (Nat×Ob)) (f:Fn) (m:Nat):Prop:=∀(s:Sh) (k r:Nat) (S:List Ob),s.depth≤m→wf s=true→RoomF F k (r + vB m) S→Wf f [.obj k,s.d] S fun v S'=>ValF F k r s (vB m) v S'
theorem U3 {F:List (Nat×Ob)} {cv ct:Fn} {m:Nat} (ht:PTakeF F ct) (hv:m=0∨Km F cv m):Km F (fnOf 2 5 (B4 cv ct)) (m + 1):=by
 intro s k r S hd hw p0
 have rec_:∀{s':Sh} {r':Nat} {S':List Ob} {P:D→List Ob→Prop},s'.depth≤m→wf s'=true→RoomF F k (r' + vB m) S'→(∀v S'',Ax s' v=true→(Bn s' v).length≤vB m→RoomF F k r' S''→P v S'')→Wf cv [.obj k,s'.d] S' P:=fun {s' r' S' P} h1 h2 q p=>by
  rcases hv with rfl | hv
  ·exact absurd (Nat.lt_of_lt_of_le s'.depth_pos h1) (Nat.not_lt_zero _)
  ·exact (hv s' k r' S' h1 h2 q).mono fun v S'' ⟨g1,g2,g3⟩=>p v S'' g1 g2 g3
 refine A4 rfl ?_
 unfold B4
 cases s with
 | nothing=>
   rw [Sh.d]
   walk_at "w"
   exact ⟨by rw [Ax];rfl,by rw [Bn];exact Nat.zero_le _,p0.drop⟩
 | number lo hi=>
   obtain ⟨w0,w1,w2,w3⟩:=OD hw
   rw [Sh.d]
   walk_at "w"
   refine ht.use (r:=r + 9) (hi - lo + 1) p0.vA (fun g S1 z0 z1 p1=>?_) rfl w1 w2
   walk_at "w"
   refine ht.use (r:=r + 8) 3 p1 fun i S2 i0 i1 p2=>?_
   obtain ⟨d,ed,q,rfl,q0,q1⟩:=C3 (xs:=[D.int lo,D.int hi,D.int (lo + g)]) i0 (by simpa using i1) (p:=fun d=>∃m:Int,d = .int m∧lo≤m∧m≤hi) (by
    simp only [List.forall_mem_cons]
    exact ⟨⟨_,rfl,Int.le_refl _,w0⟩,⟨_,rfl,w0,Int.le_refl _⟩,⟨_,rfl,MI z0 z1⟩,fun _ z=>nomatch z⟩)
   refine BB ed ?_
   exact ⟨by simp only [Ax,Bool.and_eq_true,decide_eq_true_eq];exact ⟨q0,q1⟩,by rw [Bn,Lv];exact Kx (Nat.le_trans w3 (by decide)),p2.drop⟩
 | text q=>
   simp only [wf,Bool.and_eq_true,decide_eq_true_eq] at hw
   rw [Sh.d]
   walk_at "w"
   refine QU ?_
   walk_at "w"
   refine ht.use (r:=r + 9) 7 p0.vA fun g S1 z0 z1 p1=>?_
   walk_at "w"
   obtain ⟨n,en,n3,nq⟩:=Kt 6 z0 hw.1 z1
   rw [en]
   refine EZ (EU n3) ?_
   refine (DO (P:=fun xs t'=>∃ns:List Nat,xs=ns.map (fun n=>D.str ⟨#[n]⟩)∧ns.all CT=true∧ns.length=n∧RoomF F k r t'.S) (fun acc q t=>∃(ns:List Nat) (S':List Ob) (z:Option Sl),acc=ns.map (fun n=>D.str ⟨#[n]⟩)∧ns.all CT=true∧ns.length + q.length=n∧RoomF F k (r + 1 * q.length) S'∧t=⟨[z,some (.val (.str sg11)),some (.val (.obj k))],S'⟩) _ [] _ ⟨[],S1,_,rfl,rfl,by simp [rngL],p1.mono (by rw [BY,Int.toNat_natCast];exact Nat.add_le_add_left (Nat.le_trans (Nat.mul_le_mul_left 1 n3) (by decide)) _),rfl⟩ ?_ ?_).mono ?_
   ·rintro acc d q t ⟨ns,S',z,rfl,h1,h2,h3,rfl⟩ _
    rw [List.length_cons] at h2 h3
    refine Gz (HM ?_)
    rw [if_pos rfl]
    walk_at "w"
    refine ht.use 11 h3.loop fun i S5 i0 i1 p5=>?_
    obtain ⟨c,ec,hc⟩:=MX i0 i1
    refine W_ix_str.mpr ⟨by decide +kernel,c,ec,?_⟩
    refine ⟨ns++[c],S5,_,by rw [List.map_append];rfl,by simp [List.all_append,h1,hc],EK h2,p5,rfl⟩
   ·rintro acc t ⟨ns,S',z,rfl,h1,h2,h3,rfl⟩
    exact ⟨ns,rfl,h1,h2,h3.drop⟩
   ·rintro xs t' ⟨ns,e,h1,h2,h3⟩
    rw [List.nil_append] at e
    subst e h2
    refine Cg (Fo (n:=6) (by rw [List.length_map];exact n3)) ?_
    walk_at "w"
    refine ⟨_,_,_,rfl,rfl,EW ns,⟨by decide +kernel,by rw [List.length_map];clear p0 p1;lia⟩,?_⟩
    refine HJ ?_
    refine ⟨?_,?_,h3⟩
    ·rw [Ax]
     simp only [Bool.and_eq_true,decide_eq_true_eq]
     rw [DK,Ew]
     exact ⟨nq,h1⟩
    ·rw [Bn,List.length_cons,List.length_map,Ew]
     exact Kx (Nat.le_trans (Nat.succ_le_succ n3) (by decide))
 | list s q=>
   simp only [wf,Bool.and_eq_true,decide_eq_true_eq] at hw
   rw [Sh.d]
   walk_at "w"
   refine ht.use 4 p0.vL fun g S1 z0 z1 p1=>?_
   walk_at "w"
   obtain ⟨n,en,n2,nq⟩:=Kt 3 z0 hw.1.1 z1
   rw [en]
   have nb2:vB m * n≤vB m * 3:=Nat.mul_le_mul_left _ n2
   refine EZ (EU n2) ?_
   refine (DO (P:=fun xs t'=>(∀x∈xs,Ax s x=true)∧xs.length=n∧((xs.map fun d=>Bn s d).flatten).length≤vB m * 3∧RoomF F k r t'.S) (fun acc l t=>∃(S':List Ob) (z:Option Sl),(∀x∈acc,Ax s x=true)∧acc.length + l.length=n∧((acc.map fun d=>Bn s d).flatten).length + vB m * l.length≤vB m * 3∧RoomF F k (r + vB m * l.length) S'∧t=⟨[z,some (.val (.obj k)),some (.val (.tup [.str "list",s.d,.int q]))],S'⟩) _ [] _ ⟨S1,_,by simp,by simp [rngL],by rw [BY,Int.toNat_natCast];exact Nat.le_trans (Nat.le_of_eq (Nat.zero_add _)) nb2,p1.mono (by rw [BY,Int.toNat_natCast];exact Nat.add_le_add_left nb2 _),rfl⟩ ?_ ?_).mono ?_
   ·rintro acc d l t ⟨S',z,h1,h2,h3,h4,rfl⟩ _
    rw [List.length_cons] at h2 h3 h4
    refine Gz (HM ?_)
    rw [if_pos rfl]
    walk_at "w"
    refine rec_ (Pp hd) hw.2 h4.loop fun v S5 f1 f2 p5=>?_
    refine ⟨S5,_,Fp h1 f1,EK h2,?_,p5,rfl⟩
    rw [List.map_append,List.flatten_append,List.length_append]
    simp only [List.map_cons,List.map_nil,List.flatten_cons,List.flatten_nil,List.append_nil]
    exact MB h3 f2
   ·rintro acc t ⟨S',z,h1,h2,h3,h4,rfl⟩
    exact ⟨h1,h2,h3,h4.drop⟩
   ·rintro xs t' ⟨h1,h2,h3,h4⟩
    rw [List.nil_append] at h1 h2 h3
    subst h2
    refine Cg (Fo (n:=3) n2) ?_
    refine ⟨?_,by rw [Bn,List.length_cons];exact Uu h3,h4⟩
    rw [Ax,Bool.and_eq_true,decide_eq_true_eq,List.all_eq_true]
    exact ⟨nq,h1⟩
 | pair a b=>
   simp only [wf,Bool.and_eq_true] at hw
   rw [Sh.d]
   walk_at "w"
   refine rec_ (La hd).1 hw.1 p0.vP fun v S1 f1 f2 p1=>?_
   walk_at "w"
   refine rec_ (La hd).2 hw.2 p1 fun u S2 g1 g2 p2=>?_
   walk_at "w"
   exact ⟨by simp only [Ax,f1,g1,Bool.and_self],by rw [Bn,List.length_append];exact Uv f2 g2,p2⟩
 | choice ss=>
   simp only [wf,Bool.and_eq_true,decide_eq_true_eq] at hw
   rw [Sh.d]
   walk_at "w"
   rw [CY]
   refine ht.use (ss.length:Int) p0.vC (fun i S1 i0 i1 p1=>?_) rfl (by clear p0;lia) (by clear p0;lia)
   obtain ⟨j,rfl⟩:=Int.eq_ofNat_of_zero_le i0
   have hj:j < ss.length:=Int.ofNat_lt.mp i1
   have e1:ss[j]?=some ss[j]:=List.getElem?_eq_getElem hj
   walk_at "w"
   refine EY (Kw hj) ?_
   walk_at "w"
   refine rec_ (Po hd _ (List.getElem_mem hj)) (D2 hw.2 _ (List.getElem_mem hj)) p1 fun v S2 f1 f2 p2=>?_
   walk_at "w"
   have hof:FO (Str.ofString "of")=true:=by decide +kernel
   refine ⟨?_,?_,p2⟩
   ·simp only [Ax,Bool.and_eq_true,decide_eq_true_eq]
    exact ⟨⟨hof,i0,i1⟩,by rw [Int.toNat_natCast,Cu ss _ _ _ e1];exact f1⟩
   ·rw [Bn,Int.toNat_natCast,Ef ss _ _ _ e1,List.length_cons]
    exact Ut f2
section
variable {t:T} {P:D→T→Prop} {R:Out→T→Prop}
def Ur (h:D→M Out) (R:Out→T→Prop) (o:Out) (t1:T):Prop:=match o with
 | .ret (.exc n ds)=>n∈BO∧W (h (.exc n ds)) t1 R
 | o=>R o t1
theorem WV {b:M Out} {h:D→M Out} (w:W b t (Ur h R)):W (Ff b h) t R:=by
 obtain ⟨o,t1,e,q⟩:=w
 have rest:∀d,BK d=false→o = .ret d→W (Ff b h) t R:=fun d hd ho=>by
  subst ho
  refine ⟨.ret d,t1,?_,?_⟩
  ·unfold Ff;rw [e];cases d <;> first | rfl | cases hd
  ·cases d <;> first | exact q | cases hd
 cases o with
 | next=>exact ⟨.next,t1,by unfold Ff;rw [e],q⟩
 | brk=>exact ⟨.brk,t1,by unfold Ff;rw [e],q⟩
 | cont=>exact ⟨.cont,t1,by unfold Ff;rw [e],q⟩
 | ret d=>
   cases d with
   | exc n ds=>
     obtain ⟨hn,o2,t2,e2,q2⟩:=q
     exact ⟨o2,t2,by unfold Ff;rw [e];dsimp only;rw [if_pos hn,e2],q2⟩
   | _=>exact rest _ rfl rfl
theorem SA {h:D→M Out} {n:Str} {ds:List D} {t1:T} (e:n∈BO) (q:W (h (.exc n ds)) t1 R):Ur h R (.ret (.exc n ds)) t1:=⟨e,q⟩
def xK (d:D) (A B:Prop):Prop:=if BK d=true then A else B
theorem VL {d:D} {A B:Prop} (e:BK d=false) (b:B):xK d A B:=by unfold xK;rw [if_neg (by rw [e];decide)];exact b
theorem VJ {d:D} {A B:Prop} (e:BK d=true) (a:A):xK d A B:=by unfold xK;rw [if_pos e];exact a
theorem VC {i:Nat} {f:M D} (w:W f t fun d t1=>xK d (R (.ret d) t1) (R .next ⟨t1.env.set i (some (.val d)),t1.S⟩)):W (Qi i f) t R:=by
 refine DX (w.mono fun d t1 q=>?_)
 unfold xK at q
 split at q
 ·next h=>rw [if_pos h];exact ⟨_,_,rfl,q⟩
 ·next h=>rw [if_neg h];exact ⟨_,_,rfl,q⟩
theorem Uy {f:M D} (w:W f t fun d t1=>xK d (R (.ret d) t1) (R .next t1)):W (Nh f) t R:=by
 refine DX (w.mono fun d t1 q=>?_)
 unfold xK at q
 split at q
 ·next h=>rw [if_pos h];exact ⟨_,_,rfl,q⟩
 ·next h=>rw [if_neg h];exact ⟨_,_,rfl,q⟩
theorem wNx {f:M D} (w:W f t fun d t1=>BK d=false∧P d t1):W (nxD f) t P:=by
 refine DX (w.mono fun d t1 ⟨h,q⟩=>?_)
 rw [if_neg (by rw [h];decide)]
 exact ⟨_,_,rfl,q⟩
theorem SI {n:Str} {f:M (List D)} (w:W f t fun ds t1=>∃d,ds=[d]∧R (.ret (.exc n [d])) t1):W (IB n f) t R:=
 DX (w.mono fun ds t1 ⟨d,e,q⟩=>by subst e;exact ⟨_,_,rfl,q⟩)
theorem SJ {n:Str} {f:M D} (w:W f t fun d t1=>R (.ret (.exc n [d])) t1):W (IB n (Ab f Ai)) t R:=SI (F1 (w.mono fun d t1 q=>L9 ⟨d,rfl,q⟩))
theorem WB {n n':Str} {ds:List D} {i:Nat} {s:M Out} {r:D→M Out} (e:EX n n'=true) (w:W s { t with env:=t.env.set i (some (.val (.exc n ds))) } fun o t2=>R o (unE i t2)):W (hAs n' i s r (.exc n ds)) t R:=by
 obtain ⟨o,t2,e1,q⟩:=w
 exact ⟨o,unE i t2,by unfold hAs;dsimp only;rw [if_pos e,e1],q⟩
theorem Vr {m n:Str} {ds:List D} (e:m∈BO) (q:P (.bl (EX m n)) t):W (DE n (.exc m ds)) t P:=⟨_,_,by unfold DE;dsimp only;rw [if_pos e];rfl,q⟩
theorem Vm {m n:Str} {ds:List D} {d:D} (e:m∈BO) (l:((Jc m).zip ds).lookup n=some d) (q:P d t):W (KW n (.exc m ds)) t P:=⟨_,_,by unfold KW;dsimp only;rw [if_pos e,l];rfl,q⟩
theorem Qy {g:Fn} {ds:List D} {S:List Ob} {Q:D→List Ob→Prop} (w:Wf g ds S fun r S'=>BK r=false∧Q r S'):Wf (Hv g) ds S Q:=by
 obtain ⟨r,S',e,h,q⟩:=w
 exact ⟨r,S',by unfold Hv;rw [e];dsimp only;rw [if_neg (by rw [h];decide)],q⟩
end
local macro_rules | `(tactic| walk_at "x1")=>`(tactic| first
 | walk_at "w1"
 | with_reducible refine WV ?_ | with_reducible refine VC ?_ | with_reducible refine Uy ?_ | with_reducible refine wAsgX ?_ | with_reducible refine wNx ?_ | with_reducible refine wBinX ?_ | with_reducible refine wBinY ?_ | with_reducible refine wBndX ?_ | with_reducible refine wCallY ?_ | with_reducible refine tryK_next ?_
 | ((with_reducible refine' SA ?wv ?_);(case wv=>decide)) | ((with_reducible refine' VL ?wv ?_);(case wv=>exact rfl)) | ((with_reducible refine' VJ ?wv ?_);(case wv=>exact rfl))
 | with_reducible refine SJ ?_ | with_reducible refine wRaiseV ?_ | ((with_reducible refine' WB ?wv ?_);(case wv=>decide)) | ((with_reducible refine' wHAsN ?wv ?_);(case wv=>decide)) | ((with_reducible refine' wHNo ?wv ?_);(case wv=>decide)) | ((with_reducible refine' wHNoN ?wv ?_);(case wv=>decide))
 | ((with_reducible refine' Vr ?wv ?_);(case wv=>decide)) | with_reducible refine wIsiXN ?_ | ((with_reducible refine' Vm ?wv ?wu ?_);(case wv=>decide);(case wu=>exact rfl)))
local macro_rules | `(tactic| walk_at "x")=>`(tactic| repeat (walk_at "x1"))
def GS.sd:GS→Str
 | .fin=>Str.ofString "end"
 | .st s _=>s
inductive Odd (x:GS):D→Prop
 | non:Odd x .non
 | lst {ds:List D}:Odd x (.lst ds)
 | two {a b:D}:Odd x (.tup [a,b])
 | four {a b c d:D}:Odd x (.tup [a,b,c,d])
 | sideN {b c:D}:Odd x (.tup [.non,b,c])
 | side {s:Str} {b c:D}:¬s=x.sd→Odd x (.tup [.str s,b,c])
 | nmN {s:Str} {c:D}:Odd x (.tup [.str s,.non,c])
 | nmI {s:Str} {i:Int} {c:D}:Odd x (.tup [.str s,.int i,c])
 | nm {s nm:Str} {c:D}:(x.ws.findIdx? fun w=>w.1 == nm)=none→Odd x (.tup [.str s,.str nm,c])
 | val {s nm:Str} {c:D} {p:Nat} {w:Str×Sh×Int}:(x.ws.findIdx? fun w=>w.1 == nm)=some p→x.ws[p]?=some w→okD c=true→Ax w.2.1 c=false→Odd x (.tup [.str s,.str nm,c])
def He (f:Fn):Prop:=∀(n:Int) (x:GS) (d:D),GSOk n x→Odd x d→Pure1 f [x.d,d] .non
theorem Iy {cw:Fn} {x d:D} (h:tyD d=some "NoneType"∨tyD d=some "int"):Pure1 (fnOf 2 4 (Ch cw)) [x,d] .non:=by
 intro S
 refine A4 rfl ?_
 unfold Ch
 rcases h with h | h
 ·walk_at "w"
  refine Qo h rfl ?_
  walk_at "w"
  exact ⟨rfl,rfl⟩
 ·walk_at "w"
  refine Qo h rfl ?_
  walk_at "w"
  exact ⟨rfl,rfl⟩
def IO (f:Fn):Prop:=Hf f∧(∀x:D,Pure1 f [x,.non] .non)∧∀(x:D) (i:Int),Pure1 f [x,.int i] .non
theorem P9 {cw:Fn} (hw:GG cw):IO (fnOf 2 4 (Ch cw)):=⟨Jx hw,fun x=>Iy (.inl rfl),fun x i=>Iy (.inr rfl)⟩
theorem OK {cf cp:Fn} (hf:EE cf 3) (hp:IO cp):He (fnOf 2 3 (CL cf cp)):=by
 intro n x d hx hd S
 refine A4 rfl ?_
 unfold CL
 -- the state's first word
 obtain ⟨sd,rest,ex,esd⟩:∃(sd:Str) (rest:List D),x.d = .tup (.str sd :: rest)∧sd=x.sd:=by cases x <;> exact ⟨_,_,rfl,rfl⟩
 cases hd with
 | non=>walk_at "w";exact ⟨rfl,rfl⟩
 | lst=>walk_at "w";exact ⟨rfl,rfl⟩
 | two=>walk_at "w";exact ⟨rfl,rfl⟩
 | four=>walk_at "w";exact ⟨rfl,rfl⟩
 | sideN=>walk_at "w";exact ⟨rfl,rfl⟩
 | @side s b c hs=>
   rw [←esd] at hs
   rw [ex]
   walk_at "w"
   refine Hn (by simpa using hs) ?_
   walk_at "w"
   exact ⟨rfl,rfl⟩
 | @nmN s c=>
   have hq:=hp.2.1 x.d
   rw [ex] at hq ⊢
   walk_at "w"
   refine BZ (fun q=>?_) fun q=>?_
   ·walk_at "w"
    exact ⟨rfl,rfl⟩
   ·walk_at "w"
    refine hq.use ?_
    walk_at "w"
    exact ⟨rfl,rfl⟩
 | @nmI s i c=>
   have hq:=hp.2.2 x.d i
   rw [ex] at hq ⊢
   walk_at "w"
   refine BZ (fun q=>?_) fun q=>?_
   ·walk_at "w"
    exact ⟨rfl,rfl⟩
   ·walk_at "w"
    refine hq.use ?_
    walk_at "w"
    exact ⟨rfl,rfl⟩
 | @nm s nm c hnm=>
   have hq:=hp.1 n x nm hx
   rw [hnm,Gu] at hq
   rw [ex] at hq ⊢
   walk_at "w"
   refine BZ (fun q=>?_) fun q=>?_
   ·walk_at "w"
    exact ⟨rfl,rfl⟩
   ·walk_at "w"
    refine hq.use ?_
    walk_at "w"
    exact ⟨rfl,rfl⟩
 | @val s nm c p w hnm hw hok hfit=>
   have hq:=hp.1 n x nm hx
   rw [hnm,Gu] at hq
   cases hx with
   | fin=>simp [GS.ws] at hw
   | @st side ws h1 h2 h3 h4 h5=>
     rw [GS.ws] at hw
     have hwo:=h5 w (List.mem_of_getElem? hw)
     rw [GS.d] at hq ⊢
     walk_at "w"
     refine BZ (fun q=>?_) fun q=>?_
     ·walk_at "w"
      exact ⟨rfl,rfl⟩
     ·walk_at "w"
      refine hq.use ?_
      walk_at "w"
      refine BB (GC hw) ?_
      unfold wdD
      walk_at "w"
      refine (hf w.2.1 hwo.dep c hok).use ?_
      rw [hfit]
      walk_at "w"
      exact ⟨rfl,rfl⟩
def HQ (f:Fn):Prop:=∀(g:List GS) (mv:List Mv) (tl:List D),GOk g→okQ g 0 mv→mv.length + tl.length≤1000→(∀d r,tl=d :: r→Odd (Bx g (AO g 0 mv)) d)→
 Pure1 f [.lst (g.map GS.d),.lst (Be g 0 mv++tl)] (match tl with | []=>.lst (Cp g 0 mv) | _ :: _=>.exc "NoTalk" [.int mv.length])
theorem Sy {cn cp:Fn} (hn:KF cn) (hp:Hg cp) (hb:He cp):HQ (fnOf 2 7 (Dz cn cp)):=by
 intro g mv tl hg hk hl hodd S
 have hL:LIM=100000:=rfl
 refine A4 rfl ?_
 unfold Dz
 walk_at "x"
 rw [List.length_append,Bv]
 refine EZ (CF (by lia) (by lia)) ?_
 refine Dx (fun r t=>∃(j:Nat) (e4 e5 e6:Option Sl),j≤mv.length∧r=(rngL 0 ((mv.length + tl.length:Nat):Int).toNat).drop j∧t=⟨[some (.val (.lst (g.map GS.d))),some (.val (.lst (Be g 0 mv++tl))),some (.val (.int (AO g 0 (mv.take j)))),some (.own (Cp g 0 (mv.take j))),e4,e5,e6],S⟩) _ _ ⟨0,none,none,none,Nat.zero_le _,rfl,rfl⟩ ?_ ?_
 ·rintro d' r t ⟨j,e4,e5,e6,hj,hr,rfl⟩ _
  obtain ⟨rfl,hr',hjn⟩:=ER hr
  rw [Int.toNat_natCast] at hjn
  rw [Int.zero_add]
  have hkj:=Lx hk j
  have hlt:=GM hg hg.ne hkj
  by_cases hjm:j < mv.length
  ·obtain ⟨p,v,hpv⟩:∃p v,mv[j]=(p,v):=⟨_,_,rfl⟩
   have em:mv[j]?=some (p,v):=by rw [List.getElem?_eq_getElem hjm,hpv]
   have hmv:=Jo hk em
   have hmsg:atI (Be g 0 mv++tl) (j:Int)=some (DW g (AO g 0 (mv.take j)) p v):=by
    unfold atI
    rw [Ca (by lia) (by rw [List.length_append,Bv];lia)]
    show (Be g 0 mv++tl)[(j:Int).toNat]?=_
    rw [Int.toNat_natCast,List.getElem?_append_left (by rw [Bv];exact hjm),Fa g 0 mv j p v em]
   have htk:mv.take (j + 1)=mv.take j++[(p,v)]:=by rw [List.take_succ_eq_append_getElem hjm,hpv]
   walk_at "x"
   refine BB (Dc hlt) ?_
   walk_at "x"
   refine BB hmsg ?_
   walk_at "x"
   refine (hp g _ p v hg hmv).use ?_
   walk_at "x"
   refine Cg (by rw [Ez,List.length_take,hL];lia) ?_
   walk_at "x"
   refine (hn g _ p hg hlt hmv.pl).use ?_
   walk_at "x"
   refine ⟨j + 1,_,_,_,hjm,hr',t7 ?_ ?_⟩
   ·rw [htk,Gk];rfl
   ·rw [htk,IG];rfl
  ·have hje:j=mv.length:=by lia
   subst hje
   rw [List.take_length] at hlt ⊢
   cases tl with
   | nil=>simp at hjn
   | cons d r0=>
     have hmsg:atI (Be g 0 mv++d :: r0) (mv.length:Int)=some d:=by
      unfold atI
      rw [Ca (by lia) (by rw [List.length_append,Bv,List.length_cons];lia)]
      show (Be g 0 mv++d :: r0)[(mv.length:Int).toNat]?=_
      rw [Int.toNat_natCast,List.getElem?_append_right (by rw [Bv];exact Nat.le_refl _),Bv,Nat.sub_self]
      rfl
     walk_at "x"
     refine BB (Dc hlt) ?_
     walk_at "x"
     refine BB hmsg ?_
     walk_at "x"
     refine (hb _ _ d (DZ hg hlt) (hodd d r0 rfl)).use ?_
     walk_at "x"
     exact ⟨rfl,rfl⟩
 ·rintro t ⟨j,e4,e5,e6,hj,hr,rfl⟩
  have hz:=congrArg List.length hr
  rw [List.length_nil,List.length_drop,BY,Int.toNat_natCast] at hz
  have ht0:tl=[]:=List.eq_nil_of_length_eq_zero (by lia)
  subst ht0
  have hje:j=mv.length:=by simp at hz;lia
  subst hje
  rw [List.take_length]
  walk_at "x"
  exact ⟨rfl,rfl,rfl⟩
def KR (F:List (Nat×Ob)) (f:Fn):Prop:=∀(g:List GS) (mv:List Mv) (S:List Ob),GOk g→TOk g mv→FAll F S→Wf f [.lst (g.map GS.d),.lst (Be g 0 mv)] S fun r S'=>∃K A B,r = .tup [.obj A,.obj B]∧Wr K A B S' (BQ g sL 0 mv) (BQ g sR 0 mv)∧FAll F S'
def KS (F:List (Nat×Ob)) (f:Fn):Prop:=∀(g:List GS) (mv:List Mv) (d:D) (rr:List D) (S:List Ob),GOk g→okQ g 0 mv→mv.length + (d :: rr).length≤1000→Odd (Bx g (AO g 0 mv)) d→FAll F S→Wf f [.lst (g.map GS.d),.lst (Be g 0 mv++d :: rr)] S fun r S'=>r = .exc "NoTalk" [.int mv.length]∧FAll F S'
theorem SO {F:List (Nat×Ob)} {cm cs:Fn} (hs:HQ cs):KS F (fnOf 2 6 (Cr cm cs)):=by
 intro g mv d rr S hg hk hl ho hF
 have hst:=hs g mv (d :: rr) hg hk hl (fun d' r z=>by cases z;exact ho)
 refine A4 rfl ?_
 unfold Cr
 walk_at "x"
 refine IK ?_
 refine BS ?_
 walk_at "x"
 refine BS ?_
 walk_at "x"
 refine El ?_
 refine ⟨by simp,by show 2≤15;decide,?_⟩
 refine Cj ?_
 walk_at "x"
 refine hst.use ?_
 walk_at "x"
 refine ⟨rfl,?_⟩
 intro p hp
 have hlt:=(List.getElem?_eq_some_iff.mp (hF p hp)).1
 show ((S++[Ob.dct []]++[Ob.lst []]++[Ob.lst []]).set S.length _)[p.1]?=_
 rw [List.getElem?_set_ne (Nat.ne_of_gt hlt)]
 exact FAll.app (FAll.app (FAll.app hF)) p hp
theorem SN {F:List (Nat×Ob)} {cm cs:Fn} (hm:KD cm) (hs:HQ cs):KR F (fnOf 2 6 (Cr cm cs)):=by
 intro g mv S hg hT hF
 have hL:LIM=100000:=rfl
 have hlen:=hT.len
 refine A4 rfl ?_
 unfold Cr
 walk_at "x"
 refine IK ?_
 refine BS ?_
 walk_at "x"
 refine BS ?_
 walk_at "x"
 refine El ?_
 refine ⟨by simp,by show 2≤15;decide,?_⟩
 obtain ⟨S1,hS1⟩:∃S1:List Ob,S1=(S++[Ob.dct []]++[Ob.lst []]++[Ob.lst []]).set S.length (.dct (CU [(kL,.obj (S++[Ob.dct []]).length),(kRt,.obj (S++[Ob.dct []]++[Ob.lst []]).length)])):=⟨_,rfl⟩
 have w0:Wr S.length (S++[Ob.dct []]).length (S++[Ob.dct []]++[Ob.lst []]).length S1 [] []:=by
  rw [hS1,Lp]
  refine ⟨GJ (o:=.dct []) (by simp),?_,?_,by simp,by simp,by simp⟩
  ·rw [List.getElem?_set_ne (by simp)];simp
  ·rw [List.getElem?_set_ne (by simp)];simp
 have hFS:FAll F S1:=by
  rw [hS1]
  intro p hp
  have hlt:=(List.getElem?_eq_some_iff.mp (hF p hp)).1
  rw [List.getElem?_set_ne (Nat.ne_of_gt hlt)]
  exact FAll.app (FAll.app (FAll.app hF)) p hp
 have hne:∀p∈F,p.1≠(S++[Ob.dct []]).length∧p.1≠(S++[Ob.dct []]++[Ob.lst []]).length:=fun p hp=>by
  have hlt:=(List.getElem?_eq_some_iff.mp (hF p hp)).1
  simp only [List.length_append,List.length_cons,List.length_nil]
  exact ⟨by lia,by lia⟩
 refine Cj ?_
 show W _ ⟨[some (.val (.lst (g.map GS.d))),some (.val (.lst (Be g 0 mv))),some (.val (.obj S.length)),none,none,none],(S++[Ob.dct []]++[Ob.lst []]++[Ob.lst []]).set S.length (.dct (CU [(kL,.obj (S++[Ob.dct []]).length),(kRt,.obj (S++[Ob.dct []]++[Ob.lst []]).length)]))⟩ _
 rw [←hS1]
 clear hS1
 generalize (S++[Ob.dct []]++[Ob.lst []]).length=B at w0 hne
 generalize (S++[Ob.dct []]).length=A at w0 hne
 generalize S.length=K at w0 ⊢
 walk_at "x"
 have hst:=hs g mv [] hg hT.ok (by rw [List.length_nil];lia) (fun d r z=>nomatch z)
 rw [List.append_nil] at hst
 refine hst.use ?_
 walk_at "x"
 rw [Ez]
 refine EZ (CF (by lia) (by lia)) ?_
 refine Dx (fun r t=>∃(j:Nat) (S':List Ob) (e4 e5:Option Sl),j≤mv.length∧r=(rngL 0 ((mv.length:Nat):Int).toNat).drop j∧Wr K A B S' (BQ g sL 0 (mv.take j)) (BQ g sR 0 (mv.take j))∧FAll F S'∧t=⟨[some (.val (.lst (g.map GS.d))),some (.val (.lst (Be g 0 mv))),some (.val (.obj K)),some (.val (.lst (Cp g 0 mv))),e4,e5],S'⟩) _ _ ⟨0,S1,none,none,by lia,rfl,w0,hFS,rfl⟩ ?_ ?_
 ·rintro d' r t ⟨j,S',e4,e5,hjl,hr,hw,hF',rfl⟩ _
  obtain ⟨rfl,hr',hjn⟩:=ER hr
  rw [Int.toNat_natCast] at hjn
  rw [Int.zero_add]
  cases em:mv[j]? with
  | none=>rw [List.getElem?_eq_none_iff] at em;lia
  | some x=>
  obtain ⟨p,v⟩:=x
  have hm':=Jo hT.ok em
  have htk:mv.take (j + 1)=mv.take j++[(p,v)]:=by
   rw [List.take_succ,em];rfl
  have hbd:(Bn (wdAt g (AO g 0 (mv.take j)) p).2.1 v).length≤400:=by
   have:=Hu hT.bd (j + 1)
   rw [htk,GO] at this
   exact this.2.1
  have hsi:atI (Cp g 0 mv) j=some (.tup [.int (AO g 0 (mv.take j)),.int p]):=by
   unfold atI
   rw [Ca (by lia) (by rw [Ez];lia)]
   show (Cp g 0 mv)[(j:Int).toNat]?=_
   rw [Int.toNat_natCast,IH g 0 mv j p v em]
  have hmi:atI (Be g 0 mv) j=some (DW g (AO g 0 (mv.take j)) p v):=by
   unfold atI
   rw [Ca (by lia) (by rw [Bv];lia)]
   show (Be g 0 mv)[(j:Int).toNat]?=_
   rw [Int.toNat_natCast,Fa g 0 mv j p v em]
  have hside:=MY hg hm'
  have lA:=GB g sL 0 _ (Hu hT.bd j)
  have lB:=GB g sR 0 _ (Hu hT.bd j)
  have ltk:(mv.take j).length≤60:=by rw [List.length_take];lia
  have nA:BQ g sL 0 (mv.take (j + 1))=BQ g sL 0 (mv.take j)++(if (Bx g (AO g 0 (mv.take j))).side=sL then D.int p :: Bn (wdAt g (AO g 0 (mv.take j)) p).2.1 v else []):=by
   rw [htk,GA,BQ,BQ,List.append_nil]
  have nB:BQ g sR 0 (mv.take (j + 1))=BQ g sR 0 (mv.take j)++(if (Bx g (AO g 0 (mv.take j))).side=sR then D.int p :: Bn (wdAt g (AO g 0 (mv.take j)) p).2.1 v else []):=by
   rw [htk,GA,BQ,BQ,List.append_nil]
  generalize hq:AO g 0 (mv.take j)=q at *
  have hix:∀(t:T) (P:D→T→Prop),P (.str (Bx g q).side) t→W (ixD (Bx g q).d (.int 0)) t P:=fun t P h=>by
   cases e:Bx g q with
   | fin=>rw [e] at h;rw [GS.d];exact EY FD h
   | st s w=>rw [e] at h;rw [GS.d];exact EY FD h
  walk_at "x"
  refine BB hsi ?_
  walk_at "x"
  refine BB (Dc hm'.lt) ?_
  walk_at "x"
  obtain ⟨C,xs,hCn,hC,hxl,hget,hnew⟩:∃(C:Nat) (xs:List D),(∀p∈F,p.1≠C)∧S'[C]?=some (.lst xs)∧xs.length≤24060∧B0 [(kL,.obj A),(kRt,.obj B)] (.inr (Bx g q).side)=some (.obj C)∧Wr K A B (S'.set C (.lst (xs++D.int p :: Bn (wdAt g q p).2.1 v))) (BQ g sL 0 (mv.take (j + 1))) (BQ g sR 0 (mv.take (j + 1))):=by
   rcases hside with h | h
   ·refine ⟨A,_,fun p hp=>(hne p hp).1,hw.a,by lia,by rw [h];exact Jk,?_⟩
    rw [nA,nB,if_pos h,if_neg (by rw [h];exact sLR),List.append_nil]
    exact hw.setA
   ·refine ⟨B,_,fun p hp=>(hne p hp).2,hw.b,by lia,by rw [h];exact Jl,?_⟩
    rw [nA,nB,if_pos h,if_neg (by rw [h];exact Ne.symm sLR),List.append_nil]
    exact hw.setB
  refine Vw (k:=C) ?_
  walk_at "x"
  refine hix _ _ ?_
  refine Dn hw.k hget ?_
  refine ⟨rfl,_,hC,?_⟩
  walk_at "x"
  refine BB hsi ?_
  walk_at "x"
  refine BB hmi ?_
  unfold DW
  walk_at "x"
  refine (hm g q p v hg hm' hbd).use ?_
  walk_at "x"
  refine ⟨xs,_,hC,if_pos (by rw [hL,List.length_cons];lia),?_⟩
  exact ⟨j + 1,_,_,_,hjn,hr',hnew,fun p' hp'=>by rw [List.getElem?_set_ne (Ne.symm (hCn p' hp'))];exact hF' p' hp',rfl⟩
 ·rintro t ⟨j,S',e4,e5,hjl,hr,hw,hF',rfl⟩
  have hj':j=mv.length:=by
   have:=congrArg List.length hr
   rw [List.length_nil,List.length_drop,BY,Int.toNat_natCast] at this
   lia
  subst hj'
  rw [List.take_length] at hw
  walk_at "x"
  refine Dn hw.k Jk ?_
  walk_at "x"
  refine Dn hw.k Jl ?_
  walk_at "x"
  exact ⟨rfl,K,A,B,rfl,hw,hF'⟩
def O8 (F:List (Nat×Ob)) (f:Fn):Prop:=∀(g:List GS) (mv:List Mv) (d:D) (rr:List D) (S:List Ob),GOk g→okQ g 0 mv→mv.length + (d :: rr).length≤1000→Odd (Bx g (AO g 0 mv)) d→FAll F S→Wf f [.lst (g.map GS.d),.lst (Be g 0 mv++d :: rr)] S fun r S'=>r = .int mv.length∧FAll F S'
theorem OS {F:List (Nat×Ob)} {cw:Fn} (hw:KS F cw):O8 F (fnOf 2 5 (Cy cw)):=by
 intro g mv d rr S hg hk hl ho hF
 refine A4 rfl ?_
 unfold Cy
 walk_at "x"
 refine (hw g mv d rr S hg hk hl ho hF).mono fun r S1 ⟨e,hF1⟩=>?_
 subst e
 walk_at "x"
 refine QY ⟨by decide,by decide⟩ ?_
 walk_at "x"
 refine M0 rfl (by decide +kernel) ?_
 walk_at "x"
 exact ⟨rfl,hF1⟩
def Hd (f:Fn):Prop:=∀(ns:List Int) (g:List GS) (S:List Ob),GOk g→Wf f [.scr ns,.lst (g.map GS.d),.int 14,.int 50] S fun r _=>∃mv:List Mv,TOk g mv∧r = .lst [.lst (Be g 0 mv),.lst (BV g 0 mv)]
theorem OP {cv ct cp:Fn} (hv:PValOk cv 3) (ht:PTakeOk ct) (hp:GF cp):Hd (fnOf 4 14 (C4 cv ct cp)):=by
 intro ns g S hg
 have hL:LIM=100000:=rfl
 refine A4 rfl ?_
 unfold C4
 walk_at "w"
 have hN:(if (50:Int) < (ns.length:Int) then (50:Int) else (ns.length:Int))≤50∧0≤(if (50:Int) < (ns.length:Int) then (50:Int) else (ns.length:Int)):=by split <;> lia
 generalize (if (50:Int) < (ns.length:Int) then (50:Int) else (ns.length:Int))=N at hN ⊢
 refine Qq (by rw [CF (by lia) (by lia),CF (by lia) (by lia)];rfl) ?_
 have hlen:(rngL 14 (N - 14).toNat).length≤49:=by rw [BY];lia
 have hmem:∀d∈rngL 14 (N - 14).toNat,∃k:Nat,d = .int k∧k≤1000:=fun d hd=>by
  rw [GT] at hd
  obtain ⟨i,hi,rfl⟩:=List.mem_map.mp hd
  have:=List.mem_range.mp hi
  exact ⟨14 + i,by congr 1,by lia⟩
 generalize rngL 14 (N - 14).toNat=ds at hlen hmem ⊢
 refine Dx (fun r t=>∃(mv:List Mv) (st:List D) (S':List Ob) (e7 e8 e9 e10 e11 e12 e13:Option Sl),mv.length + r.length≤49∧okQ g 0 mv∧okB g 0 mv∧st=BV g 0 mv∧t=⟨[some (.val (.scr ns)),some (.val (.lst (g.map GS.d))),some (.val (.int 14)),some (.val (.int 50)),some (.own (Be g 0 mv)),some (.val (.int (AO g 0 mv))),some (.own st),e7,e8,e9,e10,e11,e12,e13],S'⟩) _ _ ⟨[],[.int 0],S,none,none,none,none,none,none,none,by rw [List.length_nil];lia,trivial,trivial,rfl,rfl⟩ ?_ ?_
 ·rintro d r t ⟨mv,st,S',e7,e8,e9,e10,e11,e12,e13,hl,hk,hb,hst,rfl⟩ hd
  obtain ⟨k,rfl,hk1⟩:=hmem d hd
  rw [List.length_cons] at hl
  have hlt:=GM hg hg.ne hk
  walk_at "w"
  refine (hp ns k S' hk1).mono fun r1 S1 ⟨K,e,p1⟩=>?_
  subst e
  refine Cj ?_
  walk_at "w"
  refine BB (Dc hlt) ?_
  walk_at "w"
  refine O2 ?_
  walk_at "w"
  refine BZ (fun q=>?_) fun q=>?_
  ·have hnf:¬(Bx g (AO g 0 mv)).isFin=true:=by simpa using q
   have hgs:=DZ hg hlt
   obtain ⟨side,ws,egs⟩:∃side ws,Bx g (AO g 0 mv) = .st side ws:=by
    cases e:Bx g (AO g 0 mv) with
    | fin=>rw [e] at hnf;simp [GS.isFin] at hnf
    | st side ws=>exact ⟨side,ws,rfl⟩
   have hws:(Bx g (AO g 0 mv)).ws=ws:=by rw [egs];rfl
   have hside:(Bx g (AO g 0 mv)).side=side:=by rw [egs];rfl
   have hpos:0 < ws.length∧ws.length≤9:=by
    rw [egs] at hgs
    cases hgs with
    | st _ h2 h3 _ _=>exact ⟨h2,h3⟩
   walk_at "w"
   refine BB (Dc hlt) ?_
   rw [egs,GS.d]
   walk_at "w"
   rw [List.length_map]
   refine ht.use (r:=1000) (ws.length:Int) (p1.mono (by decide)) (fun i S2 i0 i1 p2=>?_) rfl (by lia) (by lia)
   obtain ⟨p,rfl⟩:=Int.eq_ofNat_of_zero_le i0
   have hpl:p < (Bx g (AO g 0 mv)).ws.length:=by rw [hws];exact Int.ofNat_lt.mp i1
   obtain ⟨side',ws',egs',_,ew⟩:=FV hpl
   rw [egs] at egs'
   cases egs'
   have hw:=F4 hg hlt hpl
   have hlo:=hw.lo
   refine BB (GC ew) ?_
   unfold wdD
   walk_at "w"
   refine hv.use (r:=0) hw.dep hw.ok (p2.mono (by decide)) fun x S3 x1 x2=>?_
   walk_at "w"
   refine Cg (by rw [Bv,hL];lia) ?_
   walk_at "w"
   refine Cg (by rw [hst,Fe,hL];lia) ?_
   refine ⟨mv++[(p,x)],st++[.int (wdAt g (AO g 0 mv) p).2.2],S3,_,_,_,_,_,_,_,?_,?_,?_,?_,t14 ?_ ?_ rfl⟩
   ·rw [List.length_append,List.length_singleton];lia
   ·rw [Fr];exact ⟨hk,⟨hlt,hpl,x1⟩,trivial⟩
   ·rw [GO];exact ⟨hb,x2,trivial⟩
   ·rw [Gy,hst]
    unfold CQ
    congr 2
    congr 1
    lia
   ·rw [Gq]
    show _=_++[DW g (AO g 0 mv) p _]
    unfold DW
    rw [hside]
   ·rw [Gk]
    show _=D.int (CQ g (AO g 0 mv) p:Nat)
    unfold CQ
    congr 1
    lia
  ·walk_at "w"
   exact ⟨mv,st,_,_,_,_,_,_,_,_,by lia,hk,hb,hst,rfl⟩
 ·rintro t ⟨mv,st,S',e7,e8,e9,e10,e11,e12,e13,hl,hk,hb,hst,rfl⟩
  walk_at "w"
  exact ⟨mv,⟨hk,hb,by rw [List.length_nil] at hl;lia⟩,by rw [hst]⟩
def Rq (n:Nat) (d:D):Prop:=∀m,n≤m→eqN m d d=some true
theorem Rq.mono {n m:Nat} {d:D} (h:Rq n d) (e:n≤m):Rq m d:=fun k hk=>h k (Nat.le_trans e hk)
theorem Co {n:Nat} {i:Int}:Rq n (.int i):=fun m _=>by cases m <;> (show some (i == i)=some true;rw [beq_self_eq_true])
theorem NG {n:Nat} {i:Bool}:Rq n (.bl i):=fun m _=>by cases m <;> (show some (i == i)=some true;rw [beq_self_eq_true])
theorem A9 {n:Nat} {i:Str}:Rq n (.str i):=fun m _=>by cases m <;> (show some (i == i)=some true;rw [beq_self_eq_true])
theorem Dw {n:Nat}:Rq n .non:=fun m _=>by cases m <;> rfl
theorem BC {n:Nat} {xs:List D} (h:∀x∈xs,Rq n x):Rq (n + 1) (.tup xs):=fun m hm=>by
 obtain ⟨k,rfl⟩:∃k,m=k + 1:=⟨m - 1,by lia⟩
 have e:C1 (eqN k) xs xs=some true:=C8 fun x hx=>h x hx k (by lia)
 rw [eqN,e]
 simp
theorem Ek {n:Nat} {xs:List D} (h:∀x∈xs,Rq n x):Rq (n + 1) (.lst xs):=fun m hm=>by
 obtain ⟨k,rfl⟩:∃k,m=k + 1:=⟨m - 1,by lia⟩
 rw [eqN,if_pos rfl]
 exact C8 fun x hx=>h x hx k (by lia)
theorem F9 {p:D→Prop} {a:D} (h:p a):∀x∈[a],p x:=fun x hx=>by rw [List.mem_singleton.mp hx];exact h
theorem Em {p:D→Prop} {a b:D} (h:p a) (h2:p b):∀x∈[a,b],p x:=fun x hx=>(List.mem_cons.mp hx).elim (fun e=>by rw [e];exact h) (F9 h2 x)
theorem BW {p:D→Prop} {a b c:D} (h:p a) (h2:p b) (h3:p c):∀x∈[a,b,c],p x:=fun x hx=>(List.mem_cons.mp hx).elim (fun e=>by rw [e];exact h) (Em h2 h3 x)
theorem Dg {xs:List D} (h:∀x∈xs,okD x=true):okD (.tup xs)=true:=by rw [okD];exact LC h
theorem Iq {xs:List D} (h:∀x∈xs,okD x=true):okD (.lst xs)=true:=by rw [okD];exact LC h
def mB:Nat→Nat
 | 0=>0
 | m + 1=>10 + vB m * 2 + mB m * 2
structure Mis (n:Nat) (s:Sh) (v:D):Prop where
 ok:okD v=true
 no:Ax s v=false
 rq:Rq n v
structure Fit (n:Nat) (s:Sh) (v:D):Prop where
 ok:okD v=true
 fit:Ax s v=true
 rq:Rq n v
theorem Lf {s:Sh} {v:D} {n:Nat} (hn:s.depth≤n) (hw:wf s=true) (h:Ax s v=true):Fit n s v:=by
 obtain ⟨h1,h2,h3⟩:=Fk s.depth s (Nat.le_refl _) hw v h
 exact ⟨QR h1,h,fun m hm=>h3 m (Nat.le_trans hn hm)⟩
def Kl (F:List (Nat×Ob)) (f:Fn) (m:Nat):Prop:=∀(s:Sh) (k r:Nat) (S:List Ob),s.depth≤m→wf s=true→RoomF F k (r + mB m) S→Wf f [.obj k,s.d] S fun v S'=>Mis m s v∧RoomF F k r S'
theorem RoomF.mA {F:List (Nat×Ob)} {k r m:Nat} {S:List Ob} (h:RoomF F k (r + mB (m + 1)) S):RoomF F k (r + 9 + 1) S:=h.mono (by rw [mB];lia)
theorem RoomF.mL {F:List (Nat×Ob)} {k r m:Nat} {S:List Ob} (h:RoomF F k (r + mB (m + 1)) S):RoomF F k (r + 1 + mB m + vB m) S:=h.mono (by rw [mB];lia)
theorem RoomF.mP {F:List (Nat×Ob)} {k r m:Nat} {S:List Ob} (h:RoomF F k (r + mB (m + 1)) S):RoomF F k (r + 1 + mB m + mB m + vB m + vB m) S:=h.mono (by rw [mB];lia)
theorem RoomF.mC {F:List (Nat×Ob)} {k r m:Nat} {S:List Ob} (h:RoomF F k (r + mB (m + 1)) S):RoomF F k (r + 1 + mB m + vB m + 1) S:=h.mono (by rw [mB];lia)
theorem aS:(Str.ofString "a")=⟨#[97]⟩:=by decide +kernel
theorem UG {q:Int} (h0:0≤q) (h1:q≤250):okD (.str (Txt.mul (Str.ofString "a") (q + 1)))=true∧Ax (.text q) (.str (Txt.mul (Str.ofString "a") (q + 1)))=false:=by
 have e:(Txt.mul (Str.ofString "a") (q + 1)).length=(q + 1).toNat:=by rw [aS,Ln]
 refine ⟨by rw [okD,e,decide_eq_true_eq];lia,?_⟩
 rw [Ax,e,Bool.and_eq_false_iff]
 exact .inl (by rw [decide_eq_false_iff_not];lia)
theorem U8 {v:D} {q:Int} (h0:0≤q) (h1:q≤6):Ci (List.replicate (7:Int).toNat [v]).flatten none (some (q + 1))=List.replicate (q + 1).toNat v:=by
 have:q=0∨q=1∨q=2∨q=3∨q=4∨q=5∨q=6:=by lia
 rcases this with rfl | rfl | rfl | rfl | rfl | rfl | rfl <;> rfl
theorem U0 {F:List (Nat×Ob)} {ct cm cv:Fn} {m:Nat} (ht:PTakeF F ct) (hm:m=0∨Kl F cm m) (hv:m=0∨Km F cv m):Kl F (fnOf 2 8 (Dl ct cm cv)) (m + 1):=by
 intro s k r S hd hw p0
 have hL:LIM=100000:=rfl
 have recV:∀{s':Sh} {r':Nat} {S':List Ob} {P:D→List Ob→Prop},s'.depth≤m→wf s'=true→RoomF F k (r' + vB m) S'→(∀v S'',Fit m s' v→RoomF F k r' S''→P v S'')→Wf cv [.obj k,s'.d] S' P:=fun {s' r' S' P} h1 h2 q p=>by
  rcases hv with rfl | hv
  ·exact absurd (Nat.lt_of_lt_of_le s'.depth_pos h1) (Nat.not_lt_zero _)
  ·exact (hv s' k r' S' h1 h2 q).mono fun v S'' ⟨g1,g2,g3⟩=>p v S'' (Lf h1 h2 g1) g3
 have recM:∀{s':Sh} {r':Nat} {S':List Ob} {P:D→List Ob→Prop},s'.depth≤m→wf s'=true→RoomF F k (r' + mB m) S'→(∀v S'',Mis m s' v→RoomF F k r' S''→P v S'')→Wf cm [.obj k,s'.d] S' P:=fun {s' r' S' P} h1 h2 q p=>by
  rcases hm with rfl | hm
  ·exact absurd (Nat.lt_of_lt_of_le s'.depth_pos h1) (Nat.not_lt_zero _)
  ·exact (hm s' k r' S' h1 h2 q).mono fun v S'' ⟨g1,g2⟩=>p v S'' g1 g2
 refine A4 rfl ?_
 unfold Dl
 cases s with
 | nothing=>
   rw [Sh.d]
   walk_at "w"
   refine ht.use (r:=r + 9) 4 p0.mA fun i S1 i0 i1 p1=>?_
   obtain ⟨d,ed,hd'⟩:=C3 (xs:=[D.int 0,.bl false,.str (Str.ofString ""),.lst []]) i0 (by simpa using i1) (p:=fun d=>Mis (m + 1) .nothing d) (by
    simp only [List.forall_mem_cons]
    exact ⟨⟨rfl,rfl,Co⟩,⟨rfl,rfl,NG⟩,⟨by decide +kernel,rfl,A9⟩,⟨by decide +kernel,rfl,Ek (n:=m) (fun _ z=>nomatch z)⟩,fun _ z=>nomatch z⟩)
   refine BB ed ?_
   exact ⟨hd',p1.drop⟩
 | number lo hi=>
   rw [Sh.d]
   walk_at "w"
   refine ht.use (r:=r + 9) 6 p0.mA fun i S1 i0 i1 p1=>?_
   obtain ⟨d,ed,hd'⟩:=C3 (xs:=[D.int (hi + 1),.int (lo - 1),.str (Str.ofString "1"),.non,.bl true,.tup [.int lo]]) i0 (by simpa using i1) (p:=fun d=>Mis (m + 1) (.number lo hi) d) (by
    simp only [List.forall_mem_cons]
    refine ⟨⟨rfl,?_,Co⟩,⟨rfl,?_,Co⟩,⟨by decide +kernel,rfl,A9⟩,⟨rfl,rfl,Dw⟩,⟨rfl,rfl,NG⟩,⟨rfl,rfl,BC (F9 Co)⟩,fun _ z=>nomatch z⟩
    ·simp only [Ax,Bool.and_eq_false_iff,decide_eq_false_iff_not];lia
    ·simp only [Ax,Bool.and_eq_false_iff,decide_eq_false_iff_not];lia)
   refine BB ed ?_
   exact ⟨hd',p1.drop⟩
 | text q=>
   simp only [wf,Bool.and_eq_true,decide_eq_true_eq] at hw
   obtain ⟨am1,am2⟩:=UG hw.1 hw.2
   rw [Sh.d]
   walk_at "w"
   refine QZ ⟨CF (by lia) (by lia),by rw [hL,aS];show 1 * _≤_;lia,by rw [hL];lia,by rw [aS];decide⟩ ?_
   walk_at "w"
   refine ht.use (r:=r + 9) 5 p0.mA fun i S1 i0 i1 p1=>?_
   obtain ⟨d,ed,hd'⟩:=C3 (xs:=[D.str (Txt.mul (Str.ofString "a") (q + 1)),.int 5,.non,.lst [.str (Str.ofString "a")],.str (Str.ofString "a\n")]) i0 (by simpa using i1) (p:=fun d=>Mis (m + 1) (.text q) d) (by
    simp only [List.forall_mem_cons]
    refine ⟨⟨am1,am2,A9⟩,⟨rfl,rfl,Co⟩,⟨rfl,rfl,Dw⟩,⟨by decide +kernel,rfl,Ek (F9 A9)⟩,⟨by decide +kernel,?_,A9⟩,fun _ z=>nomatch z⟩
    rw [Ax,Bool.and_eq_false_iff]
    exact .inr (by decide +kernel))
   refine BB ed ?_
   exact ⟨hd',p1.drop⟩
 | list s q=>
   simp only [wf,Bool.and_eq_true,decide_eq_true_eq] at hw
   have hds:=Pp hd
   rw [Sh.d]
   walk_at "w"
   refine recV hds hw.2 p0.mL fun v S1 hv1 p1=>?_
   walk_at "w"
   refine QY ⟨by decide,by show 1 * 7≤100000;decide⟩ ?_
   walk_at "w"
   refine recM hds hw.2 p1 fun w S2 hw2 p2=>?_
   walk_at "w"
   obtain ⟨dd,edd,hdd⟩:∃dd,atI [D.lst (Ci (List.replicate (7:Int).toNat [v]).flatten none (some (q + 1))),.int 5] (if decide (6 < q)=true then 1 else 0)=some dd∧Mis (m + 1) (.list s q) dd:=by
    by_cases h6:6 < q
    ·exact ⟨.int 5,by rw [decide_eq_true h6];rfl,⟨rfl,rfl,Co⟩⟩
    ·refine ⟨.lst (List.replicate (q + 1).toNat v),by rw [decide_eq_false h6,U8 hw.1.1 (by lia)];rfl,⟨Iq fun x hx=>?_,?_,Ek fun x hx=>?_⟩⟩
     ·rw [List.eq_of_mem_replicate hx];exact hv1.ok
     ·rw [Ax,Bool.and_eq_false_iff]
      exact .inl (by rw [decide_eq_false_iff_not,List.length_replicate];lia)
     ·rw [List.eq_of_mem_replicate hx];exact hv1.rq
   refine BB edd ?_
   walk_at "w"
   refine ht.use (r:=r) 5 p2 fun i S3 i0 i1 p3=>?_
   obtain ⟨d,ed,hd'⟩:=C3 (xs:=[D.tup [],.non,.str (Str.ofString ""),.lst [w],dd]) i0 (by simpa using i1) (p:=fun d=>Mis (m + 1) (.list s q) d) (by
    simp only [List.forall_mem_cons]
    refine ⟨⟨by decide +kernel,rfl,BC (n:=m) (fun _ z=>nomatch z)⟩,⟨rfl,rfl,Dw⟩,⟨by decide +kernel,rfl,A9⟩,⟨Iq (F9 hw2.ok),?_,Ek (F9 hw2.rq)⟩,hdd,fun _ z=>nomatch z⟩
    rw [Ax,Bool.and_eq_false_iff]
    exact .inr (by simp [hw2.no]))
   refine BB ed ?_
   exact ⟨hd',p3⟩
 | pair a b=>
   simp only [wf,Bool.and_eq_true] at hw
   obtain ⟨hda,hdb⟩:=La hd
   rw [Sh.d]
   walk_at "w"
   refine recV hda hw.1 p0.mP fun v S1 hv1 p1=>?_
   walk_at "w"
   refine recV hdb hw.2 p1 fun w S2 hw1 p2=>?_
   walk_at "w"
   refine recM hda hw.1 p2 fun x S3 hx1 p3=>?_
   walk_at "w"
   refine recM hdb hw.2 p3 fun y S4 hy1 p4=>?_
   walk_at "w"
   refine ht.use (r:=r) 6 p4 fun i S5 i0 i1 p5=>?_
   obtain ⟨d,ed,hd'⟩:=C3 (xs:=[D.tup [v],.tup [v,w,w],.lst [v,w],.tup [x,w],.non,.tup [v,y]]) i0 (by simpa using i1) (p:=fun d=>Mis (m + 1) (.pair a b) d) (by
    simp only [List.forall_mem_cons]
    refine ⟨⟨Dg (F9 hv1.ok),rfl,BC (F9 hv1.rq)⟩,⟨Dg (BW hv1.ok hw1.ok hw1.ok),rfl,BC (BW hv1.rq hw1.rq hw1.rq)⟩,⟨Iq (Em hv1.ok hw1.ok),rfl,Ek (Em hv1.rq hw1.rq)⟩,⟨Dg (Em hx1.ok hw1.ok),?_,BC (Em hx1.rq hw1.rq)⟩,⟨rfl,rfl,Dw⟩,⟨Dg (Em hv1.ok hy1.ok),?_,BC (Em hv1.rq hy1.rq)⟩,fun _ z=>nomatch z⟩
    ·simp only [Ax,hx1.no,Bool.false_and]
    ·simp only [Ax,hy1.no,Bool.and_false])
   refine BB ed ?_
   exact ⟨hd',p5⟩
 | choice ss=>
   simp only [wf,Bool.and_eq_true,decide_eq_true_eq] at hw
   rw [Sh.d]
   walk_at "w"
   rw [CY]
   refine ht.use (ss.length:Int) p0.mC (fun i S1 i0 i1 p1=>?_) rfl (by clear p0;lia) (by clear p0;lia)
   obtain ⟨j,rfl⟩:=Int.eq_ofNat_of_zero_le i0
   have hj:j < ss.length:=Int.ofNat_lt.mp i1
   have e1:ss[j]?=some ss[j]:=List.getElem?_eq_getElem hj
   have hdj:=Po hd _ (List.getElem_mem hj)
   have hwj:=D2 hw.2 _ (List.getElem_mem hj)
   walk_at "w"
   refine EY (Kw hj) ?_
   walk_at "w"
   refine recV hdj hwj p1 fun v S2 hv1 p2=>?_
   walk_at "w"
   rw [CY]
   walk_at "w"
   refine EY (Kw hj) ?_
   walk_at "w"
   refine recM hdj hwj p2 fun x S3 hx1 p3=>?_
   walk_at "w"
   refine ht.use (r:=r) 9 p3 fun i S4 z0 z1 p4=>?_
   have oOf:okD (.str (Str.ofString "of"))=true:=by decide +kernel
   have oOn:okD (.str (Str.ofString "on"))=true:=by decide +kernel
   obtain ⟨d,ed,hd'⟩:=C3 (xs:=[D.tup [.str (Str.ofString "of"),.int ss.length,v],.tup [.str (Str.ofString "of"),.int (-1),v],.tup [.str (Str.ofString "of"),.int j],.tup [.int j,v],.tup [.str (Str.ofString "of"),.int j,x],.non,.tup [.str (Str.ofString "of"),.bl true,v],.tup [.str (Str.ofString "on"),.int j,v],.lst [.str (Str.ofString "of"),.int j,v]]) z0 (by simpa using z1) (p:=fun d=>Mis (m + 1) (.choice ss) d) (by
    simp only [List.forall_mem_cons]
    refine ⟨⟨Dg (BW oOf rfl hv1.ok),?_,BC (BW A9 Co hv1.rq)⟩,⟨Dg (BW oOf rfl hv1.ok),?_,BC (BW A9 Co hv1.rq)⟩,⟨Dg (Em oOf rfl),rfl,BC (Em A9 Co)⟩,⟨Dg (Em rfl hv1.ok),rfl,BC (Em Co hv1.rq)⟩,⟨Dg (BW oOf rfl hx1.ok),?_,BC (BW A9 Co hx1.rq)⟩,⟨rfl,rfl,Dw⟩,⟨Dg (BW oOf rfl hv1.ok),rfl,BC (BW A9 NG hv1.rq)⟩,⟨Dg (BW oOn rfl hv1.ok),?_,BC (BW A9 Co hv1.rq)⟩,⟨Iq (BW oOf rfl hv1.ok),rfl,Ek (BW A9 Co hv1.rq)⟩,fun _ z=>nomatch z⟩
    ·simp [Ax]
    ·simp [Ax]
    ·simp only [Ax,Int.toNat_natCast,Cu ss _ _ _ e1,hx1.no,Bool.and_false]
    ·have:FO (Str.ofString "on")=false:=by decide +kernel
     simp only [Ax,this,Bool.false_and])
   refine BB ed ?_
   exact ⟨hd',p4⟩
structure NmX (x:Str):Prop where
 ne:x.cps.toList≠[]
 cs:∀c∈x.cps.toList,97≤c∧c≤122∧c≠113
 le:x.length≤9
def GSX (n:Int) (x:GS):Prop:=GSOk n x∧∀w∈x.ws,NmX w.1
def WX (n:Int) (w:Str×Sh×Int):Prop:=WOk n w∧NmX w.1
def HdX (g:List GS):Prop:=∀x,g.head?=some x→x.isFin=false
structure GX (g:List GS):Prop where
 nm:∀x∈g,∀w∈x.ws,NmX w.1
 hd:HdX g
theorem Rs {gs:List GS} {x:GS} (h:HdX gs) (hx:gs=[]→x.isFin=false):HdX (gs++[x]):=by
 intro y hy
 cases gs with
 | nil=>cases hy;exact hx rfl
 | cons a r=>exact h y hy
theorem SR {i:Int} (h0:0≤i) (h1:i < 3):∃c,atI xyz3.cps.toList i=some c∧120≤c∧c≤122:=by
 have:i=0∨i=1∨i=2:=by lia
 rcases this with rfl | rfl | rfl
 ·exact ⟨120,by decide +kernel,by decide,by decide⟩
 ·exact ⟨121,by decide +kernel,by decide,by decide⟩
 ·exact ⟨122,by decide +kernel,by decide,by decide⟩
theorem Tx {n c:Nat} {y:Int} (hn:n < 9) (hc:120≤c∧c≤122) (hy:y < 8):NmX (⟨#[97 + n]⟩++Txt.mul ⟨#[c]⟩ y):=by
 have e:((⟨#[97 + n]⟩:Str)++Txt.mul ⟨#[c]⟩ y).cps.toList=(97 + n) :: List.replicate y.toNat c:=by rw [E2,PR];rfl
 refine ⟨by rw [e];exact List.cons_ne_nil _ _,fun d hd=>?_,?_⟩
 ·rw [e] at hd
  rcases List.mem_cons.mp hd with rfl | hd
  ·lia
  ·rw [List.eq_of_mem_replicate hd];lia
 ·rw [DK,e,List.length_cons,List.length_replicate];lia
def KI (f:Fn):Prop:=∀(ns:List Int) (S:List Ob),Wf f [.scr ns] S fun r _=>∃g:List GS,GOk g∧GX g∧r = .lst (g.map GS.d)
theorem OH {ct cz cp:Fn} (ht:PTakeOk ct) (hs:PShapeOk cz 3) (hp:GF cp):KI (fnOf 1 10 (Cw ct cz cp)):=by
 intro ns S
 have hL:LIM=100000:=rfl
 refine A4 rfl ?_
 unfold Cw
 walk_at "w"
 refine (hp ns 0 S (by decide)).mono fun r S1 ⟨K,e1,p1⟩=>?_
 subst e1
 walk_at "w"
 refine ht.use (r:=3) 5 (p1.mono (by decide)) fun a S2 a0 a1 p2=>?_
 walk_at "w"
 refine ht.use (r:=2) 9 (p2.mono (by decide)) fun b S3 b0 b1 p3=>?_
 walk_at "w"
 refine ht.use (r:=1) 3 p3 fun c S4 c0 c1 p4=>?_
 obtain ⟨dd,ed,many,rfl,m0,m1⟩:=C3 (xs:=[D.int (1 + a),D.int (1 + b),D.int 30]) c0 (by simpa using c1) (p:=fun d=>∃m:Nat,d = .int m∧1≤m∧m≤30) (by
  simp only [List.forall_mem_cons]
  exact ⟨⟨(1 + a).toNat,by rw [Int.toNat_of_nonneg (by lia)],by lia,by lia⟩,⟨(1 + b).toNat,by rw [Int.toNat_of_nonneg (by lia)],by lia,by lia⟩,⟨30,rfl,by decide,by decide⟩,fun _ z=>nomatch z⟩)
 refine BB ed ?_
 clear p1 p2 p3 p4 ed a0 a1 b0 b1 c0 c1
 walk_at "w"
 refine EZ (EU m1) ?_
 refine Dx (fun r t=>∃(gs:List GS) (S':List Ob) (e1 e4 e5 e6 e7 e8 e9:Option Sl),gs.length≤many∧r=(rngL 0 ((many:Nat):Int).toNat).drop gs.length∧(∀x∈gs,GSX many x)∧HdX gs∧t=⟨[some (.val (.scr ns)),e1,some (.val (.int many)),some (.own (gs.map GS.d)),e4,e5,e6,e7,e8,e9],S'⟩) _ _ ⟨[],S4,_,none,none,none,none,none,none,Nat.zero_le _,rfl,(fun _ z=>nomatch z),(fun _ z=>nomatch z),rfl⟩ ?_ ?_
 ·rintro d r t ⟨gs,S',e1,e4,e5,e6,e7,e8,e9,hj,hr,hg,hh0,rfl⟩ _
  obtain ⟨rfl,hr',hjn⟩:=ER hr
  rw [Int.toNat_natCast] at hjn
  rw [Int.zero_add]
  generalize hJ:gs.length=j at hj hjn
  walk_at "w"
  rw [show ((1:Int) + (j:Int) % 13)=((1 + j % 13:Nat):Int) by lia]
  refine (hp ns (1 + j % 13) S' (by lia)).mono fun r1 S1 ⟨K,e,p1⟩=>?_
  subst e
  refine Cj ?_
  obtain ⟨ra,rc,rb,hS,c0,c1⟩:=p1
  walk_at "w"
  refine Dn hS Jw ?_
  walk_at "w"
  refine Ux (by lia) (by lia) ?_
  walk_at "w"
  refine IL (Fq (by decide) (by decide)) ?_
  walk_at "w"
  refine E1 ?_
  walk_at "w"
  refine DG hS (by show 3 < 100000;decide) ?_
  rw [Fu]
  have p2:Room K 900000000000000000000000000000 (S1.set K (.dct (BP (.int (ra / (1 + (j:Int) / 13) + 37 * (j:Int))) (.bl rb) (.int rc)))):=⟨_,_,_,CS hS,c0,c1⟩
  refine Cj ?_
  change W _ ⟨[some (.val (.scr ns)),some (.val (.obj K)),some (.val (.int many)),some (.own (gs.map GS.d)),some (.val (.int j)),e5,e6,e7,e8,e9],S1.set K (.dct (BP (.int (ra / (1 + (j:Int) / 13) + 37 * (j:Int))) (.bl rb) (.int rc)))⟩ _
  generalize S1.set K (.dct (BP (.int (ra / (1 + (j:Int) / 13) + 37 * (j:Int))) (.bl rb) (.int rc)))=S2 at p2 ⊢
  clear hS c0 c1 ra rc rb
  walk_at "w"
  refine ht.use (r:=5002) 6 (p2.mono (by decide)) fun q S3 q0 q1 p3=>?_
  have grow:∀(x:GS) (S':List Ob) (e1 e4 e5 e6 e7 e8 e9:Option Sl),GSX many x→(gs=[]→x.isFin=false)→∃(gs':List GS) (S'':List Ob) (f1 f4 f5 f6 f7 f8 f9:Option Sl),gs'.length≤many∧r=(rngL 0 ((many:Nat):Int).toNat).drop gs'.length∧(∀x∈gs',GSX many x)∧HdX gs'∧(⟨[some (.val (.scr ns)),e1,some (.val (.int many)),some (.own (gs.map GS.d++[x.d])),e4,e5,e6,e7,e8,e9],S'⟩:T)=⟨[some (.val (.scr ns)),f1,some (.val (.int many)),some (.own (gs'.map GS.d)),f4,f5,f6,f7,f8,f9],S''⟩:=by
   intro x S' e1 e4 e5 e6 e7 e8 e9 hx hxf
   refine ⟨gs++[x],S',e1,e4,e5,e6,e7,e8,e9,?_,?_,Fp hg hx,Rs hh0 hxf,t10 (by rw [List.map_append];rfl)⟩
   ·rw [List.length_append,List.length_singleton];lia
   ·rw [List.length_append,List.length_singleton];exact hr'
  have fin:0 < j→W (ownM 3 Do (Ab (Bo (Ab (fC (.str "end")) Ai)) Ai)) ⟨[some (.val (.scr ns)),some (.val (.obj K)),some (.val (.int many)),some (.own (gs.map GS.d)),some (.val (.int j)),e5,e6,e7,e8,e9],S3⟩ fun o t=>o = .next∧∃(gs':List GS) (S'':List Ob) (f1 f4 f5 f6 f7 f8 f9:Option Sl),gs'.length≤many∧r=(rngL 0 ((many:Nat):Int).toNat).drop gs'.length∧(∀x∈gs',GSX many x)∧HdX gs'∧t=⟨[some (.val (.scr ns)),f1,some (.val (.int many)),some (.own (gs'.map GS.d)),f4,f5,f6,f7,f8,f9],S''⟩:=by
   intro h0j
   walk_at "w"
   refine Cg (by rw [List.length_map,hL];lia) ?_
   exact ⟨rfl,grow .fin _ _ _ _ _ _ _ _ ⟨.fin,fun _ z=>nomatch z⟩ (fun z=>by rw [←hJ,z] at h0j;exact absurd h0j (Nat.lt_irrefl _))⟩
  have els:W (Aw (A8 5 (Ah (AM (Bf (Ab (fC (.str "left")) (Ab (fC (.str "right")) Ai)))) (As ct (Ab (Ad 1) (Ab (fC (.int 2)) Ai))) ixD)) (Aw (Ep 6 (Bf Ai)) (Aw (Db (CO (Ab (Ah (AM (Bf (Ab (fC (.int 1)) (Ab (fC (.int 2)) (Ab (fC (.int 3)) (Ab (fC (.int 9)) Ai)))))) (As ct (Ab (Ad 1) (Ab (fC (.int 4)) Ai))) ixD) Ai)) (BL 7) (Aw (A8 8 (Ah (Ah (fC (.str "abcdefghi")) (Ad 7) ixD) (Ah (Ah (fC (.str "xyz")) (As ct (Ab (Ad 1) (Ab (fC (.int 3)) Ai))) ixD) (As ct (Ab (Ad 1) (Ab (fC (.int 8)) Ai))) De) Bs)) (Aw (A8 9 (Ah (AM (Bf (Ab (As ct (Ab (Ad 1) (Ab (Ad 2) Ai))) (Ab (fB (Ab (Ah (Ad 2) (fC (.int 1)) Di) (Ab (Ah (Ad 4) (fC (.int 1)) Bs) Ai)) FQ) Ai)))) (As ct (Ab (Ad 1) (Ab (fC (.int 2)) Ai))) ixD)) (ownM 6 Do (Ab (Bo (Ab (Ad 8) (Ab (As cz (Ab (Ad 1) (Ab (As ct (Ab (Ad 1) (Ab (fC (.int 3)) Ai))) Ai))) (Ab (Ad 9) Ai)))) Ai))))) (ownM 3 Do (Ab (Bo (Ab (Ad 5) (Ab (Ad 6) Ai))) Ai))))) ⟨[some (.val (.scr ns)),some (.val (.obj K)),some (.val (.int many)),some (.own (gs.map GS.d)),some (.val (.int j)),e5,e6,e7,e8,e9],S3⟩ fun o t=>o = .next∧∃(gs':List GS) (S'':List Ob) (f1 f4 f5 f6 f7 f8 f9:Option Sl),gs'.length≤many∧r=(rngL 0 ((many:Nat):Int).toNat).drop gs'.length∧(∀x∈gs',GSX many x)∧HdX gs'∧t=⟨[some (.val (.scr ns)),f1,some (.val (.int many)),some (.own (gs'.map GS.d)),f4,f5,f6,f7,f8,f9],S''⟩:=by
   clear fin
   walk_at "w"
   refine ht.use (r:=5001) 2 p3 fun s S4 s0 s1 p4=>?_
   obtain ⟨dd,ed,side,rfl,hside⟩:=C3 (xs:=[D.str (Str.ofString "left"),D.str (Str.ofString "right")]) s0 (by simpa using s1) (p:=fun d=>∃x:Str,d = .str x∧(x=Str.ofString "left"∨x=Str.ofString "right")) (by
    simp only [List.forall_mem_cons]
    exact ⟨⟨_,rfl,.inl rfl⟩,⟨_,rfl,.inr rfl⟩,fun _ z=>nomatch z⟩)
   refine BB ed ?_
   walk_at "w"
   refine ht.use (r:=5000) 4 p4 fun g S5 z0 z1 p5=>?_
   obtain ⟨dd,ed',cnt,rfl,n0,n1⟩:=C3 (xs:=[D.int 1,D.int 2,D.int 3,D.int 9]) z0 (by simpa using z1) (p:=fun d=>∃m:Nat,d = .int m∧1≤m∧m≤9) (by
    simp only [List.forall_mem_cons]
    exact ⟨⟨1,rfl,by decide,by decide⟩,⟨2,rfl,by decide,by decide⟩,⟨3,rfl,by decide,by decide⟩,⟨9,rfl,by decide,by decide⟩,fun _ z=>nomatch z⟩)
   refine BB ed' ?_
   walk_at "w"
   clear ed ed' z0 z1 s0 s1 p2 p3 p4 q0 q1
   refine EZ (EU n1) ?_
   refine Dx (fun r t=>∃(ws:List (Str×Sh×Int)) (S':List Ob) (e7 e8 e9:Option Sl),ws.length≤cnt∧r=(rngL 0 ((cnt:Nat):Int).toNat).drop ws.length∧ws.map (fun w=>hd1 w.1)=(List.range ws.length).map (fun i=>some (97 + i))∧(∀w∈ws,WX many w)∧Room K (200 * (cnt - ws.length)) S'∧t=⟨[some (.val (.scr ns)),some (.val (.obj K)),some (.val (.int many)),some (.own (gs.map GS.d)),some (.val (.int j)),some (.val (.str side)),some (.own (ws.map wdD)),e7,e8,e9],S'⟩) _ _ ⟨[],S5,_,_,_,Nat.zero_le _,rfl,rfl,(fun _ z=>nomatch z),p5.mono (by simp;lia),rfl⟩ ?_ ?_
   ·rintro d q t ⟨ws,S',e7,e8,e9,hl,hq,hh,hw,p6,rfl⟩ _
    obtain ⟨rfl,hq',hin⟩:=ER hq
    rw [Int.toNat_natCast] at hin
    rw [Int.zero_add]
    obtain ⟨m,em⟩:∃m,cnt - ws.length=m + 1:=⟨cnt - ws.length - 1,by lia⟩
    rw [em] at p6
    replace p6:Room K (200 * m + 200) S':=p6
    walk_at "w"
    refine W_ix_str.mpr ⟨by decide +kernel,97 + ws.length,Tb (by lia),?_⟩
    walk_at "w"
    refine ht.use (r:=200 * m + 199) 3 p6 fun x S6 x0 x1 p7=>?_
    obtain ⟨c,ec,ec'⟩:=SR x0 x1
    refine W_ix_str.mpr ⟨by decide +kernel,c,ec,?_⟩
    walk_at "w"
    refine ht.use (r:=200 * m + 198) 8 p7 fun y S7 y0 y1 p8=>?_
    refine QZ ⟨CF (by lia) (by lia),?_,by rw [hL];show y≤(100000:Int);lia,by rw [hL];show 1≤_;decide⟩ ?_
    ·show 1 * _≤_
     rw [hL];lia
    walk_at "w"
    have hnl:=Ty (n:=97 + ws.length) (m:=c) (k:=y) y1
    refine Cg (by rw [Ln,hL];show 1 + _≤_;lia) ?_
    walk_at "w"
    refine ht.use (r:=200 * m + 197) (many:Int) p8 (fun u S8 u0 u1 p9=>?_) rfl (by lia) (by lia)
    walk_at "w"
    refine ht.use (r:=200 * m + 196) 2 p9 fun v S9 v0 v1 p10=>?_
    obtain ⟨dd,ed,then_,rfl,h0,h1⟩:=C3 (xs:=[D.int u,D.int (if (j:Int) + 1 < (many:Int) - 1 then (j:Int) + 1 else (many:Int) - 1)]) v0 (by simpa using v1) (p:=fun d=>∃m:Int,d = .int m∧0≤m∧m < many) (by
     simp only [List.forall_mem_cons]
     exact ⟨⟨_,rfl,u0,u1⟩,⟨_,rfl,by split <;> lia,by split <;> lia⟩,fun _ z=>nomatch z⟩)
    refine BB ed ?_
    walk_at "w"
    refine ht.use (r:=200 * m + 195) 3 p10 fun dp S10 d0 d1 p11=>?_
    obtain ⟨dq,rfl⟩:=Int.eq_ofNat_of_zero_le d0
    have hdq:dq < 3:=Int.ofNat_lt.mp d1
    have hcs:cs dq≤130:=by
     have:dq=0∨dq=1∨dq=2:=by lia
     rcases this with rfl | rfl | rfl <;> decide
    walk_at "w"
    refine hs.use (r:=200 * m) hdq (p11.mono (by lia)) fun sh S11 g1 g2 p12=>?_
    walk_at "w"
    refine Cg (by rw [List.length_map,hL];lia) ?_
    refine ⟨ws++[(⟨#[97 + ws.length]⟩++Txt.mul ⟨#[c]⟩ y,sh,then_)],S11,_,_,_,?_,?_,Rt hh US,Fp hw ⟨⟨g2,by show sh.depth≤3;lia,h0,h1,hnl⟩,Tx (by lia) ec' y1⟩,p12.mono (by rw [List.length_append,List.length_singleton];lia),Wi (by rw [List.map_append];rfl)⟩
    ·rw [List.length_append,List.length_singleton];lia
    ·rw [List.length_append,List.length_singleton];exact hq'
   ·rintro t ⟨ws,S',e7,e8,e9,hl,hq,hh,hw,p6,rfl⟩
    have hl':ws.length=cnt:=by
     have:=congrArg List.length hq
     rw [List.length_nil,List.length_drop,BY,Int.toNat_natCast] at this
     lia
    walk_at "w"
    refine Cg (by rw [List.length_map,hL];lia) ?_
    exact ⟨rfl,grow (.st side ws) _ _ _ _ _ _ _ _ ⟨.st hside (by lia) (by lia) (UQ hh) fun w h=>(hw w h).1,fun w h=>(hw w h).2⟩ (fun _=>rfl)⟩
  walk_at "w"
  refine BZ (fun z=>?_) fun z=>?_
  ·walk_at "w"
   refine BZ (fun y=>?_) fun y=>?_
   ·exact (fin (by simpa using y)).mono fun o t ⟨e,h⟩=>by subst e;exact h
   ·exact els.mono fun o t ⟨e,h⟩=>by subst e;exact h
  ·exact els.mono fun o t ⟨e,h⟩=>by subst e;exact h
 ·rintro t ⟨gs,S',e1,e4,e5,e6,e7,e8,e9,hj,hr,hg,hh0,rfl⟩
  have hj':gs.length=many:=by
   have:=congrArg List.length hr
   rw [List.length_nil,List.length_drop,BY,Int.toNat_natCast] at this
   lia
  walk_at "w"
  exact ⟨gs,⟨by lia,by lia,by rw [hj'];exact fun x h=>(hg x h).1⟩,⟨fun x h=>(hg x h).2,hh0⟩,rfl⟩
theorem Pd {S:List Ob} {x y:Ob}:(S++[x]).set S.length y=S++[y]:=by simp
theorem UP {ws:List (Str×Sh×Int)} (nd:(ws.map (·.1)).Nodup) {v w:Str×Sh×Int} (hv:v∈ws) (hw:w∈ws) (e:v.1=w.1):v=w:=by
 obtain ⟨i,hi,rfl⟩:=List.getElem_of_mem hv
 obtain ⟨j,hj,rfl⟩:=List.getElem_of_mem hw
 have h1:=Eu nd (List.getElem?_eq_getElem hi)
 have h2:=Eu nd (List.getElem?_eq_getElem hj)
 rw [e,h2] at h1
 cases h1
 rfl
theorem Jn {ws:List (Str×Sh×Int)} {nm:Str} (h:∀w∈ws,w.1≠nm):(ws.findIdx? fun w=>w.1 == nm)=none:=by
 rw [List.findIdx?_eq_none_iff]
 intro w hw
 simpa using h w hw
theorem Wh {a b:Str} (hb:NmX b):b≠a++Str.ofString "q":=fun e=>by
 have:(113:Nat)∈b.cps.toList:=by
  rw [e,E2,List.mem_append]
  exact .inr (by decide +kernel)
 exact (hb.cs _ this).2.2 rfl
theorem UT {a b:Str} (ha:NmX a) (hb:NmX b):b≠⟨a.cps.map PyProof.Rows.up1⟩:=fun e=>by
 have e2:b.cps.toList=a.cps.toList.map PyProof.Rows.up1:=by rw [e];simp
 cases h:a.cps.toList with
 | nil=>exact ha.ne h
 | cons c r=>
   have hc:=ha.cs c (by rw [h];exact List.mem_cons_self)
   have hm:PyProof.Rows.up1 c∈b.cps.toList:=by rw [e2,h];exact List.mem_cons_self
   have:=(hb.cs _ hm).1
   unfold PyProof.Rows.up1 at this
   rw [if_pos ⟨hc.1,hc.2.1⟩] at this
   lia
theorem UR {b:Str} (hb:NmX b):b≠Str.ofString "":=fun e=>hb.ne (by rw [e];decide +kernel)
theorem Pw {g:List GS} {q:Nat} (hq:q < g.length):Bx g q∈g:=by
 unfold Bx
 rw [List.getD_eq_getElem?_getD,List.getElem?_eq_getElem hq]
 exact List.getElem_mem hq
theorem W0 {x:Str} {t:T} {P:D→T→Prop} (hl:x.length≤1000∧(x.cps.toList.all fun c=>decide (c < 128))=true) (h:P (.str ⟨x.cps.map PyProof.Rows.up1⟩) t):W (upD (.str x)) t P:=
 ⟨_,_,by show (if _ then _ else none)=_;rw [if_pos hl],h⟩
def O7 (F:List (Nat×Ob)) (f:Fn):Prop:=∀(g:List GS) (q p:Nat) (v:D) (k r:Nat) (S:List Ob),GOk g→GX g→MvOk g q p v→RoomF F k (r + 2 + mB 3) S→Wf f [.obj k,.lst (g.map GS.d),.int q,DW g q p v] S fun d S'=>Odd (Bx g q) d∧Rq 5 d∧RoomF F k r S'
theorem sLl:¬Str.ofString "Left" = Str.ofString "left":=by decide +kernel
theorem sLr:¬Str.ofString "Left" = Str.ofString "right":=by decide +kernel
theorem Tc {F:List (Nat×Ob)} {ct cm:Fn} (ht:PTakeF F ct) (hm:Kl F cm 3):O7 F (fnOf 4 11 (D8 ct cm)):=by
 intro g q p v k r S hg hx hmv p0
 have hL:LIM=100000:=rfl
 obtain ⟨side,ws,egs,_,ew⟩:=FV hmv.pl
 have hgs:=DZ hg hmv.lt
 have hxs:∀w∈ws,NmX w.1:=fun w hw=>hx.nm (Bx g q) (Pw hmv.lt) w (by rw [egs];exact hw)
 have hwo:=F4 hg hmv.lt hmv.pl
 have hfit:=hmv.fit
 have hmem:wdAt g q p∈ws:=List.mem_of_getElem? ew
 have hnm:=hxs _ hmem
 have hrv:Rq 3 v:=(Lf hwo.dep hwo.ok hfit).rq
 unfold DW
 have hget:=Dc hmv.lt
 rw [egs] at hgs hget ⊢
 rw [show (GS.st side ws).side=side from rfl]
 generalize wdAt g q p=w at *
 cases hgs with
 | @st _ _ hs1 hs2 hs3 hs4 hs5=>
 have ewp:=Eu hs4 ew
 obtain ⟨other,hoth,hon⟩:∃other:Str,B0 [(kL,.str (Str.ofString "right")),(kRt,.str (Str.ofString "left"))] (.inr side)=some (.str other)∧¬other=side:=by
  rcases hs1 with rfl | rfl
  ·exact ⟨_,Jk,Ne.symm sLR⟩
  ·exact ⟨_,Jl,sLR⟩
 have hLf:¬Str.ofString "Left" = side:=by
  rcases hs1 with rfl | rfl
  ·exact sLl
  ·exact sLr
 refine A4 rfl ?_
 unfold D8
 walk_at "w"
 refine IK ?_
 refine BS ?_
 walk_at "w"
 refine BS ?_
 walk_at "w"
 refine El ?_
 refine ⟨by simp,by show 2≤15;decide,?_⟩
 have p1:RoomF F k (r + 2 + mB 3) (S++[Ob.dct [(kL,.str (Str.ofString "right")),(kRt,.str (Str.ofString "left"))]]):=p0.app
 have hS1:(S++[Ob.dct [(kL,.str (Str.ofString "right")),(kRt,.str (Str.ofString "left"))]])[S.length]?=some (Ob.dct [(kL,.str (Str.ofString "right")),(kRt,.str (Str.ofString "left"))]):=Fh
 show W _ ⟨_,(S++[Ob.dct []]).set S.length (.dct (CU [(kL,.str (Str.ofString "right")),(kRt,.str (Str.ofString "left"))]))⟩ _
 rw [Lp,Pd]
 generalize S++[Ob.dct [(kL,.str (Str.ofString "right")),(kRt,.str (Str.ofString "left"))]]=S1 at p1 hS1 ⊢
 walk_at "w"
 refine Dn hS1 hoth ?_
 walk_at "w"
 refine BB hget ?_
 rw [GS.d]
 walk_at "w"
 refine (DO (P:=fun xs t'=>xs=(ws.filter fun x=>x.1 == w.1).map (fun x=>x.2.1.d)∧t'.S=S1) (fun acc l t=>∃(dn rs:List (Str×Sh×Int)) (z:Option Sl),ws=dn++rs∧l=rs.map wdD∧acc=(dn.filter fun x=>x.1 == w.1).map (fun x=>x.2.1.d)∧t=⟨[z,some (.val (.str w.1))],S1⟩) _ [] _ ⟨[],ws,_,rfl,rfl,rfl,rfl⟩ ?_ ?_).mono ?_
 ·rintro acc d l t ⟨dn,rs,z,h1,h2,rfl,rfl⟩ _
  cases rs with
  | nil=>cases h2
  | cons x rs=>
    rw [List.map_cons] at h2
    injection h2 with h2 h3
    subst h2
    refine Gz ?_
    unfold wdD
    walk_at "w"
    cases hq:(x.1 == w.1) with
    | true=>
      refine Hn rfl ?_
      walk_at "w"
      exact ⟨dn++[x],rs,_,by rw [h1,List.append_assoc];rfl,h3,by rw [List.filter_append,List.map_append,List.filter_cons,hq];rfl,rfl⟩
    | false=>
      refine Ji rfl ?_
      exact ⟨dn++[x],rs,_,by rw [h1,List.append_assoc];rfl,h3,by rw [List.filter_append,List.map_append,List.filter_cons,hq];simp,rfl⟩
 ·rintro acc t ⟨dn,rs,z,h1,h2,rfl,rfl⟩
  have:rs=[]:=by cases rs with
   | nil=>rfl
   | cons x rs=>cases h2
  subst this
  rw [List.append_nil] at h1
  subst h1
  exact ⟨rfl,rfl⟩
 ·rintro xs t' ⟨e,hS'⟩
  rw [List.nil_append] at e
  have hxl:xs.length≤9:=by rw [e,List.length_map];exact Nat.le_trans (List.length_filter_le _ _) hs3
  have hx0:atI xs 0=some w.2.1.d:=by
   have hin:w∈ws.filter fun x=>x.1 == w.1:=List.mem_filter.mpr ⟨hmem,by simp⟩
   cases hf:ws.filter fun x=>x.1 == w.1 with
   | nil=>rw [hf] at hin;cases hin
   | cons y r=>
     have hy:y∈ws.filter fun x=>x.1 == w.1:=by rw [hf];exact List.mem_cons_self
     have hy':=List.mem_filter.mp hy
     have:y=w:=UP hs4 hy'.1 hmem (by simpa using hy'.2)
     rw [e,hf,List.map_cons,this]
     exact FD
  refine Cg (Fo (n:=9) hxl) ?_
  rw [hS']
  walk_at "w"
  refine BB hx0 ?_
  walk_at "w"
  have hnl:=hnm.le
  have hq1:(Str.ofString "q").length=1:=by decide +kernel
  refine Cg (by rw [hL,hq1];lia) ?_
  walk_at "w"
  refine W0 ⟨by lia,by rw [List.all_eq_true];exact fun c hc=>by have:=(hnm.cs c hc).2.1;rw [decide_eq_true_eq];lia⟩ ?_
  walk_at "w"
  refine ht.use (r:=r + 1 + mB 3) 2 (p1.mono (by lia)) fun i S2 i0 i1 p2=>?_
  walk_at "w"
  refine BZ (fun z=>?_) fun z=>?_
  ·walk_at "w"
   refine (hm w.2.1 k (r + 1) S2 hwo.dep hwo.ok p2).mono fun m' S3 ⟨hmis,p3⟩=>?_
   walk_at "w"
   exact ⟨.val ewp ew hmis.ok hmis.no,BC (n:=4) (BW A9 A9 (hmis.rq.mono (by decide))),p3.drop⟩
  ·walk_at "w"
   refine ht.use (r:=r + mB 3) 12 (p2.mono (by lia)) fun i S3 z0 z1 p3=>?_
   have rv:Rq 4 v:=hrv.mono (by decide)
   obtain ⟨d,ed,hd1,hd2⟩:=C3 (xs:=[D.tup [.str other,.str w.1,v],.tup [.str side,.str (w.1++Str.ofString "q"),v],.tup [.str side,.str ⟨w.1.cps.map PyProof.Rows.up1⟩,v],.tup [.str side,.str (Str.ofString ""),v],.tup [.str side,.non,v],.tup [.str side,.int 0,v],.tup [.str side,.str w.1],.tup [.str side,.str w.1,v,v],.lst [.str side,.str w.1,v],.non,.tup [.str (Str.ofString "Left"),.str w.1,v],.tup [.non,.str w.1,v]]) z0 (by simpa using z1) (p:=fun d=>Odd (.st side ws) d∧Rq 5 d) (by
    simp only [List.forall_mem_cons]
    refine ⟨⟨.side hon,?_⟩,⟨.nm (Jn fun y hy=>Wh (hxs y hy)),?_⟩,⟨.nm (Jn fun y hy=>UT hnm (hxs y hy)),?_⟩,⟨.nm (Jn fun y hy=>UR (hxs y hy)),?_⟩,⟨.nmN,?_⟩,⟨.nmI,?_⟩,⟨.two,?_⟩,⟨.four,?_⟩,⟨.lst,?_⟩,⟨.non,Dw⟩,⟨.side hLf,?_⟩,⟨.sideN,?_⟩,fun _ z=>nomatch z⟩
    ·exact BC (n:=4) (BW A9 A9 rv)
    ·exact BC (n:=4) (BW A9 A9 rv)
    ·exact BC (n:=4) (BW A9 A9 rv)
    ·exact BC (n:=4) (BW A9 A9 rv)
    ·exact BC (n:=4) (BW A9 Dw rv)
    ·exact BC (n:=4) (BW A9 Co rv)
    ·exact BC (n:=4) (Em A9 A9)
    ·exact BC (n:=4) fun x hx=>(List.mem_cons.mp hx).elim (fun e=>by rw [e];exact A9) (BW A9 rv rv x)
    ·exact Ek (n:=4) (BW A9 A9 rv)
    ·exact BC (n:=4) (BW A9 A9 rv)
    ·exact BC (n:=4) (BW Dw A9 rv))
   refine BB ed ?_
   exact ⟨hd1,hd2,p3.drop⟩
abbrev Kk (xs:List D):Prop:=∀x∈xs,∃i:Int,x = .int i
theorem Gv:∀{xs:List D},Kk xs→Fd xs=true
 | [],_=>rfl
 | x :: r,h=>by
   obtain ⟨i,rfl⟩:=h x List.mem_cons_self
   rw [Fd,Gv fun y m=>h y (List.mem_cons_of_mem _ m)];rfl
theorem Re {L R:List D} (hl:Kk L) (hr:Kk R):eqN EQD (.tup [.lst L,.lst R]) (.tup [.lst L,.lst R])=some true:=by
 have key:∀{X:List D},Kk X→eqN (38 + 1) (.lst X) (.lst X)=some true:=fun {X} h=>Rb fun x hx=>by
  obtain ⟨i,rfl⟩:=h x hx
  exact Ra
 show eqN (39 + 1) _ _=_
 exact Rc (by simp only [List.forall_mem_cons];exact ⟨key hl,key hr,fun _ z=>nomatch z⟩)
theorem Wx {g:Bool→Bool} {x y d:D} {t:T} {P:D→T→Prop} (hx:EQ t.S x=d) (hy:EQ t.S y=d) (hp:B8 d=true) (he:eqN EQD d d=some true) (h:P (.bl (g true)) t):W (eqT g x y) t P:=
 ⟨_,_,by unfold eqT;rw [hx,hy,hp,he];rfl,h⟩
theorem MP {S:List Ob} {A B:Nat} {xs ys:List D} (ha:S[A]?=some (.lst xs)) (hb:S[B]?=some (.lst ys)):EQ S (.tup [.obj A,.obj B]) = .tup [.lst xs,.lst ys]:=by
 simp only [EQ,List.map_cons,List.map_nil,Dr,ha,hb]
theorem GU {g:List GS} (hg:GOk g):∀{mv:List Mv} {q:Nat},okQ g q mv→∀x∈Be g q mv,Rq 5 x
 | [],q,_,x,hx=>nomatch hx
 | (p,v) :: r,q,h,x,hx=>by
   rw [Be] at hx
   rcases List.mem_cons.mp hx with rfl | hx
   ·have hw:=F4 hg h.1.lt h.1.pl
    exact BC (n:=4) (BW A9 A9 ((Lf hw.dep hw.ok h.1.fit).rq.mono (by decide)))
   ·exact GU hg h.2 x hx
theorem U6 {xs:List D} (h:∀x∈xs,Rq 5 x):eqN EQD (.lst xs) (.lst xs)=some true:=Ek h 40 (by decide)
theorem Pe {xs:List D} {x:D}:atI (xs++[x]) (-1)=some x:=by
 unfold atI ixN
 simp
 rw [if_pos (by lia)]
 show (xs++[x])[(-1 + ((xs.length:Int) + 1)).toNat]?=_
 rw [show (-1 + ((xs.length:Int) + 1)).toNat=xs.length by lia]
 simp
theorem PB {b:Bool} {m1 m2:M Out} {t:T} {K:Out→T→Prop} (Pm:Out→T→Prop) (h1:b=true→W m1 t Pm) (h2:b=false→W m2 t Pm) (h:∀o t',Pm o t'→K o t'):Eo b (W m1 t K) (W m2 t K):=BZ (fun z=>(h1 z).mono h) fun z=>(h2 z).mono h
theorem Tq {cw cr cb ct cp ck cg:Fn} (hw:∀F,KR F cw) (hr:∀F,O8 F cr) (hb:∀F,O7 F cb) (ht:∀F,PTakeF F ct) (hp:∀F,KK F cp) (hk:Hd ck) (hgr:KI cg) {ns:List Int}:Wf (fnOf 1 10 (E8 cw cr cb ct cp ck cg)) [.scr ns] [] fun r _=>r = .bl true:=by
 have hL:LIM=100000:=rfl
 refine A4 rfl ?_
 unfold E8
 walk_at "x"
 refine (hgr ns []).mono fun r S1 ⟨g,hg,hx,e⟩=>?_
 subst e
 walk_at "x"
 refine (hk ns g S1 hg).mono fun r S2 ⟨mv,hT,e⟩=>?_
 subst e
 walk_at "x"
 have hlen:=hT.len
 have iL:=F5 hg sL 0 mv hT.ok
 have iR:=F5 hg sR 0 mv hT.ok
 refine Qy ((hw [] g mv S2 hg hT (fun _ z=>nomatch z)).mono fun r S3 ⟨K,A,B,e,w,_⟩=>?_)
 subst e
 refine ⟨rfl,?_⟩
 generalize hXL:BQ g sL 0 mv=XL at *
 generalize hXR:BQ g sR 0 mv=XR at *
 have hpp:B8 (.tup [.lst XL,.lst XR])=true:=by
  simp only [B8,Fd,Gv iL,Gv iR,Bool.and_self]
 have hF0:FAll [(A,.lst XL),(B,.lst XR)] S3:=by
  intro q hq
  rcases List.mem_cons.mp hq with rfl | hq
  ·exact w.a
  ·rw [List.mem_singleton.mp hq];exact w.b
 walk_at "x"
 refine Dx (fun r t=>∃(S':List Ob) (e5 e6 e7 e8 e9:Option Sl),FAll [(A,.lst XL),(B,.lst XR)] S'∧t=⟨[some (.val (.scr ns)),some (.val (.lst (g.map GS.d))),some (.val (.lst (Be g 0 mv))),some (.val (.lst (BV g 0 mv))),some (.val (.tup [.obj A,.obj B])),e5,e6,e7,e8,e9],S'⟩) _ _ ⟨S3,none,none,none,none,none,hF0,rfl⟩ ?_ ?_
 ·rintro d r t ⟨S',e5,e6,e7,e8,e9,hF,rfl⟩ hd
  obtain ⟨k,rfl,hk1⟩:∃k:Nat,d = .int k∧k≤1000:=by
   rw [GT] at hd
   obtain ⟨i,hi,rfl⟩:=List.mem_map.mp hd
   have:=List.mem_range.mp hi
   exact ⟨50 + i,by congr 1,by lia⟩
  walk_at "x"
  refine (hp _ ns k S' hk1 hF).mono fun r1 S4 ⟨n,e,p4⟩=>?_
  subst e
  walk_at "x"
  rw [Bv]
  refine (ht _).use (r:=1000) ((mv.length:Int) + 1) (p4.mono (by decide)) (fun i S5 i0 i1 p5=>?_) rfl (by lia) (by lia)
  obtain ⟨j,rfl⟩:=Int.eq_ofNat_of_zero_le i0
  have hj:j≤mv.length:=by lia
  have hst:atI (BV g 0 mv) (j:Int)=some (.int (AO g 0 (mv.take j))):=by
   unfold atI
   rw [Ca (by lia) (by rw [Fe];lia)]
   show (BV g 0 mv)[(j:Int).toNat]?=_
   rw [Int.toNat_natCast,Hc g 0 mv j hj]
  have hkj:=Lx hT.ok j
  have hlt:=GM hg hg.ne hkj
  walk_at "x"
  rw [Bv]
  refine PB (fun (o:Out) (t':T)=>o = .next∧∃(S6:List Ob) (x:D) (rr:List D),FAll [(A,.lst XL),(B,.lst XR)] S6∧Odd (Bx g (AO g 0 (mv.take j))) x∧rr.length≤60∧(∀y∈x :: rr,Rq 5 y)∧t'=⟨[some (.val (.scr ns)),some (.val (.lst (g.map GS.d))),some (.val (.lst (Be g 0 mv))),some (.val (.lst (BV g 0 mv))),some (.val (.tup [.obj A,.obj B])),some (.val (.int k)),some (.val (.obj n)),some (.val (.int j)),some (.val (.lst (Be g 0 (mv.take j)++x :: rr))),e9],S6⟩) (fun z=>?_) (fun z=>?_) ?_
  ·have hjl:j < mv.length:=by simpa using z
   obtain ⟨p,v,hpv⟩:∃p v,mv[j]=(p,v):=⟨_,_,rfl⟩
   have em:mv[j]?=some (p,v):=by rw [List.getElem?_eq_getElem hjl,hpv]
   have hmv:=Jo hT.ok em
   have hmsg:atI (Be g 0 mv) (j:Int)=some (DW g (AO g 0 (mv.take j)) p v):=by
    unfold atI
    rw [Ca (by lia) (by rw [Bv];lia)]
    show (Be g 0 mv)[(j:Int).toNat]?=_
    rw [Int.toNat_natCast,Fa g 0 mv j p v em]
   have hc1:Ci (Be g 0 mv) none (some (j:Int))=Be g 0 (mv.take j):=by
    rw [Pl (by lia) (by rw [Bv];lia),←Il,Int.toNat_natCast]
   have hc2:Ci (Be g 0 mv) (some ((j:Int) + 1)) none=(Be g 0 mv).drop (j + 1):=by
    rw [Pk (by lia) (by rw [Bv];lia)]
    congr 1
   walk_at "x"
   rw [hc1]
   refine BB hst ?_
   walk_at "x"
   refine BB hmsg ?_
   walk_at "x"
   refine (hb _ g _ p v n 0 S5 hg hx hmv (p5.mono (by decide))).mono fun x S6 ⟨hodd,hrq,p6⟩=>?_
   walk_at "x"
   refine Cg (by rw [Bv,List.length_take,hL];show _ + 1≤_;lia) ?_
   walk_at "x"
   rw [hc2]
   refine Cg (by rw [List.length_append,List.length_drop,Bv,Bv,List.length_take,hL];show _ + 1 + _≤_;lia) ?_
   refine ⟨rfl,S6,x,(Be g 0 mv).drop (j + 1),p6.2.all,hodd,by rw [List.length_drop,Bv];lia,fun y hy=>?_,?_⟩
   ·rcases List.mem_cons.mp hy with rfl | hy
    ·exact hrq
    ·exact GU hg hT.ok y (List.mem_of_mem_drop hy)
   ·rw [List.append_assoc];rfl
  ·have hje : j = mv.length := by have : ¬ j < mv.length := by simpa using z
                                  lia
   subst hje
   rw [List.take_length] at hst hlt hkj ⊢
   walk_at "x"
   refine BB hst ?_
   walk_at "x"
   refine BB (Dc hlt) ?_
   walk_at "x"
   refine O2 ?_
   walk_at "x"
   have hF5:=p5.2.all
   have go:∀{x:D} {S6:List Ob},FAll [(A,.lst XL),(B,.lst XR)] S6→Odd (Bx g (AO g 0 mv)) x→Rq 5 x→(∃(S7:List Ob) (x':D) (rr:List D),FAll [(A,.lst XL),(B,.lst XR)] S7∧Odd (Bx g (AO g 0 mv)) x'∧rr.length≤60∧(∀y∈x' :: rr,Rq 5 y)∧(⟨[some (.val (.scr ns)),some (.val (.lst (g.map GS.d))),some (.val (.lst (Be g 0 mv))),some (.val (.lst (BV g 0 mv))),some (.val (.tup [.obj A,.obj B])),some (.val (.int k)),some (.val (.obj n)),some (.val (.int mv.length)),some (.val (.lst (Be g 0 mv++[x]))),e9],S6⟩:T)=⟨[some (.val (.scr ns)),some (.val (.lst (g.map GS.d))),some (.val (.lst (Be g 0 mv))),some (.val (.lst (BV g 0 mv))),some (.val (.tup [.obj A,.obj B])),some (.val (.int k)),some (.val (.obj n)),some (.val (.int mv.length)),some (.val (.lst (Be g 0 mv++x' :: rr))),e9],S7⟩):=
    fun {x S6} h1 h2 h3=>⟨S6,x,[],h1,h2,Nat.zero_le _,F9 h3,rfl⟩
   refine BZ (fun y=>?_) fun y=>?_
   ·have hfin:Bx g (AO g 0 mv) = .fin:=by
     cases e:Bx g (AO g 0 mv) with
     | fin=>rfl
     | st side ws=>rw [e] at y;simp [GS.isFin] at y
    obtain ⟨ms,x,hms,hx1,hx2⟩:∃(ms:List D) (x:D),Be g 0 mv=ms++[x]∧Odd .fin x∧Rq 5 x:=by
     rcases List.eq_nil_or_concat mv with rfl | ⟨mv',pv,rfl⟩
     ·exfalso
      have h0:=hg.ne
      have:(Bx g 0).isFin=false:=hx.hd _ (by
       cases g with
       | nil=>cases h0
       | cons a r=>rfl)
      rw [show AO g 0 []=0 from rfl] at hfin
      rw [hfin] at this
      cases this
     ·obtain ⟨p,v⟩:=pv
      rw [List.concat_eq_append] at *
      have hk2:=(Fr g 0 mv' [(p,v)]).mp hT.ok
      have hm2:=hk2.2.1
      refine ⟨Be g 0 mv',DW g (AO g 0 mv') p v,by rw [Gq];rfl,?_,GU hg hk2.2 _ List.mem_cons_self⟩
      have hs:=MY hg hm2
      unfold DW
      refine .side ?_
      rcases hs with h | h <;> (rw [h];exact (by decide +kernel))
    walk_at "x"
    rw [hms]
    refine BB Pe ?_
    rw [←hms]
    walk_at "x"
    refine (ht _).use (r:=0) 3 (p5.mono (by decide)) fun i S6 i0 i1 p6=>?_
    obtain ⟨d,ed,hd1,hd2⟩:=C3 (xs:=[D.tup [.str (Str.ofString "left"),.str (Str.ofString "a"),.non],.tup [.str (Str.ofString "right"),.str (Str.ofString "b"),.int 1],x]) i0 (by simpa using i1) (p:=fun d=>Odd .fin d∧Rq 5 d) (by
     simp only [List.forall_mem_cons]
     exact ⟨⟨.side (by decide +kernel),BC (n:=4) (BW A9 A9 Dw)⟩,⟨.side (by decide +kernel),BC (n:=4) (BW A9 A9 Co)⟩,⟨hx1,hx2⟩,fun _ z=>nomatch z⟩)
    refine BB ed ?_
    walk_at "x"
    refine Cg (by rw [Bv,hL];show _ + 1≤_;lia) ?_
    exact ⟨rfl,go p6.2.all (by rw [hfin];exact hd1) hd2⟩
   ·walk_at "x"
    refine Cg (by rw [Bv,hL];show _ + 1≤_;lia) ?_
    refine ⟨rfl,go hF5 (.side ?_) (BC (n:=4) (BW A9 A9 Dw))⟩
    have hgs:=DZ hg hlt
    cases e:Bx g (AO g 0 mv) with
    | fin=>rw [e] at y;simp [GS.isFin] at y
    | st side ws=>
      rw [e] at hgs
      cases hgs with
      | st hs _ _ _ _=>
        show ¬_=side
        rcases hs with rfl | rfl <;> decide +kernel
  ·rintro o t' ⟨rfl,S6,x,rr,hF6,hodd,hrr,hrq,rfl⟩
   have htl:(mv.take j).length=j:=by rw [List.length_take];lia
   walk_at "x"
   refine (hr _ g (mv.take j) x rr S6 hg hkj (by rw [htl,List.length_cons];lia) hodd hF6).mono fun r2 S7 ⟨e,hF7⟩=>?_
   subst e
   rw [htl]
   walk_at "x"
   refine Ji (by simp) ?_
   walk_at "x"
   refine M0 rfl (U6 fun y hy=>(List.mem_append.mp hy).elim (GU hg hkj y) (hrq y)) ?_
   walk_at "x"
   exact ⟨S7,_,_,_,_,_,hF7,rfl⟩
 ·rintro t ⟨S',e5,e6,e7,e8,e9,hF,rfl⟩
  walk_at "x"
  refine Qy ((hw _ g mv S' hg hT hF).mono fun r S8 ⟨K',A',B',e,w',hF8⟩=>?_)
  subst e
  refine ⟨rfl,?_⟩
  rw [hXL,hXR] at w'
  walk_at "x"
  refine Wx (MP w'.a w'.b) (MP (hF8 _ List.mem_cons_self) (hF8 _ (List.mem_cons_of_mem _ List.mem_cons_self))) hpp (Re iL iR) ?_
  walk_at "x"
  have hgf:GOk [GS.fin]:=⟨by decide,by decide,fun x hx=>by rw [List.mem_singleton.mp hx];exact .fin⟩
  refine (hr [] [.fin] [] (.tup [.str (Str.ofString "left"),.str (Str.ofString "a"),.non]) [] S8 hgf trivial (by decide) (.side (by decide +kernel)) (fun _ z=>nomatch z)).mono fun r S9 ⟨e,_⟩=>?_
  subst e
  walk_at "x"
  rfl
end LW
set_option maxHeartbeats 4000000
namespace F2
open PySem L2 PySem.Spec PySem.W
theorem PY {k:Kd} {P:Program} {w:World} {K:PySem.W.Frag} {mg:Str→Option Value} {base:Heap} {n:Nat} {fa:Addr} {fd:FuncData} {ps:List Str}:okK k P w K mg base n fa fd ps (fun _ _=>none):=by
 cases k <;> exact ⟨fun vs H Q E h=>(by obtain ⟨c,ds,S,_,_,r,S',e,_⟩:=h;cases e),fun A' outer s H args us vs Q E _ _ _ _ h=>(by obtain ⟨c,ds,S,_,_,r,S',e,_⟩:=h;cases e)⟩
theorem us0 {n:Nat}:∀{us:List Value},us.length=n + 1→∃a vs,us=a :: vs∧vs.length=n
 | _ :: _,h=>⟨_,_,rfl,Nat.succ.inj h⟩
theorem us1 {us:List Value} (h:us.length=1):∃a,us=[a]:=by
 obtain ⟨a,vs,rfl,q⟩:=us0 h
 exact ⟨a,by rw [List.eq_nil_of_length_eq_zero q]⟩
theorem us2 {us:List Value} (h:us.length=2):∃a b,us=[a,b]:=by
 obtain ⟨_,vs,rfl,q⟩:=us0 h
 obtain ⟨_,rfl⟩:=us1 q
 exact ⟨_,_,rfl⟩
theorem us3 {us:List Value} (h:us.length=3):∃a b c,us=[a,b,c]:=by
 obtain ⟨_,vs,rfl,q⟩:=us0 h
 obtain ⟨_,_,rfl⟩:=us2 q
 exact ⟨_,_,_,rfl⟩
theorem us4 {us:List Value} (h:us.length=4):∃a b c d,us=[a,b,c,d]:=by
 obtain ⟨_,vs,rfl,q⟩:=us0 h
 obtain ⟨_,_,_,rfl⟩:=us3 q
 exact ⟨_,_,_,_,rfl⟩
theorem us5 {us:List Value} (h:us.length=5):∃a b c d e,us=[a,b,c,d,e]:=by
 obtain ⟨_,vs,rfl,q⟩:=us0 h
 obtain ⟨_,_,_,_,rfl⟩:=us4 q
 exact ⟨_,_,_,_,_,rfl⟩
theorem us6 {us:List Value} (h:us.length=6):∃a b c d e f,us=[a,b,c,d,e,f]:=by
 obtain ⟨_,vs,rfl,q⟩:=us0 h
 obtain ⟨_,_,_,_,_,rfl⟩:=us5 q
 exact ⟨_,_,_,_,_,_,rfl⟩
theorem us7 {us:List Value} (h:us.length=7):∃a b c d e f g,us=[a,b,c,d,e,f,g]:=by
 obtain ⟨_,vs,rfl,q⟩:=us0 h
 obtain ⟨_,_,_,_,_,_,rfl⟩:=us6 q
 exact ⟨_,_,_,_,_,_,_,rfl⟩
end F2
namespace K28
open PySem L2 F2 LW
inductive Fx where
 | Bj | Ay | Bk | Bi | By | Bl | Bm | A5 | Bq | Bb | A6 | A2 | Br | BF | Ar | A3 | AX | Bz | AS | AL | AV | AD | Ae | AB | Ap | AW | Bh | Az | Bp | AH | law_
def top (i:Nat):Stmt:=PySem.Challenge.pw_wireparley_k28_no_talks.main.body.getD i (.Pass ⟨0,0,0,0⟩)
abbrev nm:Fx→Str
 | .Bj=>"is_number"
 | .Ay=>"is_number_within"
 | .Bk=>"fits"
 | .Bi=>"fits_text"
 | .By=>"is_sign"
 | .Bl=>"fits_list"
 | .Bm=>"fits_pair"
 | .A5=>"fits_choice"
 | .Bq=>"steps_of"
 | .Bb=>"state_next"
 | .A6=>"place_said"
 | .A2=>"place_named"
 | .Br=>"words_of"
 | .BF=>"is_end"
 | .Ar=>"fitting_bytes"
 | .A3=>"width_up_to"
 | .AX=>"number_bytes"
 | .Bz=>"leading"
 | .AS=>"wires_of"
 | .AL=>"message_bytes"
 | .AV=>"_law_cell_at"
 | .AD=>"_law_pool"
 | .Ae=>"_law_take"
 | .AB=>"_law_shape"
 | .Ap=>"_law_value"
 | .AW=>"_law_grammar"
 | .Bh=>"_law_talk"
 | .Az=>"_law_misfit"
 | .Bp=>"_law_bad"
 | .AH=>"_law_refused"
 | .law_=>"law"
abbrev st:Fx→Stmt
 | .Bj=>top 13
 | .Ay=>top 14
 | .Bk=>top 15
 | .Bi=>top 16
 | .By=>top 17
 | .Bl=>top 18
 | .Bm=>top 19
 | .A5=>top 20
 | .Bq=>top 22
 | .Bb=>top 23
 | .A6=>top 24
 | .A2=>top 25
 | .Br=>top 26
 | .BF=>top 27
 | .Ar=>top 29
 | .A3=>top 30
 | .AX=>top 31
 | .Bz=>top 32
 | .AS=>top 34
 | .AL=>top 35
 | .AV=>top 37
 | .AD=>top 38
 | .Ae=>top 39
 | .AB=>top 40
 | .Ap=>top 41
 | .AW=>top 42
 | .Bh=>top 43
 | .Az=>top 44
 | .Bp=>top 45
 | .AH=>top 46
 | .law_=>top 47
abbrev ps:Fx→List Str
 | .Bj=>["thing"]
 | .Ay=>["thing", "low", "high"]
 | .Bk=>["s", "thing"]
 | .Bi=>["s", "thing"]
 | .By=>["number"]
 | .Bl=>["s", "thing"]
 | .Bm=>["s", "thing"]
 | .A5=>["s", "thing"]
 | .Bq=>["g", "talk"]
 | .Bb=>["g", "step"]
 | .A6=>["state", "thing"]
 | .A2=>["state", "thing"]
 | .Br=>["state"]
 | .BF=>["state"]
 | .Ar=>["s", "value"]
 | .A3=>["most"]
 | .AX=>["number", "width"]
 | .Bz=>["number", "cut"]
 | .AS=>["g", "talk"]
 | .AL=>["state", "place", "value"]
 | .AV=>["script", "k"]
 | .AD=>["script", "k"]
 | .Ae=>["pool", "many"]
 | .AB=>["pool", "deep"]
 | .Ap=>["pool", "s"]
 | .AW=>["script"]
 | .Bh=>["script", "g", "start", "most"]
 | .Az=>["pool", "s"]
 | .Bp=>["pool", "g", "here", "message"]
 | .AH=>["g", "talk"]
 | .law_=>["script"]
abbrev ns:Fx→List Str
 | .Bj=>["thing"]
 | .Ay=>["thing", "low", "high"]
 | .Bk=>["s", "thing", "kind"]
 | .Bi=>["s", "thing", "sign"]
 | .By=>["number"]
 | .Bl=>["s", "thing", "part"]
 | .Bm=>["s", "thing"]
 | .A5=>["s", "thing"]
 | .Bq=>["g", "talk", "state", "steps", "k", "place", "step"]
 | .Bb=>["g", "step"]
 | .A6=>["state", "thing", "place"]
 | .A2=>["state", "thing", "words", "place"]
 | .Br=>["state"]
 | .BF=>["state"]
 | .Ar=>["s", "value", "kind", "row", "thing"]
 | .A3=>["most"]
 | .AX=>["number", "width"]
 | .Bz=>["number", "cut"]
 | .AS=>["g", "talk", "wires", "steps", "k", "state"]
 | .AL=>["state", "place", "value"]
 | .AV=>["script", "k"]
 | .AD=>["script", "k", "cell"]
 | .Ae=>["pool", "many", "rest"]
 | .AB=>["pool", "deep", "kind", "low"]
 | .Ap=>["pool", "s", "kind", "signs", "k"]
 | .AW=>["script", "pool", "many", "g", "h", "side", "words", "k", "name", "then"]
 | .Bh=>["script", "g", "start", "most", "talk", "here", "states", "k", "pool", "side", "words", "name", "shape", "then"]
 | .Az=>["pool", "s", "kind", "longer", "one", "other", "some", "k"]
 | .Bp=>["pool", "g", "here", "message", "side", "name", "value", "other", "words", "shape", "some"]
 | .AH=>["g", "talk", "kinds", "at", "e"]
 | .law_=>["script", "g", "talk", "states", "good", "k", "pool", "at", "some", "handed"]
def body (Φ:Fx→Fn):Fx→Fn
 | .Bj=>fnOf 1 1 (Ec)
 | .Ay=>fnOf 3 3 (Cz (Φ .Bj))
 | .Bk=>fnOf 2 3 (Ik (Φ .A5) (Φ .Bm) (Φ .Bl) (Φ .Bi) (Φ .Ay))
 | .Bi=>fnOf 2 3 (Eb (Φ .By))
 | .By=>fnOf 1 1 (E7)
 | .Bl=>fnOf 2 3 (D9 (Φ .Bk))
 | .Bm=>fnOf 2 2 (Ea (Φ .Bk))
 | .A5=>fnOf 2 2 (Dy (Φ .Bk) (Φ .Ay))
 | .Bq=>fnOf 2 7 (Dz (Φ .Bb) (Φ .A6))
 | .Bb=>fnOf 2 2 (DV)
 | .A6=>fnOf 2 3 (CL (Φ .Bk) (Φ .A2))
 | .A2=>fnOf 2 4 (Ch (Φ .Br))
 | .Br=>fnOf 1 1 (Ex (Φ .BF))
 | .BF=>fnOf 1 1 (FP)
 | .Ar=>fnOf 2 5 (C5 (Φ .Ar) (Φ .A3) (Φ .AX))
 | .A3=>fnOf 1 1 (DA)
 | .AX=>fnOf 2 2 (Dm (Φ .Bz))
 | .Bz=>fnOf 2 2 (E9)
 | .AS=>fnOf 2 6 (Cr (Φ .AL) (Φ .Bq))
 | .AL=>fnOf 3 3 (C6 (Φ .Ar))
 | .AV=>fnOf 2 2 (Cv)
 | .AD=>fnOf 2 3 (Cc (Φ .AV))
 | .Ae=>fnOf 2 3 (Cd)
 | .AB=>fnOf 2 4 (CP (Φ .Ae) (Φ .AB))
 | .Ap=>fnOf 2 5 (B4 (Φ .Ap) (Φ .Ae))
 | .AW=>fnOf 1 10 (Cw (Φ .Ae) (Φ .AB) (Φ .AD))
 | .Bh=>fnOf 4 14 (C4 (Φ .Ap) (Φ .Ae) (Φ .AD))
 | .Az=>fnOf 2 8 (Dl (Φ .Ae) (Φ .Az) (Φ .Ap))
 | .Bp=>fnOf 4 11 (D8 (Φ .Ae) (Φ .Az))
 | .AH=>fnOf 2 5 (Cy (Φ .AS))
 | .law_=>fnOf 1 10 (E8 (Φ .AS) (Φ .AH) (Φ .Bp) (Φ .Ae) (Φ .AD) (Φ .Bh) (Φ .AW))
def run:Nat→Fx→Fn
 | 0=>fun _ _ _=>none
 | n + 1=>body (run n)
structure Md (K:PySem.W.Frag) (mg:Str→Option Value) (A:Fx→Addr) (fd:Fx→FuncData):Prop where
 fn:∀x,Fun K (nm x) (nm x) (st x) (A x) (fd x)
 mgs:∀x,mg (nm x)=some (.ref (A x))
 bd:∀x,Binds K (fd x) (ps x) []
 z_ValueError:mg "ValueError" = none
 z_bool:mg "bool" = none
 z_int:mg "int" = none
 z_isinstance:mg "isinstance" = none
 z_len:mg "len" = none
 z_list:mg "list" = none
 z_min:mg "min" = none
 z_ord:mg "ord" = none
 z_range:mg "range" = none
 z_str:mg "str" = none
 z_tuple:mg "tuple" = none
 g_FIRST_SIGN:∃tk,mg "FIRST_SIGN" = some (.int 32 tk)
 g_LAST_SIGN:∃tk,mg "LAST_SIGN" = some (.int 126 tk)
 g_PERCENT_SIGN:∃tk,mg "PERCENT_SIGN" = some (.int 37 tk)
 xm:∃(P:Addr) (ca:Str→Addr),XM K mg P ca∧XF1 K (ca "NoTalk") P "NoTalk.__init__" (Eg (top 5) 0)∧∀n∈([]:List Str),XN0 K (ca n)
abbrev kd:Fx→Kd
 | .Bj=>.pl
 | .Ay=>.pl
 | .Bk=>.pl
 | .Bi=>.pl
 | .By=>.pl
 | .Bl=>.pl
 | .Bm=>.pl
 | .A5=>.pl
 | .Bq=>.ex
 | .Bb=>.pl
 | .A6=>.pl
 | .A2=>.pl
 | .Br=>.pl
 | .BF=>.pl
 | .Ar=>.fr
 | .A3=>.pl
 | .AX=>.fr
 | .Bz=>.pl
 | .AS=>.ex
 | .AL=>.pl
 | .AV=>.pl
 | .AD=>.pl
 | .Ae=>.pl
 | .AB=>.pl
 | .Ap=>.pl
 | .AW=>.pl
 | .Bh=>.pl
 | .Az=>.pl
 | .Bp=>.pl
 | .AH=>.pl
 | .law_=>.pl
theorem U7:FnScope ["self", "at"] ["self", "at"] (Av (Eg (top 5) 0)):=⟨rfl,rfl,rfl,by decide +kernel,rfl,by decide +kernel,by decide +kernel⟩
section
variable {P:Program} {w:World} {K:PySem.W.Frag} {mg:Str→Option Value} {base:Heap} {A:Fx→Addr} {fd:Fx→FuncData} {n:Nat}
theorem Ki:FnScope (ns .Bj) (ps .Bj) (Av (st .Bj)):=⟨rfl,rfl,rfl,by decide +kernel,rfl,by decide +kernel,by decide +kernel⟩
theorem Kf (M:Md K mg A fd) (ih:∀x,okK (kd x) P w K mg base (n + 2) (A x) (fd x) (ps x) (run n x)):okK .pl P w K mg base (n + 2 + 1) (A .Bj) (fd .Bj) (ps .Bj) (run (n + 1) .Bj):=by
 refine BE (g:=fnOf 1 1 (Ec)) rfl (BD rfl rfl (M.fn .Bj) Ki (fun cdv A' outer s H E hr=>?_))
 refine @Ao _ _ _ _ ?_
 refine @AE _ _ _ _ ?_
 refine @Gf _ _ _ _ _ _ _ ?_ ?_
 refine @BA _ _ _ _ _ _ _ _ _ _ CB CW rfl M.z_isinstance A7 ?_ (by decide) (by decide) (by rfl) (by rfl)
 refine @Aa _ _ _ _ _ ?_ ?_ rfl
 exact (Ac 0)
 refine @Aa _ _ _ _ _ ?_ Af rfl
 exact (D5 rfl M.z_int KY)
 refine @Gg _ _ _ _ _ ?_
 refine @Ti _ _ _ _ ?_
 refine @BA _ _ _ _ _ _ _ _ _ _ CB CW rfl M.z_isinstance A7 ?_ (by decide) (by decide) (by rfl) (by rfl)
 refine @Aa _ _ _ _ _ ?_ ?_ rfl
 exact (Ac 0)
 refine @Aa _ _ _ _ _ ?_ Af rfl
 exact (D5 rfl M.z_bool Q6)
theorem FU:FnScope (ns .Ay) (ps .Ay) (Av (st .Ay)):=⟨rfl,rfl,rfl,by decide +kernel,rfl,by decide +kernel,by decide +kernel⟩
theorem FS (M:Md K mg A fd) (ih:∀x,okK (kd x) P w K mg base (n + 2) (A x) (fd x) (ps x) (run n x)):okK .pl P w K mg base (n + 2 + 1) (A .Ay) (fd .Ay) (ps .Ay) (run (n + 1) .Ay):=by
 refine BE (g:=fnOf 3 3 (Cz (run n .Bj))) rfl (BD rfl rfl (M.fn .Ay) FU (fun cdv A' outer s H E hr=>?_))
 refine @Ao _ _ _ _ ?_
 refine @AE _ _ _ _ ?_
 refine @Gf _ _ _ _ _ _ _ ?_ ?_
 refine @Am _ _ _ _ _ _ _ _ _ _ _ _ (ih .Bj) hr rfl (M.mgs .Bj) (Fun.kp (M.fn .Bj)) (M.bd .Bj) ?_ (by decide) (by rfl) (by rfl)
 refine @Aa _ _ _ _ _ ?_ Af rfl
 exact (Ac 0)
 refine @Gg _ _ _ _ _ ?_
 refine Lc Iv Iv GV GV ?_ ?_ ?_
 exact (Ac 1)
 exact (Ac 0)
 exact (Ac 2)
theorem sc_fits_:FnScope (ns .Bk) (ps .Bk) (Av (st .Bk)):=⟨rfl,rfl,rfl,by decide +kernel,rfl,by decide +kernel,by decide +kernel⟩
theorem PZ (M:Md K mg A fd) (ih:∀x,okK (kd x) P w K mg base (n + 2) (A x) (fd x) (ps x) (run n x)):okK .pl P w K mg base (n + 2 + 1) (A .Bk) (fd .Bk) (ps .Bk) (run (n + 1) .Bk):=by
 refine BE (g:=fnOf 2 3 (Ik (run n .A5) (run n .Bm) (run n .Bl) (run n .Bi) (run n .Ay))) rfl (BD rfl rfl (M.fn .Bk) sc_fits_ (fun cdv A' outer s H E hr=>?_))
 refine @Aj _ _ _ _ _ _ ?_ ?_
 refine @AI _ _ _ _ 2 _ _ _ sc_fits_.nd rfl (.inl rfl) ?_ (by rfl) (by first | exact .inl rfl | exact .inr rfl | assumption)
 refine @An _ _ _ _ _ _ _ _ Ak Al ?_ Ag (fun _ _=>rfl)
 exact (Ac 0)
 refine @Aj _ _ _ _ _ _ ?_ ?_
 refine @Bd _ _ _ _ _ _ _ _ _ ?_ ?_ AK
 refine @A0 _ _ _ _ _ _ _ _ _ (Bt hr.units) (AT (g:=id)) ?_ AA (AJ _)
 exact (Ac 2)
 refine @Ao _ _ _ _ ?_
 refine @AE _ _ _ _ ?_
 refine @Ei _ _ _ _ _ _ _ _ _ LE LS ?_ BN (AJ _)
 exact (Ac 1)
 refine @Aj _ _ _ _ _ _ ?_ ?_
 refine @Bd _ _ _ _ _ _ _ _ _ ?_ ?_ AK
 refine @A0 _ _ _ _ _ _ _ _ _ (Bt hr.units) (AT (g:=id)) ?_ AA (AJ _)
 exact (Ac 2)
 refine @Ao _ _ _ _ ?_
 refine @AE _ _ _ _ ?_
 refine @Am _ _ _ _ _ _ _ _ _ _ _ _ (ih .Ay) hr rfl (M.mgs .Ay) (Fun.kp (M.fn .Ay)) (M.bd .Ay) ?_ (by decide) (by rfl) (by rfl)
 refine @Aa _ _ _ _ _ ?_ ?_ rfl
 exact (Ac 1)
 refine @Aa _ _ _ _ _ ?_ ?_ rfl
 refine @An _ _ _ _ _ _ _ _ Ak Al ?_ Ag (fun _ _=>rfl)
 exact (Ac 0)
 refine @Aa _ _ _ _ _ ?_ Af rfl
 refine @An _ _ _ _ _ _ _ _ Ak Al ?_ Ag (fun _ _=>rfl)
 exact (Ac 0)
 refine @Aj _ _ _ _ _ _ ?_ ?_
 refine @Bd _ _ _ _ _ _ _ _ _ ?_ ?_ AK
 refine @A0 _ _ _ _ _ _ _ _ _ (Bt hr.units) (AT (g:=id)) ?_ AA (AJ _)
 exact (Ac 2)
 refine @Ao _ _ _ _ ?_
 refine @AE _ _ _ _ ?_
 refine @Am _ _ _ _ _ _ _ _ _ _ _ _ (ih .Bi) hr rfl (M.mgs .Bi) (Fun.kp (M.fn .Bi)) (M.bd .Bi) ?_ (by decide) (by rfl) (by rfl)
 refine @Aa _ _ _ _ _ ?_ ?_ rfl
 exact (Ac 0)
 refine @Aa _ _ _ _ _ ?_ Af rfl
 exact (Ac 1)
 refine @Aj _ _ _ _ _ _ ?_ ?_
 refine @Bd _ _ _ _ _ _ _ _ _ ?_ ?_ AK
 refine @A0 _ _ _ _ _ _ _ _ _ (Bt hr.units) (AT (g:=id)) ?_ AA (AJ _)
 exact (Ac 2)
 refine @Ao _ _ _ _ ?_
 refine @AE _ _ _ _ ?_
 refine @Am _ _ _ _ _ _ _ _ _ _ _ _ (ih .Bl) hr rfl (M.mgs .Bl) (Fun.kp (M.fn .Bl)) (M.bd .Bl) ?_ (by decide) (by rfl) (by rfl)
 refine @Aa _ _ _ _ _ ?_ ?_ rfl
 exact (Ac 0)
 refine @Aa _ _ _ _ _ ?_ Af rfl
 exact (Ac 1)
 refine @Aj _ _ _ _ _ _ ?_ ?_
 refine @Bd _ _ _ _ _ _ _ _ _ ?_ ?_ AK
 refine @A0 _ _ _ _ _ _ _ _ _ (Bt hr.units) (AT (g:=id)) ?_ AA (AJ _)
 exact (Ac 2)
 refine @Ao _ _ _ _ ?_
 refine @AE _ _ _ _ ?_
 refine @Am _ _ _ _ _ _ _ _ _ _ _ _ (ih .Bm) hr rfl (M.mgs .Bm) (Fun.kp (M.fn .Bm)) (M.bd .Bm) ?_ (by decide) (by rfl) (by rfl)
 refine @Aa _ _ _ _ _ ?_ ?_ rfl
 exact (Ac 0)
 refine @Aa _ _ _ _ _ ?_ Af rfl
 exact (Ac 1)
 refine @Ao _ _ _ _ ?_
 refine @AE _ _ _ _ ?_
 refine @Am _ _ _ _ _ _ _ _ _ _ _ _ (ih .A5) hr rfl (M.mgs .A5) (Fun.kp (M.fn .A5)) (M.bd .A5) ?_ (by decide) (by rfl) (by rfl)
 refine @Aa _ _ _ _ _ ?_ ?_ rfl
 exact (Ac 0)
 refine @Aa _ _ _ _ _ ?_ Af rfl
 exact (Ac 1)
theorem sc_fits_text_:FnScope (ns .Bi) (ps .Bi) (Av (st .Bi)):=⟨rfl,rfl,rfl,by decide +kernel,rfl,by decide +kernel,by decide +kernel⟩
theorem Ke (M:Md K mg A fd) (ih:∀x,okK (kd x) P w K mg base (n + 2) (A x) (fd x) (ps x) (run n x)):okK .pl P w K mg base (n + 2 + 1) (A .Bi) (fd .Bi) (ps .Bi) (run (n + 1) .Bi):=by
 refine BE (g:=fnOf 2 3 (Eb (run n .By))) rfl (BD rfl rfl (M.fn .Bi) sc_fits_text_ (fun cdv A' outer s H E hr=>?_))
 refine @Aj _ _ _ _ _ _ ?_ ?_
 refine @Bd _ _ _ _ _ _ _ _ _ ?_ ?_ AK
 refine @D6 _ _ _ ?_
 refine @Ev _ _ _ _ _ _ _ ?_ ?_
 refine @CK _ _ _ _ ?_
 refine @Cn _ _ _ ?_ (by intro _;rfl)
 refine @BA _ _ _ _ _ _ _ _ _ _ CB CW rfl M.z_isinstance A7 ?_ (by decide) (by decide) (by rfl) (by rfl)
 refine @Aa _ _ _ _ _ ?_ ?_ rfl
 exact (Ac 1)
 refine @Aa _ _ _ _ _ ?_ Af rfl
 exact (D5 rfl M.z_str HS)
 refine @DS _ _ _ _ ?_
 refine @A0 _ _ _ _ _ _ _ _ _ Gr Fy ?_ ?_ (AJ _)
 refine @BA _ _ _ _ _ _ _ _ _ _ BG BM rfl M.z_len BX ?_ (by decide) (by decide) (by rfl) (by rfl)
 refine @Aa _ _ _ _ _ ?_ Af rfl
 exact (Ac 1)
 refine @An _ _ _ _ _ _ _ _ Ak Al ?_ Ag (fun _ _=>rfl)
 exact (Ac 0)
 refine @Ao _ _ _ _ ?_
 exact (AE Cs)
 refine @Aj _ _ _ _ _ _ ?_ ?_
 refine @Du _ _ _ _ _ _ _ _ _ PassesOwn.never rfl ?_ ?_ ?_ (by intro _;rfl)
 refine @Gh _ _ _ _ ?_
 exact (Ac 1)
 exact (Bu sc_fits_text_.nd rfl (.inl rfl))
 refine @Ao _ _ _ _ ?_
 refine @Bd _ _ _ _ _ _ _ _ _ ?_ ?_ AK
 refine @CK _ _ _ _ ?_
 refine @Cn _ _ _ ?_ (by intro _;rfl)
 refine @Am _ _ _ _ _ _ _ _ _ _ _ _ (ih .By) hr rfl (M.mgs .By) (Fun.kp (M.fn .By)) (M.bd .By) ?_ (by decide) (by rfl) (by rfl)
 refine @Aa _ _ _ _ _ ?_ Af rfl
 refine @BA _ _ _ _ _ _ _ _ _ _ K4 MW rfl M.z_ord N2 ?_ (by decide) (by decide) (by rfl) (by rfl)
 refine @Aa _ _ _ _ _ ?_ Af rfl
 exact (Ac 2)
 refine @Ao _ _ _ _ ?_
 exact (AE Cs)
 refine @Ao _ _ _ _ ?_
 exact (AE Cs)
theorem Mn:FnScope (ns .By) (ps .By) (Av (st .By)):=⟨rfl,rfl,rfl,by decide +kernel,rfl,by decide +kernel,by decide +kernel⟩
theorem Ml (M:Md K mg A fd) (ih:∀x,okK (kd x) P w K mg base (n + 2) (A x) (fd x) (ps x) (run n x)):okK .pl P w K mg base (n + 2 + 1) (A .By) (fd .By) (ps .By) (run (n + 1) .By):=by
 obtain ⟨_,g_FIRST_SIGN⟩:=M.g_FIRST_SIGN
 obtain ⟨_,g_LAST_SIGN⟩:=M.g_LAST_SIGN
 obtain ⟨_,g_PERCENT_SIGN⟩:=M.g_PERCENT_SIGN
 refine BE (g:=fnOf 1 1 (E7)) rfl (BD rfl rfl (M.fn .By) Mn (fun cdv A' outer s H E hr=>?_))
 refine @Ao _ _ _ _ ?_
 refine @AE _ _ _ _ ?_
 refine @Gf _ _ _ _ _ _ _ ?_ ?_
 refine Lc Iv Iv GV GV ?_ ?_ ?_
 exact (Ja rfl g_FIRST_SIGN)
 exact (Ac 0)
 exact (Ja rfl g_LAST_SIGN)
 refine @Gg _ _ _ _ _ ?_
 refine @Ei _ _ _ _ _ _ _ _ _ (Dv hr.units) (AT (g:=fun b=>!b)) ?_ ?_ (AJ _)
 exact (Ac 0)
 exact (Ja rfl g_PERCENT_SIGN)
theorem sc_fits_list_:FnScope (ns .Bl) (ps .Bl) (Av (st .Bl)):=⟨rfl,rfl,rfl,by decide +kernel,rfl,by decide +kernel,by decide +kernel⟩
theorem Kb (M:Md K mg A fd) (ih:∀x,okK (kd x) P w K mg base (n + 2) (A x) (fd x) (ps x) (run n x)):okK .pl P w K mg base (n + 2 + 1) (A .Bl) (fd .Bl) (ps .Bl) (run (n + 1) .Bl):=by
 refine BE (g:=fnOf 2 3 (D9 (run n .Bk))) rfl (BD rfl rfl (M.fn .Bl) sc_fits_list_ (fun cdv A' outer s H E hr=>?_))
 refine @Aj _ _ _ _ _ _ ?_ ?_
 refine @Bd _ _ _ _ _ _ _ _ _ ?_ ?_ AK
 refine @D6 _ _ _ ?_
 refine @Ev _ _ _ _ _ _ _ ?_ ?_
 refine @CK _ _ _ _ ?_
 refine @Cn _ _ _ ?_ (by intro _;rfl)
 refine @BA _ _ _ _ _ _ _ _ _ _ CB CW rfl M.z_isinstance A7 ?_ (by decide) (by decide) (by rfl) (by rfl)
 refine @Aa _ _ _ _ _ ?_ ?_ rfl
 exact (Ac 1)
 refine @Aa _ _ _ _ _ ?_ Af rfl
 exact (D5 rfl M.z_list IQ)
 refine @DS _ _ _ _ ?_
 refine @A0 _ _ _ _ _ _ _ _ _ Gr Fy ?_ ?_ (AJ _)
 refine @BA _ _ _ _ _ _ _ _ _ _ BG BM rfl M.z_len BX ?_ (by decide) (by decide) (by rfl) (by rfl)
 refine @Aa _ _ _ _ _ ?_ Af rfl
 exact (Ac 1)
 refine @An _ _ _ _ _ _ _ _ Ak Al ?_ Ag (fun _ _=>rfl)
 exact (Ac 0)
 refine @Ao _ _ _ _ ?_
 exact (AE Cs)
 refine @Aj _ _ _ _ _ _ ?_ ?_
 refine @Du _ _ _ _ _ _ _ _ _ PassesOwn.never rfl ?_ ?_ ?_ (by intro _;rfl)
 refine @Gh _ _ _ _ ?_
 exact (Ac 1)
 exact (Bu sc_fits_list_.nd rfl (.inl rfl))
 refine @Ao _ _ _ _ ?_
 refine @Bd _ _ _ _ _ _ _ _ _ ?_ ?_ AK
 refine @CK _ _ _ _ ?_
 refine @Cn _ _ _ ?_ (by intro _;rfl)
 refine @Am _ _ _ _ _ _ _ _ _ _ _ _ (ih .Bk) hr rfl (M.mgs .Bk) (Fun.kp (M.fn .Bk)) (M.bd .Bk) ?_ (by decide) (by rfl) (by rfl)
 refine @Aa _ _ _ _ _ ?_ ?_ rfl
 refine @An _ _ _ _ _ _ _ _ Ak Al ?_ Ag (fun _ _=>rfl)
 exact (Ac 0)
 refine @Aa _ _ _ _ _ ?_ Af rfl
 exact (Ac 2)
 refine @Ao _ _ _ _ ?_
 exact (AE Cs)
 refine @Ao _ _ _ _ ?_
 exact (AE Cs)
theorem Kh:FnScope (ns .Bm) (ps .Bm) (Av (st .Bm)):=⟨rfl,rfl,rfl,by decide +kernel,rfl,by decide +kernel,by decide +kernel⟩
theorem Kc (M:Md K mg A fd) (ih:∀x,okK (kd x) P w K mg base (n + 2) (A x) (fd x) (ps x) (run n x)):okK .pl P w K mg base (n + 2 + 1) (A .Bm) (fd .Bm) (ps .Bm) (run (n + 1) .Bm):=by
 refine BE (g:=fnOf 2 2 (Ea (run n .Bk))) rfl (BD rfl rfl (M.fn .Bm) Kh (fun cdv A' outer s H E hr=>?_))
 refine @Aj _ _ _ _ _ _ ?_ ?_
 refine @Bd _ _ _ _ _ _ _ _ _ ?_ ?_ AK
 refine @D6 _ _ _ ?_
 refine @Ev _ _ _ _ _ _ _ ?_ ?_
 refine @CK _ _ _ _ ?_
 refine @Cn _ _ _ ?_ (by intro _;rfl)
 refine @BA _ _ _ _ _ _ _ _ _ _ CB CW rfl M.z_isinstance A7 ?_ (by decide) (by decide) (by rfl) (by rfl)
 refine @Aa _ _ _ _ _ ?_ ?_ rfl
 exact (Ac 1)
 refine @Aa _ _ _ _ _ ?_ Af rfl
 exact (D5 rfl M.z_tuple FE)
 refine @DS _ _ _ _ ?_
 refine @A0 _ _ _ _ _ _ _ _ _ (Dv hr.units) (AT (g:=fun b=>!b)) ?_ Ag (AJ _)
 refine @BA _ _ _ _ _ _ _ _ _ _ BG BM rfl M.z_len BX ?_ (by decide) (by decide) (by rfl) (by rfl)
 refine @Aa _ _ _ _ _ ?_ Af rfl
 exact (Ac 1)
 refine @Ao _ _ _ _ ?_
 exact (AE Cs)
 refine @Ao _ _ _ _ ?_
 refine @AE _ _ _ _ ?_
 refine @Gf _ _ _ _ _ _ _ ?_ ?_
 refine @Am _ _ _ _ _ _ _ _ _ _ _ _ (ih .Bk) hr rfl (M.mgs .Bk) (Fun.kp (M.fn .Bk)) (M.bd .Bk) ?_ (by decide) (by rfl) (by rfl)
 refine @Aa _ _ _ _ _ ?_ ?_ rfl
 refine @An _ _ _ _ _ _ _ _ Ak Al ?_ Ag (fun _ _=>rfl)
 exact (Ac 0)
 refine @Aa _ _ _ _ _ ?_ Af rfl
 refine @An _ _ _ _ _ _ _ _ Ak Al ?_ Ag (fun _ _=>rfl)
 exact (Ac 1)
 refine @Gg _ _ _ _ _ ?_
 refine @Am _ _ _ _ _ _ _ _ _ _ _ _ (ih .Bk) hr rfl (M.mgs .Bk) (Fun.kp (M.fn .Bk)) (M.bd .Bk) ?_ (by decide) (by rfl) (by rfl)
 refine @Aa _ _ _ _ _ ?_ ?_ rfl
 refine @An _ _ _ _ _ _ _ _ Ak Al ?_ Ag (fun _ _=>rfl)
 exact (Ac 0)
 refine @Aa _ _ _ _ _ ?_ Af rfl
 refine @An _ _ _ _ _ _ _ _ Ak Al ?_ Ag (fun _ _=>rfl)
 exact (Ac 1)
theorem IC:FnScope (ns .A5) (ps .A5) (Av (st .A5)):=⟨rfl,rfl,rfl,by decide +kernel,rfl,by decide +kernel,by decide +kernel⟩
theorem Ip (M:Md K mg A fd) (ih:∀x,okK (kd x) P w K mg base (n + 2) (A x) (fd x) (ps x) (run n x)):okK .pl P w K mg base (n + 2 + 1) (A .A5) (fd .A5) (ps .A5) (run (n + 1) .A5):=by
 refine BE (g:=fnOf 2 2 (Dy (run n .Bk) (run n .Ay))) rfl (BD rfl rfl (M.fn .A5) IC (fun cdv A' outer s H E hr=>?_))
 refine @Aj _ _ _ _ _ _ ?_ ?_
 refine @Bd _ _ _ _ _ _ _ _ _ ?_ ?_ AK
 refine @D6 _ _ _ ?_
 refine @Ev _ _ _ _ _ _ _ ?_ ?_
 refine @CK _ _ _ _ ?_
 refine @Cn _ _ _ ?_ (by intro _;rfl)
 refine @BA _ _ _ _ _ _ _ _ _ _ CB CW rfl M.z_isinstance A7 ?_ (by decide) (by decide) (by rfl) (by rfl)
 refine @Aa _ _ _ _ _ ?_ ?_ rfl
 exact (Ac 1)
 refine @Aa _ _ _ _ _ ?_ Af rfl
 exact (D5 rfl M.z_tuple FE)
 refine @DS _ _ _ _ ?_
 refine @A0 _ _ _ _ _ _ _ _ _ (Dv hr.units) (AT (g:=fun b=>!b)) ?_ Ag (AJ _)
 refine @BA _ _ _ _ _ _ _ _ _ _ BG BM rfl M.z_len BX ?_ (by decide) (by decide) (by rfl) (by rfl)
 refine @Aa _ _ _ _ _ ?_ Af rfl
 exact (Ac 1)
 refine @Ao _ _ _ _ ?_
 exact (AE Cs)
 refine @Aj _ _ _ _ _ _ ?_ ?_
 refine @Bd _ _ _ _ _ _ _ _ _ ?_ ?_ AK
 refine @D6 _ _ _ ?_
 refine @Ev _ _ _ _ _ _ _ ?_ ?_
 refine @CK _ _ _ _ ?_
 refine @Cn _ _ _ ?_ (by intro _;rfl)
 refine @BA _ _ _ _ _ _ _ _ _ _ CB CW rfl M.z_isinstance A7 ?_ (by decide) (by decide) (by rfl) (by rfl)
 refine @Aa _ _ _ _ _ ?_ ?_ rfl
 refine @An _ _ _ _ _ _ _ _ Ak Al ?_ Ag (fun _ _=>rfl)
 exact (Ac 1)
 refine @Aa _ _ _ _ _ ?_ Af rfl
 exact (D5 rfl M.z_str HS)
 refine @DS _ _ _ _ ?_
 refine @A0 _ _ _ _ _ _ _ _ _ (Dv hr.units) (AT (g:=fun b=>!b)) ?_ AA (AJ _)
 refine @An _ _ _ _ _ _ _ _ Ak Al ?_ Ag (fun _ _=>rfl)
 exact (Ac 1)
 refine @Ao _ _ _ _ ?_
 exact (AE Cs)
 refine @Aj _ _ _ _ _ _ ?_ ?_
 refine @Bd _ _ _ _ _ _ _ _ _ ?_ ?_ AK
 refine @CK _ _ _ _ ?_
 refine @Cn _ _ _ ?_ (by intro _;rfl)
 refine @Am _ _ _ _ _ _ _ _ _ _ _ _ (ih .Ay) hr rfl (M.mgs .Ay) (Fun.kp (M.fn .Ay)) (M.bd .Ay) ?_ (by decide) (by rfl) (by rfl)
 refine @Aa _ _ _ _ _ ?_ ?_ rfl
 refine @An _ _ _ _ _ _ _ _ Ak Al ?_ Ag (fun _ _=>rfl)
 exact (Ac 1)
 refine @Aa _ _ _ _ _ Ag ?_ rfl
 refine @Aa _ _ _ _ _ ?_ Af rfl
 refine @AF _ _ _ _ _ _ _ _ _ CN Cl ?_ Ag
 refine @BA _ _ _ _ _ _ _ _ _ _ BG BM rfl M.z_len BX ?_ (by decide) (by decide) (by rfl) (by rfl)
 refine @Aa _ _ _ _ _ ?_ Af rfl
 refine @An _ _ _ _ _ _ _ _ Ak Al ?_ Ag (fun _ _=>rfl)
 exact (Ac 0)
 refine @Ao _ _ _ _ ?_
 exact (AE Cs)
 refine @Ao _ _ _ _ ?_
 refine @AE _ _ _ _ ?_
 refine @Am _ _ _ _ _ _ _ _ _ _ _ _ (ih .Bk) hr rfl (M.mgs .Bk) (Fun.kp (M.fn .Bk)) (M.bd .Bk) ?_ (by decide) (by rfl) (by rfl)
 refine @Aa _ _ _ _ _ ?_ ?_ rfl
 refine @An _ _ _ _ _ _ _ _ Ak Al ?_ ?_ (fun _ _=>rfl)
 refine @An _ _ _ _ _ _ _ _ Ak Al ?_ Ag (fun _ _=>rfl)
 exact (Ac 0)
 refine @An _ _ _ _ _ _ _ _ Ak Al ?_ Ag (fun _ _=>rfl)
 exact (Ac 1)
 refine @Aa _ _ _ _ _ ?_ Af rfl
 refine @An _ _ _ _ _ _ _ _ Ak Al ?_ Ag (fun _ _=>rfl)
 exact (Ac 1)
theorem sc_steps_of_:FnScope (ns .Bq) (ps .Bq) (Av (st .Bq)):=⟨rfl,rfl,rfl,by decide +kernel,rfl,by decide +kernel,by decide +kernel⟩
theorem Lz (M:Md K mg A fd) (ih:∀x,okK (kd x) P w K mg base (n + 2) (A x) (fd x) (ps x) (run n x)):okK .ex P w K mg base (n + 2 + 1) (A .Bq) (fd .Bq) (ps .Bq) (run (n + 1) .Bq):=by
 obtain ⟨P',ca,x,xt,x0⟩:=M.xm
 have xn:XN1 P w K mg base (ca "NoTalk") P':=Py rfl U7 rfl rfl xt
 refine MR (g:=fnOf 2 7 (Dz (run n .Bb) (run n .A6))) rfl (MD rfl rfl (M.fn .Bq) sc_steps_of_ (fun cdv A' outer s H E hr hp hq ho=>?_))
 refine @Aj _ _ _ _ _ _ ?_ ?_
 exact (AI (i:=2) sc_steps_of_.nd rfl (.inl rfl) Ag)
 refine @Aj _ _ _ _ _ _ ?_ ?_
 refine @Fl _ _ _ _ 3 _ _ _ sc_steps_of_.nd rfl (.inl rfl) ?_ (by rfl) (by first | exact .inl rfl | exact .inr rfl | assumption)
 exact (AN Af)
 refine @Aj _ _ _ _ _ _ ?_ ?_
 refine @Du _ _ _ _ _ _ _ _ _ ho rfl ?_ ?_ ?_ (by intro _;rfl)
 refine Ct rfl M.z_range ?_
 refine @Aa _ _ _ _ _ ?_ Af rfl
 refine @BA _ _ _ _ _ _ _ _ _ _ BG BM rfl M.z_len BX ?_ (by decide) (by decide) (by rfl) (by rfl)
 refine @Aa _ _ _ _ _ ?_ Af rfl
 exact (Ac 1)
 exact (Bu sc_steps_of_.nd rfl (.inl rfl))
 refine @Aj _ _ _ _ _ _ ?_ ?_
 refine @AI _ _ _ _ 5 _ _ _ sc_steps_of_.nd rfl (.inl rfl) ?_ (by rfl) (by first | exact .inl rfl | exact .inr rfl | assumption)
 refine @Am _ _ _ _ _ _ _ _ _ _ _ _ (ih .A6) hr rfl (M.mgs .A6) (Fun.kp (M.fn .A6)) (M.bd .A6) ?_ (by decide) (by rfl) (by rfl)
 refine @Aa _ _ _ _ _ ?_ ?_ rfl
 refine @An _ _ _ _ _ _ _ _ Ak Al ?_ ?_ (fun _ _=>rfl)
 exact (Ac 0)
 exact (Ac 2)
 refine @Aa _ _ _ _ _ ?_ Af rfl
 refine @An _ _ _ _ _ _ _ _ Ak Al ?_ ?_ (fun _ _=>rfl)
 exact (Ac 1)
 exact (Ac 4)
 refine @Aj _ _ _ _ _ _ ?_ ?_
 refine @Bd _ _ _ _ _ _ _ _ _ ?_ ?_ AK
 refine @A0 _ _ _ _ _ _ _ _ _ LE LS ?_ BN (AJ _)
 exact (Ac 5)
 refine @Ao _ _ _ _ ?_
 refine QQ ?_
 refine Ol x xn (hr.mono (by lia)) rfl hq rfl ?_
 refine @Aa _ _ _ _ _ ?_ Af rfl
 exact (Ac 4)
 refine @Aj _ _ _ _ _ _ ?_ ?_
 refine @AI _ _ _ _ 6 _ _ _ sc_steps_of_.nd rfl (.inl rfl) ?_ (by rfl) (by first | exact .inl rfl | exact .inr rfl | assumption)
 refine @AZ _ _ _ _ _ ?_
 refine @Aa _ _ _ _ _ ?_ ?_ rfl
 exact (Ac 2)
 refine @Aa _ _ _ _ _ ?_ Af rfl
 exact (Ac 5)
 refine @Aj _ _ _ _ _ _ ?_ ?_
 refine Dk 3 ?_
 refine @Aa _ _ _ _ _ ?_ Af rfl
 exact (Ac 6)
 refine @Ao _ _ _ _ ?_
 refine @AI _ _ _ _ 2 _ _ _ sc_steps_of_.nd rfl (.inl rfl) ?_ (by rfl) (by first | exact .inl rfl | exact .inr rfl | assumption)
 refine @Am _ _ _ _ _ _ _ _ _ _ _ _ (ih .Bb) hr rfl (M.mgs .Bb) (Fun.kp (M.fn .Bb)) (M.bd .Bb) ?_ (by decide) (by rfl) (by rfl)
 refine @Aa _ _ _ _ _ ?_ ?_ rfl
 exact (Ac 0)
 refine @Aa _ _ _ _ _ ?_ Af rfl
 exact (Ac 6)
 refine @Ao _ _ _ _ ?_
 refine ME ?_
 exact (Ac 3)
theorem JC:FnScope (ns .Bb) (ps .Bb) (Av (st .Bb)):=⟨rfl,rfl,rfl,by decide +kernel,rfl,by decide +kernel,by decide +kernel⟩
theorem Js (M:Md K mg A fd) (ih:∀x,okK (kd x) P w K mg base (n + 2) (A x) (fd x) (ps x) (run n x)):okK .pl P w K mg base (n + 2 + 1) (A .Bb) (fd .Bb) (ps .Bb) (run (n + 1) .Bb):=by
 refine BE (g:=fnOf 2 2 (DV)) rfl (BD rfl rfl (M.fn .Bb) JC (fun cdv A' outer s H E hr=>?_))
 refine @Ao _ _ _ _ ?_
 refine @AE _ _ _ _ ?_
 refine @An _ _ _ _ _ _ _ _ Ak Al ?_ Ag (fun _ _=>rfl)
 refine @An _ _ _ _ _ _ _ _ Ak Al ?_ ?_ (fun _ _=>rfl)
 refine @An _ _ _ _ _ _ _ _ Ak Al ?_ Ag (fun _ _=>rfl)
 refine @An _ _ _ _ _ _ _ _ Ak Al ?_ ?_ (fun _ _=>rfl)
 exact (Ac 0)
 refine @An _ _ _ _ _ _ _ _ Ak Al ?_ Ag (fun _ _=>rfl)
 exact (Ac 1)
 refine @An _ _ _ _ _ _ _ _ Ak Al ?_ Ag (fun _ _=>rfl)
 exact (Ac 1)
theorem sc_place_said_:FnScope (ns .A6) (ps .A6) (Av (st .A6)):=⟨rfl,rfl,rfl,by decide +kernel,rfl,by decide +kernel,by decide +kernel⟩
theorem Jr (M:Md K mg A fd) (ih:∀x,okK (kd x) P w K mg base (n + 2) (A x) (fd x) (ps x) (run n x)):okK .pl P w K mg base (n + 2 + 1) (A .A6) (fd .A6) (ps .A6) (run (n + 1) .A6):=by
 refine BE (g:=fnOf 2 3 (CL (run n .Bk) (run n .A2))) rfl (BD rfl rfl (M.fn .A6) sc_place_said_ (fun cdv A' outer s H E hr=>?_))
 refine @Aj _ _ _ _ _ _ ?_ ?_
 refine @Bd _ _ _ _ _ _ _ _ _ ?_ ?_ AK
 refine @D6 _ _ _ ?_
 refine @Ev _ _ _ _ _ _ _ ?_ ?_
 refine @CK _ _ _ _ ?_
 refine @Cn _ _ _ ?_ (by intro _;rfl)
 refine @BA _ _ _ _ _ _ _ _ _ _ CB CW rfl M.z_isinstance A7 ?_ (by decide) (by decide) (by rfl) (by rfl)
 refine @Aa _ _ _ _ _ ?_ ?_ rfl
 exact (Ac 1)
 refine @Aa _ _ _ _ _ ?_ Af rfl
 exact (D5 rfl M.z_tuple FE)
 refine @DS _ _ _ _ ?_
 refine @A0 _ _ _ _ _ _ _ _ _ (Dv hr.units) (AT (g:=fun b=>!b)) ?_ Ag (AJ _)
 refine @BA _ _ _ _ _ _ _ _ _ _ BG BM rfl M.z_len BX ?_ (by decide) (by decide) (by rfl) (by rfl)
 refine @Aa _ _ _ _ _ ?_ Af rfl
 exact (Ac 1)
 refine @Ao _ _ _ _ ?_
 exact (AE BN)
 refine @Aj _ _ _ _ _ _ ?_ ?_
 refine @Bd _ _ _ _ _ _ _ _ _ ?_ ?_ AK
 refine @D6 _ _ _ ?_
 refine @Ev _ _ _ _ _ _ _ ?_ ?_
 refine @CK _ _ _ _ ?_
 refine @Cn _ _ _ ?_ (by intro _;rfl)
 refine @BA _ _ _ _ _ _ _ _ _ _ CB CW rfl M.z_isinstance A7 ?_ (by decide) (by decide) (by rfl) (by rfl)
 refine @Aa _ _ _ _ _ ?_ ?_ rfl
 refine @An _ _ _ _ _ _ _ _ Ak Al ?_ Ag (fun _ _=>rfl)
 exact (Ac 1)
 refine @Aa _ _ _ _ _ ?_ Af rfl
 exact (D5 rfl M.z_str HS)
 refine @DS _ _ _ _ ?_
 refine @A0 _ _ _ _ _ _ _ _ _ (Dv hr.units) (AT (g:=fun b=>!b)) ?_ ?_ (AJ _)
 refine @An _ _ _ _ _ _ _ _ Ak Al ?_ Ag (fun _ _=>rfl)
 exact (Ac 1)
 refine @An _ _ _ _ _ _ _ _ Ak Al ?_ Ag (fun _ _=>rfl)
 exact (Ac 0)
 refine @Ao _ _ _ _ ?_
 exact (AE BN)
 refine @Aj _ _ _ _ _ _ ?_ ?_
 refine @AI _ _ _ _ 2 _ _ _ sc_place_said_.nd rfl (.inl rfl) ?_ (by rfl) (by first | exact .inl rfl | exact .inr rfl | assumption)
 refine @Am _ _ _ _ _ _ _ _ _ _ _ _ (ih .A2) hr rfl (M.mgs .A2) (Fun.kp (M.fn .A2)) (M.bd .A2) ?_ (by decide) (by rfl) (by rfl)
 refine @Aa _ _ _ _ _ ?_ ?_ rfl
 exact (Ac 0)
 refine @Aa _ _ _ _ _ ?_ Af rfl
 refine @An _ _ _ _ _ _ _ _ Ak Al ?_ Ag (fun _ _=>rfl)
 exact (Ac 1)
 refine @Aj _ _ _ _ _ _ ?_ ?_
 refine @Bd _ _ _ _ _ _ _ _ _ ?_ ?_ AK
 refine @D6 _ _ _ ?_
 refine @Ev _ _ _ _ _ _ _ ?_ ?_
 refine @A0 _ _ _ _ _ _ _ _ _ LE LS ?_ BN (AJ _)
 exact (Ac 2)
 refine @DS _ _ _ _ ?_
 refine @CK _ _ _ _ ?_
 refine @Cn _ _ _ ?_ (by intro _;rfl)
 refine @Am _ _ _ _ _ _ _ _ _ _ _ _ (ih .Bk) hr rfl (M.mgs .Bk) (Fun.kp (M.fn .Bk)) (M.bd .Bk) ?_ (by decide) (by rfl) (by rfl)
 refine @Aa _ _ _ _ _ ?_ ?_ rfl
 refine @An _ _ _ _ _ _ _ _ Ak Al ?_ Ag (fun _ _=>rfl)
 refine @An _ _ _ _ _ _ _ _ Ak Al ?_ ?_ (fun _ _=>rfl)
 refine @An _ _ _ _ _ _ _ _ Ak Al ?_ Ag (fun _ _=>rfl)
 exact (Ac 0)
 exact (Ac 2)
 refine @Aa _ _ _ _ _ ?_ Af rfl
 refine @An _ _ _ _ _ _ _ _ Ak Al ?_ Ag (fun _ _=>rfl)
 exact (Ac 1)
 refine @Ao _ _ _ _ ?_
 exact (AE BN)
 refine @Ao _ _ _ _ ?_
 refine @AE _ _ _ _ ?_
 exact (Ac 2)
theorem sc_place_named_:FnScope (ns .A2) (ps .A2) (Av (st .A2)):=⟨rfl,rfl,rfl,by decide +kernel,rfl,by decide +kernel,by decide +kernel⟩
theorem Ir (M:Md K mg A fd) (ih:∀x,okK (kd x) P w K mg base (n + 2) (A x) (fd x) (ps x) (run n x)):okK .pl P w K mg base (n + 2 + 1) (A .A2) (fd .A2) (ps .A2) (run (n + 1) .A2):=by
 refine BE (g:=fnOf 2 4 (Ch (run n .Br))) rfl (BD rfl rfl (M.fn .A2) sc_place_named_ (fun cdv A' outer s H E hr=>?_))
 refine @Aj _ _ _ _ _ _ ?_ ?_
 refine @Bd _ _ _ _ _ _ _ _ _ ?_ ?_ AK
 refine @CK _ _ _ _ ?_
 refine @Cn _ _ _ ?_ (by intro _;rfl)
 refine @BA _ _ _ _ _ _ _ _ _ _ CB CW rfl M.z_isinstance A7 ?_ (by decide) (by decide) (by rfl) (by rfl)
 refine @Aa _ _ _ _ _ ?_ ?_ rfl
 exact (Ac 1)
 refine @Aa _ _ _ _ _ ?_ Af rfl
 exact (D5 rfl M.z_str HS)
 refine @Ao _ _ _ _ ?_
 exact (AE BN)
 refine @Aj _ _ _ _ _ _ ?_ ?_
 refine @AI _ _ _ _ 2 _ _ _ sc_place_named_.nd rfl (.inl rfl) ?_ (by rfl) (by first | exact .inl rfl | exact .inr rfl | assumption)
 refine @Am _ _ _ _ _ _ _ _ _ _ _ _ (ih .Br) hr rfl (M.mgs .Br) (Fun.kp (M.fn .Br)) (M.bd .Br) ?_ (by decide) (by rfl) (by rfl)
 refine @Aa _ _ _ _ _ ?_ Af rfl
 exact (Ac 0)
 refine @Aj _ _ _ _ _ _ ?_ ?_
 refine @Du _ _ _ _ _ _ _ _ _ PassesOwn.never rfl ?_ ?_ ?_ (by intro _;rfl)
 refine Ct rfl M.z_range ?_
 refine @Aa _ _ _ _ _ ?_ Af rfl
 refine @BA _ _ _ _ _ _ _ _ _ _ BG BM rfl M.z_len BX ?_ (by decide) (by decide) (by rfl) (by rfl)
 refine @Aa _ _ _ _ _ ?_ Af rfl
 exact (Ac 2)
 exact (Bu sc_place_named_.nd rfl (.inl rfl))
 refine @Ao _ _ _ _ ?_
 refine @Bd _ _ _ _ _ _ _ _ _ ?_ ?_ AK
 refine @A0 _ _ _ _ _ _ _ _ _ (Bt hr.units) (AT (g:=id)) ?_ ?_ (AJ _)
 refine @An _ _ _ _ _ _ _ _ Ak Al ?_ Ag (fun _ _=>rfl)
 refine @An _ _ _ _ _ _ _ _ Ak Al ?_ ?_ (fun _ _=>rfl)
 exact (Ac 2)
 exact (Ac 3)
 exact (Ac 1)
 refine @Ao _ _ _ _ ?_
 refine @AE _ _ _ _ ?_
 exact (Ac 3)
 refine @Ao _ _ _ _ ?_
 exact (AE BN)
theorem LR:FnScope (ns .Br) (ps .Br) (Av (st .Br)):=⟨rfl,rfl,rfl,by decide +kernel,rfl,by decide +kernel,by decide +kernel⟩
theorem LB (M:Md K mg A fd) (ih:∀x,okK (kd x) P w K mg base (n + 2) (A x) (fd x) (ps x) (run n x)):okK .pl P w K mg base (n + 2 + 1) (A .Br) (fd .Br) (ps .Br) (run (n + 1) .Br):=by
 refine BE (g:=fnOf 1 1 (Ex (run n .BF))) rfl (BD rfl rfl (M.fn .Br) LR (fun cdv A' outer s H E hr=>?_))
 refine @Ao _ _ _ _ ?_
 refine @AE _ _ _ _ ?_
 refine Pq ?_ ?_ ?_
 refine @Cn _ _ _ ?_ (by intro _;rfl)
 refine @Am _ _ _ _ _ _ _ _ _ _ _ _ (ih .BF) hr rfl (M.mgs .BF) (Fun.kp (M.fn .BF)) (M.bd .BF) ?_ (by decide) (by rfl) (by rfl)
 refine @Aa _ _ _ _ _ ?_ Af rfl
 exact (Ac 0)
 exact (AZ Af)
 refine @An _ _ _ _ _ _ _ _ Ak Al ?_ Ag (fun _ _=>rfl)
 exact (Ac 0)
theorem NH:FnScope (ns .BF) (ps .BF) (Av (st .BF)):=⟨rfl,rfl,rfl,by decide +kernel,rfl,by decide +kernel,by decide +kernel⟩
theorem Nx (M:Md K mg A fd) (ih:∀x,okK (kd x) P w K mg base (n + 2) (A x) (fd x) (ps x) (run n x)):okK .pl P w K mg base (n + 2 + 1) (A .BF) (fd .BF) (ps .BF) (run (n + 1) .BF):=by
 refine BE (g:=fnOf 1 1 (FP)) rfl (BD rfl rfl (M.fn .BF) NH (fun cdv A' outer s H E hr=>?_))
 refine @Ao _ _ _ _ ?_
 refine @AE _ _ _ _ ?_
 refine @Ei _ _ _ _ _ _ _ _ _ (Bt hr.units) (AT (g:=id)) ?_ AA (AJ _)
 refine @An _ _ _ _ _ _ _ _ Ak Al ?_ Ag (fun _ _=>rfl)
 exact (Ac 0)
theorem sc_fitting_bytes_:FnScope (ns .Ar) (ps .Ar) (Av (st .Ar)):=⟨rfl,rfl,rfl,by decide +kernel,rfl,by decide +kernel,by decide +kernel⟩
theorem G5 (M:Md K mg A fd) (ih:∀x,okK (kd x) P w K mg base (n + 2) (A x) (fd x) (ps x) (run n x)):okK .fr P w K mg base (n + 2 + 1) (A .Ar) (fd .Ar) (ps .Ar) (run (n + 1) .Ar):=by
 refine MQ (g:=fnOf 2 5 (C5 (run n .Ar) (run n .A3) (run n .AX))) rfl (MC rfl rfl (M.fn .Ar) sc_fitting_bytes_ (fun cdv A' outer s H E hr=>?_))
 refine @Aj _ _ _ _ _ _ ?_ ?_
 refine @AI _ _ _ _ 2 _ _ _ sc_fitting_bytes_.nd rfl (.inl rfl) ?_ (by rfl) (by first | exact .inl rfl | exact .inr rfl | assumption)
 refine @An _ _ _ _ _ _ _ _ Ak Al ?_ Ag (fun _ _=>rfl)
 exact (Ac 0)
 refine @Aj _ _ _ _ _ _ ?_ ?_
 refine @Bd _ _ _ _ _ _ _ _ _ ?_ ?_ AK
 refine @A0 _ _ _ _ _ _ _ _ _ (Bt hr.units) (AT (g:=id)) ?_ AA (AJ _)
 exact (Ac 2)
 refine @Ao _ _ _ _ ?_
 refine EB ?_
 exact (AN Af)
 refine @Aj _ _ _ _ _ _ ?_ ?_
 refine @Bd _ _ _ _ _ _ _ _ _ ?_ ?_ AK
 refine @A0 _ _ _ _ _ _ _ _ _ (Bt hr.units) (AT (g:=id)) ?_ AA (AJ _)
 exact (Ac 2)
 refine @Ao _ _ _ _ ?_
 refine EB ?_
 refine Ld (ih .AX) hr rfl (M.mgs .AX) (Fun.kp (M.fn .AX)) (M.bd .AX) ?_
 refine @Aa _ _ _ _ _ ?_ ?_ rfl
 refine @AF _ _ _ _ _ _ _ _ _ CN Cl ?_ ?_
 exact (Ac 1)
 refine @An _ _ _ _ _ _ _ _ Ak Al ?_ Ag (fun _ _=>rfl)
 exact (Ac 0)
 refine @Aa _ _ _ _ _ ?_ Af rfl
 refine @Am _ _ _ _ _ _ _ _ _ _ _ _ (ih .A3) hr rfl (M.mgs .A3) (Fun.kp (M.fn .A3)) (M.bd .A3) ?_ (by decide) (by rfl) (by rfl)
 refine @Aa _ _ _ _ _ ?_ Af rfl
 refine @AF _ _ _ _ _ _ _ _ _ CN Cl ?_ ?_
 refine @An _ _ _ _ _ _ _ _ Ak Al ?_ Ag (fun _ _=>rfl)
 exact (Ac 0)
 refine @An _ _ _ _ _ _ _ _ Ak Al ?_ Ag (fun _ _=>rfl)
 exact (Ac 0)
 refine @Aj _ _ _ _ _ _ ?_ ?_
 refine @Bd _ _ _ _ _ _ _ _ _ ?_ ?_ AK
 refine @A0 _ _ _ _ _ _ _ _ _ (Bt hr.units) (AT (g:=id)) ?_ AA (AJ _)
 exact (Ac 2)
 refine @Ao _ _ _ _ ?_
 refine EB ?_
 refine @Nl _ _ _ _ _ _ _ _ _ op_cat HG ?_ ?_
 refine @AG _ _ _ ?_
 refine @AN _ _ _ _ ?_
 refine @Aa _ _ _ _ _ ?_ Af rfl
 refine @BA _ _ _ _ _ _ _ _ _ _ BG BM rfl M.z_len BX ?_ (by decide) (by decide) (by rfl) (by rfl)
 refine @Aa _ _ _ _ _ ?_ Af rfl
 exact (Ac 1)
 refine @AG _ _ _ ?_
 refine EA (Fi ["sign"] [] rfl rfl rfl rfl rfl) rfl ?_ ?_ ?_ ?_
 refine @Gh _ _ _ _ ?_
 exact (Ac 1)
 intro _ _ _ _ _
 exact (Bu (by show List.Nodup [("sign" : Str)] ;decide +kernel) rfl (.inl rfl))
 intro _ _ _ _ _
 exact Fj
 intro _ _ _ _ _
 refine @BA _ _ _ _ _ _ _ _ _ _ K4 MW rfl M.z_ord N2 ?_ (by decide) (by decide) (by rfl) (by rfl)
 refine @Aa _ _ _ _ _ ?_ Af rfl
 exact (Ac 0)
 refine @Aj _ _ _ _ _ _ ?_ ?_
 refine @Bd _ _ _ _ _ _ _ _ _ ?_ ?_ AK
 refine @A0 _ _ _ _ _ _ _ _ _ (Bt hr.units) (AT (g:=id)) ?_ AA (AJ _)
 exact (Ac 2)
 refine @Aj _ _ _ _ _ _ ?_ ?_
 refine @Fl _ _ _ _ 3 _ _ _ sc_fitting_bytes_.nd rfl (.inl rfl) ?_ (by rfl) (by first | exact .inl rfl | exact .inr rfl | assumption)
 refine @AN _ _ _ _ ?_
 refine @Aa _ _ _ _ _ ?_ Af rfl
 refine @BA _ _ _ _ _ _ _ _ _ _ BG BM rfl M.z_len BX ?_ (by decide) (by decide) (by rfl) (by rfl)
 refine @Aa _ _ _ _ _ ?_ Af rfl
 exact (Ac 1)
 refine @Aj _ _ _ _ _ _ ?_ ?_
 refine @Du _ _ _ _ _ _ _ _ _ PassesOwn.never rfl ?_ ?_ ?_ (by intro _;rfl)
 refine @Gh _ _ _ _ ?_
 exact (Ac 1)
 exact (Bu sc_fitting_bytes_.nd rfl (.inl rfl))
 refine @Ao _ _ _ _ ?_
 refine Nn 3 ?_
 refine @Aa _ _ _ _ _ ?_ Af rfl
 refine Eh (ih .Ar) hr rfl (M.mgs .Ar) (Fun.kp (M.fn .Ar)) (M.bd .Ar) ?_
 refine @Aa _ _ _ _ _ ?_ ?_ rfl
 refine @An _ _ _ _ _ _ _ _ Ak Al ?_ Ag (fun _ _=>rfl)
 exact (Ac 0)
 refine @Aa _ _ _ _ _ ?_ Af rfl
 exact (Ac 4)
 refine @Ao _ _ _ _ ?_
 exact (Om 3)
 refine @Aj _ _ _ _ _ _ ?_ ?_
 refine @Bd _ _ _ _ _ _ _ _ _ ?_ ?_ AK
 refine @A0 _ _ _ _ _ _ _ _ _ (Bt hr.units) (AT (g:=id)) ?_ AA (AJ _)
 exact (Ac 2)
 refine @Ao _ _ _ _ ?_
 refine EB ?_
 refine @Nl _ _ _ _ _ _ _ _ _ op_cat HG ?_ ?_
 refine Eh (ih .Ar) hr rfl (M.mgs .Ar) (Fun.kp (M.fn .Ar)) (M.bd .Ar) ?_
 refine @Aa _ _ _ _ _ ?_ ?_ rfl
 refine @An _ _ _ _ _ _ _ _ Ak Al ?_ Ag (fun _ _=>rfl)
 exact (Ac 0)
 refine @Aa _ _ _ _ _ ?_ Af rfl
 refine @An _ _ _ _ _ _ _ _ Ak Al ?_ Ag (fun _ _=>rfl)
 exact (Ac 1)
 refine Eh (ih .Ar) hr rfl (M.mgs .Ar) (Fun.kp (M.fn .Ar)) (M.bd .Ar) ?_
 refine @Aa _ _ _ _ _ ?_ ?_ rfl
 refine @An _ _ _ _ _ _ _ _ Ak Al ?_ Ag (fun _ _=>rfl)
 exact (Ac 0)
 refine @Aa _ _ _ _ _ ?_ Af rfl
 refine @An _ _ _ _ _ _ _ _ Ak Al ?_ Ag (fun _ _=>rfl)
 exact (Ac 1)
 refine @Ao _ _ _ _ ?_
 refine EB ?_
 refine @Nl _ _ _ _ _ _ _ _ _ op_cat HG ?_ ?_
 refine @AG _ _ _ ?_
 refine @AN _ _ _ _ ?_
 refine @Aa _ _ _ _ _ ?_ Af rfl
 refine @An _ _ _ _ _ _ _ _ Ak Al ?_ Ag (fun _ _=>rfl)
 exact (Ac 1)
 refine Eh (ih .Ar) hr rfl (M.mgs .Ar) (Fun.kp (M.fn .Ar)) (M.bd .Ar) ?_
 refine @Aa _ _ _ _ _ ?_ ?_ rfl
 refine @An _ _ _ _ _ _ _ _ Ak Al ?_ ?_ (fun _ _=>rfl)
 refine @An _ _ _ _ _ _ _ _ Ak Al ?_ Ag (fun _ _=>rfl)
 exact (Ac 0)
 refine @An _ _ _ _ _ _ _ _ Ak Al ?_ Ag (fun _ _=>rfl)
 exact (Ac 1)
 refine @Aa _ _ _ _ _ ?_ Af rfl
 refine @An _ _ _ _ _ _ _ _ Ak Al ?_ Ag (fun _ _=>rfl)
 exact (Ac 1)
theorem ID:FnScope (ns .A3) (ps .A3) (Av (st .A3)):=⟨rfl,rfl,rfl,by decide +kernel,rfl,by decide +kernel,by decide +kernel⟩
theorem Iu (M:Md K mg A fd) (ih:∀x,okK (kd x) P w K mg base (n + 2) (A x) (fd x) (ps x) (run n x)):okK .pl P w K mg base (n + 2 + 1) (A .A3) (fd .A3) (ps .A3) (run (n + 1) .A3):=by
 refine BE (g:=fnOf 1 1 (DA)) rfl (BD rfl rfl (M.fn .A3) ID (fun cdv A' outer s H E hr=>?_))
 refine @Ao _ _ _ _ ?_
 refine @AE _ _ _ _ ?_
 refine @AF _ _ _ _ _ _ _ _ _ Jt HH ?_ Ag
 refine @AF _ _ _ _ _ _ _ _ _ Bc AY ?_ Ag
 refine Oc ?_
 exact (Ac 0)
theorem HF:FnScope (ns .AX) (ps .AX) (Av (st .AX)):=⟨rfl,rfl,rfl,by decide +kernel,rfl,by decide +kernel,by decide +kernel⟩
theorem Hz (M:Md K mg A fd) (ih:∀x,okK (kd x) P w K mg base (n + 2) (A x) (fd x) (ps x) (run n x)):okK .fr P w K mg base (n + 2 + 1) (A .AX) (fd .AX) (ps .AX) (run (n + 1) .AX):=by
 refine MQ (g:=fnOf 2 2 (Dm (run n .Bz))) rfl (MC rfl rfl (M.fn .AX) HF (fun cdv A' outer s H E hr=>?_))
 refine @Ao _ _ _ _ ?_
 refine EB ?_
 refine EA (Fi ["k"] [(0 , "number") ,(1 , "width")] rfl rfl rfl rfl rfl) rfl ?_ ?_ ?_ ?_
 refine FK rfl M.z_range ?_
 refine @Aa _ _ _ _ _ Ag ?_ rfl
 refine @Aa _ _ _ _ _ ?_ Af rfl
 refine @AF _ _ _ _ _ _ _ _ _ Bc AY ?_ Ag
 exact (Ac 1)
 intro _ _ _ _ _
 exact (Bu (by show List.Nodup [("k" : Str) ,("number" : Str) ,("width" : Str)] ;decide +kernel) rfl (.inl rfl))
 intro _ _ _ _ _
 exact Fj
 intro _ _ _ _ _
 refine @AF _ _ _ _ _ _ _ _ _ EN D1 ?_ Ag
 refine @Am _ _ _ _ _ _ _ _ _ _ _ _ (ih .Bz) hr rfl (M.mgs .Bz) (Fun.kp (M.fn .Bz)) (M.bd .Bz) ?_ (by decide) (by rfl) (by rfl)
 refine @Aa _ _ _ _ _ ?_ ?_ rfl
 exact (Ac 1)
 refine @Aa _ _ _ _ _ ?_ Af rfl
 refine @AF _ _ _ _ _ _ _ _ _ CN Cl ?_ ?_
 exact (Ac 2)
 exact (Ac 0)
theorem Mo:FnScope (ns .Bz) (ps .Bz) (Av (st .Bz)):=⟨rfl,rfl,rfl,by decide +kernel,rfl,by decide +kernel,by decide +kernel⟩
theorem Mm (M:Md K mg A fd) (ih:∀x,okK (kd x) P w K mg base (n + 2) (A x) (fd x) (ps x) (run n x)):okK .pl P w K mg base (n + 2 + 1) (A .Bz) (fd .Bz) (ps .Bz) (run (n + 1) .Bz):=by
 refine BE (g:=fnOf 2 2 (E9)) rfl (BD rfl rfl (M.fn .Bz) Mo (fun cdv A' outer s H E hr=>?_))
 refine @Ao _ _ _ _ ?_
 refine @AE _ _ _ _ ?_
 refine @AF _ _ _ _ _ _ _ _ _ TD Sr ?_ ?_
 exact (Ac 0)
 refine @AF _ _ _ _ _ _ _ _ _ DL Dh Ag ?_
 exact (Ac 1)
theorem sc_wires_of_:FnScope (ns .AS) (ps .AS) (Av (st .AS)):=⟨rfl,rfl,rfl,by decide +kernel,rfl,by decide +kernel,by decide +kernel⟩
theorem LA (M:Md K mg A fd) (ih:∀x,okK (kd x) P w K mg base (n + 2) (A x) (fd x) (ps x) (run n x)):okK .ex P w K mg base (n + 2 + 1) (A .AS) (fd .AS) (ps .AS) (run (n + 1) .AS):=by
 refine MR (g:=fnOf 2 6 (Cr (run n .AL) (run n .Bq))) rfl (MD rfl rfl (M.fn .AS) sc_wires_of_ (fun cdv A' outer s H E hr hp hq ho=>?_))
 refine @Aj _ _ _ _ _ _ ?_ ?_
 refine @AI _ _ _ _ 2 _ _ _ sc_wires_of_.nd rfl (.inl rfl) ?_ (by rfl) (by first | exact .inl rfl | exact .inr rfl | assumption)
 refine I9 ?_
 refine DC ?_ ?_
 refine @Oe _ _ _ ?_
 exact (AN Af)
 refine DC ?_ Jf
 refine @Oe _ _ _ ?_
 exact (AN Af)
 refine @Aj _ _ _ _ _ _ ?_ ?_
 refine QQ ?_
 refine Ro (i:=3) sc_wires_of_.nd rfl (.inl rfl) ?_
 refine MF (ih .Bq) hr rfl (M.mgs .Bq) (Fun.kp (M.fn .Bq)) (M.bd .Bq) hp ?_
 refine @Aa _ _ _ _ _ ?_ ?_ rfl
 exact (Ac 0)
 refine @Aa _ _ _ _ _ ?_ Af rfl
 exact (Ac 1)
 refine @Aj _ _ _ _ _ _ ?_ ?_
 refine @Du _ _ _ _ _ _ _ _ _ ho rfl ?_ ?_ ?_ (by intro _;rfl)
 refine Ct rfl M.z_range ?_
 refine @Aa _ _ _ _ _ ?_ Af rfl
 refine @BA _ _ _ _ _ _ _ _ _ _ BG BM rfl M.z_len BX ?_ (by decide) (by decide) (by rfl) (by rfl)
 refine @Aa _ _ _ _ _ ?_ Af rfl
 exact (Ac 3)
 exact (Bu sc_wires_of_.nd rfl (.inl rfl))
 refine @Aj _ _ _ _ _ _ ?_ ?_
 refine @AI _ _ _ _ 5 _ _ _ sc_wires_of_.nd rfl (.inl rfl) ?_ (by rfl) (by first | exact .inl rfl | exact .inr rfl | assumption)
 refine @An _ _ _ _ _ _ _ _ Ak Al ?_ ?_ (fun _ _=>rfl)
 exact (Ac 0)
 refine @An _ _ _ _ _ _ _ _ Ak Al ?_ Ag (fun _ _=>rfl)
 refine @An _ _ _ _ _ _ _ _ Ak Al ?_ ?_ (fun _ _=>rfl)
 exact (Ac 3)
 exact (Ac 4)
 refine @Ao _ _ _ _ ?_
 refine Rn ?_
 refine Od ?_ ?_
 refine @An _ _ _ _ _ _ _ _ DU CA ?_ ?_ (fun _ _=>rfl)
 exact (Ac 2)
 refine @An _ _ _ _ _ _ _ _ Ak Al ?_ Ag (fun _ _=>rfl)
 exact (Ac 5)
 refine @Aa _ _ _ _ _ ?_ Af rfl
 refine @Am _ _ _ _ _ _ _ _ _ _ _ _ (ih .AL) hr rfl (M.mgs .AL) (Fun.kp (M.fn .AL)) (M.bd .AL) ?_ (by decide) (by rfl) (by rfl)
 refine @Aa _ _ _ _ _ ?_ ?_ rfl
 exact (Ac 5)
 refine @Aa _ _ _ _ _ ?_ ?_ rfl
 refine @An _ _ _ _ _ _ _ _ Ak Al ?_ Ag (fun _ _=>rfl)
 refine @An _ _ _ _ _ _ _ _ Ak Al ?_ ?_ (fun _ _=>rfl)
 exact (Ac 3)
 exact (Ac 4)
 refine @Aa _ _ _ _ _ ?_ Af rfl
 refine @An _ _ _ _ _ _ _ _ Ak Al ?_ Ag (fun _ _=>rfl)
 refine @An _ _ _ _ _ _ _ _ Ak Al ?_ ?_ (fun _ _=>rfl)
 exact (Ac 1)
 exact (Ac 4)
 refine @Ao _ _ _ _ ?_
 refine ME ?_
 refine @AZ _ _ _ _ _ ?_
 refine @Aa _ _ _ _ _ ?_ ?_ rfl
 refine @An _ _ _ _ _ _ _ _ DU CA ?_ AA (fun _ _=>rfl)
 exact (Ac 2)
 refine @Aa _ _ _ _ _ ?_ Af rfl
 refine @An _ _ _ _ _ _ _ _ DU CA ?_ AA (fun _ _=>rfl)
 exact (Ac 2)
theorem G7:FnScope (ns .AL) (ps .AL) (Av (st .AL)):=⟨rfl,rfl,rfl,by decide +kernel,rfl,by decide +kernel,by decide +kernel⟩
theorem G6 (M:Md K mg A fd) (ih:∀x,okK (kd x) P w K mg base (n + 2) (A x) (fd x) (ps x) (run n x)):okK .pl P w K mg base (n + 2 + 1) (A .AL) (fd .AL) (ps .AL) (run (n + 1) .AL):=by
 refine BE (g:=fnOf 3 3 (C6 (run n .Ar))) rfl (BD rfl rfl (M.fn .AL) G7 (fun cdv A' outer s H E hr=>?_))
 refine @Ao _ _ _ _ ?_
 refine @AE _ _ _ _ ?_
 refine @AF _ _ _ _ _ _ _ _ _ Bc AY ?_ ?_
 refine @AG _ _ _ ?_
 refine @AN _ _ _ _ ?_
 refine @Aa _ _ _ _ _ ?_ Af rfl
 exact (Ac 1)
 refine Eh (ih .Ar) hr rfl (M.mgs .Ar) (Fun.kp (M.fn .Ar)) (M.bd .Ar) ?_
 refine @Aa _ _ _ _ _ ?_ ?_ rfl
 refine @An _ _ _ _ _ _ _ _ Ak Al ?_ Ag (fun _ _=>rfl)
 refine @An _ _ _ _ _ _ _ _ Ak Al ?_ ?_ (fun _ _=>rfl)
 refine @An _ _ _ _ _ _ _ _ Ak Al ?_ Ag (fun _ _=>rfl)
 exact (Ac 0)
 exact (Ac 1)
 refine @Aa _ _ _ _ _ ?_ Af rfl
 exact (Ac 2)
theorem HE:FnScope (ns .AV) (ps .AV) (Av (st .AV)):=⟨rfl,rfl,rfl,by decide +kernel,rfl,by decide +kernel,by decide +kernel⟩
theorem Hw (M:Md K mg A fd) (ih:∀x,okK (kd x) P w K mg base (n + 2) (A x) (fd x) (ps x) (run n x)):okK .pl P w K mg base (n + 2 + 1) (A .AV) (fd .AV) (ps .AV) (run (n + 1) .AV):=by
 refine BE (g:=fnOf 2 2 (Cv)) rfl (BD rfl rfl (M.fn .AV) HE (fun cdv A' outer s H E hr=>?_))
 refine @Aj _ _ _ _ _ _ ?_ ?_
 refine @Bd _ _ _ _ _ _ _ _ _ ?_ ?_ AK
 refine @A0 _ _ _ _ _ _ _ _ _ LF JE ?_ ?_ (AJ _)
 exact (Ac 1)
 refine @BA _ _ _ _ _ _ _ _ _ _ BG BM rfl M.z_len BX ?_ (by decide) (by decide) (by rfl) (by rfl)
 refine @Aa _ _ _ _ _ ?_ Af rfl
 exact (Ac 0)
 refine @Ao _ _ _ _ ?_
 refine @AE _ _ _ _ ?_
 refine @An _ _ _ _ _ _ _ _ Ak Al ?_ ?_ (fun _ _=>rfl)
 exact (Ac 0)
 exact (Ac 1)
 refine @Ao _ _ _ _ ?_
 exact (AE Ag)
theorem sc_f_law_pool:FnScope (ns .AD) (ps .AD) (Av (st .AD)):=⟨rfl,rfl,rfl,by decide +kernel,rfl,by decide +kernel,by decide +kernel⟩
theorem J8 (M:Md K mg A fd) (ih:∀x,okK (kd x) P w K mg base (n + 2) (A x) (fd x) (ps x) (run n x)):okK .pl P w K mg base (n + 2 + 1) (A .AD) (fd .AD) (ps .AD) (run (n + 1) .AD):=by
 refine BE (g:=fnOf 2 3 (Cc (run n .AV))) rfl (BD rfl rfl (M.fn .AD) sc_f_law_pool (fun cdv A' outer s H E hr=>?_))
 refine @Aj _ _ _ _ _ _ ?_ ?_
 refine @AI _ _ _ _ 2 _ _ _ sc_f_law_pool.nd rfl (.inl rfl) ?_ (by rfl) (by first | exact .inl rfl | exact .inr rfl | assumption)
 refine @Am _ _ _ _ _ _ _ _ _ _ _ _ (ih .AV) hr rfl (M.mgs .AV) (Fun.kp (M.fn .AV)) (M.bd .AV) ?_ (by decide) (by rfl) (by rfl)
 refine @Aa _ _ _ _ _ ?_ ?_ rfl
 exact (Ac 0)
 refine @Aa _ _ _ _ _ ?_ Af rfl
 exact (Ac 1)
 refine @Ao _ _ _ _ ?_
 refine @AE _ _ _ _ ?_
 refine I9 ?_
 refine DC ?_ ?_
 exact (Ac 2)
 refine DC ?_ ?_
 refine @Ei _ _ _ _ _ _ _ _ _ LF JE ?_ ?_ (AJ _)
 exact (Ac 2)
 exact (AF Iw GY Ag Ag)
 refine DC ?_ Jf
 refine @AF _ _ _ _ _ _ _ _ _ Bc AY Ag ?_
 refine @AF _ _ _ _ _ _ _ _ _ DL Dh Ag ?_
 exact (Ac 1)
theorem sc_f_law_take:FnScope (ns .Ae) (ps .Ae) (Av (st .Ae)):=⟨rfl,rfl,rfl,by decide +kernel,rfl,by decide +kernel,by decide +kernel⟩
theorem J9 (M:Md K mg A fd) (ih:∀x,okK (kd x) P w K mg base (n + 2) (A x) (fd x) (ps x) (run n x)):okK .pl P w K mg base (n + 2 + 1) (A .Ae) (fd .Ae) (ps .Ae) (run (n + 1) .Ae):=by
 refine BE (g:=fnOf 2 3 (Cd)) rfl (BD rfl rfl (M.fn .Ae) sc_f_law_take (fun cdv A' outer s H E hr=>?_))
 refine @Aj _ _ _ _ _ _ ?_ ?_
 refine @AI _ _ _ _ 2 _ _ _ sc_f_law_take.nd rfl (.inl rfl) ?_ (by rfl) (by first | exact .inl rfl | exact .inr rfl | assumption)
 refine @An _ _ _ _ _ _ _ _ DU CA ?_ AA (fun _ _=>rfl)
 exact (Ac 0)
 refine @Aj _ _ _ _ _ _ ?_ ?_
 refine @Bd _ _ _ _ _ _ _ _ _ ?_ ?_ AK
 refine @CK _ _ _ _ ?_
 refine @Cn _ _ _ ?_ (by intro _;rfl)
 refine @An _ _ _ _ _ _ _ _ DU CA ?_ AA (fun _ _=>rfl)
 exact (Ac 0)
 refine @Aj _ _ _ _ _ _ ?_ ?_
 refine Ej ?_ ?_
 refine @AF _ _ _ _ _ _ _ _ _ LD JX ?_ ?_
 exact (Ac 2)
 exact (Ac 1)
 refine E6 ?_ AA
 exact (Ac 0)
 refine @Ao _ _ _ _ ?_
 refine @AE _ _ _ _ ?_
 refine @AF _ _ _ _ _ _ _ _ _ EN D1 ?_ ?_
 exact (Ac 2)
 exact (Ac 1)
 refine @Aj _ _ _ _ _ _ ?_ ?_
 refine Ej ?_ ?_
 refine @AF _ _ _ _ _ _ _ _ _ Bc AY ?_ Ag
 refine @An _ _ _ _ _ _ _ _ DU CA ?_ AA (fun _ _=>rfl)
 exact (Ac 0)
 refine E6 ?_ AA
 exact (Ac 0)
 refine @Aj _ _ _ _ _ _ ?_ ?_
 refine @AI _ _ _ _ 2 _ _ _ sc_f_law_take.nd rfl (.inl rfl) ?_ (by rfl) (by first | exact .inl rfl | exact .inr rfl | assumption)
 refine @AF _ _ _ _ _ _ _ _ _ Bc AY ?_ ?_
 refine @AF _ _ _ _ _ _ _ _ _ EN D1 ?_ Ag
 exact (Ac 2)
 refine @AF _ _ _ _ _ _ _ _ _ Ju HI Ag ?_
 refine @An _ _ _ _ _ _ _ _ DU CA ?_ AA (fun _ _=>rfl)
 exact (Ac 0)
 refine @Aj _ _ _ _ _ _ ?_ ?_
 refine @AI _ _ _ _ 2 _ _ _ sc_f_law_take.nd rfl (.inl rfl) ?_ (by rfl) (by first | exact .inl rfl | exact .inr rfl | assumption)
 refine @AF _ _ _ _ _ _ _ _ _ EN D1 ?_ Ag
 refine @AF _ _ _ _ _ _ _ _ _ Ju HI ?_ ?_
 exact (Ac 2)
 refine @AF _ _ _ _ _ _ _ _ _ Bc AY ?_ Ag
 exact (Ac 2)
 refine @Aj _ _ _ _ _ _ ?_ ?_
 refine @AI _ _ _ _ 2 _ _ _ sc_f_law_take.nd rfl (.inl rfl) ?_ (by rfl) (by first | exact .inl rfl | exact .inr rfl | assumption)
 refine @AF _ _ _ _ _ _ _ _ _ EN D1 ?_ Ag
 refine @AF _ _ _ _ _ _ _ _ _ Ju HI ?_ ?_
 exact (Ac 2)
 exact (Ac 2)
 refine @Aj _ _ _ _ _ _ ?_ ?_
 refine Ej ?_ ?_
 exact (Ac 2)
 refine E6 ?_ AA
 exact (Ac 0)
 refine @Ao _ _ _ _ ?_
 refine @AE _ _ _ _ ?_
 refine @AF _ _ _ _ _ _ _ _ _ EN D1 ?_ ?_
 refine @AF _ _ _ _ _ _ _ _ _ LD JX ?_ Ag
 exact (Ac 2)
 exact (Ac 1)
theorem sc_f_law_shape:FnScope (ns .AB) (ps .AB) (Av (st .AB)):=⟨rfl,rfl,rfl,by decide +kernel,rfl,by decide +kernel,by decide +kernel⟩
theorem Jp (M:Md K mg A fd) (ih:∀x,okK (kd x) P w K mg base (n + 2) (A x) (fd x) (ps x) (run n x)):okK .pl P w K mg base (n + 2 + 1) (A .AB) (fd .AB) (ps .AB) (run (n + 1) .AB):=by
 refine BE (g:=fnOf 2 4 (CP (run n .Ae) (run n .AB))) rfl (BD rfl rfl (M.fn .AB) sc_f_law_shape (fun cdv A' outer s H E hr=>?_))
 refine @Aj _ _ _ _ _ _ ?_ ?_
 refine @AI _ _ _ _ 2 _ _ _ sc_f_law_shape.nd rfl (.inl rfl) ?_ (by rfl) (by first | exact .inl rfl | exact .inr rfl | assumption)
 refine @Am _ _ _ _ _ _ _ _ _ _ _ _ (ih .Ae) hr rfl (M.mgs .Ae) (Fun.kp (M.fn .Ae)) (M.bd .Ae) ?_ (by decide) (by rfl) (by rfl)
 refine @Aa _ _ _ _ _ ?_ ?_ rfl
 exact (Ac 0)
 refine @Aa _ _ _ _ _ ?_ Af rfl
 refine @AF _ _ _ _ _ _ _ _ _ Bc AY Ag ?_
 refine @AF _ _ _ _ _ _ _ _ _ DL Dh Ag ?_
 refine @Nk _ _ _ _ _ _ _ _ _ _ JN MT rfl M.z_int KY ?_ (by decide) (by decide) (by rfl) (by rfl)
 refine @Aa _ _ _ _ _ ?_ Af rfl
 refine @Ei _ _ _ _ _ _ _ _ _ Gr Fy ?_ Ag (AJ _)
 exact (Ac 1)
 refine @Aj _ _ _ _ _ _ ?_ ?_
 refine @Bd _ _ _ _ _ _ _ _ _ ?_ ?_ AK
 refine @A0 _ _ _ _ _ _ _ _ _ (Bt hr.units) (AT (g:=id)) ?_ Ag (AJ _)
 exact (Ac 2)
 refine @Ao _ _ _ _ ?_
 refine @AE _ _ _ _ ?_
 refine @AZ _ _ _ _ _ ?_
 exact (@Aa _ _ _ _ _ AA Af rfl)
 refine @Aj _ _ _ _ _ _ ?_ ?_
 refine @Bd _ _ _ _ _ _ _ _ _ ?_ ?_ AK
 refine @A0 _ _ _ _ _ _ _ _ _ (Bt hr.units) (AT (g:=id)) ?_ Ag (AJ _)
 exact (Ac 2)
 refine @Aj _ _ _ _ _ _ ?_ ?_
 refine @AI _ _ _ _ 3 _ _ _ sc_f_law_shape.nd rfl (.inl rfl) ?_ (by rfl) (by first | exact .inl rfl | exact .inr rfl | assumption)
 refine @An _ _ _ _ _ _ _ _ Ak Al ?_ ?_ (fun _ _=>rfl)
 refine @AG _ _ _ ?_
 refine @AN _ _ _ _ ?_
 refine @Aa _ _ _ _ _ Ag ?_ rfl
 refine @Aa _ _ _ _ _ ?_ ?_ rfl
 refine @AF _ _ _ _ _ _ _ _ _ CN Cl ?_ Ag
 refine @Am _ _ _ _ _ _ _ _ _ _ _ _ (ih .Ae) hr rfl (M.mgs .Ae) (Fun.kp (M.fn .Ae)) (M.bd .Ae) ?_ (by decide) (by rfl) (by rfl)
 refine @Aa _ _ _ _ _ ?_ ?_ rfl
 exact (Ac 0)
 exact (@Aa _ _ _ _ _ Ag Af rfl)
 refine @Aa _ _ _ _ _ ?_ Af rfl
 refine @AF _ _ _ _ _ _ _ _ _ CN Cl ?_ ?_
 refine @Am _ _ _ _ _ _ _ _ _ _ _ _ (ih .Ae) hr rfl (M.mgs .Ae) (Fun.kp (M.fn .Ae)) (M.bd .Ae) ?_ (by decide) (by rfl) (by rfl)
 refine @Aa _ _ _ _ _ ?_ ?_ rfl
 exact (Ac 0)
 refine @Aa _ _ _ _ _ ?_ Af rfl
 exact (AF Iw GY Ag Ag)
 exact (AF Iw GY Ag Ag)
 refine @Am _ _ _ _ _ _ _ _ _ _ _ _ (ih .Ae) hr rfl (M.mgs .Ae) (Fun.kp (M.fn .Ae)) (M.bd .Ae) ?_ (by decide) (by rfl) (by rfl)
 refine @Aa _ _ _ _ _ ?_ ?_ rfl
 exact (Ac 0)
 exact (@Aa _ _ _ _ _ Ag Af rfl)
 refine @Ao _ _ _ _ ?_
 refine @AE _ _ _ _ ?_
 refine @AZ _ _ _ _ _ ?_
 refine @Aa _ _ _ _ _ AA ?_ rfl
 refine @Aa _ _ _ _ _ ?_ ?_ rfl
 exact (Ac 3)
 refine @Aa _ _ _ _ _ ?_ Af rfl
 refine @AF _ _ _ _ _ _ _ _ _ Bc AY ?_ ?_
 exact (Ac 3)
 refine @An _ _ _ _ _ _ _ _ Ak Al ?_ ?_ (fun _ _=>rfl)
 refine @AG _ _ _ ?_
 refine @AN _ _ _ _ ?_
 refine @Aa _ _ _ _ _ Ag ?_ rfl
 refine @Aa _ _ _ _ _ Ag ?_ rfl
 refine @Aa _ _ _ _ _ Ag ?_ rfl
 refine @Aa _ _ _ _ _ Ag ?_ rfl
 refine @Aa _ _ _ _ _ Ag ?_ rfl
 refine @Aa _ _ _ _ _ Ag ?_ rfl
 refine @Aa _ _ _ _ _ ?_ Af rfl
 refine @Am _ _ _ _ _ _ _ _ _ _ _ _ (ih .Ae) hr rfl (M.mgs .Ae) (Fun.kp (M.fn .Ae)) (M.bd .Ae) ?_ (by decide) (by rfl) (by rfl)
 refine @Aa _ _ _ _ _ ?_ ?_ rfl
 exact (Ac 0)
 refine @Aa _ _ _ _ _ ?_ Af rfl
 exact (AF Iw GY Ag Ag)
 refine @Am _ _ _ _ _ _ _ _ _ _ _ _ (ih .Ae) hr rfl (M.mgs .Ae) (Fun.kp (M.fn .Ae)) (M.bd .Ae) ?_ (by decide) (by rfl) (by rfl)
 refine @Aa _ _ _ _ _ ?_ ?_ rfl
 exact (Ac 0)
 exact (@Aa _ _ _ _ _ Ag Af rfl)
 refine @Aj _ _ _ _ _ _ ?_ ?_
 refine @Bd _ _ _ _ _ _ _ _ _ ?_ ?_ AK
 refine @A0 _ _ _ _ _ _ _ _ _ (Bt hr.units) (AT (g:=id)) ?_ Ag (AJ _)
 exact (Ac 2)
 refine @Ao _ _ _ _ ?_
 refine @AE _ _ _ _ ?_
 refine @AZ _ _ _ _ _ ?_
 refine @Aa _ _ _ _ _ AA ?_ rfl
 refine @Aa _ _ _ _ _ ?_ Af rfl
 refine @An _ _ _ _ _ _ _ _ Ak Al ?_ ?_ (fun _ _=>rfl)
 refine @AG _ _ _ ?_
 refine @AN _ _ _ _ ?_
 refine @Aa _ _ _ _ _ Ag ?_ rfl
 refine @Aa _ _ _ _ _ Ag ?_ rfl
 refine @Aa _ _ _ _ _ Ag ?_ rfl
 exact (@Aa _ _ _ _ _ Ag Af rfl)
 refine @Am _ _ _ _ _ _ _ _ _ _ _ _ (ih .Ae) hr rfl (M.mgs .Ae) (Fun.kp (M.fn .Ae)) (M.bd .Ae) ?_ (by decide) (by rfl) (by rfl)
 refine @Aa _ _ _ _ _ ?_ ?_ rfl
 exact (Ac 0)
 exact (@Aa _ _ _ _ _ Ag Af rfl)
 refine @Aj _ _ _ _ _ _ ?_ ?_
 refine @Bd _ _ _ _ _ _ _ _ _ ?_ ?_ AK
 refine @A0 _ _ _ _ _ _ _ _ _ (Bt hr.units) (AT (g:=id)) ?_ Ag (AJ _)
 exact (Ac 2)
 refine @Ao _ _ _ _ ?_
 refine @AE _ _ _ _ ?_
 refine @AZ _ _ _ _ _ ?_
 refine @Aa _ _ _ _ _ AA ?_ rfl
 refine @Aa _ _ _ _ _ ?_ ?_ rfl
 refine @Am _ _ _ _ _ _ _ _ _ _ _ _ (ih .AB) hr rfl (M.mgs .AB) (Fun.kp (M.fn .AB)) (M.bd .AB) ?_ (by decide) (by rfl) (by rfl)
 refine @Aa _ _ _ _ _ ?_ ?_ rfl
 exact (Ac 0)
 refine @Aa _ _ _ _ _ ?_ Af rfl
 refine @AF _ _ _ _ _ _ _ _ _ CN Cl ?_ Ag
 exact (Ac 1)
 refine @Aa _ _ _ _ _ ?_ Af rfl
 refine @An _ _ _ _ _ _ _ _ Ak Al ?_ ?_ (fun _ _=>rfl)
 refine @AG _ _ _ ?_
 refine @AN _ _ _ _ ?_
 refine @Aa _ _ _ _ _ Ag ?_ rfl
 refine @Aa _ _ _ _ _ Ag ?_ rfl
 refine @Aa _ _ _ _ _ Ag ?_ rfl
 exact (@Aa _ _ _ _ _ Ag Af rfl)
 refine @Am _ _ _ _ _ _ _ _ _ _ _ _ (ih .Ae) hr rfl (M.mgs .Ae) (Fun.kp (M.fn .Ae)) (M.bd .Ae) ?_ (by decide) (by rfl) (by rfl)
 refine @Aa _ _ _ _ _ ?_ ?_ rfl
 exact (Ac 0)
 exact (@Aa _ _ _ _ _ Ag Af rfl)
 refine @Aj _ _ _ _ _ _ ?_ ?_
 refine @Bd _ _ _ _ _ _ _ _ _ ?_ ?_ AK
 refine @A0 _ _ _ _ _ _ _ _ _ (Bt hr.units) (AT (g:=id)) ?_ Ag (AJ _)
 exact (Ac 2)
 refine @Ao _ _ _ _ ?_
 refine @AE _ _ _ _ ?_
 refine @AZ _ _ _ _ _ ?_
 refine @Aa _ _ _ _ _ AA ?_ rfl
 refine @Aa _ _ _ _ _ ?_ ?_ rfl
 refine @Am _ _ _ _ _ _ _ _ _ _ _ _ (ih .AB) hr rfl (M.mgs .AB) (Fun.kp (M.fn .AB)) (M.bd .AB) ?_ (by decide) (by rfl) (by rfl)
 refine @Aa _ _ _ _ _ ?_ ?_ rfl
 exact (Ac 0)
 refine @Aa _ _ _ _ _ ?_ Af rfl
 refine @AF _ _ _ _ _ _ _ _ _ CN Cl ?_ Ag
 exact (Ac 1)
 refine @Aa _ _ _ _ _ ?_ Af rfl
 refine @Am _ _ _ _ _ _ _ _ _ _ _ _ (ih .AB) hr rfl (M.mgs .AB) (Fun.kp (M.fn .AB)) (M.bd .AB) ?_ (by decide) (by rfl) (by rfl)
 refine @Aa _ _ _ _ _ ?_ ?_ rfl
 exact (Ac 0)
 refine @Aa _ _ _ _ _ ?_ Af rfl
 refine @AF _ _ _ _ _ _ _ _ _ CN Cl ?_ Ag
 exact (Ac 1)
 refine @Ao _ _ _ _ ?_
 refine @AE _ _ _ _ ?_
 refine @AZ _ _ _ _ _ ?_
 refine @Aa _ _ _ _ _ AA ?_ rfl
 refine @Aa _ _ _ _ _ ?_ Af rfl
 refine @Nk _ _ _ _ _ _ _ _ _ _ J6 Ss rfl M.z_tuple FE ?_ (by decide) (by decide) (by rfl) (by rfl)
 refine @Aa _ _ _ _ _ ?_ Af rfl
 refine @AG _ _ _ ?_
 refine EA (Fi ["k"] [(0 , "pool") ,(1 , "deep")] rfl rfl rfl rfl rfl) rfl ?_ ?_ ?_ ?_
 refine Ct rfl M.z_range ?_
 refine @Aa _ _ _ _ _ ?_ Af rfl
 refine @AF _ _ _ _ _ _ _ _ _ Bc AY Ag ?_
 refine @Am _ _ _ _ _ _ _ _ _ _ _ _ (ih .Ae) hr rfl (M.mgs .Ae) (Fun.kp (M.fn .Ae)) (M.bd .Ae) ?_ (by decide) (by rfl) (by rfl)
 refine @Aa _ _ _ _ _ ?_ ?_ rfl
 exact (Ac 0)
 exact (@Aa _ _ _ _ _ Ag Af rfl)
 intro _ _ _ _ _
 exact (Bu (by show List.Nodup [("k" : Str) ,("pool" : Str) ,("deep" : Str)] ;decide +kernel) rfl (.inl rfl))
 intro _ _ _ _ _
 exact Fj
 intro _ _ _ _ _
 refine @Am _ _ _ _ _ _ _ _ _ _ _ _ (ih .AB) hr rfl (M.mgs .AB) (Fun.kp (M.fn .AB)) (M.bd .AB) ?_ (by decide) (by rfl) (by rfl)
 refine @Aa _ _ _ _ _ ?_ ?_ rfl
 exact (Ac 1)
 refine @Aa _ _ _ _ _ ?_ Af rfl
 refine @AF _ _ _ _ _ _ _ _ _ CN Cl ?_ Ag
 exact (Ac 2)
theorem sc_f_law_value:FnScope (ns .Ap) (ps .Ap) (Av (st .Ap)):=⟨rfl,rfl,rfl,by decide +kernel,rfl,by decide +kernel,by decide +kernel⟩
theorem Jq (M:Md K mg A fd) (ih:∀x,okK (kd x) P w K mg base (n + 2) (A x) (fd x) (ps x) (run n x)):okK .pl P w K mg base (n + 2 + 1) (A .Ap) (fd .Ap) (ps .Ap) (run (n + 1) .Ap):=by
 refine BE (g:=fnOf 2 5 (B4 (run n .Ap) (run n .Ae))) rfl (BD rfl rfl (M.fn .Ap) sc_f_law_value (fun cdv A' outer s H E hr=>?_))
 refine @Aj _ _ _ _ _ _ ?_ ?_
 refine @AI _ _ _ _ 2 _ _ _ sc_f_law_value.nd rfl (.inl rfl) ?_ (by rfl) (by first | exact .inl rfl | exact .inr rfl | assumption)
 refine @An _ _ _ _ _ _ _ _ Ak Al ?_ Ag (fun _ _=>rfl)
 exact (Ac 1)
 refine @Aj _ _ _ _ _ _ ?_ ?_
 refine @Bd _ _ _ _ _ _ _ _ _ ?_ ?_ AK
 refine @A0 _ _ _ _ _ _ _ _ _ (Bt hr.units) (AT (g:=id)) ?_ AA (AJ _)
 exact (Ac 2)
 refine @Ao _ _ _ _ ?_
 exact (AE BN)
 refine @Aj _ _ _ _ _ _ ?_ ?_
 refine @Bd _ _ _ _ _ _ _ _ _ ?_ ?_ AK
 refine @A0 _ _ _ _ _ _ _ _ _ (Bt hr.units) (AT (g:=id)) ?_ AA (AJ _)
 exact (Ac 2)
 refine @Ao _ _ _ _ ?_
 refine @AE _ _ _ _ ?_
 refine @An _ _ _ _ _ _ _ _ Ak Al ?_ ?_ (fun _ _=>rfl)
 refine @AG _ _ _ ?_
 refine @AN _ _ _ _ ?_
 refine @Aa _ _ _ _ _ ?_ ?_ rfl
 refine @An _ _ _ _ _ _ _ _ Ak Al ?_ Ag (fun _ _=>rfl)
 exact (Ac 1)
 refine @Aa _ _ _ _ _ ?_ ?_ rfl
 refine @An _ _ _ _ _ _ _ _ Ak Al ?_ Ag (fun _ _=>rfl)
 exact (Ac 1)
 refine @Aa _ _ _ _ _ ?_ Af rfl
 refine @AF _ _ _ _ _ _ _ _ _ Bc AY ?_ ?_
 refine @An _ _ _ _ _ _ _ _ Ak Al ?_ Ag (fun _ _=>rfl)
 exact (Ac 1)
 refine @Am _ _ _ _ _ _ _ _ _ _ _ _ (ih .Ae) hr rfl (M.mgs .Ae) (Fun.kp (M.fn .Ae)) (M.bd .Ae) ?_ (by decide) (by rfl) (by rfl)
 refine @Aa _ _ _ _ _ ?_ ?_ rfl
 exact (Ac 0)
 refine @Aa _ _ _ _ _ ?_ Af rfl
 refine @AF _ _ _ _ _ _ _ _ _ Bc AY ?_ Ag
 refine @AF _ _ _ _ _ _ _ _ _ CN Cl ?_ ?_
 refine @An _ _ _ _ _ _ _ _ Ak Al ?_ Ag (fun _ _=>rfl)
 exact (Ac 1)
 refine @An _ _ _ _ _ _ _ _ Ak Al ?_ Ag (fun _ _=>rfl)
 exact (Ac 1)
 refine @Am _ _ _ _ _ _ _ _ _ _ _ _ (ih .Ae) hr rfl (M.mgs .Ae) (Fun.kp (M.fn .Ae)) (M.bd .Ae) ?_ (by decide) (by rfl) (by rfl)
 refine @Aa _ _ _ _ _ ?_ ?_ rfl
 exact (Ac 0)
 exact (@Aa _ _ _ _ _ Ag Af rfl)
 refine @Aj _ _ _ _ _ _ ?_ ?_
 refine @Bd _ _ _ _ _ _ _ _ _ ?_ ?_ AK
 refine @A0 _ _ _ _ _ _ _ _ _ (Bt hr.units) (AT (g:=id)) ?_ AA (AJ _)
 exact (Ac 2)
 refine @Aj _ _ _ _ _ _ ?_ ?_
 exact (AI (i:=3) sc_f_law_value.nd rfl (.inr rfl) AA)
 refine @Ao _ _ _ _ ?_
 refine @AE _ _ _ _ ?_
 refine Rj AA ?_
 refine @Aa _ _ _ _ _ ?_ Af rfl
 refine @AG _ _ _ ?_
 refine EA (Fi ["k"] [(3 , "signs") ,(0 , "pool")] rfl rfl rfl rfl rfl) rfl ?_ ?_ ?_ ?_
 refine Ct rfl M.z_range ?_
 refine @Aa _ _ _ _ _ ?_ Af rfl
 refine @BA _ _ _ _ _ _ _ _ _ _ (E4 rfl) GW rfl M.z_min HR ?_ (by decide) (by decide) (by rfl) (by rfl)
 refine @Aa _ _ _ _ _ ?_ ?_ rfl
 refine @An _ _ _ _ _ _ _ _ Ak Al ?_ Ag (fun _ _=>rfl)
 exact (Ac 1)
 refine @Aa _ _ _ _ _ ?_ Af rfl
 refine @Am _ _ _ _ _ _ _ _ _ _ _ _ (ih .Ae) hr rfl (M.mgs .Ae) (Fun.kp (M.fn .Ae)) (M.bd .Ae) ?_ (by decide) (by rfl) (by rfl)
 refine @Aa _ _ _ _ _ ?_ ?_ rfl
 exact (Ac 0)
 exact (@Aa _ _ _ _ _ Ag Af rfl)
 intro _ _ _ _ _
 exact (Bu (by show List.Nodup [("k" : Str) ,("signs" : Str) ,("pool" : Str)] ;decide +kernel) rfl (.inl rfl))
 intro _ _ _ _ _
 exact Fj
 intro _ _ _ _ _
 refine @An _ _ _ _ _ _ _ _ Ak Al ?_ ?_ (fun _ _=>rfl)
 exact (Ac 1)
 refine @Am _ _ _ _ _ _ _ _ _ _ _ _ (ih .Ae) hr rfl (M.mgs .Ae) (Fun.kp (M.fn .Ae)) (M.bd .Ae) ?_ (by decide) (by rfl) (by rfl)
 refine @Aa _ _ _ _ _ ?_ ?_ rfl
 exact (Ac 2)
 exact (@Aa _ _ _ _ _ Ag Af rfl)
 refine @Aj _ _ _ _ _ _ ?_ ?_
 refine @Bd _ _ _ _ _ _ _ _ _ ?_ ?_ AK
 refine @A0 _ _ _ _ _ _ _ _ _ (Bt hr.units) (AT (g:=id)) ?_ AA (AJ _)
 exact (Ac 2)
 refine @Ao _ _ _ _ ?_
 refine @AE _ _ _ _ ?_
 refine @AG _ _ _ ?_
 refine EA (Fi ["k"] [(0 , "pool") ,(1 , "s")] rfl rfl rfl rfl rfl) rfl ?_ ?_ ?_ ?_
 refine Ct rfl M.z_range ?_
 refine @Aa _ _ _ _ _ ?_ Af rfl
 refine @BA _ _ _ _ _ _ _ _ _ _ (E4 rfl) GW rfl M.z_min HR ?_ (by decide) (by decide) (by rfl) (by rfl)
 refine @Aa _ _ _ _ _ ?_ ?_ rfl
 refine @An _ _ _ _ _ _ _ _ Ak Al ?_ Ag (fun _ _=>rfl)
 exact (Ac 1)
 refine @Aa _ _ _ _ _ ?_ Af rfl
 refine @Am _ _ _ _ _ _ _ _ _ _ _ _ (ih .Ae) hr rfl (M.mgs .Ae) (Fun.kp (M.fn .Ae)) (M.bd .Ae) ?_ (by decide) (by rfl) (by rfl)
 refine @Aa _ _ _ _ _ ?_ ?_ rfl
 exact (Ac 0)
 exact (@Aa _ _ _ _ _ Ag Af rfl)
 intro _ _ _ _ _
 exact (Bu (by show List.Nodup [("k" : Str) ,("pool" : Str) ,("s" : Str)] ;decide +kernel) rfl (.inl rfl))
 intro _ _ _ _ _
 exact Fj
 intro _ _ _ _ _
 refine @Am _ _ _ _ _ _ _ _ _ _ _ _ (ih .Ap) hr rfl (M.mgs .Ap) (Fun.kp (M.fn .Ap)) (M.bd .Ap) ?_ (by decide) (by rfl) (by rfl)
 refine @Aa _ _ _ _ _ ?_ ?_ rfl
 exact (Ac 1)
 refine @Aa _ _ _ _ _ ?_ Af rfl
 refine @An _ _ _ _ _ _ _ _ Ak Al ?_ Ag (fun _ _=>rfl)
 exact (Ac 2)
 refine @Aj _ _ _ _ _ _ ?_ ?_
 refine @Bd _ _ _ _ _ _ _ _ _ ?_ ?_ AK
 refine @A0 _ _ _ _ _ _ _ _ _ (Bt hr.units) (AT (g:=id)) ?_ AA (AJ _)
 exact (Ac 2)
 refine @Ao _ _ _ _ ?_
 refine @AE _ _ _ _ ?_
 refine @AZ _ _ _ _ _ ?_
 refine @Aa _ _ _ _ _ ?_ ?_ rfl
 refine @Am _ _ _ _ _ _ _ _ _ _ _ _ (ih .Ap) hr rfl (M.mgs .Ap) (Fun.kp (M.fn .Ap)) (M.bd .Ap) ?_ (by decide) (by rfl) (by rfl)
 refine @Aa _ _ _ _ _ ?_ ?_ rfl
 exact (Ac 0)
 refine @Aa _ _ _ _ _ ?_ Af rfl
 refine @An _ _ _ _ _ _ _ _ Ak Al ?_ Ag (fun _ _=>rfl)
 exact (Ac 1)
 refine @Aa _ _ _ _ _ ?_ Af rfl
 refine @Am _ _ _ _ _ _ _ _ _ _ _ _ (ih .Ap) hr rfl (M.mgs .Ap) (Fun.kp (M.fn .Ap)) (M.bd .Ap) ?_ (by decide) (by rfl) (by rfl)
 refine @Aa _ _ _ _ _ ?_ ?_ rfl
 exact (Ac 0)
 refine @Aa _ _ _ _ _ ?_ Af rfl
 refine @An _ _ _ _ _ _ _ _ Ak Al ?_ Ag (fun _ _=>rfl)
 exact (Ac 1)
 refine @Aj _ _ _ _ _ _ ?_ ?_
 refine @AI _ _ _ _ 4 _ _ _ sc_f_law_value.nd rfl (.inl rfl) ?_ (by rfl) (by first | exact .inl rfl | exact .inr rfl | assumption)
 refine @Am _ _ _ _ _ _ _ _ _ _ _ _ (ih .Ae) hr rfl (M.mgs .Ae) (Fun.kp (M.fn .Ae)) (M.bd .Ae) ?_ (by decide) (by rfl) (by rfl)
 refine @Aa _ _ _ _ _ ?_ ?_ rfl
 exact (Ac 0)
 refine @Aa _ _ _ _ _ ?_ Af rfl
 refine @BA _ _ _ _ _ _ _ _ _ _ BG BM rfl M.z_len BX ?_ (by decide) (by decide) (by rfl) (by rfl)
 refine @Aa _ _ _ _ _ ?_ Af rfl
 refine @An _ _ _ _ _ _ _ _ Ak Al ?_ Ag (fun _ _=>rfl)
 exact (Ac 1)
 refine @Ao _ _ _ _ ?_
 refine @AE _ _ _ _ ?_
 refine @AZ _ _ _ _ _ ?_
 refine @Aa _ _ _ _ _ AA ?_ rfl
 refine @Aa _ _ _ _ _ ?_ ?_ rfl
 exact (Ac 4)
 refine @Aa _ _ _ _ _ ?_ Af rfl
 refine @Am _ _ _ _ _ _ _ _ _ _ _ _ (ih .Ap) hr rfl (M.mgs .Ap) (Fun.kp (M.fn .Ap)) (M.bd .Ap) ?_ (by decide) (by rfl) (by rfl)
 refine @Aa _ _ _ _ _ ?_ ?_ rfl
 exact (Ac 0)
 refine @Aa _ _ _ _ _ ?_ Af rfl
 refine @An _ _ _ _ _ _ _ _ Ak Al ?_ ?_ (fun _ _=>rfl)
 refine @An _ _ _ _ _ _ _ _ Ak Al ?_ Ag (fun _ _=>rfl)
 exact (Ac 1)
 exact (Ac 4)
theorem sc_f_law_grammar:FnScope (ns .AW) (ps .AW) (Av (st .AW)):=⟨rfl,rfl,rfl,by decide +kernel,rfl,by decide +kernel,by decide +kernel⟩
theorem Hx (M:Md K mg A fd) (ih:∀x,okK (kd x) P w K mg base (n + 2) (A x) (fd x) (ps x) (run n x)):okK .pl P w K mg base (n + 2 + 1) (A .AW) (fd .AW) (ps .AW) (run (n + 1) .AW):=by
 refine BE (g:=fnOf 1 10 (Cw (run n .Ae) (run n .AB) (run n .AD))) rfl (BD rfl rfl (M.fn .AW) sc_f_law_grammar (fun cdv A' outer s H E hr=>?_))
 refine @Aj _ _ _ _ _ _ ?_ ?_
 refine @AI _ _ _ _ 1 _ _ _ sc_f_law_grammar.nd rfl (.inl rfl) ?_ (by rfl) (by first | exact .inl rfl | exact .inr rfl | assumption)
 refine @Am _ _ _ _ _ _ _ _ _ _ _ _ (ih .AD) hr rfl (M.mgs .AD) (Fun.kp (M.fn .AD)) (M.bd .AD) ?_ (by decide) (by rfl) (by rfl)
 refine @Aa _ _ _ _ _ ?_ ?_ rfl
 exact (Ac 0)
 exact (@Aa _ _ _ _ _ Ag Af rfl)
 refine @Aj _ _ _ _ _ _ ?_ ?_
 refine @AI _ _ _ _ 2 _ _ _ sc_f_law_grammar.nd rfl (.inl rfl) ?_ (by rfl) (by first | exact .inl rfl | exact .inr rfl | assumption)
 refine @An _ _ _ _ _ _ _ _ Ak Al ?_ ?_ (fun _ _=>rfl)
 refine @AG _ _ _ ?_
 refine @AN _ _ _ _ ?_
 refine @Aa _ _ _ _ _ ?_ ?_ rfl
 refine @AF _ _ _ _ _ _ _ _ _ Bc AY Ag ?_
 refine @Am _ _ _ _ _ _ _ _ _ _ _ _ (ih .Ae) hr rfl (M.mgs .Ae) (Fun.kp (M.fn .Ae)) (M.bd .Ae) ?_ (by decide) (by rfl) (by rfl)
 refine @Aa _ _ _ _ _ ?_ ?_ rfl
 exact (Ac 1)
 exact (@Aa _ _ _ _ _ Ag Af rfl)
 refine @Aa _ _ _ _ _ ?_ ?_ rfl
 refine @AF _ _ _ _ _ _ _ _ _ Bc AY Ag ?_
 refine @Am _ _ _ _ _ _ _ _ _ _ _ _ (ih .Ae) hr rfl (M.mgs .Ae) (Fun.kp (M.fn .Ae)) (M.bd .Ae) ?_ (by decide) (by rfl) (by rfl)
 refine @Aa _ _ _ _ _ ?_ ?_ rfl
 exact (Ac 1)
 exact (@Aa _ _ _ _ _ Ag Af rfl)
 exact (@Aa _ _ _ _ _ Ag Af rfl)
 refine @Am _ _ _ _ _ _ _ _ _ _ _ _ (ih .Ae) hr rfl (M.mgs .Ae) (Fun.kp (M.fn .Ae)) (M.bd .Ae) ?_ (by decide) (by rfl) (by rfl)
 refine @Aa _ _ _ _ _ ?_ ?_ rfl
 exact (Ac 1)
 exact (@Aa _ _ _ _ _ Ag Af rfl)
 refine @Aj _ _ _ _ _ _ ?_ ?_
 refine @Fl _ _ _ _ 3 _ _ _ sc_f_law_grammar.nd rfl (.inl rfl) ?_ (by rfl) (by first | exact .inl rfl | exact .inr rfl | assumption)
 exact (AN Af)
 refine @Aj _ _ _ _ _ _ ?_ ?_
 refine @Du _ _ _ _ _ _ _ _ _ PassesOwn.never rfl ?_ ?_ ?_ (by intro _;rfl)
 refine Ct rfl M.z_range ?_
 refine @Aa _ _ _ _ _ ?_ Af rfl
 exact (Ac 2)
 exact (Bu sc_f_law_grammar.nd rfl (.inl rfl))
 refine @Aj _ _ _ _ _ _ ?_ ?_
 refine @AI _ _ _ _ 1 _ _ _ sc_f_law_grammar.nd rfl (.inl rfl) ?_ (by rfl) (by first | exact .inl rfl | exact .inr rfl | assumption)
 refine @Am _ _ _ _ _ _ _ _ _ _ _ _ (ih .AD) hr rfl (M.mgs .AD) (Fun.kp (M.fn .AD)) (M.bd .AD) ?_ (by decide) (by rfl) (by rfl)
 refine @Aa _ _ _ _ _ ?_ ?_ rfl
 exact (Ac 0)
 refine @Aa _ _ _ _ _ ?_ Af rfl
 refine @AF _ _ _ _ _ _ _ _ _ Bc AY Ag ?_
 refine @AF _ _ _ _ _ _ _ _ _ EN D1 ?_ Ag
 exact (Ac 4)
 refine @Aj _ _ _ _ _ _ ?_ ?_
 refine Ej ?_ ?_
 refine @AF _ _ _ _ _ _ _ _ _ Bc AY ?_ ?_
 refine @AF _ _ _ _ _ _ _ _ _ Jt HH ?_ ?_
 refine @An _ _ _ _ _ _ _ _ DU CA ?_ AA (fun _ _=>rfl)
 exact (Ac 1)
 refine @AF _ _ _ _ _ _ _ _ _ Bc AY Ag ?_
 refine @AF _ _ _ _ _ _ _ _ _ Jt HH ?_ Ag
 exact (Ac 4)
 refine @AF _ _ _ _ _ _ _ _ _ DL Dh Ag ?_
 exact (Ac 4)
 refine E6 ?_ AA
 exact (Ac 1)
 refine @Ao _ _ _ _ ?_
 refine @Bd _ _ _ _ _ _ _ _ _ ?_ ?_ ?_
 refine @D6 _ _ _ ?_
 refine @Tl _ _ _ _ _ _ _ ?_ ?_
 refine @A0 _ _ _ _ _ _ _ _ _ (Bt hr.units) (AT (g:=id)) ?_ Ag (AJ _)
 refine @Am _ _ _ _ _ _ _ _ _ _ _ _ (ih .Ae) hr rfl (M.mgs .Ae) (Fun.kp (M.fn .Ae)) (M.bd .Ae) ?_ (by decide) (by rfl) (by rfl)
 refine @Aa _ _ _ _ _ ?_ ?_ rfl
 exact (Ac 1)
 exact (@Aa _ _ _ _ _ Ag Af rfl)
 refine @Rp _ _ _ _ ?_
 refine @A0 _ _ _ _ _ _ _ _ _ Gr Fy ?_ Ag (AJ _)
 exact (Ac 4)
 refine @Ao _ _ _ _ ?_
 refine Dk 3 ?_
 refine @Aa _ _ _ _ _ ?_ Af rfl
 refine @AZ _ _ _ _ _ ?_
 exact (@Aa _ _ _ _ _ AA Af rfl)
 refine @Aj _ _ _ _ _ _ ?_ ?_
 refine @AI _ _ _ _ 5 _ _ _ sc_f_law_grammar.nd rfl (.inl rfl) ?_ (by rfl) (by first | exact .inl rfl | exact .inr rfl | assumption)
 refine @An _ _ _ _ _ _ _ _ Ak Al ?_ ?_ (fun _ _=>rfl)
 refine @AG _ _ _ ?_
 refine @AN _ _ _ _ ?_
 refine @Aa _ _ _ _ _ AA ?_ rfl
 exact (@Aa _ _ _ _ _ AA Af rfl)
 refine @Am _ _ _ _ _ _ _ _ _ _ _ _ (ih .Ae) hr rfl (M.mgs .Ae) (Fun.kp (M.fn .Ae)) (M.bd .Ae) ?_ (by decide) (by rfl) (by rfl)
 refine @Aa _ _ _ _ _ ?_ ?_ rfl
 exact (Ac 1)
 exact (@Aa _ _ _ _ _ Ag Af rfl)
 refine @Aj _ _ _ _ _ _ ?_ ?_
 refine @Fl _ _ _ _ 6 _ _ _ sc_f_law_grammar.nd rfl (.inl rfl) ?_ (by rfl) (by first | exact .inl rfl | exact .inr rfl | assumption)
 exact (AN Af)
 refine @Aj _ _ _ _ _ _ ?_ ?_
 refine @Du _ _ _ _ _ _ _ _ _ PassesOwn.never rfl ?_ ?_ ?_ (by intro _;rfl)
 refine Ct rfl M.z_range ?_
 refine @Aa _ _ _ _ _ ?_ Af rfl
 refine @An _ _ _ _ _ _ _ _ Ak Al ?_ ?_ (fun _ _=>rfl)
 refine @AG _ _ _ ?_
 refine @AN _ _ _ _ ?_
 refine @Aa _ _ _ _ _ Ag ?_ rfl
 refine @Aa _ _ _ _ _ Ag ?_ rfl
 refine @Aa _ _ _ _ _ Ag ?_ rfl
 exact (@Aa _ _ _ _ _ Ag Af rfl)
 refine @Am _ _ _ _ _ _ _ _ _ _ _ _ (ih .Ae) hr rfl (M.mgs .Ae) (Fun.kp (M.fn .Ae)) (M.bd .Ae) ?_ (by decide) (by rfl) (by rfl)
 refine @Aa _ _ _ _ _ ?_ ?_ rfl
 exact (Ac 1)
 exact (@Aa _ _ _ _ _ Ag Af rfl)
 exact (Bu sc_f_law_grammar.nd rfl (.inl rfl))
 refine @Aj _ _ _ _ _ _ ?_ ?_
 refine @AI _ _ _ _ 8 _ _ _ sc_f_law_grammar.nd rfl (.inl rfl) ?_ (by rfl) (by first | exact .inl rfl | exact .inr rfl | assumption)
 refine @AF _ _ _ _ _ _ _ _ _ Bc AY ?_ ?_
 refine @An _ _ _ _ _ _ _ _ Ak Al AA ?_ (fun _ _=>rfl)
 exact (Ac 7)
 refine @AF _ _ _ _ _ _ _ _ _ DL Dh ?_ ?_
 refine @An _ _ _ _ _ _ _ _ Ak Al AA ?_ (fun _ _=>rfl)
 refine @Am _ _ _ _ _ _ _ _ _ _ _ _ (ih .Ae) hr rfl (M.mgs .Ae) (Fun.kp (M.fn .Ae)) (M.bd .Ae) ?_ (by decide) (by rfl) (by rfl)
 refine @Aa _ _ _ _ _ ?_ ?_ rfl
 exact (Ac 1)
 exact (@Aa _ _ _ _ _ Ag Af rfl)
 refine @Am _ _ _ _ _ _ _ _ _ _ _ _ (ih .Ae) hr rfl (M.mgs .Ae) (Fun.kp (M.fn .Ae)) (M.bd .Ae) ?_ (by decide) (by rfl) (by rfl)
 refine @Aa _ _ _ _ _ ?_ ?_ rfl
 exact (Ac 1)
 exact (@Aa _ _ _ _ _ Ag Af rfl)
 refine @Aj _ _ _ _ _ _ ?_ ?_
 refine @AI _ _ _ _ 9 _ _ _ sc_f_law_grammar.nd rfl (.inl rfl) ?_ (by rfl) (by first | exact .inl rfl | exact .inr rfl | assumption)
 refine @An _ _ _ _ _ _ _ _ Ak Al ?_ ?_ (fun _ _=>rfl)
 refine @AG _ _ _ ?_
 refine @AN _ _ _ _ ?_
 refine @Aa _ _ _ _ _ ?_ ?_ rfl
 refine @Am _ _ _ _ _ _ _ _ _ _ _ _ (ih .Ae) hr rfl (M.mgs .Ae) (Fun.kp (M.fn .Ae)) (M.bd .Ae) ?_ (by decide) (by rfl) (by rfl)
 refine @Aa _ _ _ _ _ ?_ ?_ rfl
 exact (Ac 1)
 refine @Aa _ _ _ _ _ ?_ Af rfl
 exact (Ac 2)
 refine @Aa _ _ _ _ _ ?_ Af rfl
 refine @BA _ _ _ _ _ _ _ _ _ _ (E4 rfl) GW rfl M.z_min HR ?_ (by decide) (by decide) (by rfl) (by rfl)
 refine @Aa _ _ _ _ _ ?_ ?_ rfl
 refine @AF _ _ _ _ _ _ _ _ _ CN Cl ?_ Ag
 exact (Ac 2)
 refine @Aa _ _ _ _ _ ?_ Af rfl
 refine @AF _ _ _ _ _ _ _ _ _ Bc AY ?_ Ag
 exact (Ac 4)
 refine @Am _ _ _ _ _ _ _ _ _ _ _ _ (ih .Ae) hr rfl (M.mgs .Ae) (Fun.kp (M.fn .Ae)) (M.bd .Ae) ?_ (by decide) (by rfl) (by rfl)
 refine @Aa _ _ _ _ _ ?_ ?_ rfl
 exact (Ac 1)
 exact (@Aa _ _ _ _ _ Ag Af rfl)
 refine @Ao _ _ _ _ ?_
 refine Dk 6 ?_
 refine @Aa _ _ _ _ _ ?_ Af rfl
 refine @AZ _ _ _ _ _ ?_
 refine @Aa _ _ _ _ _ ?_ ?_ rfl
 exact (Ac 8)
 refine @Aa _ _ _ _ _ ?_ ?_ rfl
 refine @Am _ _ _ _ _ _ _ _ _ _ _ _ (ih .AB) hr rfl (M.mgs .AB) (Fun.kp (M.fn .AB)) (M.bd .AB) ?_ (by decide) (by rfl) (by rfl)
 refine @Aa _ _ _ _ _ ?_ ?_ rfl
 exact (Ac 1)
 refine @Aa _ _ _ _ _ ?_ Af rfl
 refine @Am _ _ _ _ _ _ _ _ _ _ _ _ (ih .Ae) hr rfl (M.mgs .Ae) (Fun.kp (M.fn .Ae)) (M.bd .Ae) ?_ (by decide) (by rfl) (by rfl)
 refine @Aa _ _ _ _ _ ?_ ?_ rfl
 exact (Ac 1)
 exact (@Aa _ _ _ _ _ Ag Af rfl)
 refine @Aa _ _ _ _ _ ?_ Af rfl
 exact (Ac 9)
 refine @Ao _ _ _ _ ?_
 refine Dk 3 ?_
 refine @Aa _ _ _ _ _ ?_ Af rfl
 refine @AZ _ _ _ _ _ ?_
 refine @Aa _ _ _ _ _ ?_ ?_ rfl
 exact (Ac 5)
 refine @Aa _ _ _ _ _ ?_ Af rfl
 exact (Ac 6)
 refine @Ao _ _ _ _ ?_
 refine @AE _ _ _ _ ?_
 exact (Ac 3)
theorem sc_f_law_talk:FnScope (ns .Bh) (ps .Bh) (Av (st .Bh)):=⟨rfl,rfl,rfl,by decide +kernel,rfl,by decide +kernel,by decide +kernel⟩
theorem Ka (M:Md K mg A fd) (ih:∀x,okK (kd x) P w K mg base (n + 2) (A x) (fd x) (ps x) (run n x)):okK .pl P w K mg base (n + 2 + 1) (A .Bh) (fd .Bh) (ps .Bh) (run (n + 1) .Bh):=by
 refine BE (g:=fnOf 4 14 (C4 (run n .Ap) (run n .Ae) (run n .AD))) rfl (BD rfl rfl (M.fn .Bh) sc_f_law_talk (fun cdv A' outer s H E hr=>?_))
 refine @Aj _ _ _ _ _ _ ?_ ?_
 refine @Fl _ _ _ _ 4 _ _ _ sc_f_law_talk.nd rfl (.inl rfl) ?_ (by rfl) (by first | exact .inl rfl | exact .inr rfl | assumption)
 exact (AN Af)
 refine @Aj _ _ _ _ _ _ ?_ ?_
 exact (AI (i:=5) sc_f_law_talk.nd rfl (.inl rfl) Ag)
 refine @Aj _ _ _ _ _ _ ?_ ?_
 refine @Fl _ _ _ _ 6 _ _ _ sc_f_law_talk.nd rfl (.inl rfl) ?_ (by rfl) (by first | exact .inl rfl | exact .inr rfl | assumption)
 refine @AN _ _ _ _ ?_
 exact (@Aa _ _ _ _ _ Ag Af rfl)
 refine @Aj _ _ _ _ _ _ ?_ ?_
 refine @Du _ _ _ _ _ _ _ _ _ PassesOwn.never rfl ?_ ?_ ?_ (by intro _;rfl)
 refine FK rfl M.z_range ?_
 refine @Aa _ _ _ _ _ ?_ ?_ rfl
 exact (Ac 2)
 refine @Aa _ _ _ _ _ ?_ Af rfl
 refine @BA _ _ _ _ _ _ _ _ _ _ (E4 rfl) GW rfl M.z_min HR ?_ (by decide) (by decide) (by rfl) (by rfl)
 refine @Aa _ _ _ _ _ ?_ ?_ rfl
 refine @BA _ _ _ _ _ _ _ _ _ _ BG BM rfl M.z_len BX ?_ (by decide) (by decide) (by rfl) (by rfl)
 refine @Aa _ _ _ _ _ ?_ Af rfl
 exact (Ac 0)
 refine @Aa _ _ _ _ _ ?_ Af rfl
 exact (Ac 3)
 exact (Bu sc_f_law_talk.nd rfl (.inl rfl))
 refine @Aj _ _ _ _ _ _ ?_ ?_
 refine @AI _ _ _ _ 8 _ _ _ sc_f_law_talk.nd rfl (.inl rfl) ?_ (by rfl) (by first | exact .inl rfl | exact .inr rfl | assumption)
 refine @Am _ _ _ _ _ _ _ _ _ _ _ _ (ih .AD) hr rfl (M.mgs .AD) (Fun.kp (M.fn .AD)) (M.bd .AD) ?_ (by decide) (by rfl) (by rfl)
 refine @Aa _ _ _ _ _ ?_ ?_ rfl
 exact (Ac 0)
 refine @Aa _ _ _ _ _ ?_ Af rfl
 exact (Ac 7)
 refine @Ao _ _ _ _ ?_
 refine @Bd _ _ _ _ _ _ _ _ _ ?_ ?_ AK
 refine @A0 _ _ _ _ _ _ _ _ _ (Dv hr.units) (AT (g:=fun b=>!b)) ?_ ?_ (AJ _)
 refine @An _ _ _ _ _ _ _ _ Ak Al ?_ ?_ (fun _ _=>rfl)
 exact (Ac 1)
 exact (Ac 5)
 refine @AZ _ _ _ _ _ ?_
 exact (@Aa _ _ _ _ _ AA Af rfl)
 refine @Aj _ _ _ _ _ _ ?_ ?_
 refine Ej ?_ ?_
 refine @An _ _ _ _ _ _ _ _ Ak Al ?_ ?_ (fun _ _=>rfl)
 exact (Ac 1)
 exact (Ac 5)
 refine Kq rfl ?_
 refine CD ?_ ?_
 exact (Bu sc_f_law_talk.nd rfl (.inl rfl))
 refine CD ?_ GI
 exact (Bu sc_f_law_talk.nd rfl (.inl rfl))
 refine @Aj _ _ _ _ _ _ ?_ ?_
 refine Ej ?_ ?_
 refine @An _ _ _ _ _ _ _ _ Ak Al ?_ ?_ (fun _ _=>rfl)
 exact (Ac 10)
 refine @Am _ _ _ _ _ _ _ _ _ _ _ _ (ih .Ae) hr rfl (M.mgs .Ae) (Fun.kp (M.fn .Ae)) (M.bd .Ae) ?_ (by decide) (by rfl) (by rfl)
 refine @Aa _ _ _ _ _ ?_ ?_ rfl
 exact (Ac 8)
 refine @Aa _ _ _ _ _ ?_ Af rfl
 refine @BA _ _ _ _ _ _ _ _ _ _ BG BM rfl M.z_len BX ?_ (by decide) (by decide) (by rfl) (by rfl)
 refine @Aa _ _ _ _ _ ?_ Af rfl
 exact (Ac 10)
 refine Kq rfl ?_
 refine CD ?_ ?_
 exact (Bu sc_f_law_talk.nd rfl (.inl rfl))
 refine CD ?_ ?_
 exact (Bu sc_f_law_talk.nd rfl (.inl rfl))
 refine CD ?_ GI
 exact (Bu sc_f_law_talk.nd rfl (.inl rfl))
 refine @Aj _ _ _ _ _ _ ?_ ?_
 refine Dk 4 ?_
 refine @Aa _ _ _ _ _ ?_ Af rfl
 refine @AZ _ _ _ _ _ ?_
 refine @Aa _ _ _ _ _ ?_ ?_ rfl
 exact (Ac 9)
 refine @Aa _ _ _ _ _ ?_ ?_ rfl
 exact (Ac 11)
 refine @Aa _ _ _ _ _ ?_ Af rfl
 refine @Am _ _ _ _ _ _ _ _ _ _ _ _ (ih .Ap) hr rfl (M.mgs .Ap) (Fun.kp (M.fn .Ap)) (M.bd .Ap) ?_ (by decide) (by rfl) (by rfl)
 refine @Aa _ _ _ _ _ ?_ ?_ rfl
 exact (Ac 8)
 refine @Aa _ _ _ _ _ ?_ Af rfl
 exact (Ac 12)
 refine @Aj _ _ _ _ _ _ ?_ ?_
 refine @AI _ _ _ _ 5 _ _ _ sc_f_law_talk.nd rfl (.inl rfl) ?_ (by rfl) (by first | exact .inl rfl | exact .inr rfl | assumption)
 exact (Ac 13)
 refine @Ao _ _ _ _ ?_
 refine Dk 6 ?_
 refine @Aa _ _ _ _ _ ?_ Af rfl
 exact (Ac 5)
 refine @Ao _ _ _ _ ?_
 refine @AE _ _ _ _ ?_
 refine @AG _ _ _ ?_
 refine @AN _ _ _ _ ?_
 refine @Aa _ _ _ _ _ ?_ ?_ rfl
 exact (Ac 4)
 refine @Aa _ _ _ _ _ ?_ Af rfl
 exact (Ac 6)
theorem sc_f_law_misfit:FnScope (ns .Az) (ps .Az) (Av (st .Az)):=⟨rfl,rfl,rfl,by decide +kernel,rfl,by decide +kernel,by decide +kernel⟩
theorem Io (M:Md K mg A fd) (ih:∀x,okK (kd x) P w K mg base (n + 2) (A x) (fd x) (ps x) (run n x)):okK .pl P w K mg base (n + 2 + 1) (A .Az) (fd .Az) (ps .Az) (run (n + 1) .Az):=by
 refine BE (g:=fnOf 2 8 (Dl (run n .Ae) (run n .Az) (run n .Ap))) rfl (BD rfl rfl (M.fn .Az) sc_f_law_misfit (fun cdv A' outer s H E hr=>?_))
 refine @Aj _ _ _ _ _ _ ?_ ?_
 refine @AI _ _ _ _ 2 _ _ _ sc_f_law_misfit.nd rfl (.inl rfl) ?_ (by rfl) (by first | exact .inl rfl | exact .inr rfl | assumption)
 refine @An _ _ _ _ _ _ _ _ Ak Al ?_ Ag (fun _ _=>rfl)
 exact (Ac 1)
 refine @Aj _ _ _ _ _ _ ?_ ?_
 refine @Bd _ _ _ _ _ _ _ _ _ ?_ ?_ AK
 refine @A0 _ _ _ _ _ _ _ _ _ (Bt hr.units) (AT (g:=id)) ?_ AA (AJ _)
 exact (Ac 2)
 refine @Ao _ _ _ _ ?_
 refine @AE _ _ _ _ ?_
 refine @An _ _ _ _ _ _ _ _ Ak Al ?_ ?_ (fun _ _=>rfl)
 refine @AG _ _ _ ?_
 refine @AN _ _ _ _ ?_
 refine @Aa _ _ _ _ _ Ag ?_ rfl
 refine @Aa _ _ _ _ _ Cs ?_ rfl
 refine @Aa _ _ _ _ _ AA ?_ rfl
 refine @Aa _ _ _ _ _ ?_ Af rfl
 refine @AG _ _ _ ?_
 exact (AN Af)
 refine @Am _ _ _ _ _ _ _ _ _ _ _ _ (ih .Ae) hr rfl (M.mgs .Ae) (Fun.kp (M.fn .Ae)) (M.bd .Ae) ?_ (by decide) (by rfl) (by rfl)
 refine @Aa _ _ _ _ _ ?_ ?_ rfl
 exact (Ac 0)
 exact (@Aa _ _ _ _ _ Ag Af rfl)
 refine @Aj _ _ _ _ _ _ ?_ ?_
 refine @Bd _ _ _ _ _ _ _ _ _ ?_ ?_ AK
 refine @A0 _ _ _ _ _ _ _ _ _ (Bt hr.units) (AT (g:=id)) ?_ AA (AJ _)
 exact (Ac 2)
 refine @Ao _ _ _ _ ?_
 refine @AE _ _ _ _ ?_
 refine @An _ _ _ _ _ _ _ _ Ak Al ?_ ?_ (fun _ _=>rfl)
 refine @AG _ _ _ ?_
 refine @AN _ _ _ _ ?_
 refine @Aa _ _ _ _ _ ?_ ?_ rfl
 refine @AF _ _ _ _ _ _ _ _ _ Bc AY ?_ Ag
 refine @An _ _ _ _ _ _ _ _ Ak Al ?_ Ag (fun _ _=>rfl)
 exact (Ac 1)
 refine @Aa _ _ _ _ _ ?_ ?_ rfl
 refine @AF _ _ _ _ _ _ _ _ _ CN Cl ?_ Ag
 refine @An _ _ _ _ _ _ _ _ Ak Al ?_ Ag (fun _ _=>rfl)
 exact (Ac 1)
 refine @Aa _ _ _ _ _ AA ?_ rfl
 refine @Aa _ _ _ _ _ BN ?_ rfl
 refine @Aa _ _ _ _ _ Cs ?_ rfl
 refine @Aa _ _ _ _ _ ?_ Af rfl
 refine @AZ _ _ _ _ _ ?_
 refine @Aa _ _ _ _ _ ?_ Af rfl
 refine @An _ _ _ _ _ _ _ _ Ak Al ?_ Ag (fun _ _=>rfl)
 exact (Ac 1)
 refine @Am _ _ _ _ _ _ _ _ _ _ _ _ (ih .Ae) hr rfl (M.mgs .Ae) (Fun.kp (M.fn .Ae)) (M.bd .Ae) ?_ (by decide) (by rfl) (by rfl)
 refine @Aa _ _ _ _ _ ?_ ?_ rfl
 exact (Ac 0)
 exact (@Aa _ _ _ _ _ Ag Af rfl)
 refine @Aj _ _ _ _ _ _ ?_ ?_
 refine @Bd _ _ _ _ _ _ _ _ _ ?_ ?_ AK
 refine @A0 _ _ _ _ _ _ _ _ _ (Bt hr.units) (AT (g:=id)) ?_ AA (AJ _)
 exact (Ac 2)
 refine @Ao _ _ _ _ ?_
 refine @AE _ _ _ _ ?_
 refine @An _ _ _ _ _ _ _ _ Ak Al ?_ ?_ (fun _ _=>rfl)
 refine @AG _ _ _ ?_
 refine @AN _ _ _ _ ?_
 refine @Aa _ _ _ _ _ ?_ ?_ rfl
 refine @AF _ _ _ _ _ _ _ _ _ DL Dh AA ?_
 refine @AF _ _ _ _ _ _ _ _ _ Bc AY ?_ Ag
 refine @An _ _ _ _ _ _ _ _ Ak Al ?_ Ag (fun _ _=>rfl)
 exact (Ac 1)
 refine @Aa _ _ _ _ _ Ag ?_ rfl
 refine @Aa _ _ _ _ _ BN ?_ rfl
 refine @Aa _ _ _ _ _ ?_ ?_ rfl
 refine @AG _ _ _ ?_
 refine @AN _ _ _ _ ?_
 exact (@Aa _ _ _ _ _ AA Af rfl)
 exact (@Aa _ _ _ _ _ AA Af rfl)
 refine @Am _ _ _ _ _ _ _ _ _ _ _ _ (ih .Ae) hr rfl (M.mgs .Ae) (Fun.kp (M.fn .Ae)) (M.bd .Ae) ?_ (by decide) (by rfl) (by rfl)
 refine @Aa _ _ _ _ _ ?_ ?_ rfl
 exact (Ac 0)
 exact (@Aa _ _ _ _ _ Ag Af rfl)
 refine @Aj _ _ _ _ _ _ ?_ ?_
 refine @Bd _ _ _ _ _ _ _ _ _ ?_ ?_ AK
 refine @A0 _ _ _ _ _ _ _ _ _ (Bt hr.units) (AT (g:=id)) ?_ AA (AJ _)
 exact (Ac 2)
 refine @Aj _ _ _ _ _ _ ?_ ?_
 refine @AI _ _ _ _ 3 _ _ _ sc_f_law_misfit.nd rfl (.inl rfl) ?_ (by rfl) (by first | exact .inl rfl | exact .inr rfl | assumption)
 refine @Hl _ _ _ _ _ _ _ _ _ _ _ sl3 JF ?_ Jd ?_
 refine @AF _ _ _ _ _ _ _ _ _ DL Dh ?_ Ag
 refine @AG _ _ _ ?_
 refine @AN _ _ _ _ ?_
 refine @Aa _ _ _ _ _ ?_ Af rfl
 refine @Am _ _ _ _ _ _ _ _ _ _ _ _ (ih .Ap) hr rfl (M.mgs .Ap) (Fun.kp (M.fn .Ap)) (M.bd .Ap) ?_ (by decide) (by rfl) (by rfl)
 refine @Aa _ _ _ _ _ ?_ ?_ rfl
 exact (Ac 0)
 refine @Aa _ _ _ _ _ ?_ Af rfl
 refine @An _ _ _ _ _ _ _ _ Ak Al ?_ Ag (fun _ _=>rfl)
 exact (Ac 1)
 refine Je ?_
 refine @AF _ _ _ _ _ _ _ _ _ Bc AY ?_ Ag
 refine @An _ _ _ _ _ _ _ _ Ak Al ?_ Ag (fun _ _=>rfl)
 exact (Ac 1)
 refine @Ao _ _ _ _ ?_
 refine @AE _ _ _ _ ?_
 refine @An _ _ _ _ _ _ _ _ Ak Al ?_ ?_ (fun _ _=>rfl)
 refine @AG _ _ _ ?_
 refine @AN _ _ _ _ ?_
 refine @Aa _ _ _ _ _ ?_ ?_ rfl
 exact (AZ Af)
 refine @Aa _ _ _ _ _ BN ?_ rfl
 refine @Aa _ _ _ _ _ AA ?_ rfl
 refine @Aa _ _ _ _ _ ?_ ?_ rfl
 refine @AG _ _ _ ?_
 refine @AN _ _ _ _ ?_
 refine @Aa _ _ _ _ _ ?_ Af rfl
 refine @Am _ _ _ _ _ _ _ _ _ _ _ _ (ih .Az) hr rfl (M.mgs .Az) (Fun.kp (M.fn .Az)) (M.bd .Az) ?_ (by decide) (by rfl) (by rfl)
 refine @Aa _ _ _ _ _ ?_ ?_ rfl
 exact (Ac 0)
 refine @Aa _ _ _ _ _ ?_ Af rfl
 refine @An _ _ _ _ _ _ _ _ Ak Al ?_ Ag (fun _ _=>rfl)
 exact (Ac 1)
 refine @Aa _ _ _ _ _ ?_ Af rfl
 refine @An _ _ _ _ _ _ _ _ Ak Al ?_ ?_ (fun _ _=>rfl)
 refine @AG _ _ _ ?_
 refine @AN _ _ _ _ ?_
 refine @Aa _ _ _ _ _ ?_ ?_ rfl
 exact (Ac 3)
 exact (@Aa _ _ _ _ _ Ag Af rfl)
 refine @Nk _ _ _ _ _ _ _ _ _ _ JN MT rfl M.z_int KY ?_ (by decide) (by decide) (by rfl) (by rfl)
 refine @Aa _ _ _ _ _ ?_ Af rfl
 refine @Ei _ _ _ _ _ _ _ _ _ Gr Fy ?_ Ag (AJ _)
 refine @An _ _ _ _ _ _ _ _ Ak Al ?_ Ag (fun _ _=>rfl)
 exact (Ac 1)
 refine @Am _ _ _ _ _ _ _ _ _ _ _ _ (ih .Ae) hr rfl (M.mgs .Ae) (Fun.kp (M.fn .Ae)) (M.bd .Ae) ?_ (by decide) (by rfl) (by rfl)
 refine @Aa _ _ _ _ _ ?_ ?_ rfl
 exact (Ac 0)
 exact (@Aa _ _ _ _ _ Ag Af rfl)
 refine @Aj _ _ _ _ _ _ ?_ ?_
 refine @Bd _ _ _ _ _ _ _ _ _ ?_ ?_ AK
 refine @A0 _ _ _ _ _ _ _ _ _ (Bt hr.units) (AT (g:=id)) ?_ AA (AJ _)
 exact (Ac 2)
 refine @Aj _ _ _ _ _ _ ?_ ?_
 refine @AI _ _ _ _ 4 _ _ _ sc_f_law_misfit.nd rfl (.inl rfl) ?_ (by rfl) (by first | exact .inl rfl | exact .inr rfl | assumption)
 refine @Am _ _ _ _ _ _ _ _ _ _ _ _ (ih .Ap) hr rfl (M.mgs .Ap) (Fun.kp (M.fn .Ap)) (M.bd .Ap) ?_ (by decide) (by rfl) (by rfl)
 refine @Aa _ _ _ _ _ ?_ ?_ rfl
 exact (Ac 0)
 refine @Aa _ _ _ _ _ ?_ Af rfl
 refine @An _ _ _ _ _ _ _ _ Ak Al ?_ Ag (fun _ _=>rfl)
 exact (Ac 1)
 refine @Aj _ _ _ _ _ _ ?_ ?_
 refine @AI _ _ _ _ 5 _ _ _ sc_f_law_misfit.nd rfl (.inl rfl) ?_ (by rfl) (by first | exact .inl rfl | exact .inr rfl | assumption)
 refine @Am _ _ _ _ _ _ _ _ _ _ _ _ (ih .Ap) hr rfl (M.mgs .Ap) (Fun.kp (M.fn .Ap)) (M.bd .Ap) ?_ (by decide) (by rfl) (by rfl)
 refine @Aa _ _ _ _ _ ?_ ?_ rfl
 exact (Ac 0)
 refine @Aa _ _ _ _ _ ?_ Af rfl
 refine @An _ _ _ _ _ _ _ _ Ak Al ?_ Ag (fun _ _=>rfl)
 exact (Ac 1)
 refine @Aj _ _ _ _ _ _ ?_ ?_
 refine @AI _ _ _ _ 6 _ _ _ sc_f_law_misfit.nd rfl (.inl rfl) ?_ (by rfl) (by first | exact .inl rfl | exact .inr rfl | assumption)
 refine @AG _ _ _ ?_
 refine @AN _ _ _ _ ?_
 refine @Aa _ _ _ _ _ ?_ ?_ rfl
 refine @AZ _ _ _ _ _ ?_
 refine @Aa _ _ _ _ _ ?_ Af rfl
 exact (Ac 4)
 refine @Aa _ _ _ _ _ ?_ ?_ rfl
 refine @AZ _ _ _ _ _ ?_
 refine @Aa _ _ _ _ _ ?_ ?_ rfl
 exact (Ac 4)
 refine @Aa _ _ _ _ _ ?_ ?_ rfl
 exact (Ac 5)
 refine @Aa _ _ _ _ _ ?_ Af rfl
 exact (Ac 5)
 refine @Aa _ _ _ _ _ ?_ ?_ rfl
 refine @AG _ _ _ ?_
 refine @AN _ _ _ _ ?_
 refine @Aa _ _ _ _ _ ?_ ?_ rfl
 exact (Ac 4)
 refine @Aa _ _ _ _ _ ?_ Af rfl
 exact (Ac 5)
 refine @Aa _ _ _ _ _ ?_ ?_ rfl
 refine @AZ _ _ _ _ _ ?_
 refine @Aa _ _ _ _ _ ?_ ?_ rfl
 refine @Am _ _ _ _ _ _ _ _ _ _ _ _ (ih .Az) hr rfl (M.mgs .Az) (Fun.kp (M.fn .Az)) (M.bd .Az) ?_ (by decide) (by rfl) (by rfl)
 refine @Aa _ _ _ _ _ ?_ ?_ rfl
 exact (Ac 0)
 refine @Aa _ _ _ _ _ ?_ Af rfl
 refine @An _ _ _ _ _ _ _ _ Ak Al ?_ Ag (fun _ _=>rfl)
 exact (Ac 1)
 refine @Aa _ _ _ _ _ ?_ Af rfl
 exact (Ac 5)
 exact (@Aa _ _ _ _ _ BN Af rfl)
 refine @Ao _ _ _ _ ?_
 refine @AE _ _ _ _ ?_
 refine @An _ _ _ _ _ _ _ _ Ak Al ?_ ?_ (fun _ _=>rfl)
 refine @AF _ _ _ _ _ _ _ _ _ Bc AY ?_ ?_
 exact (Ac 6)
 refine @AG _ _ _ ?_
 refine @AN _ _ _ _ ?_
 refine @Aa _ _ _ _ _ ?_ Af rfl
 refine @AZ _ _ _ _ _ ?_
 refine @Aa _ _ _ _ _ ?_ ?_ rfl
 exact (Ac 4)
 refine @Aa _ _ _ _ _ ?_ Af rfl
 refine @Am _ _ _ _ _ _ _ _ _ _ _ _ (ih .Az) hr rfl (M.mgs .Az) (Fun.kp (M.fn .Az)) (M.bd .Az) ?_ (by decide) (by rfl) (by rfl)
 refine @Aa _ _ _ _ _ ?_ ?_ rfl
 exact (Ac 0)
 refine @Aa _ _ _ _ _ ?_ Af rfl
 refine @An _ _ _ _ _ _ _ _ Ak Al ?_ Ag (fun _ _=>rfl)
 exact (Ac 1)
 refine @Am _ _ _ _ _ _ _ _ _ _ _ _ (ih .Ae) hr rfl (M.mgs .Ae) (Fun.kp (M.fn .Ae)) (M.bd .Ae) ?_ (by decide) (by rfl) (by rfl)
 refine @Aa _ _ _ _ _ ?_ ?_ rfl
 exact (Ac 0)
 exact (@Aa _ _ _ _ _ Ag Af rfl)
 refine @Aj _ _ _ _ _ _ ?_ ?_
 refine @AI _ _ _ _ 7 _ _ _ sc_f_law_misfit.nd rfl (.inl rfl) ?_ (by rfl) (by first | exact .inl rfl | exact .inr rfl | assumption)
 refine @Am _ _ _ _ _ _ _ _ _ _ _ _ (ih .Ae) hr rfl (M.mgs .Ae) (Fun.kp (M.fn .Ae)) (M.bd .Ae) ?_ (by decide) (by rfl) (by rfl)
 refine @Aa _ _ _ _ _ ?_ ?_ rfl
 exact (Ac 0)
 refine @Aa _ _ _ _ _ ?_ Af rfl
 refine @BA _ _ _ _ _ _ _ _ _ _ BG BM rfl M.z_len BX ?_ (by decide) (by decide) (by rfl) (by rfl)
 refine @Aa _ _ _ _ _ ?_ Af rfl
 refine @An _ _ _ _ _ _ _ _ Ak Al ?_ Ag (fun _ _=>rfl)
 exact (Ac 1)
 refine @Aj _ _ _ _ _ _ ?_ ?_
 refine @AI _ _ _ _ 4 _ _ _ sc_f_law_misfit.nd rfl (.inl rfl) ?_ (by rfl) (by first | exact .inl rfl | exact .inr rfl | assumption)
 refine @Am _ _ _ _ _ _ _ _ _ _ _ _ (ih .Ap) hr rfl (M.mgs .Ap) (Fun.kp (M.fn .Ap)) (M.bd .Ap) ?_ (by decide) (by rfl) (by rfl)
 refine @Aa _ _ _ _ _ ?_ ?_ rfl
 exact (Ac 0)
 refine @Aa _ _ _ _ _ ?_ Af rfl
 refine @An _ _ _ _ _ _ _ _ Ak Al ?_ ?_ (fun _ _=>rfl)
 refine @An _ _ _ _ _ _ _ _ Ak Al ?_ Ag (fun _ _=>rfl)
 exact (Ac 1)
 exact (Ac 7)
 refine @Aj _ _ _ _ _ _ ?_ ?_
 refine @AI _ _ _ _ 6 _ _ _ sc_f_law_misfit.nd rfl (.inl rfl) ?_ (by rfl) (by first | exact .inl rfl | exact .inr rfl | assumption)
 refine @AG _ _ _ ?_
 refine @AN _ _ _ _ ?_
 refine @Aa _ _ _ _ _ ?_ ?_ rfl
 refine @AZ _ _ _ _ _ ?_
 refine @Aa _ _ _ _ _ AA ?_ rfl
 refine @Aa _ _ _ _ _ ?_ ?_ rfl
 refine @BA _ _ _ _ _ _ _ _ _ _ BG BM rfl M.z_len BX ?_ (by decide) (by decide) (by rfl) (by rfl)
 refine @Aa _ _ _ _ _ ?_ Af rfl
 refine @An _ _ _ _ _ _ _ _ Ak Al ?_ Ag (fun _ _=>rfl)
 exact (Ac 1)
 refine @Aa _ _ _ _ _ ?_ Af rfl
 exact (Ac 4)
 refine @Aa _ _ _ _ _ ?_ ?_ rfl
 refine @AZ _ _ _ _ _ ?_
 refine @Aa _ _ _ _ _ AA ?_ rfl
 refine @Aa _ _ _ _ _ ?_ ?_ rfl
 exact (QB O1 MV Ag)
 refine @Aa _ _ _ _ _ ?_ Af rfl
 exact (Ac 4)
 refine @Aa _ _ _ _ _ ?_ ?_ rfl
 refine @AZ _ _ _ _ _ ?_
 refine @Aa _ _ _ _ _ AA ?_ rfl
 refine @Aa _ _ _ _ _ ?_ Af rfl
 exact (Ac 7)
 refine @Aa _ _ _ _ _ ?_ ?_ rfl
 refine @AZ _ _ _ _ _ ?_
 refine @Aa _ _ _ _ _ ?_ ?_ rfl
 exact (Ac 7)
 refine @Aa _ _ _ _ _ ?_ Af rfl
 exact (Ac 4)
 refine @Aa _ _ _ _ _ ?_ ?_ rfl
 refine @AZ _ _ _ _ _ ?_
 refine @Aa _ _ _ _ _ AA ?_ rfl
 refine @Aa _ _ _ _ _ ?_ ?_ rfl
 exact (Ac 7)
 refine @Aa _ _ _ _ _ ?_ Af rfl
 refine @Am _ _ _ _ _ _ _ _ _ _ _ _ (ih .Az) hr rfl (M.mgs .Az) (Fun.kp (M.fn .Az)) (M.bd .Az) ?_ (by decide) (by rfl) (by rfl)
 refine @Aa _ _ _ _ _ ?_ ?_ rfl
 exact (Ac 0)
 refine @Aa _ _ _ _ _ ?_ Af rfl
 refine @An _ _ _ _ _ _ _ _ Ak Al ?_ ?_ (fun _ _=>rfl)
 refine @An _ _ _ _ _ _ _ _ Ak Al ?_ Ag (fun _ _=>rfl)
 exact (Ac 1)
 exact (Ac 7)
 exact (@Aa _ _ _ _ _ BN Af rfl)
 refine @Ao _ _ _ _ ?_
 refine @AE _ _ _ _ ?_
 refine @An _ _ _ _ _ _ _ _ Ak Al ?_ ?_ (fun _ _=>rfl)
 refine @AF _ _ _ _ _ _ _ _ _ Bc AY ?_ ?_
 exact (Ac 6)
 refine @AG _ _ _ ?_
 refine @AN _ _ _ _ ?_
 refine @Aa _ _ _ _ _ ?_ ?_ rfl
 refine @AZ _ _ _ _ _ ?_
 refine @Aa _ _ _ _ _ AA ?_ rfl
 refine @Aa _ _ _ _ _ Cs ?_ rfl
 refine @Aa _ _ _ _ _ ?_ Af rfl
 exact (Ac 4)
 refine @Aa _ _ _ _ _ ?_ ?_ rfl
 refine @AZ _ _ _ _ _ ?_
 refine @Aa _ _ _ _ _ AA ?_ rfl
 refine @Aa _ _ _ _ _ ?_ ?_ rfl
 exact (Ac 7)
 refine @Aa _ _ _ _ _ ?_ Af rfl
 exact (Ac 4)
 refine @Aa _ _ _ _ _ ?_ Af rfl
 refine @AG _ _ _ ?_
 refine @AN _ _ _ _ ?_
 refine @Aa _ _ _ _ _ AA ?_ rfl
 refine @Aa _ _ _ _ _ ?_ ?_ rfl
 exact (Ac 7)
 refine @Aa _ _ _ _ _ ?_ Af rfl
 exact (Ac 4)
 refine @Am _ _ _ _ _ _ _ _ _ _ _ _ (ih .Ae) hr rfl (M.mgs .Ae) (Fun.kp (M.fn .Ae)) (M.bd .Ae) ?_ (by decide) (by rfl) (by rfl)
 refine @Aa _ _ _ _ _ ?_ ?_ rfl
 exact (Ac 0)
 exact (@Aa _ _ _ _ _ Ag Af rfl)
theorem sc_f_law_bad:FnScope (ns .Bp) (ps .Bp) (Av (st .Bp)):=⟨rfl,rfl,rfl,by decide +kernel,rfl,by decide +kernel,by decide +kernel⟩
theorem Ly (M:Md K mg A fd) (ih:∀x,okK (kd x) P w K mg base (n + 2) (A x) (fd x) (ps x) (run n x)):okK .pl P w K mg base (n + 2 + 1) (A .Bp) (fd .Bp) (ps .Bp) (run (n + 1) .Bp):=by
 refine BE (g:=fnOf 4 11 (D8 (run n .Ae) (run n .Az))) rfl (BD rfl rfl (M.fn .Bp) sc_f_law_bad (fun cdv A' outer s H E hr=>?_))
 refine @Aj _ _ _ _ _ _ ?_ ?_
 refine Ej ?_ ?_
 exact (Ac 3)
 refine Kq rfl ?_
 refine CD ?_ ?_
 exact (Bu sc_f_law_bad.nd rfl (.inl rfl))
 refine CD ?_ ?_
 exact (Bu sc_f_law_bad.nd rfl (.inr rfl))
 refine CD ?_ GI
 exact (Bu sc_f_law_bad.nd rfl (.inl rfl))
 refine @Aj _ _ _ _ _ _ ?_ ?_
 refine @AI _ _ _ _ 7 _ _ _ sc_f_law_bad.nd rfl (.inl rfl) ?_ (by rfl) (by first | exact .inl rfl | exact .inr rfl | assumption)
 refine @An _ _ _ _ _ _ _ _ DU CA ?_ ?_ (fun _ _=>rfl)
 refine I9 ?_
 refine DC AA ?_
 exact (DC AA Jf)
 exact (Ac 4)
 refine @Aj _ _ _ _ _ _ ?_ ?_
 refine @AI _ _ _ _ 8 _ _ _ sc_f_law_bad.nd rfl (.inl rfl) ?_ (by rfl) (by first | exact .inl rfl | exact .inr rfl | assumption)
 refine @An _ _ _ _ _ _ _ _ Ak Al ?_ Ag (fun _ _=>rfl)
 refine @An _ _ _ _ _ _ _ _ Ak Al ?_ ?_ (fun _ _=>rfl)
 exact (Ac 1)
 exact (Ac 2)
 refine @Aj _ _ _ _ _ _ ?_ ?_
 refine @AI _ _ _ _ 9 _ _ _ sc_f_law_bad.nd rfl (.inl rfl) ?_ (by rfl) (by first | exact .inl rfl | exact .inr rfl | assumption)
 refine @An _ _ _ _ _ _ _ _ Ak Al ?_ Ag (fun _ _=>rfl)
 refine @AG _ _ _ ?_
 refine EA (Fi ["word"] [(5 , "name")] rfl rfl rfl rfl rfl) rfl ?_ ?_ ?_ ?_
 refine @Gh _ _ _ _ ?_
 exact (Ac 8)
 intro _ _ _ _ _
 exact (Bu (by show List.Nodup [("word" : Str) ,("name" : Str)] ;decide +kernel) rfl (.inl rfl))
 intro _ _ _ _ _
 refine Rk ?_
 refine @A0 _ _ _ _ _ _ _ _ _ (Bt hr.units) (AT (g:=id)) ?_ ?_ (AJ _)
 refine @An _ _ _ _ _ _ _ _ Ak Al ?_ Ag (fun _ _=>rfl)
 exact (Ac 0)
 exact (Ac 1)
 intro _ _ _ _ _
 refine @An _ _ _ _ _ _ _ _ Ak Al ?_ Ag (fun _ _=>rfl)
 exact (Ac 0)
 refine @Aj _ _ _ _ _ _ ?_ ?_
 refine @AI _ _ _ _ 10 _ _ _ sc_f_law_bad.nd rfl (.inl rfl) ?_ (by rfl) (by first | exact .inl rfl | exact .inr rfl | assumption)
 refine @AG _ _ _ ?_
 refine @AN _ _ _ _ ?_
 refine @Aa _ _ _ _ _ ?_ ?_ rfl
 refine @AZ _ _ _ _ _ ?_
 refine @Aa _ _ _ _ _ ?_ ?_ rfl
 exact (Ac 7)
 refine @Aa _ _ _ _ _ ?_ ?_ rfl
 exact (Ac 5)
 refine @Aa _ _ _ _ _ ?_ Af rfl
 exact (Ac 6)
 refine @Aa _ _ _ _ _ ?_ ?_ rfl
 refine @AZ _ _ _ _ _ ?_
 refine @Aa _ _ _ _ _ ?_ ?_ rfl
 exact (Ac 4)
 refine @Aa _ _ _ _ _ ?_ ?_ rfl
 refine @AF _ _ _ _ _ _ _ _ _ Bc AY ?_ AA
 exact (Ac 5)
 refine @Aa _ _ _ _ _ ?_ Af rfl
 exact (Ac 6)
 refine @Aa _ _ _ _ _ ?_ ?_ rfl
 refine @AZ _ _ _ _ _ ?_
 refine @Aa _ _ _ _ _ ?_ ?_ rfl
 exact (Ac 4)
 refine @Aa _ _ _ _ _ ?_ ?_ rfl
 refine UJ ?_
 exact (Ac 5)
 refine @Aa _ _ _ _ _ ?_ Af rfl
 exact (Ac 6)
 refine @Aa _ _ _ _ _ ?_ Af rfl
 refine @AZ _ _ _ _ _ ?_
 refine @Aa _ _ _ _ _ ?_ ?_ rfl
 exact (Ac 4)
 refine @Aa _ _ _ _ _ AA ?_ rfl
 refine @Aa _ _ _ _ _ ?_ Af rfl
 exact (Ac 6)
 refine @Aj _ _ _ _ _ _ ?_ ?_
 refine @AI _ _ _ _ 10 _ _ _ sc_f_law_bad.nd rfl (.inl rfl) ?_ (by rfl) (by first | exact .inl rfl | exact .inr rfl | assumption)
 refine @AF _ _ _ _ _ _ _ _ _ Bc AY ?_ ?_
 exact (Ac 10)
 refine @AG _ _ _ ?_
 refine @AN _ _ _ _ ?_
 refine @Aa _ _ _ _ _ ?_ ?_ rfl
 refine @AZ _ _ _ _ _ ?_
 refine @Aa _ _ _ _ _ ?_ ?_ rfl
 exact (Ac 4)
 refine @Aa _ _ _ _ _ BN ?_ rfl
 refine @Aa _ _ _ _ _ ?_ Af rfl
 exact (Ac 6)
 refine @Aa _ _ _ _ _ ?_ ?_ rfl
 refine @AZ _ _ _ _ _ ?_
 refine @Aa _ _ _ _ _ ?_ ?_ rfl
 exact (Ac 4)
 refine @Aa _ _ _ _ _ Ag ?_ rfl
 refine @Aa _ _ _ _ _ ?_ Af rfl
 exact (Ac 6)
 refine @Aa _ _ _ _ _ ?_ ?_ rfl
 refine @AZ _ _ _ _ _ ?_
 refine @Aa _ _ _ _ _ ?_ ?_ rfl
 exact (Ac 4)
 refine @Aa _ _ _ _ _ ?_ Af rfl
 exact (Ac 5)
 refine @Aa _ _ _ _ _ ?_ ?_ rfl
 refine @AZ _ _ _ _ _ ?_
 refine @Aa _ _ _ _ _ ?_ ?_ rfl
 exact (Ac 4)
 refine @Aa _ _ _ _ _ ?_ ?_ rfl
 exact (Ac 5)
 refine @Aa _ _ _ _ _ ?_ ?_ rfl
 exact (Ac 6)
 refine @Aa _ _ _ _ _ ?_ Af rfl
 exact (Ac 6)
 refine @Aa _ _ _ _ _ ?_ Af rfl
 refine @AG _ _ _ ?_
 refine @AN _ _ _ _ ?_
 refine @Aa _ _ _ _ _ ?_ ?_ rfl
 exact (Ac 4)
 refine @Aa _ _ _ _ _ ?_ ?_ rfl
 exact (Ac 5)
 refine @Aa _ _ _ _ _ ?_ Af rfl
 exact (Ac 6)
 refine @Aj _ _ _ _ _ _ ?_ ?_
 refine @AI _ _ _ _ 10 _ _ _ sc_f_law_bad.nd rfl (.inl rfl) ?_ (by rfl) (by first | exact .inl rfl | exact .inr rfl | assumption)
 refine @AF _ _ _ _ _ _ _ _ _ Bc AY ?_ ?_
 exact (Ac 10)
 refine @AG _ _ _ ?_
 refine @AN _ _ _ _ ?_
 refine @Aa _ _ _ _ _ BN ?_ rfl
 refine @Aa _ _ _ _ _ ?_ ?_ rfl
 refine @AZ _ _ _ _ _ ?_
 refine @Aa _ _ _ _ _ AA ?_ rfl
 refine @Aa _ _ _ _ _ ?_ ?_ rfl
 exact (Ac 5)
 refine @Aa _ _ _ _ _ ?_ Af rfl
 exact (Ac 6)
 refine @Aa _ _ _ _ _ ?_ Af rfl
 refine @AZ _ _ _ _ _ ?_
 refine @Aa _ _ _ _ _ BN ?_ rfl
 refine @Aa _ _ _ _ _ ?_ ?_ rfl
 exact (Ac 5)
 refine @Aa _ _ _ _ _ ?_ Af rfl
 exact (Ac 6)
 refine @Aj _ _ _ _ _ _ ?_ ?_
 refine @Bd _ _ _ _ _ _ _ _ _ ?_ ?_ AK
 refine @A0 _ _ _ _ _ _ _ _ _ (Bt hr.units) (AT (g:=id)) ?_ Ag (AJ _)
 refine @Am _ _ _ _ _ _ _ _ _ _ _ _ (ih .Ae) hr rfl (M.mgs .Ae) (Fun.kp (M.fn .Ae)) (M.bd .Ae) ?_ (by decide) (by rfl) (by rfl)
 refine @Aa _ _ _ _ _ ?_ ?_ rfl
 exact (Ac 0)
 exact (@Aa _ _ _ _ _ Ag Af rfl)
 refine @Ao _ _ _ _ ?_
 refine @AE _ _ _ _ ?_
 refine @AZ _ _ _ _ _ ?_
 refine @Aa _ _ _ _ _ ?_ ?_ rfl
 exact (Ac 4)
 refine @Aa _ _ _ _ _ ?_ ?_ rfl
 exact (Ac 5)
 refine @Aa _ _ _ _ _ ?_ Af rfl
 refine @Am _ _ _ _ _ _ _ _ _ _ _ _ (ih .Az) hr rfl (M.mgs .Az) (Fun.kp (M.fn .Az)) (M.bd .Az) ?_ (by decide) (by rfl) (by rfl)
 refine @Aa _ _ _ _ _ ?_ ?_ rfl
 exact (Ac 0)
 refine @Aa _ _ _ _ _ ?_ Af rfl
 exact (Ac 9)
 refine @Ao _ _ _ _ ?_
 refine @AE _ _ _ _ ?_
 refine @An _ _ _ _ _ _ _ _ Ak Al ?_ ?_ (fun _ _=>rfl)
 exact (Ac 10)
 refine @Am _ _ _ _ _ _ _ _ _ _ _ _ (ih .Ae) hr rfl (M.mgs .Ae) (Fun.kp (M.fn .Ae)) (M.bd .Ae) ?_ (by decide) (by rfl) (by rfl)
 refine @Aa _ _ _ _ _ ?_ ?_ rfl
 exact (Ac 0)
 exact (@Aa _ _ _ _ _ Ag Af rfl)
theorem sc_f_law_refused:FnScope (ns .AH) (ps .AH) (Av (st .AH)):=⟨rfl,rfl,rfl,by decide +kernel,rfl,by decide +kernel,by decide +kernel⟩
theorem Hy (M:Md K mg A fd) (ih:∀x,okK (kd x) P w K mg base (n + 2) (A x) (fd x) (ps x) (run n x)):okK .pl P w K mg base (n + 2 + 1) (A .AH) (fd .AH) (ps .AH) (run (n + 1) .AH):=by
 obtain ⟨P',ca,x,xt,x0⟩:=M.xm
 refine BE (g:=fnOf 2 5 (Cy (run n .AS))) rfl (BD rfl rfl (M.fn .AH) sc_f_law_refused (fun cdv A' outer s H E hr=>?_))
 refine @Aj _ _ _ _ _ _ ?_ ?_
 refine @AI _ _ _ _ 2 _ _ _ sc_f_law_refused.nd rfl (.inl rfl) ?_ (by rfl) (by first | exact .inl rfl | exact .inr rfl | assumption)
 refine @AG _ _ _ ?_
 exact (AN Af)
 refine @Aj _ _ _ _ _ _ ?_ ?_
 exact (AI (i:=3) sc_f_law_refused.nd rfl (.inl rfl) BN)
 refine @Aj _ _ _ _ _ _ ?_ ?_
 refine Tk x Tw rfl rfl ?_ ?_
 intro pn E hp
 refine Pt ?_
 refine Ps ?_
 refine MF (ih .AS) hr rfl (M.mgs .AS) (Fun.kp (M.fn .AS)) (M.bd .AS) hp ?_
 refine @Aa _ _ _ _ _ ?_ ?_ rfl
 exact (Ac 0)
 refine @Aa _ _ _ _ _ ?_ Af rfl
 exact (Ac 1)
 refine UK (i:=4) x rfl x.pm x.pc (fun _ hn=>x.subP hn) sc_f_law_refused.nd rfl rfl ?_ Tj
 intro y
 refine @Aj _ _ _ _ _ _ ?_ ?_
 refine @AI _ _ _ _ 2 _ _ _ sc_f_law_refused.nd rfl (.inl rfl) ?_ (by rfl) (by first | exact .inl rfl | exact .inr rfl | assumption)
 refine @AG _ _ _ ?_
 refine @AN _ _ _ _ ?_
 refine @Aa _ _ _ _ _ ?_ ?_ rfl
 refine DJ (n:="NoTalk") x (by decide) rfl M.z_isinstance A7 rfl ?_
 exact (Ac 4)
 refine @Aa _ _ _ _ _ ?_ ?_ rfl
 refine Ri x rfl M.z_isinstance A7 rfl M.z_ValueError J3 ?_
 exact (Ac 4)
 refine @Aa _ _ _ _ _ ?_ ?_ rfl
 refine DJ (n:="NoName") x (by decide) rfl M.z_isinstance A7 rfl ?_
 exact (Ac 4)
 refine @Aa _ _ _ _ _ ?_ Af rfl
 refine DJ (n:="NoRow") x (by decide) rfl M.z_isinstance A7 rfl ?_
 exact (Ac 4)
 refine @Aj _ _ _ _ _ _ ?_ ?_
 refine @AI _ _ _ _ 2 _ _ _ sc_f_law_refused.nd rfl (.inl rfl) ?_ (by rfl) (by first | exact .inl rfl | exact .inr rfl | assumption)
 refine @AF _ _ _ _ _ _ _ _ _ Bc AY ?_ ?_
 exact (Ac 2)
 refine @AG _ _ _ ?_
 refine @AN _ _ _ _ ?_
 refine @Aa _ _ _ _ _ ?_ ?_ rfl
 refine DJ (n:="Broken") x (by decide) rfl M.z_isinstance A7 rfl ?_
 exact (Ac 4)
 refine @Aa _ _ _ _ _ ?_ ?_ rfl
 refine DJ (n:="NoText") x (by decide) rfl M.z_isinstance A7 rfl ?_
 exact (Ac 4)
 refine @Aa _ _ _ _ _ ?_ ?_ rfl
 refine DJ (n:="NoValue") x (by decide) rfl M.z_isinstance A7 rfl ?_
 exact (Ac 4)
 refine @Aa _ _ _ _ _ ?_ Af rfl
 refine DJ (n:="Short") x (by decide) rfl M.z_isinstance A7 rfl ?_
 exact (Ac 4)
 refine @Ao _ _ _ _ ?_
 refine @Bd _ _ _ _ _ _ _ _ _ ?_ ?_ AK
 refine @Cn _ _ _ ?_ (by intro _;rfl)
 refine DJ (n:="NoTalk") x (by decide) rfl M.z_isinstance A7 rfl ?_
 exact (Ac 4)
 refine @Ao _ _ _ _ ?_
 refine @AI _ _ _ _ 3 _ _ _ sc_f_law_refused.nd rfl (.inl rfl) ?_ (by rfl) (by first | exact .inl rfl | exact .inr rfl | assumption)
 refine Th x x.na ?_ rfl
 exact (Ac 4)
 refine @Aj _ _ _ _ _ _ ?_ ?_
 refine @Bd _ _ _ _ _ _ _ _ _ ?_ ?_ AK
 refine @A0 _ _ _ _ _ _ _ _ _ (Dv hr.units) (AT (g:=fun b=>!b)) ?_ ?_ (AJ _)
 exact (Ac 2)
 refine @AF _ _ _ _ _ _ _ _ _ Bc AY ?_ ?_
 refine @AG _ _ _ ?_
 refine @AN _ _ _ _ ?_
 refine @Aa _ _ _ _ _ Cs ?_ rfl
 exact (@Aa _ _ _ _ _ Cs Af rfl)
 refine @AF _ _ _ _ _ _ _ _ _ DL Dh ?_ Ag
 refine @AG _ _ _ ?_
 refine @AN _ _ _ _ ?_
 exact (@Aa _ _ _ _ _ Cs Af rfl)
 refine @Ao _ _ _ _ ?_
 exact (AE BN)
 refine @Ao _ _ _ _ ?_
 refine @AE _ _ _ _ ?_
 exact (Ac 3)
theorem sc_law_:FnScope (ns .law_) (ps .law_) (Av (st .law_)):=⟨rfl,rfl,rfl,by decide +kernel,rfl,by decide +kernel,by decide +kernel⟩
theorem RV (M:Md K mg A fd) (ih:∀x,okK (kd x) P w K mg base (n + 2) (A x) (fd x) (ps x) (run n x)):okK .pl P w K mg base (n + 2 + 1) (A .law_) (fd .law_) (ps .law_) (run (n + 1) .law_):=by
 refine BE (g:=fnOf 1 10 (E8 (run n .AS) (run n .AH) (run n .Bp) (run n .Ae) (run n .AD) (run n .Bh) (run n .AW))) rfl (BD rfl rfl (M.fn .law_) sc_law_ (fun cdv A' outer s H E hr=>?_))
 refine @Aj _ _ _ _ _ _ ?_ ?_
 refine @AI _ _ _ _ 1 _ _ _ sc_law_.nd rfl (.inl rfl) ?_ (by rfl) (by first | exact .inl rfl | exact .inr rfl | assumption)
 refine @Am _ _ _ _ _ _ _ _ _ _ _ _ (ih .AW) hr rfl (M.mgs .AW) (Fun.kp (M.fn .AW)) (M.bd .AW) ?_ (by decide) (by rfl) (by rfl)
 refine @Aa _ _ _ _ _ ?_ Af rfl
 exact (Ac 0)
 refine @Aj _ _ _ _ _ _ ?_ ?_
 refine Ej ?_ ?_
 refine @Am _ _ _ _ _ _ _ _ _ _ _ _ (ih .Bh) hr rfl (M.mgs .Bh) (Fun.kp (M.fn .Bh)) (M.bd .Bh) ?_ (by decide) (by rfl) (by rfl)
 refine @Aa _ _ _ _ _ ?_ ?_ rfl
 exact (Ac 0)
 refine @Aa _ _ _ _ _ ?_ ?_ rfl
 exact (Ac 1)
 refine @Aa _ _ _ _ _ Ag ?_ rfl
 exact (@Aa _ _ _ _ _ Ag Af rfl)
 refine Kq rfl ?_
 refine CD ?_ ?_
 exact (Bu sc_law_.nd rfl (.inl rfl))
 refine CD ?_ GI
 exact (Bu sc_law_.nd rfl (.inl rfl))
 refine @Aj _ _ _ _ _ _ ?_ ?_
 refine @AI _ _ _ _ 4 _ _ _ sc_law_.nd rfl (.inl rfl) ?_ (by rfl) (by first | exact .inl rfl | exact .inr rfl | assumption)
 refine @Am _ _ _ _ _ _ _ _ _ _ _ _ (QA (ih .AS)) hr rfl (M.mgs .AS) (Fun.kp (M.fn .AS)) (M.bd .AS) ?_ (by decide) (by rfl) (by rfl)
 refine @Aa _ _ _ _ _ ?_ ?_ rfl
 exact (Ac 1)
 refine @Aa _ _ _ _ _ ?_ Af rfl
 refine @AG _ _ _ ?_
 refine @QC _ _ _ _ _ _ _ _ _ _ Ga MU rfl M.z_list IQ ?_ (by decide) (by decide) (by rfl) (by rfl)
 refine @Aa _ _ _ _ _ ?_ Af rfl
 exact (Ac 2)
 refine @Aj _ _ _ _ _ _ ?_ ?_
 refine @Du _ _ _ _ _ _ _ _ _ PassesOwn.never rfl ?_ ?_ ?_ (by intro _;rfl)
 refine FK rfl M.z_range ?_
 refine @Aa _ _ _ _ _ Ag ?_ rfl
 exact (@Aa _ _ _ _ _ Ag Af rfl)
 exact (Bu sc_law_.nd rfl (.inl rfl))
 refine @Aj _ _ _ _ _ _ ?_ ?_
 refine @AI _ _ _ _ 6 _ _ _ sc_law_.nd rfl (.inl rfl) ?_ (by rfl) (by first | exact .inl rfl | exact .inr rfl | assumption)
 refine @Am _ _ _ _ _ _ _ _ _ _ _ _ (ih .AD) hr rfl (M.mgs .AD) (Fun.kp (M.fn .AD)) (M.bd .AD) ?_ (by decide) (by rfl) (by rfl)
 refine @Aa _ _ _ _ _ ?_ ?_ rfl
 exact (Ac 0)
 refine @Aa _ _ _ _ _ ?_ Af rfl
 exact (Ac 5)
 refine @Aj _ _ _ _ _ _ ?_ ?_
 refine @AI _ _ _ _ 7 _ _ _ sc_law_.nd rfl (.inl rfl) ?_ (by rfl) (by first | exact .inl rfl | exact .inr rfl | assumption)
 refine @Am _ _ _ _ _ _ _ _ _ _ _ _ (ih .Ae) hr rfl (M.mgs .Ae) (Fun.kp (M.fn .Ae)) (M.bd .Ae) ?_ (by decide) (by rfl) (by rfl)
 refine @Aa _ _ _ _ _ ?_ ?_ rfl
 exact (Ac 6)
 refine @Aa _ _ _ _ _ ?_ Af rfl
 refine @AF _ _ _ _ _ _ _ _ _ Bc AY ?_ Ag
 refine @BA _ _ _ _ _ _ _ _ _ _ BG BM rfl M.z_len BX ?_ (by decide) (by decide) (by rfl) (by rfl)
 refine @Aa _ _ _ _ _ ?_ Af rfl
 exact (Ac 2)
 refine @Aj _ _ _ _ _ _ ?_ ?_
 refine @Bd _ _ _ _ _ _ _ _ _ ?_ ?_ ?_
 refine @A0 _ _ _ _ _ _ _ _ _ LF JE ?_ ?_ (AJ _)
 exact (Ac 7)
 refine @BA _ _ _ _ _ _ _ _ _ _ BG BM rfl M.z_len BX ?_ (by decide) (by decide) (by rfl) (by rfl)
 refine @Aa _ _ _ _ _ ?_ Af rfl
 exact (Ac 2)
 refine @Ao _ _ _ _ ?_
 refine @AI _ _ _ _ 8 _ _ _ sc_law_.nd rfl (.inl rfl) ?_ (by rfl) (by first | exact .inl rfl | exact .inr rfl | assumption)
 refine @AF _ _ _ _ _ _ _ _ _ Bc AY ?_ ?_
 refine @AF _ _ _ _ _ _ _ _ _ Bc AY ?_ ?_
 refine @Hl _ _ _ _ _ _ _ _ _ _ _ sl3 JF ?_ Jd ?_
 exact (Ac 2)
 refine Je ?_
 exact (Ac 7)
 refine @AG _ _ _ ?_
 refine @AN _ _ _ _ ?_
 refine @Aa _ _ _ _ _ ?_ Af rfl
 refine @Am _ _ _ _ _ _ _ _ _ _ _ _ (ih .Bp) hr rfl (M.mgs .Bp) (Fun.kp (M.fn .Bp)) (M.bd .Bp) ?_ (by decide) (by rfl) (by rfl)
 refine @Aa _ _ _ _ _ ?_ ?_ rfl
 exact (Ac 6)
 refine @Aa _ _ _ _ _ ?_ ?_ rfl
 exact (Ac 1)
 refine @Aa _ _ _ _ _ ?_ ?_ rfl
 refine @An _ _ _ _ _ _ _ _ Ak Al ?_ ?_ (fun _ _=>rfl)
 exact (Ac 3)
 exact (Ac 7)
 refine @Aa _ _ _ _ _ ?_ Af rfl
 refine @An _ _ _ _ _ _ _ _ Ak Al ?_ ?_ (fun _ _=>rfl)
 exact (Ac 2)
 exact (Ac 7)
 refine @Hl _ _ _ _ _ _ _ _ _ _ _ sl3 JF ?_ ?_ Jd
 exact (Ac 2)
 refine Je ?_
 refine @AF _ _ _ _ _ _ _ _ _ Bc AY ?_ Ag
 exact (Ac 7)
 refine @Ao _ _ _ _ ?_
 refine @Bd _ _ _ _ _ _ _ _ _ ?_ ?_ ?_
 refine @A0 _ _ _ _ _ _ _ _ _ (Bt hr.units) (AT (g:=id)) ?_ ?_ (AJ _)
 refine @An _ _ _ _ _ _ _ _ Ak Al ?_ ?_ (fun _ _=>rfl)
 exact (Ac 1)
 refine @An _ _ _ _ _ _ _ _ Ak Al ?_ ?_ (fun _ _=>rfl)
 exact (Ac 3)
 exact (Ac 7)
 refine @AZ _ _ _ _ _ ?_
 exact (@Aa _ _ _ _ _ AA Af rfl)
 refine @Ao _ _ _ _ ?_
 refine @AI _ _ _ _ 8 _ _ _ sc_law_.nd rfl (.inl rfl) ?_ (by rfl) (by first | exact .inl rfl | exact .inr rfl | assumption)
 refine @AF _ _ _ _ _ _ _ _ _ Bc AY ?_ ?_
 exact (Ac 2)
 refine @AG _ _ _ ?_
 refine @AN _ _ _ _ ?_
 refine @Aa _ _ _ _ _ ?_ Af rfl
 refine @An _ _ _ _ _ _ _ _ Ak Al ?_ ?_ (fun _ _=>rfl)
 refine @AG _ _ _ ?_
 refine @AN _ _ _ _ ?_
 refine @Aa _ _ _ _ _ ?_ ?_ rfl
 refine @AZ _ _ _ _ _ ?_
 refine @Aa _ _ _ _ _ AA ?_ rfl
 refine @Aa _ _ _ _ _ AA ?_ rfl
 exact (@Aa _ _ _ _ _ BN Af rfl)
 refine @Aa _ _ _ _ _ ?_ ?_ rfl
 refine @AZ _ _ _ _ _ ?_
 refine @Aa _ _ _ _ _ AA ?_ rfl
 refine @Aa _ _ _ _ _ AA ?_ rfl
 exact (@Aa _ _ _ _ _ Ag Af rfl)
 refine @Aa _ _ _ _ _ ?_ Af rfl
 refine @An _ _ _ _ _ _ _ _ Ak Al ?_ ?_ (fun _ _=>rfl)
 exact (Ac 2)
 exact (QB O1 MV Ag)
 refine @Am _ _ _ _ _ _ _ _ _ _ _ _ (ih .Ae) hr rfl (M.mgs .Ae) (Fun.kp (M.fn .Ae)) (M.bd .Ae) ?_ (by decide) (by rfl) (by rfl)
 refine @Aa _ _ _ _ _ ?_ ?_ rfl
 exact (Ac 6)
 exact (@Aa _ _ _ _ _ Ag Af rfl)
 refine @Ao _ _ _ _ ?_
 refine @AI _ _ _ _ 8 _ _ _ sc_law_.nd rfl (.inl rfl) ?_ (by rfl) (by first | exact .inl rfl | exact .inr rfl | assumption)
 refine @AF _ _ _ _ _ _ _ _ _ Bc AY ?_ ?_
 exact (Ac 2)
 refine @AG _ _ _ ?_
 refine @AN _ _ _ _ ?_
 refine @Aa _ _ _ _ _ ?_ Af rfl
 refine @AZ _ _ _ _ _ ?_
 refine @Aa _ _ _ _ _ AA ?_ rfl
 refine @Aa _ _ _ _ _ AA ?_ rfl
 exact (@Aa _ _ _ _ _ BN Af rfl)
 refine @Aj _ _ _ _ _ _ ?_ ?_
 refine @AI _ _ _ _ 9 _ _ _ sc_law_.nd rfl (.inl rfl) ?_ (by rfl) (by first | exact .inl rfl | exact .inr rfl | assumption)
 refine @AG _ _ _ ?_
 refine @QC _ _ _ _ _ _ _ _ _ _ Ga MU rfl M.z_list IQ ?_ (by decide) (by decide) (by rfl) (by rfl)
 refine @Aa _ _ _ _ _ ?_ Af rfl
 exact (Ac 8)
 refine @Ao _ _ _ _ ?_
 refine @Bd _ _ _ _ _ _ _ _ _ ?_ ?_ AK
 refine @D6 _ _ _ ?_
 refine @Ev _ _ _ _ _ _ _ ?_ ?_
 refine @A0 _ _ _ _ _ _ _ _ _ (Dv hr.units) (AT (g:=fun b=>!b)) ?_ ?_ (AJ _)
 refine @Am _ _ _ _ _ _ _ _ _ _ _ _ (ih .AH) hr rfl (M.mgs .AH) (Fun.kp (M.fn .AH)) (M.bd .AH) ?_ (by decide) (by rfl) (by rfl)
 refine @Aa _ _ _ _ _ ?_ ?_ rfl
 exact (Ac 1)
 refine @Aa _ _ _ _ _ ?_ Af rfl
 exact (Ac 9)
 exact (Ac 7)
 refine @DS _ _ _ _ ?_
 refine @A0 _ _ _ _ _ _ _ _ _ (Dv hr.units) (AT (g:=fun b=>!b)) ?_ ?_ (AJ _)
 exact (Ac 9)
 exact (Ac 8)
 refine @Ao _ _ _ _ ?_
 exact (AE Cs)
 refine @Ao _ _ _ _ ?_
 refine @AE _ _ _ _ ?_
 refine @Gf _ _ _ _ _ _ _ ?_ ?_
 refine @Ei _ _ _ _ _ _ _ _ _ (Bt hr.units) (So (g:=id)) ?_ ?_ (AJ _)
 refine @Am _ _ _ _ _ _ _ _ _ _ _ _ (QA (ih .AS)) hr rfl (M.mgs .AS) (Fun.kp (M.fn .AS)) (M.bd .AS) ?_ (by decide) (by rfl) (by rfl)
 refine @Aa _ _ _ _ _ ?_ ?_ rfl
 exact (Ac 1)
 refine @Aa _ _ _ _ _ ?_ Af rfl
 exact (Ac 2)
 exact (Ac 4)
 refine @Gg _ _ _ _ _ ?_
 refine @Ei _ _ _ _ _ _ _ _ _ (Bt hr.units) (AT (g:=id)) ?_ Ag (AJ _)
 refine @Am _ _ _ _ _ _ _ _ _ _ _ _ (ih .AH) hr rfl (M.mgs .AH) (Fun.kp (M.fn .AH)) (M.bd .AH) ?_ (by decide) (by rfl) (by rfl)
 refine @Aa _ _ _ _ _ ?_ ?_ rfl
 refine @AG _ _ _ ?_
 refine @AN _ _ _ _ ?_
 refine @Aa _ _ _ _ _ ?_ Af rfl
 refine @AZ _ _ _ _ _ ?_
 exact (@Aa _ _ _ _ _ AA Af rfl)
 refine @Aa _ _ _ _ _ ?_ Af rfl
 refine @AG _ _ _ ?_
 refine @AN _ _ _ _ ?_
 refine @Aa _ _ _ _ _ ?_ Af rfl
 refine @AZ _ _ _ _ _ ?_
 refine @Aa _ _ _ _ _ AA ?_ rfl
 refine @Aa _ _ _ _ _ AA ?_ rfl
 exact (@Aa _ _ _ _ _ BN Af rfl)
theorem all_ok (M:Md K mg A fd):∀(n:Nat) (x:Fx),okK (kd x) P w K mg base (n + 2) (A x) (fd x) (ps x) (run n x)
 | 0,x=>PY
 | n + 1,x=>by
   have ih:=all_ok M n
   cases x with
   | Bj=>exact Kf M ih
   | Ay=>exact FS M ih
   | Bk=>exact PZ M ih
   | Bi=>exact Ke M ih
   | By=>exact Ml M ih
   | Bl=>exact Kb M ih
   | Bm=>exact Kc M ih
   | A5=>exact Ip M ih
   | Bq=>exact Lz M ih
   | Bb=>exact Js M ih
   | A6=>exact Jr M ih
   | A2=>exact Ir M ih
   | Br=>exact LB M ih
   | BF=>exact Nx M ih
   | Ar=>exact G5 M ih
   | A3=>exact Iu M ih
   | AX=>exact Hz M ih
   | Bz=>exact Mm M ih
   | AS=>exact LA M ih
   | AL=>exact G6 M ih
   | AV=>exact Hw M ih
   | AD=>exact J8 M ih
   | Ae=>exact J9 M ih
   | AB=>exact Jp M ih
   | Ap=>exact Jq M ih
   | AW=>exact Hx M ih
   | Bh=>exact Ka M ih
   | Az=>exact Io M ih
   | Bp=>exact Ly M ih
   | AH=>exact Hy M ih
   | law_=>exact RV M ih
end
abbrev fno (x:Fx) (kV dc pm:Value) (an:Option Addr) (cd ct:Value):FuncData:=PySem.W.fnOf (nm x) (nm x) (DI (st x)) (B3 (st x)) (Av (st x)) .none kV dc pm an cd ct
structure At (K:PySem.W.Frag) (x:Fx) (f:Addr) (fd:FuncData):Prop where
 a:PySem.W.nsIn K mainGlobals (nm x)=some (some (.ref f))
 fn:Fun K (nm x) (nm x) (st x) f fd
 bd:Binds K fd (ps x) []
 eq:∃kV dc pm an cd ct,fd=fno x kV dc pm an cd ct
theorem at_mk {K:PySem.W.Frag} {x:Fx} {f:Addr} {od an:Option Addr} {sl:Array (Option Value)} {oc kV dc pm cd ct:Value} (a:PySem.W.nsIn K mainGlobals (nm x)=some (some (.ref f))) (l:K.lookup f=some ⟨oc,od,.func (fno x kV dc pm an cd ct),sl⟩) (c:PySem.W.codeIn K cd (nm x)=true) (k:PySem.W.keepIn K (.ref f)=true):∃p:Addr×FuncData,At K x p.1 p.2:=by
 refine ⟨(f,fno x kV dc pm an cd ct),a,Ie (st:=st x) l c k,(Ie (st:=st x) l c k).binds (ps:=ps x) fun _ _ _ _ _ _ us hl=>?_,_,_,_,_,_,_,rfl⟩
 cases x <;> first | (obtain ⟨_,rfl⟩:=us1 hl;rfl) | (obtain ⟨_,_,rfl⟩:=us2 hl;rfl) | (obtain ⟨_,_,_,rfl⟩:=us3 hl;rfl) | (obtain ⟨_,_,_,_,rfl⟩:=us4 hl;rfl) | (obtain ⟨_,_,_,_,_,rfl⟩:=us5 hl;rfl) | (obtain ⟨_,_,_,_,_,_,rfl⟩:=us6 hl;rfl) | (obtain ⟨_,_,_,_,_,_,_,rfl⟩:=us7 hl;rfl)
theorem xm_all {K:PySem.W.Frag} {h:Heap} {mg:Str→Option Value} {P c1 c2 c3 c4 c5 c6 c7:Addr} {f:Addr} {od an:Option Addr} {sl:Array (Option Value)} {oc kV dc pm cd ct:Value} (X:K.In h) (G:h.Ns mainGlobals mg) (p:PySem.W.nsIn K mainGlobals "ParleyError" = some (some (.ref P))) (a1:PySem.W.nsIn K mainGlobals "NoValue" = some (some (.ref c1))) (a2:PySem.W.nsIn K mainGlobals "Short" = some (some (.ref c2))) (a3:PySem.W.nsIn K mainGlobals "Broken" = some (some (.ref c3))) (a4:PySem.W.nsIn K mainGlobals "NoTalk" = some (some (.ref c4))) (a5:PySem.W.nsIn K mainGlobals "NoName" = some (some (.ref c5))) (a6:PySem.W.nsIn K mainGlobals "NoText" = some (some (.ref c6))) (a7:PySem.W.nsIn K mainGlobals "NoRow" = some (some (.ref c7))) (q:NT K P [c1,c2,c3,c4,c5,c6,c7]=true) (nd:[P,c1,c2,c3,c4,c5,c6,c7].Nodup) (fi:PySem.W.findIn K (.ref c4) "__init__" = some (some (.ref f))) (l:K.lookup f=some ⟨oc,od,.func (PySem.W.fnOf "__init__" "NoTalk.__init__" (DI (Eg (top 5) 0)) (B3 (Eg (top 5) 0)) (Av (Eg (top 5) 0)) .none kV dc pm an cd ct),sl⟩) (ii:Ll K c4 f=true) (hf:PySem.W.isFn K (.ref f)=true) (hs:PySem.W.findIn K (.ref c4) "__setattr__" = some (some (.builtin "object.__setattr__"))) (cc:PySem.W.codeIn K cd "NoTalk.__init__" = true) (k:PySem.W.keepIn K (.ref f)=true):∃(P:Addr) (ca:Str→Addr),XM K mg P ca∧XF1 K (ca "NoTalk") P "NoTalk.__init__" (Eg (top 5) 0)∧∀n∈([]:List Str),XN0 K (ca n):=by
 have x:=VN X G p a1 a2 a3 a4 a5 a6 a7 q nd
 refine ⟨P,_,x,UD (C:=c4) (st:=(Eg (top 5) 0)) ⟨x.cl "NoTalk" (by decide),x.kp "NoTalk" (by decide),x.gt "NoTalk" (by decide),x.gc "NoTalk" (by decide),x.na "NoTalk" (by decide),x.nd "NoTalk" (by decide)⟩ ii hf hs l cc k (fun _ _ _ _ _ _ us hl=>by match us,hl with | [_,_],_=>rfl),?_⟩
 intro n hn
 cases hn
theorem fin_mk {K:PySem.W.Frag} {h:Heap} {mg:Str→Option Value} {fa:Addr} (X:K.In h) (G:h.Ns mainGlobals mg) (hmg:mg "law" = some (.ref fa)) (H:∀x:Fx,∃p:Addr×FuncData,At K x p.1 p.2) (z_ValueError:PySem.W.nsIn K mainGlobals "ValueError" = some none) (z_bool:PySem.W.nsIn K mainGlobals "bool" = some none) (z_int:PySem.W.nsIn K mainGlobals "int" = some none) (z_isinstance:PySem.W.nsIn K mainGlobals "isinstance" = some none) (z_len:PySem.W.nsIn K mainGlobals "len" = some none) (z_list:PySem.W.nsIn K mainGlobals "list" = some none) (z_min:PySem.W.nsIn K mainGlobals "min" = some none) (z_ord:PySem.W.nsIn K mainGlobals "ord" = some none) (z_range:PySem.W.nsIn K mainGlobals "range" = some none) (z_str:PySem.W.nsIn K mainGlobals "str" = some none) (z_tuple:PySem.W.nsIn K mainGlobals "tuple" = some none) {tk_FIRST_SIGN:Tok} (g_FIRST_SIGN:PySem.W.nsIn K mainGlobals "FIRST_SIGN" = some (some (.int 32 tk_FIRST_SIGN))) {tk_LAST_SIGN:Tok} (g_LAST_SIGN:PySem.W.nsIn K mainGlobals "LAST_SIGN" = some (some (.int 126 tk_LAST_SIGN))) {tk_PERCENT_SIGN:Tok} (g_PERCENT_SIGN:PySem.W.nsIn K mainGlobals "PERCENT_SIGN" = some (some (.int 37 tk_PERCENT_SIGN))) (xm:∃(P:Addr) (ca:Str→Addr),XM K mg P ca∧XF1 K (ca "NoTalk") P "NoTalk.__init__" (Eg (top 5) 0)∧∀n∈([]:List Str),XN0 K (ca n)):∃(A:Fx→Addr) (fd:Fx→FuncData),Md K mg A fd∧A .law_=fa∧∀(s:Shared) (u:Value),BindsTo s (fd .law_) ⟨[u],[]⟩ [("script",u)]:=by
 obtain ⟨F,hF⟩:=Classical.axiomOfChoice H
 refine ⟨fun x=>(F x).1,fun x=>(F x).2,{ fn:=fun x=>(hF x).fn,mgs:=fun x=>PySem.W.mg_of X G (hF x).a,bd:=fun x=>(hF x).bd,xm:=xm,z_ValueError:=PySem.W.mg_none_of X G z_ValueError,z_bool:=PySem.W.mg_none_of X G z_bool,z_int:=PySem.W.mg_none_of X G z_int,z_isinstance:=PySem.W.mg_none_of X G z_isinstance,z_len:=PySem.W.mg_none_of X G z_len,z_list:=PySem.W.mg_none_of X G z_list,z_min:=PySem.W.mg_none_of X G z_min,z_ord:=PySem.W.mg_none_of X G z_ord,z_range:=PySem.W.mg_none_of X G z_range,z_str:=PySem.W.mg_none_of X G z_str,z_tuple:=PySem.W.mg_none_of X G z_tuple,g_FIRST_SIGN:=⟨tk_FIRST_SIGN,PySem.W.mg_of X G g_FIRST_SIGN⟩,g_LAST_SIGN:=⟨tk_LAST_SIGN,PySem.W.mg_of X G g_LAST_SIGN⟩,g_PERCENT_SIGN:=⟨tk_PERCENT_SIGN,PySem.W.mg_of X G g_PERCENT_SIGN⟩ },?_,fun s u=>?_⟩
 ·have e:=hmg.symm.trans (PySem.W.mg_of X G (hF .law_).a)
  cases e
  rfl
 ·obtain ⟨_,_,_,_,_,_,e⟩:=(hF .law_).eq
  show BindsTo s (F .law_).2 _ _
  rw [e]
  exact .of_eq rfl
theorem walk {l:PySem.W.OpenLaw} {q:Program} {loose:List Str} {XP:(Str→Option Value)→Heap→Prop} {YP:World→Heap→Prop} {d:DefRec} {K:Params→PySem.W.Frag} (m:Nat) (hm:Room (m + 2) callerA) (hn:l.most=some 63) (hdf:d.params.defaults=[])
 (hY:∀(w:World) (h:Heap),YP w h→(K w.params).In h) (lt:∀ns:List Int,ns.length≤63→∃S',run m .law_ [.scr ns] []=some (.bl true,S'))
 (F:∀(w:World) (mg:Str→Option Value) (fa:Addr) (h:Heap),(K w.params).In h→h.Ns mainGlobals mg→mg d.name=some (.ref fa)→
   ∃(A:Fx→Addr) (fd:Fx→FuncData),Md (K w.params) mg A fd∧A .law_=fa∧∀(s:Shared) (u:Value),BindsTo s (fd .law_) ⟨[u],[]⟩ [("script",u)]) :
 PySem.W.WalkO q loose XP YP l.row.toRowW d [] (fun f vs=>PySem.call f vs):=
 L2.SL (n:=63) (k:=m + 2) (x:="script") (CX:=fun _=>CX0) (sp:=fun w=>spF (K w.params) (run m .law_)) hn (by decide) hdf hm hY
  (fun w mg fa h KX G hmg=>by obtain ⟨A,fd,M,e,b⟩:=F w mg fa h KX G hmg;subst e;exact ⟨fd .law_,b,fun base _ _=>all_ok M m .law_⟩)
  (fun w H a ns hl hO hS=>by obtain ⟨S',e⟩:=lt ns hl;exact Ox hO hS e) fun _ _ _ _ _ z=>z
theorem RN (k:Nat):Ms (run (k + 1) .Bj):=fun d h=>Lm h
theorem IM (k:Nat):FC (run (k + 2) .Ay):=O5 (RN k)
theorem Qj (k:Nat):KN (run (k + 1) .By):=No
theorem Ql (k:Nat):KO (run (k + 2) .Bi):=Lj (Qj k)
theorem Hm:∀(n k:Nat),2 * n + 3≤k→EE (run k .Bk) n
 | 0,k,_=>fun s hs=>absurd s.depth_pos (by lia)
 | n + 1,k,h=>by
   obtain ⟨j,rfl⟩:∃j,k=j + 4:=⟨k - 4,by lia⟩
   have ih:=Hm n (j + 2) (by lia)
   exact Rm (Jb ih (IM j)) (Li ih) (Lh ih) (Ql (j + 1)) (IM (j + 1))
theorem Q9 (k:Nat):IN (run (k + 1) .BF):=Ou
theorem O6 (k:Nat):GG (run (k + 2) .Br):=Qt (Q9 k)
theorem Ix (k:Nat):IO (run (k + 3) .A2):=P9 (O6 k)
theorem Nz (k:Nat):Hg (run (k + 10) .A6):=Kg (Hm 3 (k + 9) (by lia)) (Ix (k + 6)).1
theorem Ny (k:Nat):He (run (k + 10) .A6):=OK (Hm 3 (k + 9) (by lia)) (Ix (k + 6))
theorem PU (k:Nat):KF (run (k + 1) .Bb):=RM
theorem J0 (k:Nat):HQ (run (k + 11) .Bq):=Sy (PU (k + 9)) (Nz k) (Ny k)
theorem PF (k:Nat):KC (run (k + 1) .Bz):=RC
theorem PV (k:Nat):KG (run (k + 2) .AX):=RQ (PF k)
theorem SM (k:Nat):M6 (run (k + 1) .A3):=Qs
theorem Lg:∀(n k:Nat),n + 3≤k→GD (run k .Ar) n
 | 0,k,_=>fun s hs=>absurd s.depth_pos (by lia)
 | n + 1,k,h=>by
   obtain ⟨j,rfl⟩:∃j,k=j + 3:=⟨k - 3,by lia⟩
   exact Rl (Lg n (j + 2) (by lia)) (SM (j + 1)) (PV j)
theorem PQ (k:Nat):KD (run (k + 7) .AL):=RD (Lg 3 (k + 6) (by lia))
theorem O4 (k:Nat) (F:List (Nat×Ob)):KR F (run (k + 12) .AS):=SN (PQ (k + 4)) (J0 k)
theorem NS (k:Nat) (F:List (Nat×Ob)):KS F (run (k + 12) .AS):=SO (J0 k)
theorem Sj (F:List (Nat×Ob)):O8 F (run 99 .AH):=OS (NS 86 F)
theorem K5 (k:Nat):GE (run (k + 1) .AV):=P2
theorem LJ (k:Nat):GF (run (k + 2) .AD):=Qa (K5 k)
theorem FY (k:Nat):PTakeOk (run (k + 1) .Ae):=Qe
theorem OL (k:Nat) (F:List (Nat×Ob)):KK F (run (k + 2) .AD):=TW (K5 k)
theorem Fb (k:Nat) (F:List (Nat×Ob)):PTakeF F (run (k + 1) .Ae):=T1
theorem JZ:∀(n k:Nat),n + 1≤k→PShapeOk (run k .AB) n
 | 0,k,_=>fun d a b S h=>absurd h (by lia)
 | n + 1,k,h=>by
   obtain ⟨j,rfl⟩:∃j,k=j + 2:=⟨k - 2,by lia⟩
   exact OO (FY j) (.inr (JZ n (j + 1) (by lia)))
theorem MZ:∀(n k:Nat),n + 1≤k→PValOk (run k .Ap) n
 | 0,k,_=>fun s a b S h=>absurd s.depth_pos (by lia)
 | n + 1,k,h=>by
   obtain ⟨j,rfl⟩:∃j,k=j + 2:=⟨k - 2,by lia⟩
   exact Sf (FY j) (.inr (MZ n (j + 1) (by lia)))
theorem L5 (F:List (Nat×Ob)):∀(n k:Nat),n + 1≤k→Km F (run k .Ap) n
 | 0,k,_=>fun s a b S h=>absurd s.depth_pos (by lia)
 | n + 1,k,h=>by
   obtain ⟨j,rfl⟩:∃j,k=j + 2:=⟨k - 2,by lia⟩
   exact U3 (Fb j F) (.inr (L5 F n (j + 1) (by lia)))
theorem Lr (F:List (Nat×Ob)):∀(n k:Nat),n + 2≤k→Kl F (run k .Az) n
 | 0,k,_=>fun s a b S h=>absurd s.depth_pos (by lia)
 | n + 1,k,h=>by
   obtain ⟨j,rfl⟩:∃j,k=j + 2:=⟨k - 2,by lia⟩
   exact U0 (Fb j F) (.inr (Lr F n (j + 1) (by lia))) (.inr (L5 F n (j + 1) (by lia)))
theorem Q4 (F:List (Nat×Ob)):O7 F (run 99 .Bp):=Tc (Fb 97 F) (Lr F 3 98 (by decide))
theorem Pv:KI (run 99 .AW):=OH (FY 97) (JZ 3 98 (by decide)) (LJ 96)
theorem Qk:Hd (run 99 .Bh):=OP (MZ 3 98 (by decide)) (FY 97) (LJ 96)
theorem law_true (ns:List Int) (h:ns.length≤63):∃S',run 100 .law_ [.scr ns] []=some (.bl true,S'):=by
 obtain ⟨r,S',e,p⟩:=Tq (O4 87) Sj Q4 (Fb 98) (OL 97) Qk Pv (ns:=ns)
 subst p
 exact ⟨S',e⟩
end K28
namespace PySem.W.Fast
def tw10000450558776221758:=0
def tw10147978644536223259:=0
def tw10156535040800488155:=0
def tw10257150702356774906:=0
def tw10282441469154801644:=0
def tw10286832374685923906:=0
def tw1031252101341952315:=0
def tw1042418370108032717:=0
def tw10474692656547337506:=0
def tw10522561919863036527:=0
def tw106317671451571330:=0
def tw10676824298946948754:=0
def tw10731440137926030645:=0
def tw10740740903354049240:=0
def tw10765514636301419835:=0
def tw10800443168893142683:=0
def tw10918552886047140253:=0
def tw10989471098076867676:=0
def tw11108057227199986341:=0
def tw11112601198432907359:=0
def tw11123127055953178513:=0
def tw11175755616686909683:=0
def tw11235877218825538563:=0
def tw1124940280165882422:=0
def tw11326054590275908234:=0
def tw11484811964439953217:=0
def tw11494017969908387358:=0
def tw1152104821870829315:=0
def tw11522883975182128065:=0
def tw11608318240746714130:=0
def tw11626589095595033121:=0
def tw11638197136059404630:=0
def tw11663105967196792720:=0
def tw11665298268801959035:=0
def tw11746121149277879790:=0
def tw11754755973117617122:=0
def tw11798127587172393503:=0
def tw11850561567267054578:=0
def tw1187154065019574999:=0
def tw11875984925051254819:=0
def tw11954056788770428770:=0
def tw11960931892493529091:=0
def tw11975442945227660718:=0
def tw12076179367002844543:=0
def tw12090635459543961842:=0
def tw12143219351809363199:=0
def tw12195955020849533896:=0
def tw12264058075940094532:=0
def tw12269615842899679527:=0
def tw12287397148430438187:=0
def tw12331970770481597589:=0
def tw12339065659548458471:=0
def tw12353920517108786254:=0
def tw12368414452558123443:=0
def tw12491310067609718850:=0
def tw12512314009695580896:=0
def tw12542369854796622973:=0
def tw12568660660202269011:=0
def tw12595097962432971462:=0
def tw12595899451288024183:=0
def tw12637129206466628803:=0
def tw12681681792117042222:=0
def tw12732721727372858126:=0
def tw12733670053311185999:=0
def tw12818358895730860170:=0
def tw12857672302906957911:=0
def tw13130424546950449302:=0
def tw13143372395661530644:=0
def tw13164364450428191833:=0
def tw13182704205162610153:=0
def tw13207041978398758814:=0
def tw13301045514229529282:=0
def tw13533361395712502887:=0
def tw13557852056732739577:=0
def tw13673749114880286303:=0
def tw13718509057180938675:=0
def tw13743544103549554510:=0
def tw13768872387502888974:=0
def tw13903100479705414545:=0
def tw13988589792582578687:=0
def tw1399062842820537446:=0
def tw14014517868572695362:=0
def tw14039924779571327915:=0
def tw14099652265497632429:=0
def tw14103120257686918190:=0
def tw14242714792731782058:=0
def tw14366062125126967315:=0
def tw14370657398147089752:=0
def tw14377723611332529907:=0
def tw14420526875417710590:=0
def tw14511527267253950457:=0
def tw14579101503632955121:=0
def tw14587035063439709711:=0
def tw14603707503922178278:=0
def tw14659672593902297708:=0
def tw1479862544037543926:=0
def tw14893465573609473984:=0
def tw14988902858333331106:=0
def tw15091411512178732063:=0
def tw15185133430636184758:=0
def tw15259512967566791912:=0
def tw15260073486608405856:=0
def tw15351529444197269164:=0
def tw15604650050183425957:=0
def tw15678960269720607080:=0
def tw15711739200546658551:=0
def tw15747431590477289254:=0
def tw15773155221996990574:=0
def tw15871254003610500900:=0
def tw15915901937373266699:=0
def tw15919585275407879118:=0
def tw15924069253504522827:=0
def tw15951575380477837841:=0
def tw1597291625910876580:=0
def tw15982576855480431097:=0
def tw15994628745902847025:=0
def tw16007820108824746378:=0
def tw16014036183764990525:=0
def tw16019490798310556020:=0
def tw16086724935568754379:=0
def tw16098517945988386452:=0
def tw16128446696159499749:=0
def tw16157170825306578814:=0
def tw16293115453014642994:=0
def tw16303608767602617256:=0
def tw16311635555964830088:=0
def tw16379559785360925240:=0
def tw16531544741953212712:=0
def tw16642376244374478786:=0
def tw16655304890165206377:=0
def tw16720654343359437706:=0
def tw16734831641826974315:=0
def tw16753713275205309190:=0
def tw16772201577910082078:=0
def tw16816147180157054282:=0
def tw16956993549662034960:=0
def tw17006013999768912255:=0
def tw17027758152725065866:=0
def tw17169009061014166525:=0
def tw1727821437340980347:=0
def tw17323067304243854214:=0
def tw17326230345794958323:=0
def tw1741477243810845409:=0
def tw17494362738397491204:=0
def tw17502026428608381711:=0
def tw17532575369682113528:=0
def tw1757247754206818074:=0
def tw17640447968203690395:=0
def tw17645001757631315722:=0
def tw17684394694385618147:=0
def tw17690764046169815999:=0
def tw17731752664165105088:=0
def tw17732041337284410260:=0
def tw17745588980770673395:=0
def tw17790864399281895199:=0
def tw17815166753591155603:=0
def tw17817574534227398433:=0
def tw17848004942803503761:=0
def tw17939890877652679731:=0
def tw18015690619227385005:=0
def tw18073230338403626570:=0
def tw18163853172473493901:=0
def tw18201404013917239951:=0
def tw18344355740682072658:=0
def tw18392643732631688478:=0
def tw18426643771739752965:=0
def tw1862852602907088382:=0
def tw1923586883599940991:=0
def tw1924745595213091347:=0
def tw1997675773312353512:=0
def tw2104175987253512242:=0
def tw2123525965521721963:=0
def tw2131144480792829185:=0
def tw2146268301375599917:=0
def tw2264343573773011772:=0
def tw226706542929657800:=0
def tw2293518666670850395:=0
def tw2300377875391970819:=0
def tw2334116729686563872:=0
def tw2358447526423448472:=0
def tw2417688550913258000:=0
def tw2418736718545410814:=0
def tw2428927067074133175:=0
def tw2432636784505148662:=0
def tw2495049993409805484:=0
def tw2496397282654297893:=0
def tw25175079902880658:=0
def tw2593448949924938016:=0
def tw2634880809272971776:=0
def tw2710573316624965239:=0
def tw2721038152315562159:=0
def tw2885708398895759705:=0
def tw2945558577496957420:=0
def tw3034404426783863808:=0
def tw3052523531756896969:=0
def tw3066239273653786881:=0
def tw3161889409176442788:=0
def tw3210186338190279150:=0
def tw3222617210049587584:=0
def tw3264155338922885873:=0
def tw3311943736078061888:=0
def tw3343080064539733175:=0
def tw3353760443105131251:=0
def tw336100222538855632:=0
def tw3459932773894778383:=0
def tw355268514342175482:=0
def tw3619148453530972609:=0
def tw3796253409026811078:=0
def tw3814744087510828976:=0
def tw3856346039337467712:=0
def tw3891954946882011890:=0
def tw3994456592707802296:=0
def tw4023702588872797690:=0
def tw4035686359058989577:=0
def tw4105447141459999724:=0
def tw4127172048357805581:=0
def tw417424557061998116:=0
def tw4216876080504993481:=0
def tw4253769253943774097:=0
def tw4555766590333890836:=0
def tw4570384120484051322:=0
def tw4571036495348438416:=0
def tw4617990577301779043:=0
def tw4674324431866820640:=0
def tw4732904569242046940:=0
def tw4756252551261702499:=0
def tw4785148584269763650:=0
def tw4900593744775819330:=0
def tw4910933484143503193:=0
def tw4941081661947232192:=0
def tw498225332674267706:=0
def tw5011599159296254840:=0
def tw5021048235098343684:=0
def tw5212836068749963109:=0
def tw5249821970516479863:=0
def tw5256969414171438117:=0
def tw5321527147279215522:=0
def tw5346756574577968538:=0
def tw5353905001136391273:=0
def tw5383892563803021861:=0
def tw5449133431255321653:=0
def tw5494038181797465142:=0
def tw5532621841953448829:=0
def tw5545715852907724698:=0
def tw5603946889846911400:=0
def tw5659090504594333205:=0
def tw5756164999099801324:=0
def tw5951865094198582157:=0
def tw6056094206218052379:=0
def tw611871233900163123:=0
def tw6139274370567389762:=0
def tw6185318855128059798:=0
def tw619500777351184589:=0
def tw6231995878690229699:=0
def tw6233294659004107632:=0
def tw6275955132522872786:=0
def tw6281911069564809229:=0
def tw6353009857348839250:=0
def tw6378540962818699890:=0
def tw6484449971271460549:=0
def tw662777308582480853:=0
def tw680395297341286809:=0
def tw6820097852978351987:=0
def tw687629978400459618:=0
def tw688817651747518227:=0
def tw6890392502871346548:=0
def tw6913808435607825057:=0
def tw698438809984514881:=0
def tw7059669107527644729:=0
def tw7151108177086502655:=0
def tw7210845451237597399:=0
def tw7242018597715084223:=0
def tw7430868051065237757:=0
def tw7432588329204783486:=0
def tw745873597034816170:=0
def tw7485734763536166173:=0
def tw7489640420811124235:=0
def tw7563478811153231944:=0
def tw7666001675048500787:=0
def tw7688157466256563130:=0
def tw7725857188136716980:=0
def tw7746321498178025845:=0
def tw7769238358484810789:=0
def tw7770474817997219241:=0
def tw777226660973548523:=0
def tw779408192197880002:=0
def tw7920685779490788138:=0
def tw7924550134881054461:=0
def tw8034367086139103659:=0
def tw8160096869280522154:=0
def tw8344153657003780548:=0
def tw8354686025419857072:=0
def tw8414415742411358389:=0
def tw843342276606044506:=0
def tw8444874495111114235:=0
def tw8600359749827802410:=0
def tw8649737408745154404:=0
def tw8660958004833307391:=0
def tw8677876895846231268:=0
def tw8711958938184434066:=0
def tw8836383721312235461:=0
def tw8879951393349739180:=0
def tw8894570109988453677:=0
def tw8918286210375801228:=0
def tw8934193210469390230:=0
def tw8959863015397790878:=0
def tw8974984854469771212:=0
def tw900708506305885049:=0
def tw9078217814486413532:=0
def tw9086936566063475886:=0
def tw9134874091032830958:=0
def tw9152789422378806328:=0
def tw9158932131229615077:=0
def tw9226553235201068353:=0
def tw9244734500147606432:=0
def tw9261221451223901831:=0
def tw9431409411249456326:=0
def tw951109760907563872:=0
def tw9535830928115866481:=0
def tw9551545819698082101:=0
def tw955276995688781221:=0
def tw9556030765988433265:=0
def tw9574755357797595146:=0
def tw9614877064011869852:=0
def tw9675569396285787520:=0
def tw9695088112160143085:=0
def tw9834888362180250517:=0
def tw990232252552038291:=0
end PySem.W.Fast
open PySem PySem.W PyProof.Rows
set_option maxRecDepth 100000 in
set_option maxHeartbeats 0 in
theorem PySem.Challenge.cw_wireparley_k28_no_talks_holds : PySem.Challenge.rw_wireparley_k28_no_talks.Holds := by
 w_on;o_law;k_head;(case hw=>w_witness2)
 k_fill
 refine K28.walk (l:=PySem.Challenge.rw_wireparley_k28_no_talks) 100 ⟨rfl,by decide,by decide⟩ rfl rfl (fun w h Y=>PySem.W.kIn_of Y) K28.law_true ?F
 case F=>
  intro w mg fa h KX G hmg
  refine' K28.fin_mk KX G hmg ?H ?z_ValueError ?z_bool ?z_int ?z_isinstance ?z_len ?z_list ?z_min ?z_ord ?z_range ?z_str ?z_tuple ?g_FIRST_SIGN ?g_LAST_SIGN ?g_PERCENT_SIGN ?xm
  (case H=>intro x;cases x <;> (refine' K28.at_mk ?a ?l ?c ?k;(case a=>k_is);(case l=>k_is);(case c=>k_is);(case k=>k_is)))
  (case z_ValueError=>k_is)
  (case z_bool=>k_is)
  (case z_int=>k_is)
  (case z_isinstance=>k_is)
  (case z_len=>k_is)
  (case z_list=>k_is)
  (case z_min=>k_is)
  (case z_ord=>k_is)
  (case z_range=>k_is)
  (case z_str=>k_is)
  (case z_tuple=>k_is)
  (case g_FIRST_SIGN=>k_is)
  (case g_LAST_SIGN=>k_is)
  (case g_PERCENT_SIGN=>k_is)
  (case xm=>refine' K28.xm_all KX G ?x_p ?x_a1 ?x_a2 ?x_a3 ?x_a4 ?x_a5 ?x_a6 ?x_a7 ?x_q ?x_nd ?x_fi ?x_l ?x_ii ?x_hf ?x_hs ?x_cc ?x_k;(case x_p=>k_is);(case x_a1=>k_is);(case x_a2=>k_is);(case x_a3=>k_is);(case x_a4=>k_is);(case x_a5=>k_is);(case x_a6=>k_is);(case x_a7=>k_is);(case x_q=>kernel_rfl);(case x_nd=>decide);(case x_fi=>k_is);(case x_l=>k_is);(case x_ii=>kernel_rfl);(case x_hf=>k_is);(case x_hs=>k_is);(case x_cc=>k_is);(case x_k=>k_is))
