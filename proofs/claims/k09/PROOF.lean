import PyProof.Rows.All
import Wide.All
import OpenK.AllK
import Wide.FinOn
import Lean
import PyProof.EqAt
import PyProof.EqKinds
import PyProof.TupleCall
import PyProof.NeKinds
import PyProof.ListMulRoad
import PyProof.MaxThree
import PyProof.Rows.StrJoinMade
import PyProof.ListStr
import PyProof.Rows.MinMaxN
import PyProof.Rows.Range3
import PyProof.ListRange
import PyProof.Rows.SetFrom
import PyProof.Rows.StrCase
import PyProof.SumAny
import PyProof.AutoIntG2
import PyProof.AutoListH
import PyProof.EnumStmt
import PyProof.EnumFor
import PyProof.EnumMake
import PyProof.Rows.EnumRows
import PyProof.ConsumeS
import PyProof.Rows.SortWalk
import KE.KDictSum
import PyProof.ZipIter
import KE.KEqDict
import PyProof.ExcClass2
import PyProof.RaisesMany
import PyProof.ExcBaseAll.ValueError
import PyProof.RulesDel
import PyProof.RulesAs
import PyProof.ExcArgs
import PySem.Challenge.RW_wireparley_k09_any_bytes_read
noncomputable section
set_option Elab.async false
set_option linter.all false
set_option maxRecDepth 100000
namespace L2
open PySem PySem.Spec PyProof.Rows
abbrev Key:=Sum Int Str
def Qf:Key→Value→Bool
 | .inl k,v=>Value.isInt k v
 | .inr x,v=>Value.isStrOf x v
def VF (w:World):Key→Int
 | .inl k=>hashInt k
 | .inr x=>hashStr w x
theorem B9:∀{k:Key} {v:Value},Qf k v=true→(∃i t,k=Sum.inl i∧v=Value.int i t)∨(∃x t,k=Sum.inr x∧v=Value.str x t)
 | .inl i,v,h=>by
   obtain ⟨t,e⟩:=Value.isInt_shape (k:=i) (v:=v) h
   exact .inl ⟨i,t,rfl,e⟩
 | .inr x,v,h=>by
   obtain ⟨t,e⟩:=Value.isStrOf_shape (x:=x) (v:=v) h
   exact .inr ⟨x,t,rfl,e⟩
theorem SG (a b:Int):decide ((Sum.inl a:Key)=Sum.inl b)=(a == b):=by
 by_cases e:a=b
 ·subst e;simp
 ·have h:¬(Sum.inl a:Key)=Sum.inl b:=fun q=>e (Sum.inl.inj q)
  rw [decide_eq_false h]
  exact (beq_eq_false_iff_ne.mpr e).symm
theorem SJ (a b:Str):decide ((Sum.inr a:Key)=Sum.inr b)=decide (a=b):=by
 by_cases e:a=b
 ·subst e;simp
 ·have h:¬(Sum.inr a:Key)=Sum.inr b:=fun q=>e (Sum.inr.inj q)
  rw [decide_eq_false h,decide_eq_false e]
theorem SH (a:Int) (b:Str):decide ((Sum.inl a:Key)=Sum.inr b)=false:=decide_eq_false (fun q=>nomatch q)
theorem SI (a:Str) (b:Int):decide ((Sum.inr a:Key)=Sum.inl b)=false:=decide_eq_false (fun q=>nomatch q)
def Mt (prog:Program) (w:World):PySem.KeyKind prog w Key where
 is:=Qf
 hash:=VF w
 inj:=fun v a b ha hb=>by
  rcases B9 ha with ⟨i,t,rfl,rfl⟩ | ⟨x,t,rfl,rfl⟩
  ·rcases B9 hb with ⟨j,u,rfl,e⟩ | ⟨y,u,rfl,e⟩
   ·injection e with e1 _;rw [e1]
   ·exact nomatch e
  ·rcases B9 hb with ⟨j,u,rfl,e⟩ | ⟨y,u,rfl,e⟩
   ·exact nomatch e
   ·injection e with e1 _;rw [e1]
 byValue:=fun k v h=>by
  rcases B9 h with ⟨i,t,rfl,rfl⟩ | ⟨x,t,rfl,rfl⟩ <;> rfl
 pyHash:=fun hv h=>by
  rcases B9 hv with ⟨i,t,rfl,rfl⟩ | ⟨x,t,rfl,rfl⟩
  ·exact wpAny_pyHash_int h
  ·exact wpAny_pyHash_str h
 eqBool:=fun hu hv h=>by
  rcases B9 hu with ⟨i,t,rfl,rfl⟩ | ⟨x,t,rfl,rfl⟩
  ·rcases B9 hv with ⟨j,u,rfl,rfl⟩ | ⟨y,u,rfl,rfl⟩
   ·rw [SG] at h;exact wpAny_eqBool_int h
   ·rw [SH] at h;exact SeqAt.EqAt.int_str i t y u _ _ _ _ h
  ·rcases B9 hv with ⟨j,u,rfl,rfl⟩ | ⟨y,u,rfl,rfl⟩
   ·rw [SI] at h;exact SeqAt.EqAt.str_int x t j u _ _ _ _ h
   ·rw [SJ] at h;exact wpAny_eqBool_str h
 «strs»:=fun k x t v h=>by
  rcases B9 h with ⟨i,u,rfl,e⟩ | ⟨y,u,rfl,e⟩
  ·exact nomatch e
  ·injection e with e1 _
   subst e1
   cases v <;> rfl
inductive V where
 | non | bl (b:Bool) | int (i:Int) | str (x:Str) | byt (b:Array UInt8) | flt (b:UInt64) | ref (a:Addr) | ty (n:String)
 deriving DecidableEq
def RelV:V→Value→Prop
 | .non,u=>u=Value.none
 | .bl b,u=>u=Value.bool b
 | .int i,u=>∃t,u=Value.int i t
 | .str x,u=>∃t,u=Value.str x t
 | .byt b,u=>∃t,u=Value.bytes b t
 | .flt b,u=>∃t,u=Value.float b t
 | .ref a,u=>u=Value.ref a
 | .ty n,u=>u=Value.type n
abbrev Vals:List V→List Value→Prop:=Paired RelV
theorem Vals.length {xs:List V} {us:List Value} (r:Vals xs us):xs.length=us.length:=Paired.length r
theorem Vals.get:∀{xs:List V} {us:List Value} {i:Nat} {x:V},Vals xs us→xs[i]?=some x→∃u,us[i]?=some u∧RelV x u
 | _,_,_,_,.nil,e=>by simp at e
 | _,_,0,_,.cons r _,e=>by simp at e;subst e;exact ⟨_,rfl,r⟩
 | _,_,i + 1,x,.cons _ t,e=>by
   obtain ⟨u,h1,h2⟩:=Vals.get (i:=i) (x:=x) t (by simpa using e)
   exact ⟨u,by simpa using h1,h2⟩
theorem Vals.set {x:V} {u:Value} (r:RelV x u):∀{xs:List V} {us:List Value} (i:Nat),Vals xs us→Vals (xs.set i x) (us.set i u)
 | _,_,_,.nil=>.nil
 | _,_,0,.cons _ t=>.cons r t
 | _,_,i + 1,.cons q t=>.cons q (Vals.set r i t)
theorem Vals.append:∀{xs ys:List V} {us ws:List Value},Vals xs us→Vals ys ws→Vals (xs++ys) (us++ws)
 | _,_,_,_,.nil,s=>s
 | _,_,_,_,.cons r t,s=>.cons r (Vals.append t s)
theorem Vals.take:∀{xs:List V} {us:List Value} (n:Nat),Vals xs us→Vals (xs.take n) (us.take n)
 | _,_,0,_=>.nil
 | _,_,_ + 1,.nil=>.nil
 | _,_,n + 1,.cons r t=>.cons r (Vals.take n t)
theorem Vals.drop:∀{xs:List V} {us:List Value} (n:Nat),Vals xs us→Vals (xs.drop n) (us.drop n)
 | _,_,0,r=>r
 | _,_,_ + 1,.nil=>.nil
 | _,_,n + 1,.cons _ t=>Vals.drop n t
def RelO:Option V→Option Value→Prop
 | some v,some u=>RelV v u
 | none,none=>True
 | _,_=>False
def KV {κ:Type}:List (κ×V)→List (κ×Value)→Prop:=Paired fun (p:κ×V) (q:κ×Value)=>p.1=q.1∧RelV p.2 q.2
def kV:Key→V
 | .inl i=>.int i
 | .inr x=>.str x
inductive HO where
 /-- a list -/
 | lst (xs:List V)
 /-- a tuple (never changes) -/
 | tup (xs:List V)
 /-- a dict whose keys are ints and texts;one whose keys are tuples of ints and texts (the empty one is both) -/
 | dK (kvs:List (Key×V)) | dT (kvs:List (List Key×V))
 /-- a set of ints: its members,its size -/
 | set (S:Int→Bool) (n:Nat)
 /-- an instance of the class at C,its dict at dx,its attributes -/
 | ins (C dx:Addr) (fs:List (Str×V))
 /-- the dict of the instance at x -/
 | own (x:Addr)
 /-- the dict of an exception -/
 | xd (fs:List (Str×V))
 /-- a bound method,f of x -/
 | met (f x:Addr)
 /-- a range object lo,lo + 1,.. below hi -/
 | rng (lo hi:Int)
 /-- a thing that is known to the object (the script;a dict while a loop walks it): read,never written while it is so -/
 | frz (o:Obj) (u:HO)
 /-- a code object's table -/
 | tbl (ps:Array Value)
 /-- any other thing,by what is true of its one object (a def of one's own: SetO a S n:=HO.ext fun h=>..) -/
 | ext (φ:Heap→Prop)
abbrev Hp:=Addr→Option HO
def upd (H:Hp) (a:Addr) (o:HO):Hp:=fun b=>if b=a then some o else H b
theorem AJ {H:Hp} {a:Addr} {o:HO}:upd H a o a=some o:=by unfold upd;rw [if_pos rfl]
theorem Au {H:Hp} {a b:Addr} {o:HO} (h:b≠a):upd H a o b=H b:=by unfold upd;rw [if_neg h]
theorem RM {H:Hp} {a:Addr} {o u:HO}:upd (upd H a o) a u=upd H a u:=by
 funext b;unfold upd;split <;> rfl
theorem Bf {H:Hp} {a b:Addr} {o:HO} (h:H a=some o) (h':H b=none):a≠b:=by
 intro e;subst e;rw [h] at h';cases h'
section
variable (P:Program) (w:World)
def ObjOk (H:Hp) (h:Heap) (a:Addr):HO→Prop
 | .lst xs=>xs.length≤sizeLine∧∃(its:List Value) (n:Nat),Vals xs its∧h.get? a=some { cls:=.type "list",data:=.seq its.toArray n }
 | .tup xs=>xs.length≤sizeLine∧∃its:List Value,Vals xs its∧IsTup h a its.toArray
 | .dK kvs=>kvs.length≤sizeLine∧(a == sysModules)=false∧∃vs,KV kvs vs∧h.DictOf (Mt P w) a vs
 | .dT kvs=>kvs.length≤sizeLine∧(a == sysModules)=false∧∃xs:List (List Key×Addr×Value),
    Paired (fun (p:List Key×V) (q:List Key×Addr×Value)=>p.1=q.1∧H q.2.1=some (.tup (p.1.map kV))∧RelV p.2 q.2.2) kvs xs∧
    ∃o es ep,h.get? a=some o∧o.ExactDict∧o.data = .dict es ep∧es.toList=xs.map (entryOfKey (tupleKind (Mt P w)))∧(xs.map (·.1)).Nodup
 | .set S n=>h.SetOf (intKind P w) a S n
 | .ins C dx fs=>H dx=some (.own a)∧fs.length≤1000∧dx≠a∧h.get? a=some (PySem.W.instObj C dx)∧
    ∃mA,h.Ns1 dx mA∧(∀f,RelO (fs.lookup f) (mA f))∧PySem.Within mA (fs.map (·.1))
 | .own _=>∃o,h.get? a=some o
 | .xd fs=>∃mA,h.Ns1 a mA∧∀f,RelO (fs.lookup f) (mA f)
 | .rng lo hi=>∃t u v,h.get? a=some { cls:=.type "range",data:=.fields #[.int lo t,.int hi u,.int 1 v] }
 | .frz o u=>h.get? a=some o∧ObjOk H h a u
 | .tbl ps=>h.get? a=some { cls:=.none,data:=.fields ps }
 | .met f x=>h.get? a=some (PySem.W.methodObj (.ref f) (.ref x))
 | .ext φ=>φ h∧(∃o,h.get? a=some o)∧∀h1 h2:Heap,φ h1→(∀o,h1.get? a=some o→h2.get? a=some o)→φ h2
def HOk (H:Hp) (h:Heap):Prop:=∀a o,H a=some o→ObjOk P w H h a o
end
section
variable {P:Program} {w:World} {H H':Hp} {h h':Heap} {a:Addr} {o:HO}
theorem ObjOk.lt (x:ObjOk P w H h a o):a < h.objs.size:=by
 cases o with
 | lst xs=>obtain ⟨_,_,_,_,e⟩:=x;exact Heap.lt_size e
 | tup xs=>obtain ⟨_,_,_,p⟩:=x;exact p.lt
 | dK kvs=>obtain ⟨_,_,_,_,o,_,_,e,_⟩:=x;exact Heap.lt_size e
 | dT kvs=>obtain ⟨_,_,_,_,o,_,_,e,_⟩:=x;exact Heap.lt_size e
 | set S n=>obtain ⟨o,_,_,_,e,_⟩:=x;exact Heap.lt_size e
 | ins C dx fs=>obtain ⟨_,_,_,e,_⟩:=x;exact Heap.lt_size e
 | own y=>obtain ⟨_,e⟩:=x;exact Heap.lt_size e
 | xd fs=>obtain ⟨_,⟨_,_,_,e,_⟩,_⟩:=x;exact Heap.lt_size e
 | rng lo hi=>obtain ⟨_,_,_,e⟩:=x;exact Heap.lt_size e
 | frz ob u=>obtain ⟨e,_⟩:=x;exact Heap.lt_size e
 | tbl ps=>exact Heap.lt_size (show h.get? a=some _ from x)
 | met f y=>exact Heap.lt_size (show h.get? a=some _ from x)
 | ext φ=>obtain ⟨_,⟨_,e⟩,_⟩:=x;exact Heap.lt_size e
theorem Paired.mapP {α β:Type} {F G:α→β→Prop}:∀{l₁:List α} {l₂:List β},Paired F l₁ l₂→(∀a b,F a b→G a b)→Paired G l₁ l₂
 | _,_,.nil,_=>.nil
 | _,_,.cons r t,f=>.cons (f _ _ r) (Paired.mapP t f)
theorem ObjOk.stay (x:ObjOk P w H h a o) (k:∀b u,(b=a∨H b=some (.own a))→h.get? b=some u→h'.get? b=some u)
 (ho:∀b,H b=some (.own a)→H' b=some (.own a)) (ht:∀b xs,H b=some (.tup xs)→H' b=some (.tup xs)):ObjOk P w H' h' a o:=by
 induction o with
 | lst xs=>obtain ⟨z,its,n,r,e⟩:=x;exact ⟨z,its,n,r,k _ _ (.inl rfl) e⟩
 | tup xs=>obtain ⟨z,its,r,ob,e,c⟩:=x;exact ⟨z,its,r,ob,k _ _ (.inl rfl) e,c⟩
 | dK kvs=>obtain ⟨z,y,vs,r,ob,es,ep,e,c⟩:=x;exact ⟨z,y,vs,r,ob,es,ep,k _ _ (.inl rfl) e,c⟩
 | dT kvs=>
   obtain ⟨z,y,xs,r,ob,es,ep,e,c⟩:=x
   exact ⟨z,y,xs,Paired.mapP r fun p q z=>⟨z.1,ht _ _ z.2.1,z.2.2⟩,ob,es,ep,k _ _ (.inl rfl) e,c⟩
 | set S n=>obtain ⟨ob,es,ep,t,e,c⟩:=x;exact ⟨ob,es,ep,t,k _ _ (.inl rfl) e,c⟩
 | ins C dx fs=>
   obtain ⟨d,z,ne,e,mA,⟨od,es,ep,e2,c⟩,r⟩:=x
   exact ⟨ho _ d,z,ne,k _ _ (.inl rfl) e,mA,⟨od,es,ep,k _ _ (.inr d) e2,c⟩,r⟩
 | own y=>obtain ⟨ob,e⟩:=x;exact ⟨ob,k _ _ (.inl rfl) e⟩
 | xd fs=>obtain ⟨mA,⟨od,es,ep,e,c⟩,r⟩:=x;exact ⟨mA,⟨od,es,ep,k _ _ (.inl rfl) e,c⟩,r⟩
 | rng lo hi=>obtain ⟨t,u,v,e⟩:=x;exact ⟨t,u,v,k _ _ (.inl rfl) e⟩
 | frz ob u ih=>obtain ⟨e,q⟩:=x;exact ⟨k _ _ (.inl rfl) e,ih q⟩
 | tbl ps=>
   have e:h.get? a=some { cls:=.none,data:=.fields ps }:=x
   show h'.get? a=some { cls:=.none,data:=.fields ps }
   exact k a _ (.inl rfl) e
 | met f y=>
   have e:h.get? a=some (PySem.W.methodObj (.ref f) (.ref y)):=x
   show h'.get? a=some (PySem.W.methodObj (.ref f) (.ref y))
   exact k a _ (.inl rfl) e
 | ext φ=>obtain ⟨p,⟨o,e⟩,st⟩:=x;exact ⟨st _ _ p fun o q=>k _ _ (.inl rfl) q,⟨o,k _ _ (.inl rfl) e⟩,st⟩
theorem HOk.lt (x:HOk P w H h) (e:H a=some o):a < h.objs.size:=(x a o e).lt
theorem HOk.fresh (x:HOk P w H h) (e:h.objs.size≤a):H a=none:=by
 cases q:H a with
 | none=>rfl
 | some u=>exact absurd (Nat.lt_of_lt_of_le (x.lt q) e) (Nat.lt_irrefl _)
theorem HOk.kept (x:HOk P w H h) (k:∀b u,h.get? b=some u→h'.get? b=some u):HOk P w H h':=fun a o e=>
 (x a o e).stay (fun b u _ q=>k b u q) (fun _ q=>q) fun _ _ q=>q
theorem HOk.laid (x:HOk P w H h) (k:∀b u,h.get? b=some u→h'.get? b=some u) (hp:h.objs.size≤a) (new:ObjOk P w (upd H a o) h' a o):HOk P w (upd H a o) h':=fun b u e=>by
 have hn:=x.fresh hp
 by_cases hb:b=a
 ·subst hb;rw [AJ] at e;cases e;exact new
 ·rw [Au hb] at e
  exact (x b u e).stay (fun c v _ q=>k c v q) (fun c q=>by rw [Au (Bf q hn)];exact q) fun c xs q=>by rw [Au (Bf q hn)];exact q
end
def Rd (H:Hp) (a:Addr) (u:HO):Prop:=H a=some u∨∃o,H a=some (.frz o u)
theorem Rd.ok {P:Program} {w:World} {H:Hp} {h:Heap} {a:Addr} {u:HO} (r:Rd H a u) (x:HOk P w H h):ObjOk P w H h a u:=by
 rcases r with r | ⟨o,r⟩
 ·exact x a u r
 ·obtain ⟨_,q⟩:=x a _ r
  exact q
def Mut:Option HO→Prop
 | some (.lst _)=>True
 | some (.dK _)=>True
 | some (.dT _)=>True
 | some (.set _ _)=>True
 | some (.ins _ _ _)=>True
 | some (.ext _)=>True
 | _=>False
section
variable {P:Program} {w:World} {H:Hp} {h h':Heap} {x e:Addr} {o':HO}
theorem HOk.write (ok:HOk P w H h) (mu:Mut (H x)) (he:e=x∨H e=some (.own x)) (k:∀b u,b≠e→h.get? b=some u→h'.get? b=some u) (heo:∃u,h'.get? e=some u)
 (new:ObjOk P w (upd H x o') h' x o'):HOk P w (upd H x o') h':=fun b u q=>by
 have nown:∀c y,H c=some (.own y)→c≠x:=fun c y r z=>by subst z;rw [r] at mu;exact mu
 have ntup:∀c xs,H c=some (.tup xs)→c≠x:=fun c xs r z=>by subst z;rw [r] at mu;exact mu
 by_cases hb:b=x
 ·subst hb;rw [AJ] at q;cases q;exact new
 ·rw [Au hb] at q
  by_cases hbe:b=e
  ·have q':H b=some (.own x):=by
    rcases he with z | z
    ·exact absurd (hbe.trans z) hb
    ·rw [hbe];exact z
   rw [q] at q';cases q'
   obtain ⟨v,hv⟩:=heo
   exact ⟨v,by rw [hbe];exact hv⟩
  ·refine (ok b u q).stay (fun c v hc r=>k c v ?_ r) (fun c r=>by rw [Au (nown c b r)];exact r) fun c xs r=>by rw [Au (ntup c xs r)];exact r
   rcases hc with rfl | hc
   ·exact hbe
   ·rintro rfl
    rcases he with z | z
    ·exact nown c b hc z
    ·rw [hc] at z;cases z;exact hb rfl
end
structure Un (fs ex:List Addr) (H H':Hp) (h h':Heap):Prop where
 keep:∀b o,h.get? b=some o→H b=none→b∉fs→b∉ex→h'.get? b=some o
 slot:∀b o,h.get? b=some o→H b=none→b∈fs→b∉ex→∃sl,h'.get? b=some { o with slots:=sl }
 free:∀b o,h.get? b=some o→H b=none→b∉ex→H' b=none
 there:∀b o,h.get? b=some o→b∉ex→∃o',h'.get? b=some o'
 tups:∀b xs,H b=some (.tup xs)→H' b=some (.tup xs)
 frzs:∀b o u,H b=some (.frz o u)→H' b=some (.frz o u)
 tbls:∀b ps,H b=some (.tbl ps)→∃more,H' b=some (.tbl (ps++more))
section
variable {fs fs' ex ex':List Addr} {H H1 H2:Hp} {h h1 h2 h':Heap} {a x e:Addr} {o:HO}
theorem Un.any (u:Un fs ex H H1 h h1) {b:Addr} {ob:Obj} (q:h.get? b=some ob) (n:H b=none) (hx:b∉ex):∃sl,h1.get? b=some { ob with slots:=sl }:=by
 by_cases hb:b∈fs
 ·exact u.slot b ob q n hb hx
 ·exact ⟨ob.slots,u.keep b ob q n hb hx⟩
theorem Un.kept (k:∀b u,h.get? b=some u→h'.get? b=some u):Un fs ex H H h h':=
 ⟨fun b ob q _ _ _=>k b ob q,fun b ob q _ _ _=>⟨ob.slots,k b ob q⟩,fun _ _ _ n _=>n,fun b ob q _=>⟨ob,k b ob q⟩,fun _ _ q=>q,fun _ _ _ q=>q,fun _ ps q=>⟨#[],by rw [q];simp⟩⟩
theorem Un.refl:Un fs ex H H h h:=Un.kept fun _ _ q=>q
theorem Un.laid (k:∀b u,h.get? b=some u→h'.get? b=some u) (hp:h.objs.size≤a) (hn:H a=none):Un fs ex H (upd H a o) h h' where
 keep:=fun b u q _ _ _=>k b u q
 slot:=fun b u q _ _ _=>⟨u.slots,k b u q⟩
 free:=fun b u q n _=>by rw [Au (Nat.ne_of_lt (Nat.lt_of_lt_of_le (Heap.lt_size q) hp))];exact n
 there:=fun b u q _=>⟨u,k b u q⟩
 tups:=fun b xs q=>by rw [Au (Bf q hn)];exact q
 frzs:=fun b u xs q=>by rw [Au (Bf q hn)];exact q
 tbls:=fun b ps q=>⟨#[],by rw [Au (Bf q hn),q];simp⟩
theorem Un.write (mu:Mut (H x)) (he:e=x∨H e=some (.own x)) (k:∀b u,b≠e→h.get? b=some u→h'.get? b=some u) (heo:∃u,h'.get? e=some u):Un fs ex H (upd H x o) h h':=by
 have hx:∀b,H b=none→b≠x:=fun b n z=>by subst z;rw [n] at mu;exact mu
 have hb:∀b,H b=none→b≠e:=fun b n z=>by
  subst z
  rcases he with r | r
  ·exact hx b n r
  ·rw [n] at r;cases r
 have hm:∀b u,H b=some u→¬Mut (some u)→b≠x:=fun b u q nm z=>by subst z;rw [q] at mu;exact nm mu
 refine ⟨fun b u q n _ _=>k b u (hb b n) q,fun b u q n _ _=>⟨u.slots,k b u (hb b n) q⟩,fun b u q n _=>by rw [Au (hx b n)];exact n,fun b u q _=>?_,
  fun b xs q=>by rw [Au (hm b _ q fun z=>z)];exact q,fun b u xs q=>by rw [Au (hm b _ q fun z=>z)];exact q,fun b ps q=>⟨#[],by rw [Au (hm b _ q fun z=>z),q];simp⟩⟩
 by_cases hbe:b=e
 ·subst hbe;exact heo
 ·exact ⟨u,k b u hbe q⟩
end
def trk (h:Heap) (H:Hp):List Addr:=(List.range h.objs.size).filter fun a=>(H a).isSome
def Ge (h:Heap) (H:Hp):Heap:=PySem.W.hideAll h (trk h H)
theorem N0 (h:Heap) (H:Hp):(Ge h H).objs.size=h.objs.size:=PySem.W.hideAll_size _ _
theorem O4 {h:Heap} {H:Hp} {b:Addr} {o:Obj} (e:h.get? b=some o) (n:H b=none):(Ge h H).get? b=some o:=
 PySem.W.hideAll_get _ e fun hm=>by
  have q:(H b).isSome=true:=(List.mem_filter.mp hm).2
  rw [n] at q;simp at q
theorem Q6 {h:Heap} {H:Hp} {b:Addr} {o:Obj} (e:(Ge h H).get? b=some o):h.get? b=some o∧H b=none:=by
 have e':h.get? b=some o:=PySem.W.of_hideAll (trk h H) e
 refine ⟨e',?_⟩
 cases q:H b with
 | none=>rfl
 | some x=>
   have hm:b∈trk h H:=List.mem_filter.mpr ⟨List.mem_range.mpr (Heap.lt_size e'),by simp [q]⟩
   have z:(Ge h H).get? b=none:=PySem.W.hideAll_none (trk h H) hm
   rw [z] at e;cases e
def QA (g h:Heap) (L:Addr):List (Addr×Obj):=(List.range h.objs.size).filterMap fun a=>if a=L∨(g.get? a).isSome=true then none else (h.get? a).map fun o=>(a,o)
def rest (g h:Heap) (L d:Addr):List (Addr×Obj):=(QA g h L).filter fun p=>decide (p.1≠d)
structure Mod (K:PySem.W.Frag) (mg:Str→Option Value) (base:Heap):Prop where
 kin:K.In base
 glob:base.Ns mainGlobals mg
 blt:∃mb,base.Ns builtinsNs mb∧∀x:Str,x≠"__name__"→mb x=bootBuiltins x
 nolimit:base.NoLimit
structure Cx where
 prog:Program
 w:World
 K:PySem.W.Frag
 mg:Str→Option Value
 base:Heap
 A:Around
 N:List Str
 s₀:Shared
 H₀:Hp
 env:Env
 outer:List Env
 stack:List Env
 ex:List Addr
 fn:Str→Bool
 calm:Bool
 pn:List (Addr×Obj)
 xe:Value→Shared→Prop
def frs (l:List Env):List Addr:=l.filterMap (·.frame)
abbrev Cx.fs (X:Cx):List Addr:=frs X.outer
def Vis (sc:Scope) (x:Str):Prop:=sc.names.lookup x=some .local∨sc.names.lookup x=some .cell∨sc.names.lookup x=some .free
def Loc (sc:Scope) (x:Str):Prop:=sc.names.lookup x=some .local∨sc.names.lookup x=some .cell
def Vk (env:Env) (h:Heap) (m:Str→Option Value) (x:Str) (u:Value):Prop:=
 (env.kindOf x=some .local∧m x=some u)∨((env.kindOf x=some .cell∨env.kindOf x=some .free)∧∃c,env.cells.lookup x=some c∧h.IsCell c (some u))
structure Cx.Ok (X:Cx):Prop where
 mod:Mod X.K X.mg X.base
 kind:X.env.scope.kind = .function
 glob:X.env.globals=mainGlobals
 blt:X.env.builtins=builtinsNs
 above:X.s₀.heap.objs.size≤X.env.locals
 inj:∀x y c,X.env.cells.lookup x=some c→X.env.cells.lookup y=some c→x=y
 has:∀x,(X.env.kindOf x=some .cell∨X.env.kindOf x=some .free)→∃c,X.env.cells.lookup x=some c
 cab:∀x c,X.fn x=true→X.env.cells.lookup x=some c→X.s₀.heap.objs.size≤c
 hd:X.calm=true→X.A.handled=none
 frames:X.A.frames=some X.stack
 stk:X.stack=X.outer∨(X.stack=X.env :: X.outer∧X.env.frame=some X.env.locals)
 exf:∀b∈X.ex,b≠X.env.locals∧∀x c,X.env.cells.lookup x=some c→c≠b
 bs:∀b o,X.base.get? b=some o→X.s₀.heap.get? b=some o∧X.H₀ b=none
 bsz:X.base.objs.size≤X.s₀.heap.objs.size
 noex:∀b o,X.base.get? b=some o→b∉X.ex
 exfs:∀b∈X.ex,b∉X.fs
 funs:X.s₀.heap.FunFrames X.base X.outer
 frf:∀b∈X.fs,X.H₀ b=none
structure Inv (X:Cx) (pins:List (Addr×Obj)) (σ:List (Option V)) (H:Hp) (s:Shared):Prop where
 ok:X.Ok
 os:s.os=X.s₀.os
 bare:AllBare s.gens
 base:Un X.fs X.ex X.H₀ H X.s₀.heap s.heap
 loc:∃m,s.heap.Ns X.env.locals m∧∀(i:Nat) (x:Str) (v:V),X.N[i]?=some x→σ[i]?=some (some v)→Vis X.env.scope x→∃u,RelV v u∧Vk X.env s.heap m x u
 cell:∀x c,X.env.cells.lookup x=some c→∃v,s.heap.IsCell c v
 free:H X.env.locals=none
 freeC:∀x c,X.env.cells.lookup x=some c→H c=none
 pin:∀p∈X.pn++pins,s.heap.get? p.1=some p.2∧H p.1=none∧p.1≠X.env.locals∧p.1∉X.fs∧∀v,p.2.data≠.cell v
 hok:HOk X.prog X.w H s.heap
 len:σ.length=X.N.length
section
variable {X:Cx} {pins:List (Addr×Obj)} {σ:List (Option V)} {H H':Hp} {s:Shared} {h':Heap}
theorem Cx.Ok.nofr (ok:X.Ok) {b:Addr} {o:Obj} (e:X.base.get? b=some o):b∉X.fs:=fun hb=>by
 have:=(ok.funs.mem hb).1
 rw [e] at this;cases this
theorem Inv.bs (I:Inv X pins σ H s):∀b o,X.base.get? b=some o→s.heap.get? b=some o∧H b=none:=fun b o e=>
 ⟨I.base.keep b o (I.ok.bs b o e).1 (I.ok.bs b o e).2 (I.ok.nofr e) (I.ok.noex b o e),I.base.free b o (I.ok.bs b o e).1 (I.ok.bs b o e).2 (I.ok.noex b o e)⟩
theorem Inv.bk (I:Inv X pins σ H s):∀b o,X.base.get? b=some o→s.heap.get? b=some o:=fun b o e=>(I.bs b o e).1
theorem Inv.mod (I:Inv X pins σ H s):Mod X.K X.mg X.base:=I.ok.mod
theorem Inv.kIn (I:Inv X pins σ H s):X.K.In s.heap:=I.ok.mod.kin.keeps I.bk
theorem Inv.lt (I:Inv X pins σ H s):X.env.locals < s.heap.objs.size:=let ⟨_,hn,_⟩:=I.loc;hn.lt
theorem Inv.sz (I:Inv X pins σ H s):X.s₀.heap.objs.size≤s.heap.objs.size:=Nat.le_trans I.ok.above (Nat.le_of_lt I.lt)
theorem Inv.nofs (I:Inv X pins σ H s) {a:Addr} (h:s.heap.objs.size≤a):a∉X.fs:=fun hb=>by
 obtain ⟨_,o,ho,_⟩:=I.ok.funs.mem hb
 exact absurd (Nat.lt_of_lt_of_le (Heap.lt_size ho) (Nat.le_trans I.sz h)) (Nat.lt_irrefl _)
theorem Inv.cne (I:Inv X pins σ H s):∀x c,X.env.cells.lookup x=some c→c≠X.env.locals:=fun x c e z=>by
 obtain ⟨v,o,ho,hd⟩:=I.cell x c e
 obtain ⟨m,⟨o',es,ep,ho',hd',_⟩,_⟩:=I.loc
 rw [z,ho'] at ho;cases ho;rw [hd'] at hd;cases hd
theorem Inv.funs (I:Inv X pins σ H s):s.heap.FunFrames X.base X.outer:=by
 have all:∀(l:List Env),(∀b∈frs l,b∈X.fs)→X.s₀.heap.FunFrames X.base l→s.heap.FunFrames X.base l:=by
  intro l
  induction l with
  | nil=>intro _ _;trivial
  | cons env r ih=>
    intro hs hl
    obtain ⟨hk,⟨L,o,hf,hn,ho,hd⟩,hr⟩:=hl
    have hL:L∈X.fs:=hs L (by unfold frs;rw [List.filterMap_cons,hf];exact List.mem_cons_self)
    obtain ⟨sl,e⟩:=I.base.slot L o ho (I.ok.frf L hL) hL fun z=>I.ok.exfs L z hL
    exact ⟨hk,⟨L,_,hf,hn,e,hd⟩,ih (fun b hb=>hs b (by unfold frs;rw [List.filterMap_cons,hf];exact List.mem_cons_of_mem _ hb)) hr⟩
 exact all X.outer (fun _ hb=>hb) I.ok.funs
theorem Inv.stack (I:Inv X pins σ H s):s.heap.FunFrames X.base X.stack:=by
 rcases I.ok.stk with e | ⟨e,hf⟩
 ·rw [e];exact I.funs
 ·rw [e]
  obtain ⟨m,hn,_⟩:=I.loc
  refine .cons (by rw [I.ok.kind];decide) hf hn ?_ I.funs
  exact Heap.get?_none_of_le (Nat.le_trans I.ok.bsz I.ok.above)
theorem Inv.stkSub (I:Inv X pins σ H s):∀b∈frs X.stack,b∈X.env.locals :: X.fs:=fun b hb=>by
 rcases I.ok.stk with e | ⟨e,hf⟩
 ·rw [e] at hb;exact List.mem_cons_of_mem _ hb
 ·rw [e] at hb
  unfold frs at hb
  rw [List.filterMap_cons,hf] at hb
  exact hb
theorem Inv.stkFree (I:Inv X pins σ H s):∀b∈frs X.stack,H b=none:=fun b hb=>by
 rcases List.mem_cons.mp (I.stkSub b hb) with e | hb
 ·rw [e];exact I.free
 ·obtain ⟨_,o,ho,_⟩:=I.ok.funs.mem hb
  exact I.base.free b o ho (I.ok.frf b hb) fun z=>I.ok.exfs b z hb
theorem Inv.step {g':Array GenState} {t':Nat} {d':Drawn} {ch:List Addr} (I:Inv X pins σ H s)
 (hch:∀b∈ch,(b∈X.ex∨X.s₀.heap.objs.size≤b)∧b≠X.env.locals∧(∀x c,X.env.cells.lookup x=some c→c≠b)∧∀p∈X.pn++pins,p.1≠b)
 (keep:∀b o,b≠X.env.locals→b∉X.fs→b∉ch→s.heap.get? b=some o→H b=none→h'.get? b=some o)
 (slot:∀b o,b≠X.env.locals→b∈X.fs→b∉ch→s.heap.get? b=some o→H b=none→∃sl,h'.get? b=some { o with slots:=sl }) (free:∀b o,b∉ch→s.heap.get? b=some o→H b=none→H' b=none)
 (there:∀b o,b∉ch→s.heap.get? b=some o→∃o',h'.get? b=some o')
 (tups:∀b xs,H b=some (.tup xs)→H' b=some (.tup xs)) (frzs:∀b o u,H b=some (.frz o u)→H' b=some (.frz o u)) (tbls:∀b ps,H b=some (.tbl ps)→∃more,H' b=some (.tbl (ps++more)))
 (ns:∀m,s.heap.Ns X.env.locals m→h'.Ns X.env.locals m) (hok:HOk X.prog X.w H' h') (hg:AllBare g') :
 Inv X pins σ H' { s with heap:=h',gens:=g',drawn:=d',toks:=t' }:=by
 have neL:∀b o,X.s₀.heap.get? b=some o→b≠X.env.locals:=fun b o e=>Nat.ne_of_lt (Nat.lt_of_lt_of_le (Heap.lt_size e) I.ok.above)
 have neC:∀b o,X.s₀.heap.get? b=some o→b∉X.ex→b∉ch:=fun b o e hx hb=>by
  rcases (hch b hb).1 with z | z
  ·exact hx z
  ·exact absurd (Nat.lt_of_lt_of_le (Heap.lt_size e) z) (Nat.lt_irrefl _)
 have cellK:∀x c,X.env.cells.lookup x=some c→∀v,s.heap.IsCell c v→h'.IsCell c v:=fun x c e v ⟨o,ho,hd⟩=>by
  have nch:c∉ch:=fun z=>(hch c z).2.2.1 x c e rfl
  by_cases hc:c∈X.fs
  ·obtain ⟨sl,q⟩:=slot c o (I.cne x c e) hc nch ho (I.freeC x c e)
   exact ⟨_,q,hd⟩
  ·exact ⟨o,keep c o (I.cne x c e) hc nch ho (I.freeC x c e),hd⟩
 refine ⟨I.ok,I.os,hg,⟨fun b o e n hb hx=>?_,fun b o e n hb hx=>?_,fun b o e n hx=>?_,fun b o e hx=>?_,fun b xs e=>tups b xs (I.base.tups b xs e),fun b o xs e=>frzs b o xs (I.base.frzs b o xs e),fun b ps e=>?_⟩,?_,fun x c e=>?_,?_,fun x c e=>?_,fun p hp=>?_,hok,I.len⟩
 ·exact keep b o (neL b o e) hb (neC b o e hx) (I.base.keep b o e n hb hx) (I.base.free b o e n hx)
 ·obtain ⟨sl,e1⟩:=I.base.slot b o e n hb hx
  obtain ⟨sl',e2⟩:=slot b _ (neL b o e) hb (neC b o e hx) e1 (I.base.free b o e n hx)
  exact ⟨sl',e2⟩
 ·obtain ⟨o',e1⟩:=I.base.there b o e hx
  exact free b o' (neC b o e hx) e1 (I.base.free b o e n hx)
 ·obtain ⟨o',e1⟩:=I.base.there b o e hx
  exact there b o' (neC b o e hx) e1
 ·obtain ⟨m1,e1⟩:=I.base.tbls b ps e
  obtain ⟨m2,e2⟩:=tbls b _ e1
  exact ⟨m1++m2,by rw [e2,Array.append_assoc]⟩
 ·obtain ⟨m,hn,hl⟩:=I.loc
  refine ⟨m,ns m hn,fun i x v e1 e2 e3=>?_⟩
  obtain ⟨u,r,l⟩:=hl i x v e1 e2 e3
  refine ⟨u,r,?_⟩
  rcases l with l | ⟨k,c,e,z⟩
  ·exact .inl l
  ·exact .inr ⟨k,c,e,cellK x c e _ z⟩
 ·obtain ⟨v,z⟩:=I.cell x c e
  exact ⟨v,cellK x c e v z⟩
 ·obtain ⟨m,⟨o,_,_,ho,_⟩,_⟩:=I.loc
  exact free _ o (fun z=>(hch _ z).2.1 rfl) ho I.free
 ·obtain ⟨v,o,ho,hd⟩:=I.cell x c e
  exact free c o (fun z=>(hch c z).2.2.1 x c e rfl) ho (I.freeC x c e)
 ·obtain ⟨e,n,ne,nf,d⟩:=I.pin p hp
  have nch:p.1∉ch:=fun z=>(hch p.1 z).2.2.2 p hp rfl
  exact ⟨keep p.1 p.2 ne nf nch e n,free p.1 p.2 nch e n,ne,nf,d⟩
theorem Inv.un {t':Nat} (I:Inv X pins σ H s) (u:Un X.fs [] H H' s.heap h') (hok:HOk X.prog X.w H' h'):Inv X pins σ H' { s with heap:=h',toks:=t' }:=by
 obtain ⟨m,⟨o,es,ep,ho,r⟩,_⟩:=id I.loc
 obtain ⟨sl,hL⟩:=u.any ho I.free (by simp)
 exact I.step (g':=s.gens) (d':=s.drawn) (ch:=[]) (fun _ z=>nomatch z) (fun b o _ hb _ e n=>u.keep b o e n hb (by simp)) (fun b o _ hb _ e n=>u.slot b o e n hb (by simp)) (fun b o _ e n=>u.free b o e n (by simp)) (fun b o _ e=>u.there b o e (by simp)) u.tups u.frzs u.tbls (fun m' hm=>by
  obtain ⟨o',es',ep',ho',r'⟩:=hm
  rw [ho] at ho';cases ho'
  exact ⟨_,es',ep',hL,r'⟩) hok I.bare
theorem Inv.call {g':Array GenState} {t':Nat} {d':Drawn} {ch:List Addr} (I:Inv X pins σ H s) (u:Un (frs X.stack) ch H H' s.heap h') (hok:HOk X.prog X.w H' h') (hg:AllBare g')
 (hch:∀b∈ch,(b∈X.ex∨X.s₀.heap.objs.size≤b)∧b≠X.env.locals∧(∀x c,X.env.cells.lookup x=some c→c≠b)∧∀p∈X.pn++pins,p.1≠b) :
 Inv X pins σ H' { s with heap:=h',gens:=g',drawn:=d',toks:=t' }:=by
 obtain ⟨m,⟨o,es,ep,ho,r⟩,_⟩:=id I.loc
 obtain ⟨sl,hL⟩:=u.any ho I.free fun z=>(hch _ z).2.1 rfl
 exact I.step (ch:=ch) hch (fun b o hL hb hc e n=>u.keep b o e n (fun z=>(List.mem_cons.mp (I.stkSub b z)).elim hL hb) hc) (fun b o _ _ hc e n=>u.any e n hc) (fun b o hc e n=>u.free b o e n hc) (fun b o hc e=>u.there b o e hc) u.tups u.frzs u.tbls (fun m' hm=>by
  obtain ⟨o',es',ep',ho',r'⟩:=hm
  rw [ho] at ho';cases ho'
  exact ⟨_,es',ep',hL,r'⟩) hok hg
theorem Inv.turned {t':Nat} {it:Addr} (I:Inv X pins σ H s) (k:∀b o,b≠it→s.heap.get? b=some o→h'.get? b=some o) (hn:H it=none) (hL:it≠X.env.locals)
 (h1:it∈X.ex∨X.s₀.heap.objs.size≤it) (h2:∀x c,X.env.cells.lookup x=some c→c≠it) (h3:∀p∈X.pn++pins,p.1≠it):Inv X pins σ H { s with heap:=h',toks:=t' }:=by
 have nit:∀b u,H b=some u→b≠it:=fun b u e z=>by rw [z,hn] at e;cases e
 refine I.step (g':=s.gens) (d':=s.drawn) (ch:=[it]) (fun b hb=>?_) (fun b o _ _ hc e _=>k b o (fun z=>hc (by simp [z])) e) (fun b o _ _ hc e _=>⟨o.slots,k b o (fun z=>hc (by simp [z])) e⟩) (fun _ _ _ _ n=>n)
  (fun b o hc e=>⟨o,k b o (fun z=>hc (by simp [z])) e⟩) (fun _ _ e=>e) (fun _ _ _ e=>e) (fun b ps e=>⟨#[],by rw [e];simp⟩) (fun m hm=>?_) (fun b u e=>?_) I.bare
 ·have e:b=it:=by simpa using hb
  subst e
  exact ⟨h1,hL,h2,h3⟩
 ·obtain ⟨o,es,ep,ho,r⟩:=hm
  exact ⟨o,es,ep,k _ o (Ne.symm hL) ho,r⟩
 ·refine (I.hok b u e).stay (fun c v hc q=>k c v ?_ q) (fun _ q=>q) fun _ _ q=>q
  rcases hc with z | z
  ·rw [z];exact nit b u e
  ·exact nit c _ z
theorem Inv.tok (I:Inv X pins σ H s) (t:Nat):Inv X pins σ H { s with toks:=t }:=I.un (h':=s.heap) (t':=t) Un.refl I.hok
theorem Inv.kept {t':Nat} (I:Inv X pins σ H s) (k:∀b u,s.heap.get? b=some u→h'.get? b=some u):Inv X pins σ H { s with heap:=h',toks:=t' }:=I.un (Un.kept k) (I.hok.kept k)
theorem Inv.laid {a:Addr} {o:HO} {t':Nat} (I:Inv X pins σ H s) (k:∀b u,s.heap.get? b=some u→h'.get? b=some u) (hp:s.heap.objs.size≤a) (new:ObjOk X.prog X.w (upd H a o) h' a o) :
 Inv X pins σ (upd H a o) { s with heap:=h',toks:=t' }:=I.un (Un.laid k hp (I.hok.fresh hp)) (I.hok.laid k hp new)
theorem Inv.write {x e:Addr} {o:HO} {t':Nat} (I:Inv X pins σ H s) (mu:Mut (H x)) (he:e=x∨H e=some (.own x)) (k:∀b u,b≠e→s.heap.get? b=some u→h'.get? b=some u) (heo:∃u,h'.get? e=some u)
 (new:ObjOk X.prog X.w (upd H x o) h' x o):Inv X pins σ (upd H x o) { s with heap:=h',toks:=t' }:=I.un (Un.write mu he k heo) (I.hok.write mu he k heo new)
theorem Inv.pins_of {pins':List (Addr×Obj)} (I:Inv X pins σ H s) (h:∀p∈pins',s.heap.get? p.1=some p.2∧H p.1=none∧p.1≠X.env.locals∧p.1∉X.fs∧∀v,p.2.data≠.cell v):Inv X pins' σ H s:=
 ⟨I.ok,I.os,I.bare,I.base,I.loc,I.cell,I.free,I.freeC,fun p hp=>(List.mem_append.mp hp).elim (fun z=>I.pin p (List.mem_append_left _ z)) (h p),I.hok,I.len⟩
theorem HH {N:List Str} (hN:N.Nodup) {i j:Nat} {x:Str} (a:N[i]?=some x) (b:N[j]?=some x):i=j:=by
 obtain ⟨h1,e1⟩:=List.getElem?_eq_some_iff.mp a
 obtain ⟨h2,e2⟩:=List.getElem?_eq_some_iff.mp b
 exact (List.getElem_inj hN).mp (e1.trans e2.symm)
theorem J4 {M:Model} {A:Around} {E:Value→Shared→Prop} {i:Nat} {x:Str} {v:V} {u:Value} {Q:Unit→Shared→Prop} (I:Inv X pins σ H s) (hN:X.N.Nodup) (hi:X.N[i]?=some x) (hx:Loc X.env.scope x) (r:RelV v u)
 (h:∀s',Inv X pins (σ.set i (some v)) H s'→(∃a,Heap.SameBut a s.heap s'.heap∧(a=X.env.locals∨X.env.cells.lookup x=some a))→Q () s') (hf:X.fn x=true∨X.env.scope.names.lookup x=some .local:=by first | exact .inl rfl | exact .inr rfl | assumption):wpAny M A (storeName X.env x u) Q E s:=by
 obtain ⟨m,hn,hl⟩:=id I.loc
 have hcls:(X.env.scope.kind == .class || (X.env.scope.kind == .module && X.env.locals != X.env.globals))=false:=by rw [I.ok.kind];rfl
 have hiσ:i < σ.length:=by rw [I.len];exact (List.getElem?_eq_some_iff.mp hi).1
 have cne:=I.cne
 have tracked:∀{a:Addr} {h':Heap},(∃o,s.heap.get? a=some o∧H a=none)→Heap.SameBut a s.heap h'→HOk X.prog X.w H h':=fun {a h'} ha hs b ob e=>by
  obtain ⟨_,_,hfree⟩:=ha
  refine (I.hok b ob e).stay (fun c w' hc q=>(hs.2 c ?_).trans q) (fun _ q=>q) fun _ _ q=>q
  rintro rfl
  rcases hc with rfl | hc
  ·rw [hfree] at e;cases e
  ·rw [hfree] at hc;cases hc
 rcases hx with hk | hk
 ·refine wpAny_storeName_local hk hn (fun h' hn' hs=>?_) hcls
  obtain ⟨oL,_,_,hoL,_⟩:=id hn
  refine h _ ⟨I.ok,I.os,I.bare,⟨fun b o e n hb hx=>?_,fun b o e n hb hx=>?_,I.base.free,fun b o e hx=>?_,I.base.tups,I.base.frzs,I.base.tbls⟩,⟨_,hn',fun j y v' e1 e2 e3=>?_⟩,fun y c e=>?_,I.free,I.freeC,fun p hp=>?_,tracked ⟨oL,hoL,I.free⟩ hs,by simpa using I.len⟩ ⟨_,hs,.inl rfl⟩
  ·exact (hs.2 b (Nat.ne_of_lt (Nat.lt_of_lt_of_le (Heap.lt_size e) I.ok.above))).trans (I.base.keep b o e n hb hx)
  ·obtain ⟨sl,e1⟩:=I.base.slot b o e n hb hx
   exact ⟨sl,(hs.2 b (Nat.ne_of_lt (Nat.lt_of_lt_of_le (Heap.lt_size e) I.ok.above))).trans e1⟩
  ·obtain ⟨o',e1⟩:=I.base.there b o e hx
   exact ⟨o',(hs.2 b (Nat.ne_of_lt (Nat.lt_of_lt_of_le (Heap.lt_size e) I.ok.above))).trans e1⟩
  ·by_cases hj:j=i
   ·subst hj
    rw [hi] at e1;cases e1
    rw [List.getElem?_set_self hiσ] at e2
    cases e2
    exact ⟨u,r,.inl ⟨hk,by simp⟩⟩
   ·rw [List.getElem?_set_ne (Ne.symm hj)] at e2
    obtain ⟨u',r',q⟩:=hl j y v' e1 e2 e3
    refine ⟨u',r',?_⟩
    rcases q with ⟨k,e⟩ | ⟨k,c,e,z⟩
    ·refine .inl ⟨k,?_⟩
     have:y≠x:=fun e=>hj (HH hN e1 (e ▸ hi))
     simp [this,e]
    ·exact .inr ⟨k,c,e,z.sameBut hs (cne y c e)⟩
  ·obtain ⟨w',z⟩:=I.cell y c e
   exact ⟨w',z.sameBut hs (cne y c e)⟩
  ·obtain ⟨e,n,ne,nf,d⟩:=I.pin p hp
   exact ⟨(hs.2 p.1 ne).trans e,n,ne,nf,d⟩
 ·have hfn:X.fn x=true:=by
   rcases hf with z | z
   ·exact z
   ·rw [z] at hk;cases hk
  obtain ⟨c,hc⟩:=I.ok.has x (.inl hk)
  obtain ⟨w',z⟩:=I.cell x c hc
  refine wpAny_storeName_cell I.ok.kind hk hc z (fun h' hc' hs=>?_)
  obtain ⟨oc,hoc,hocd⟩:=id z
  refine h { s with heap:=h' } ⟨I.ok,I.os,I.bare,⟨fun b o e n hb hx=>?_,fun b o e n hb hx=>?_,I.base.free,fun b o e hx=>?_,I.base.tups,I.base.frzs,I.base.tbls⟩,⟨m,hn.sameBut hs (Ne.symm (cne x c hc)),fun j y v' e1 e2 e3=>?_⟩,fun y c' e=>?_,I.free,I.freeC,fun p hp=>?_,tracked ⟨oc,hoc,I.freeC x c hc⟩ hs,by simpa using I.len⟩ ⟨c,hs,.inr hc⟩
  ·exact (hs.2 b (Nat.ne_of_lt (Nat.lt_of_lt_of_le (Heap.lt_size e) (I.ok.cab x c hfn hc)))).trans (I.base.keep b o e n hb hx)
  ·obtain ⟨sl,e1⟩:=I.base.slot b o e n hb hx
   exact ⟨sl,(hs.2 b (Nat.ne_of_lt (Nat.lt_of_lt_of_le (Heap.lt_size e) (I.ok.cab x c hfn hc)))).trans e1⟩
  ·obtain ⟨o',e1⟩:=I.base.there b o e hx
   exact ⟨o',(hs.2 b (Nat.ne_of_lt (Nat.lt_of_lt_of_le (Heap.lt_size e) (I.ok.cab x c hfn hc)))).trans e1⟩
  ·by_cases hj:j=i
   ·subst hj
    rw [hi] at e1;cases e1
    rw [List.getElem?_set_self hiσ] at e2
    cases e2
    exact ⟨u,r,.inr ⟨.inl hk,c,hc,hc'⟩⟩
   ·rw [List.getElem?_set_ne (Ne.symm hj)] at e2
    obtain ⟨u',r',q⟩:=hl j y v' e1 e2 e3
    refine ⟨u',r',?_⟩
    rcases q with q | ⟨k,c',e,z'⟩
    ·exact .inl q
    ·refine .inr ⟨k,c',e,z'.sameBut hs ?_⟩
     rintro rfl
     exact hj (HH hN e1 (I.ok.inj _ _ _ e hc ▸ hi))
  ·by_cases hcc:c'=c
   ·subst hcc;exact ⟨_,hc'⟩
   ·obtain ⟨w2,z2⟩:=I.cell y c' e
    exact ⟨w2,z2.sameBut hs hcc⟩
  ·obtain ⟨e,n,ne,nf,d⟩:=I.pin p hp
   refine ⟨(hs.2 p.1 ?_).trans e,n,ne,nf,d⟩
   intro q
   rw [q,hoc] at e
   have q':oc=p.2:=Option.some.inj e
   exact d w' (by rw [←q'];exact hocd)
theorem Gq {M:Model} {A:Around} {E:Value→Shared→Prop} {i:Nat} {x:Str} {v:V} {u:Value} {Q:Unit→Shared→Prop} (I:Inv X pins σ H s) (hN:X.N.Nodup) (hi:X.N[i]?=some x) (hx:Loc X.env.scope x) (r:RelV v u)
 (h:∀s',Inv X pins (σ.set i (some v)) H s'→Q () s') (hf:X.fn x=true∨X.env.scope.names.lookup x=some .local:=by first | exact .inl rfl | exact .inr rfl | assumption):wpAny M A (storeName X.env x u) Q E s:=
 J4 I hN hi hx r (fun s' I' _=>h s' I') hf
theorem Inv.call' {s':Shared} {ch:List Addr} (I:Inv X pins σ H s) (ho:s'.os=s.os) (u:Un (frs X.stack) ch H H' s.heap s'.heap) (hok:HOk X.prog X.w H' s'.heap) (hg:AllBare s'.gens)
 (hch:∀b∈ch,(b∈X.ex∨X.s₀.heap.objs.size≤b)∧b≠X.env.locals∧(∀x c,X.env.cells.lookup x=some c→c≠b)∧∀p∈X.pn++pins,p.1≠b):Inv X pins σ H' s':=by
 obtain ⟨h',g',d',t',o'⟩:=s'
 have e:o'=s.os:=ho
 subst e
 exact I.call (g':=g') (t':=t') (d':=d') u hok hg hch
end
abbrev XK:=Value→Option Addr→Hp→Prop
abbrev St:=List (Option V)
abbrev VK:=V→Hp→Prop
abbrev TE:=St→Hp→VK→Prop
abbrev TT:=St→Hp→(Bool→Hp→Prop)→Prop
abbrev TA:=St→Hp→(List V→Hp→Prop)→Prop
structure Ends where
 nx:St→Hp→Prop
 rt:VK
 bk:St→Hp→Prop:=fun _ _=>False
 ct:St→Hp→Prop:=fun _ _=>False
abbrev TS:=Ends→St→Hp→Prop
def EP (X:Cx) (pins:List (Addr×Obj)) (σ:St) (Q:VK) (u:Value) (s':Shared):Prop:=∃v H',Inv X pins σ H' s'∧RelV v u∧Q v H'
def TP (X:Cx) (pins:List (Addr×Obj)) (σ:St) (Q:Bool→Hp→Prop) (b:Bool) (s':Shared):Prop:=∃H',Inv X pins σ H' s'∧Q b H'
def AP (X:Cx) (pins:List (Addr×Obj)) (σ:St) (Q:List V→Hp→Prop) (us:List Value) (s':Shared):Prop:=∃vs H',Inv X pins σ H' s'∧Vals vs us∧Q vs H'
def SP (X:Cx) (pins:List (Addr×Obj)) (D:Ends) (f:Flow) (s':Shared):Prop:=
 match f with
 | .next=>∃σ' H',Inv X pins σ' H' s'∧D.nx σ' H'
 | .brk=>∃σ' H',Inv X pins σ' H' s'∧D.bk σ' H'
 | .cont=>∃σ' H',Inv X pins σ' H' s'∧D.ct σ' H'
 | .ret u=>∃v σ' H',Inv X pins σ' H' s'∧RelV v u∧D.rt v H'
def PE (X:Cx) (e:Expr) (t:TE):Prop:=
 ∀(pins:List (Addr×Obj)) (s:Shared) (σ:St) (H:Hp) (Q:VK),Inv X pins σ H s→t σ H Q→wpAny (model X.prog X.w) X.A (eval e X.env) (EP X pins σ Q) X.xe s
def PT (X:Cx) (e:Expr) (t:TT):Prop:=
 ∀(pins:List (Addr×Obj)) (s:Shared) (σ:St) (H:Hp) (Q:Bool→Hp→Prop),Inv X pins σ H s→t σ H Q→wpAny (model X.prog X.w) X.A (isTrue e X.env (eval e X.env)) (TP X pins σ Q) X.xe s
def PW (X:Cx) (e:Expr) (t:TT):Prop:=
 ∀(whole:Sem Value) (pins:List (Addr×Obj)) (s:Shared) (σ:St) (H:Hp) (Q:Bool→Hp→Prop),Inv X pins σ H s→t σ H Q→wpAny (model X.prog X.w) X.A (isTrue e X.env whole) (TP X pins σ Q) X.xe s
theorem PW.pt {X:Cx} {e:Expr} {t:TT} (h:PW X e t):PT X e t:=h _
def PA (X:Cx) (es:List Expr) (t:TA):Prop:=
 ∀(pos:Pos) (pins:List (Addr×Obj)) (s:Shared) (σ:St) (H:Hp) (Q:List V→Hp→Prop),Inv X pins σ H s→t σ H Q→wpAny (model X.prog X.w) X.A (spliced (backTo pos (starEach es X.env))) (AP X pins σ Q) X.xe s
def PS (X:Cx) (st:Stmt) (t:TS):Prop:=
 ∀(pins:List (Addr×Obj)) (s:Shared) (σ:St) (H:Hp) (D:Ends),Inv X pins σ H s→t D σ H→wpAny (model X.prog X.w) X.A (exec st X.env) (SP X pins D) X.xe s
def PSs (X:Cx) (st:List Stmt) (t:TS):Prop:=
 ∀(pins:List (Addr×Obj)) (s:Shared) (σ:St) (H:Hp) (D:Ends),Inv X pins σ H s→t D σ H→wpAny (model X.prog X.w) X.A (execs st X.env) (SP X pins D) X.xe s
theorem thn {α:Type} {t:Sem α} {Q Q':α→Shared→Prop} {M:Model} {A:Around} {E:Value→Shared→Prop} {s:Shared} (h:wpAny M A t Q E s) (hQ:∀a s,Q a s→Q' a s):wpAny M A t Q' E s:=wpAny_mono h hQ fun _ _ x=>x
section
variable {X:Cx}
def TR (i:Nat):TE:=fun σ H Q=>∃v,σ[i]?=some (some v)∧Q v H
def tC (v:V):TE:=fun _ H Q=>Q v H
theorem DQ {i:Nat} {x:Str} {pos:Pos} (hN:X.N[i]?=some x) (hv:Vis X.env.scope x) (hd:(x == ("__debug__" : Str))=false:=by decide) (hcd:(x == ("__classdict__" : Str))=false:=by decide):PE X (.Name x pos) (TR i):=by
 intro pins s σ H Q I h
 obtain ⟨v,e,h⟩:=h
 obtain ⟨m,hn,hl⟩:=I.loc
 obtain ⟨u,r,l⟩:=hl i x v hN e hv
 have fin:EP X pins σ Q u s:=⟨v,H,I,r,h⟩
 rcases l with ⟨hk,hm⟩ | ⟨hk,c,hc,hcell⟩
 ·exact wpAny_Name (wpAny_loadName_local I.ok.kind hk hn hm fin) hd
 ·rcases hk with hk | hk
  ·exact wpAny_Name (wpAny_loadName_cell I.ok.kind hk hc hcell fin) hd
  ·exact wpAny_Name (wpAny_loadName_free I.ok.kind hk hc hcell fin hcd) hd
theorem ST {i j pos}:PE X (.Constant (.int i) j pos) (tC (.int i)):=fun _ _ _ H _ I h=>wpAny_Constant_int ⟨.int i,H,I.tok _,⟨_,rfl⟩,h⟩
theorem Up {b j pos}:PE X (.Constant (.bool b) j pos) (tC (.bl b)):=fun _ _ _ H _ I h=>Constant_bool ⟨.bl b,H,I,rfl,h⟩
theorem SV {j pos}:PE X (.Constant .none j pos) (tC .non):=fun _ _ _ H _ I h=>Constant_none ⟨.non,H,I,rfl,h⟩
theorem SZ {x j pos}:PE X (.Constant (.str x) j pos) (tC (.str x)):=fun _ _ _ H _ I h=>Calls.Constant_str ⟨.str x,H,I.tok _,⟨_,rfl⟩,h⟩
def Gl (X:Cx) (x:Str):Prop:=X.env.kindOf x=some .globalImplicit
theorem E5 {E:Value→Shared→Prop} {pins:List (Addr×Obj)} {s:Shared} {σ:St} {H:Hp} {x:Str} {u:Value} {pos:Pos} {Q:Value→Shared→Prop} (I:Inv X pins σ H s) (hg:Gl X x) (hm:X.mg x=some u) (h:Q u s)
 (hd:(x == ("__debug__" : Str))=false:=by decide):wpAny (model X.prog X.w) X.A (eval (.Name x pos) X.env) Q E s:=
 Calls.Name_function_global I.ok.kind hg (Calls.loadGlobal_global (by rw [I.ok.glob];exact I.mod.glob.keeps I.bk) hm h) hd
theorem FS {E:Value→Shared→Prop} {pins:List (Addr×Obj)} {s:Shared} {σ:St} {H:Hp} {x:Str} {u:Value} {pos:Pos} {Q:Value→Shared→Prop} (I:Inv X pins σ H s) (hg:Gl X x) (hm:X.mg x=none) (hv:bootBuiltins x=some u) (h:Q u s)
 (hn:x≠"__name__":=by decide) (hd:(x == ("__debug__" : Str))=false:=by decide):wpAny (model X.prog X.w) X.A (eval (.Name x pos) X.env) Q E s:=by
 obtain ⟨mb,h1,h2⟩:=I.mod.blt
 exact Calls.Name_function_global I.ok.kind hg (Calls.loadGlobal_builtin (by rw [I.ok.glob];exact I.mod.glob.keeps I.bk) hm (by rw [I.ok.blt];exact h1.keeps I.bk) ((h2 x hn).trans hv) h) hd
theorem G9 {x:Str} {v:V} {u:Value} {pos:Pos} (hg:Gl X x) (hm:X.mg x=some u) (r:RelV v u) (hd:(x == ("__debug__" : Str))=false:=by decide):PE X (.Name x pos) (tC v):=
 fun _ _ _ H _ I h=>E5 I hg hm ⟨v,H,I,r,h⟩ hd
theorem My {x:Str} {v:V} {u:Value} {pos:Pos} (hg:Gl X x) (hm:X.mg x=none) (hv:bootBuiltins x=some u) (r:RelV v u) (hn:x≠"__name__":=by decide) (hd:(x == ("__debug__" : Str))=false:=by decide):PE X (.Name x pos) (tC v):=
 fun _ _ _ H _ I h=>FS I hg hm hv ⟨v,H,I,r,h⟩ hn hd
variable {a b:Expr} {ta tb:TE} {pos:Pos}
def tB (t:TE):TT:=fun σ H Q=>t σ H fun x H1=>∃c,x = .bl c∧Q c H1
theorem Th {e:Expr} {t:TE} (h:PE X e t) (he:∀whole,isTrue e X.env whole=(do let v ←whole;standAt e.pos;holding [v] (truthy v)):=by intro _;rfl):PT X e (tB t):=by
 intro pins s σ H Q I hw
 refine isTrue_plain (thn (h pins s σ H _ I hw) fun v s1 ⟨x,H1,I1,r1,q1⟩=>?_) (he _)
 obtain ⟨d,rfl,q⟩:=q1
 cases r1
 exact wpAny_truthy_bool ⟨H1,I1,q⟩
variable {tA tB':TT} {rest:List Expr}
def VH (t u:TT):TT:=fun σ H Q=>t σ H fun c H1=>if c=true then u σ H1 Q else Q false H1
def tOr (t u:TT):TT:=fun σ H Q=>t σ H fun c H1=>if c=true then Q true H1 else u σ H1 Q
def VM (t:TT):TT:=fun σ H Q=>t σ H fun c H1=>Q (!c) H1
theorem Rq (ha:PT X a tA):PW X (.BoolOp .And [a] pos) tA:=by
 intro wh pins s σ H Q I h
 refine isTrue_and (thn (ha pins s σ H Q I h) fun c s1 e=>?_)
 cases c with
 | true=>exact isTrue_and_nil e
 | false=>exact e
theorem Tk (ha:PT X a tA):PW X (.BoolOp .Or [a] pos) tA:=by
 intro wh pins s σ H Q I h
 refine isTrue_or (thn (ha pins s σ H Q I h) fun c s1 e=>?_)
 cases c with
 | false=>exact isTrue_or_nil e
 | true=>exact e
theorem Tj (ha:PT X a tA) (hb:PW X (.BoolOp .And (b :: rest) pos) tB'):PW X (.BoolOp .And (a :: b :: rest) pos) (VH tA tB'):=by
 intro wh pins s σ H Q I h
 refine isTrue_and (thn (ha pins s σ H _ I h) fun c s1 ⟨H1,I1,q1⟩=>?_)
 cases c with
 | true=>exact hb wh pins s1 σ H1 Q I1 q1
 | false=>exact ⟨H1,I1,q1⟩
theorem Uv (ha:PT X a tA) (hb:PW X (.BoolOp .Or (b :: rest) pos) tB'):PW X (.BoolOp .Or (a :: b :: rest) pos) (tOr tA tB'):=by
 intro wh pins s σ H Q I h
 refine isTrue_or (thn (ha pins s σ H _ I h) fun c s1 ⟨H1,I1,q1⟩=>?_)
 cases c with
 | true=>exact ⟨H1,I1,q1⟩
 | false=>exact hb wh pins s1 σ H1 Q I1 q1
theorem Tg (ha:PT X a tA):PT X (.UnaryOp .Not a pos) (VM tA):=by
 intro pins s σ H Q I h
 exact isTrue_not (ha pins s σ H (fun c H1=>Q (!c) H1) I h)
def UA (ta tb:TE):TE:=fun σ H Q=>ta σ H fun x H1=>∃c,x = .bl c∧if c=true then tb σ H1 Q else Q (.bl false) H1
def UD (ta:TE):TE:=fun σ H Q=>ta σ H fun x H1=>∃c,x = .bl c∧Q (.bl (!c)) H1
theorem SY {op} {t:TE} (h:PE X a t):PE X (.BoolOp op [a] pos) t:=fun pins s σ H Q I hw=>BoolOp_one (h pins s σ H Q I hw)
theorem SS (ha:PE X a ta) (hb:PE X (.BoolOp .And (b :: rest) pos) tb):PE X (.BoolOp .And (a :: b :: rest) pos) (UA ta tb):=by
 intro pins s σ H Q I h
 refine BoolOp_and (thn (ha pins s σ H _ I h) fun v s1 ⟨x,H1,I1,r1,q1⟩=>?_)
 obtain ⟨c,rfl,q1⟩:=q1
 cases r1
 refine wpAny_truthy_bool ?_
 cases c with
 | true=>exact hb pins s1 σ H1 Q I1 q1
 | false=>exact ⟨.bl false,H1,I1,rfl,q1⟩
theorem SW (ha:PE X a ta):PE X (.UnaryOp .Not a pos) (UD ta):=by
 intro pins s σ H Q I h
 refine UnaryOp_ (thn (ha pins s σ H _ I h) fun v s1 ⟨x,H1,I1,r1,q1⟩=>?_)
 obtain ⟨c,rfl,q1⟩:=q1
 cases r1
 exact not_of (wpAny_truthy_bool ⟨.bl (!c),H1,I1,rfl,q1⟩)
end
def SqL (K:PySem.W.Frag) (H:Hp) (a:Addr) (xs:List V):Prop:=
 Rd H a (.lst xs)∨
  ∃(o:Obj) (its:Array Value) (n:Nat),K.lookup a=some o∧o.cls = .type "list"∧o.dict=none∧o.data = .seq its n∧its.size≤sizeLine∧Vals xs its.toList
def SqT (K:PySem.W.Frag) (H:Hp) (a:Addr) (xs:List V):Prop:=
 Rd H a (.tup xs)∨
  ∃(o:Obj) (its:Array Value) (n:Nat),K.lookup a=some o∧o.cls = .type "tuple"∧o.data = .seq its n∧its.size≤sizeLine∧Vals xs its.toList
def Vr:Value→Option V
 | .none=>some .non
 | .bool b=>some (.bl b)
 | .int i _=>some (.int i)
 | .str x _=>some (.str x)
 | .bytes b _=>some (.byt b)
 | .float b _=>some (.flt b)
 | .ref a=>some (.ref a)
 | .type n=>some (.ty n)
 | _=>none
theorem RelV.abs {x:V} {u:Value} (r:RelV x u):Vr u=some x:=by
 cases x with
 | non=>cases r;rfl
 | bl _=>cases r;rfl
 | int _=>obtain ⟨t,rfl⟩:=r;rfl
 | str _=>obtain ⟨t,rfl⟩:=r;rfl
 | byt _=>obtain ⟨t,rfl⟩:=r;rfl
 | flt _=>obtain ⟨t,rfl⟩:=r;rfl
 | ref _=>cases r;rfl
 | ty _=>cases r;rfl
theorem RelV.inj {x y:V} {u:Value} (r:RelV x u) (q:RelV y u):x=y:=Option.some.inj (r.abs.symm.trans q.abs)
theorem Vals.inj:∀{xs ys:List V} {us:List Value},Vals xs us→Vals ys us→xs=ys
 | _,_,_,.nil,.nil=>rfl
 | _,_,_,.cons r t,.cons r' t'=>by rw [r.inj r',Vals.inj t t']
section
variable {X:Cx} {pins:List (Addr×Obj)} {σ:St} {H:Hp} {s:Shared} {a:Addr} {xs ys:List V}
theorem SqL.of {K:PySem.W.Frag} (h:H a=some (.lst xs)):SqL K H a xs:=.inl (.inl h)
theorem SqT.of {K:PySem.W.Frag} (h:H a=some (.tup xs)):SqT K H a xs:=.inl (.inl h)
theorem Inv.list (I:Inv X pins σ H s) (h:SqL X.K H a xs):∃its:List Value,Vals xs its∧PlainL s.heap a its.toArray∧xs.length≤sizeLine:=by
 rcases h with h | ⟨o,its,n,hk,hc,hd,hs,hz,r⟩
 ·obtain ⟨z,its,n,r,e⟩:=h.ok I.hok
  exact ⟨its,r,⟨_,n,e,rfl,rfl,rfl⟩,z⟩
 ·refine ⟨its.toList,r,⟨o,n,I.kIn a o hk,hc,hd,by simpa using hs⟩,?_⟩
  have e:=r.length
  simp only [Array.length_toList] at e
  lia
theorem Inv.tuple (I:Inv X pins σ H s) (h:SqT X.K H a xs):∃its:List Value,Vals xs its∧IsTup s.heap a its.toArray∧xs.length≤sizeLine:=by
 rcases h with h | ⟨o,its,n,hk,hc,hs,hz,r⟩
 ·obtain ⟨z,its,r,p⟩:=h.ok I.hok
  exact ⟨its,r,p,z⟩
 ·refine ⟨its.toList,r,⟨o,I.kIn a o hk,hc,n,by simpa using hs⟩,?_⟩
  have e:=r.length
  simp only [Array.length_toList] at e
  lia
theorem Inv.list_inj (I:Inv X pins σ H s) (h:SqL X.K H a xs) (h':SqL X.K H a ys):xs=ys:=by
 obtain ⟨its,r,⟨o,n,e,_,_,d⟩,_⟩:=I.list h
 obtain ⟨its',r',⟨o',n',e',_,_,d'⟩,_⟩:=I.list h'
 rw [e] at e';cases e'
 rw [d] at d'
 injection d' with d1 _
 have:its=its':=by simpa using congrArg Array.toList d1
 subst this
 exact r.inj r'
theorem Inv.tuple_inj (I:Inv X pins σ H s) (h:SqT X.K H a xs) (h':SqT X.K H a ys):xs=ys:=by
 obtain ⟨its,r,⟨o,e,_,n,d⟩,_⟩:=I.tuple h
 obtain ⟨its',r',⟨o',e',_,n',d'⟩,_⟩:=I.tuple h'
 rw [e] at e';cases e'
 rw [d] at d'
 injection d' with d1 _
 have:its=its':=by simpa using congrArg Array.toList d1
 subst this
 exact r.inj r'
end
abbrev Cx.wish (X:Cx) (E:Value→Shared→Prop):Cx:={ X with xe:=E }
abbrev Cx.nox (X:Cx):Cx:=X.wish fun _ _=>False
theorem Cx.Ok.wish {X:Cx} (ok:X.Ok) (E:Value→Shared→Prop):(X.wish E).Ok:=
 ⟨ok.mod,ok.kind,ok.glob,ok.blt,ok.above,ok.inj,ok.has,ok.cab,ok.hd,ok.frames,ok.stk,ok.exf,ok.bs,ok.bsz,ok.noex,ok.exfs,ok.funs,ok.frf⟩
theorem Cx.Ok.unwish {X:Cx} {E:Value→Shared→Prop} (ok:(X.wish E).Ok):X.Ok:=
 ⟨ok.mod,ok.kind,ok.glob,ok.blt,ok.above,ok.inj,ok.has,ok.cab,ok.hd,ok.frames,ok.stk,ok.exf,ok.bs,ok.bsz,ok.noex,ok.exfs,ok.funs,ok.frf⟩
section
variable {X:Cx} {pins:List (Addr×Obj)} {σ:St} {H:Hp} {s:Shared} {E:Value→Shared→Prop}
theorem Inv.wish (I:Inv X pins σ H s) (E:Value→Shared→Prop):Inv (X.wish E) pins σ H s:=⟨I.ok.wish E,I.os,I.bare,I.base,I.loc,I.cell,I.free,I.freeC,I.pin,I.hok,I.len⟩
theorem Inv.unwish (I:Inv (X.wish E) pins σ H s):Inv X pins σ H s:=⟨I.ok.unwish,I.os,I.bare,I.base,I.loc,I.cell,I.free,I.freeC,I.pin,I.hok,I.len⟩
theorem SP.unwish {D:Ends} {f:Flow} {s':Shared} (h:SP (X.wish E) pins D f s'):SP X pins D f s':=by
 cases f with
 | next=>obtain ⟨σ',H',I,q⟩:=h;exact ⟨σ',H',I.unwish,q⟩
 | brk=>obtain ⟨σ',H',I,q⟩:=h;exact ⟨σ',H',I.unwish,q⟩
 | cont=>obtain ⟨σ',H',I,q⟩:=h;exact ⟨σ',H',I.unwish,q⟩
 | ret u=>obtain ⟨v,σ',H',I,r,q⟩:=h;exact ⟨v,σ',H',I.unwish,r,q⟩
theorem PSs.nox {st:List Stmt} {t:TS} (h:PSs X.nox st t):PSs X st t:=fun pins s σ H D I hw=>
 wpAny_mono (h pins s σ H D (I.wish _) hw) (fun _ _ q=>q.unwish) fun _ _ z=>False.elim z
end
section
variable {X:Cx} {st:Stmt} {rest:List Stmt} {t u:TS} {e:Expr} {te:TE} {pos:Pos}
def UC:TS:=fun D σ H=>D.nx σ H
def VO (t u:TS):TS:=fun D σ H=>t { D with nx:=u D } σ H
theorem Ro:PSs X [] UC:=fun _ _ σ H _ I h=>wpAny_execs_nil ⟨σ,H,I,h⟩
theorem Lq (h1:PS X st t) (h2:PSs X rest u):PSs X (st :: rest) (VO t u):=by
 intro pins s σ H D I h
 refine wpAny_execs_cons (thn (h1 pins s σ H { D with nx:=u D } I h) fun f s1 q=>?_)
 cases f with
 | next=>
   obtain ⟨σ',H',I',q⟩:=q
   exact h2 pins s1 σ' H' D I' q
 | ret v=>exact q
 | brk=>exact q
 | cont=>exact q
theorem Jq (h1:PS X st t):PSs X [st] t:=by
 intro pins s σ H D I h
 refine wpAny_execs_cons (thn (h1 pins s σ H D I h) fun f s1 q=>?_)
 cases f with
 | next=>exact wpAny_execs_nil q
 | ret v=>exact q
 | brk=>exact q
 | cont=>exact q
theorem Inv.quiet {pins:List (Addr×Obj)} {σ:St} {H:Hp} {s:Shared} (I:Inv X pins σ H s):interactive X.env=false:=by simp [interactive,I.ok.kind]
def Qr (te:TE):TS:=fun D σ H=>te σ H fun _ H1=>D.nx σ H1
theorem MB (he:PE X e te) (hs:swapsWith e none pos.line X.env=pure false:=by rfl):PS X (.Expr e pos) (Qr te):=by
 intro pins s σ H D I h
 exact wpAny_Expr_any (thn (he pins s σ H _ I h) fun v s1 ⟨x,H1,I1,r1,q1⟩=>⟨σ,H1,I1,q1⟩) I.quiet hs
def VN (te:TE):TS:=fun D σ H=>te σ H D.rt
theorem GS (he:PE X e te):PS X (.Return (some e) pos) (VN te):=by
 intro pins s σ H D I h
 exact wpAny_Return_some (thn (he pins s σ H _ I h) fun v s1 ⟨x,H1,I1,r1,q1⟩=>⟨x,σ,H1,I1,r1,q1⟩)
def VJ (c:TT) (t u:TS):TS:=fun D σ H=>c σ H fun b H1=>if b=true then t D σ H1 else u D σ H1
theorem Ut {c:Expr} {a b:List Stmt} {tc:TT} (hc:PT X c tc) (ha:PSs X a t) (hb:PSs X b u):PS X (.If c a b pos) (VJ tc t u):=by
 intro pins s σ H D I h
 refine wpAny_If (thn (hc pins s σ H _ I h) fun d s1 ⟨H1,I1,q1⟩=>?_)
 cases d with
 | true=>exact ha pins s1 σ H1 D I1 q1
 | false=>exact hb pins s1 σ H1 D I1 q1
end
abbrev TG:=V→St→Hp→(St→Hp→Prop)→Prop
abbrev TGs:=List V→St→Hp→(St→Hp→Prop)→Prop
def PG (X:Cx) (target:Expr) (t:TG):Prop:=
 ∀(pins:List (Addr×Obj)) (s:Shared) (σ:St) (H:Hp) (v:V) (u:Value) (Q:St→Hp→Prop),Inv X pins σ H s→RelV v u→t v σ H Q→
  wpAny (model X.prog X.w) X.A (assign target X.env u) (fun _ s'=>∃σ' H',Inv X pins σ' H' s'∧Q σ' H') X.xe s
def PGs (X:Cx) (ts:List Expr) (t:TGs):Prop:=
 ∀(pins:List (Addr×Obj)) (s:Shared) (σ:St) (H:Hp) (vs:List V) (us:List Value) (Q:St→Hp→Prop),Inv X pins σ H s→Vals vs us→t vs σ H Q→
  wpAny (model X.prog X.w) X.A (assignInOrder ((assignEach ts X.env).map (·.2)) us) (fun _ s'=>∃σ' H',Inv X pins σ' H' s'∧Q σ' H') X.xe s
abbrev OM:=V→V→V→Hp→(Hp→Prop)→Prop
def Sa (X:Cx) (t:OM):Prop:=
 ∀(pins:List (Addr×Obj)) (s:Shared) (σ:St) (H:Hp) (o i v:V) (ov iv u:Value) (Q:Hp→Prop),Inv X pins σ H s→RelV o ov→RelV i iv→RelV v u→t o i v H Q→
  wpAny (model X.prog X.w) X.A (setItem ov iv u) (fun _ s'=>∃H',Inv X pins σ H' s'∧Q H') X.xe s
section
variable {X:Cx} {pos:Pos}
def Iz (i:Nat):TG:=fun v σ H Q=>Q (σ.set i (some v)) H
theorem Rg {i:Nat} {x:Str} (hN:X.N.Nodup) (hi:X.N[i]?=some x) (hx:Loc X.env.scope x) (hf:X.fn x=true∨X.env.scope.names.lookup x=some .local:=by first | exact .inl rfl | exact .inr rfl | assumption):PG X (.Name x pos) (Iz i):=by
 intro pins s σ H v u Q I r h
 exact wpAny_assign_Name (Gq I hN hi hx r (fun s' I'=>⟨_,H,I',h⟩) hf)
def Vz:TGs:=fun vs σ H Q=>vs=[]∧Q σ H
def Qe (t:TG) (u:TGs):TGs:=fun vs σ H Q=>∃v r,vs=v :: r∧t v σ H fun σ' H'=>u r σ' H' Q
theorem Rh:PGs X [] Vz:=by
 intro pins s σ H vs us Q I r h
 obtain ⟨e,h⟩:=h
 subst e
 cases r
 exact assignInOrder_nil ⟨σ,H,I,h⟩
theorem Pl {e:Expr} {es:List Expr} {t:TG} {u:TGs} (h1:PG X e t) (h2:PGs X es u)
 (hs:(assignEach (e :: es) X.env).map (·.2)=assign e X.env :: (assignEach es X.env).map (·.2):=by rfl):PGs X (e :: es) (Qe t u):=by
 intro pins s σ H vs us Q I r h
 obtain ⟨v,vr,e1,h⟩:=h
 subst e1
 cases r with
 | cons r rr=>
   rw [hs]
   refine assignInOrder_cons (thn (h1 pins s σ H _ _ _ I r h) fun _ s1 ⟨σ1,H1,I1,q1⟩=>?_)
   exact h2 pins s1 σ1 H1 _ _ Q I1 rr q1
def VB (K:PySem.W.Frag) (n:Nat) (t:TGs):TG:=fun v σ H Q=>∃a xs,v = .ref a∧SqT K H a xs∧xs.length=n∧t xs σ H Q
theorem Ta {es:List Expr} {k:Nat} {t:TGs} {n:Nat} (hc:X.calm=true) (h:PGs X es t)
 (hn:(assignEach es X.env).length=n:=by rfl) (hst:(assignEach es X.env).findIdx? (·.1)=none:=by rfl):PG X (.Tuple es k pos) (VB X.K n t):=by
 intro pins s σ H v u Q I r hw
 obtain ⟨a,xs,e1,hq,hl,hw⟩:=hw
 subst e1
 cases r
 obtain ⟨its,rv,ht,hz⟩:=I.tuple hq
 refine assign_Tuple_tuple (I.ok.hd hc) ht (by simp [hn,←hl,rv.length]) hst fun h' hx=>?_
 have I1:Inv X pins σ H { s with heap:=h' }:=I.kept (t':=s.toks) fun b o e=>hx b o (Nat.ne_of_lt (Heap.lt_size e)) e
 exact h pins _ σ H xs _ Q I1 (by simpa using rv) hw
def VA (to ti:TE) (t:OM):TG:=fun v σ H Q=>to σ H fun o H1=>ti σ H1 fun i H2=>t o i v H2 fun H3=>Q σ H3
theorem Ol {o i:Expr} {to ti:TE} {t:OM} (ho:PE X o to) (hi:PE X i ti) (hs:Sa X t)
 (ha:∀v,assign (.Subscript o i pos) X.env v=(do
   let ov ←holding [v] (eval o X.env)
   let iv ←holding [v,ov] (eval i X.env)
   standAt pos
   holding [v,ov,iv] (setItem ov iv v)
   release [v,ov,iv] []):=by intro _;rfl):PG X (.Subscript o i pos) (VA to ti t):=by
 intro pins s σ H v u Q I r h
 rw [ha]
 refine wpAny_bind (wpAny_holding (thn (ho pins s σ H _ I h) fun ov s1 ⟨x,H1,I1,r1,q1⟩=>?_))
 refine wpAny_bind (wpAny_holding (thn (hi pins s1 σ H1 _ I1 q1) fun iv s2 ⟨y,H2,I2,r2,q2⟩=>?_))
 refine wpAny_bind (wpAny_standAt (wpAny_bind (wpAny_holding (thn (hs pins s2 σ H2 x y v ov iv u _ I2 r1 r2 r q2) fun _ s3 ⟨H3,I3,q3⟩=>?_))))
 exact wpAny_release ⟨σ,H3,I3,q3⟩
def LM (te:TE) (g:TG):TS:=fun D σ H=>te σ H fun x H1=>g x σ H1 D.nx
theorem Oq {tg e:Expr} {te:TE} {g:TG} (he:PE X e te) (hg:PG X tg g) (hs:swapsWithSole [tg] e pos.line X.env=pure false:=by rfl) (hw:swappedStores [tg] e X.env=pure none:=by rfl)
 (h1:(assignEach [tg] X.env).map (·.2)=[assign tg X.env]:=by rfl):PS X (.Assign [tg] e pos) (LM te g):=by
 intro pins s σ H D I h
 refine wpAny_Assign_stores (thn (he pins s σ H _ I h) fun v s1 ⟨x,H1,I1,r1,q1⟩=>?_) hs hw
 rw [h1]
 exact thn (hg pins s1 σ H1 x v _ I1 r1 q1) fun _ s2 q=>q
theorem Lp {i:Nat} {x:Str} {e:Expr} {te:TE} {pos':Pos} (hN:X.N.Nodup) (hi:X.N[i]?=some x) (hx:Loc X.env.scope x) (he:PE X e te) (hs:swapsWith e (some (.Name x pos')) pos.line X.env=pure false:=by rfl) (hf:X.fn x=true∨X.env.scope.names.lookup x=some .local:=by first | exact .inl rfl | exact .inr rfl | assumption) :
 PS X (.Assign [.Name x pos'] e pos) (LM te (Iz i)):=by
 intro pins s σ H D I h
 refine wpAny_Assign_Name (thn (he pins s σ H _ I h) fun v s1 ⟨y,H1,I1,r1,q1⟩=>?_) hs
 exact Gq I1 hN hi hx r1 (fun s2 I2=>⟨_,H1,I2,q1⟩) hf
end
section
variable {X:Cx} {pos:Pos}
def OC (c:TT) (tb:TS):TS:=fun D σ H=>∃W:Nat→St→Hp→Prop,(∃m,W m σ H)∧∀m σ H,W m σ H→
 c σ H fun b H1=>if b=true then ∃N:St→Hp→Prop,(∀σ' H',N σ' H'→∃m',m' < m∧W m' σ' H')∧tb { D with nx:=N,ct:=N,bk:=D.nx } σ H1 else D.nx σ H1
theorem Po {c:Expr} {body:List Stmt} {tc:TT} {tb:TS} (hp:PassesOwn (model X.prog X.w) X.A X.env X.xe) (hc:PT X c tc) (hb:PSs X body tb):PS X (.While c body [] pos) (OC tc tb):=by
 intro pins s σ H D I h
 obtain ⟨W,⟨m0,w0⟩,turn⟩:=h
 refine wpAny_While (codeAny_whileLoop (fun n s'=>∃σ' H',Inv X pins σ' H' s'∧W n σ' H') ?_ m0 ⟨σ,H,I,w0⟩)
 rintro n s1 ⟨σ1,H1,I1,w1⟩
 refine wpAny_passesOwn hp (thn (hc pins s1 σ1 H1 _ I1 (turn n σ1 H1 w1)) fun b s2 ⟨H2,I2,q2⟩=>?_)
 cases b with
 | true=>
   obtain ⟨N,hN,q2⟩:=q2
   rw [if_pos rfl]
   refine wpAny_passesOwn hp (thn (hb pins s2 σ1 H2 _ I2 q2) fun f s3 q3=>?_)
   cases f with
   | next=>
     obtain ⟨σ3,H3,I3,n3⟩:=q3
     obtain ⟨m',hm,w3⟩:=hN σ3 H3 n3
     exact ⟨m',hm,σ3,H3,I3,w3⟩
   | cont=>
     obtain ⟨σ3,H3,I3,n3⟩:=q3
     obtain ⟨m',hm,w3⟩:=hN σ3 H3 n3
     exact ⟨m',hm,σ3,H3,I3,w3⟩
   | brk=>exact q3
   | ret v=>exact q3
 | false=>
   rw [if_neg Bool.false_ne_true]
   exact wpAny_execs_nil ⟨σ1,H2,I2,q2⟩
end
structure It where
 go:Nat→Hp→Prop
 yld:Nat→Hp→V→Hp→Prop
 stop:Nat→Hp→Prop
def FpOk (X:Cx) (pins:List (Addr×Obj)) (H:Hp) (b:Addr):Prop:=
 H b=none∧b≠X.env.locals∧b∉X.fs∧(b∈X.ex∨X.s₀.heap.objs.size≤b)∧(∀x c,X.env.cells.lookup x=some c→c≠b)∧∀p∈X.pn++pins,p.1≠b
theorem Inv.fpOk {X:Cx} {pins:List (Addr×Obj)} {σ:St} {H H':Hp} {s:Shared} {b:Addr} (I:Inv X pins σ H s) (hb:s.heap.objs.size≤b) (hn:H' b=none):FpOk X pins H' b:=by
 refine ⟨hn,Nat.ne_of_gt (Nat.lt_of_lt_of_le I.lt hb),I.nofs hb,.inr (Nat.le_trans I.sz hb),fun x c e z=>?_,fun p hp z=>?_⟩
 ·obtain ⟨v,q⟩:=I.cell x c e
  exact absurd (Nat.lt_of_lt_of_le q.lt (by rw [z];exact hb)) (Nat.lt_irrefl _)
 ·exact absurd (Nat.lt_of_lt_of_le (Heap.lt_size (I.pin p hp).1) (by rw [z];exact hb)) (Nat.lt_irrefl _)
structure Turn (P:Program) (w:World) (K:PySem.W.Frag) (tg:Expr) (J:It) (fp:List Addr) (it:Addr) (tn:Nat→Heap→Prop):Prop where
 mem:it∈fp
 obj:∀i h,tn i h→∀b∈fp,∃o,h.get? b=some o∧∀v,o.data≠.cell v
 keep:∀i h h',tn i h→(∀b∈fp,∀o,h.get? b=some o→h'.get? b=some o)→tn i h'
 item:∀(X:Cx),X.prog=P→X.w=w→X.K=K→X.calm=true→∀(i:Nat) (pins:List (Addr×Obj)) (s:Shared) (σ:St) (H:Hp) (E:Value→Shared→Prop),Inv X pins σ H s→(∀b∈fp,FpOk X pins H b)→tn i s.heap→J.go i H→
  wpAny (model P w) X.A (pyNext (.ref it)) (fun r s1=>∃u,r=some u∧
   wpAny (model P w) X.A (letOwnedTupleGo tg (.ref it) u) (fun _ s2=>∃x H',Inv X pins σ H' s2∧RelV x u∧J.yld i H x H'∧tn (i + 1) s2.heap∧∀b∈fp,H' b=none) E s1) E s
 done:∀(X:Cx),X.prog=P→X.w=w→X.K=K→X.calm=true→∀(i:Nat) (pins:List (Addr×Obj)) (s:Shared) (σ:St) (H:Hp) (E:Value→Shared→Prop),Inv X pins σ H s→(∀b∈fp,FpOk X pins H b)→tn i s.heap→J.stop i H→
  wpAny (model P w) X.A (pyNext (.ref it)) (fun r s1=>r=none∧Inv X pins σ H s1) E s
 self:∀(A:Around) (i:Nat) (s:Shared) (Q:Value→Shared→Prop) (E:Value→Shared→Prop),tn i s.heap→Q (.ref it) s→wpAny (model P w) A (pyIter (.ref it)) Q E s
abbrev TI:=St→Hp→(It→Hp→Prop)→Prop
def PIE (X:Cx) (pins:List (Addr×Obj)) (σ:St) (tg:Expr) (R:It→Hp→Prop) (itv:Value) (s2:Shared):Prop:=
 ∃(it:Addr) (fp:List Addr) (tn:Nat→Heap→Prop) (J:It) (H':Hp),itv = .ref it∧Inv X pins σ H' s2∧Turn X.prog X.w X.K tg J fp it tn∧tn 0 s2.heap∧(∀b∈fp,FpOk X pins H' b)∧R J H'
def PI (X:Cx) (tg iter:Expr) (wi:TI):Prop:=
 ∀(pins:List (Addr×Obj)) (s:Shared) (σ:St) (H:Hp) (R:It→Hp→Prop),Inv X pins σ H s→wi σ H R→
  wpAny (model X.prog X.w) X.A (eval iter X.env) (fun v s1=>wpAny (model X.prog X.w) X.A (pyIter v) (PIE X pins σ tg R) X.xe s1) X.xe s
theorem Ku {M:Model} {A:Around} {E:Value→Shared→Prop} {s:Shared} {tg:Expr} {it:Addr} {u:Value} {o:Obj} {n:String} {vs:Array Value} {Q:Unit→Shared→Prop} (ho:s.heap.get? it=some o) (hc:o.cls = .type n) (hd:o.data = .fields vs)
 (hn:["enumerate", "zip", "dict_itemiterator", "dict_reverseitemiterator", "odict_iterator", "itertools.zip_longest", "itertools.pairwise"].contains n=false) (hQ:Q () s):wpAny M A (letOwnedTupleGo tg (.ref it) u) Q E s:=by
 unfold letOwnedTupleGo
 cases tg <;> first
  | exact wpAny_pure hQ
  | (cases u <;> first
      | exact wpAny_pure hQ
      | (refine wpAny_bind (wpAny_load ho ?_)
         rw [hc,hd]
         show wpAny M A (if (["enumerate", "zip", "dict_itemiterator", "dict_reverseitemiterator", "odict_iterator", "itertools.zip_longest", "itertools.pairwise"].contains n && vs[0]? == some (rawInt _))=true then _ else _) Q E s
         rw [if_neg (by intro h;rw [hn,Bool.false_and] at h;cases h)]
         exact wpAny_pure hQ))
def Itl (K:PySem.W.Frag) (a:Addr):It:=
 ⟨fun i H=>∃xs x,SqL K H a xs∧xs[i]?=some x,fun i H x H'=>H'=H∧∀xs,SqL K H a xs→xs[i]?=some x,fun i H=>∃xs,SqL K H a xs∧xs.length≤i⟩
def Itt (K:PySem.W.Frag) (a:Addr):It:=
 ⟨fun i H=>∃xs x,SqT K H a xs∧xs[i]?=some x,fun i H x H'=>H'=H∧∀xs,SqT K H a xs→xs[i]?=some x,fun i H=>∃xs,SqT K H a xs∧xs.length≤i⟩
def Itr (lo:Int) (n:Nat):It:=⟨fun i _=>i < n,fun i H x H'=>H'=H∧x = .int (lo + i),fun i _=>n≤i⟩
theorem OF {P:Program} {w:World} {K:PySem.W.Frag} {tg:Expr} (a it:Addr):Turn P w K tg (Itl K a) [it] it (fun i h=>h.IsListIter it a i) where
 mem:=by simp
 obj:=fun i h st b hb=>by
  have e:b=it:=by simpa using hb
  subst e
  obtain ⟨o,e,c,d⟩:=st
  exact ⟨o,e,fun v z=>by rw [d] at z;cases z⟩
 keep:=fun i h h' st k=>st.at fun o e=>k it (by simp) o e
 item:=by
  intro X hP hw hK hc i pins s σ H E I hf st hg
  subst hP hw hK
  obtain ⟨xs,x,hq,hx⟩:=hg
  obtain ⟨its,rv,p,hz⟩:=I.list hq
  obtain ⟨u,hu,ru⟩:=rv.get hx
  obtain ⟨f0,f1,f2,f3,f4,f5⟩:=hf it (by simp)
  refine wpAny_pyNext_list_item st p.isList (x:=u) (by simpa using hu) fun h' st' sb=>?_
  have I1:Inv X pins σ H { s with heap:=h' }:=I.turned (t':=s.toks) (fun b o hb e=>(sb.2 b hb).trans e) f0 f1 f3 f4 f5
  obtain ⟨o,e,c,d⟩:=id st'
  exact ⟨u,rfl,Ku (s:={ s with heap:=h' }) e c d (by decide) ⟨x,H,I1,ru,⟨rfl,fun ys hy=>by rw [I.list_inj hy hq];exact hx⟩,st',fun b hb=>(hf b hb).1⟩⟩
 done:=by
  intro X hP hw hK hc i pins s σ H E I hf st hg
  subst hP hw hK
  obtain ⟨xs,hq,hx⟩:=hg
  obtain ⟨its,rv,p,hz⟩:=I.list hq
  obtain ⟨f0,f1,f2,f3,f4,f5⟩:=hf it (by simp)
  have hl:=rv.length
  exact wpAny_pyNext_list_end (I.ok.hd hc) st p.isList (by simp;lia) fun h' eb=>⟨rfl,I.turned (t':=s.toks) (fun b o hb e=>eb b o hb e) f0 f1 f3 f4 f5⟩
 self:=fun _ _ _ _ _ st h=>wpAny_pyIter_listiter st h
theorem Nq {P:Program} {w:World} {K:PySem.W.Frag} {tg:Expr} (a it:Addr):Turn P w K tg (Itt K a) [it] it (fun i h=>h.IsTupleIter it a i) where
 mem:=by simp
 obj:=fun i h st b hb=>by
  have e:b=it:=by simpa using hb
  subst e
  obtain ⟨o,e,c,d⟩:=st
  exact ⟨o,e,fun v z=>by rw [d] at z;cases z⟩
 keep:=fun i h h' st k=>st.at fun o e=>k it (by simp) o e
 item:=by
  intro X hP hw hK hc i pins s σ H E I hf st hg
  subst hP hw hK
  obtain ⟨xs,x,hq,hx⟩:=hg
  obtain ⟨its,rv,p,hz⟩:=I.tuple hq
  obtain ⟨u,hu,ru⟩:=rv.get hx
  obtain ⟨f0,f1,f2,f3,f4,f5⟩:=hf it (by simp)
  refine wpAny_pyNext_tuple_item st (show s.heap.IsTuple a its.toArray from p) (x:=u) (by simpa using hu) fun h' st' sb=>?_
  have I1:Inv X pins σ H { s with heap:=h' }:=I.turned (t':=s.toks) (fun b o hb e=>(sb.2 b hb).trans e) f0 f1 f3 f4 f5
  obtain ⟨o,e,c,d⟩:=id st'
  exact ⟨u,rfl,Ku (s:={ s with heap:=h' }) e c d (by decide) ⟨x,H,I1,ru,⟨rfl,fun ys hy=>by rw [I.tuple_inj hy hq];exact hx⟩,st',fun b hb=>(hf b hb).1⟩⟩
 done:=by
  intro X hP hw hK hc i pins s σ H E I hf st hg
  subst hP hw hK
  obtain ⟨xs,hq,hx⟩:=hg
  obtain ⟨its,rv,p,hz⟩:=I.tuple hq
  obtain ⟨f0,f1,f2,f3,f4,f5⟩:=hf it (by simp)
  have hl:=rv.length
  exact wpAny_pyNext_tuple_end (I.ok.hd hc) st (show s.heap.IsTuple a its.toArray from p) (by simp;lia) fun h' eb=>⟨rfl,I.turned (t':=s.toks) (fun b o hb e=>eb b o hb e) f0 f1 f3 f4 f5⟩
 self:=fun _ _ _ _ _ st h=>wpAny_pyIter_tupleiter st h
theorem Np {P:Program} {w:World} {K:PySem.W.Frag} {tg:Expr} (it:Addr) (lo:Int) (n:Nat):Turn P w K tg (Itr lo n) [it] it (fun i h=>IsRangeIter h it (lo + (i:Nat) * 1) ((n:Int) - (i:Nat)) 1) where
 mem:=by simp
 obj:=fun i h st b hb=>by
  have e:b=it:=by simpa using hb
  subst e
  exact ⟨_,st,fun v z=>by
   have z':Data.fields _=Data.cell v:=z
   cases z'⟩
 keep:=fun i h h' st k=>k it (by simp) _ st
 item:=by
  intro X hP hw hK hc i pins s σ H E I hf st hg
  subst hP hw hK
  obtain ⟨f0,f1,f2,f3,f4,f5⟩:=hf it (by simp)
  have W:=Walks.range (prog:=X.prog) (w:=X.w) (I.ok.hd hc) it lo 1 n
  refine W.item i s _ _ hg st fun v h' tk hv st' kk=>?_
  obtain ⟨t,rfl⟩:=hv
  have I1:Inv X pins σ H { s with heap:=h',toks:=tk }:=I.turned (fun b o hb e=>kk b o (by simpa using hb) e) f0 f1 f3 f4 f5
  refine ⟨_,rfl,Ku (s:={ s with heap:=h',toks:=tk }) (n:="range_iterator") st' rfl rfl (by decide) ⟨.int (lo + i),H,I1,⟨t,?_⟩,⟨rfl,rfl⟩,st',fun b hb=>(hf b hb).1⟩⟩
  rw [Int.mul_one]
 done:=by
  intro X hP hw hK hc i pins s σ H E I hf st hg
  subst hP hw hK
  obtain ⟨f0,f1,f2,f3,f4,f5⟩:=hf it (by simp)
  exact wpAny_pyNext_range_end (I.ok.hd hc) st (by have:n≤i:=hg;lia) fun h' eb=>⟨rfl,I.turned (t':=s.toks) (fun b o hb e=>eb b o hb e) f0 f1 f3 f4 f5⟩
 self:=fun _ _ _ _ _ st h=>wpAny_pyIter_rangeiter st h
section
variable {X:Cx} {tg:Expr}
theorem Lr {pins:List (Addr×Obj)} {σ:St} {H:Hp} {s:Shared} {R:It→Hp→Prop} {E:Value→Shared→Prop} {lo hi:Int} {t u v:Tok} {tk:Nat} (I:Inv X pins σ H s) (h1 : -(2 ^ 62)≤lo) (h2:lo < 2 ^ 62) (h3 : -(2 ^ 62)≤hi) (h4:hi < 2 ^ 62)
 (q:R (Itr lo (hi - lo).toNat) H):wpAny (model X.prog X.w) X.A (pyIter (.ref s.heap.objs.size)) (PIE X pins σ tg R) E { s with heap:=s.heap.push { cls:=.type "range",data:=.fields #[.int lo t,.int hi u,.int 1 v] },toks:=tk }:=by
 refine wpAny_pyIter_range (IsRange.new ..) (small_one h1 h2 h3 h4) ?_
 have I1:Inv X pins σ H { s with heap:=s.heap.push { cls:=.type "range",data:=.fields #[.int lo t,.int hi u,.int 1 v] },toks:=tk }:=I.kept fun b o e=>Heap.get?_push_of_some _ e
 refine ⟨(s.heap.push { cls:=.type "range",data:=.fields #[.int lo t,.int hi u,.int 1 v] }).objs.size,[(s.heap.push { cls:=.type "range",data:=.fields #[.int lo t,.int hi u,.int 1 v] }).objs.size],_,_,H,rfl,
  I1.kept (t':=tk) fun b o e=>Heap.get?_push_of_some _ e,Np _ lo (hi - lo).toNat,?_,fun b hb=>?_,q⟩
 ·have e1:lo + ((0:Nat):Int) * 1=lo:=by simp
  have e2:(((hi - lo).toNat:Nat):Int) - ((0:Nat):Int)=Builtin.Range.rangeSize lo hi 1:=by rw [rangeSize_one];split <;> lia
  show IsRangeIter _ _ (lo + ((0:Nat):Int) * 1) ((((hi - lo).toNat:Nat):Int) - ((0:Nat):Int)) 1
  rw [e1,e2]
  exact Heap.get?_push_size _ rfl
 ·have e:b=(s.heap.push { cls:=.type "range",data:=.fields #[.int lo t,.int hi u,.int 1 v] }).objs.size:=by simpa using hb
  subst e
  exact I1.fpOk (Nat.le_refl _) (I1.hok.fresh (Nat.le_refl _))
def Ui (ta:TA):TI:=fun σ H R=>ta σ H fun vs H1=>∃j:Int,vs=[.int j]∧-(2 ^ 62)≤j∧j < 2 ^ 62∧R (Itr 0 j.toNat) H1
def Uj (ta:TA):TI:=fun σ H R=>ta σ H fun vs H1=>∃i j:Int,vs=[.int i,.int j]∧(-(2 ^ 62)≤i∧i < 2 ^ 62∧-(2 ^ 62)≤j∧j < 2 ^ 62)∧R (Itr i (j - i).toNat) H1
theorem Om {a:Expr} {ta:TA} {p pos:Pos} (hg:Gl X "range") (hm:X.mg "range" = none) (ha:PA X [a] ta) (hs:starEach [a] X.env=[(false,eval a X.env)]:=by rfl):PI X tg (.Call (.Name "range" p) [a] [] pos) (Ui ta):=by
 intro pins s σ H R I h
 refine Call_ (FS I hg hm boot_range (PyProof.Rows.callWith_type1 (thn (ha pos pins s σ H _ I h) fun us s1 ⟨vs,H1,I1,r1,q1⟩=>?_) hs rfl))
 obtain ⟨j,e,q1,q2,q⟩:=q1
 subst e
 cases r1 with
 | cons r rr=>
   cases rr
   obtain ⟨t,rfl⟩:=r
   exact call_range_1 (Lr I1 (by lia) (by lia) q1 q2 (by simpa using q))
theorem On {a b:Expr} {ta:TA} {p pos:Pos} (hg:Gl X "range") (hm:X.mg "range" = none) (ha:PA X [a,b] ta) (hs:starEach [a,b] X.env=[(false,eval a X.env),(false,eval b X.env)]:=by rfl) (hs2:starEach [b] X.env=[(false,eval b X.env)]:=by rfl) :
 PI X tg (.Call (.Name "range" p) [a,b] [] pos) (Uj ta):=by
 intro pins s σ H R I h
 refine Call_ (FS I hg hm boot_range (PyProof.Rows.callWith_type1 (thn (ha pos pins s σ H _ I h) fun us s1 ⟨vs,H1,I1,r1,q1⟩=>?_) (by rw [hs,hs2]) (by rw [hs2];rfl)))
 obtain ⟨i,j,e,⟨q1,q2,q3,q4⟩,q⟩:=q1
 subst e
 cases r1 with
 | cons r rr=>
   cases rr with
   | cons r' rr=>
     cases rr
     obtain ⟨t,rfl⟩:=r
     obtain ⟨t',rfl⟩:=r'
     exact call_range_2 (Lr I1 q1 q2 q3 q4 q)
def TN (wi:TI) (g:TG) (tb:TS):TS:=fun D σ H=>wi σ H fun J H1=>∃W:Nat→Nat→St→Hp→Prop,(∃m,W 0 m σ H1)∧∀i m σ H,W i m σ H→
 (J.stop i H∧D.nx σ H)∨(J.go i H∧∃N:St→Hp→Prop,(∀σ' H',N σ' H'→∃m',m' < m∧W (i + 1) m' σ' H')∧∀x H',J.yld i H x H'→g x σ H' fun σ2 H2=>tb { D with nx:=N,ct:=N,bk:=D.nx } σ2 H2)
def GQ (fp:List Addr) (h:Heap):List (Addr×Obj):=fp.filterMap fun b=>(h.get? b).map fun o=>(b,o)
theorem E2 {fp:List Addr} {h:Heap} {b:Addr} {o:Obj} (hb:b∈fp) (e:h.get? b=some o):(b,o)∈GQ fp h:=List.mem_filterMap.mpr ⟨b,hb,by rw [e];rfl⟩
theorem Of {fp:List Addr} {h:Heap} {p:Addr×Obj} (hp:p∈GQ fp h):p.1∈fp∧h.get? p.1=some p.2:=by
 obtain ⟨b,hb,e⟩:=List.mem_filterMap.mp hp
 cases q:h.get? b with
 | none=>rw [q] at e;cases e
 | some o=>
   rw [q] at e
   have e':(b,o)=p:=Option.some.inj e
   subst e'
   exact ⟨hb,q⟩
theorem Inv.pinned {pins:List (Addr×Obj)} {σ:St} {H:Hp} {s:Shared} {fp:List Addr} (I:Inv X pins σ H s) (hf:∀b∈fp,FpOk X pins H b) (ho:∀b∈fp,∃o,s.heap.get? b=some o∧∀v,o.data≠.cell v):Inv X (pins++GQ fp s.heap) σ H s:=
 I.pins_of fun p hp=>(List.mem_append.mp hp).elim (fun z=>I.pin p (List.mem_append_right _ z)) fun z=>by
  obtain ⟨hb,e⟩:=Of z
  obtain ⟨f0,f1,f2,_⟩:=hf p.1 hb
  obtain ⟨o,e',d⟩:=ho p.1 hb
  rw [e] at e';cases e'
  exact ⟨e,f0,f1,f2,d⟩
theorem Inv.unpinned {pins pl:List (Addr×Obj)} {σ:St} {H:Hp} {s:Shared} (I:Inv X (pins++pl) σ H s):Inv X pins σ H s:=I.pins_of fun p hp=>I.pin p (List.mem_append_right _ (List.mem_append_left _ hp))
theorem Td {iter:Expr} {body:List Stmt} {wi:TI} {g:TG} {tb:TS} {pos:Pos} (hp:PassesOwn (model X.prog X.w) X.A X.env X.xe) (hc:X.calm=true) (hi:PI X tg iter wi) (hg:PG X tg g) (hb:PSs X body tb)
 (hs:∀x,foldedSetIterable iter X.env x=pure x:=by intro _;rfl):PS X (.For tg iter body [] pos) (TN wi g tb):=by
 intro pins s σ H D I h
 refine wpAny_For (thn (hi pins s σ H _ I h) fun v s1 h1=>thn h1 fun itv s2 h2=>?_) hs
 obtain ⟨it,fp,tn,J,H2,e,I2,T,st2,f2,W,⟨m0,w0⟩,turn⟩:=h2
 subst e
 -- what stays true of the iterator's objects through the loop
 have stat:∀{H':Hp},(∀b∈fp,H' b=none)→∀b∈fp,FpOk X pins H' b:=fun hn b hb=>⟨hn b hb,(f2 b hb).2⟩
 refine codeAny_forLoop_any (fun n s'=>∃i σ' H',Inv X pins σ' H' s'∧tn i s'.heap∧(∀b∈fp,H' b=none)∧W i n σ' H') ?_ m0 ⟨0,σ,H2,I2,st2,fun b hb=>(f2 b hb).1,w0⟩
 rintro n s3 ⟨i,σ3,H3,I3,st3,fr3,w3⟩
 rcases turn i n σ3 H3 w3 with ⟨stop,qn⟩ | ⟨go,N,hN,step⟩
 ·refine wpAny_passesOwn hp (thn (T.done X rfl rfl rfl hc i pins s3 σ3 H3 X.xe I3 (stat fr3) st3 stop) fun r s4 ⟨hr,I4⟩=>?_)
  subst hr
  exact wpAny_execs_nil ⟨σ3,H3,I4,qn⟩
 ·refine wpAny_passesOwn hp (thn (T.item X rfl rfl rfl hc i pins s3 σ3 H3 X.xe I3 (stat fr3) st3 go) fun r s4 ⟨u,hr,h4⟩=>?_)
  subst hr
  refine wpAny_passesOwn hp (thn h4 fun _ s5 ⟨x,H5,I5,r5,y5,st5,fr5⟩=>?_)
  have I5':=I5.pinned (stat fr5) (T.obj _ _ st5)
  refine wpAny_passesOwn hp (thn (hg _ s5 σ3 H5 x u _ I5' r5 (step x H5 y5)) fun _ s6 ⟨σ6,H6,I6,q6⟩=>?_)
  refine wpAny_passesOwn hp (thn (hb _ s6 σ6 H6 _ I6 q6) fun f s7 q7=>?_)
  have again:∀{σ7:St} {H7:Hp},Inv X (pins++GQ fp s5.heap) σ7 H7 s7→N σ7 H7→∃m,m < n∧∃i σ' H',Inv X pins σ' H' s7∧tn i s7.heap∧(∀b∈fp,H' b=none)∧W i m σ' H':=fun {σ7 H7} I7 n7=>by
   obtain ⟨m',hm,w7⟩:=hN σ7 H7 n7
   refine ⟨m',hm,i + 1,σ7,H7,I7.unpinned,T.keep _ _ _ st5 fun b hb o e=>(I7.pin (b,o) (List.mem_append_right _ (List.mem_append_right _ (E2 hb e)))).1,fun b hb=>?_,w7⟩
   obtain ⟨o,e,d⟩:=T.obj _ _ st5 b hb
   exact (I7.pin (b,o) (List.mem_append_right _ (List.mem_append_right _ (E2 hb e)))).2.1
  cases f with
  | next=>obtain ⟨σ7,H7,I7,n7⟩:=q7;exact again I7 n7
  | cont=>obtain ⟨σ7,H7,I7,n7⟩:=q7;exact again I7 n7
  | brk=>obtain ⟨σ7,H7,I7,q7⟩:=q7;exact ⟨σ7,H7,I7.unpinned,q7⟩
  | ret v=>obtain ⟨x7,σ7,H7,I7,r7,q7⟩:=q7;exact ⟨x7,σ7,H7,I7.unpinned,r7,q7⟩
end
abbrev R2:=V→V→Hp→VK→Prop
def OpR (X:Cx) (f:Value→Value→Sem Value) (r:R2):Prop:=
 ∀(pins:List (Addr×Obj)) (s:Shared) (σ:St) (H:Hp) (x y:V) (v u:Value) (Q:VK),Inv X pins σ H s→RelV x v→RelV y u→r x y H Q→
  wpAny (model X.prog X.w) X.A (f v u) (EP X pins σ Q) X.xe s
def UnR (X:Cx) (f:Value→Sem Value) (r:V→Hp→VK→Prop):Prop:=
 ∀(pins:List (Addr×Obj)) (s:Shared) (σ:St) (H:Hp) (x:V) (v:Value) (Q:VK),Inv X pins σ H s→RelV x v→r x H Q→
  wpAny (model X.prog X.w) X.A (f v) (EP X pins σ Q) X.xe s
def B2 (X:Cx) (f:Value) (r:List V→Hp→VK→Prop):Prop:=
 ∀(pins:List (Addr×Obj)) (s:Shared) (σ:St) (H:Hp) (xs:List V) (us:List Value) (Q:VK),Inv X pins σ H s→Vals xs us→r xs H Q→
  wpAny (model X.prog X.w) X.A (call f us) (EP X pins σ Q) X.xe s
def tOp (r:R2) (ta tb:TE):TE:=fun σ H Q=>ta σ H fun x H1=>tb σ H1 fun y H2=>r x y H2 Q
def tUn (r:V→Hp→VK→Prop) (ta:TE):TE:=fun σ H Q=>ta σ H fun x H1=>r x H1 Q
def rI (C:Int→Int→Prop) (g:Int→Int→V):R2:=fun x y H Q=>∃i j,x = .int i∧y = .int j∧C i j∧Q (g i j) H
def rI0 (g:Int→Int→V):R2:=fun x y H Q=>∃i j,x = .int i∧y = .int j∧Q (g i j) H
def rU (g:Int→V):V→Hp→VK→Prop:=fun x H Q=>∃i,x = .int i∧Q (g i) H
section
variable {X:Cx} {a b c:Expr} {ta tb tc:TE} {pos:Pos}
theorem OP (ha:PE X a ta) (hb:PE X b tb) {pins:List (Addr×Obj)} {s:Shared} {σ:St} {H:Hp} {R:V→V→Hp→Prop} (I:Inv X pins σ H s)
 (h:ta σ H fun x H1=>tb σ H1 fun y H2=>R x y H2) {Q:Value→Shared→Prop} {f:Value→Value→Sem Value}
 (hf:∀v u s2 x y H2,Inv X pins σ H2 s2→RelV x v→RelV y u→R x y H2→wpAny (model X.prog X.w) X.A (f v u) Q X.xe s2) :
 wpAny (model X.prog X.w) X.A (eval a X.env) (fun v s₁=>wpAny (model X.prog X.w) X.A (eval b X.env) (fun u s₂=>wpAny (model X.prog X.w) X.A (f v u) Q X.xe s₂) X.xe s₁) X.xe s:=by
 refine thn (ha pins s σ H _ I h) fun v s1 ⟨x,H1,I1,r1,q1⟩=>?_
 refine thn (hb pins s1 σ H1 _ I1 q1) fun u s2 ⟨y,H2,I2,r2,q2⟩=>?_
 exact hf v u s2 x y H2 I2 r1 r2 q2
theorem Nd {op:Operator} {r:R2} (ho:OpR X (binaryOp op) r) (ha:PE X a ta) (hb:PE X b tb):PE X (.BinOp a op b pos) (tOp r ta tb):=by
 intro pins s σ H Q I h
 exact wpAny_BinOp (OP ha hb I h fun v u s2 x y H2 I2 rx ry q=>ho pins s2 σ H2 x y v u Q I2 rx ry q)
theorem Uq {op:UnaryOp} {r:V→Hp→VK→Prop} (ho:UnR X (unaryOp op) r) (ha:PE X a ta):PE X (.UnaryOp op a pos) (tUn r ta):=by
 intro pins s σ H Q I h
 exact UnaryOp_ (thn (ha pins s σ H _ I h) fun v s1 ⟨x,H1,I1,r1,q1⟩=>ho pins s1 σ H1 x v Q I1 r1 q1)
theorem opI {f:Value→Value→Sem Value} {C:Int→Int→Prop} {g:Int→Int→Int}
 (rule:∀(i j:Int) (t u:Tok) (s:Shared) (Q:Value→Shared→Prop) (E:Value→Shared→Prop),C i j→Q (.int (g i j) s.toks) { s with toks:=s.toks + 1 }→wpAny (model X.prog X.w) X.A (f (.int i t) (.int j u)) Q E s) :
 OpR X f (rI C fun i j=>.int (g i j)):=by
 intro pins s σ H x y v u Q I rx ry h
 obtain ⟨i,j,rfl,rfl,hc,q⟩:=h
 obtain ⟨t,rfl⟩:=rx
 obtain ⟨t',rfl⟩:=ry
 exact rule i j t t' s _ _ hc ⟨.int (g i j),H,I.tok _,⟨_,rfl⟩,q⟩
theorem SO {f:Value→Value→Sem Value} {g:Int→Int→Int}
 (rule:∀(i j:Int) (t u:Tok) (s:Shared) (Q:Value→Shared→Prop) (E:Value→Shared→Prop),Q (.int (g i j) s.toks) { s with toks:=s.toks + 1 }→wpAny (model X.prog X.w) X.A (f (.int i t) (.int j u)) Q E s) :
 OpR X f (rI0 fun i j=>.int (g i j)):=by
 intro pins s σ H x y v u Q I rx ry h
 obtain ⟨i,j,rfl,rfl,q⟩:=h
 obtain ⟨t,rfl⟩:=rx
 obtain ⟨t',rfl⟩:=ry
 exact rule i j t t' s _ _ ⟨.int (g i j),H,I.tok _,⟨_,rfl⟩,q⟩
theorem Nb {f:Value→Value→Sem Value} {g:Int→Int→Bool}
 (rule:∀(i j:Int) (t u:Tok) (s:Shared) (Q:Value→Shared→Prop) (E:Value→Shared→Prop),Q (.bool (g i j)) s→wpAny (model X.prog X.w) X.A (f (.int i t) (.int j u)) Q E s) :
 OpR X f (rI0 fun i j=>.bl (g i j)):=by
 intro pins s σ H x y v u Q I rx ry h
 obtain ⟨i,j,rfl,rfl,q⟩:=h
 obtain ⟨t,rfl⟩:=rx
 obtain ⟨t',rfl⟩:=ry
 exact rule i j t t' s _ _ ⟨.bl (g i j),H,I,rfl,q⟩
def R6 (i j:Int):Prop:=0 < j∧j < 1073741824
def R7 (i j:Int):Prop:=0≤j∧j≤1000000∧i.natAbs < 2 ^ 64
def CMul (i j:Int):Prop:=(-(2 ^ 64) < i∧i < 2 ^ 64)∨(-(2 ^ 64) < j∧j < 2 ^ 64)
theorem CMul.ok {i j:Int} (h:CMul i j):IntMulOk i j:=by
 rcases h with ⟨h1,h2⟩ | ⟨h1,h2⟩
 ·exact .of_left (intBits_le_64 h1 h2)
 ·exact .of_right (intBits_le_64 h1 h2)
theorem two_pow_nn (k:Nat):(0:Int)≤2 ^ k:=by
 rw [two_pow_cast]
 exact Int.natCast_nonneg _
theorem op_add:OpR X (binaryOp .Add) (rI0 fun i j=>.int (i + j)):=SO fun _ _ _ _ _ _ _ q=>add_int q
theorem BC:OpR X (binaryOp .Sub) (rI0 fun i j=>.int (i - j)):=SO fun _ _ _ _ _ _ _ q=>sub_int q
theorem op_mul:OpR X (binaryOp .Mult) (rI CMul fun i j=>.int (i * j)):=opI fun _ _ _ _ _ _ _ hc q=>mul_int q hc.ok
theorem Dj:OpR X (binaryOp .FloorDiv) (rI R6 fun i j=>.int (i / j)):=opI fun i j _ _ _ _ _ hc q=>by
 have h1:(0:Int) < j:=hc.1
 have h2:j < 1073741824:=hc.2
 exact floordiv_int (by lia) (by rw [Int.fdiv_eq_ediv_of_nonneg i (by lia)];exact q) (.inl (PyProof.noPylong_small (by lia)))
theorem C2:OpR X (binaryOp .Mod) (rI (fun _ j=>0 < j) fun i j=>.int (i % j)):=opI fun i j _ _ _ _ _ hc q=>by
 have h1:(0:Int) < j:=hc
 exact mod_int' (by lia) (by rw [Int.fmod_eq_emod_of_nonneg i (by lia)];exact q)
theorem C3:OpR X (binaryOp .Pow) (rI R7 fun i j=>.int (i ^ j.toNat)):=opI fun _ _ _ _ _ _ _ hc q=>pow_int_small hc.1 hc.2.1 hc.2.2 q
theorem SR:OpR X (binaryOp .RShift) (rI (fun _ j=>0≤j) fun i j=>.int (i / 2 ^ j.toNat)):=opI fun i j _ _ _ _ _ hc q=>
 rshift_int hc (by rw [Int.fdiv_eq_ediv_of_nonneg i (two_pow_nn _)];exact q)
theorem unI {f:Value→Sem Value} {g:Int→Int}
 (rule:∀(i:Int) (t:Tok) (s:Shared) (Q:Value→Shared→Prop) (E:Value→Shared→Prop),Q (.int (g i) s.toks) { s with toks:=s.toks + 1 }→wpAny (model X.prog X.w) X.A (f (.int i t)) Q E s) :
 UnR X f (rU fun i=>.int (g i)):=by
 intro pins s σ H x v Q I rx h
 obtain ⟨i,rfl,q⟩:=h
 obtain ⟨t,rfl⟩:=rx
 exact rule i t s _ _ ⟨.int (g i),H,I.tok _,⟨_,rfl⟩,q⟩
theorem TV:UnR X (unaryOp .USub) (rU fun i=>.int (-i)):=unI fun _ _ _ _ _ q=>neg_int q
end
section
variable {X:Cx} {a b c:Expr} {ta tb tc:TE} {pos:Pos}
theorem op_lt:OpR X (compareOp .Lt) (rI0 fun i j=>.bl (decide (i < j))):=Nb fun _ _ _ _ _ _ _ q=>lt_int q
theorem op_le:OpR X (compareOp .LtE) (rI0 fun i j=>.bl (decide (i≤j))):=Nb fun _ _ _ _ _ _ _ q=>le_int q
theorem op_gt:OpR X (compareOp .Gt) (rI0 fun i j=>.bl (decide (j < i))):=Nb fun _ _ _ _ _ _ _ q=>gt_int q
theorem op_ge:OpR X (compareOp .GtE) (rI0 fun i j=>.bl (decide (j≤i))):=Nb fun _ _ _ _ _ _ _ q=>ge_int q
theorem OpR.or {f:Value→Value→Sem Value} {r r':R2} (h:OpR X f r) (h':OpR X f r'):OpR X f (fun x y H Q=>r x y H Q∨r' x y H Q):=by
 intro pins s σ H x y v u Q I rx ry q
 rcases q with q | q
 ·exact h pins s σ H x y v u Q I rx ry q
 ·exact h' pins s σ H x y v u Q I rx ry q
theorem AF (b:Expr) {op:CmpOp} (h:op≠.In:=by decide) (h2:op≠.NotIn:=by decide):behindInMarks op b=false:=by
 have e1:(op == CmpOp.In)=false:=by cases op <;> first | rfl | exact absurd rfl h
 have e2:(op == CmpOp.NotIn)=false:=by cases op <;> first | rfl | exact absurd rfl h2
 cases b <;> simp [behindInMarks,e1,e2]
theorem Rf {op:CmpOp} {r:R2} (ho:OpR X (compareOp op) r) (ha:PE X a ta) (hb:PE X b tb) (hm:behindInMarks op b=false):PE X (.Compare a [op] [b] pos) (tOp r ta tb):=by
 intro pins s σ H Q I h
 exact wpAny_Compare1 (OP ha hb I h fun v u s2 x y H2 I2 rx ry q=>ho pins s2 σ H2 x y v u Q I2 rx ry q) hm
def UF (t:TE):TT:=fun σ H Q=>t σ H fun x H'=>∃k,x = .bl k∧Q k H'
theorem Rp {op:CmpOp} {r:R2} (ho:OpR X (compareOp op) r) (ha:PE X a ta) (hb:PE X b tb) (hm:behindInMarks op b=false):PT X (.Compare a [op] [b] pos) (UF (tOp r ta tb)):=by
 intro pins s σ H Q I h
 refine wpAny_isTrue_Compare1 (thn (ha pins s σ H _ I h) fun v s1 ⟨x,H1,I1,r1,q1⟩=>thn (hb pins s1 σ H1 _ I1 q1) fun u s2 ⟨y,H2,I2,r2,q2⟩=>
  thn (ho pins s2 σ H2 x y v u _ I2 r1 r2 q2) fun c s3 ⟨z,H3,I3,r3,k,e,q3⟩=>?_) hm
 subst e
 cases r3
 exact wpAny_truthy_bool ⟨H3,I3,q3⟩
def OB (r r':R2) (ta tb tc:TE):TE:=fun σ H Q=>ta σ H fun x H1=>tb σ H1 fun y H2=>r x y H2 fun z H3=>∃k,z = .bl k∧
 (if k=true then tc σ H3 fun w' H4=>r' y w' H4 Q else Q (.bl false) H3)
theorem Pj {op op':CmpOp} {r r':R2} (ho:OpR X (compareOp op) r) (ho':OpR X (compareOp op') r') (ha:PE X a ta) (hb:PE X b tb) (hc:PE X c tc)
 (hm:lastMarks [op,op'] [b,c]=false:=by with_unfolding_all rfl):PE X (.Compare a [op,op'] [b,c] pos) (OB r r' ta tb tc):=by
 intro pins s σ H Q I h
 refine Compare_chain (thn (ha pins s σ H _ I h) fun v s1 ⟨x,H1,I1,r1,q1⟩=>chain_link (thn (hb pins s1 σ H1 _ I1 q1) fun u s2 ⟨y,H2,I2,r2,q2⟩=>
  thn (ho pins s2 σ H2 x y v u _ I2 r1 r2 q2) fun d s3 ⟨z,H3,I3,r3,k,e,q3⟩=>?_)) hm
 subst e
 cases r3
 refine wpAny_truthy_bool ?_
 cases k with
 | false=>exact ite_ff ⟨.bl false,H3,I3,rfl,q3⟩
 | true=>exact ite_tt (chain_last (thn (hc pins s3 σ H3 _ I3 q3) fun w' s4 ⟨z',H4,I4,r4,q4⟩=>ho' pins s4 σ H4 y z' u w' Q I4 r2 r4 q4))
theorem GM:(sizeLine:Nat) < 2 ^ 63:=by rw [sizeLine_eq];decide
theorem op_add_str:OpR X (binaryOp .Add) (fun x y H Q=>∃i j,x = .str i∧y = .str j∧i.length + j.length≤sizeLine∧Q (.str (i++j)) H):=by
 intro pins s σ H x y v u Q I rx ry h
 obtain ⟨i,j,rfl,rfl,hz,q⟩:=h
 obtain ⟨t,rfl⟩:=rx
 obtain ⟨t',rfl⟩:=ry
 exact add_str (fun t' tk=>⟨.str (i++j),H,I.tok _,⟨_,rfl⟩,q⟩) hz
theorem ER {x:V} {us:List Value} (r:Vals [x] us):∃u,us=[u]∧RelV x u:=by
 cases r with
 | cons r1 r2=>cases r2;exact ⟨_,rfl,r1⟩
theorem Hh {x y:V} {us:List Value} (r:Vals [x,y] us):∃u w',us=[u,w']∧RelV x u∧RelV y w':=by
 cases r with
 | cons r1 r2=>
   cases r2 with
   | cons r3 r4=>cases r4;exact ⟨_,_,rfl,r1,r3⟩
theorem KR:B2 X (.builtin "abs") (fun xs H Q=>∃i,xs=[.int i]∧Q (.int (if i < 0 then -i else i)) H):=by
 intro pins s σ H xs us Q I r h
 obtain ⟨i,rfl,q⟩:=h
 obtain ⟨u,rfl,t,rfl⟩:=ER r
 exact call_abs_int fun u tk=>⟨.int (if i < 0 then -i else i),H,I.tok _,⟨_,rfl⟩,q⟩
theorem GB (hc:X.calm=true):B2 X (.builtin "max") (fun xs H Q=>∃i j,xs=[.int i,.int j]∧Q (.int (if j > i then j else i)) H):=by
 intro pins s σ H xs us Q I r h
 obtain ⟨i,j,rfl,q⟩:=h
 obtain ⟨u,w',rfl,⟨t,rfl⟩,⟨t',rfl⟩⟩:=Hh r
 refine max_two_ints (I.ok.hd hc) fun h' tk k=>⟨_,H,I.kept k,?_,q⟩
 by_cases hj:j > i
 ·rw [if_pos hj,if_pos hj];exact ⟨_,rfl⟩
 ·rw [if_neg hj,if_neg hj];exact ⟨_,rfl⟩
theorem JP (hc:X.calm=true):B2 X (.builtin "min") (fun xs H Q=>∃i j,xs=[.int i,.int j]∧Q (.int (if j < i then j else i)) H):=by
 intro pins s σ H xs us Q I r h
 obtain ⟨i,j,rfl,q⟩:=h
 obtain ⟨u,w',rfl,⟨t,rfl⟩,⟨t',rfl⟩⟩:=Hh r
 refine min_two_ints (I.ok.hd hc) fun h' tk k=>⟨_,H,I.kept k,?_,q⟩
 by_cases hj:j < i
 ·rw [if_pos hj,if_pos hj];exact ⟨_,rfl⟩
 ·rw [if_neg hj,if_neg hj];exact ⟨_,rfl⟩
theorem GA:B2 X (.type "int") (fun xs H Q=>(∃i,xs=[.int i]∧Q (.int i) H)∨∃k,xs=[.bl k]∧Q (.int (if k then 1 else 0)) H):=by
 intro pins s σ H xs us Q I r h
 rcases h with ⟨i,rfl,q⟩ | ⟨k,rfl,q⟩
 ·obtain ⟨u,rfl,t,rfl⟩:=ER r
  exact call_int_int ⟨.int i,H,I,⟨_,rfl⟩,q⟩
 ·obtain ⟨u,rfl,r1⟩:=ER r
  cases r1
  exact call_int_bool ⟨.int (if k then 1 else 0),H,I.tok _,⟨_,rfl⟩,q⟩
theorem OS:B2 X (.builtin "ord") (fun xs H Q=>∃x,xs=[.str x]∧x.length=1∧Q (.int (x.cps.getD 0 0:Nat)) H):=by
 intro pins s σ H xs us Q I r h
 obtain ⟨x,rfl,hz,q⟩:=h
 obtain ⟨u,rfl,t,rfl⟩:=ER r
 exact ord_of_one hz ⟨.int _,H,I.tok _,⟨_,rfl⟩,q⟩
def R8 (K:PySem.W.Frag) (x:V) (H:Hp) (n:Nat):Prop:=
 match x with
 | .str y=>y.length≤sizeLine∧n=y.length
 | .byt y=>y.size≤sizeLine∧n=y.size
 | .ref p=>(∃xs,SqL K H p xs∧n=xs.length)∨∃xs,SqT K H p xs∧n=xs.length
 | _=>False
theorem Bz:B2 X (.builtin "len") (fun xs H Q=>∃x n,xs=[x]∧R8 X.K x H n∧Q (.int n) H):=by
 intro pins s σ H xs us Q I r h
 obtain ⟨x,n,rfl,e,q⟩:=h
 obtain ⟨u,rfl,rx⟩:=ER r
 have hl:=GM
 have hs:sizeLine=16777216:=sizeLine_eq
 cases x with
 | str y=>
   obtain ⟨t,rfl⟩:=rx
   obtain ⟨hy,e'⟩:y.length≤sizeLine∧n=y.length:=e
   subst e'
   exact len_str (by lia) ⟨.int _,H,I.tok _,⟨_,rfl⟩,q⟩
 | byt y=>
   obtain ⟨t,rfl⟩:=rx
   obtain ⟨hy,e'⟩:y.size≤sizeLine∧n=y.size:=e
   subst e'
   exact PySem.W.len_bytes (by lia) ⟨.int _,H,I.tok _,⟨_,rfl⟩,q⟩
 | ref p=>
   cases rx
   have e':(∃xs,SqL X.K H p xs∧n=xs.length)∨∃xs,SqT X.K H p xs∧n=xs.length:=e
   rcases e' with ⟨xs,hx,e'⟩ | ⟨xs,hx,e'⟩
   ·subst e'
    obtain ⟨its,r',pl,hz⟩:=I.list hx
    have hlen:=r'.length
    exact Calls.call_len_list pl.isList (by simp only [List.size_toArray];lia) ⟨.int xs.length,H,I.tok _,⟨_,by simp only [List.size_toArray];rw [hlen]⟩,q⟩
   ·subst e'
    obtain ⟨its,r',pl,hz⟩:=I.tuple hx
    have hlen:=r'.length
    exact len_tuple pl (by simp only [List.size_toArray];lia) ⟨.int xs.length,H,I.tok _,⟨_,by simp only [List.size_toArray];rw [hlen]⟩,q⟩
 | _=>exact (show False from e).elim
end
structure ObjM (h:Heap) (x dx C:Addr) (mA:Str→Option Value):Prop where
 obj:h.get? x=some (PySem.W.instObj C dx)
 ns:h.Ns1 dx mA
 ne:dx≠x
theorem FA {h:Heap} {dx:Addr} {mA:Str→Option Value} (n:h.Ns1 dx mA):∃od,h.get? dx=some od∧∀name,PySem.W.lookIn name od=some (mA name):=by
 obtain ⟨o,es,ep,ho,hd,hk,_,hm⟩:=n
 refine ⟨o,ho,fun name=>?_⟩
 have e:=hm name
 unfold nsFind findBy at e
 rw [←Array.find?_toList] at e
 unfold PySem.W.lookIn
 rw [hd]
 dsimp only
 split
 ·rename_i y q
  rw [q] at e
  exact congrArg some e
 ·rename_i q
  rw [q] at e
  have a:es.toList.any (·.refKey)=false:=by
   rw [List.any_eq_false]
   intro y hy
   obtain ⟨z,t,hkey⟩:=hk y (Array.mem_toList_iff.mp hy)
   simp [DictEntry.refKey,hkey]
  have a':¬es.toList.any (·.refKey)=true:=by rw [a];exact Bool.false_ne_true
  rw [if_neg a']
  exact congrArg some e
theorem ObjM.look {h:Heap} {x dx C:Addr} {mA:Str→Option Value} (I:ObjM h x dx C mA):∃od,PySem.W.InstAt h x (PySem.W.instObj C dx) C (some od)∧∀name,PySem.W.lookIn name od=some (mA name):=
 let ⟨od,ho,hl⟩:=FA I.ns
 ⟨od,⟨I.obj,rfl,rfl,ho⟩,hl⟩
section
variable {prog:Program} {w:World} {A:Around} {E:Value→Shared→Prop} {s:Shared} {K:PySem.W.Frag} {x dx C f:Addr} {mA:Str→Option Value} {name:Str} {v:Value}
end
theorem RelO.some_of {v:V} {o:Option Value} (r:RelO (some v) o):∃u,o=some u∧RelV v u:=by
 cases o with
 | none=>exact (show False from r).elim
 | some u=>exact ⟨u,rfl,r⟩
theorem NZ {v:V} {u:Value} (r:RelV v u):PySem.W.handedIn u=true:=by
 cases v with
 | non=>cases (show u=Value.none from r);rfl
 | bl b=>cases (show u=Value.bool b from r);rfl
 | int i=>obtain ⟨t,e⟩:=(show ∃t,u=Value.int i t from r);cases e;rfl
 | str x=>obtain ⟨t,e⟩:=(show ∃t,u=Value.str x t from r);cases e;rfl
 | byt b=>obtain ⟨t,e⟩:=(show ∃t,u=Value.bytes b t from r);cases e;rfl
 | flt b=>obtain ⟨t,e⟩:=(show ∃t,u=Value.float b t from r);cases e;rfl
 | ref a=>cases (show u=Value.ref a from r);rfl
 | ty n=>cases (show u=Value.type n from r);rfl
section
variable {P:Program} {w:World} {H H':Hp} {h h':Heap} {a C dx:Addr} {fs fs':List (Str×V)}
theorem QV (hok:HOk P w H h) (e:H a=some (.ins C dx fs)):∃mA,ObjM h a dx C mA∧(∀f,RelO (fs.lookup f) (mA f))∧PySem.Within mA (fs.map (·.1))∧fs.length≤1000∧H dx=some (.own a):=by
 obtain ⟨d,z,ne,ob,mA,n,r,q⟩:=(show ObjOk P w H h a (.ins C dx fs) from hok a _ e)
 exact ⟨mA,⟨ob,n,ne⟩,r,q,z,d⟩
end
structure Cls (K:PySem.W.Frag) (C:Addr):Prop where
 pg:PySem.W.plainGet K C Str.empty=true
 hd:PySem.W.hasDictIn K C=true
 po:PySem.W.plainOver K C=true
 sa:PySem.W.findIn K (.ref C) "__setattr__" = some (some (.builtin "object.__setattr__"))
theorem Cls.get {K:PySem.W.Frag} {C:Addr} (c:Cls K C) (f:Str):PySem.W.plainGet K C f=true:=c.pg
structure Con (K:PySem.W.Frag) (C:Addr) (f:Str) (v:V) (u:Value):Prop where
 at_:PySem.W.findIn K (.ref C) f=some (some u)
 rel:RelV v u
 get:PySem.W.specialIn K u "__get__" = some none
 cp:PySem.W.copiedNames.contains f=false
structure Meth (K:PySem.W.Frag) (C:Addr) (m:Str) (f:Addr):Prop where
 at_:PySem.W.findIn K (.ref C) m=some (some (.ref f))
 fn:PySem.W.isFn K (.ref f)=true
 kp:PySem.W.keepIn K (.ref f)=true
section
variable {X:Cx} {pins:List (Addr×Obj)} {σ:St} {H:Hp} {s:Shared} {a C dx:Addr} {fs:List (Str×V)} {f:Str} {v:V} {A:Around} {E:Value→Shared→Prop}
theorem QC {prog:Program} {w:World} {env:Env} {e:Expr} {f:Str} {pos:Pos} {s:Shared} {Q:Value→Shared→Prop} (hb:attributeBase e f env (eval e env)=eval e env)
 (h:wpAny (model prog w) A (eval e env) (fun o s₁=>wpAny (model prog w) A (getAttr o f true) Q E s₁) E s):wpAny (model prog w) A (eval (.Attribute e f pos) env) Q E s:=
 Attribute_any_ h (by rw [arm_eval_Attribute,hb])
end
section
variable {X:Cx} {o e value:Expr} {f:Str} {pos pos' tpos:Pos} {ta tv:TE}
end
section
variable {X:Cx} {pins:List (Addr×Obj)} {σ:St} {H:Hp} {s:Shared} {A:Around} {E:Value→Shared→Prop} {Q:Value→Shared→Prop} {c:Value} {b:Bool}
inductive TyOf (K:PySem.W.Frag) (H:Hp):V→Value→Prop where
 | non:TyOf K H .non (.type "NoneType")
 | bl (x:Bool):TyOf K H (.bl x) (.type "bool")
 | int (i:Int):TyOf K H (.int i) (.type "int")
 | str (x:Str):TyOf K H (.str x) (.type "str")
 | flt (x:UInt64):TyOf K H (.flt x) (.type "float")
 | lst {a:Addr} {xs:List V} (e:H a=some (.lst xs)):TyOf K H (.ref a) (.type "list")
 | frz {a:Addr} {o:Obj} {xs:List V} (e:H a=some (.frz o (.lst xs))):TyOf K H (.ref a) (.type "list")
 | tup {a:Addr} {xs:List V} (e:H a=some (.tup xs)):TyOf K H (.ref a) (.type "tuple")
 | dK {a:Addr} {kvs:List (Key×V)} (e:H a=some (.dK kvs)):TyOf K H (.ref a) (.type "dict")
 | dT {a:Addr} {kvs:List (List Key×V)} (e:H a=some (.dT kvs)):TyOf K H (.ref a) (.type "dict")
 | ins {a C dx:Addr} {fs:List (Str×V)} (e:H a=some (.ins C dx fs)) (cl:Cls K C) (ha:PySem.W.findIn K (.ref C) "__class__" = some (some (.builtin "object.__class__")))
    (hn:PySem.W.specialIn K (.builtin "object.__class__") "__get__" = some (some (.builtin "getset_descriptor.__get__"))) (htk:PySem.W.takesIn K (.builtin "object.__class__")=some true)
    (hm:PySem.W.mroIn K C (.type "object")=some true):TyOf K H (.ref a) (.ref C)
theorem JY {x:V} {u t:Value} (I:Inv X pins σ H s) (rx:RelV x u) (ty:TyOf X.K H x t) (e:PySem.W.kitOne X.K t c=some b) (h:∀tk,Q (.bool b) { s with toks:=tk }) :
 wpAny (model X.prog X.w) A (call (.builtin "isinstance") [u,c]) Q E s:=by
 cases ty with
 | non=>cases (show u=Value.none from rx);exact PySem.W.kia_one PySem.W.kitx_none I.kIn True.intro e (fun z=>nomatch z) h
 | bl y=>cases (show u=Value.bool y from rx);exact PySem.W.kia_one PySem.W.kitx_bool I.kIn True.intro e (fun z=>nomatch z) h
 | int i=>obtain ⟨t,q⟩:=(show ∃t,u=Value.int i t from rx);cases q;exact PySem.W.kia_one PySem.W.kitx_int I.kIn True.intro e (fun z=>nomatch z) h
 | str y=>obtain ⟨t,q⟩:=(show ∃t,u=Value.str y t from rx);cases q;exact PySem.W.kia_one PySem.W.kitx_str I.kIn True.intro e (fun z=>nomatch z) h
 | flt y=>obtain ⟨t,q⟩:=(show ∃t,u=Value.float y t from rx);cases q;exact PySem.W.kia_one PySem.W.kitx_float I.kIn True.intro e (fun z=>nomatch z) h
 | @lst a xs ea=>
   cases (show u=Value.ref a from rx)
   obtain ⟨_,_,n,_,h1⟩:=(show ObjOk X.prog X.w H s.heap a (.lst xs) from I.hok a _ ea)
   exact PySem.W.kia_one PySem.W.kitx_list I.kIn ⟨_,h1,rfl⟩ e (fun z=>nomatch z) h
 | @frz a ob xs ea=>
   cases (show u=Value.ref a from rx)
   obtain ⟨_,_,_,n,_,h1⟩:=(show ObjOk X.prog X.w H s.heap a (.frz ob (.lst xs)) from I.hok a _ ea)
   exact PySem.W.kia_one PySem.W.kitx_list I.kIn ⟨_,h1,rfl⟩ e (fun z=>nomatch z) h
 | @tup a xs ea=>
   cases (show u=Value.ref a from rx)
   obtain ⟨_,_,_,p⟩:=(show ObjOk X.prog X.w H s.heap a (.tup xs) from I.hok a _ ea)
   obtain ⟨o,h1,h2,_⟩:=p
   exact PySem.W.kia_one PySem.W.kitx_tuple I.kIn ⟨o,h1,h2⟩ e (fun z=>nomatch z) h
 | @dK a kvs ea=>
   cases (show u=Value.ref a from rx)
   obtain ⟨_,_,vs,_,p⟩:=(show ObjOk X.prog X.w H s.heap a (.dK kvs) from I.hok a _ ea)
   obtain ⟨o,es,ep,h1,h2,_⟩:=p
   exact PySem.W.kia_one PySem.W.kitx_dict I.kIn ⟨o,h1,h2.1⟩ e (fun z=>nomatch z) h
 | @dT a kvs ea=>
   cases (show u=Value.ref a from rx)
   obtain ⟨_,_,xs,_,o,es,ep,h1,h2,_⟩:=(show ObjOk X.prog X.w H s.heap a (.dT kvs) from I.hok a _ ea)
   exact PySem.W.kia_one PySem.W.kitx_dict I.kIn ⟨o,h1,h2.1⟩ e (fun z=>nomatch z) h
 | @ins a C dx fs ea cl ha hn htk hm=>
   cases (show u=Value.ref a from rx)
   obtain ⟨mA,O,_⟩:=QV I.hok ea
   obtain ⟨od,J,_⟩:=O.look
   exact PySem.W.kia_one (PySem.W.kitx_own (cl.get _) cl.hd ha hn htk hm) I.kIn J e (fun z=>nomatch z) h
end
structure Room (k:Nat) (A:Around):Prop where
 hd:A.handled=none
 dp:A.depth + 3 * k + 5 < recursionLimit
 un:A.units + 16 * k + 200 < cLine
theorem Room.mono {j k:Nat} {A:Around} (r:Room k A) (h:j≤k):Room j A:=⟨r.hd,by have:=r.dp;lia,by have:=r.un;lia⟩
theorem Room.deeper {k:Nat} {A:Around} (r:Room (k + 1) A) (env:Env):Room k (A.deeper env):=
 ⟨r.hd,by have:=r.dp;show A.depth + 1 + 3 * k + 5 < _;lia,by have:=r.un;show A.units + 3 + 16 * k + 200 < _;lia⟩
theorem M3 {A:Around} {C:Addr} {us:List Value} {kw:List (Str×Value)}:(A.under (.builtin "type.__call__" ⟨.ref C :: us,kw⟩)).depth=A.depth + 1:=by
 first | rfl | simp [Around.under,Code.weight,Code.isCreation,Code.isGuard,Code.isCaller,Code.frames,Code.isFrame,guardIds]
theorem M4 {A:Around} {C:Addr} {us:List Value} {kw:List (Str×Value)}:(A.under (.builtin "type.__call__" ⟨.ref C :: us,kw⟩)).units=A.units + 1:=by
 first | rfl | simp [Around.under,Code.cUnits,Code.frames,Code.isFrame]
theorem Room.make {k:Nat} {A:Around} (r:Room (k + 1) A) (C:Addr) (us:List Value) (kw:List (Str×Value)):Room k (A.under (.builtin "type.__call__" ⟨.ref C :: us,kw⟩)):=
 ⟨r.hd,by have:=r.dp;rw [M3];lia,by have:=r.un;rw [M4];lia⟩
theorem Room.depth {k:Nat} {A:Around} (r:Room k A):A.depth < recursionLimit:=by have:=r.dp;lia
theorem Room.units {k:Nat} {A:Around} (r:Room k A):A.units + 64 < cLine:=by have:=r.un;lia
def TQ:TA:=fun _ H Q=>Q [] H
def No (ta:TE) (tr:TA):TA:=fun σ H Q=>ta σ H fun x H1=>tr σ H1 fun xs H2=>Q (x :: xs) H2
section
variable {X:Cx} {e:Expr} {es:List Expr} {te:TE} {t:TA} {pos:Pos}
theorem GO:PA X [] TQ:=fun _ _ _ _ H Q I h=>Calls.spliced_nil ⟨[],H,I,.nil,h⟩
theorem D9 (ha:PE X e te) (hr:PA X es t) (hs:starEach (e :: es) X.env=(false,eval e X.env) :: starEach es X.env:=by rfl):PA X (e :: es) (No te t):=by
 intro pos pins s σ H Q I h
 rw [hs]
 show wpAny _ _ (spliced ((false,eval e X.env) :: backTo pos (starEach es X.env))) _ _ s
 refine Calls.spliced_cons (thn (ha pins s σ H _ I h) fun u s1 ⟨x,H1,I1,r1,q1⟩=>?_)
 exact thn (hr pos pins s1 σ H1 _ I1 q1) fun us s2 ⟨xs,H2,I2,r2,q2⟩=>⟨x :: xs,H2,I2,.cons r1 r2,q2⟩
def VP (t:TA):TE:=fun σ H Q=>t σ H fun xs H1=>xs.length≤sizeLine∧∀p,H1 p=none→Q (.ref p) (upd H1 p (.tup xs))
def VL (t:TA):TE:=fun σ H Q=>t σ H fun xs H1=>xs.length≤sizeLine∧∀p,H1 p=none→Q (.ref p) (upd H1 p (.lst xs))
theorem Oj {x1} (h:PA X es t):PE X (.Tuple es x1 pos) (VP t):=by
 intro pins s σ H Q I hq
 refine wpAny_Tuple_spliced (thn (h pos pins s σ H _ I hq) fun us s1 ⟨xs,H1,I1,r,z,q⟩=>⟨by rw [←r.length];exact z,?_⟩)
 have hf:H1 s1.heap.objs.size=none:=I1.hok.fresh (Nat.le_refl _)
 refine ⟨.ref s1.heap.objs.size,upd H1 s1.heap.objs.size (.tup xs),I1.laid (t':=s1.toks) (fun b u e=>Heap.get?_push_of_some _ e) (Nat.le_refl _) ?_,rfl,q _ hf⟩
 exact ⟨z,us,r,⟨_,Heap.get?_push_size _ rfl,rfl,_,rfl⟩⟩
theorem SU (h:PA X es t):PE X (.List es pos) (VL t):=by
 intro pins s σ H Q I hq
 refine wpAny_List_spliced (thn (h pos pins s σ H _ I hq) fun us s1 ⟨xs,H1,I1,r,z,q⟩=>⟨by rw [←r.length];exact z,?_⟩)
 have hf:H1 s1.heap.objs.size=none:=I1.hok.fresh (Nat.le_refl _)
 refine ⟨.ref s1.heap.objs.size,upd H1 s1.heap.objs.size (.lst xs),I1.laid (t':=s1.toks) (fun b u e=>Heap.get?_push_of_some _ e) (Nat.le_refl _) ?_,rfl,q _ hf⟩
 exact ⟨z,us,0,r,Heap.get?_push_size _ rfl⟩
end
abbrev Sp:=List V→Hp→VK→XK→Prop
abbrev CXT:=List Env→Hp→Shared→XK→Value→Shared→Prop
structure Env0 (P:Program) (w:World) (K:PySem.W.Frag) (mg:Str→Option Value) (base:Heap) (A:Around) (outer:List Env) (s:Shared) (H:Hp):Prop where
 frames:A.frames=some outer
 mod:Mod K mg base
 bs:∀b o,base.get? b=some o→s.heap.get? b=some o∧H b=none
 bsz:base.objs.size≤s.heap.objs.size
 funs:s.heap.FunFrames base outer
 frf:∀b∈frs outer,H b=none
 hok:HOk P w H s.heap
 bare:AllBare s.gens
def CE (outer:List Env) (P:Program) (w:World) (H:Hp) (s:Shared) (Q:VK) (u:Value) (s':Shared):Prop:=
 ∃v H',s'.os=s.os∧AllBare s'.gens∧Un (frs outer) [] H H' s.heap s'.heap∧HOk P w H' s'.heap∧RelV v u∧Q v H'
def CR (CX:CXT) (outer:List Env) (P:Program) (w:World) (H:Hp) (s:Shared) (Q:VK) (E:XK) (r:Result) (s':Shared):Prop:=
 match r with
 | .ok (.ret u)=>CE outer P w H s Q u s'
 | .ok _=>False
 | .error e=>CX outer H s E e s'
structure FnOk (P:Program) (w:World) (K:PySem.W.Frag) (mg:Str→Option Value) (base:Heap) (CX:CXT) (k:Nat) (f:Addr) (fd:FuncData) (ps:List Str) (sp:Sp):Prop where
 len:∀vs H Q E,sp vs H Q E→vs.length=ps.length
 run:∀(A:Around) (outer:List Env) (s:Shared) (H:Hp) (args:Args) (us:List Value) (vs:List V) (Q:VK) (E:XK),Room k A→Env0 P w K mg base A outer s H→BindsTo s fd args (ps.zip us)→Vals vs us→sp vs H Q E→
  codeAny (model P w) A (.call (.ref f) args) (CR CX outer P w H s Q E) s
theorem Env0.make {P:Program} {w:World} {K:PySem.W.Frag} {mg:Str→Option Value} {base:Heap} {A:Around} {outer:List Env} {s:Shared} {H:Hp} (e:Env0 P w K mg base A outer s H) (C:Addr) (us:List Value) (kw:List (Str×Value)) :
 Env0 P w K mg base (A.under (.builtin "type.__call__" ⟨.ref C :: us,kw⟩)) outer s H:=⟨by first | exact e.frames | (simpa [Around.under,Code.envs,Code.isFrame,pushEnvs] using e.frames),e.mod,e.bs,e.bsz,e.funs,e.frf,e.hok,e.bare⟩
section
variable {X:Cx} {pins:List (Addr×Obj)} {σ:St} {H:Hp} {s s':Shared}
theorem Inv.env0 (I:Inv X pins σ H s):Env0 X.prog X.w X.K X.mg X.base X.A X.stack s H:=
 ⟨I.ok.frames,I.ok.mod,I.bs,Nat.le_trans I.ok.bsz I.sz,I.stack,I.stkFree,I.hok,I.bare⟩
theorem Inv.after {Q:VK} {u:Value} (I:Inv X pins σ H s) (h:CE X.stack X.prog X.w H s Q u s'):EP X pins σ Q u s':=by
 obtain ⟨v,H',os,bare,un,hok,r,q⟩:=h
 obtain ⟨hh,g,d,t,os'⟩:=s'
 obtain rfl:os'=s.os:=os
 exact ⟨v,H',I.call (h':=hh) (g':=g) (d':=d) (t':=t) (ch:=[]) un hok bare (fun b z=>absurd z (by simp)),r,q⟩
end
def UB (sp:Sp) (dvs:List V) (E:XK) (t:TA):TE:=fun σ H Q=>t σ H fun vs H1=>sp (vs++dvs) H1 Q E
def Binds (K:PySem.W.Frag) (fd:FuncData) (ps:List Str) (ds:List Value):Prop:=
 ∀(s:Shared) (us:List Value),K.In s.heap→(us++ds).length=ps.length→BindsTo s fd ⟨us,[]⟩ (ps.zip (us++ds))
theorem Binds.all {K:PySem.W.Frag} {fd:FuncData} {ps:List Str} (h:∀us:List Value,us.length=ps.length→bindArgs fd ⟨us,[]⟩=pure (ps.zip us)):Binds K fd ps []:=fun s us _ hl=>by
 rw [List.append_nil] at hl ⊢
 exact .of_eq (h us hl)
def KB (CX:CXT) (X:Cx) (E:XK):Prop:=∀(pins:List (Addr×Obj)) (σ:St) (H:Hp) (s:Shared) (e:Value) (s':Shared),Inv X pins σ H s→CX X.stack H s E e s'→X.xe e s'
section
variable {X:Cx} {CX:CXT} {k:Nat} {f C:Addr} {fd:FuncData} {ps:List Str} {sp:Sp} {dvs:List V} {ds:List Value} {E:XK} {x m:Str} {p pos apos:Pos} {e o:Expr} {es:List Expr} {ta:TE} {t:TA}
theorem Tz {pins:List (Addr×Obj)} {σ:St} {H:Hp} {s:Shared} {Q:VK} {us:List Value} {vs:List V} (F:FnOk X.prog X.w X.K X.mg X.base CX k f fd ps sp) (hr:Room k X.A) (hb:Binds X.K fd ps ds) (hd:Vals dvs ds) (hx:KB CX X E)
 (I:Inv X pins σ H s) (r:Vals vs us) (h:sp (vs++dvs) H Q E):wpAny (model X.prog X.w) X.A (call (.ref f) us) (EP X pins σ Q) X.xe s:=by
 have r2:Vals (vs++dvs) (us++ds):=r.append hd
 have hl:(us++ds).length=ps.length:=by rw [←r2.length];exact F.len _ _ _ _ h
 refine wpAny_call (codeAny_mono (F.run X.A X.stack s H ⟨us,[]⟩ (us++ds) (vs++dvs) Q E hr I.env0 (hb s us I.kIn hl) r2 h) fun r s' hq=>?_)
 cases r with
 | error e=>exact hx pins σ H s e s' I hq
 | ok fl=>
   cases fl with
   | ret u=>exact I.after hq
   | next=>exact False.elim hq
   | brk=>exact False.elim hq
   | cont=>exact False.elim hq
theorem Mz (F:FnOk X.prog X.w X.K X.mg X.base CX k f fd ps sp) (hr:Room k X.A) (hg:Gl X x) (hm:X.mg x=some (.ref f)) (hk:PySem.W.keepIn X.K (.ref f)=true) (hb:Binds X.K fd ps ds) (hd:Vals dvs ds) (hx:KB CX X E)
 (ha:PA X (e :: es) t) (hdb:(x == ("__debug__" : Str))=false:=by decide) (he:starEach (e :: es) X.env=(false,eval e X.env) :: starEach es X.env:=by rfl) (hpl:(backTo pos (starEach es X.env)).any (·.1)=false:=by rfl) :
 PE X (.Call (.Name x p) (e :: es) [] pos) (UB sp dvs E t):=by
 intro pins s σ H Q I h
 refine wpAny_Call_Name_kw (E5 I hg hm ?_ hdb)
 refine PySem.W.callWith_K (h₀:=X.base) I.ok.mod.kin hk (thn (ha pos pins s σ H _ I h) fun us s1 ⟨vs,H1,I1,r,q⟩=>⟨I1.kIn,?_⟩) he hpl
 exact Tz F hr hb hd hx I1 r q
structure Mk (K:PySem.W.Frag) (C f:Addr):Prop where
 makes:PySem.W.makesIn K C=true
 init:PySem.W.findIn K (.ref C) "__init__" = some (some (.ref f))
 fn:PySem.W.isFn K (.ref f)=true
 kp:PySem.W.keepIn K (.ref C)=true
end
section
variable {X:Cx} {CX:CXT} {k:Nat} {f C:Addr} {fd:FuncData} {ps ks:List Str} {sp:Sp} {E:XK} {x m:Str} {p pos apos kpos:Pos} {e o:Expr} {es:List Expr} {kws:List Keyword} {te ta:TE} {t tk:TA} {nm:Option Str}
structure KBinds (K:PySem.W.Frag) (fd:FuncData) (ps ks:List Str) (g:List Value→List Value→List Value) (gV:List V→List V→List V):Prop where
 to:∀(s:Shared) (us ws:List Value),K.In s.heap→(g us ws).length=ps.length→BindsTo s fd ⟨us,ks.zip ws⟩ (ps.zip (g us ws))
 rel:∀{vs:List V} {us:List Value} {zs:List V} {ws:List Value},Vals vs us→Vals zs ws→Vals (gV vs zs) (g us ws)
variable {g:List Value→List Value→List Value} {gV:List V→List V→List V}
end
structure FnScope (N P:List Str) (sc:Scope):Prop where
 kind:sc.kind = .function
 co:sc.isCoroutine=false
 gen:sc.isGenerator=false
 nd:N.Nodup
 pre:N.take P.length=P
 par:∀x∈P,sc.names.lookup x=some .local∨sc.names.lookup x=some .cell
 nofree:∀y∈sc.names,y.2≠.free
theorem JM {kindOf:Str→Option NameKind} {x:Str}:∀{binds:List (Str×Value)} {m:Str→Option Value},(∀v,(x,v)∉binds)→bindL kindOf binds m x=m x
 | [],_,_=>rfl
 | (n,v) :: r,m,h=>by
   unfold bindL
   rw [JM fun w hw=>h w (List.mem_cons_of_mem _ hw)]
   split
   ·have:x≠n:=by rintro rfl;exact h v List.mem_cons_self
    simp [this]
   ·rfl
theorem JK {kindOf:Str→Option NameKind} {x:Str}:∀{binds:List (Str×Value)} {m:Str→Option Value},(∀v,(x,v)∉binds)→bindC kindOf binds m x=m x
 | [],_,_=>rfl
 | (n,v) :: r,m,h=>by
   unfold bindC
   rw [JK fun w hw=>h w (List.mem_cons_of_mem _ hw)]
   split
   ·rfl
   ·have:x≠n:=by rintro rfl;exact h v List.mem_cons_self
    simp [this]
theorem JL {kindOf:Str→Option NameKind} {x:Str} {v:Value}:∀{P:List Str} {vs:List Value} {i:Nat} {m:Str→Option Value},P.Nodup→P[i]?=some x→vs[i]?=some v→kindOf x=some .local→
 bindL kindOf (P.zip vs) m x=some v
 | [],_,_,_,_,h,_,_=>by simp at h
 | _ :: _,[],_,_,_,_,h,_=>by simp at h
 | p :: P,w :: vs,0,m,nd,h1,h2,hk=>by
   simp at h1 h2;subst h1;subst h2
   show bindL kindOf ((p,w) :: P.zip vs) m p=_
   unfold bindL
   rw [JM fun v hv=>(List.nodup_cons.mp nd).1 (List.of_mem_zip hv).1,if_pos hk]
   simp
 | p :: P,w :: vs,i + 1,m,nd,h1,h2,hk=>by
   show bindL kindOf ((p,w) :: P.zip vs) m x=_
   unfold bindL
   exact JL (i:=i) (List.nodup_cons.mp nd).2 (by simpa using h1) (by simpa using h2) hk
theorem JJ {kindOf:Str→Option NameKind} {x:Str} {v:Value}:∀{P:List Str} {vs:List Value} {i:Nat} {m:Str→Option Value},P.Nodup→P[i]?=some x→vs[i]?=some v→kindOf x≠some .local→
 bindC kindOf (P.zip vs) m x=some v
 | [],_,_,_,_,h,_,_=>by simp at h
 | _ :: _,[],_,_,_,_,h,_=>by simp at h
 | p :: P,w :: vs,0,m,nd,h1,h2,hk=>by
   simp at h1 h2;subst h1;subst h2
   show bindC kindOf ((p,w) :: P.zip vs) m p=_
   unfold bindC
   rw [JK fun v hv=>(List.nodup_cons.mp nd).1 (List.of_mem_zip hv).1,if_neg hk]
   simp
 | p :: P,w :: vs,i + 1,m,nd,h1,h2,hk=>by
   show bindC kindOf ((p,w) :: P.zip vs) m x=_
   unfold bindC
   exact JJ (i:=i) (List.nodup_cons.mp nd).2 (by simpa using h1) (by simpa using h2) hk
def D0 (N:List Str) (vs:List V):St:=vs.map some++List.replicate (N.length - vs.length) none
def EE (CX:CXT) (P:Program) (w:World) (K:PySem.W.Frag) (mg:Str→Option Value) (base:Heap) (N:List Str) (qual:Str) (scope:Scope) (f:Addr) (cd:Value) (A:Around) (outer:List Env) (s:Shared) (H:Hp) (E:XK):Cx where
 prog:=P
 w:=w
 K:=K
 mg:=mg
 base:=base
 A:=A.deeper (envOfC qual scope s.heap.objs.size f cd)
 N:=N
 s₀:=s
 H₀:=H
 env:=envOfC qual scope s.heap.objs.size f cd
 outer:=outer
 stack:=envOfC qual scope s.heap.objs.size f cd :: outer
 ex:=[]
 calm:=true
 fn:=fun _=>true
 pn:=[]
 xe:=fun e s'=>wpAny (model P w) (A.deeper (envOfC qual scope s.heap.objs.size f cd)) (leaving (envOfC qual scope s.heap.objs.size f cd) e) (fun _ s''=>CX outer H s E e s'') (fun e' s''=>CX outer H s E e' s'') s'
theorem KU {sc:Scope} {n:Nat} {x:Str} (h:sc.names.lookup x=some .cell):∃c,(cellsFrom n sc.names []).lookup x=some c:=by
 have q:=PySem.W.cellsFrom_some sc.names n [] (.inl h)
 exact Option.isSome_iff_exists.mp q
theorem N3 {CX:CXT} {P:Program} {w:World} {K:PySem.W.Frag} {mg:Str→Option Value} {base:Heap} {N ps:List Str} {qual:Str} {scope:Scope} {f:Addr} {cd:Value} {A:Around} {outer:List Env} {s s1:Shared} {H:Hp} {E:XK} {us:List Value} {vs:List V}
 (S:FnScope N ps scope) (hd:A.handled=none) (e0:Env0 P w K mg base A outer s H) (hl:vs.length=ps.length) (r:Vals vs us)
 (x:InCallC s s.heap.objs.size (bindL (envOfC qual scope s.heap.objs.size f cd).kindOf (ps.zip us) fun _=>none) (cellsFrom (s.heap.objs.size + 1) scope.names []) (bindC (envOfC qual scope s.heap.objs.size f cd).kindOf (ps.zip us) fun _=>none) s1) :
 Inv (EE CX P w K mg base N qual scope f cd A outer s H E) [] (D0 N vs) H s1:=by
 have hpl:ps.length≤N.length:=by have:=congrArg List.length S.pre;rw [List.length_take] at this;lia
 obtain ⟨h1,tk,rfl,hk⟩:=x.done
 have noA:∀b:Addr,b∉(EE CX P w K mg base N qual scope f cd A outer s H E).ex:=fun b z=>absurd (show b∈([]:List Addr) from z) (by simp)
 refine ⟨⟨e0.mod,S.kind,rfl,rfl,Nat.le_refl _,fun y z c h1 h2=>?_,fun y hy=>?_,fun y c _ h=>?_,fun _=>hd,Around.frames_deeper e0.frames,.inr ⟨rfl,rfl⟩,fun b z=>absurd z (noA b),e0.bs,e0.bsz,fun b _ _=>noA b,fun b z=>absurd z (noA b),e0.funs,e0.frf⟩,
  rfl,e0.bare,Un.kept hk,⟨_,x.toInCall.ns,fun i y v h1 h2 h3=>?_⟩,fun y c h=>⟨_,x.cell y c h⟩,e0.hok.fresh (Nat.le_refl _),fun y c h=>?_,fun p hp=>absurd (show p∈([]:List (Addr×Obj)) from hp) (by simp),e0.hok.kept hk,?_⟩
 ·exact name_of_addr x.apart (PySem.mem_of_lookup h1) (PySem.mem_of_lookup h2)
 ·have hy:scope.names.lookup y=some .cell∨scope.names.lookup y=some .free:=hy
  rcases hy with hy | hy
  ·exact KU hy
  ·exact absurd rfl (S.nofree _ (PySem.mem_of_lookup hy))
 ·exact Nat.le_of_lt (x.above y c (PySem.mem_of_lookup h))
 ·have hi:i < vs.length:=by
   unfold D0 at h2
   by_cases hi:i < vs.length
   ·exact hi
   ·rw [List.getElem?_append_right (by simpa using hi)] at h2
    rw [List.getElem?_replicate] at h2
    split at h2 <;> cases h2
  have ha:vs[i]?=some v:=by
   unfold D0 at h2
   rw [List.getElem?_append_left (by simpa using hi),List.getElem?_map] at h2
   cases e:vs[i]? with
   | none=>rw [e] at h2;cases h2
   | some a=>rw [e] at h2;cases h2;rfl
  obtain ⟨u,hu,rv⟩:=r.get ha
  have hp:ps[i]?=some y:=by
   rw [←S.pre,List.getElem?_take_of_lt (by lia)];exact h1
  have ndP:ps.Nodup:=by rw [←S.pre];exact S.nd.sublist (List.take_sublist _ _)
  refine ⟨u,rv,?_⟩
  rcases S.par y (List.mem_of_getElem? hp) with k | k
  ·exact .inl ⟨k,JL ndP hp hu k⟩
  ·obtain ⟨c,e⟩:=KU (n:=s.heap.objs.size + 1) k
   refine .inr ⟨.inl k,c,e,?_⟩
   have q:=x.cell y c e
   rw [JJ ndP hp hu (by show scope.names.lookup y≠_;rw [k];decide)] at q
   exact q
 ·exact e0.hok.fresh (Nat.le_of_lt (x.above y c (PySem.mem_of_lookup h)))
 ·unfold D0
  show _=N.length
  rw [List.length_append,List.length_map,List.length_replicate]
  lia
theorem Qc {CX:CXT} {P:Program} {w:World} {K:PySem.W.Frag} {mg:Str→Option Value} {base:Heap} {k:Nat} {f:Addr} {name qual:Str} {params:Arguments} {body:List Stmt} {scope:Scope} {dV kV doc pm cdv ct oc:Value} {an od:Option Addr}
 {osl:Array (Option Value)} {N ps:List Str} {sp:Sp} (lk:K.lookup f=some ⟨oc,od,.func (PySem.W.fnOf name qual params body scope dV kV doc pm an cdv ct),osl⟩) (hcd:PySem.W.codeIn K cdv qual=true) (S:FnScope N ps scope)
 (len:∀vs H Q E,sp vs H Q E→vs.length=ps.length)
 (hbody:∀(A:Around) (outer:List Env) (s:Shared) (H:Hp) (vs:List V) (Q:VK) (E:XK),Room k (A.deeper (envOfC qual scope s.heap.objs.size f cdv))→sp vs H Q E→
   ∃t,PSs (EE CX P w K mg base N qual scope f cdv A outer s H E) body t∧t { nx:=fun _ H'=>Q .non H',rt:=Q } (D0 N vs) H) :
 FnOk P w K mg base CX (k + 1) f (PySem.W.fnOf name qual params body scope dV kV doc pm an cdv ct) ps sp:=by
 refine ⟨len,fun A outer s H args us vs Q E hr e0 hb r hsp=>?_⟩
 have hl:=len _ _ _ _ hsp
 have KX:K.In s.heap:=e0.mod.kin.keeps fun b o e=>(e0.bs b o e).1
 have lim:s.heap.NoLimit:=e0.mod.nolimit.keeps fun b o e=>(e0.bs b o e).1
 have hkind:∀y∈ps.zip us,scope.names.lookup y.1=some .local∨(scope.names.lookup y.1=some .cell∧((cellsFrom (s.heap.objs.size + 1) scope.names []).lookup y.1).isSome=true):=fun ⟨n,v⟩ hy=>by
  rcases S.par n (List.of_mem_zip hy).1 with q | q
  ·exact .inl q
  ·exact .inr ⟨q,PySem.W.cellsFrom_some _ _ _ (.inl q)⟩
 refine codeAny_call_function hr.depth (KX _ _ lk) rfl S.co S.gen rfl (PySem.W.codeRec_of KX hcd) (hb _ _ _ _ ?_)
 refine wpAny_newFunctionEnv_cells S.kind hkind fun env he s1 x=>?_
 subst he
 refine ⟨lim.keeps x.toInCall.keep,codeAny_func ?_⟩
 obtain ⟨t,ht,hq⟩:=hbody A outer s H vs Q E (hr.deeper _) hsp
 have I:Inv (EE CX P w K mg base N qual scope f cdv A outer s H E) [] (D0 N vs) H s1:=N3 S hr.hd e0 hl r x
 refine wpAny_mono (ht [] s1 (D0 N vs) H _ I hq) (fun fl s' hs=>?_) fun e s' hs=>hs
 have fin:∀{σ':St} {H':Hp} {v:V} {u:Value},Inv (EE CX P w K mg base N qual scope f cdv A outer s H E) [] σ' H' s'→RelV v u→Q v H'→CE outer P w H s Q u s':=
  fun {σ' H' v u} J rv q=>⟨v,H',J.os,J.bare,J.base,J.hok,rv,q⟩
 cases fl with
 | ret u=>
   obtain ⟨v,σ',H',J,rv,q⟩:=hs
   exact fin J rv q
 | next=>
   obtain ⟨σ',H',J,q⟩:=hs
   exact fin (v:=V.non) (u:=Value.none) J rfl q
 | brk=>
   obtain ⟨_,_,_,q⟩:=hs
   exact False.elim q
 | cont=>
   obtain ⟨_,_,_,q⟩:=hs
   exact False.elim q
section
variable {X:Cx} {x:Str} {p pos:Pos} {e:Expr} {es:List Expr} {t:TA} {id T:String} {r:List V→Hp→VK→Prop}
def tCB (r:List V→Hp→VK→Prop) (t:TA):TE:=fun σ H Q=>t σ H fun vs H1=>r vs H1 Q
theorem Gm (hc:B2 X (.builtin id) r) (hg:Gl X x) (hm:X.mg x=none) (hv:bootBuiltins x=some (.builtin id)) (ha:PA X (e :: es) t) (hn:x≠"__name__":=by decide) (hdb:(x == ("__debug__" : Str))=false:=by decide)
 (he:starEach (e :: es) X.env=(false,eval e X.env) :: starEach es X.env:=by rfl) (hpl:(backTo pos (starEach es X.env)).any (·.1)=false:=by rfl):PE X (.Call (.Name x p) (e :: es) [] pos) (tCB r t):=by
 intro pins s σ H Q I h
 refine wpAny_Call_Name_kw (FS I hg hm hv ?_ hn hdb)
 exact PyProof.Rows.callWith_builtin1 (thn (ha pos pins s σ H _ I h) fun us s1 ⟨vs,H1,I1,r1,q1⟩=>hc pins s1 σ H1 vs us Q I1 r1 q1) he hpl
theorem J2 (hc:B2 X (.type T) r) (hg:Gl X x) (hm:X.mg x=none) (hv:bootBuiltins x=some (.type T)) (ha:PA X (e :: es) t) (hn:x≠"__name__":=by decide) (hdb:(x == ("__debug__" : Str))=false:=by decide)
 (he:starEach (e :: es) X.env=(false,eval e X.env) :: starEach es X.env:=by rfl) (hpl:(backTo pos (starEach es X.env)).any (·.1)=false:=by rfl):PE X (.Call (.Name x p) (e :: es) [] pos) (tCB r t):=by
 intro pins s σ H Q I h
 refine wpAny_Call_Name_kw (FS I hg hm hv ?_ hn hdb)
 exact PyProof.Rows.callWith_type1 (thn (ha pos pins s σ H _ I h) fun us s1 ⟨vs,H1,I1,r1,q1⟩=>hc pins s1 σ H1 vs us Q I1 r1 q1) he hpl
end
end L2
namespace HT
open PySem PyProof.Rows
section
open PySem.SeqAt
open PySem.AutoSeq1 (wpAny_loadPart')
open PySem.MeetsSeq PySem.MeetsSeq2 PySem.MeetsSeq3
end
section
variable {prog:Program} {w:World} {A:Around} {E:Value→Shared→Prop} {s:Shared}
theorem QE {t b:Addr} {vs ws:List Value} {Q:Value→Shared→Prop} (ht:IsTup s.heap t vs.toArray) (hb:IsTup s.heap b ws.toArray) (hv:vs≠[])
 (h1:ws=[]→Q (.ref t) s) (h2:ws≠[]→Q (.ref s.heap.objs.size) { s with heap:=s.heap.push { cls:=.type "tuple",data:=.seq (vs++ws).toArray } })
 (hsz:vs.length + ws.length≤sizeLine):wpAny (model prog w) A (binaryOp .Add (.ref t) (.ref b)) Q E s:=by
 obtain ⟨⟨cls,dd,data,sl⟩,ho,hc,n,hd⟩:=id ht
 obtain ⟨⟨cls2,dd2,data2,sl2⟩,ho2,hc2,n2,hd2⟩:=id hb
 simp only at hc hd hc2 hd2
 subst hc hd hc2 hd2
 have e:vs.toArray++ws.toArray=(vs++ws).toArray:=by simp
 by_cases hw:ws=[]
 ·exact concat_meets ⟨_,ho,rfl⟩ ⟨_,ho2,rfl⟩ noFill_tuple_add seq_tuple_add PySem.F.slot_tuple_add PySem.F.entry_tuple_add (PySem.F.args_tuple_add_2 _ _)
   (tuple_addW1 t b vs.toArray ws.toArray n n2 dd dd2 sl sl2 (by simpa using hv) (by simp [hw])) ⟨ho,ho2,h1 hw⟩
 ·refine concat_meets ⟨_,ho,rfl⟩ ⟨_,ho2,rfl⟩ noFill_tuple_add seq_tuple_add PySem.F.slot_tuple_add PySem.F.entry_tuple_add (PySem.F.args_tuple_add_2 _ _)
   (tuple_addW2 t b vs.toArray ws.toArray n n2 dd dd2 sl sl2 (by simpa using hv) (by simpa using hw) (by rw [List.size_toArray,List.size_toArray];exact hsz)) ⟨ho,ho2,?_⟩
  rw [e]
  exact h2 hw
def sIx (n d:Nat):Option Int→Nat
 | none=>d
 | some v=>if v < 0 then (v + (n:Int)).toNat else min v.toNat n
theorem TB (n d:Nat) (hd:d≤n) (o:Option Int):sIx n d o≤n:=by
 cases o with
 | none=>exact hd
 | some v=>
   show (if v < 0 then (v + (n:Int)).toNat else min v.toNat n)≤n
   by_cases hv:v < 0
   ·rw [if_pos hv];lia
   ·rw [if_neg hv];exact Nat.min_le_right _ _
theorem Mg (v:Int) (n d:Nat):(if v < 0 then max (v + (n:Int)) 0 else min v (n:Int))=((sIx n d (some v):Nat):Int):=by
 show (if v < 0 then max (v + (n:Int)) 0 else min v (n:Int))=(((if v < 0 then (v + (n:Int)).toNat else min v.toNat n):Nat):Int)
 by_cases hv:v < 0
 ·simp only [if_pos hv];lia
 ·simp only [if_neg hv];lia
theorem MM (lo hi:Option Int) (n:Nat):Builtin.Slice.sliceAdjust lo hi 1 (n:Int)=(((sIx n 0 lo:Nat):Int),((sIx n n hi:Nat):Int)):=by
 have h1:¬((1:Int) < 0):=by lia
 unfold Builtin.Slice.sliceAdjust
 simp only [h1,if_false]
 refine Prod.ext ?_ ?_
 ·cases lo with
  | none=>rfl
  | some v=>exact Mg v n 0
 ·cases hi with
  | none=>rfl
  | some v=>exact Mg v n n
theorem Nf (i j:Nat):Builtin.Slice.slicePlaces (i:Int) (j:Int) 1=j - i:=by
 unfold Builtin.Slice.slicePlaces
 have h1:(1:Int) > 0:=by lia
 simp only [h1,if_true,Int.ediv_one]
 split <;> lia
theorem IO {v:Value} {o:Option Int} {Q:Option Int→Shared→Prop} (p:IsPart v o) (h:Q o s):wpAny (model prog w) A (Builtin.Slice.slicePartIndex v) Q E s:=by
 cases p with
 | none=>exact slicePart_none h
 | int i t=>exact slicePart_int h
theorem Fp {sl:Addr} {vl vu:Value} {lo hi:Option Int} {n:Nat} {Q:Int×Int×Nat→Shared→Prop} (hs:s.heap.IsSliceOf sl vl vu .none) (pl:IsPart vl lo) (pu:IsPart vu hi)
 (h:Q (((sIx n 0 lo:Nat):Int),1,sIx n n hi - sIx n 0 lo) s):wpAny (model prog w) A (Builtin.Slice.sliceApplied (.ref sl) (pure (n:Int))) Q E s:=by
 obtain ⟨os,hos,hcs,hds⟩:=id hs
 unfold Builtin.Slice.sliceApplied Builtin.Slice.sliceFields
 refine wpAny_bind (wpAny_bind (wpAny_field hos hds (x:=vl) rfl (wpAny_bind (wpAny_field hos hds (x:=vu) rfl (wpAny_bind (wpAny_field hos hds (x:=.none) rfl (wpAny_pure ?_)))))))
 refine wpAny_bind (slicePart_none ?_)
 show wpAny _ _ (if ((1:Int) == 0)=true then _ else _) _ _ s
 rw [if_neg (by decide)]
 refine wpAny_bind (IO pl (wpAny_bind (IO pu (wpAny_bind (wpAny_pure ?_)))))
 show wpAny _ _ (match Builtin.Slice.sliceAdjust lo hi 1 (n:Int) with | (lo,hi)=>pure (lo,(1:Int),Builtin.Slice.slicePlaces lo hi 1)) _ _ s
 rw [MM lo hi n]
 show wpAny _ _ (pure (((sIx n 0 lo:Nat):Int),(1:Int),Builtin.Slice.slicePlaces ((sIx n 0 lo:Nat):Int) ((sIx n n hi:Nat):Int) 1)) _ _ s
 rw [Nf]
 exact wpAny_pure h
theorem Pm (xs:Array Value) (i k:Nat):((List.range k).filterMap fun (m:Nat)=>xs[((i:Int) + (m:Int) * 1).toNat]?).toArray=((xs.toList.drop i).take k).toArray:=by
 have e:(fun (m:Nat)=>xs[((i:Int) + (m:Int) * 1).toNat]?)=fun m=>xs[i + m]?:=by
  funext m
  have:((i:Int) + (m:Int) * 1).toNat=i + m:=by lia
  rw [this]
 rw [e]
 have:=pick_run xs i k
 rw [List.filterMap_map] at this
 have e2:((fun x=>xs[x]?) ∘ fun x=>i + x)=fun m=>xs[i + m]?:=rfl
 rw [e2] at this
 rw [this]
theorem Hl {t sl:Addr} {items:Array Value} {vl vu:Value} {lo hi:Option Int} {Q:Value→Shared→Prop} (ht:IsTup s.heap t items) (hs:s.heap.IsSliceOf sl vl vu .none) (pl:IsPart vl lo) (pu:IsPart vu hi)
 (hw:¬(sIx items.size 0 lo=0∧sIx items.size items.size hi=items.size))
 (h:Q (.ref s.heap.objs.size) { s with heap:=s.heap.push { cls:=.type "tuple",data:=.seq ((items.toList.drop (sIx items.size 0 lo)).take (sIx items.size items.size hi - sIx items.size 0 lo)).toArray } })
 (hsz:items.size≤sizeLine):wpAny (model prog w) A (getItem (.ref t) (.ref sl)) Q E s:=by
 have htake:sizeOk (.seq ((items.toList.drop (sIx items.size 0 lo)).take (sIx items.size items.size hi - sIx items.size 0 lo)).toArray):=by
  show ((items.toList.drop (sIx items.size 0 lo)).take (sIx items.size items.size hi - sIx items.size 0 lo)).toArray.size≤sizeLine
  rw [List.size_toArray,List.length_take,List.length_drop,Array.length_toList]
  lia
 have hj:sIx items.size items.size hi≤items.size:=TB _ _ (Nat.le_refl _) hi
 obtain ⟨os,hos,hcs,hds⟩:=id hs
 have hTs:s.TypeIs (.ref sl) "slice":=⟨os,hos,hcs⟩
 unfold getItem
 try with_reducible refine wpAny_holding ?_
 first | refine wpAny_bind (wpAny_pure ?_) | skip
 refine wpAny_bind (wpAny_sequenceKey ht.typeIs (by decide) ?_)
 refine wpAny_bind (wpAny_callSpecial?_slot (name:=Str.ofString "__getitem__") ht.typeIs PyProof.Rows.slot_tuple_getitem
  (wpAny_call_entry PyProof.Rows.slot_tuple_getitem ht.typeIs entry_tuple_getitem ?_ (args_tuple_getitem _ _)))
 show wpAny _ _ (Builtin.Tuple.tupleItemsOf (.ref t) >>= _) _ _ s
 refine wpAny_bind (tupleItemsOf_ ht ?_)
 refine wpAny_bind (wpAny_typeOf hTs ?_)
 rw [if_pos (by decide)]
 refine wpAny_bind (Fp hs pl pu ?_)
 have hno:¬((((sIx items.size 0 lo:Nat):Int) == 0 && (1:Int) == 1 && (sIx items.size items.size hi - sIx items.size 0 lo) == items.size)=true):=by
  intro q
  rw [Bool.and_eq_true,Bool.and_eq_true] at q
  have q1:((sIx items.size 0 lo:Nat):Int)=0:=eq_of_beq q.1.1
  have q2:sIx items.size items.size hi - sIx items.size 0 lo=items.size:=eq_of_beq q.2
  exact hw ⟨by lia,by lia⟩
 show wpAny _ _ (if (((sIx items.size 0 lo:Nat):Int) == 0 && (1:Int) == 1 && (sIx items.size items.size hi - sIx items.size 0 lo) == items.size)=true then _ else _) _ _ s
 rw [if_neg hno,Pm]
 first
  | exact wpAny_bind (m:=Builtin.Tuple.tupleExact _) (wpAny_newObj_type (wpAny_pure ⟨_,rfl,wpAny_pure h⟩) htake)
  | exact wpAny_bind (m:=Builtin.Tuple.tupleExact _) (wpAny_newObj_type (wpAny_bind (wpAny_pure (wpAny_pure ⟨_,rfl,wpAny_pure h⟩))) htake)
  | exact wpAny_bind (wpAny_bind (m:=Builtin.Tuple.tupleExact _) (wpAny_newObj_type (wpAny_pure (wpAny_pure ⟨_,rfl,wpAny_pure h⟩)) htake))
  | exact wpAny_bind (wpAny_bind (m:=Builtin.Tuple.tupleExact _) (wpAny_newObj_type (wpAny_pure ⟨_,rfl,wpAny_pure h⟩) htake))
end
end HT
namespace L2
open PySem PySem.Spec PyProof.Rows
abbrev TO:=St→Hp→(Option Int→Hp→Prop)→Prop
def PO (X:Cx) (e:Option Expr) (t:TO):Prop:=
 ∀(pins:List (Addr×Obj)) (s:Shared) (σ:St) (H:Hp) (Q:Option Int→Hp→Prop),Inv X pins σ H s→t σ H Q→
  wpAny (model X.prog X.w) X.A (evalPart e X.env) (fun u s'=>∃o H',Inv X pins σ H' s'∧IsPart u o∧Q o H') X.xe s
def RK:TO:=fun _ H Q=>Q none H
def UE (t:TE):TO:=fun σ H Q=>t σ H fun x H1=>∃i,x = .int i∧Q (some i) H1
theorem MZ {ns:List Int}:∀{us:List Value},Vals (ns.map V.int) us→IntsAre us ns:=by
 induction ns with
 | nil=>intro us r;rw [List.map_nil] at r;cases r;exact .nil
 | cons n ns ih=>
   intro us r
   rw [List.map_cons] at r
   cases r with
   | cons r1 r2=>
     obtain ⟨t,e⟩:=r1
     subst e
     exact .cons n t (ih r2)
section
variable {X:Cx} {e:Expr} {te:TE} {lo hi:Option Expr} {tl th:TO} {pos p2:Pos}
theorem Rl:PO X none RK:=by
 intro pins s σ H Q I h
 rw [evalPart_none]
 exact wpAny_pure ⟨none,H,I,.none,h⟩
theorem Rm (h:PE X e te):PO X (some e) (UE te):=by
 intro pins s σ H Q I hw
 rw [evalPart_some]
 refine thn (h pins s σ H _ I hw) fun u s1 ⟨x,H1,I1,r1,q1⟩=>?_
 obtain ⟨i,rfl,q⟩:=q1
 obtain ⟨t,rfl⟩:=r1
 exact ⟨some i,H1,I1,.int i t,q⟩
def SlR (X:Cx) (r:V→Option Int→Option Int→Hp→VK→Prop):Prop:=
 ∀(pins:List (Addr×Obj)) (s:Shared) (σ:St) (H:Hp) (x:V) (v vl vu:Value) (lo hi:Option Int) (sl:Addr) (Q:VK),Inv X pins σ H s→RelV x v→s.heap.IsSliceOf sl vl vu .none→IsPart vl lo→IsPart vu hi→r x lo hi H Q→
  ∃T id,typeLookup (.type T) "__getitem__" = pure (some (.builtin id))∧s.TypeIs v T∧wpAny (model X.prog X.w) X.A (getItem v (.ref sl)) (EP X pins σ Q) X.xe s
theorem SlR.or {r r':V→Option Int→Option Int→Hp→VK→Prop} (h:SlR X r) (h':SlR X r'):SlR X (fun x lo hi H Q=>r x lo hi H Q∨r' x lo hi H Q):=by
 intro pins s σ H x v vl vu lo hi sl Q I rx hs pl pu q
 rcases q with q | q
 ·exact h pins s σ H x v vl vu lo hi sl Q I rx hs pl pu q
 ·exact h' pins s σ H x v vl vu lo hi sl Q I rx hs pl pu q
def tSl (r:V→Option Int→Option Int→Hp→VK→Prop) (te:TE) (tl th:TO):TE:=fun σ H Q=>te σ H fun x H1=>tl σ H1 fun l H2=>th σ H2 fun u H3=>r x l u H3 Q
theorem Pk {r:V→Option Int→Option Int→Hp→VK→Prop} (hr:SlR X r) (he:PE X e te) (hl:PO X lo tl) (hu:PO X hi th):PE X (.Subscript e (.Slice lo hi none p2) pos) (tSl r te tl th):=by
 intro pins s σ H Q I h
 refine Subscript_ (thn (he pins s σ H _ I h) fun v s1 ⟨x,H1,I1,r1,q1⟩=>?_)
 refine wpAny_Slice (thn (hl pins s1 σ H1 _ I1 q1) fun vl s2 ⟨l,H2,I2,pl,q2⟩=>thn (hu pins s2 σ H2 _ I2 q2) fun vu s3 ⟨u,H3,I3,pu,q3⟩=>?_)
 rw [evalPart_none]
 refine wpAny_pure ?_
 have I4:Inv X pins σ H3 { s3 with heap:=s3.heap.push { cls:=.type "slice",data:=.fields #[vl,vu,.none] } }:=I3.kept (t':=s3.toks) fun b ob q=>Heap.get?_push_of_some _ q
 obtain ⟨T,id,hT,ht,hg⟩:=hr pins { s3 with heap:=s3.heap.push { cls:=.type "slice",data:=.fields #[vl,vu,.none] } } σ H3 x v vl vu l u s3.heap.objs.size Q I4 r1 (Heap.IsSliceOf.new ..) pl pu q3
 show wpAny (model X.prog X.w) X.A (subscriptTail e (.Slice lo hi none p2) v (.ref s3.heap.objs.size)) (EP X pins σ Q) X.xe { s3 with heap:=s3.heap.push { cls:=.type "slice",data:=.fields #[vl,vu,.none] } }
 exact tail_any (ops:=[.ref s3.heap.objs.size,v]) ht hT hg (by with_unfolding_all rfl)
def F8 (xs:List V) (lo hi:Option Int):List V:=(xs.drop (HT.sIx xs.length 0 lo)).take (HT.sIx xs.length xs.length hi - HT.sIx xs.length 0 lo)
theorem Hm (xs:List V) (lo hi:Option Int):(F8 xs lo hi).length≤xs.length:=by
 unfold F8
 rw [List.length_take,List.length_drop]
 lia
def Tt (K:PySem.W.Frag):V→Option Int→Option Int→Hp→VK→Prop:=fun x lo hi H Q=>∃a xs,x = .ref a∧SqT K H a xs∧
 ¬(HT.sIx xs.length 0 lo=0∧HT.sIx xs.length xs.length hi=xs.length)∧∀p,H p=none→Q (.ref p) (upd H p (.tup (F8 xs lo hi)))
theorem TJ:SlR X (Tt X.K):=by
 intro pins s σ H x v vl vu lo hi sl Q I rx hs pl pu h
 obtain ⟨a,xs,rfl,hx,hw,q⟩:=h
 cases rx
 obtain ⟨its,r,ht,hz⟩:=I.tuple hx
 have hlen:its.toArray.size=xs.length:=by rw [List.size_toArray];exact r.length.symm
 refine ⟨"tuple",_,PyProof.Rows.slot_tuple_getitem.lookup,ht.typeIs,?_⟩
 refine HT.Hl ht hs pl pu (by rw [hlen];exact hw) ?_ (by rw [hlen];exact hz)
 rw [hlen]
 refine ⟨.ref s.heap.objs.size,_,I.laid (t':=s.toks) (o:=.tup (F8 xs lo hi)) (fun b ob q=>Heap.get?_push_of_some _ q) (Nat.le_refl _) ?_,rfl,q _ (I.hok.fresh (Nat.le_refl _))⟩
 exact ⟨Nat.le_trans (Hm xs lo hi) hz,_,(r.drop (HT.sIx xs.length 0 lo)).take (HT.sIx xs.length xs.length hi - HT.sIx xs.length 0 lo),IsTup.new _ _⟩
def Qk (K:PySem.W.Frag):R2:=fun x y H Q=>∃a b xs ys,x = .ref a∧y = .ref b∧SqT K H a xs∧SqT K H b ys∧xs≠[]∧xs.length + ys.length≤sizeLine∧
 (ys=[]→Q (.ref a) H)∧(ys≠[]→∀p,H p=none→Q (.ref p) (upd H p (.tup (xs++ys))))
theorem Vals.nil_iff {xs:List V} {us:List Value} (r:Vals xs us):us=[]↔xs=[]:=by
 cases r with
 | nil=>simp
 | cons _ _=>simp
theorem Ra:OpR X (binaryOp .Add) (Qk X.K):=by
 intro pins s σ H x y v u Q I rx ry h
 obtain ⟨a,b,xs,ys,rfl,rfl,ha,hb,hx,hz,q1,q2⟩:=h
 cases rx
 cases ry
 obtain ⟨its,r1,p1,_⟩:=I.tuple ha
 obtain ⟨its2,r2,p2,_⟩:=I.tuple hb
 refine HT.QE p1 p2 (fun z=>hx (r1.nil_iff.mp z)) (fun z=>⟨.ref a,H,I,rfl,q1 (r2.nil_iff.mp z)⟩) (fun z=>?_) (by rw [←r1.length,←r2.length];exact hz)
 refine ⟨.ref s.heap.objs.size,_,I.laid (t':=s.toks) (o:=.tup (xs++ys)) (fun b ob q=>Heap.get?_push_of_some _ q) (Nat.le_refl _) ?_,rfl,q2 (fun w=>z (r2.nil_iff.mpr w)) _ (I.hok.fresh (Nat.le_refl _))⟩
 exact ⟨by rw [List.length_append];exact hz,_,r1.append r2,IsTup.new _ _⟩
end
def ixN (n:Nat) (i:Int):Option Nat:=if 0≤i then (if i < n then some i.toNat else none) else if -(n:Int)≤i then some (i + n).toNat else none
def atI {α:Type} (xs:List α) (i:Int):Option α:=(ixN xs.length i).bind fun j=>xs[j]?
theorem Mq {n:Nat} {i:Int} {j:Nat} (h:ixN n i=some j):seqIndex? i n=some j∧j < n∧-(n:Int)≤i∧i < n:=by
 unfold ixN at h
 by_cases h0:0≤i
 ·rw [if_pos h0] at h
  by_cases h1:i < n
  ·rw [if_pos h1] at h
   have e:i.toNat=j:=Option.some.inj h
   exact ⟨by rw [seqIndex_of h0 h1,e],by lia,by lia,h1⟩
  ·rw [if_neg h1] at h;cases h
 ·rw [if_neg h0] at h
  by_cases h1 : -(n:Int)≤i
  ·rw [if_pos h1] at h
   have e:(i + n).toNat=j:=Option.some.inj h
   exact ⟨by rw [seqIndex_neg (by lia) h1,e],by lia,h1,by lia⟩
  ·rw [if_neg h1] at h;cases h
theorem IW {α:Type} {xs:List α} {i:Int} {v:α} (h:atI xs i=some v):∃j,seqIndex? i xs.length=some j∧xs[j]?=some v∧j < xs.length∧-(xs.length:Int)≤i∧i < xs.length:=by
 unfold atI at h
 cases e:ixN xs.length i with
 | none=>rw [e] at h;cases h
 | some j=>
   rw [e] at h
   obtain ⟨h1,h2,h3,h4⟩:=Mq e
   exact ⟨j,h1,h,h2,h3,h4⟩
theorem CP {α:Type} {xs:List α} {j:Nat} {v:α} (h:xs[j]?=some v):atI xs (j:Int)=some v:=by
 have hj:j < xs.length:=(List.getElem?_eq_some_iff.mp h).1
 have e:ixN xs.length (j:Int)=some j:=by
  unfold ixN
  rw [if_pos (by lia),if_pos (by lia)];simp
 unfold atI;rw [e];exact h
def IT (b:Expr):Prop:=∀o i,subscripted b false o i=operate [o,i] (getItem o i)
def IxR (X:Cx) (r:R2):Prop:=
 ∀(value slice:Expr) (pins:List (Addr×Obj)) (s:Shared) (σ:St) (H:Hp) (x y:V) (v u:Value) (Q:VK),Inv X pins σ H s→RelV x v→RelV y u→r x y H Q→
  subscripted slice false v u=operate [v,u] (getItem v u)→wpAny (model X.prog X.w) X.A (subscriptTail value slice v u) (EP X pins σ Q) X.xe s
def MtR (X:Cx) (id:String) (r:V→List V→Hp→VK→Prop):Prop:=
 ∀(pins:List (Addr×Obj)) (s:Shared) (σ:St) (H:Hp) (x:V) (xs:List V) (v:Value) (us:List Value) (Q:VK),Inv X pins σ H s→RelV x v→Vals xs us→r x xs H Q→
  wpAny (model X.prog X.w) X.A (call (.builtin id) (v :: us)) (EP X pins σ Q) X.xe s
section
variable {X:Cx} {a b:Expr} {ta tb:TE} {pos:Pos}
theorem IxR.or {r r':R2} (h:IxR X r) (h':IxR X r'):IxR X (fun x y H Q=>r x y H Q∨r' x y H Q):=by
 intro value slice pins s σ H x y v u Q I rx ry q hs
 rcases q with q | q
 ·exact h value slice pins s σ H x y v u Q I rx ry q hs
 ·exact h' value slice pins s σ H x y v u Q I rx ry q hs
theorem Qh {r:R2} (hr:IxR X r) (ha:PE X a ta) (hb:PE X b tb) (hs:IT b):PE X (.Subscript a b pos) (tOp r ta tb):=by
 intro pins s σ H Q I h
 exact Subscript_ (OP ha hb I h fun v u s2 x y H2 I2 rx ry q=>hr a b pins s2 σ H2 x y v u Q I2 rx ry q (hs _ _))
def Tm (K:PySem.W.Frag):R2:=fun x y H Q=>∃p xs i v,x = .ref p∧y = .int i∧SqL K H p xs∧atI xs i=some v∧Q v H
def To (K:PySem.W.Frag):R2:=fun x y H Q=>∃p xs i v,x = .ref p∧y = .int i∧SqT K H p xs∧atI xs i=some v∧Q v H
def Tn:R2:=fun x y H Q=>∃z i c,x = .str z∧y = .int i∧z.length≤sizeLine∧atI z.cps.toList i=some c∧Q (.str ⟨#[c]⟩) H
theorem ix_list:IxR X (Tm X.K):=by
 intro value slice pins s σ H x y v u Q I rx ry h hs
 obtain ⟨p,xs,i,z,rfl,rfl,hq,he,q⟩:=h
 cases rx
 obtain ⟨t,rfl⟩:=ry
 obtain ⟨its,r,pl,hz⟩:=I.list hq
 obtain ⟨j,h1,h2,h3,h4,h5⟩:=IW he
 obtain ⟨w,ew,rw'⟩:=r.get h2
 have hl:=r.length
 have hn:=GM
 have fin:EP X pins σ Q w s:=⟨z,H,I,rw',q⟩
 by_cases h0:0≤i
 ·have hj:i.toNat=j:=by
   rw [seqIndex_of h0 h5] at h1
   exact Option.some.inj h1
  exact item_listR pl.isList h0 (by lia) (by rw [hj];simpa using ew) fin hs
 ·have hj:(i + (its.toArray.size:Int)).toNat=j:=by
   rw [seqIndex_neg (by lia) h4] at h1
   rw [List.size_toArray,←hl]
   exact Option.some.inj h1
  exact subscriptTail_builtinR (x:=w) pl.isList.typeIs slot_list_getitem.lookup
   (wpAny_getItem_list_neg (Q:=fun r s'=>r=w∧EP X pins σ Q r s') pl.isList (by lia) (by rw [List.size_toArray] <;> lia) (by lia) (by rw [hj];simpa using ew) ⟨rfl,fin⟩) hs
theorem ix_tup:IxR X (To X.K):=by
 intro value slice pins s σ H x y v u Q I rx ry h hs
 obtain ⟨p,xs,i,z,rfl,rfl,hq,he,q⟩:=h
 cases rx
 obtain ⟨t,rfl⟩:=ry
 obtain ⟨its,r,pl,hz⟩:=I.tuple hq
 obtain ⟨j,h1,h2,h3,h4,h5⟩:=IW he
 obtain ⟨w,ew,rw'⟩:=r.get h2
 have hl:=r.length
 have hn:=GM
 have fin:EP X pins σ Q w s:=⟨z,H,I,rw',q⟩
 exact subscriptTail_builtinR (x:=w) pl.typeIs slot_tuple_getitem.lookup
  (getItem_tuple (j:=j) (Q:=fun r s'=>r=w∧EP X pins σ Q r s') pl (by lia) (by lia) (by rw [List.size_toArray,←hl];exact h1) (by simpa using ew) ⟨rfl,fin⟩) hs
theorem SD:IxR X Tn:=by
 intro value slice pins s σ H x y v u Q I rx ry h hs
 obtain ⟨z,i,c,rfl,rfl,hz,he,q⟩:=h
 obtain ⟨t,rfl⟩:=rx
 obtain ⟨t',rfl⟩:=ry
 obtain ⟨j,h1,h2,h3,h4,h5⟩:=IW he
 have hl:z.cps.toList.length=z.length:=by simp [Str.length]
 rw [hl] at h1 h4 h5
 have hn:=GM
 exact tail_any (typeIs_str s z t) slot_str_getitem.lookup (getItem_str (c:=c) (by
  have e1:decide (i < -(2 ^ 63:Int))=false:=decide_eq_false (by lia)
  have e2:decide (i ≥ 2 ^ 63)=false:=decide_eq_false (by lia)
  rw [e1,e2,Bool.or_false]) (by rw [h1];simpa using h2) ⟨.str ⟨#[c]⟩,H,I.tok _,⟨_,rfl⟩,q⟩) hs
def rIx (K:PySem.W.Frag):R2:=fun x y H Q=>Tm K x y H Q∨To K x y H Q∨Tn x y H Q
theorem Ak:IxR X (rIx X.K):=ix_list.or (ix_tup.or SD)
theorem M5 (its:List Value) (n j:Nat) (u:Value):Obj.mapSeq (·.setIfInBounds j u) { cls:=.type "list",data:=.seq its.toArray n } = { cls:=.type "list",data:=.seq (its.set j u).toArray n }:=by
 simp [Obj.mapSeq]
theorem Inv.lst {pins:List (Addr×Obj)} {σ:St} {H:Hp} {s:Shared} {p:Addr} {xs:List V} (I:Inv X pins σ H s) (h:H p=some (.lst xs)) :
 ∃(its:List Value) (n:Nat),Vals xs its∧s.heap.get? p=some { cls:=.type "list",data:=.seq its.toArray n }∧xs.length≤sizeLine:=by
 obtain ⟨z,its,n,r,e⟩:=I.hok p _ h
 exact ⟨its,n,r,e,z⟩
theorem Inv.lstUpd {pins:List (Addr×Obj)} {σ:St} {H:Hp} {s:Shared} {p:Addr} {xs ys:List V} {its its':List Value} {n n':Nat} {f:Obj→Obj} (I:Inv X pins σ H s) (h:H p=some (.lst xs))
 (ho:s.heap.get? p=some { cls:=.type "list",data:=.seq its.toArray n }) (hf:f { cls:=.type "list",data:=.seq its.toArray n } = { cls:=.type "list",data:=.seq its'.toArray n' }) (r:Vals ys its') (hz:ys.length≤sizeLine) (t:Nat) :
 Inv X pins σ (upd H p (.lst ys)) { s with heap:=s.heap.update p f,toks:=t }:=by
 have e:(s.heap.update p f).get? p=some { cls:=.type "list",data:=.seq its'.toArray n' }:=by
  rw [Heap.get?_update_self f ho (by rw [hf] <;> rfl),hf]
 refine I.write (x:=p) (e:=p) (by rw [h];trivial) (.inl rfl) (fun b u hb q=>(Heap.get?_update_other _ _ (Ne.symm hb)).trans q) ⟨_,e⟩ ?_
 exact ⟨hz,its',n',r,e⟩
def Uw:V→V→V→Hp→(Hp→Prop)→Prop:=fun o i v H Q=>∃p xs k j,o = .ref p∧i = .int k∧H p=some (.lst xs)∧ixN xs.length k=some j∧Q (upd H p (.lst (xs.set j v)))
theorem LB:Sa X Uw:=by
 intro pins s σ H o i v ov iv u Q I ro ri rv h
 obtain ⟨p,xs,k,j,rfl,rfl,hp,hj,q⟩:=h
 cases ro
 obtain ⟨t,rfl⟩:=ri
 obtain ⟨its,n,r,ho,hz⟩:=I.lst hp
 obtain ⟨h1,h2,h3,h4⟩:=Mq hj
 have hl:=r.length
 have hn:=GM
 have I':Inv X pins σ (upd H p (.lst (xs.set j v))) { s with heap:=s.heap.update p (Obj.mapSeq (·.setIfInBounds j u)) }:=
  I.lstUpd hp ho (M5 its n j u) (r.set rv j) (by rw [List.length_set];exact hz) s.toks
 by_cases h0:0≤k
 ·have hk:k.toNat=j:=by
   rw [seqIndex_of h0 h4] at h1
   exact Option.some.inj h1
  exact PySem.W.ki_setAt ho h0 (by lia) (by rw [List.size_toArray,←hl];exact h4) (by rw [hk];exact ⟨_,I',q⟩)
 ·have hk:(k + (its.toArray.size:Int)).toNat=j:=by
   rw [seqIndex_neg (by lia) h3] at h1
   rw [List.size_toArray,←hl]
   exact Option.some.inj h1
  exact PySem.W.ki_setBack ho (by lia) (by rw [List.size_toArray,←hl];exact h3) (by lia) (by rw [hk];exact ⟨_,I',q⟩)
theorem LI (lo hi:Option Int) (n:Nat):(sliceBounds lo hi none n).1=((HT.sIx n 0 lo:Nat):Int)∧(sliceBounds lo hi none n).2.1=((HT.sIx n n hi:Nat):Int)∧(sliceBounds lo hi none n).2.2=1:=by
 refine ⟨?_,?_,rfl⟩
 ·cases lo with
  | none=>simp [sliceBounds,HT.sIx]
  | some i=>
    simp only [sliceBounds,HT.sIx,Option.getD_none,show (1:Int) > 0 by decide,if_true]
    by_cases h:i < 0
    ·simp only [h,if_true] <;> lia
    ·simp only [h,if_false] <;> lia
 ·cases hi with
  | none=>simp [sliceBounds,HT.sIx]
  | some i=>
    simp only [sliceBounds,HT.sIx,Option.getD_none,show (1:Int) > 0 by decide,if_true]
    by_cases h:i < 0
    ·simp only [h,if_true] <;> lia
    ·simp only [h,if_false] <;> lia
theorem Kp (its:List Value) (lo hi:Option Int):slicePick its.toArray lo hi none=((its.drop (HT.sIx its.length 0 lo)).take (HT.sIx its.length its.length hi - HT.sIx its.length 0 lo)).toArray:=by
 obtain ⟨h1,h2,h3⟩:=LI lo hi its.toArray.size
 unfold slicePick
 rw [h1,h2,h3]
 simp only [sliceRange_one,pick_run,List.size_toArray] <;> rfl
def Tr (K:PySem.W.Frag):V→Option Int→Option Int→Hp→VK→Prop:=fun x lo hi H Q=>∃a xs,x = .ref a∧SqL K H a xs∧∀p,H p=none→Q (.ref p) (upd H p (.lst (F8 xs lo hi)))
theorem sl_list:SlR X (Tr X.K):=by
 intro pins s σ H x v vl vu lo hi sl Q I rx hs pl pu h
 obtain ⟨a,xs,rfl,hx,q⟩:=h
 cases rx
 obtain ⟨its,r,ht,hz⟩:=I.list hx
 have hlen:=r.length
 refine ⟨"list",_,slot_list_getitem.lookup,ht.isList.typeIs,?_⟩
 refine wpAny_getItem_list_slice ht.isList hs pl pu .none (by simp) ?_ (by rw [List.size_toArray] <;> lia)
 rw [Kp,←hlen]
 refine ⟨.ref s.heap.objs.size,_,I.laid (t':=s.toks) (o:=.lst (F8 xs lo hi)) (fun b ob q=>Heap.get?_push_of_some _ q) (Nat.le_refl _) ?_,rfl,q _ (I.hok.fresh (Nat.le_refl _))⟩
 exact ⟨Nat.le_trans (Hm xs lo hi) hz,_,0,(r.drop (HT.sIx xs.length 0 lo)).take (HT.sIx xs.length xs.length hi - HT.sIx xs.length 0 lo),Heap.get?_push_size _ rfl⟩
def EZ:V→Bool
 | .non=>true
 | .bl _=>true
 | .int _=>true
 | .str _=>true
 | _=>false
def eqV:V→V→Bool
 | .non,.non=>true
 | .bl a,.bl b=>a == b
 | .bl a,.int b=>(if a then 1 else 0) == b
 | .int a,.bl b=>a == (if b then 1 else 0)
 | .int a,.int b=>a == b
 | .str a,.str b=>a == b
 | _,_=>false
theorem Sq {A:Around} {s:Shared} {y x:V} {u v:Value} (ry:RelV y u) (rx:RelV x v) (fy:EZ y=true) (fx:EZ x=true):SeqAt.EqAt A s u v (eqV y x):=by
 cases y with
 | non=>
   cases ry
   cases x with
   | non=>cases rx;exact SeqAt.EqAt.same _
   | bl b=>cases rx;exact SeqAt.EqAt.none_bool b
   | int b=>obtain ⟨t,rfl⟩:=rx;exact SeqAt.EqAt.none_int b t
   | str b=>obtain ⟨t,rfl⟩:=rx;exact SeqAt.EqAt.none_str b t
   | _=>exact absurd (show false=true from fx) Bool.false_ne_true
 | bl a=>
   cases ry
   cases x with
   | non=>cases rx;exact SeqAt.EqAt.bool_none a
   | bl b=>cases rx;exact SeqAt.EqAt.bool_bool a b
   | int b=>obtain ⟨t,rfl⟩:=rx;exact SeqAt.EqAt.bool_int a b t
   | str b=>obtain ⟨t,rfl⟩:=rx;exact SeqAt.EqAt.bool_str a b t
   | _=>exact absurd (show false=true from fx) Bool.false_ne_true
 | int a=>
   obtain ⟨t',rfl⟩:=ry
   cases x with
   | non=>cases rx;exact SeqAt.EqAt.int_none a t'
   | bl b=>cases rx;exact SeqAt.EqAt.int_bool a t' b
   | int b=>obtain ⟨t,rfl⟩:=rx;exact SeqAt.EqAt.int_int a t' b t
   | str b=>obtain ⟨t,rfl⟩:=rx;exact SeqAt.EqAt.int_str a t' b t
   | _=>exact absurd (show false=true from fx) Bool.false_ne_true
 | str a=>
   obtain ⟨t',rfl⟩:=ry
   cases x with
   | non=>cases rx;exact SeqAt.EqAt.str_none a t'
   | bl b=>cases rx;exact SeqAt.EqAt.str_bool a t' b
   | int b=>obtain ⟨t,rfl⟩:=rx;exact SeqAt.EqAt.str_int a t' b t
   | str b=>obtain ⟨t,rfl⟩:=rx;exact SeqAt.EqAt.str_str a t' b t
   | _=>exact absurd (show false=true from fx) Bool.false_ne_true
 | _=>exact absurd (show false=true from fy) Bool.false_ne_true
def eqU (x:V) (u:Value):Bool:=match u with
 | .none=>eqV .non x
 | .bool b=>eqV (.bl b) x
 | .int i _=>eqV (.int i) x
 | .str z _=>eqV (.str z) x
 | _=>false
theorem NP {x y:V} {u:Value} (r:RelV y u) (f:EZ y=true):eqU x u=eqV y x:=by
 cases y with
 | non=>cases r;rfl
 | bl b=>cases r;rfl
 | int i=>obtain ⟨t,rfl⟩:=r;rfl
 | str z=>obtain ⟨t,rfl⟩:=r;rfl
 | _=>exact absurd (show false=true from f) Bool.false_ne_true
theorem IV {x:V}:∀{xs:List V} {us:List Value},Vals xs us→xs.all EZ=true→us.any (eqU x)=xs.any fun y=>eqV y x
 | _,_,.nil,_=>rfl
 | y :: xs,u :: us,.cons r t,f=>by
   rw [List.all_cons,Bool.and_eq_true] at f
   rw [List.any_cons,List.any_cons,NP r f.1,IV t f.2]
theorem HE {A:Around} {s:Shared} {x:V} {v:Value} (rx:RelV x v) (fx:EZ x=true):∀{xs:List V} {us:List Value},Vals xs us→xs.all EZ=true→∀u∈us,SeqAt.EqAt A s u v (eqU x u)
 | _,_,.nil,_=>fun u hu=>by cases hu
 | y :: xs,u :: us,.cons r t,f=>fun u' hu=>by
   rw [List.all_cons,Bool.and_eq_true] at f
   rcases List.mem_cons.mp hu with rfl | hu
   ·rw [NP r f.1];exact Sq r rx f.1 fx
   ·exact HE rx fx t f.2 u' hu
def inV (x:V) (xs:List V):Bool:=xs.any fun y=>eqV y x
def rIn (K:PySem.W.Frag) (neg:Bool):R2:=fun x y H Q=>∃p xs,y = .ref p∧(SqL K H p xs∨SqT K H p xs)∧EZ x=true∧xs.all EZ=true∧Q (.bl (if neg then !inV x xs else inV x xs)) H
theorem Ll:OpR X (compareOp .NotIn) (rIn X.K true):=by
 intro pins s σ H x y v u Q I rx ry h
 obtain ⟨p,xs,rfl,hq,fx,fs,q⟩:=h
 cases ry
 rcases hq with hq | hq
 ·obtain ⟨its,r,pl,hz⟩:=I.list hq
  refine SeqAt.notIn_listAt (eqU x) pl.isList (fun w hw=>HE rx fx r fs w (by simpa using hw)) ⟨.bl _,H,I,rfl,?_⟩
  rw [show its.toArray.any (eqU x)=its.any (eqU x) by simp,IV r fs]
  exact q
 ·obtain ⟨its,r,pl,hz⟩:=I.tuple hq
  refine SeqAt.notIn_tupleAt (eqU x) pl (fun w hw=>HE rx fx r fs w (by simpa using hw)) ⟨.bl _,H,I,rfl,?_⟩
  rw [show its.toArray.any (eqU x)=its.any (eqU x) by simp,IV r fs]
  exact q
theorem Ff:B2 X (.type "list") (fun xs H Q=>∃p ys,xs=[.ref p]∧(SqL X.K H p ys∨SqT X.K H p ys)∧∀l,H l=none→Q (.ref l) (upd H l (.lst ys))):=by
 intro pins s σ H xs us Q I r h
 obtain ⟨p,ys,rfl,hq,q⟩:=h
 obtain ⟨u,rfl,rx⟩:=ER r
 cases rx
 have fin:∀(its:List Value),Vals ys its→ys.length≤sizeLine→∀(h':Heap) (c':Nat),(∀b o',s.heap.get? b=some o'→h'.get? b=some o')→
  h'.get? s.heap.objs.size=some { cls:=.type "list",dict:=none,data:=.seq its.toArray c',slots:=#[] }→EP X pins σ Q (.ref s.heap.objs.size) { s with heap:=h' }:=fun its r' hz h' c' kp e=>
  ⟨.ref s.heap.objs.size,_,I.laid (t':=s.toks) kp (Nat.le_refl _) (show ObjOk X.prog X.w _ h' _ (.lst ys) from ⟨hz,its,c',r',e⟩),rfl,q _ (I.hok.fresh (Nat.le_refl _))⟩
 rcases hq with hq | hq
 ·obtain ⟨its,r',pl,hz⟩:=I.list hq
  have hlen:=r'.length
  obtain ⟨o,ho,hc,n,hd⟩:=pl.isList
  exact call_list_seq p (.inl rfl) ho hc hd (fun h' c' kp e=>fin its r' hz h' c' kp e) (by simp only [List.size_toArray] <;> lia)
 ·obtain ⟨its,r',pl,hz⟩:=I.tuple hq
  have hlen:=r'.length
  obtain ⟨o,ho,hc,n,hd⟩:=pl
  exact call_list_seq p (.inr rfl) ho hc hd (fun h' c' kp e=>fin its r' hz h' c' kp e) (by simp only [List.size_toArray] <;> lia)
theorem Gv:B2 X (.type "tuple") (fun xs H Q=>∃p ys,xs=[.ref p]∧((SqL X.K H p ys∧∀l,H l=none→Q (.ref l) (upd H l (.tup ys)))∨(SqT X.K H p ys∧Q (.ref p) H))):=by
 intro pins s σ H xs us Q I r h
 obtain ⟨p,ys,rfl,h⟩:=h
 obtain ⟨u,rfl,rx⟩:=ER r
 cases rx
 rcases h with ⟨hq,q⟩ | ⟨hq,q⟩
 ·obtain ⟨its,r',pl,hz⟩:=I.list hq
  have hlen:=r'.length
  refine call_tuple_list pl.isList (fun h' kp=>?_) (by simp only [List.size_toArray] <;> lia)
  have I1:Inv X pins σ H { s with heap:=h' }:=I.kept (t':=s.toks) kp
  have I2:Inv X pins σ (upd H h'.objs.size (.tup ys)) { s with heap:=h'.push { cls:=.type "tuple",data:=.seq its.toArray } }:=
   I1.laid (t':=s.toks) (fun b o e=>Heap.get?_push_of_some _ e) (Nat.le_refl _) (show ObjOk X.prog X.w _ _ _ (.tup ys) from ⟨hz,its,r',IsTup.new _ _⟩)
  exact ⟨.ref h'.objs.size,_,I2,rfl,q _ (I1.hok.fresh (Nat.le_refl _))⟩
 ·obtain ⟨its,r',pl,hz⟩:=I.tuple hq
  exact call_tuple_same pl ⟨.ref p,H,I,rfl,q⟩
def tyV (K:PySem.W.Frag) (T:String) (x:V) (H:Hp):Prop:=match x with
 | .str _=>T = "str"
 | .int _=>T = "int"
 | .ref p=>(T = "list"∧∃xs,SqL K H p xs)∨(T = "tuple"∧∃o,K.lookup p=some o∧o.cls = .type "tuple"∧o.dict=none)∨
    (T = "dict"∧((∃kvs,H p=some (.dK kvs))∨∃kvs,H p=some (.dT kvs)))∨(T = "set"∧∃S n,H p=some (.set S n))
 | _=>False
theorem TU {pins:List (Addr×Obj)} {σ:St} {H:Hp} {s:Shared} {T:String} {x:V} {v:Value} (I:Inv X pins σ H s) (r:RelV x v) (ty:tyV X.K T x H) :
 s.TypeIs v T∧∀a,v = .ref a→∃ob,s.heap.get? a=some ob∧ob.dict=none:=by
 cases x with
 | str z=>
   obtain ⟨t,rfl⟩:=r
   cases (show T = "str" from ty)
   exact ⟨typeIs_str s z t,fun _ e=>nomatch e⟩
 | int i=>
   obtain ⟨t,rfl⟩:=r
   cases (show T = "int" from ty)
   exact ⟨typeIs_int s i t,fun _ e=>nomatch e⟩
 | ref p=>
   cases r
   rcases ty with ⟨rfl,xs,hq⟩ | ⟨rfl,o,hk,hc,hd⟩ | ⟨rfl,hk⟩ | ⟨rfl,S,n,hk⟩
   ·obtain ⟨its,_,pl,_⟩:=I.list hq
    refine ⟨pl.isList.typeIs,fun a e=>?_⟩
    cases e
    obtain ⟨o,n,e,c,hd,_⟩:=pl
    exact ⟨o,e,hd⟩
   ·refine ⟨⟨o,I.kIn p o hk,hc⟩,fun a e=>?_⟩
    cases e
    exact ⟨o,I.kIn _ o hk,hd⟩
   ·have z:∃o,s.heap.get? p=some o∧o.ExactDict:=by
     rcases hk with ⟨kvs,hk⟩ | ⟨kvs,hk⟩
     ·obtain ⟨_,_,_,_,o,_,_,e,ex,_⟩:=I.hok p _ hk
      exact ⟨o,e,ex⟩
     ·obtain ⟨_,_,_,_,o,_,_,e,ex,_⟩:=I.hok p _ hk
      exact ⟨o,e,ex⟩
    obtain ⟨o,e,ex⟩:=z
    refine ⟨⟨o,e,ex.1⟩,fun a e2=>?_⟩
    cases e2
    exact ⟨o,e,ex.2.1⟩
   ·obtain ⟨o,_,_,_,e,ex,_⟩:=I.hok p _ hk
    refine ⟨⟨o,e,ex.1⟩,fun a e2=>?_⟩
    cases e2
    exact ⟨o,e,ex.2.1⟩
 | _=>exact False.elim ty
def tBM (K:PySem.W.Frag) (T:String) (r:V→List V→Hp→VK→Prop) (to:TE) (t:TA):TE:=fun σ H Q=>to σ H fun x H1=>tyV K T x H1∧t σ H1 fun xs H2=>r x xs H2 Q
variable {o e:Expr} {es:List Expr} {to:TE} {t:TA} {name:Str} {apos cpos:Pos} {T id:String} {r:V→List V→Hp→VK→Prop}
theorem Nc (pa:PlainAttrs T) (slot:Slot T name id) (hty:typeOf (.builtin id)=pure (.type "method_descriptor")) (hm:MtR X id r) (ho:PE X o to) (ha:PA X (e :: es) t)
 (hbase:attributeBase o name X.env (eval o X.env)=eval o X.env:=by rfl)
 (hfew:((backTo cpos (starEach (e :: es) X.env)).all (fun x=>!x.1) && (backToKw cpos (keywordEach [] X.env)).all (fun x=>x.1.isSome)
   && decide ((e :: es).length + ([]:List Keyword).length + (if ([]:List Keyword).isEmpty then 0 else 1) < 30))=true:=by rfl)
 (hline:(apos.endLine == cpos.line)=true:=by rfl) (hs:starEach (e :: es) X.env=(false,eval e X.env) :: starEach es X.env:=by rfl) (hplain:(backTo cpos (starEach es X.env)).any (·.1)=false:=by rfl) :
 PE X (.Call (.Attribute o name apos) (e :: es) [] cpos) (tBM X.K T r to t):=by
 intro pins s σ H Q I h
 refine wpAny_Call_method_late hbase hfew hline rfl (thn (ho pins s σ H _ I h) fun v s1 ⟨x,H1,I1,r1,ty,q1⟩=>?_)
 obtain ⟨h1,h2⟩:=TU I1 r1 ty
 refine ⟨T,id,pa,slot,hty,h1,h2,?_⟩
 have hA:=ha cpos pins s1 σ H1 _ I1 q1
 rw [hs] at hA ⊢
 refine Calls.callWith_builtin (by show (false || (backTo cpos (starEach es X.env)).any (·.1))=false;rw [hplain] <;> rfl) (Calls.evalArgs_plain ?_)
 exact thn hA fun us s2 ⟨vs,H2,I2,r2,q2⟩=>hm pins s2 σ H2 x vs v us Q I2 r1 r2 q2
/- xs.append(e),list.index on a module's tuple .. are MtR facts of 06m -/
end
def MtM (X:Cx) (id:String) (r:V→List V→Hp→VK→Prop):Prop:=
 ∀(pins:List (Addr×Obj)) (s:Shared) (σ:St) (H:Hp) (x:V) (xs:List V) (v:Value) (us:List Value) (Q:VK),Inv X pins σ H s→RelV x v→Vals xs us→r x xs H Q→
  wpAny (model X.prog X.w) X.A (call (.builtin id) (v :: us)) (EP X pins σ Q) X.xe s
theorem Vals.one:∀{x:V} {us:List Value},Vals [x] us→∃u,us=[u]∧RelV x u
 | _,_,.cons r .nil=>⟨_,rfl,r⟩
theorem Vals.rep {xs:List V} {us:List Value} (h:Vals xs us):∀k:Nat,Vals (List.replicate k xs).flatten (List.replicate k us).flatten
 | 0=>.nil
 | k + 1=>by
   rw [List.replicate_succ,List.replicate_succ,List.flatten_cons,List.flatten_cons]
   exact Vals.append h (Vals.rep h k)
theorem GH (its:List Value):∀(k:Nat) (acc:List Value),
 List.foldl (fun x1 x2=>x1++x2) acc.toArray (List.replicate k its.toArray)=(acc++(List.replicate k its).flatten).toArray
 | 0,acc=>by simp
 | k + 1,acc=>by
   have e:acc.toArray++its.toArray=(acc++its).toArray:=by simp
   have e2:(acc++its)++(List.replicate k its).flatten=acc++(List.replicate (k + 1) its).flatten:=by
    rw [List.replicate_succ,List.flatten_cons,List.append_assoc]
   rw [←e2,←GH its k (acc++its),←e,List.replicate_succ,List.foldl_cons]
section
variable {X:Cx} {pins:List (Addr×Obj)} {σ:St} {H:Hp} {s:Shared} {l b:Addr} {xs ys zs:List V}
theorem Inv.lset {its its':List Value} {n:Nat} {f:Array Value→Array Value} {t':Nat} (I:Inv X pins σ H s) (hH:H l=some (.lst xs))
 (e:s.heap.get? l=some { cls:=.type "list",data:=.seq its.toArray n }) (hf:f its.toArray=its'.toArray) (hv:Vals ys its') (hz:ys.length≤sizeLine) :
 Inv X pins σ (upd H l (.lst ys)) { s with heap:=s.heap.update l (Obj.mapSeq f),toks:=t' }:=by
 have q:=PySem.IsL.update e f
 rw [hf] at q
 refine I.write (x:=l) (e:=l) (by rw [hH];exact trivial) (.inl rfl) (fun b' u hb hu=>(Heap.get?_update_other s.heap (Obj.mapSeq f) (Ne.symm hb)).trans hu) ⟨_,q⟩ ?_
 exact ⟨hz,its',_,hv,q⟩
theorem Inv.lnew {its:List Value} {t':Nat} (I:Inv X pins σ H s) (hv:Vals ys its) (hz:ys.length≤sizeLine) :
 Inv X pins σ (upd H s.heap.objs.size (.lst ys)) { s with heap:=s.heap.push { cls:=.type "list",data:=.seq its.toArray },toks:=t' }:=
 I.laid (fun _ _ q=>Heap.get?_push_of_some _ q) (Nat.le_refl _) ⟨hz,its,0,hv,Heap.get?_push_size _ rfl⟩
theorem Inv.fresh (I:Inv X pins σ H s):H s.heap.objs.size=none:=I.hok.fresh (Nat.le_refl _)
theorem Inv.lstM (I:Inv X pins σ H s) (hH:H l=some (.lst xs)):xs.length≤sizeLine∧∃(its:List Value) (n:Nat),Vals xs its∧xs.length=its.length∧s.heap.get? l=some { cls:=.type "list",data:=.seq its.toArray n }:=by
 obtain ⟨z,its,n,r,e⟩:=I.hok l _ hH
 exact ⟨z,its,n,r,r.length,e⟩
theorem Pd {n:Nat} (h:n≤sizeLine):Builtin.List.listTooLong n=false:=by
 unfold Builtin.List.listTooLong
 exact decide_eq_false (by lia)
end
section
variable {X:Cx}
def MC:V→List V→Hp→VK→Prop:=fun x vs H Q=>∃l xs y,x = .ref l∧vs=[y]∧H l=some (.lst xs)∧xs.length < sizeLine∧Q .non (upd H l (.lst (xs++[y])))
theorem Oc:MtM X "list.append" MC:=by
 intro pins s σ H x vs v us Q I rx rv h
 obtain ⟨l,xs,y,rfl,rfl,hH,hz,q⟩:=h
 cases rx
 obtain ⟨u,rfl,ru⟩:=rv.one
 obtain ⟨z,its,n,r,hl,e⟩:=I.lstM hH
 refine call_meets F.slot_list_append ⟨_,e,rfl⟩ F.entry_list_append (F.args_list_append_2 _ _) (PySem.list_append l its.toArray n u (by rw [List.size_toArray];lia)) ⟨e,?_⟩
 refine ⟨.non,_,I.lset (its':=its++[u]) hH e (by simp) (r.append (.cons ru .nil)) ?_,rfl,q⟩
 rw [List.length_append,List.length_singleton]
 lia
def Pp:R2:=fun x y H Q=>∃l b xs zs,x = .ref l∧y = .ref b∧H l=some (.lst xs)∧H b=some (.lst zs)∧xs.length + zs.length≤sizeLine∧∀p,H p=none→Q (.ref p) (upd H p (.lst (xs++zs)))
theorem op_cat:OpR X (binaryOp .Add) Pp:=by
 intro pins s σ H x y v u Q I rx ry h
 obtain ⟨l,b,xs,zs,rfl,rfl,hH,hB,hz,q⟩:=h
 cases rx
 cases ry
 obtain ⟨z,its,n,r,hl,e⟩:=I.lstM hH
 obtain ⟨z2,its2,n2,r2,hl2,e2⟩:=I.lstM hB
 refine PySem.P.add_list e e2 ?_ (by rw [List.size_toArray,List.size_toArray];lia)
 have ea:its.toArray++its2.toArray=(its++its2).toArray:=by simp
 rw [ea]
 exact ⟨.ref _,_,I.lnew (t':=s.toks) (r.append r2) (by rw [List.length_append];lia),rfl,q _ I.fresh⟩
def Tp:R2:=fun x y H Q=>∃l k xs,x = .ref l∧y = .int k∧H l=some (.lst xs)∧-(2 ^ 63)≤k∧k < 2 ^ 63∧xs.length * k.toNat≤sizeLine∧
 ∀p,H p=none→Q (.ref p) (upd H p (.lst (List.replicate k.toNat xs).flatten))
theorem Jh {α:Type} (xs:List α) (k:Nat):(List.replicate k xs).flatten.length=k * xs.length:=by
 induction k with
 | zero=>simp
 | succ k ih=>rw [List.replicate_succ,List.flatten_cons,List.length_append,ih,Nat.succ_mul,Nat.add_comm]
theorem SQ:OpR X (binaryOp .Mult) Tp:=by
 intro pins s σ H x y v u Q I rx ry h
 obtain ⟨l,k,xs,rfl,rfl,hH,h1,h2,hz,q⟩:=h
 cases rx
 obtain ⟨t,rfl⟩:=ry
 obtain ⟨z,its,n,r,hl,e⟩:=I.lstM hH
 have hlen:its.toArray.size * k.toNat≤sizeLine:=by rw [List.size_toArray,←hl];exact hz
 have hcap:¬its.toArray.size * k.toNat > (2 ^ 63 - 1) / 8:=by
  have:(sizeLine:Nat)≤(2 ^ 63 - 1) / 8:=by decide
  lia
 have hfit:¬(!Builtin.List.listFitsIndex k)=true:=by
  rw [fitsIndex_both h1 h2]
  exact Bool.false_ne_true
 have hlong:¬Builtin.List.listTooLong (its.toArray.size * k.toNat)=true:=by
  rw [Pd hlen]
  exact Bool.false_ne_true
 have hnew:List.foldl (fun x1 x2=>x1++x2) #[] (List.replicate (if its.toArray.isEmpty=true then 0 else k.toNat) its.toArray)=(List.replicate k.toNat its).flatten.toArray:=by
  have f0:∀m:Nat,List.foldl (fun x1 x2=>x1++x2) #[] (List.replicate m its.toArray)=(List.replicate m its).flatten.toArray:=fun m=>by
   have:=GH its m []
   rw [List.nil_append] at this
   exact this
  rw [f0]
  cases its with
  | nil=>simp
  | cons a r'=>rw [if_neg (by simp)]
 refine wpAny_binaryOp_repeat_ref (T:="list") (U:="int") (by decide) ⟨_,e,rfl⟩ (fun s'=>typeIs_int s' k t) noFill_list_mul F.fills_int_mul F.slot_int_rmul repeat_list F.slot_int_index.lookup
  (call_meets F.slot_int_rmul (typeIs_int s k t) F.entry_int_rmul (F.args_int_rmul_2 _ _) (int___rmul___int_list k t l its.toArray n)
    ⟨e,rfl,⟨_,e,rfl⟩,call_meets F.slot_list_mul ⟨_,e,rfl⟩ F.entry_list_mul (F.args_list_mul_2 _ _) (AutoListH.list___mul___list_int_3 l its.toArray n k t hfit hcap hlong) ⟨e,?_⟩⟩)
 rw [hnew]
 exact ⟨.ref _,_,I.lnew (t':=s.toks) (r.rep k.toNat) (by rw [Jh,Nat.mul_comm];exact hz),rfl,q _ I.fresh⟩
end
section
variable {prog:Program} {w:World} {A:Around} {E:Value→Shared→Prop} {s:Shared}
end
section
variable {X:Cx}
end
end L2
namespace Att
open PySem PySem.W PySem.Calls PyProof.Rows
theorem IC {P:Params} {h:Heap}:∀(ns:List Int) (vs:List Value),WellAll P h vs (ns.map WData.int)→IntsAre vs ns:=by
 intro ns
 induction ns with
 | nil=>
   intro vs w
   rw [List.map_nil] at w
   cases w
   exact .nil
 | cons n ns ih=>
   intro vs w
   rw [List.map_cons] at w
   cases w with
   | cons a b=>
     cases a
     exact .cons _ _ (ih _ b)
theorem Ou {l:OpenLaw} {n:Nat} (hn:l.most=some n) {P:Params} {h:Heap} {args:List WData} {vals:List Value}
 (hpre:l.row.toRowW.claim.pre args=true) (hwl:WellAll P h vals args) :
 ∃a vs ns,vals=[Value.ref a]∧args=[WData.list (ns.map WData.int)]∧h.get? a=some { cls:=.type "list",data:=.seq vs.toArray }∧IntsAre vs ns∧ns.length≤n:=by
 have hsh:WShape.hasAll [] args [.list .int]=true:=(pre_splitW hpre).1
 have hc:l.pre.holds [] { args:=args }=true:=(pre_splitW hpre).2
 obtain ⟨d,r,rfl,h1,h2⟩:=hasAllW_cons hsh
 obtain rfl:=hasAllW_nil h2
 obtain ⟨xs,rfl,h3⟩:=hasW_list h1
 obtain ⟨ns,rfl⟩:=items_int h3
 have hlen:ns.length≤n:=by
  unfold OpenLaw.pre at hc
  have h4:(WTm.not (.lt (.lit (.int (n:Int))) (.len (.arg 0)))).holds [] { args:=[.list (ns.map .int)] }=true:=by
   have h4:=(holds_andW hc).1
   rw [hn] at h4
   exact h4
  have h5:=condW_of h4 (w_not (w_lt w_lit (w_len_list (w_arg rfl))))
  rw [List.length_map] at h5
  refine Nat.le_of_not_lt fun q=>?_
  have q':(n:Int) < ((ns.length:Nat):Int):=by lia
  first
   | (rw [decide_eq_true q'] at h5;exact absurd h5 (by decide))
   | (simp at h5;lia)
 cases hwl with
 | cons w1 w2=>
   cases w2
   cases w1 with
   | list ho hall=>exact ⟨_,_,ns,rfl,rfl,ho,IC ns _ hall,hlen⟩
theorem Op (l:OpenLaw) (args:List WData):l.row.toRowW.claim.post args (.bool true) args=true:=
 postW_of (r:=l.row.toRowW) (X:=(true == true))
  (show WShape.has [] (.bool true) .bool=true by first | rfl | decide | simp [WShape.has,WShape.arms,WShape.armsAll])
  (show (WTm.eq .res (.lit (.bool true))).value [] { args:=args,res:=some (.bool true),after:=args }=some (.bool (true == true)) from w_eq_bool (w_res rfl) w_lit) rfl
theorem attach_call {l:OpenLaw} {n:Nat} {q:Program} {loose:List Str} {XP:(Str→Option Value)→Heap→Prop} {YP:World→Heap→Prop} {d:DefRec}
 (hn:l.most=some n) (hdf:d.params.defaults=[])
 (call:∀(w:World) (s₀ s₁:Shared) (mg mb:Str→Option Value) (fa:Addr) (o:Obj) (pm cd doc:Value) (a:Addr) (vs:List Value) (ns:List Int),
   Ground q loose [] XP w s₀ mg mb s₁.heap→YP w s₁.heap→
   s₁.heap.get? fa=some o→o.data = .func (docDef d.name d.params d.body d.scope pm cd doc)→s₁.heap.CodeRec cd d.name→mg d.name=some (.ref fa)→
   s₁.heap.get? a=some { cls:=.type "list",data:=.seq vs.toArray }→IntsAre vs ns→ns.length≤n→s₁.gens=#[]→
   codeAny (model l.prog w) callerA (.call (.ref fa) ⟨[.ref a],[]⟩) (fun r s'=>r = .ok (.ret (.bool true))∧OldK s₁.heap s'.heap∧s'.os=s₁.os∧AllBare s'.gens) s₁) :
 WalkO q loose XP YP l.row.toRowW d [] (fun f vs=>PySem.call f vs):=by
 intro w s₀ s₁ mg mb G Y fa o pm cd doc dV kV ho hd hcd hD hmg hg args vals as hpre hlay hrd hwl hlo
 obtain rfl:dV = .none:=Dflts.none hD hdf
 obtain rfl:kV = .none:=Dflts.noKw hD
 obtain ⟨a,vs,ns,rfl,rfl,hobj,hints,hlen⟩:=Ou hn hpre hwl
 refine enter_call (codeAny_mono (call w s₀ s₁ mg mb fa o pm cd doc a vs ns G Y ho (fd_plain hd) hcd hmg hobj hints hlen hg) fun r s' hq=>?_)
 obtain ⟨rfl,h2,h3,h4⟩:=hq
 exact ⟨.inl ⟨.bool true,.bool true,[],rfl,fun _=>rfl,.bool true,Op l _,fun _=>⟨List.Pairwise.nil,fun _ hm=>(nomatch hm)⟩⟩,h2,h3,h4⟩
section
variable {prog:Program} {w:World} {A:Around} {E:Value→Shared→Prop} {s:Shared} {K:Frag}
def Wt (h:Heap) (L d:Addr):List (Addr×Obj):=(List.range h.objs.size).filterMap fun a=>if a=L∨a=d then none else (h.get? a).map fun o=>(a,o)
end
end Att
namespace L2
open PySem PySem.Spec PyProof.Rows
theorem J5:∀{vs:List Value} {ns:List Int},IntsAre vs ns→Vals (ns.map V.int) vs
 | _,_,.nil=>.nil
 | _,_,.cons n t h=>.cons ⟨t,rfl⟩ (J5 h)
def MJ (H:Hp):Prop:=∀b,H b=none∨∃o xs,H b=some (.frz o (.lst xs))
theorem O6 {P:Program} {w:World} {K:PySem.W.Frag} {mg mb:Str→Option Value} {CX:CXT} {k:Nat} {fa a:Addr} {fd:FuncData} {x:Str} {sp:Sp} {s₁:Shared} {vs:List Value} {ns:List Int}
 (KX:K.In s₁.heap) (hns:s₁.heap.Ns mainGlobals mg) (hb:s₁.heap.Ns builtinsNs mb) (hbb:∀x:Str,x≠"__name__"→mb x=bootBuiltins x) (hlim:s₁.heap.NoLimit) (hg:s₁.gens=#[])
 (ha:s₁.heap.get? a=some { cls:=.type "list",data:=.seq vs.toArray }) (hi:IntsAre vs ns) (hl:ns.length≤sizeLine) (hr:Room k callerA)
 (F:∀base:Heap,K.In base→base.Ns mainGlobals mg→FnOk P w K mg base CX k fa fd [x] sp) (hbind:∀(s:Shared) (u:Value),BindsTo s fd ⟨[u],[]⟩ [(x,u)])
 (hsp:∀H:Hp,MJ H→SqL K H a (ns.map V.int)→sp [.ref a] H (fun v _=>v = .bl true) fun _ _ _=>False)
 (hCX:∀H e s',CX [] H s₁ (fun _ _ _=>False) e s'→False) :
 codeAny (model P w) callerA (.call (.ref fa) ⟨[.ref a],[]⟩) (fun r s'=>r = .ok (.ret (.bool true))∧OldK s₁.heap s'.heap∧s'.os=s₁.os∧AllBare s'.gens) s₁:=by
 have rv:=J5 hi
 have lenV:=hi.length
 -- from an abstract heap in which nothing but the script may be tracked
 have core:∀H:Hp,MJ H→SqL K H a (ns.map V.int)→HOk P w H s₁.heap→(∀b,H b≠none→b=a)→(H a≠none→K.lookup a=none)→
  codeAny (model P w) callerA (.call (.ref fa) ⟨[.ref a],[]⟩) (fun r s'=>r = .ok (.ret (.bool true))∧OldK s₁.heap s'.heap∧s'.os=s₁.os∧AllBare s'.gens) s₁:=by
  intro H hO hS hok hA hK
  have base_of:∀{b:Addr} {o:Obj},s₁.heap.get? b=some o→H b=none→(Ge s₁.heap H).get? b=some o:=fun e n=>O4 e n
  have noA:∀{b:Addr} {o:Obj} {es:Array DictEntry} {ep:Nat},s₁.heap.get? b=some o→o.data = .dict es ep→H b=none:=fun {b o es ep} e d=>by
   cases q:H b with
   | none=>rfl
   | some u=>
     have e':b=a:=hA b (by rw [q];simp)
     subst e'
     rw [ha] at e;cases e
     have d':Data.seq vs.toArray _=Data.dict es ep:=d
     cases d'
  have nsK:∀{b:Addr} {m:Str→Option Value},s₁.heap.Ns b m→(Ge s₁.heap H).Ns b m:=fun {b m} ⟨o,es,ep,e,d,r⟩=>⟨o,es,ep,base_of e (noA e d),d,r⟩
  have hKb:K.In (Ge s₁.heap H):=fun b o e=>base_of (KX b o e) (by
   cases q:H b with
   | none=>rfl
   | some u=>
     have e':b=a:=hA b (by rw [q];simp)
     subst e'
     rw [hK (by rw [q];simp)] at e;cases e)
  have hM:Mod K mg (Ge s₁.heap H):=⟨hKb,nsK hns,⟨mb,nsK hb,hbb⟩,let ⟨mc,h1,h2⟩:=hlim;⟨mc,nsK h1,h2⟩⟩
  have e0:Env0 P w K mg (Ge s₁.heap H) callerA [] s₁ H:=⟨rfl,hM,fun b o e=>Q6 e,Nat.le_of_eq (N0 _ _),trivial,fun b hb=>absurd (show b∈([]:List Addr) from hb) (by simp),hok,.of_eq hg⟩
  refine codeAny_mono ((F _ hKb (nsK hns)).run callerA [] s₁ H ⟨[.ref a],[]⟩ [.ref a] [.ref a] _ _ hr e0 (hbind s₁ (.ref a)) (.cons rfl .nil) (hsp H hO hS)) fun r s' h=>?_
  cases r with
  | error e=>exact (hCX H e s' h).elim
  | ok fl=>
    cases fl with
    | next=>exact False.elim h
    | brk=>exact False.elim h
    | cont=>exact False.elim h
    | ret u=>
      obtain ⟨v,H',os,bare,un,hok',r',q⟩:=h
      have q':v = .bl true:=q
      subst q'
      obtain rfl:u=Value.bool true:=r'
      refine ⟨rfl,OldK.of_keep fun b o e=>?_,os,bare⟩
      cases q:H b with
      | none=>exact un.keep b o e q (by intro z;exact absurd (show b∈([]:List Addr) from z) (by simp)) (by simp)
      | some u=>
        rcases hO b with z | ⟨ob,xs,z⟩
        ·rw [q] at z;cases z
        ·have z2:=un.frzs b ob _ z
         obtain ⟨e1,_⟩:=hok b _ z
         obtain ⟨e2,_⟩:=hok' b _ z2
         rw [e] at e1;cases e1
         exact e2
 cases hk:K.lookup a with
 | some o=>
   -- the script is one of the module's own objects
   have e:=KX a o hk
   rw [ha] at e
   cases e
   refine core (fun _=>none) (fun _=>.inl rfl) (.inr ⟨_,vs.toArray,_,hk,rfl,rfl,rfl,by rw [List.size_toArray,lenV];exact hl,by simpa using rv⟩) (fun b u z=>by have z':(none:Option HO)=some u:=z;cases z') (fun b z=>absurd rfl z) fun z=>absurd rfl z
 | none=>
   refine core (fun b=>if b=a then some (.frz { cls:=.type "list",data:=.seq vs.toArray } (.lst (ns.map V.int))) else none) (fun b=>?_) (.inl (.inr ⟨{ cls:=.type "list",data:=.seq vs.toArray },if_pos rfl⟩)) (fun b u z=>?_) (fun b z=>?_) fun _=>hk
   ·by_cases hb:b=a
    ·exact .inr ⟨_,_,if_pos hb⟩
    ·exact .inl (if_neg hb)
   ·by_cases hb:b=a
    ·have z':=(if_pos hb).symm.trans z
     cases z'
     subst hb
     exact ⟨ha,by rw [List.length_map];exact hl,vs,_,rv,ha⟩
    ·have z':=(if_neg hb).symm.trans z
     cases z'
   ·by_cases hb:b=a
    ·exact hb
    ·exact absurd (if_neg hb) z
theorem R0 {l:PySem.W.OpenLaw} {n k:Nat} {q:Program} {loose:List Str} {XP:(Str→Option Value)→Heap→Prop} {YP:World→Heap→Prop} {d:DefRec} {K:Params→PySem.W.Frag} {CX:World→CXT} {sp:World→Sp} {x:Str}
 (hn:l.most=some n) (hn2:n≤sizeLine) (hdf:d.params.defaults=[]) (hr:Room k callerA)
 (hY:∀(w:World) (h:Heap),YP w h→(K w.params).In h)
 (F:∀(w:World) (mg:Str→Option Value) (fa:Addr) (h:Heap),(K w.params).In h→h.Ns mainGlobals mg→mg d.name=some (.ref fa)→
   ∃fd:FuncData,(∀(s:Shared) (u:Value),BindsTo s fd ⟨[u],[]⟩ [(x,u)])∧
    ∀base:Heap,(K w.params).In base→base.Ns mainGlobals mg→FnOk l.prog w (K w.params) mg base (CX w) k fa fd [x] (sp w))
 (hsp:∀(w:World) (H:Hp) (a:Addr) (ns:List Int),ns.length≤n→MJ H→SqL (K w.params) H a (ns.map V.int)→sp w [.ref a] H (fun v _=>v = .bl true) fun _ _ _=>False)
 (hCX:∀(w:World) (H:Hp) (s:Shared) (e:Value) (s':Shared),CX w [] H s (fun _ _ _=>False) e s'→False) :
 PySem.W.WalkO q loose XP YP l.row.toRowW d [] (fun f vs=>PySem.call f vs):=by
 refine Att.attach_call hn hdf fun w s₀ s₁ mg mb fa o pm cd doc a vs ns G Y ho hd hcd hmg hobj hints hlen hg=>?_
 have KX:=hY w _ Y
 obtain ⟨fd,hb,hF⟩:=F w mg fa _ KX G.T.g hmg
 exact O6 KX G.T.g G.T.b G.T.builtins G.T.nolimit hg hobj hints (Nat.le_trans hlen hn2) hr hF hb (fun H hO hS=>hsp w H a ns hlen hO hS) fun H e s'=>hCX w H s₁ e s'
def D7 (s:Stmt):Arguments:=match s with
 | .FunctionDef _ a _ _ _ _ _ _ _ _=>a
 | _=>{ posonlyargs:=[],args:=[],vararg:=none,kwonlyargs:=[],kw_defaults:=[],kwarg:=none,defaults:=[] }
def B3 (s:Stmt):List Stmt:=match s with
 | .FunctionDef _ _ b _ _ _ _ _ _ _=>b
 | _=>[]
def As (s:Stmt):Scope:=match s with
 | .FunctionDef _ _ _ _ _ _ sc _ _ _=>sc
 | _=>{ kind:=.function,names:=[],isGenerator:=false,isCoroutine:=false }
abbrev CX0:CXT:=fun _ _ _ _ _ _=>False
abbrev E0:XK:=fun _ _ _=>False
theorem Qg {X:Cx}:KB CX0 X E0:=fun _ _ _ _ _ _ _ h=>h.elim
structure Fun (K:PySem.W.Frag) (x qual:Str) (st:Stmt) (f:Addr) (fd:FuncData):Prop where
 ex:∃(oc:Value) (od:Option Addr) (kV doc pm:Value) (an:Option Addr) (cdv ct:Value) (osl:Array (Option Value)),
  fd=PySem.W.fnOf x qual (D7 st) (B3 st) (As st) .none kV doc pm an cdv ct∧K.lookup f=some ⟨oc,od,.func fd,osl⟩∧PySem.W.codeIn K cdv qual=true
 kp:PySem.W.keepIn K (.ref f)=true
section
variable {P:Program} {w:World} {K:PySem.W.Frag} {mg:Str→Option Value} {base:Heap}
theorem Fun.ok {x qual:Str} {st:Stmt} {f:Addr} {fd:FuncData} {N ps:List Str} {k:Nat} {sp:Sp} (F:Fun K x qual st f fd) (S:FnScope N ps (As st)) (len:∀vs H Q E,sp vs H Q E→vs.length=ps.length)
 (hbody:∀(cdv:Value) (A:Around) (outer:List Env) (s:Shared) (H:Hp) (vs:List V) (Q:VK) (E:XK),Room k (A.deeper (envOfC qual (As st) s.heap.objs.size f cdv))→sp vs H Q E→
   ∃t,PSs (EE CX0 P w K mg base N qual (As st) f cdv A outer s H E).nox (B3 st) t∧t { nx:=fun _ H'=>Q .non H',rt:=Q } (D0 N vs) H):FnOk P w K mg base CX0 (k + 1) f fd ps sp:=by
 obtain ⟨oc,od,kV,doc,pm,an,cdv,ct,osl,rfl,lk,hcd⟩:=F.ex
 refine Qc lk hcd S len fun A outer s H vs Q E hr hsp=>?_
 obtain ⟨t,h,q⟩:=hbody cdv A outer s H vs Q E hr hsp
 exact ⟨t,h.nox,q⟩
theorem Fun.binds {x qual:Str} {st:Stmt} {f:Addr} {fd:FuncData} {ps:List Str} (F:Fun K x qual st f fd)
 (h:∀(kV doc pm:Value) (an:Option Addr) (cdv ct:Value) (us:List Value),us.length=ps.length→bindArgs (PySem.W.fnOf x qual (D7 st) (B3 st) (As st) .none kV doc pm an cdv ct) ⟨us,[]⟩=pure (ps.zip us)):Binds K fd ps []:=by
 obtain ⟨oc,od,kV,doc,pm,an,cdv,ct,osl,rfl,lk,hcd⟩:=F.ex
 exact .all (h kV doc pm an cdv ct)
theorem Iy {x qual:Str} {st:Stmt} {f:Addr} {oc:Value} {od an:Option Addr} {osl:Array (Option Value)} {kV doc pm cdv ct:Value} (l:K.lookup f=some ⟨oc,od,.func (PySem.W.fnOf x qual (D7 st) (B3 st) (As st) .none kV doc pm an cdv ct),osl⟩)
 (c:PySem.W.codeIn K cdv qual=true) (k:PySem.W.keepIn K (.ref f)=true):Fun K x qual st f (PySem.W.fnOf x qual (D7 st) (B3 st) (As st) .none kV doc pm an cdv ct):=⟨⟨oc,od,kV,doc,pm,an,cdv,ct,osl,rfl,l,c⟩,k⟩
end
section
variable {X:Cx}
end
def WB (H H':Hp):Prop:=∀b o,H b=some o→H' b=some o
section
variable {κ:Type} [DecidableEq κ]
def PQ (kvs:List (κ×V)) (k:κ):Option V:=(kvs.find? fun kv=>decide (kv.1=k)).map (·.2)
def Ti (kvs:List (κ×V)) (k:κ) (v:V):List (κ×V):=
 if (kvs.any fun kv=>decide (kv.1=k))=true then kvs.map (fun kv=>if kv.1=k then (kv.1,v) else kv) else kvs++[(k,v)]
end
abbrev KT (H:Hp):List (List Key×V)→List (List Key×Addr×Value)→Prop:=Paired fun p q=>p.1=q.1∧H q.2.1=some (.tup (p.1.map kV))∧RelV p.2 q.2.2
section
variable {P:Program} {w:World} {H:Hp} {h:Heap} {a:Addr}
end
def Wz (H:Hp) (a:Addr) (y:V) (r:Option V):Prop:=
 (∃kvs k,Rd H a (.dK kvs)∧y=kV k∧r=PQ kvs k)∨∃kvs k b,Rd H a (.dT kvs)∧y = .ref b∧H b=some (.tup (k.map kV))∧r=PQ kvs k
def WA (H:Hp) (a:Addr) (y v:V) (H':Hp):Prop:=
 (∃kvs k,H a=some (.dK kvs)∧y=kV k∧kvs.length < sizeLine∧H'=upd H a (.dK (Ti kvs k v)))∨
 ∃kvs k b,H a=some (.dT kvs)∧y = .ref b∧H b=some (.tup (k.map kV))∧kvs.length < sizeLine∧H'=upd H a (.dT (Ti kvs k v))
section
variable {X:Cx} {pins:List (Addr×Obj)} {σ:St} {H:Hp} {s:Shared} {a:Addr} {y v:V} {u r:Value} {o:Option V} {A:Around} {E:Value→Shared→Prop}
end
section
variable {X:Cx} {pins:List (Addr×Obj)} {σ:St} {H:Hp} {s:Shared} {a:Addr} {kvs:List (Key×V)} {k:Key} {u:Value} {A:Around} {E:Value→Shared→Prop}
end
section
variable {X:Cx} {o i e value:Expr} {pos pos' tpos:Pos} {td ty tv:TE}
end
section
variable {X:Cx} {pos:Pos}
end
theorem Fg {env:Env}:∀(l:List (Str×NameKind)) (cs:List (Str×Addr)),(∀x c,cs.lookup x=some c→env.cells.lookup x=some c)→(∀y∈l,y.2 = .free→∃c,env.cells.lookup y.1=some c)→
 ∃cl,(forIn l cs fun (x:Str×NameKind) r=>(match x with | (name,kind)=>if (kind == NameKind.free)=true then do let c ←cellOf env name;pure (ForInStep.yield ((name,c) :: r)) else pure (ForInStep.yield r):Sem (ForInStep (List (Str×Addr)))))=pure cl∧
  (∀x c,cl.lookup x=some c→env.cells.lookup x=some c)∧(∀x c,cs.lookup x=some c→∃c',cl.lookup x=some c')∧∀y∈l,y.2 = .free→∃c,cl.lookup y.1=some c
 | [],cs,h,_=>⟨cs,rfl,h,fun _ c e=>⟨c,e⟩,fun _ z=>nomatch z⟩
 | (n,k) :: l,cs,h,hf=>by
   by_cases hk:k = .free
   ·subst hk
    obtain ⟨c,hc⟩:=hf (n,.free) List.mem_cons_self rfl
    have hc':env.cells.lookup n=some c:=hc
    have e:cellOf env n=pure c:=by unfold cellOf;rw [hc']
    obtain ⟨cl,e1,e2,e3,e4⟩:=Fg l ((n,c) :: cs) (fun x c' q=>by
     rw [List.lookup_cons] at q
     by_cases hx:(x == n)=true
     ·rw [hx] at q;cases q;rw [eq_of_beq hx];exact hc'
     ·rw [Bool.eq_false_iff.mpr hx] at q;exact h x c' q) (fun y hy=>hf y (List.mem_cons_of_mem _ hy))
    have self:((n,c) :: cs).lookup n=some c:=by rw [List.lookup_cons,beq_self_eq_true]
    refine ⟨cl,?_,e2,fun x c' q=>?_,fun y hy hyf=>?_⟩
    ·rw [List.forIn_cons]
     simp only [beq_self_eq_true,if_true,e]
     exact e1
    ·by_cases hx:(x == n)=true
     ·rw [eq_of_beq hx];exact e3 n c self
     ·exact e3 x c' (by rw [List.lookup_cons,Bool.eq_false_iff.mpr hx];exact q)
    ·rcases List.mem_cons.mp hy with z | z
     ·subst z;exact e3 n c self
     ·exact e4 y z hyf
   ·have hb:(k == NameKind.free)=false:=by simpa using hk
    obtain ⟨cl,e1,e2,e3,e4⟩:=Fg l cs h (fun y hy=>hf y (List.mem_cons_of_mem _ hy))
    refine ⟨cl,?_,e2,e3,fun y hy hyf=>?_⟩
    ·rw [List.forIn_cons]
     simp only [hb,Bool.false_eq_true,if_false]
     exact e1
    ·rcases List.mem_cons.mp hy with z | z
     ·subst z;exact absurd hyf hk
     ·exact e4 y z hyf
theorem Ik {scope:Scope} {env:Env} (h:∀y∈scope.names,y.2 = .free→∃c,env.cells.lookup y.1=some c) :
 ∃cl,closureFor scope env=pure cl∧(∀x c,cl.lookup x=some c→env.cells.lookup x=some c)∧∀y∈scope.names,y.2 = .free→∃c,cl.lookup y.1=some c:=by
 obtain ⟨cl,e1,e2,_,e4⟩:=Fg (env:=env) scope.names [] (fun _ _ q=>nomatch q) h
 refine ⟨cl,?_,e2,e4⟩
 simp only [closureFor]
 first | (rw [e1];rfl) | (simp only [e1];rfl) | (trace_state;exact e1)
theorem KZ {prog:Program} {w:World} {A:Around} {R:Result→Shared→Prop} {s:Shared} {elt target iter:Expr} {ifs:List Expr} {scope:Scope} {pos:Pos} {it acc:Value} {env:Env} (I:Nat→Shared→Prop)
 (turn:∀n s,I n s→wpAny (model prog w) A (pyNext it) (fun r s₁=>match r with
   | none=>R (.ok .next) s₁
   | some v=>wpAny (model prog w) A (letOwnedTupleGo target it v) (fun _ s₁'=>wpAny (model prog w) A (assign target env v) (fun _ s₂=>
      wpAny (model prog w) A (forIn ifs true fun c r=>if r=true then do let ok ←isTrue c env (eval c env);pure (ForInStep.yield ok) else pure (ForInStep.yield r)) (fun ok s₃=>
       if ok=true then wpAny (model prog w) A (eval elt env) (fun x s₄=>
        wpAny (model prog w) A (call (.builtin "list.append") [acc,x]) (fun _ s₅=>∃m,m < n∧I m s₅) (fun _ _=>False) s₄) (fun _ _=>False) s₃
       else ∃m,m < n∧I m s₃) (fun _ _=>False) s₂) (fun _ _=>False) s₁') (fun _ _=>False) s₁) (fun _ _=>False) s)
 (n:Nat) (h:I n s) :
 codeAny (model prog w) A (.compLoop (.ListComp elt [⟨target,iter,ifs,0⟩] scope pos) 0 it acc env) R s:=by
 refine codeAny_loop rfl I (fun n s hI=>?_) n h
 show wpAny _ A ((compTurn (.ListComp elt [⟨target,iter,ifs,0⟩] scope pos) 0 it acc env).onRaise (fun x=>do noteFrame x env;theTreesLotGoes x)) _ _ s
 refine wpAny_noted ?_
 rw [compTurn_list]
 refine wpAny_bind (wpAny_standAt (wpAny_bind (wpAny_mono (turn n s hI) (fun r s₁ h₁=>?_) fun _ _ h'=>h'.elim)))
 cases r with
 | none=>exact wpAny_pure h₁
 | some v=>
   refine wpAny_bind (wpAny_mono h₁ (fun _ s₁' h₁'=>?_) fun _ _ h'=>h'.elim)
   refine wpAny_bind (wpAny_mono h₁' (fun _ s₂ h₂=>wpAny_bind (wpAny_mono h₂ (fun ok s₃ h₃=>?_) fun _ _ h'=>h'.elim)) fun _ _ h'=>h'.elim)
   cases ok with
   | false=>exact wpAny_pure ⟨rfl,h₃⟩
   | true=>
     exact wpAny_bind (wpAny_bind (wpAny_mono h₃ (fun x s₄ h₄=>wpAny_bind (wpAny_mono h₄ (fun _ s₅ h₅=>wpAny_pure (wpAny_pure ⟨rfl,h₅⟩)) fun _ _ h'=>h'.elim)) fun _ _ h'=>h'.elim))
end L2
set_option maxHeartbeats 2000000
namespace L2
open PySem PySem.Spec PyProof.Rows
def Cg (X:Cx) (N':List Str) (scope:Scope) (cl:List (Str×Addr)) (C:Addr) (s2:Shared) (H2:Hp) (fp:List Addr):Cx where
 prog:=X.prog
 w:=X.w
 K:=X.K
 mg:=X.mg
 base:=X.base
 A:=X.A
 N:=N'
 s₀:=s2
 H₀:=H2
 env:=compEnvC scope cl C X.env
 outer:=X.stack
 stack:=X.stack
 ex:=fp
 fn:=fun _=>false
 calm:=X.calm
 pn:=[]
 xe:=fun _ _=>False
theorem Hn (h:Str→NameKind→NameKind) (x:Str):∀l:List (Str×NameKind),(l.map fun p=>(p.1,h p.1 p.2)).lookup x=(l.lookup x).map (h x)
 | []=>rfl
 | (n,k) :: l=>by
   show List.lookup x ((n,h n k) :: _)=_
   rw [List.lookup_cons,List.lookup_cons]
   by_cases hx:(x == n)=true
   ·rw [hx,eq_of_beq hx];rfl
   ·rw [Bool.eq_false_iff.mpr hx];exact Hn h x l
theorem FV (scope:Scope) (env:Env) (x:Str):(relabel scope env).names.lookup x=(scope.names.lookup x).map fun k=>if (k == .free && env.scope.kind == .function && env.kindOf x == some .cell)=true then .cell else k:=by
 rw [←Hn (fun n k=>if (k == NameKind.free && env.scope.kind == .function && env.kindOf n == some .cell)=true then .cell else k) x scope.names]
 unfold relabel
 dsimp only
 congr 1
 apply List.map_congr_left
 intro p _
 obtain ⟨n,k⟩:=p
 dsimp only
 split <;> rfl
theorem C1 {x:Str} {k:NameKind}:∀{l:List (Str×NameKind)},l.lookup x=some k→(x,k)∈l
 | (n,k') :: l,h=>by
   rw [List.lookup_cons] at h
   by_cases hx:(x == n)=true
   ·rw [hx] at h;cases h;rw [eq_of_beq hx];exact List.mem_cons_self
   ·rw [Bool.eq_false_iff.mpr hx] at h;exact List.mem_cons_of_mem _ (C1 h)
theorem Lu {scope:Scope} {env:Env} {x:Str} (hcell:∀y∈scope.names,y.2≠.cell) (h:(relabel scope env).names.lookup x=some .cell∨(relabel scope env).names.lookup x=some .free):scope.names.lookup x=some .free:=by
 rw [FV] at h
 cases e:scope.names.lookup x with
 | none=>rw [e] at h;rcases h with h | h <;> cases h
 | some k=>
   by_cases hk:k = .free
   ·rw [hk]
   ·have hb:(k == NameKind.free)=false:=by simpa using hk
    rw [e] at h
    simp only [Option.map_some,hb,Bool.false_and,Bool.false_eq_true,if_false] at h
    rcases h with h | h
    ·cases h;exact absurd rfl (hcell _ (C1 e))
    ·cases h;exact absurd rfl hk
def PIf (X:Cx) (ifs:List Expr) (t:TT):Prop:=
 ∀(pins:List (Addr×Obj)) (s:Shared) (σ:St) (H:Hp) (Q:Bool→Hp→Prop),Inv X pins σ H s→t σ H Q→
  wpAny (model X.prog X.w) X.A (forIn ifs true fun c r=>if r=true then do let ok ←isTrue c X.env (eval c X.env);pure (ForInStep.yield ok) else pure (ForInStep.yield r)) (TP X pins σ Q) X.xe s
def UG:TT:=fun _ H Q=>Q true H
theorem Rj {X:Cx}:PIf X [] UG:=fun _ _ _ H _ I h=>wpAny_tests_nil ⟨H,I,h⟩
def OA (J:It) (g:TG) (tt:TT) (te:TE) (σ₀:St) (H1:Hp) (Fin:List V→Hp→Prop):Prop:=
 ∃W:Nat→Nat→List V→St→Hp→Prop,(∃m,W 0 m [] σ₀ H1)∧∀i m acc σ' H',W i m acc σ' H'→acc.length≤sizeLine∧
  ((J.stop i H'∧Fin acc H')∨
    (J.go i H'∧∀x H2,J.yld i H' x H2→g x σ' H2 fun σ3 H3=>tt σ3 H3 fun b H4=>if b=true then te σ3 H4 fun v H5=>∃m',m' < m∧W (i + 1) m' (acc++[v]) σ3 H5 else ∃m',m' < m∧W (i + 1) m' acc σ3 H4))
def Kx (wi:TI) (g:TG) (tt:TT) (te:TE) (σf:St→St):TE:=fun σ H Q=>wi σ H fun J H1=>OA J g tt te (σf σ) H1 fun acc H'=>∀p,H' p=none→acc.length≤sizeLine→Q (.ref p) (upd H' p (.lst acc))
structure CmpOk (X:Cx) (scope:Scope) (N':List Str) (σf:St→St):Prop where
 kind:scope.kind = .function
 cell:∀y∈scope.names,y.2≠.cell
 loc:∀y∈scope.names,y.2 = .local→scope.names.lookup y.1=some .local
 free:∀y∈scope.names,y.2 = .free→X.env.kindOf y.1=some .cell∨X.env.kindOf y.1=some .free
 len:∀σ:St,σ.length=X.N.length→(σf σ).length=N'.length
 vals:∀(σ:St) (j:Nat) (x:Str) (v:V),N'[j]?=some x→(σf σ)[j]?=some (some v)→∃i:Nat,X.N[i]?=some x∧σ[i]?=some (some v)∧scope.names.lookup x=some .free
section
variable {X:Cx} {tg elt iter:Expr} {ifs:List Expr} {scope:Scope} {pos:Pos} {N':List Str} {wi:TI} {g:TG} {tt:TT} {te:TE} {σf:St→St}
theorem Si {pins:List (Addr×Obj)} {σ:St} {H2:Hp} {s2:Shared} {cl:List (Str×Addr)} {C:Addr} {fp:List Addr} (O:CmpOk X scope N' σf) (I2:Inv X pins σ H2 s2) (f2:∀b∈fp,FpOk X pins H2 b) (hC:s2.heap.objs.size≤C)
 (hlt:∀b∈fp,b < s2.heap.objs.size) (e2:∀x c,cl.lookup x=some c→X.env.cells.lookup x=some c) (e4:∀y∈scope.names,y.2 = .free→∃c,cl.lookup y.1=some c):(Cg X N' scope cl C s2 H2 fp).Ok where
 mod:=I2.ok.mod
 kind:=O.kind
 glob:=I2.ok.glob
 blt:=I2.ok.blt
 above:=hC
 inj:=fun x y c h1 h2=>I2.ok.inj x y c (e2 x c h1) (e2 y c h2)
 has:=fun x h=>by
  have q:=Lu (env:=X.env) (x:=x) O.cell h
  exact e4 _ (C1 q) rfl
 cab:=fun x c h _=>nomatch h
 hd:=I2.ok.hd
 frames:=I2.ok.frames
 stk:=.inl rfl
 exf:=fun b hb=>⟨Nat.ne_of_lt (Nat.lt_of_lt_of_le (hlt b hb) hC),fun x c e=>(f2 b hb).2.2.2.2.1 x c (e2 x c e)⟩
 bs:=I2.bs
 bsz:=Nat.le_trans I2.ok.bsz I2.sz
 noex:=fun b o e hb=>by
  rcases (f2 b hb).2.2.2.1 with z | z
  ·exact I2.ok.noex b o e z
  ·exact absurd (Nat.lt_of_lt_of_le (Heap.lt_size (I2.ok.bs b o e).1) z) (Nat.lt_irrefl _)
 exfs:=fun b hb z=>by
  rcases List.mem_cons.mp (I2.stkSub b z) with q | q
  ·exact (f2 b hb).2.1 q
  ·exact (f2 b hb).2.2.1 q
 funs:=I2.stack
 frf:=I2.stkFree
theorem TK {pins:List (Addr×Obj)} {σ:St} {H2:Hp} {s2:Shared} (I2:Inv X pins σ H2 s2) {a:Addr} (h:s2.heap.objs.size≤a):a∉frs X.stack:=fun hb=>by
 rcases List.mem_cons.mp (I2.stkSub a hb) with q | q
 ·exact absurd (Nat.lt_of_lt_of_le I2.lt h) (by rw [q];exact Nat.lt_irrefl _)
 ·exact I2.nofs h q
theorem KI {pins:List (Addr×Obj)} {σ:St} {H2:Hp} {s2:Shared} {cl:List (Str×Addr)} {fp:List Addr} {it:Addr} {tn:Nat→Heap→Prop} {J:It} {Fin:List V→Hp→Prop} {RR:Value→Addr→Result→Shared→Prop} {E:Value→Shared→Prop} (O:CmpOk X scope N' σf) (hc:X.calm=true)
 (I2:Inv X pins σ H2 s2) (T:Turn X.prog X.w X.K tg J fp it tn) (st2:tn 0 s2.heap) (f2:∀b∈fp,FpOk X pins H2 b)
 (e2:∀x c,cl.lookup x=some c→X.env.cells.lookup x=some c) (e4:∀y∈scope.names,y.2 = .free→∃c,cl.lookup y.1=some c)
 (hg:∀C,PG (Cg X N' scope cl C s2 H2 fp) tg g) (ht:∀C,PIf (Cg X N' scope cl C s2 H2 fp) ifs tt) (he:∀C,PE (Cg X N' scope cl C s2 H2 fp) elt te)
 (B:OA J g tt te (σf σ) H2 Fin)
 (fin:∀C s' σ' H' acc m,s2.heap.objs.size≤C→C≠s2.heap.objs.size→Inv (Cg X N' scope cl C s2 H2 fp) [] σ' H' s'→H' s2.heap.objs.size=none→acc.length≤sizeLine→(∃its n,Vals acc its∧s'.heap.get? s2.heap.objs.size=some { cls:=.type "list",data:=.seq its.toArray n })→Fin acc H'→s'.heap.Ns C m→
   RR (.ref s2.heap.objs.size) C (.ok .next) s') :
 wpAny (model X.prog X.w) X.A (newList []) (fun acc s₃=>wpAny (model X.prog X.w) X.A (newFunctionEnv scope X.env.globals cl [] X.env.qual none .none (some X.env)) (fun cenv s₄=>
  codeAny (model X.prog X.w) X.A (.compStart (.ListComp elt [⟨tg,iter,ifs,0⟩] scope pos) 0 (.ref it) acc { cenv with scope:=relabel scope X.env }) (RR acc cenv.locals) s₄) E s₃) E s2:=by
 refine wpAny_newObj_type (wpAny_newFunctionEnv O.cell (by intro y hy;simp at hy) (fun h₁ hns₁ hsb₁=>?_) O.kind)
 dsimp only at hns₁ hsb₁ ⊢
 generalize hH2:s2.heap.push { cls:=.type "list",dict:=none,data:=.seq ([]:List Value).toArray }=HP at hns₁ hsb₁ ⊢
 have hC:HP.objs.size=s2.heap.objs.size + 1:=by rw [←hH2,Heap.size_push]
 generalize hDD:s2.heap.objs.size=DD at *
 generalize hCC:HP.objs.size=CC at *
 have hDC:DD≠CC:=by rw [hC];exact Nat.ne_of_lt (Nat.lt_succ_self _)
 have hCle:s2.heap.objs.size≤CC:=by rw [hC,hDD];exact Nat.le_succ _
 have hlt:∀b∈fp,b < s2.heap.objs.size:=fun b hb=>by obtain ⟨o,e,_⟩:=T.obj _ _ st2 b hb;exact Heap.lt_size e
 have hlt':∀b∈fp,b < DD:=fun b hb=>by rw [←hDD];exact hlt b hb
 have below:∀b,b < DD→b≠CC∧b≠DD:=fun b hb=>⟨by rw [hC];exact Nat.ne_of_lt (Nat.lt_succ_of_lt hb),Nat.ne_of_lt hb⟩
 have old:∀b o,s2.heap.get? b=some o→h₁.get? b=some o:=fun b o e=>hsb₁.extBut b o (below b (by rw [←hDD];exact Heap.lt_size e)).1 (Heap.get?_push_of_some _ (hH2 ▸ Heap.get?_push_of_some _ e))
 have hacc:h₁.get? DD=some { cls:=.type "list",data:=.seq ([]:List Value).toArray }:=by
  refine hsb₁.extBut _ _ hDC (Heap.get?_push_of_some _ ?_)
  rw [←hH2,←hDD]
  exact Heap.get?_push_size _ rfl
 have ok:=Si (cl:=cl) (C:=CC) O I2 f2 hCle hlt e2 e4
 have hfs:DD∉frs X.stack:=TK I2 (by rw [hDD];exact Nat.le_refl _)
 obtain ⟨W,⟨m0,w0⟩,turn⟩:=B
 let X':Cx:=Cg X N' scope cl CC s2 H2 fp
 have I0:Inv X' [] (σf σ) H2 { s2 with heap:=h₁,toks:=s2.toks + ([]:List (Str×Value)).length }:=by
  refine ⟨ok,rfl,I2.bare,Un.kept old,⟨_,hns₁,fun j x v q1 q2 q3=>?_⟩,fun x c e=>?_,I2.hok.fresh hCle,fun x c e=>I2.freeC x c (e2 x c e),(fun p hp=>nomatch hp),I2.hok.kept old,O.len σ I2.len⟩
  ·obtain ⟨i,n1,n2,n3⟩:=O.vals σ j x v q1 q2
   obtain ⟨m,_,hl⟩:=I2.loc
   have hfr:=O.free _ (C1 n3) rfl
   obtain ⟨u,r,l⟩:=hl i x v n1 n2 (.inr hfr)
   refine ⟨u,r,?_⟩
   rcases l with ⟨k,_⟩ | ⟨_,c,ec,hcell⟩
   ·rcases hfr with z | z <;> (have z':=k.symm.trans z;cases z')
   ·obtain ⟨c',ec'⟩:=e4 _ (C1 n3) rfl
    have z:=e2 _ _ ec'
    have ez:X.env.cells.lookup x=some c':=z
    rw [ec] at ez
    cases ez
    refine .inr ⟨?_,c,ec',?_⟩
    ·show (relabel scope X.env).names.lookup x=some .cell∨(relabel scope X.env).names.lookup x=some .free
     rw [FV,n3]
     simp only [Option.map_some]
     split
     ·exact .inl rfl
     ·exact .inr rfl
    ·obtain ⟨o,ho,hd⟩:=hcell
     exact ⟨o,old _ _ ho,hd⟩
  ·obtain ⟨v,o,ho,hd⟩:=I2.cell x c (e2 x c e)
   exact ⟨v,o,old _ _ ho,hd⟩
 have loop:∀s₃:Shared,s₃ = { s2 with heap:=h₁,toks:=s2.toks + ([]:List (Str×Value)).length }→
  codeAny (model X.prog X.w) X.A (.compLoop (.ListComp elt [⟨tg,iter,ifs,0⟩] scope pos) 0 (.ref it) (.ref DD) (compEnvC scope cl CC X.env)) (RR (.ref DD) CC) s₃:=by
  rintro s₃ rfl
  refine KZ (fun n s'=>∃i acc its nn σ' H',Inv X' [] σ' H' s'∧tn i s'.heap∧(∀b∈fp,H' b=none)∧Vals acc its∧s'.heap.get? DD=some { cls:=.type "list",data:=.seq its.toArray nn }∧H' DD=none∧W i n acc σ' H') ?_ m0
   ⟨0,[],[],0,σf σ,H2,I0,T.keep _ _ _ st2 (fun b _ o e=>old b o e),fun b hb=>(f2 b hb).1,.nil,hacc,I2.hok.fresh (by rw [hDD];exact Nat.le_refl _),w0⟩
  rintro n s' ⟨i,acc,its,nn,σ3,H3,I3,st3,fr3,hv,hD,hDn,w3⟩
  have I3p:Inv X' [(DD,({ cls:=.type "list",data:=.seq its.toArray nn }:Obj))] σ3 H3 s':=I3.pins_of fun p hp=>by
   have e:p=(DD,({ cls:=.type "list",data:=.seq its.toArray nn }:Obj)):=by simpa using hp
   subst e
   exact ⟨hD,hDn,hDC,hfs,fun v z=>nomatch z⟩
  have stat:∀{pins':List (Addr×Obj)} {H':Hp},(∀p∈pins',p.1=DD)→(∀b∈fp,H' b=none)→∀b∈fp,FpOk X' pins' H' b:=fun {pins' H'} hp hn b hb=>
   ⟨hn b hb,(ok.exf b hb).1,ok.exfs b hb,.inl hb,(ok.exf b hb).2,fun p hp' z=>by
    have e:p.1=DD:=hp p (by simpa [X',Cg] using hp')
    exact absurd (hlt' b hb) (by rw [←z,e];exact Nat.lt_irrefl _)⟩
  have one:∀p∈[(DD,({ cls:=.type "list",data:=.seq its.toArray nn }:Obj))],p.1=DD:=fun p hp=>by
   have e:p=(DD,({ cls:=.type "list",data:=.seq its.toArray nn }:Obj)):=by simpa using hp
   rw [e]
  obtain ⟨hz,tr⟩:=turn i n acc σ3 H3 w3
  rcases tr with ⟨stop,qf⟩ | ⟨go,step⟩
  ·refine thn (T.done X' rfl rfl rfl hc i _ s' σ3 H3 (fun _ _=>False) I3p (stat one fr3) st3 stop) fun r s4 ⟨hr,I4⟩=>?_
   subst hr
   obtain ⟨m4,hm4,_⟩:=I4.loc
   have pD:=(I4.pin (DD,({ cls:=.type "list",data:=.seq its.toArray nn }:Obj)) (by simp [X',Cg])).1
   have I4':Inv X' [] σ3 H3 s4:=I4.pins_of fun p hp=>nomatch hp
   exact fin CC s4 σ3 H3 acc m4 (by rw [hDD] at hCle;exact hCle) (Ne.symm hDC) I4' hDn hz ⟨its,nn,hv,pD⟩ qf hm4
  ·refine thn (T.item X' rfl rfl rfl hc i _ s' σ3 H3 (fun _ _=>False) I3p (stat one fr3) st3 go) fun r s4 ⟨u,hr,h4⟩=>?_
   subst hr
   refine thn h4 fun _ s5 ⟨x,H5,I5,r5,y5,st5,fr5⟩=>?_
   have I5':=I5.pinned (stat one fr5) (T.obj _ _ st5)
   refine thn (hg CC _ s5 σ3 H5 x u _ I5' r5 (step x H5 y5)) fun _ s6 ⟨σ6,H6,I6,q6⟩=>?_
   refine thn (ht CC _ s6 σ6 H6 _ I6 q6) fun b s7 ⟨H7,I7,q7⟩=>?_
   have back:∀{H8:Hp} {s8:Shared},Inv X' ([(DD,({ cls:=.type "list",data:=.seq its.toArray nn }:Obj))]++GQ fp s5.heap) σ6 H8 s8→
    s8.heap.get? DD=some { cls:=.type "list",data:=.seq its.toArray nn }∧H8 DD=none∧tn (i + 1) s8.heap∧(∀b∈fp,H8 b=none)∧Inv X' [] σ6 H8 s8:=fun {H8 s8} I8=>by
    have p1:=I8.pin (DD,({ cls:=.type "list",data:=.seq its.toArray nn }:Obj)) (by simp [X',Cg])
    refine ⟨p1.1,p1.2.1,T.keep _ _ _ st5 fun b hb o e=>(I8.pin (b,o) (List.mem_append_right _ (List.mem_append_right _ (E2 hb e)))).1,fun b hb=>?_,I8.pins_of fun p hp=>nomatch hp⟩
    obtain ⟨o,e,_⟩:=T.obj _ _ st5 b hb
    exact (I8.pin (b,o) (List.mem_append_right _ (List.mem_append_right _ (E2 hb e)))).2.1
   cases b with
   | false=>
     rw [if_neg Bool.false_ne_true] at q7 ⊢
     obtain ⟨m',hm,w7⟩:=q7
     obtain ⟨a1,a2,a3,a4,a5⟩:=back I7
     exact ⟨m',hm,i + 1,acc,its,nn,σ6,H7,a5,a3,a4,hv,a1,a2,w7⟩
   | true=>
     rw [if_pos rfl] at q7 ⊢
     refine thn (he CC _ s7 σ6 H7 _ I7 q7) fun y s8 ⟨v8,H8,I8,r8,m',hm,w8⟩=>?_
     obtain ⟨a1,a2,a3,a4,a5⟩:=back I8
     have hsz:its.toArray.size≤sizeLine:=by
      have e:=hv.length
      simpa [e] using hz
     refine wpAny_list_append_plain (hsz:=hsz) ⟨nn,a1⟩ fun h9 hl9 hs9=>?_
     obtain ⟨n9,e9⟩:=hl9
     have e9':h9.get? DD=some { cls:=.type "list",data:=.seq (its++[y]).toArray n9 }:=by simpa using e9
     refine ⟨m',hm,i + 1,acc++[v8],its++[y],n9,σ6,H8,a5.turned (t':=s8.toks) (h':=h9) (it:=DD) (fun b o hb e=>hs9.extBut b o hb e) a2 hDC (.inr (show s2.heap.objs.size≤DD by rw [hDD];exact Nat.le_refl _)) (fun x' c e z=>?_) (fun p hp=>nomatch hp),T.keep _ _ _ a3 fun b hb o e=>hs9.extBut b o (Nat.ne_of_lt (hlt' b hb)) e,a4,hv.append (.cons r8 .nil),e9',a2,w8⟩
     obtain ⟨v,o,ho,hd⟩:=I2.cell x' c (e2 x' c e)
     have:=Heap.lt_size ho
     rw [hDD,z] at this
     exact Nat.lt_irrefl _ this
 exact codeAny_compStart_list (loop _ rfl) (T.self _ 0 _ _ _ (T.keep _ _ _ st2 fun b _ o e=>old b o e) (loop _ rfl))
end
section
variable {X:Cx} {tg elt iter:Expr} {ifs:List Expr} {scope:Scope} {pos:Pos} {N':List Str} {wi:TI} {g:TG} {tt:TT} {te:TE} {σf:St→St}
theorem JS {pins:List (Addr×Obj)} {σ σ':St} {H2 H':Hp} {s2 s':Shared} {cl:List (Str×Addr)} {fp:List Addr} {C:Addr} {acc:List V} {its:List Value} {n:Nat} {h':Heap} (I2:Inv X pins σ H2 s2) (f2:∀b∈fp,FpOk X pins H2 b)
 (hC:s2.heap.objs.size≤C) (hCD:C≠s2.heap.objs.size) (I':Inv (Cg X N' scope cl C s2 H2 fp) [] σ' H' s') (hDn:H' s2.heap.objs.size=none) (hz:acc.length≤sizeLine) (hv:Vals acc its)
 (hD:s'.heap.get? s2.heap.objs.size=some { cls:=.type "list",data:=.seq its.toArray n }) (hs:Heap.SameBut C s'.heap h') :
 Inv X pins σ (upd H' s2.heap.objs.size (.lst acc)) { s' with heap:=h' }:=by
 have U:=I'.base
 have lt:∀b o,s2.heap.get? b=some o→b≠C∧b≠s2.heap.objs.size:=fun b o e=>⟨Nat.ne_of_lt (Nat.lt_of_lt_of_le (Heap.lt_size e) hC),Nat.ne_of_lt (Heap.lt_size e)⟩
 have neD:∀b u,H' b=some u→b≠s2.heap.objs.size:=fun b u e=>Bf e hDn
 have neC:∀b u,H' b=some u→b≠C:=fun b u e=>Bf e I'.free
 refine I2.call' (s':={ s' with heap:=h' }) (ch:=fp) I'.os ⟨fun b o e n hb hx=>?_,fun b o e n hb hx=>?_,fun b o e n hx=>?_,fun b o e hx=>?_,fun b xs e=>?_,fun b o u e=>?_,fun b ps e=>?_⟩ ?_ I'.bare fun b hb=>⟨(f2 b hb).2.2.2.1,(f2 b hb).2.1,(f2 b hb).2.2.2.2.1,(f2 b hb).2.2.2.2.2⟩
 ·exact hs.extBut b o (lt b o e).1 (U.keep b o e n hb hx)
 ·obtain ⟨sl,q⟩:=U.slot b o e n hb hx
  exact ⟨sl,hs.extBut b _ (lt b o e).1 q⟩
 ·rw [Au (lt b o e).2];exact U.free b o e n hx
 ·obtain ⟨o',q⟩:=U.there b o e hx
  exact ⟨o',hs.extBut b _ (lt b o e).1 q⟩
 ·have q:=U.tups b xs e;rw [Au (neD b _ q)];exact q
 ·have q:=U.frzs b o u e;rw [Au (neD b _ q)];exact q
 ·obtain ⟨m,q⟩:=U.tbls b ps e
  exact ⟨m,by rw [Au (neD b _ q)];exact q⟩
 ·intro b u e
  by_cases hb:b=s2.heap.objs.size
  ·subst hb
   rw [AJ] at e
   cases e
   exact ⟨hz,its,n,hv,hs.extBut _ _ (Ne.symm hCD) hD⟩
  ·rw [Au hb] at e
   refine (I'.hok b u e).stay (fun c v hc q=>hs.extBut c v ?_ q) (fun c q=>by rw [Au (neD c _ q)];exact q) fun c xs q=>by rw [Au (neD c _ q)];exact q
   rcases hc with z | z
   ·rw [z];exact neC b u e
   ·exact neC c _ z
theorem MA (O:CmpOk X scope N' σf) (hc:X.calm=true) (hi:PI X tg iter wi)
 (hg:∀cl C s2 H2 fp,PG (Cg X N' scope cl C s2 H2 fp) tg g) (ht:∀cl C s2 H2 fp,PIf (Cg X N' scope cl C s2 H2 fp) ifs tt) (he:∀cl C s2 H2 fp,PE (Cg X N' scope cl C s2 H2 fp) elt te)
 (hs:∀x,foldedSetIterable iter X.env x=pure x:=by intro _;rfl):PE X (.ListComp elt [⟨tg,iter,ifs,0⟩] scope pos) (Kx wi g tt te σf):=by
 intro pins s σ H Q I h
 obtain ⟨cl,e1,e2,e4⟩:=Ik (scope:=scope) (env:=X.env) fun y hy hf=>I.ok.has y.1 (O.free y hy hf)
 rw [eval_ListComp]
 refine wpAny_comprehension_free (use:=none) rfl hs e1 O.kind O.loc (thn (hi pins s σ H _ I h) fun v s1 h1=>thn h1 fun itv s2 h2=>?_)
 obtain ⟨it,fp,tn,J,H2,rfl,I2,T,st2,f2,B⟩:=h2
 refine KI (RR:=fun acc C=>compPost (model X.prog X.w) X.A X.xe none (EP X pins σ Q) acc C) O hc I2 T st2 f2 e2 e4 (fun C=>hg cl C s2 H2 fp) (fun C=>ht cl C s2 H2 fp) (fun C=>he cl C s2 H2 fp) B ?_
 intro C s' σ' H' acc m hC hCD I' hDn hz hL fin hn
 obtain ⟨its,n,hv,hD⟩:=hL
 refine ⟨m,hn,fun h' hs'=>?_⟩
 exact ⟨.ref s2.heap.objs.size,upd H' _ (.lst acc),JS I2 f2 hC hCD I' hDn hz hv hD hs',rfl,fin _ hDn hz⟩
theorem Rn {i:Nat} {y:Str} {py spos:Pos} (O:CmpOk X scope N' σf) (hc:X.calm=true) (hN:X.N.Nodup) (hiN:X.N[i]?=some y) (hx:X.env.scope.names.lookup y=some .local) (hi:PI X tg iter wi)
 (hg:∀cl C s2 H2 fp,PG (Cg X N' scope cl C s2 H2 fp) tg g) (ht:∀cl C s2 H2 fp,PIf (Cg X N' scope cl C s2 H2 fp) ifs tt) (he:∀cl C s2 H2 fp,PE (Cg X N' scope cl C s2 H2 fp) elt te)
 (hsw:swapsWith (.ListComp elt [⟨tg,iter,ifs,0⟩] scope pos) (some (.Name y py)) spos.line X.env=pure true:=by rfl)
 (hs:∀x,foldedSetIterable iter X.env x=pure x:=by intro _;rfl):PS X (.Assign [.Name y py] (.ListComp elt [⟨tg,iter,ifs,0⟩] scope pos) spos) (LM (Kx wi g tt te σf) (Iz i)):=by
 intro pins s σ H D I h
 obtain ⟨cl,e1,e2,e4⟩:=Ik (scope:=scope) (env:=X.env) fun y hy hf=>I.ok.has y.1 (O.free y hy hf)
 rw [exec_Assign_Name_used _ _ _ _ hsw]
 refine wpAny_bind (wpAny_standAt (wpAny_bind ?_))
 show wpAny _ X.A (do let _ ←comprehension (.ListComp elt [⟨tg,iter,ifs,0⟩] scope pos) scope X.env _ (newList []) false (eval iter X.env) (some (assign (.Name y py) X.env))) _ _ s
 refine wpAny_bind (thn (wpAny_comprehension_free (use:=some (assign (.Name y py) X.env)) (Q:=fun _ s'=>SP X pins D .next s') rfl hs e1 O.kind O.loc (thn (hi pins s σ H _ I h) fun v s1 h1=>thn h1 fun itv s2 h2=>?_)) (fun _ s' hq=>wpAny_pure (wpAny_pure hq)))
 obtain ⟨it,fp,tn,J,H2,rfl,I2,T,st2,f2,B⟩:=h2
 refine KI (RR:=fun acc C=>compPost (model X.prog X.w) X.A X.xe (some (assign (.Name y py) X.env)) (fun _ s'=>SP X pins D .next s') acc C) O hc I2 T st2 f2 e2 e4 (fun C=>hg cl C s2 H2 fp) (fun C=>ht cl C s2 H2 fp) (fun C=>he cl C s2 H2 fp) B ?_
 intro C s' σ' H' acc m hC hCD I' hDn hz hL fin hn
 obtain ⟨its,n,hv,hD⟩:=hL
 show wpAny _ X.A (assign (.Name y py) X.env (.ref s2.heap.objs.size)) _ _ _
 have I3:=JS I2 f2 hC hCD I' hDn hz hv hD (Heap.SameBut.refl ..)
 refine wpAny_assign_Name (J4 I3 hN hiN (.inl hx) (v:=.ref s2.heap.objs.size) rfl (fun s4 I4 ⟨a,hsb,ha⟩=>?_) (.inr hx))
 have hCL:C≠X.env.locals:=Nat.ne_of_gt (Nat.lt_of_lt_of_le I2.lt hC)
 have hCc:∀x c,X.env.cells.lookup x=some c→c≠C:=fun x c e z=>by
  obtain ⟨v,q⟩:=I2.cell x c e
  exact absurd (Nat.lt_of_lt_of_le q.lt (by rw [z];exact hC)) (Nat.lt_irrefl _)
 have hCa:C≠a:=by
  rcases ha with z | z
  ·rw [z];exact hCL
  ·exact fun q=>hCc _ _ z q.symm
 refine ⟨m,hn.sameBut hsb hCa,fun h' hs'=>?_⟩
 have hnC:(upd H' s2.heap.objs.size (.lst acc)) C=none:=by rw [Au hCD];exact I'.free
 refine ⟨_,_,I4.turned (t':=s4.toks) (h':=h') (it:=C) (fun b o hb e=>hs'.extBut b o hb e) hnC hCL (.inr (Nat.le_trans I2.sz hC)) hCc (fun p hp z=>?_),fin _ hDn hz⟩
 exact absurd (Nat.lt_of_lt_of_le (Heap.lt_size (I2.pin p hp).1) (by rw [z];exact hC)) (Nat.lt_irrefl _)
end
end L2
set_option autoImplicit false
namespace F2
open PySem L2 PySem.Spec
inductive D where
 | non | bl (b:Bool) | int (i:Int) | str (x:Str) | tup (xs:List D) | lst (xs:List D) | scr (ns:List Int) | dic | obj (k:Nat) | ty (n:String) | exc (n:Str) (xs:List D)
structure Cf where
 ι:List Addr
 O:Addr→Prop
def Cf.A (c:Cf) (a:Addr):Prop:=a∈c.ι∨c.O a
def Scr (K:PySem.W.Frag) (c:Cf) (H:Hp) (a:Addr) (vs:List V):Prop:=
 ((∃o,H a=some (.frz o (.lst vs)))∧¬c.A a)∨
   ∃(o:Obj) (its:Array Value) (n:Nat),K.lookup a=some o∧o.cls = .type "list"∧o.dict=none∧o.data = .seq its n∧its.size≤sizeLine∧Vals vs its.toList
def XIs (x C:Addr) (dx:Option Addr) (h:Heap):Prop:=∃(o:Obj) (vs:Array Value),h.get? x=some o∧o.cls = .ref C∧o.dict=dx∧o.data = .fields vs
def Hx (n:Str):List Str:=if n = "NoTalk" then ["at"] else if n = "Broken" then ["at", "side"] else []
def XFld (c:Cf) (H:Hp) (dx:Option Addr) (ns:List Str) (vs:List V):Prop:=match dx with
 | none=>vs=[]
 | some d=>H d=some (.xd (ns.zip vs))∧¬c.A d
mutual
inductive Rep (K:PySem.W.Frag) (c:Cf) (H:Hp):V→D→Prop where
 | non:Rep K c H .non .non
 | bl (b:Bool):Rep K c H (.bl b) (.bl b)
 | int (i:Int):Rep K c H (.int i) (.int i)
 | str (x:Str):Rep K c H (.str x) (.str x)
 | ty (n:String):Rep K c H (.ty n) (.ty n)
 | tup {a:Addr} {vs:List V} {ds:List D}:H a=some (.tup vs)→¬c.A a→Reps K c H vs ds→Rep K c H (.ref a) (.tup ds)
 | lst {a:Addr} {vs:List V} {ds:List D}:H a=some (.lst vs)→¬c.A a→Reps K c H vs ds→Rep K c H (.ref a) (.lst ds)
 | scr {a:Addr} {ns:List Int}:Scr K c H a (ns.map V.int)→Rep K c H (.ref a) (.scr ns)
 | dic {a:Addr}:H a=some (.dK [])→¬c.A a→Rep K c H (.ref a) .dic
 | obj {a:Addr} {k:Nat}:c.ι[k]?=some a→Rep K c H (.ref a) (.obj k)
 | exc {x C:Addr} {dx:Option Addr} {n:Str} {vs:List V} {ds:List D}:PySem.W.nsIn K mainGlobals n=some (some (.ref C))→H x=some (.ext (XIs x C dx))→¬c.A x→XFld c H dx (Hx n) vs→Reps K c H vs ds→Rep K c H (.ref x) (.exc n ds)
inductive Reps (K:PySem.W.Frag) (c:Cf) (H:Hp):List V→List D→Prop where
 | nil:Reps K c H [] []
 | cons {v:V} {d:D} {vs:List V} {ds:List D}:Rep K c H v d→Reps K c H vs ds→Reps K c H (v :: vs) (d :: ds)
end
structure Ext (c:Cf) (H:Hp) (c':Cf) (H':Hp):Prop where
 keep:∀b o,H b=some o→¬c.A b→H' b=some o
 av:∀b o,H b=some o→c'.A b→c.A b
 io:∀(k:Nat) (a:Addr),c.ι[k]?=some a→c'.ι[k]?=some a
theorem Ext.refl {c:Cf} {H:Hp}:Ext c H c H:=⟨fun _ _ h _=>h,fun _ _ _ h=>h,fun _ _ h=>h⟩
theorem Ext.trans {c c1 c2:Cf} {H H1 H2:Hp} (a:Ext c H c1 H1) (b:Ext c1 H1 c2 H2):Ext c H c2 H2:=by
 refine ⟨fun x o h n=>?_,fun x o h n=>?_,fun k x h=>b.io k x (a.io k x h)⟩
 ·exact b.keep x o (a.keep x o h n) fun z=>n (a.av x o h z)
 ·by_cases q:c.A x
  ·exact q
  ·exact a.av x o h (b.av x o (a.keep x o h q) n)
theorem Scr.mono {K:PySem.W.Frag} {c c':Cf} {H H':Hp} {a:Addr} {vs:List V} (e:Ext c H c' H') (h:Scr K c H a vs):Scr K c' H' a vs:=by
 rcases h with ⟨⟨o,h⟩,n⟩ | h
 ·exact .inl ⟨⟨o,e.keep _ _ h n⟩,fun z=>n (e.av _ _ h z)⟩
 ·exact .inr h
theorem Scr.sq {K:PySem.W.Frag} {c:Cf} {H:Hp} {a:Addr} {vs:List V} (h:Scr K c H a vs):SqL K H a vs:=by
 rcases h with ⟨h,_⟩ | h
 ·exact .inl (.inr h)
 ·exact .inr h
theorem XFld.mono {c c':Cf} {H H':Hp} {dx:Option Addr} {ns:List Str} {vs:List V} (e:Ext c H c' H') (h:XFld c H dx ns vs):XFld c' H' dx ns vs:=by
 cases dx with
 | none=>exact h
 | some d=>exact ⟨e.keep _ _ h.1 h.2,fun z=>h.2 (e.av _ _ h.1 z)⟩
mutual
theorem Rep.mono {K:PySem.W.Frag} {c c':Cf} {H H':Hp} (e:Ext c H c' H'):∀{v:V} {d:D},Rep K c H v d→Rep K c' H' v d
 | _,_,.non=>.non
 | _,_,.bl b=>.bl b
 | _,_,.int i=>.int i
 | _,_,.str x=>.str x
 | _,_,.ty n=>.ty n
 | _,_,.tup h n r=>.tup (e.keep _ _ h n) (fun z=>n (e.av _ _ h z)) (Reps.mono e r)
 | _,_,.lst h n r=>.lst (e.keep _ _ h n) (fun z=>n (e.av _ _ h z)) (Reps.mono e r)
 | _,_,.scr h=>.scr (h.mono e)
 | _,_,.dic h n=>.dic (e.keep _ _ h n) (fun z=>n (e.av _ _ h z))
 | _,_,.obj h=>.obj (e.io _ _ h)
 | _,_,.exc g h n f r=>.exc g (e.keep _ _ h n) (fun z=>n (e.av _ _ h z)) (f.mono e) (Reps.mono e r)
theorem Reps.mono {K:PySem.W.Frag} {c c':Cf} {H H':Hp} (e:Ext c H c' H'):∀{vs:List V} {ds:List D},Reps K c H vs ds→Reps K c' H' vs ds
 | _,_,.nil=>.nil
 | _,_,.cons h t=>.cons (Rep.mono e h) (Reps.mono e t)
end
section
variable {K:PySem.W.Frag} {c:Cf} {H:Hp}
theorem Reps.length:∀{vs:List V} {ds:List D},Reps K c H vs ds→vs.length=ds.length
 | _,_,.nil=>rfl
 | _,_,.cons _ t=>by simp [Reps.length t]
theorem Reps.get:∀{vs:List V} {ds:List D} {i:Nat} {v:V} {d:D},Reps K c H vs ds→vs[i]?=some v→ds[i]?=some d→Rep K c H v d
 | _,_,_,_,_,.nil,e,_=>by simp at e
 | _,_,0,_,_,.cons r _,e,e'=>by simp at e e';subst e e';exact r
 | _,_,i + 1,_,_,.cons _ t,e,e'=>Reps.get (i:=i) t (by simpa using e) (by simpa using e')
theorem Reps.at:∀{vs:List V} {ds:List D} {i:Nat} {d:D},Reps K c H vs ds→ds[i]?=some d→∃v,vs[i]?=some v∧Rep K c H v d
 | _,_,_,_,.nil,e=>by simp at e
 | _,_,0,_,.cons r _,e=>by simp at e;subst e;exact ⟨_,rfl,r⟩
 | _,_,i + 1,_,.cons _ t,e=>by
   obtain ⟨v,h1,h2⟩:=Reps.at (i:=i) t (by simpa using e)
   exact ⟨v,by simpa using h1,h2⟩
theorem Reps.append:∀{vs ws:List V} {ds es:List D},Reps K c H vs ds→Reps K c H ws es→Reps K c H (vs++ws) (ds++es)
 | _,_,_,_,.nil,s=>s
 | _,_,_,_,.cons r t,s=>.cons r (Reps.append t s)
theorem Reps.take:∀{vs:List V} {ds:List D} (n:Nat),Reps K c H vs ds→Reps K c H (vs.take n) (ds.take n)
 | _,_,0,_=>.nil
 | _,_,_ + 1,.nil=>.nil
 | _,_,n + 1,.cons r t=>.cons r (Reps.take n t)
theorem Reps.drop:∀{vs:List V} {ds:List D} (n:Nat),Reps K c H vs ds→Reps K c H (vs.drop n) (ds.drop n)
 | _,_,0,r=>r
 | _,_,_ + 1,.nil=>.nil
 | _,_,n + 1,.cons _ t=>Reps.drop n t
theorem Reps.set {v:V} {d:D} (r:Rep K c H v d):∀{vs:List V} {ds:List D} (i:Nat),Reps K c H vs ds→Reps K c H (vs.set i v) (ds.set i d)
 | _,_,_,.nil=>.nil
 | _,_,0,.cons _ t=>.cons r t
 | _,_,i + 1,.cons q t=>.cons q (Reps.set r i t)
theorem Reps.ints:∀ns:List Int,Reps K c H (ns.map V.int) (ns.map D.int)
 | []=>.nil
 | n :: r=>.cons (.int n) (Reps.ints r)
theorem Reps.rep {vs:List V} {ds:List D} (h:Reps K c H vs ds):∀k:Nat,Reps K c H (List.replicate k vs).flatten (List.replicate k ds).flatten
 | 0=>.nil
 | k + 1=>by
   rw [List.replicate_succ,List.replicate_succ,List.flatten_cons,List.flatten_cons]
   exact h.append (Reps.rep h k)
end
inductive Ob where
 | lst (xs:List D)
 | dct (kvs:List (Key×D))
inductive Sl where
 | val (d:D)
 | own (xs:List D)
structure T where
 env:List (Option Sl)
 S:List Ob
def KVR (K:PySem.W.Frag) (c:Cf) (H:Hp):List (Key×V)→List (Key×D)→Prop:=Paired fun p q=>p.1=q.1∧Rep K c H p.2 q.2
def ObR (K:PySem.W.Frag) (c:Cf) (H:Hp) (a:Addr):Ob→Prop
 | .lst ds=>∃vs,H a=some (.lst vs)∧Reps K c H vs ds
 | .dct kvs=>∃us,H a=some (.dK us)∧KVR K c H us kvs
theorem ObR.mono {K:PySem.W.Frag} {c c':Cf} {H H':Hp} {a:Addr} {o:Ob} (e:Ext c H c' H') (h:ObR K c H a o) (ha:H' a=H a):ObR K c' H' a o:=by
 cases o with
 | lst ds=>obtain ⟨vs,h1,h2⟩:=h;exact ⟨vs,ha.trans h1,h2.mono e⟩
 | dct kvs=>obtain ⟨us,h1,h2⟩:=h;exact ⟨us,ha.trans h1,Paired.mapP h2 fun _ _ z=>⟨z.1,z.2.mono e⟩⟩
theorem ObR.some {K:PySem.W.Frag} {c:Cf} {H:Hp} {a:Addr} {o:Ob} (h:ObR K c H a o):∃u,H a=some u:=by
 cases o with
 | lst ds=>obtain ⟨vs,h1,_⟩:=h;exact ⟨_,h1⟩
 | dct kvs=>obtain ⟨us,h1,_⟩:=h;exact ⟨_,h1⟩
structure SInv (K:PySem.W.Frag) (c:Cf) (S:List Ob) (H:Hp):Prop where
 len:c.ι.length=S.length
 nd:c.ι.Nodup
 obs:∀(k:Nat) (a:Addr) (o:Ob),c.ι[k]?=some a→S[k]?=some o→ObR K c H a o
 trk:∀b,c.O b→∃o,H b=some o
 dis:∀b,c.O b→b∉c.ι
theorem SInv.trkA {K:PySem.W.Frag} {c:Cf} {S:List Ob} {H:Hp} (s:SInv K c S H) {b:Addr} (h:c.A b):∃o,H b=some o:=by
 rcases h with h | h
 ·obtain ⟨k,hk,e⟩:=List.mem_iff_getElem.mp h
  have e1:c.ι[k]?=some b:=by rw [List.getElem?_eq_getElem hk,e]
  have hk':k < S.length:=by rw [←s.len];exact hk
  exact (s.obs k b _ e1 (List.getElem?_eq_getElem hk')).some
 ·exact s.trk b h
theorem SInv.free {K:PySem.W.Frag} {c:Cf} {S:List Ob} {H:Hp} (s:SInv K c S H) {b:Addr} (h:H b=none):¬c.A b:=fun z=>by
 obtain ⟨o,e⟩:=s.trkA z
 rw [h] at e;cases e
structure FInv (K:PySem.W.Frag) (Oo:Addr→Prop) (c:Cf) (t:T) (σ:St) (H:Hp):Prop where
 s:SInv K c t.S H
 len:t.env.length=σ.length
 sub:∀b,Oo b→c.O b
 val:∀(i:Nat) (d:D),t.env[i]?=some (some (.val d))→∃v,σ[i]?=some (some v)∧Rep K c H v d
 own:∀(i:Nat) (ds:List D),t.env[i]?=some (some (.own ds))→∃a vs,σ[i]?=some (some (.ref a))∧c.O a∧¬Oo a∧H a=some (.lst vs)∧Reps K c H vs ds
 inj:∀(i j:Nat) (ds es:List D) (a:Addr),t.env[i]?=some (some (.own ds))→t.env[j]?=some (some (.own es))→σ[i]?=some (some (.ref a))→σ[j]?=some (some (.ref a))→i=j
structure Stp (Oo:Addr→Prop) (c:Cf) (H:Hp) (c':Cf) (H':Hp):Prop where
 ext:Ext c H c' H'
 oo:∀b,Oo b→H' b=H b
theorem Stp.refl {Oo:Addr→Prop} {c:Cf} {H:Hp}:Stp Oo c H c H:=⟨.refl,fun _ _=>rfl⟩
theorem Stp.trans {Oo:Addr→Prop} {c c1 c2:Cf} {H H1 H2:Hp} (a:Stp Oo c H c1 H1) (b:Stp Oo c1 H1 c2 H2):Stp Oo c H c2 H2:=
 ⟨a.ext.trans b.ext,fun x h=>(b.oo x h).trans (a.oo x h)⟩
section
variable {K:PySem.W.Frag} {Oo:Addr→Prop} {c:Cf} {t:T} {σ:St} {H:Hp}
theorem Ext.laid {S:List Ob} (s:SInv K c S H) {p:Addr} {o:HO} (h:H p=none):Ext c H c (upd H p o):=
 ⟨fun b u e _=>by rw [Au (Bf e h)];exact e,fun _ _ _ z=>z,fun _ _ e=>e⟩
theorem SInv.laid {S:List Ob} (s:SInv K c S H) {p:Addr} {o:HO} (h:H p=none):SInv K c S (upd H p o):=
 ⟨s.len,s.nd,fun k a u e1 e2=>by
  have q:=s.obs k a u e1 e2
  obtain ⟨w,hw⟩:=q.some
  exact q.mono (Ext.laid s h) (Au (Bf hw h)),
  fun b z=>by obtain ⟨u,e⟩:=s.trk b z;exact ⟨u,by rw [Au (Bf e h)];exact e⟩,s.dis⟩
theorem FInv.laid (f:FInv K Oo c t σ H) {p:Addr} {o:HO} (h:H p=none):FInv K Oo c t σ (upd H p o):=by
 have e:=Ext.laid (o:=o) f.s h
 refine ⟨f.s.laid h,f.len,f.sub,fun i d q=>?_,fun i ds q=>?_,f.inj⟩
 ·obtain ⟨v,h1,h2⟩:=f.val i d q
  exact ⟨v,h1,h2.mono e⟩
 ·obtain ⟨a,vs,h1,h2,h3,h4,h5⟩:=f.own i ds q
  exact ⟨a,vs,h1,h2,h3,by rw [Au (Bf h4 h)];exact h4,h5.mono e⟩
theorem FInv.stp_laid (f:FInv K Oo c t σ H) {p:Addr} {o:HO} (h:H p=none):Stp Oo c H c (upd H p o):=
 ⟨Ext.laid f.s h,fun b z=>by obtain ⟨u,e⟩:=f.s.trk b (f.sub b z);exact Au (Bf e h)⟩
theorem FInv.set (f:FInv K Oo c t σ H) {i:Nat} {v:V} {d:D} (r:Rep K c H v d):FInv K Oo c { t with env:=t.env.set i (some (.val d)) } (σ.set i (some v)) H:=by
 have neq:∀{j:Nat} {x:Sl},(t.env.set i (some (.val d)))[j]?=some (some x)→(j=i∧x = .val d∧j < t.env.length)∨(j≠i∧t.env[j]?=some (some x)):=fun {j x} q=>by
  by_cases h:j=i
  ·subst h
   rw [List.getElem?_set] at q
   split at q
   ·split at q
    ·next h1=>injection q with q;injection q with q;exact .inl ⟨rfl,q.symm,h1⟩
    ·cases q
   ·next h1=>exact absurd rfl h1
  ·rw [List.getElem?_set_ne (Ne.symm h)] at q
   exact .inr ⟨h,q⟩
 refine ⟨f.s,by simp [f.len],f.sub,fun j e q=>?_,fun j ds q=>?_,fun j k ds es a q1 q2 q3 q4=>?_⟩
 ·rcases neq q with ⟨rfl,z,hl⟩ | ⟨h,q⟩
  ·cases z
   exact ⟨v,by rw [List.getElem?_set_self (by rw [←f.len];exact hl)],r⟩
  ·obtain ⟨u,h1,h2⟩:=f.val j e q
   exact ⟨u,by rw [List.getElem?_set_ne (Ne.symm h)];exact h1,h2⟩
 ·rcases neq q with ⟨rfl,z,_⟩ | ⟨h,q⟩
  ·cases z
  ·obtain ⟨a,vs,h1,h2⟩:=f.own j ds q
   exact ⟨a,vs,by rw [List.getElem?_set_ne (Ne.symm h)];exact h1,h2⟩
 ·rcases neq q1 with ⟨_,z,_⟩ | ⟨h,q1⟩
  ·cases z
  rcases neq q2 with ⟨_,z,_⟩ | ⟨h',q2⟩
  ·cases z
  rw [List.getElem?_set_ne (Ne.symm h)] at q3
  rw [List.getElem?_set_ne (Ne.symm h')] at q4
  exact f.inj j k ds es a q1 q2 q3 q4
theorem FInv.setOwn (f:FInv K Oo c t σ H) {i:Nat} {p:Addr} {vs:List V} {ds:List D} (h:H p=none) (r:Reps K c H vs ds) :
 ∃c',FInv K Oo c' { t with env:=t.env.set i (some (.own ds)) } (σ.set i (some (.ref p))) (upd H p (.lst vs))∧Stp Oo c H c' (upd H p (.lst vs)):=by
 let c':Cf:=⟨c.ι,fun b=>c.O b∨b=p⟩
 have nA:¬c.A p:=f.s.free h
 have ext:Ext c H c' (upd H p (.lst vs)):=by
  refine ⟨fun b u e _=>by rw [Au (Bf e h)];exact e,fun b u e z=>?_,fun _ _ e=>e⟩
  rcases z with z | z | z
  ·exact .inl z
  ·exact .inr z
  ·subst z;rw [h] at e;cases e
 have stp:Stp Oo c H c' (upd H p (.lst vs)):=⟨ext,fun b z=>by obtain ⟨u,e⟩:=f.s.trk b (f.sub b z);exact Au (Bf e h)⟩
 have sinv:SInv K c' t.S (upd H p (.lst vs)):=by
  refine ⟨f.s.len,f.s.nd,fun k a u e1 e2=>?_,fun b z=>?_,fun b z hb=>?_⟩
  ·have q:=f.s.obs k a u e1 e2
   obtain ⟨w,hw⟩:=q.some
   exact q.mono ext (Au (Bf hw h))
  ·rcases z with z | z
   ·obtain ⟨u,e⟩:=f.s.trk b z;exact ⟨u,by rw [Au (Bf e h)];exact e⟩
   ·subst z;exact ⟨_,AJ⟩
  ·rcases z with z | z
   ·exact f.s.dis b z hb
   ·subst z;exact nA (.inl hb)
 have neq:∀{j:Nat} {x:Sl},(t.env.set i (some (.own ds)))[j]?=some (some x)→(j=i∧x = .own ds∧j < t.env.length)∨(j≠i∧t.env[j]?=some (some x)):=fun {j x} q=>by
  by_cases h:j=i
  ·subst h
   rw [List.getElem?_set] at q
   split at q
   ·split at q
    ·next h1=>injection q with q;injection q with q;exact .inl ⟨rfl,q.symm,h1⟩
    ·cases q
   ·next h1=>exact absurd rfl h1
  ·rw [List.getElem?_set_ne (Ne.symm h)] at q
   exact .inr ⟨h,q⟩
 have fresh:∀(j:Nat) (es:List D),t.env[j]?=some (some (.own es))→σ[j]?≠some (some (.ref p)):=fun j es q z=>by
  obtain ⟨a,vs',h1,_,_,h4,_⟩:=f.own j es q
  rw [h1] at z;injection z with z;injection z with z;injection z with z;subst z;rw [h] at h4;cases h4
 refine ⟨c',⟨sinv,by simp [f.len],fun b z=>.inl (f.sub b z),fun j e q=>?_,fun j es q=>?_,fun j k ds' es a q1 q2 q3 q4=>?_⟩,stp⟩
 ·rcases neq q with ⟨_,z,_⟩ | ⟨hn,q⟩
  ·cases z
  ·obtain ⟨u,h1,h2⟩:=f.val j e q
   exact ⟨u,by rw [List.getElem?_set_ne (Ne.symm hn)];exact h1,h2.mono ext⟩
 ·rcases neq q with ⟨rfl,z,hl⟩ | ⟨hn,q⟩
  ·cases z
   refine ⟨p,vs,by rw [List.getElem?_set_self (by rw [←f.len];exact hl)],.inr rfl,fun z=>?_,AJ,r.mono ext⟩
   obtain ⟨u,e⟩:=f.s.trk p (f.sub p z)
   rw [h] at e;cases e
  ·obtain ⟨a,ws,h1,h2,h3,h4,h5⟩:=f.own j es q
   exact ⟨a,ws,by rw [List.getElem?_set_ne (Ne.symm hn)];exact h1,.inl h2,h3,by rw [Au (Bf h4 h)];exact h4,h5.mono ext⟩
 ·rcases neq q1 with ⟨z1,z2,l1⟩ | ⟨n1,r1⟩
  ·rcases neq q2 with ⟨y1,_,_⟩ | ⟨n2,r2⟩
   ·rw [z1,y1]
   ·subst z1
    rw [List.getElem?_set_self (by rw [←f.len];exact l1)] at q3
    injection q3 with q3;injection q3 with q3;injection q3 with q3;subst q3
    rw [List.getElem?_set_ne (Ne.symm n2)] at q4
    exact absurd q4 (fresh k es r2)
  ·rcases neq q2 with ⟨y1,y2,l2⟩ | ⟨n2,r2⟩
   ·subst y1
    rw [List.getElem?_set_self (by rw [←f.len];exact l2)] at q4
    injection q4 with q4;injection q4 with q4;injection q4 with q4;subst q4
    rw [List.getElem?_set_ne (Ne.symm n1)] at q3
    exact absurd q3 (fresh j ds' r1)
   ·rw [List.getElem?_set_ne (Ne.symm n1)] at q3
    rw [List.getElem?_set_ne (Ne.symm n2)] at q4
    exact f.inj j k ds' es a r1 r2 q3 q4
theorem FInv.frz (f:FInv K Oo c t σ H) {i:Nat} {ds:List D} (q:t.env[i]?=some (some (.own ds))) :
 ∃c' v,FInv K Oo c' { t with env:=t.env.set i (some (.val (.lst ds))) } σ H∧Stp Oo c H c' H∧σ[i]?=some (some v)∧Rep K c' H v (.lst ds):=by
 obtain ⟨a,vs,h1,h2,h3,h4,h5⟩:=f.own i ds q
 let c':Cf:=⟨c.ι,fun b=>c.O b∧b≠a⟩
 have ext:Ext c H c' H:=⟨fun _ _ e _=>e,fun b u e z=>z.elim .inl fun w=>.inr w.1,fun _ _ e=>e⟩
 have sinv:SInv K c' t.S H:=⟨f.s.len,f.s.nd,fun k b u e1 e2=>(f.s.obs k b u e1 e2).mono ext rfl,fun b z=>f.s.trk b z.1,fun b z=>f.s.dis b z.1⟩
 have nA:¬c'.A a:=fun z=>z.elim (fun w=>f.s.dis a h2 w) fun w=>w.2 rfl
 have hσ:σ.set i (some (.ref a))=σ:=by
  apply List.ext_getElem?
  intro j
  by_cases hj:j=i
  ·subst hj
   rw [List.getElem?_set_self (by have:=(List.getElem?_eq_some_iff.mp h1).1;exact this),h1]
  ·rw [List.getElem?_set_ne (Ne.symm hj)]
 have r:Rep K c' H (.ref a) (.lst ds):=.lst h4 nA (h5.mono ext)
 have f0:FInv K Oo c' { t with env:=t.env.set i (some (.val (.lst ds))) } σ H:=by
  have neq:∀{j:Nat} {x:Sl},(t.env.set i (some (.val (.lst ds))))[j]?=some (some x)→(j=i∧x = .val (.lst ds))∨(j≠i∧t.env[j]?=some (some x)):=fun {j x} q=>by
   by_cases h:j=i
   ·subst h
    rw [List.getElem?_set] at q
    split at q
    ·split at q
     ·injection q with q;injection q with q;exact .inl ⟨rfl,q.symm⟩
     ·cases q
    ·next h1=>exact absurd rfl h1
   ·rw [List.getElem?_set_ne (Ne.symm h)] at q
    exact .inr ⟨h,q⟩
  refine ⟨sinv,by simp [f.len],fun b z=>⟨f.sub b z,fun w=>h3 (w ▸ z)⟩,fun j e q'=>?_,fun j es q'=>?_,fun j k ds' es b q1 q2 q3 q4=>?_⟩
  ·rcases neq q' with ⟨rfl,z⟩ | ⟨hn,q'⟩
   ·cases z;exact ⟨_,h1,r⟩
   ·obtain ⟨u,w1,w2⟩:=f.val j e q'
    exact ⟨u,w1,w2.mono ext⟩
  ·rcases neq q' with ⟨_,z⟩ | ⟨hn,q'⟩
   ·cases z
   ·obtain ⟨b,ws,w1,w2,w3,w4,w5⟩:=f.own j es q'
    refine ⟨b,ws,w1,⟨w2,fun z=>?_⟩,w3,w4,w5.mono ext⟩
    subst z
    exact hn (f.inj j i es ds b q' q w1 h1)
  ·rcases neq q1 with ⟨_,z⟩ | ⟨_,q1⟩
   ·cases z
   rcases neq q2 with ⟨_,z⟩ | ⟨_,q2⟩
   ·cases z
   exact f.inj j k ds' es b q1 q2 q3 q4
 exact ⟨c',_,f0,⟨ext,fun _ _=>rfl⟩,h1,r⟩
theorem FInv.wrOwn (f:FInv K Oo c t σ H) {i:Nat} {ds ds':List D} {vs':List V} {a:Addr} (q:t.env[i]?=some (some (.own ds))) (h1:σ[i]?=some (some (.ref a))) (r:Reps K c H vs' ds') :
 FInv K Oo c { t with env:=t.env.set i (some (.own ds')) } σ (upd H a (.lst vs'))∧Stp Oo c H c (upd H a (.lst vs')):=by
 obtain ⟨a',vs,g1,h2,h3,h4,h5⟩:=f.own i ds q
 rw [h1] at g1;injection g1 with g1;injection g1 with g1;injection g1 with g1;subst g1
 have ext:Ext c H c (upd H a (.lst vs')):=⟨fun b u e n=>by rw [Au (fun (z:b=a)=>n (.inr (by rw [z];exact h2)))];exact e,fun _ _ _ z=>z,fun _ _ e=>e⟩
 have stp:Stp Oo c H c (upd H a (.lst vs')):=⟨ext,fun b z=>Au fun w=>h3 (w ▸ z)⟩
 have sinv:SInv K c t.S (upd H a (.lst vs')):=by
  refine ⟨f.s.len,f.s.nd,fun k b u e1 e2=>(f.s.obs k b u e1 e2).mono ext (Au fun z=>f.s.dis a h2 (z ▸ List.mem_of_getElem? e1)),fun b z=>?_,f.s.dis⟩
  by_cases hb:b=a
  ·subst hb;exact ⟨_,AJ⟩
  ·obtain ⟨u,e⟩:=f.s.trk b z;exact ⟨u,by rw [Au hb];exact e⟩
 have neq:∀{j:Nat} {x:Sl},(t.env.set i (some (.own ds')))[j]?=some (some x)→(j=i∧x = .own ds')∨(j≠i∧t.env[j]?=some (some x)):=fun {j x} q=>by
  by_cases h:j=i
  ·subst h
   rw [List.getElem?_set] at q
   split at q
   ·split at q
    ·injection q with q;injection q with q;exact .inl ⟨rfl,q.symm⟩
    ·cases q
   ·next h1=>exact absurd rfl h1
  ·rw [List.getElem?_set_ne (Ne.symm h)] at q
   exact .inr ⟨h,q⟩
 refine ⟨⟨sinv,by simp [f.len],f.sub,fun j e q'=>?_,fun j es q'=>?_,fun j k es es' b q1 q2 q3 q4=>?_⟩,stp⟩
 ·rcases neq q' with ⟨_,z⟩ | ⟨_,q'⟩
  ·cases z
  ·obtain ⟨u,w1,w2⟩:=f.val j e q'
   exact ⟨u,w1,w2.mono ext⟩
 ·rcases neq q' with ⟨rfl,z⟩ | ⟨hn,q'⟩
  ·cases z;exact ⟨a,vs',h1,h2,h3,AJ,r.mono ext⟩
  ·obtain ⟨b,ws,w1,w2,w3,w4,w5⟩:=f.own j es q'
   have hb:b≠a:=fun z=>by subst z;exact hn (f.inj j i es ds b q' q w1 h1)
   exact ⟨b,ws,w1,w2,w3,by rw [Au hb];exact w4,w5.mono ext⟩
 ·have old:∀{j:Nat} {x:List D},(t.env.set i (some (.own ds')))[j]?=some (some (.own x))→∃y,t.env[j]?=some (some (.own y)):=fun {j x} q'=>by
   rcases neq q' with ⟨rfl,_⟩ | ⟨_,q'⟩
   ·exact ⟨ds,q⟩
   ·exact ⟨x,q'⟩
  obtain ⟨y1,z1⟩:=old q1
  obtain ⟨y2,z2⟩:=old q2
  exact f.inj j k y1 y2 b z1 z2 q3 q4
theorem FInv.wrObj (f:FInv K Oo c t σ H) {k:Nat} {a:Addr} {o:Ob} {u:HO} (e:c.ι[k]?=some a) (r:∀c' H',Ext c H c' H'→H' a=some u→ObR K c' H' a o) :
 FInv K Oo c { t with S:=t.S.set k o } σ (upd H a u)∧Stp Oo c H c (upd H a u):=by
 have hA:a∈c.ι:=List.mem_of_getElem? e
 have ext:Ext c H c (upd H a u):=⟨fun b w h n=>by rw [Au (fun (z:b=a)=>n (.inl (by rw [z];exact hA)))];exact h,fun _ _ _ z=>z,fun _ _ e=>e⟩
 have neO:∀b,c.O b→b≠a:=fun b z w=>f.s.dis b z (w ▸ hA)
 have stp:Stp Oo c H c (upd H a u):=⟨ext,fun b z=>Au (neO b (f.sub b z))⟩
 have sinv:SInv K c (t.S.set k o) (upd H a u):=by
  refine ⟨by simp [f.s.len],f.s.nd,fun j b o' e1 e2=>?_,fun b z=>?_,f.s.dis⟩
  ·by_cases hj:j=k
   ·subst hj
    rw [e] at e1;cases e1
    have hl:j < t.S.length:=by rw [←f.s.len];exact (List.getElem?_eq_some_iff.mp e).1
    rw [List.getElem?_set_self hl] at e2;cases e2
    exact r c _ ext AJ
   ·rw [List.getElem?_set_ne (Ne.symm hj)] at e2
    refine (f.s.obs j b o' e1 e2).mono ext (Au fun z=>?_)
    subst z
    obtain ⟨l1,g1⟩:=List.getElem?_eq_some_iff.mp e1
    obtain ⟨l2,g2⟩:=List.getElem?_eq_some_iff.mp e
    exact hj ((List.getElem_inj f.s.nd).mp (g1.trans g2.symm))
  ·obtain ⟨w,h⟩:=f.s.trk b z;exact ⟨w,by rw [Au (neO b z)];exact h⟩
 refine ⟨⟨sinv,f.len,f.sub,fun i d q=>?_,fun i ds q=>?_,f.inj⟩,stp⟩
 ·obtain ⟨v,h1,h2⟩:=f.val i d q
  exact ⟨v,h1,h2.mono ext⟩
 ·obtain ⟨b,vs,h1,h2,h3,h4,h5⟩:=f.own i ds q
  exact ⟨b,vs,h1,h2,h3,by rw [Au (neO b h2)];exact h4,h5.mono ext⟩
theorem FInv.newObj (f:FInv K Oo c t σ H) {p:Addr} {o:Ob} {u:HO} (h:H p=none) (r:∀c' H',Ext c H c' H'→H' p=some u→ObR K c' H' p o) :
 ∃c',FInv K Oo c' { t with S:=t.S++[o] } σ (upd H p u)∧Stp Oo c H c' (upd H p u)∧c'.ι[t.S.length]?=some p:=by
 let c':Cf:=⟨c.ι++[p],c.O⟩
 have nA:¬c.A p:=f.s.free h
 have ext:Ext c H c' (upd H p u):=by
  refine ⟨fun b w e _=>by rw [Au (Bf e h)];exact e,fun b w e z=>?_,fun k a e=>?_⟩
  ·rcases z with z | z
   ·rcases List.mem_append.mp z with z | z
    ·exact .inl z
    ·rw [List.mem_singleton] at z;subst z;rw [h] at e;cases e
   ·exact .inr z
  ·show (c.ι++[p])[k]?=some a
   rw [List.getElem?_append_left (List.getElem?_eq_some_iff.mp e).1];exact e
 have stp:Stp Oo c H c' (upd H p u):=⟨ext,fun b z=>by obtain ⟨w,e⟩:=f.s.trk b (f.sub b z);exact Au (Bf e h)⟩
 have at_:(c.ι++[p])[t.S.length]?=some p:=by rw [←f.s.len,List.getElem?_append_right (Nat.le_refl _)];simp
 have sinv:SInv K c' (t.S++[o]) (upd H p u):=by
  refine ⟨by simp [c',f.s.len],?_,fun j b o' e1 e2=>?_,fun b z=>?_,fun b z hb=>?_⟩
  ·show (c.ι++[p]).Nodup
   exact List.nodup_append.mpr ⟨f.s.nd,by simp,fun x hx y hy z=>by rw [List.mem_singleton] at hy;subst z;subst hy;exact nA (.inl hx)⟩
  ·have hlt:j < (t.S++[o]).length:=(List.getElem?_eq_some_iff.mp e2).1
   by_cases hj:j < t.S.length
   ·have e1':c.ι[j]?=some b:=by
     have q:(c.ι++[p])[j]?=some b:=e1
     rw [List.getElem?_append_left (by rw [f.s.len];exact hj)] at q;exact q
    rw [List.getElem?_append_left hj] at e2
    have q:=f.s.obs j b o' e1' e2
    obtain ⟨w,hw⟩:=q.some
    exact q.mono ext (Au (Bf hw h))
   ·have hj':j=t.S.length:=by simp at hlt;lia
    subst hj'
    rw [at_] at e1;cases e1
    rw [List.getElem?_append_right (Nat.le_refl _)] at e2
    simp at e2;subst e2
    exact r c' _ ext AJ
  ·obtain ⟨w,e⟩:=f.s.trk b z;exact ⟨w,by rw [Au (Bf e h)];exact e⟩
  ·rcases List.mem_append.mp hb with w | w
   ·exact f.s.dis b z w
   ·rw [List.mem_singleton] at w;subst w;exact nA (.inr z)
 refine ⟨c',⟨sinv,f.len,f.sub,fun i d q=>?_,fun i ds q=>?_,f.inj⟩,stp,at_⟩
 ·obtain ⟨v,h1,h2⟩:=f.val i d q
  exact ⟨v,h1,h2.mono ext⟩
 ·obtain ⟨b,vs,h1,h2,h3,h4,h5⟩:=f.own i ds q
  exact ⟨b,vs,h1,h2,h3,by rw [Au (Bf h4 h)];exact h4,h5.mono ext⟩
theorem FInv.after (f:FInv K Oo c t σ H) {c':Cf} {S':List Ob} {H':Hp} (s:SInv K c' S' H') (st:Stp c.O c H c' H') (ho:∀b,c'.O b↔c.O b):FInv K Oo c' { t with S:=S' } σ H'∧Stp Oo c H c' H':=by
 refine ⟨⟨s,f.len,fun b z=>(ho b).mpr (f.sub b z),fun i d q=>?_,fun i ds q=>?_,f.inj⟩,st.ext,fun b z=>st.oo b (f.sub b z)⟩
 ·obtain ⟨v,h1,h2⟩:=f.val i d q
  exact ⟨v,h1,h2.mono st.ext⟩
 ·obtain ⟨b,vs,h1,h2,h3,h4,h5⟩:=f.own i ds q
  exact ⟨b,vs,h1,(ho b).mpr h2,h3,(st.oo b h2).trans h4,h5.mono st.ext⟩
end
abbrev M (α:Type):=T→Option (α×T)
inductive Out where
 | next | brk | cont | ret (d:D)
def ret {α:Type} (a:α):M α:=fun t=>some (a,t)
def fail {α:Type}:M α:=fun _=>none
def bnd {α β:Type} (f:M α) (g:α→M β):M β:=fun t=>match f t with
 | some (a,t1)=>g a t1
 | none=>none
theorem Ap {α β:Type} {f:M α} {g:α→M β} {t:T} {z:β×T} (h:bnd f g t=some z):∃a t1,f t=some (a,t1)∧g a t1=some z:=by
 unfold bnd at h
 cases e:f t with
 | none=>rw [e] at h;cases h
 | some p=>obtain ⟨a,t1⟩:=p;rw [e] at h;exact ⟨a,t1,rfl,h⟩
def LIM:Nat:=100000
theorem Cq:LIM≤sizeLine:=by unfold LIM;decide
section
variable (K:PySem.W.Frag)
def RE (f:M D):TE:=fun σ H Q=>∃Oo c t,FInv K Oo c t σ H∧∃r t',f t=some (r,t')∧∀v H' c',FInv K Oo c' t' σ H'→Stp Oo c H c' H'→Rep K c' H' v r→Q v H'
def RT (f:M Bool):TT:=fun σ H Q=>∃Oo c t,FInv K Oo c t σ H∧∃r t',f t=some (r,t')∧∀H' c',FInv K Oo c' t' σ H'→Stp Oo c H c' H'→Q r H'
def RA (f:M (List D)):TA:=fun σ H Q=>∃Oo c t,FInv K Oo c t σ H∧∃r t',f t=some (r,t')∧∀vs H' c',FInv K Oo c' t' σ H'→Stp Oo c H c' H'→Reps K c' H' vs r→Q vs H'
def RF (f:M (List D)):TE:=fun σ H Q=>∃Oo c t,FInv K Oo c t σ H∧∃ds t',f t=some (ds,t')∧∀p vs H' c',FInv K Oo c' t' σ H'→Stp Oo c H c' H'→Reps K c' H' vs ds→H' p=none→Q (.ref p) (upd H' p (.lst vs))
def RSg (μ:Cf→Hp→D→(V→Hp→Prop)→Prop) (f:M Out):TS:=fun E σ H=>∃Oo c t,FInv K Oo c t σ H∧∃o t',f t=some (o,t')∧∀σ' H' c',FInv K Oo c' t' σ' H'→Stp Oo c H c' H'→
 match o with
 | .next=>E.nx σ' H'
 | .brk=>E.bk σ' H'
 | .cont=>E.ct σ' H'
 | .ret r=>μ c' H' r E.rt
def μR:Cf→Hp→D→(V→Hp→Prop)→Prop:=fun c H r rt=>∀v,Rep K c H v r→rt v H
def μF:Cf→Hp→D→(V→Hp→Prop)→Prop:=fun c H r rt=>match r with
 | .lst ds=>∀p us,H p=none→Reps K c H us ds→rt (.ref p) (upd H p (.lst us))
 | _=>False
abbrev RS (f:M Out):TS:=RSg K (μR K) f
def RG (f:D→M Unit):TG:=fun v σ H Q=>∃Oo c t d,FInv K Oo c t σ H∧Rep K c H v d∧∃t',f d t=some ((),t')∧∀σ' H' c',FInv K Oo c' t' σ' H'→Stp Oo c H c' H'→Q σ' H'
structure ItOk (J:It) (c:Cf) (H:Hp) (ds:List D):Prop where
 go:∀c' H' (i:Nat),Ext c H c' H'→i < ds.length→J.go i H'
 yld:∀c' H' (i:Nat) x H'' d,Ext c H c' H'→ds[i]?=some d→J.yld i H' x H''→H''=H'∧Rep K c' H' x d
 stop:∀c' H',Ext c H c' H'→J.stop ds.length H'
def RI (f:M (List D)):TI:=fun σ H R=>∃Oo c t,FInv K Oo c t σ H∧∃ds t',f t=some (ds,t')∧∀J H' c',FInv K Oo c' t' σ H'→Stp Oo c H c' H'→ItOk K J c' H' ds→R J H'
def Sb (R:V→Hp→VK→Prop) (h:D→M D):Prop:=∀{Oo:Addr→Prop} {c:Cf} {t:T} {σ:L2.St} {H:Hp} {x:V} {dx r:D} {t':T} {Q:VK},FInv K Oo c t σ H→Rep K c H x dx→h dx t=some (r,t')→
 (∀v H' c',FInv K Oo c' t' σ H'→Stp Oo c H c' H'→Rep K c' H' v r→Q v H')→R x H Q
def BO (R:R2) (h:D→D→M D):Prop:=∀{Oo:Addr→Prop} {c:Cf} {t:T} {σ:L2.St} {H:Hp} {x y:V} {dx dy r:D} {t':T} {Q:VK},FInv K Oo c t σ H→Rep K c H x dx→Rep K c H y dy→h dx dy t=some (r,t')→
 (∀v H' c',FInv K Oo c' t' σ H'→Stp Oo c H c' H'→Rep K c' H' v r→Q v H')→R x y H Q
def DJ (R:List V→Hp→VK→Prop) (h:List D→M D):Prop:=∀{Oo:Addr→Prop} {c:Cf} {t:T} {σ:L2.St} {H:Hp} {xs:List V} {ds:List D} {r:D} {t':T} {Q:VK},FInv K Oo c t σ H→Reps K c H xs ds→h ds t=some (r,t')→
 (∀v H' c',FInv K Oo c' t' σ H'→Stp Oo c H c' H'→Rep K c' H' v r→Q v H')→R xs H Q
def MK (R:R2) (h:D→D→M (List D)):Prop:=∀{Oo:Addr→Prop} {c:Cf} {t:T} {σ:L2.St} {H:Hp} {x y:V} {dx dy:D} {r:List D} {t':T} {Q:VK},FInv K Oo c t σ H→Rep K c H x dx→Rep K c H y dy→h dx dy t=some (r,t')→
 (∀p vs H' c',FInv K Oo c' t' σ H'→Stp Oo c H c' H'→Reps K c' H' vs r→H' p=none→Q (.ref p) (upd H' p (.lst vs)))→R x y H Q
def Kq (R:List V→Hp→VK→Prop) (h:List D→M (List D)):Prop:=∀{Oo:Addr→Prop} {c:Cf} {t:T} {σ:L2.St} {H:Hp} {xs:List V} {ds r:List D} {t':T} {Q:VK},FInv K Oo c t σ H→Reps K c H xs ds→h ds t=some (r,t')→
 (∀p vs H' c',FInv K Oo c' t' σ H'→Stp Oo c H c' H'→Reps K c' H' vs r→H' p=none→Q (.ref p) (upd H' p (.lst vs)))→R xs H Q
end
section
variable {X:Cx} {e a b:Expr} {pos:Pos}
theorem Bu {t t':TE} (h:PE X e t) (i:∀σ H Q,t' σ H Q→t σ H Q):PE X e t':=fun pins s σ H Q I q=>h pins s σ H Q I (i σ H Q q)
theorem KA {t t':TT} (h:PT X e t) (i:∀σ H Q,t' σ H Q→t σ H Q):PT X e t':=fun pins s σ H Q I q=>h pins s σ H Q I (i σ H Q q)
theorem NB {t t':TT} (h:PW X e t) (i:∀σ H Q,t' σ H Q→t σ H Q):PW X e t':=fun w pins s σ H Q I q=>h w pins s σ H Q I (i σ H Q q)
theorem Nz {es:List Expr} {t t':TA} (h:PA X es t) (i:∀σ H Q,t' σ H Q→t σ H Q):PA X es t':=fun pos pins s σ H Q I q=>h pos pins s σ H Q I (i σ H Q q)
theorem BV {st:Stmt} {t t':TS} (h:PS X st t) (i:∀E σ H,t' E σ H→t E σ H):PS X st t':=fun pins s σ H E I q=>h pins s σ H E I (i E σ H q)
theorem Mc {st:List Stmt} {t t':TS} (h:PSs X st t) (i:∀E σ H,t' E σ H→t E σ H):PSs X st t':=fun pins s σ H E I q=>h pins s σ H E I (i E σ H q)
theorem H9 {t t':TG} (h:PG X e t) (i:∀v σ H Q,t' v σ H Q→t v σ H Q):PG X e t':=fun pins s σ H v u Q I r q=>h pins s σ H v u Q I r (i v σ H Q q)
theorem Ia {tg:Expr} {t t':TI} (h:PI X tg e t) (i:∀σ H R,t' σ H R→t σ H R):PI X tg e t':=fun pins s σ H R I q=>h pins s σ H R I (i σ H R q)
def fC (d:D):M D:=ret d
theorem Hw {v:V} {d:D} (h:PE X e (tC v)) (r:∀c H,Rep X.K c H v d):PE X e (RE X.K (fC d)):=
 Bu h fun σ H Q ⟨Oo,c,t,f,r',t',eq,k⟩=>by
  cases eq
  exact k v H c f .refl (r c H)
theorem Ae {i:Int} {j:Nat}:PE X (.Constant (.int i) j pos) (RE X.K (fC (.int i))):=Hw ST fun _ _=>.int i
theorem Iu {i:Bool} {j:Nat}:PE X (.Constant (.bool i) j pos) (RE X.K (fC (.bl i))):=Hw Up fun _ _=>.bl i
theorem AI {i:Str} {j:Nat}:PE X (.Constant (.str i) j pos) (RE X.K (fC (.str i))):=Hw SZ fun _ _=>.str i
theorem Dw {j:Nat}:PE X (.Constant .none j pos) (RE X.K (fC .non)):=Hw SV fun _ _=>.non
theorem G4 {x:Str} {i:Int} {tk:Tok} (hg:Gl X x) (hm:X.mg x=some (.int i tk)) (hd:(x == ("__debug__" : Str))=false:=by decide):PE X (.Name x pos) (RE X.K (fC (.int i))):=
 Hw (G9 hg hm (v:=.int i) ⟨tk,rfl⟩ hd) fun _ _=>.int i
theorem OZ {x:Str} {y:Str} {tk:Tok} (hg:Gl X x) (hm:X.mg x=some (.str y tk)) (hd:(x == ("__debug__" : Str))=false:=by decide):PE X (.Name x pos) (RE X.K (fC (.str y))):=
 Hw (G9 hg hm (v:=.str y) ⟨tk,rfl⟩ hd) fun _ _=>.str y
theorem DS {x:Str} {n:String} (hg:Gl X x) (hm:X.mg x=none) (hv:bootBuiltins x=some (.type n)) (hn:x≠"__name__":=by decide) (hd:(x == ("__debug__" : Str))=false:=by decide):PE X (.Name x pos) (RE X.K (fC (.ty n))):=
 Hw (My hg hm hv (v:=.ty n) rfl hn hd) fun _ _=>.ty n
def Ad (i:Nat):M D:=fun t=>match t.env[i]? with
 | some (some (.val d))=>some (d,t)
 | some (some (.own ds))=>some (.lst ds,{ t with env:=t.env.set i (some (.val (.lst ds))) })
 | _=>none
theorem MU {i:Nat} {t t':T} {r:D} (h:Ad i t=some (r,t')):(t.env[i]?=some (some (.val r))∧t'=t)∨∃ds,t.env[i]?=some (some (.own ds))∧r = .lst ds∧t' = { t with env:=t.env.set i (some (.val (.lst ds))) }:=by
 unfold Ad at h
 cases e:t.env[i]? with
 | none=>rw [e] at h;cases h
 | some o=>
   cases o with
   | none=>rw [e] at h;cases h
   | some sl=>
     cases sl with
     | val d=>rw [e] at h;cases h;exact .inl ⟨rfl,rfl⟩
     | own ds=>rw [e] at h;cases h;exact .inr ⟨ds,rfl,rfl,rfl⟩
theorem Ab (i:Nat) {x:Str} (hN:X.N[i]?=some x:=by rfl) (hv:Vis X.env.scope x:=by first | exact Or.inl rfl | exact Or.inr (Or.inl rfl) | exact Or.inr (Or.inr rfl)) (hd:(x == ("__debug__" : Str))=false:=by decide)
 (hcd:(x == ("__classdict__" : Str))=false:=by decide):PE X (.Name x pos) (RE X.K (Ad i)):=
 Bu (DQ hN hv hd hcd) fun σ H Q ⟨Oo,c,t,f,r,t',eq,k⟩=>by
  rcases MU eq with ⟨q,rfl⟩ | ⟨ds,q,rfl,rfl⟩
  ·obtain ⟨v,h1,h2⟩:=f.val i r q
   exact ⟨v,h1,k v H c f .refl h2⟩
  ·obtain ⟨c',v,f',st,h1,h2⟩:=f.frz q
   exact ⟨v,h1,k v H c' f' st h2⟩
def Ah (f g:M D) (h:D→D→M D):M D:=bnd f fun x=>bnd g fun y=>h x y
theorem RE.two {K:PySem.W.Frag} {f g:M D} {h:D→D→M D} {R:R2} (s:BO K R h) {σ:L2.St} {H:Hp} {Q:VK} (q:RE K (Ah f g h) σ H Q):tOp R (RE K f) (RE K g) σ H Q:=by
 obtain ⟨Oo,c,t,fi,r,t',eq,k⟩:=q
 obtain ⟨dx,t1,e1,eq⟩:=Ap eq
 obtain ⟨dy,t2,e2,eq⟩:=Ap eq
 exact ⟨Oo,c,t,fi,dx,t1,e1,fun x H1 c1 f1 s1 rx=>⟨Oo,c1,t1,f1,dy,t2,e2,fun y H2 c2 f2 s2 ry=>s f2 (rx.mono s2.ext) ry eq fun v H' c' f' s' rv=>k v H' c' f' ((s1.trans s2).trans s') rv⟩⟩
theorem An {op:Operator} {R:R2} {f g:M D} {h:D→D→M D} (ho:OpR X (binaryOp op) R) (s:BO X.K R h) (ha:PE X a (RE X.K f)) (hb:PE X b (RE X.K g)):PE X (.BinOp a op b pos) (RE X.K (Ah f g h)):=
 Bu (Nd ho ha hb) fun _ _ _ q=>RE.two s q
theorem FO {op:CmpOp} {R:R2} {f g:M D} {h:D→D→M D} (ho:OpR X (compareOp op) R) (s:BO X.K R h) (ha:PE X a (RE X.K f)) (hb:PE X b (RE X.K g)) (hm:behindInMarks op b=false):PE X (.Compare a [op] [b] pos) (RE X.K (Ah f g h)):=
 Bu (Rf ho ha hb hm) fun _ _ _ q=>RE.two s q
theorem Ao {R:R2} {f g:M D} {h:D→D→M D} (hr:IxR X R) (s:BO X.K R h) (ha:PE X a (RE X.K f)) (hb:PE X b (RE X.K g)) (hs:IT b):PE X (.Subscript a b pos) (RE X.K (Ah f g h)):=
 Bu (Qh hr ha hb hs) fun _ _ _ q=>RE.two s q
def fUn (f:M D) (h:D→M D):M D:=bnd f h
theorem Ud {op:UnaryOp} {R:V→Hp→VK→Prop} {f:M D} {h:D→M D} (ho:UnR X (unaryOp op) R) (s:Sb X.K R h) (ha:PE X a (RE X.K f)):PE X (.UnaryOp op a pos) (RE X.K (fUn f h)):=
 Bu (Uq ho ha) fun σ H Q ⟨Oo,c,t,fi,r,t',eq,k⟩=>by
  obtain ⟨dx,t1,e1,eq⟩:=Ap eq
  exact ⟨Oo,c,t,fi,dx,t1,e1,fun x H1 c1 f1 s1 rx=>s f1 rx eq fun v H' c' f' s' rv=>k v H' c' f' (s1.trans s') rv⟩
def toB:D→M Bool
 | .bl b=>ret b
 | _=>fail
def AK (f:M D):M Bool:=bnd f toB
theorem HU {d:D} {t:T} {z:Bool×T} (h:toB d t=some z):∃b,d = .bl b∧z=(b,t):=by
 cases d with
 | bl b=>cases h;exact ⟨b,rfl,rfl⟩
 | _=>cases h
theorem RT.val {K:PySem.W.Frag} {f:M D} {σ:L2.St} {H:Hp} {Q:Bool→Hp→Prop} (q:RT K (AK f) σ H Q):RE K f σ H fun x H1=>∃k,x = .bl k∧Q k H1:=by
 obtain ⟨Oo,c,t,fi,r,t',eq,k⟩:=q
 obtain ⟨d,t1,e1,eq⟩:=Ap eq
 obtain ⟨b,rfl,z⟩:=HU eq
 cases z
 refine ⟨Oo,c,t,fi,_,t',e1,fun v H1 c1 f1 s1 rv=>?_⟩
 cases rv
 exact ⟨r,rfl,k H1 c1 f1 s1⟩
theorem Dg {f:M D} (h:PE X e (RE X.K f)) (he:∀whole,isTrue e X.env whole=(do let v ←whole;standAt e.pos;holding [v] (truthy v)):=by intro _;rfl):PT X e (RT X.K (AK f)):=
 KA (Th h he) fun _ _ _ q=>RT.val q
theorem AG {op:CmpOp} {R:R2} {f g:M D} {h:D→D→M D} (ho:OpR X (compareOp op) R) (s:BO X.K R h) (ha:PE X a (RE X.K f)) (hb:PE X b (RE X.K g)) (hm:behindInMarks op b=false):PT X (.Compare a [op] [b] pos) (RT X.K (AK (Ah f g h))):=
 KA (Rp ho ha hb hm) fun σ H Q q=>RE.two s (RT.val q)
def FN (f g w:M D) (h h':D→D→M D):M D:=bnd f fun x=>bnd g fun y=>bnd (AK (h x y)) fun k=>if k=true then bnd w fun z=>h' y z else ret (.bl false)
theorem RE.chain {K:PySem.W.Frag} {f g w:M D} {h h':D→D→M D} {R R':R2} (s:BO K R h) (s':BO K R' h') {σ:L2.St} {H:Hp} {Q:VK} (q:RE K (FN f g w h h') σ H Q):OB R R' (RE K f) (RE K g) (RE K w) σ H Q:=by
 obtain ⟨Oo,c,t,fi,r,t',eq,k⟩:=q
 obtain ⟨dx,t1,e1,eq⟩:=Ap eq
 obtain ⟨dy,t2,e2,eq⟩:=Ap eq
 obtain ⟨kb,t3,e3,eq⟩:=Ap eq
 obtain ⟨d3,t3',e3',e3⟩:=Ap e3
 obtain ⟨b3,rfl,z⟩:=HU e3
 cases z
 refine ⟨Oo,c,t,fi,dx,t1,e1,fun x H1 c1 f1 s1 rx=>⟨Oo,c1,t1,f1,dy,t2,e2,fun y H2 c2 f2 s2 ry=>s f2 (rx.mono s2.ext) ry e3' fun v H3 c3 f3 s3 rv=>?_⟩⟩
 cases rv
 refine ⟨kb,rfl,?_⟩
 cases kb with
 | false=>
   rw [if_neg Bool.false_ne_true] at eq ⊢
   cases eq
   exact k _ H3 c3 f3 ((s1.trans s2).trans s3) (.bl false)
 | true=>
   rw [if_pos rfl] at eq ⊢
   obtain ⟨dz,t4,e4,eq⟩:=Ap eq
   exact ⟨Oo,c3,t3,f3,dz,t4,e4,fun w' H4 c4 f4 s4 rw'=>s' f4 (ry.mono (s3.trans s4).ext) rw' eq fun v H' c' f' s' rv=>k v H' c' f' ((((s1.trans s2).trans s3).trans s4).trans s') rv⟩
theorem OY {d:Expr} {op op':CmpOp} {R R':R2} {f g w:M D} {h h':D→D→M D} (ho:OpR X (compareOp op) R) (ho':OpR X (compareOp op') R') (s:BO X.K R h) (s':BO X.K R' h') (ha:PE X a (RE X.K f)) (hb:PE X b (RE X.K g)) (hd:PE X d (RE X.K w))
 (hm:lastMarks [op,op'] [b,d]=false:=by with_unfolding_all rfl):PE X (.Compare a [op,op'] [b,d] pos) (RE X.K (FN f g w h h')):=
 Bu (Pj ho ho' ha hb hd hm) fun _ _ _ q=>RE.chain s s' q
def K1 (f g:M Bool):M Bool:=bnd f fun k=>if k=true then g else ret false
def fOr (f g:M Bool):M Bool:=bnd f fun k=>if k=true then ret true else g
def Ga (f:M Bool):M Bool:=bnd f fun k=>ret (!k)
def F9 (f g:M D):M D:=bnd (AK f) fun k=>if k=true then g else ret (.bl false)
def Ss (f g:M D):M D:=bnd (AK f) fun k=>if k=true then ret (.bl true) else g
def Iq (f:M D):M D:=bnd (AK f) fun k=>ret (.bl (!k))
def fIf (f:M Bool) (g h:M D):M D:=bnd f fun k=>if k=true then g else h
variable {f g:M Bool} {u v w:M D} {rest:List Expr}
theorem Ek (h:PW X e (RT X.K f)):PT X e (RT X.K f):=h.pt
theorem QR (ha:PT X a (RT X.K f)):PW X (.BoolOp .And [a] pos) (RT X.K f):=Rq ha
theorem DO (ha:PT X a (RT X.K f)):PW X (.BoolOp .Or [a] pos) (RT X.K f):=Tk ha
theorem Sy (ha:PT X a (RT X.K f)) (hb:PW X (.BoolOp .And (b :: rest) pos) (RT X.K g)):PW X (.BoolOp .And (a :: b :: rest) pos) (RT X.K (K1 f g)):=
 NB (Tj ha hb) fun σ H Q ⟨Oo,c,t,fi,r,t',eq,k⟩=>by
  obtain ⟨kb,t1,e1,eq⟩:=Ap eq
  refine ⟨Oo,c,t,fi,kb,t1,e1,fun H1 c1 f1 s1=>?_⟩
  cases kb with
  | false=>rw [if_neg Bool.false_ne_true] at eq ⊢;cases eq;exact k H1 c1 f1 s1
  | true=>rw [if_pos rfl] at eq ⊢;exact ⟨Oo,c1,t1,f1,r,t',eq,fun H2 c2 f2 s2=>k H2 c2 f2 (s1.trans s2)⟩
theorem DT (ha:PT X a (RT X.K f)) (hb:PW X (.BoolOp .Or (b :: rest) pos) (RT X.K g)):PW X (.BoolOp .Or (a :: b :: rest) pos) (RT X.K (fOr f g)):=
 NB (Uv ha hb) fun σ H Q ⟨Oo,c,t,fi,r,t',eq,k⟩=>by
  obtain ⟨kb,t1,e1,eq⟩:=Ap eq
  refine ⟨Oo,c,t,fi,kb,t1,e1,fun H1 c1 f1 s1=>?_⟩
  cases kb with
  | true=>rw [if_pos rfl] at eq ⊢;cases eq;exact k H1 c1 f1 s1
  | false=>rw [if_neg Bool.false_ne_true] at eq ⊢;exact ⟨Oo,c1,t1,f1,r,t',eq,fun H2 c2 f2 s2=>k H2 c2 f2 (s1.trans s2)⟩
theorem GJ (ha:PT X a (RT X.K f)):PT X (.UnaryOp .Not a pos) (RT X.K (Ga f)):=
 KA (Tg ha) fun σ H Q ⟨Oo,c,t,fi,r,t',eq,k⟩=>by
  obtain ⟨kb,t1,e1,eq⟩:=Ap eq
  cases eq
  exact ⟨Oo,c,t,fi,kb,_,e1,fun H1 c1 f1 s1=>k H1 c1 f1 s1⟩
theorem LN {f:M D} {t:T} {kb:Bool} {t1:T} (h:AK f t=some (kb,t1)):f t=some (.bl kb,t1):=by
 obtain ⟨d,t2,e1,e2⟩:=Ap h
 obtain ⟨b,rfl,z⟩:=HU e2
 cases z
 exact e1
theorem NT {op:PySem.BoolOp} (h:PE X a (RE X.K u)):PE X (.BoolOp op [a] pos) (RE X.K u):=SY h
theorem K2 (ha:PE X a (RE X.K u)) (hb:PE X (.BoolOp .And (b :: rest) pos) (RE X.K v)):PE X (.BoolOp .And (a :: b :: rest) pos) (RE X.K (F9 u v)):=
 Bu (SS ha hb) fun σ H Q ⟨Oo,c,t,fi,r,t',eq,k⟩=>by
  obtain ⟨kb,t1,e1,eq⟩:=Ap eq
  refine ⟨Oo,c,t,fi,_,t1,LN e1,fun x H1 c1 f1 s1 rx=>?_⟩
  cases rx
  refine ⟨kb,rfl,?_⟩
  cases kb with
  | false=>rw [if_neg Bool.false_ne_true] at eq ⊢;cases eq;exact k _ H1 c1 f1 s1 (.bl false)
  | true=>rw [if_pos rfl] at eq ⊢;exact ⟨Oo,c1,t1,f1,r,t',eq,fun y H2 c2 f2 s2 ry=>k y H2 c2 f2 (s1.trans s2) ry⟩
theorem Sv (ha:PE X a (RE X.K u)):PE X (.UnaryOp .Not a pos) (RE X.K (Iq u)):=
 Bu (SW ha) fun σ H Q ⟨Oo,c,t,fi,r,t',eq,k⟩=>by
  obtain ⟨kb,t1,e1,eq⟩:=Ap eq
  cases eq
  refine ⟨Oo,c,t,fi,_,_,LN e1,fun x H1 c1 f1 s1 rx=>?_⟩
  cases rx
  exact ⟨kb,rfl,k _ H1 c1 f1 s1 (.bl (!kb))⟩
end
section
variable {X:Cx} {e a b:Expr} {es:List Expr} {pos:Pos}
def Aj:M (List D):=ret []
def Ac (f:M D) (g:M (List D)):M (List D):=bnd f fun d=>bnd g fun ds=>ret (d :: ds)
theorem Ag:PA X [] (RA X.K Aj):=Nz GO fun σ H Q ⟨Oo,c,t,fi,r,t',eq,k⟩=>by
 cases eq
 exact k [] H c fi .refl .nil
theorem QK {f:M D} {g:M (List D)} (ha:PE X e (RE X.K f)) (hr:PA X es (RA X.K g)) (hs:starEach (e :: es) X.env=(false,eval e X.env) :: starEach es X.env:=by rfl):PA X (e :: es) (RA X.K (Ac f g)):=
 Nz (D9 ha hr hs) fun σ H Q ⟨Oo,c,t,fi,r,t',eq,k⟩=>by
  obtain ⟨d,t1,e1,eq⟩:=Ap eq
  obtain ⟨ds,t2,e2,eq⟩:=Ap eq
  cases eq
  exact ⟨Oo,c,t,fi,d,t1,e1,fun x H1 c1 f1 s1 rx=>⟨Oo,c1,t1,f1,ds,_,e2,fun xs H2 c2 f2 s2 rxs=>k _ H2 c2 f2 (s1.trans s2) (.cons (rx.mono s2.ext) rxs)⟩⟩
def lim {α:Type} (n:Nat) (a:α):M α:=fun t=>if n≤LIM then some (a,t) else none
theorem D3 {α:Type} {n:Nat} {a:α} {t:T} {z:α×T} (h:lim n a t=some z):n≤LIM∧z=(a,t):=by
 unfold lim at h
 split at h
 ·next h1=>cases h;exact ⟨h1,rfl⟩
 ·cases h
def CK (f:M (List D)):M D:=bnd f fun ds=>lim ds.length (.tup ds)
theorem Ca {x1:Nat} {f:M (List D)} (h:PA X es (RA X.K f)):PE X (.Tuple es x1 pos) (RE X.K (CK f)):=
 Bu (Oj h) fun σ H Q ⟨Oo,c,t,fi,r,t',eq,k⟩=>by
  obtain ⟨ds,t1,e1,eq⟩:=Ap eq
  obtain ⟨hl,z⟩:=D3 eq
  cases z
  refine ⟨Oo,c,t,fi,ds,_,e1,fun xs H1 c1 f1 s1 rxs=>⟨by rw [rxs.length];exact Nat.le_trans hl Cq,fun p hp=>?_⟩⟩
  exact k _ _ c1 (f1.laid hp) (s1.trans (f1.stp_laid hp)) (.tup AJ (f1.s.free hp) (rxs.mono (Ext.laid f1.s hp)))
def Bi (f:M (List D)):M (List D):=bnd f fun ds=>lim ds.length ds
theorem AU {f:M (List D)} (h:PA X es (RA X.K f)):PE X (.List es pos) (RF X.K (Bi f)):=
 Bu (SU h) fun σ H Q ⟨Oo,c,t,fi,r,t',eq,k⟩=>by
  obtain ⟨ds,t1,e1,eq⟩:=Ap eq
  obtain ⟨hl,z⟩:=D3 eq
  cases z
  exact ⟨Oo,c,t,fi,_,_,e1,fun xs H1 c1 f1 s1 rxs=>⟨by rw [rxs.length];exact Nat.le_trans hl Cq,fun p hp=>k p xs H1 c1 f1 s1 rxs hp⟩⟩
def Bb (f:M (List D)):M D:=bnd f fun ds=>ret (.lst ds)
theorem A4 {f:M (List D)} (h:PE X e (RF X.K f)):PE X e (RE X.K (Bb f)):=
 Bu h fun σ H Q ⟨Oo,c,t,fi,r,t',eq,k⟩=>by
  obtain ⟨ds,t1,e1,eq⟩:=Ap eq
  cases eq
  exact ⟨Oo,c,t,fi,ds,_,e1,fun p xs H1 c1 f1 s1 rxs hp=>k _ _ c1 (f1.laid hp) (s1.trans (f1.stp_laid hp)) (.lst AJ (f1.s.free hp) (rxs.mono (Ext.laid f1.s hp)))⟩
def M7 (o:Ob):M D:=fun t=>some (.obj t.S.length,{ t with S:=t.S++[o] })
def Fj (f:M (List D)):M D:=bnd f fun ds=>M7 (.lst ds)
theorem GF {f:M (List D)} (h:PE X e (RF X.K f)):PE X e (RE X.K (Fj f)):=
 Bu h fun σ H Q ⟨Oo,c,t,fi,r,t',eq,k⟩=>by
  obtain ⟨ds,t1,e1,eq⟩:=Ap eq
  cases eq
  refine ⟨Oo,c,t,fi,ds,_,e1,fun p xs H1 c1 f1 s1 rxs hp=>?_⟩
  obtain ⟨c2,f2,s2,e2⟩:=f1.newObj (o:=.lst ds) (u:=.lst xs) hp fun c' H' ex hu=>⟨xs,hu,rxs.mono ex⟩
  exact k _ _ c2 f2 (s1.trans s2) (.obj e2)
abbrev Fn:=List D→List Ob→Option (D×List Ob)
def spF (K:PySem.W.Frag) (f:Fn):Sp:=fun vs H Q _=>∃c ds S,SInv K c S H∧Reps K c H vs ds∧∃r S',f ds S=some (r,S')∧
 ∀v H' c',SInv K c' S' H'→Stp c.O c H c' H'→(∀b,c'.O b↔c.O b)→Rep K c' H' v r→Q v H'
def Av (g:Fn) (f:M (List D)):M D:=bnd f fun ds t=>match g ds t.S with
 | some (r,S')=>some (r,{ t with S:=S' })
 | none=>none
theorem JR {g:Fn} {ds:List D} {t:T} {r:D} {t':T} (h:(match g ds t.S with | some (r,S')=>some (r,{ t with S:=S' }) | none=>none:Option (D×T))=some (r,t')):∃S',g ds t.S=some (r,S')∧t' = { t with S:=S' }:=by
 cases e:g ds t.S with
 | none=>rw [e] at h;cases h
 | some p=>obtain ⟨r',S'⟩:=p;rw [e] at h;cases h;exact ⟨S',rfl,rfl⟩
theorem QM {k:Nat} {fa:Addr} {fd:FuncData} {ps:List Str} {g:Fn} {f:M (List D)} {x:Str} {p:Pos} (F:FnOk X.prog X.w X.K X.mg X.base CX0 k fa fd ps (spF X.K g)) (hr:Room k X.A) (hg:Gl X x) (hm:X.mg x=some (.ref fa)) (hk:PySem.W.keepIn X.K (.ref fa)=true) (hb:Binds X.K fd ps [])
 (ha:PA X (e :: es) (RA X.K f)) (hdb:(x == ("__debug__" : Str))=false:=by decide) (he:starEach (e :: es) X.env=(false,eval e X.env) :: starEach es X.env:=by rfl) (hpl:(backTo pos (starEach es X.env)).any (·.1)=false:=by rfl) :
 PE X (.Call (.Name x p) (e :: es) [] pos) (RE X.K (Av g f)):=
 Bu (Mz F hr hg hm hk hb .nil Qg ha hdb he hpl) fun σ H Q ⟨Oo,c,t,fi,r,t',eq,kk⟩=>by
  obtain ⟨ds,t1,e1,eq⟩:=Ap eq
  obtain ⟨S',e2,rfl⟩:=JR eq
  refine ⟨Oo,c,t,fi,ds,t1,e1,fun vs H1 c1 f1 s1 rvs=>?_⟩
  show spF X.K g (vs++[]) H1 Q E0
  rw [List.append_nil]
  refine ⟨c1,ds,t1.S,f1.s,rvs,r,S',e2,fun v H' c' si st ho rv=>?_⟩
  obtain ⟨f2,s2⟩:=f1.after si st ho
  exact kk v H' c' f2 (s1.trans s2) rv
def fB (f:M (List D)) (h:List D→M D):M D:=bnd f h
theorem RE.callB {K:PySem.W.Frag} {f:M (List D)} {h:List D→M D} {R:List V→Hp→VK→Prop} (s:DJ K R h) {σ:L2.St} {H:Hp} {Q:VK} (q:RE K (fB f h) σ H Q):tCB R (RA K f) σ H Q:=by
 obtain ⟨Oo,c,t,fi,r,t',eq,k⟩:=q
 obtain ⟨ds,t1,e1,eq⟩:=Ap eq
 exact ⟨Oo,c,t,fi,ds,t1,e1,fun xs H1 c1 f1 s1 rxs=>s f1 rxs eq fun v H' c' f' s' rv=>k v H' c' f' (s1.trans s') rv⟩
def fBF (f:M (List D)) (h:List D→M (List D)):M (List D):=bnd f h
theorem RF.callB {K:PySem.W.Frag} {f:M (List D)} {h:List D→M (List D)} {R:List V→Hp→VK→Prop} (s:Kq K R h) {σ:L2.St} {H:Hp} {Q:VK} (q:RF K (fBF f h) σ H Q):tCB R (RA K f) σ H Q:=by
 obtain ⟨Oo,c,t,fi,r,t',eq,k⟩:=q
 obtain ⟨ds,t1,e1,eq⟩:=Ap eq
 exact ⟨Oo,c,t,fi,ds,t1,e1,fun xs H1 c1 f1 s1 rxs=>s f1 rxs eq fun p vs H' c' f' s' rv hp=>k p vs H' c' f' (s1.trans s') rv hp⟩
theorem RF.two {K:PySem.W.Frag} {f g:M D} {h:D→D→M (List D)} {R:R2} (s:MK K R h) {σ:L2.St} {H:Hp} {Q:VK} (q:RF K (bnd f fun x=>bnd g fun y=>h x y) σ H Q):tOp R (RE K f) (RE K g) σ H Q:=by
 obtain ⟨Oo,c,t,fi,r,t',eq,k⟩:=q
 obtain ⟨dx,t1,e1,eq⟩:=Ap eq
 obtain ⟨dy,t2,e2,eq⟩:=Ap eq
 exact ⟨Oo,c,t,fi,dx,t1,e1,fun x H1 c1 f1 s1 rx=>⟨Oo,c1,t1,f1,dy,t2,e2,fun y H2 c2 f2 s2 ry=>s f2 (rx.mono s2.ext) ry eq fun p vs H' c' f' s' rv hp=>k p vs H' c' f' ((s1.trans s2).trans s') rv hp⟩⟩
end
section
variable {X:Cx} {e a b:Expr} {pos:Pos} {st:Stmt} {sts:List Stmt}
def Ar (f g:M Out):M Out:=fun t=>match f t with
 | some (.next,t1)=>g t1
 | z=>z
def AR:M Out:=ret .next
theorem AE {μ:Cf→Hp→D→(V→Hp→Prop)→Prop}:PSs X [] (RSg X.K μ AR):=Mc Ro fun E σ H ⟨Oo,c,t,fi,o,t',eq,k⟩=>by
 cases eq
 exact k σ H c fi .refl
theorem Ai {μ:Cf→Hp→D→(V→Hp→Prop)→Prop} {f g:M Out} (h1:PS X st (RSg X.K μ f)) (h2:PSs X sts (RSg X.K μ g)):PSs X (st :: sts) (RSg X.K μ (Ar f g)):=
 Mc (Lq h1 h2) fun E σ H ⟨Oo,c,t,fi,o,t',eq,k⟩=>by
  unfold Ar at eq
  cases e1:f t with
  | none=>rw [e1] at eq;cases eq
  | some p=>
    obtain ⟨o1,t1⟩:=p
    rw [e1] at eq
    refine ⟨Oo,c,t,fi,o1,t1,e1,fun σ1 H1 c1 f1 s1=>?_⟩
    cases o1 with
    | next=>exact ⟨Oo,c1,t1,f1,o,t',eq,fun σ2 H2 c2 f2 s2=>k σ2 H2 c2 f2 (s1.trans s2)⟩
    | brk=>cases eq;exact k σ1 H1 c1 f1 s1
    | cont=>cases eq;exact k σ1 H1 c1 f1 s1
    | ret d=>cases eq;exact k σ1 H1 c1 f1 s1
theorem Am {μ:Cf→Hp→D→(V→Hp→Prop)→Prop} {f:M Out} (h1:PS X st (RSg X.K μ f)):PSs X [st] (RSg X.K μ f):=Jq h1
def A3 (f:M D):M Out:=bnd f fun d=>ret (.ret d)
theorem AW {f:M D} (h:PE X e (RE X.K f)):PS X (.Return (some e) pos) (RS X.K (A3 f)):=
 BV (GS h) fun E σ H ⟨Oo,c,t,fi,o,t',eq,k⟩=>by
  obtain ⟨d,t1,e1,eq⟩:=Ap eq
  cases eq
  exact ⟨Oo,c,t,fi,d,_,e1,fun v H1 c1 f1 s1 rv=>k σ H1 c1 f1 s1 v rv⟩
def Qb (f:M D):M Out:=bnd f fun _=>ret .next
def ifS (f:M Bool) (g h:M Out):M Out:=bnd f fun k=>if k=true then g else h
theorem AS {μ:Cf→Hp→D→(V→Hp→Prop)→Prop} {f:M Bool} {g h:M Out} {sa sb:List Stmt} (hc:PT X e (RT X.K f)) (ha:PSs X sa (RSg X.K μ g)) (hb:PSs X sb (RSg X.K μ h)):PS X (.If e sa sb pos) (RSg X.K μ (ifS f g h)):=
 BV (Ut hc ha hb) fun E σ H ⟨Oo,c,t,fi,o,t',eq,k⟩=>by
  obtain ⟨kb,t1,e1,eq⟩:=Ap eq
  refine ⟨Oo,c,t,fi,kb,t1,e1,fun H1 c1 f1 s1=>?_⟩
  cases kb with
  | true=>rw [if_pos rfl] at eq ⊢;exact ⟨Oo,c1,t1,f1,o,t',eq,fun σ2 H2 c2 f2 s2=>k σ2 H2 c2 f2 (s1.trans s2)⟩
  | false=>rw [if_neg Bool.false_ne_true] at eq ⊢;exact ⟨Oo,c1,t1,f1,o,t',eq,fun σ2 H2 c2 f2 s2=>k σ2 H2 c2 f2 (s1.trans s2)⟩
def BL (i:Nat) (d:D):M Unit:=fun t=>some ((),{ t with env:=t.env.set i (some (.val d)) })
def A6 (i:Nat) (f:M D):M Out:=bnd f fun d=>bnd (BL i d) fun _=>ret .next
theorem RS.set {μ:Cf→Hp→D→(V→Hp→Prop)→Prop} {K:PySem.W.Frag} {i:Nat} {f:M D} {E:Ends} {σ:L2.St} {H:Hp} (q:RSg K μ (A6 i f) E σ H):LM (RE K f) (Iz i) E σ H:=by
 obtain ⟨Oo,c,t,fi,o,t',eq,k⟩:=q
 obtain ⟨d,t1,e1,eq⟩:=Ap eq
 cases eq
 exact ⟨Oo,c,t,fi,d,t1,e1,fun v H1 c1 f1 s1 rv=>k _ H1 c1 (f1.set rv) s1⟩
theorem AL {μ:Cf→Hp→D→(V→Hp→Prop)→Prop} {i:Nat} {x:Str} {f:M D} {pos':Pos} (hN:X.N.Nodup) (hi:X.N[i]?=some x) (hx:Loc X.env.scope x) (he:PE X e (RE X.K f)) (hs:swapsWith e (some (.Name x pos')) pos.line X.env=pure false:=by rfl) (hf:X.fn x=true∨X.env.scope.names.lookup x=some .local:=by first | exact .inl rfl | exact .inr rfl | assumption) :
 PS X (.Assign [.Name x pos'] e pos) (RSg X.K μ (A6 i f)):=BV (Lp hN hi hx he hs hf) fun _ _ _ q=>RS.set q
def Ey (i:Nat) (f:M (List D)):M Out:=bnd f fun ds t=>some (.next,{ t with env:=t.env.set i (some (.own ds)) })
theorem RS.own {μ:Cf→Hp→D→(V→Hp→Prop)→Prop} {K:PySem.W.Frag} {i:Nat} {f:M (List D)} {E:Ends} {σ:L2.St} {H:Hp} (q:RSg K μ (Ey i f) E σ H):LM (RF K f) (Iz i) E σ H:=by
 obtain ⟨Oo,c,t,fi,o,t',eq,k⟩:=q
 obtain ⟨ds,t1,e1,eq⟩:=Ap eq
 cases eq
 refine ⟨Oo,c,t,fi,ds,t1,e1,fun p vs H1 c1 f1 s1 rv hp=>?_⟩
 obtain ⟨c2,f2,s2⟩:=f1.setOwn (i:=i) hp rv
 exact k _ _ c2 f2 (s1.trans s2)
theorem Ej {μ:Cf→Hp→D→(V→Hp→Prop)→Prop} {i:Nat} {x:Str} {f:M (List D)} {pos':Pos} (hN:X.N.Nodup) (hi:X.N[i]?=some x) (hx:Loc X.env.scope x) (he:PE X e (RF X.K f)) (hs:swapsWith e (some (.Name x pos')) pos.line X.env=pure false:=by rfl) (hf:X.fn x=true∨X.env.scope.names.lookup x=some .local:=by first | exact .inl rfl | exact .inr rfl | assumption) :
 PS X (.Assign [.Name x pos'] e pos) (RSg X.K μ (Ey i f)):=BV (Lp hN hi hx he hs hf) fun _ _ _ q=>RS.own q
theorem BB {i:Nat} {x:Str} (hN:X.N.Nodup) (hi:X.N[i]?=some x) (hx:Loc X.env.scope x) (hf:X.fn x=true∨X.env.scope.names.lookup x=some .local:=by first | exact .inl rfl | exact .inr rfl | assumption):PG X (.Name x pos) (RG X.K (BL i)):=
 H9 (Rg hN hi hx hf) fun v σ H Q ⟨Oo,c,t,d,fi,rv,t',eq,k⟩=>by
  cases eq
  exact k _ H c (fi.set rv) .refl
def Ed (f:M D) (g:D→M Unit):M Out:=bnd f fun d=>bnd (g d) fun _=>ret .next
theorem DN {μ:Cf→Hp→D→(V→Hp→Prop)→Prop} {tg:Expr} {f:M D} {g:D→M Unit} (he:PE X e (RE X.K f)) (hg:PG X tg (RG X.K g)) (hs:swapsWithSole [tg] e pos.line X.env=pure false:=by rfl) (hw:swappedStores [tg] e X.env=pure none:=by rfl) (hp:(assignEach [tg] X.env).map (·.2)=[assign tg X.env]:=by rfl) :
 PS X (.Assign [tg] e pos) (RSg X.K μ (Ed f g)):=
 BV (by first | exact Oq he hg hs hw | exact Oq he hg hs hw hp) fun E σ H ⟨Oo,c,t,fi,o,t',eq,k⟩=>by
  obtain ⟨d,t1,e1,eq⟩:=Ap eq
  obtain ⟨u,t2,e2,eq⟩:=Ap eq
  cases eq
  exact ⟨Oo,c,t,fi,d,t1,e1,fun v H1 c1 f1 s1 rv=>⟨Oo,c1,t1,d,f1,rv,_,e2,fun σ2 H2 c2 f2 s2=>k σ2 H2 c2 f2 (s1.trans s2)⟩⟩
def RGs (K:PySem.W.Frag) (f:List D→M Unit):TGs:=fun vs σ H Q=>∃Oo c t ds,FInv K Oo c t σ H∧Reps K c H vs ds∧∃t',f ds t=some ((),t')∧∀σ' H' c',FInv K Oo c' t' σ' H'→Stp Oo c H c' H'→Q σ' H'
theorem Mb {ts:List Expr} {t t':TGs} (h:PGs X ts t) (i:∀v σ H Q,t' v σ H Q→t v σ H Q):PGs X ts t':=fun pins s σ H vs us Q I r q=>h pins s σ H vs us Q I r (i vs σ H Q q)
def GU:List D→M Unit
 | []=>ret ()
 | _=>fail
def DF (f:D→M Unit) (g:List D→M Unit):List D→M Unit
 | d :: ds=>bnd (f d) fun _=>g ds
 | []=>fail
theorem QP:PGs X [] (RGs X.K GU):=Mb Rh fun vs σ H Q ⟨Oo,c,t,ds,fi,rv,t',eq,k⟩=>by
 cases rv with
 | nil=>cases eq;exact ⟨rfl,k σ H c fi .refl⟩
 | cons _ _=>cases eq
theorem RGs.cons {K:PySem.W.Frag} {f:D→M Unit} {g:List D→M Unit} {vs:List V} {σ:L2.St} {H:Hp} {Q:L2.St→Hp→Prop} (q:RGs K (DF f g) vs σ H Q):Qe (RG K f) (RGs K g) vs σ H Q:=by
 obtain ⟨Oo,c,t,ds,fi,rv,t',eq,k⟩:=q
 cases rv with
 | nil=>cases eq
 | cons r rs=>
   obtain ⟨u,t1,e1,eq⟩:=Ap eq
   exact ⟨_,_,rfl,Oo,c,t,_,fi,r,t1,e1,fun σ1 H1 c1 f1 s1=>⟨Oo,c1,t1,_,f1,rs.mono s1.ext,t',eq,fun σ2 H2 c2 f2 s2=>k σ2 H2 c2 f2 (s1.trans s2)⟩⟩
def unT (n:Nat) (g:List D→M Unit):D→M Unit
 | .tup ds=>if ds.length=n then g ds else fail
 | _=>fail
def Dk (st:D→M Unit) (b:M Out):List D→M Out
 | []=>ret .next
 | d :: r=>fun t=>match st d t with
   | none=>none
   | some (_,t1)=>match b t1 with
     | some (.next,t2)=>Dk st b r t2
     | some (.cont,t2)=>Dk st b r t2
     | some (.brk,t2)=>some (.next,t2)
     | some (.ret x,t2)=>some (.ret x,t2)
     | none=>none
def Dy (f:M (List D)) (st:D→M Unit) (b:M Out):M Out:=bnd f fun ds=>Dk st b ds
theorem RS.for {μ:Cf→Hp→D→(V→Hp→Prop)→Prop} {K:PySem.W.Frag} {f:M (List D)} {g:D→M Unit} {b:M Out} {E:Ends} {σ:L2.St} {H:Hp} (q:RSg K μ (Dy f g b) E σ H):TN (RI K f) (RG K g) (RSg K μ b) E σ H:=by
 obtain ⟨Oo,c,t,fi,o,t',eq,k⟩:=q
 obtain ⟨ds,t1,e1,eq⟩:=Ap eq
 refine ⟨Oo,c,t,fi,ds,t1,e1,fun J H1 c1 f1 s1 it=>?_⟩
 refine ⟨fun i m σ' H'=>m=ds.length - i∧i≤ds.length∧∃c' t2,FInv K Oo c' t2 σ' H'∧Stp Oo c1 H1 c' H'∧Dk g b (ds.drop i) t2=some (o,t'),⟨_,rfl,Nat.zero_le _,c1,t1,f1,.refl,by rw [List.drop_zero];exact eq⟩,?_⟩
 rintro i m σ' H' ⟨rfl,hi,c',t2,f2,s2,e2⟩
 by_cases hlt:i < ds.length
 ·refine .inr ⟨it.go c' H' i s2.ext hlt,fun σ3 H3=>∃c3 t3,FInv K Oo c3 t3 σ3 H3∧Stp Oo c1 H1 c3 H3∧Dk g b (ds.drop (i + 1)) t3=some (o,t'),fun σ3 H3 h=>⟨ds.length - (i + 1),by lia,rfl,hlt,h⟩,fun x H'' hy=>?_⟩
  obtain ⟨rfl,rx⟩:=it.yld c' H' i x H'' _ s2.ext (List.getElem?_eq_getElem hlt) hy
  rw [List.drop_eq_getElem_cons hlt] at e2
  unfold Dk at e2
  cases e3:g ds[i] t2 with
  | none=>rw [e3] at e2;cases e2
  | some p=>
    obtain ⟨u,t3⟩:=p
    rw [e3] at e2
    try dsimp only at e2
    refine ⟨Oo,c',t2,_,f2,rx,t3,e3,fun σ3 H3 c3 f3 s3=>?_⟩
    cases e4:b t3 with
    | none=>rw [e4] at e2;cases e2
    | some p=>
      obtain ⟨o4,t4⟩:=p
      rw [e4] at e2
      try dsimp only at e2
      refine ⟨Oo,c3,t3,f3,o4,t4,e4,fun σ5 H5 c5 f5 s5=>?_⟩
      have s':=(s2.trans s3).trans s5
      cases o4 with
      | next=>exact ⟨c5,t4,f5,s',e2⟩
      | cont=>exact ⟨c5,t4,f5,s',e2⟩
      | brk=>cases e2;exact k σ5 H5 c5 f5 (s1.trans s')
      | ret r=>cases e2;exact k σ5 H5 c5 f5 (s1.trans s')
 ·have hi':i=ds.length:=by lia
  subst hi'
  rw [List.drop_length] at e2
  cases e2
  exact .inl ⟨it.stop c' H' s2.ext,k σ' H' c' f2 (s1.trans s2)⟩
theorem Df {μ:Cf→Hp→D→(V→Hp→Prop)→Prop} {tg iter:Expr} {body:List Stmt} {f:M (List D)} {g:D→M Unit} {b:M Out} (hp:PassesOwn (model X.prog X.w) X.A X.env X.xe) (hc:X.calm=true) (hi:PI X tg iter (RI X.K f)) (hg:PG X tg (RG X.K g)) (hb:PSs X body (RSg X.K μ b))
 (hs:∀x,foldedSetIterable iter X.env x=pure x:=by intro _;rfl):PS X (.For tg iter body [] pos) (RSg X.K μ (Dy f g b)):=
 BV (Td hp hc hi hg hb hs) fun _ _ _ q=>RS.for q
theorem ItOk.lst {K:PySem.W.Frag} {c:Cf} {H:Hp} {p:Addr} {ds:List D} (r:∀c' H',Ext c H c' H'→∃vs,SqL K H' p vs∧Reps K c' H' vs ds):ItOk K (Itl K p) c H ds:=by
 refine ⟨fun c' H' i ex hi=>?_,fun c' H' i x H'' d ex hd hy=>?_,fun c' H' ex=>?_⟩
 ·obtain ⟨vs,h1,h2⟩:=r c' H' ex
  obtain ⟨v,e,_⟩:=h2.at (List.getElem?_eq_getElem hi)
  exact ⟨vs,v,h1,e⟩
 ·obtain ⟨vs,h1,h2⟩:=r c' H' ex
  obtain ⟨rfl,h⟩:=hy
  exact ⟨rfl,h2.get (h vs h1) hd⟩
 ·obtain ⟨vs,h1,h2⟩:=r c' H' ex
  exact ⟨vs,h1,by rw [h2.length];exact Nat.le_refl _⟩
theorem ItOk.tup {K:PySem.W.Frag} {c:Cf} {H:Hp} {p:Addr} {ds:List D} (r:∀c' H',Ext c H c' H'→∃vs,SqT K H' p vs∧Reps K c' H' vs ds):ItOk K (Itt K p) c H ds:=by
 refine ⟨fun c' H' i ex hi=>?_,fun c' H' i x H'' d ex hd hy=>?_,fun c' H' ex=>?_⟩
 ·obtain ⟨vs,h1,h2⟩:=r c' H' ex
  obtain ⟨v,e,_⟩:=h2.at (List.getElem?_eq_getElem hi)
  exact ⟨vs,v,h1,e⟩
 ·obtain ⟨vs,h1,h2⟩:=r c' H' ex
  obtain ⟨rfl,h⟩:=hy
  exact ⟨rfl,h2.get (h vs h1) hd⟩
 ·obtain ⟨vs,h1,h2⟩:=r c' H' ex
  exact ⟨vs,h1,by rw [h2.length];exact Nat.le_refl _⟩
end
theorem FInv.leave {K:PySem.W.Frag} {Oo:Addr→Prop} {c:Cf} {t:T} {σ:L2.St} {H:Hp} (f:FInv K Oo c t σ H):SInv K ⟨c.ι,Oo⟩ t.S H∧Ext c H ⟨c.ι,Oo⟩ H:=by
 have ext:Ext c H ⟨c.ι,Oo⟩ H:=⟨fun _ _ e _=>e,fun b o _ z=>z.elim .inl fun w=>.inr (f.sub b w),fun _ _ e=>e⟩
 exact ⟨⟨f.s.len,f.s.nd,fun k a o e1 e2=>(f.s.obs k a o e1 e2).mono ext rfl,fun b z=>f.s.trk b (f.sub b z),fun b z=>f.s.dis b (f.sub b z)⟩,ext⟩
def env0 (m:Nat) (ds:List D):List (Option Sl):=ds.map (fun d=>some (.val d))++List.replicate (m - ds.length) none
def fnOf (n m:Nat) (g:M Out):Fn:=fun ds S=>if ds.length=n then (match g ⟨env0 m ds,S⟩ with
 | some (.ret r,t)=>some (r,t.S)
 | some (.next,t)=>some (.non,t.S)
 | _=>none) else none
theorem Gb {K:PySem.W.Frag} {c:Cf} {S:List Ob} {H:Hp} {vs:List V} {ds:List D} {N:List Str} (s:SInv K c S H) (r:Reps K c H vs ds):FInv K c.O c ⟨env0 N.length ds,S⟩ (L2.D0 N vs) H:=by
 have hlen:vs.length=ds.length:=r.length
 have none_:∀{i:Nat} {x:Sl},(env0 N.length ds)[i]?=some (some x)→∃d,ds[i]?=some d∧x = .val d:=fun {i x} q=>by
  unfold env0 at q
  by_cases hi:i < ds.length
  ·rw [List.getElem?_append_left (by simpa using hi),List.getElem?_map,List.getElem?_eq_getElem hi] at q
   simp at q
   exact ⟨ds[i],List.getElem?_eq_getElem hi,q.symm⟩
  ·rw [List.getElem?_append_right (by simpa using hi),List.getElem?_replicate] at q
   split at q <;> simp at q
 refine ⟨s,by simp [env0,L2.D0,hlen],fun _ z=>z,fun i d q=>?_,fun i es q=>?_,fun i j es _ a q _ _ _=>?_⟩
 ·obtain ⟨d',h1,h2⟩:=none_ q
  cases h2
  obtain ⟨v,h3,h4⟩:=r.at h1
  refine ⟨v,?_,h4⟩
  unfold L2.D0
  have hi:=(List.getElem?_eq_some_iff.mp h3).1
  rw [List.getElem?_append_left (by simpa using hi),List.getElem?_map,h3]
  rfl
 ·obtain ⟨_,_,h2⟩:=none_ q;cases h2
 ·obtain ⟨_,_,h2⟩:=none_ q;cases h2
theorem Uh {P:Program} {w:World} {K:PySem.W.Frag} {mg:Str→Option Value} {base:Heap} {x qual:Str} {st:Stmt} {fa:Addr} {fd:FuncData} {N ps:List Str} {k:Nat} {g:M Out} (F:Fun K x qual st fa fd) (S:FnScope N ps (As st))
 (hb:∀(cdv:Value) (A:Around) (outer:List Env) (s:Shared) (H:Hp) (E:XK),Room k (A.deeper (PyProof.Rows.envOfC qual (As st) s.heap.objs.size fa cdv))→
   PSs (EE CX0 P w K mg base N qual (As st) fa cdv A outer s H E).nox (B3 st) (RS K g)):FnOk P w K mg base CX0 (k + 1) fa fd ps (spF K (fnOf ps.length N.length g)):=by
 have hlen:∀{ds:List D} {S:List Ob} {z:D×List Ob},fnOf ps.length N.length g ds S=some z→ds.length=ps.length:=fun {ds S z} h=>by
  unfold fnOf at h
  split at h
  ·next h1=>exact h1
  ·cases h
 refine F.ok S (fun vs H Q E h=>?_) (fun cdv A outer s H vs Q E hr h=>?_)
 ·obtain ⟨c,ds,S,si,rs,r,S',e,_⟩:=h
  rw [rs.length];exact hlen e
 obtain ⟨c,ds,S0,si,rs,r,S',e,kk⟩:=h
 refine ⟨RS K g,hb cdv A outer s H E hr,?_⟩
 have hl:=hlen e
 unfold fnOf at e
 rw [if_pos hl] at e
 cases eg:g ⟨env0 N.length ds,S0⟩ with
 | none=>rw [eg] at e;cases e
 | some p=>
   obtain ⟨o,t⟩:=p
   rw [eg] at e
   refine ⟨c.O,c,_,Gb si rs,o,t,eg,fun σ' H' c' f' s'=>?_⟩
   obtain ⟨si',ext'⟩:=f'.leave
   have st':Stp c.O c H ⟨c'.ι,c.O⟩ H':=⟨s'.ext.trans ext',s'.oo⟩
   cases o with
   | next=>cases e;exact kk .non H' _ si' st' (fun _=>Iff.rfl) .non
   | ret d=>cases e;exact fun v rv=>kk v H' _ si' st' (fun _=>Iff.rfl) (rv.mono ext')
   | brk=>cases e
   | cont=>cases e
section
variable {X:Cx} {e a b:Expr} {pos:Pos}
def items:D→M (List D)
 | .lst ds=>ret ds
 | .tup ds=>ret ds
 | .scr ns=>ret (ns.map .int)
 | _=>fail
def BT (lo:Int) (n:Nat):List D:=(List.range n).map fun i=>.int (lo + (i:Nat))
theorem ItOk.rng {K:PySem.W.Frag} {c:Cf} {H:Hp} {lo:Int} {n:Nat}:ItOk K (Itr lo n) c H (BT lo n):=by
 refine ⟨fun c' H' i ex hi=>?_,fun c' H' i x H'' d ex hd hy=>?_,fun c' H' ex=>?_⟩
 ·have:i < n:=by simpa [BT] using hi
  exact this
 ·obtain ⟨rfl,rfl⟩:=hy
  refine ⟨rfl,?_⟩
  have hi:i < n:=by
   have:=(List.getElem?_eq_some_iff.mp hd).1
   simpa [BT] using this
  have:d = .int (lo + (i:Nat)):=by
   rw [BT,List.getElem?_map,List.getElem?_range hi] at hd
   simpa using hd.symm
  rw [this]
  exact .int _
 ·show n≤(BT lo n).length
  simp [BT]
def Ck (i:Int):Bool:=decide (-(2 ^ 62)≤i) && decide (i < 2 ^ 62)
def Js:List D→M (List D)
 | [.int j]=>fun t=>if Ck j=true then some (BT 0 j.toNat,t) else none
 | _=>fail
def Jt:List D→M (List D)
 | [.int i,.int j]=>fun t=>if (Ck i && Ck j)=true then some (BT i (j - i).toNat,t) else none
 | _=>fail
def Ct (f:M (List D)):M (List D):=bnd f Js
def G3 (f:M (List D)):M (List D):=bnd f Jt
theorem Eb {i:Int} (h:Ck i=true) : -(2 ^ 62)≤i∧i < 2 ^ 62:=by
 unfold Ck at h
 rw [Bool.and_eq_true] at h
 exact ⟨of_decide_eq_true h.1,of_decide_eq_true h.2⟩
theorem NV {tg:Expr} {f:M (List D)} {p:Pos} (hg:Gl X "range") (hm:X.mg "range" = none) (ha:PA X [a] (RA X.K f)) (hs:starEach [a] X.env=[(false,eval a X.env)]:=by rfl):PI X tg (.Call (.Name "range" p) [a] [] pos) (RI X.K (Ct f)):=
 Ia (Om hg hm ha hs) fun σ H R ⟨Oo,c,t,fi,ds,t',eq,k⟩=>by
  obtain ⟨xs,t1,e1,eq⟩:=Ap eq
  refine ⟨Oo,c,t,fi,xs,t1,e1,fun vs H1 c1 f1 s1 rv=>?_⟩
  unfold Js at eq
  split at eq
  ·next j=>
   split at eq
   ·next hs=>
    cases eq
    cases rv with
    | cons r rs=>
      cases rs
      cases r
      obtain ⟨h1,h2⟩:=Eb hs
      exact ⟨j,rfl,h1,h2,k _ H1 c1 f1 s1 ItOk.rng⟩
   ·cases eq
  ·cases eq
theorem NW {tg:Expr} {f:M (List D)} {p:Pos} (hg:Gl X "range") (hm:X.mg "range" = none) (ha:PA X [a,b] (RA X.K f)) (hs:starEach [a,b] X.env=[(false,eval a X.env),(false,eval b X.env)]:=by rfl) (hs2:starEach [b] X.env=[(false,eval b X.env)]:=by rfl):PI X tg (.Call (.Name "range" p) [a,b] [] pos) (RI X.K (G3 f)):=
 Ia (On hg hm ha hs hs2) fun σ H R ⟨Oo,c,t,fi,ds,t',eq,k⟩=>by
  obtain ⟨xs,t1,e1,eq⟩:=Ap eq
  refine ⟨Oo,c,t,fi,xs,t1,e1,fun vs H1 c1 f1 s1 rv=>?_⟩
  unfold Jt at eq
  split at eq
  ·next i j=>
   split at eq
   ·next hs=>
    cases eq
    rw [Bool.and_eq_true] at hs
    cases rv with
    | cons r rs=>
      cases r
      cases rs with
      | cons r rs=>
        cases rs
        cases r
        obtain ⟨h1,h2⟩:=Eb hs.1
        obtain ⟨h3,h4⟩:=Eb hs.2
        exact ⟨i,j,rfl,⟨h1,h2,h3,h4⟩,k _ H1 c1 f1 s1 ItOk.rng⟩
   ·cases eq
  ·cases eq
def BW (st:D→M Unit) (tst:M Bool) (elt:M D):List D→M (List D)
 | []=>ret []
 | d :: r=>bnd (st d) fun _=>bnd tst fun k=>if k=true then bnd elt fun x=>bnd (BW st tst elt r) fun xs=>ret (x :: xs) else BW st tst elt r
def UI:Option (Option Sl)→Option Sl
 | some (some (.val d))=>some (.val d)
 | _=>none
def cenv (n:Nat) (fr:List Nat) (env:List (Option Sl)):List (Option Sl):=List.replicate n none++fr.map fun i=>UI env[i]?
def Fh (n:Nat) (fr:List Nat) (σ:L2.St):L2.St:=List.replicate n none++fr.map fun i=>(σ[i]?).join
def Ch (n:Nat) (fr:List Nat) (f:M (List D)) (st:D→M Unit) (tst:M Bool) (elt:M D):M (List D):=bnd f fun ds t=>match BW st tst elt ds ⟨cenv n fr t.env,t.S⟩ with
 | some (xs,t')=>if xs.length≤LIM then some (xs,{ t with S:=t'.S }) else none
 | none=>none
theorem Ht {n:Nat} {fr:List Nat} {env:List (Option Sl)} {j:Nat} {x:Sl} (h:(cenv n fr env)[j]?=some (some x)):∃i d,n≤j∧fr[j - n]?=some i∧env[i]?=some (some (.val d))∧x = .val d:=by
 unfold cenv at h
 by_cases hj:j < n
 ·rw [List.getElem?_append_left (by simpa using hj),List.getElem?_replicate] at h
  split at h <;> simp at h
 ·rw [List.getElem?_append_right (by simpa using hj),List.length_replicate,List.getElem?_map] at h
  cases e:fr[j - n]? with
  | none=>rw [e] at h;simp at h
  | some i=>
    rw [e] at h
    simp only [Option.map_some,Option.some.injEq] at h
    cases e2:env[i]? with
    | none=>rw [e2] at h;cases h
    | some o=>
      cases o with
      | none=>rw [e2] at h;cases h
      | some sl=>
        cases sl with
        | own _=>rw [e2] at h;cases h
        | val d=>rw [e2] at h;cases h;exact ⟨i,d,by lia,rfl,e2,rfl⟩
theorem Iv {K:PySem.W.Frag} {Oo:Addr→Prop} {c:Cf} {t:T} {σ:L2.St} {H:Hp} {n:Nat} {fr:List Nat} (f:FInv K Oo c t σ H):FInv K c.O c ⟨cenv n fr t.env,t.S⟩ (Fh n fr σ) H:=by
 refine ⟨f.s,by simp [cenv,Fh],fun _ z=>z,fun j d q=>?_,fun j es q=>?_,fun j _ es _ _ q _ _ _=>?_⟩
 ·obtain ⟨i,d',h0,h1,h2,h3⟩:=Ht q
  cases h3
  obtain ⟨v,h4,h5⟩:=f.val i d h2
  refine ⟨v,?_,h5⟩
  unfold Fh
  rw [List.getElem?_append_right (by simpa using h0),List.length_replicate,List.getElem?_map,h1]
  simp [h4]
 ·obtain ⟨_,_,_,_,_,h⟩:=Ht q;cases h
 ·obtain ⟨_,_,_,_,_,h⟩:=Ht q;cases h
theorem RF.comp {K:PySem.W.Frag} {n:Nat} {fr:List Nat} {f:M (List D)} {st:D→M Unit} {tst:M Bool} {elt:M D} {σ:L2.St} {H:Hp} {Q:VK} (q:RF K (Ch n fr f st tst elt) σ H Q):Kx (RI K f) (RG K st) (RT K tst) (RE K elt) (Fh n fr) σ H Q:=by
 obtain ⟨Oo,c,t,fi,xs,t',eq,k⟩:=q
 obtain ⟨ds,t1,e1,eq⟩:=Ap eq
 refine ⟨Oo,c,t,fi,ds,t1,e1,fun J H1 c1 f1 s1 it=>?_⟩
 cases e3:BW st tst elt ds ⟨cenv n fr t1.env,t1.S⟩ with
 | none=>rw [e3] at eq;cases eq
 | some p=>
   obtain ⟨ys,t3⟩:=p
   rw [e3] at eq
   dsimp only at eq
   split at eq
   case isFalse=>cases eq
   next hl=>
   cases eq
   refine ⟨fun i m acc σ' H'=>m=ds.length - i∧i≤ds.length∧∃c' t2 zs rest,FInv K c1.O c' t2 σ' H'∧Stp c1.O c1 H1 c' H'∧Reps K c' H' acc zs∧BW st tst elt (ds.drop i) t2=some (rest,t3)∧xs=zs++rest,
    ⟨_,rfl,Nat.zero_le _,c1,_,[],xs,Iv f1,.refl,.nil,by rw [List.drop_zero];exact e3,rfl⟩,?_⟩
   rintro i m acc σ' H' ⟨rfl,hi,c',t2,zs,rest,f2,s2,ra,e2,ez⟩
   have hacc:acc.length≤sizeLine:=by
    have:zs.length≤xs.length:=by rw [ez,List.length_append];exact Nat.le_add_right _ _
    rw [ra.length]
    exact Nat.le_trans this (Nat.le_trans hl Cq)
   refine ⟨hacc,?_⟩
   by_cases hlt:i < ds.length
   ·refine .inr ⟨it.go c' H' i s2.ext hlt,fun x H'' hy=>?_⟩
    obtain ⟨rfl,rx⟩:=it.yld c' H' i x H'' _ s2.ext (List.getElem?_eq_getElem hlt) hy
    rw [List.drop_eq_getElem_cons hlt] at e2
    unfold BW at e2
    obtain ⟨u,t4,e4,e2⟩:=Ap e2
    obtain ⟨kb,t5,e5,e2⟩:=Ap e2
    refine ⟨c1.O,c',t2,_,f2,rx,t4,e4,fun σ3 H3 c3 f3 s3=>⟨c1.O,c3,t4,f3,kb,t5,e5,fun H4 c4 f4 s4=>?_⟩⟩
    cases kb with
    | false=>
      rw [if_neg Bool.false_ne_true] at e2 ⊢
      exact ⟨ds.length - (i + 1),by lia,rfl,hlt,c4,t5,zs,rest,f4,(s2.trans s3).trans s4,ra.mono (s3.trans s4).ext,e2,ez⟩
    | true=>
      rw [if_pos rfl] at e2 ⊢
      obtain ⟨x6,t6,e6,e2⟩:=Ap e2
      obtain ⟨r7,t7,e7,e2⟩:=Ap e2
      cases e2
      refine ⟨c1.O,c4,t5,f4,x6,t6,e6,fun v H5 c5 f5 s5 rv=>?_⟩
      exact ⟨ds.length - (i + 1),by lia,rfl,hlt,c5,t6,zs++[x6],r7,f5,((s2.trans s3).trans s4).trans s5,(ra.mono ((s3.trans s4).trans s5).ext).append (.cons rv .nil),e7,by rw [ez,List.append_assoc];rfl⟩
   ·have hi':i=ds.length:=by lia
    subst hi'
    rw [List.drop_length] at e2
    cases e2
    refine .inl ⟨it.stop c' H' s2.ext,fun p hp _=>?_⟩
    obtain ⟨si,ext⟩:=f2.leave
    obtain ⟨f6,s6⟩:=f1.after si ⟨s2.ext.trans ext,s2.oo⟩ (fun _=>Iff.rfl)
    rw [List.append_nil] at ez
    subst ez
    exact k p acc H' _ f6 (s1.trans s6) (ra.mono ext) hp
end
end F2
namespace F2
open PySem L2 PySem.Spec PySem.SeqAt
def eq0:D→D→Option Bool
 | .int a,.int b=>some (a == b)
 | .str a,.str b=>some (a == b)
 | .bl a,.bl b=>some (a == b)
 | .non,.non=>some true
 | .int _,.str _=>some false
 | .str _,.int _=>some false
 | _,_=>none
def C7 (f:D→D→Option Bool):List D→List D→Option Bool
 | x :: xs,y :: ys=>match f x y,C7 f xs ys with
   | some a,some b=>some (a && b)
   | _,_=>none
 | _,_=>some true
def eqN:Nat→D→D→Option Bool
 | 0,x,y=>eq0 x y
 | n + 1,.tup xs,.tup ys=>(C7 (eqN n) xs ys).map fun b=>b && xs.length == ys.length
 | n + 1,.lst xs,.lst ys=>if xs.length=ys.length then C7 (eqN n) xs ys else some false
 | _ + 1,x,y=>eq0 x y
def ej (f:D→D→Option Bool) (xs ys:List D) (j:Nat):Bool:=match xs[j]?,ys[j]? with
 | some d,some e=>(f d e).getD true
 | _,_=>true
theorem Dv {f:D→D→Option Bool}:∀{xs ys:List D} {b:Bool},C7 f xs ys=some b→b=(List.range (min xs.length ys.length)).all (ej f xs ys)∧∀(j:Nat) d e,xs[j]?=some d→ys[j]?=some e→∃k,f d e=some k
 | [],ys,b,h=>by
   have h:some true=some b:=by simpa [C7] using h
   cases h
   refine ⟨by simp,fun j d e q _=>by simp at q⟩
 | x :: xs,[],b,h=>by
   have h:some true=some b:=by simpa [C7] using h
   cases h
   refine ⟨by simp,fun j d e _ q=>by simp at q⟩
 | x :: xs,y :: ys,b,h=>by
   unfold C7 at h
   cases e1:f x y with
   | none=>rw [e1] at h;cases h
   | some a=>
     cases e2:C7 f xs ys with
     | none=>rw [e1,e2] at h;cases h
     | some c=>
       rw [e1,e2] at h
       cases h
       obtain ⟨h1,h2⟩:=Dv e2
       refine ⟨?_,fun j d e q1 q2=>?_⟩
       ·have hm:min (x :: xs).length (y :: ys).length=min xs.length ys.length + 1:=by simp [Nat.succ_min_succ]
        rw [hm,List.range_succ_eq_map,List.all_cons,List.all_map,h1]
        have:ej f (x :: xs) (y :: ys) 0=a:=by simp [ej,e1]
        rw [this]
        rfl
       ·cases j with
        | zero=>simp at q1 q2;subst q1 q2;exact ⟨a,e1⟩
        | succ j=>exact h2 j d e (by simpa using q1) (by simpa using q2)
theorem Gf {P:Program} {w:World} {H:Hp} {h:Heap} {a:Addr} {vs:List V} (o:HOk P w H h) (e:H a=some (.lst vs)):∃its:List Value,Vals vs its∧h.IsList a its.toArray:=by
 obtain ⟨_,its,n,r,q⟩:=o a _ e
 exact ⟨its,r,_,q,rfl,n,rfl⟩
theorem G7 {P:Program} {w:World} {H:Hp} {h:Heap} {a:Addr} {vs:List V} (o:HOk P w H h) (e:H a=some (.tup vs)):∃its:List Value,Vals vs its∧h.IsTuple a its.toArray:=by
 obtain ⟨_,its,r,q⟩:=o a _ e
 exact ⟨its,r,q⟩
theorem IQ {vs:List V} {its:List Value} {j:Nat} (r:Vals vs its) (h:j < its.toArray.size):∃v,vs[j]?=some v∧RelV v its.toArray[j]:=by
 have h':j < its.length:=by simpa using h
 have hl:j < vs.length:=by rw [r.length];exact h'
 obtain ⟨u,e1,e2⟩:=r.get (List.getElem?_eq_getElem hl)
 refine ⟨vs[j],List.getElem?_eq_getElem hl,?_⟩
 rw [List.getElem?_eq_getElem h'] at e1
 cases e1
 simpa using e2
theorem NO {f:D→D→Option Bool} {xs ys:List D} {b:Bool} (h:C7 f xs ys=some b) (ht:∀(j:Nat) d e k,xs[j]?=some d→ys[j]?=some e→f d e=some k→k=true):b=true:=by
 obtain ⟨h1,h2⟩:=Dv h
 rw [h1,List.all_eq_true]
 intro j hj
 have hj':=List.mem_range.mp hj
 have l1:j < xs.length:=by lia
 have l2:j < ys.length:=by lia
 obtain ⟨k,ek⟩:=h2 j _ _ (List.getElem?_eq_getElem l1) (List.getElem?_eq_getElem l2)
 have:=ht j _ _ k (List.getElem?_eq_getElem l1) (List.getElem?_eq_getElem l2) ek
 unfold ej
 rw [List.getElem?_eq_getElem l1,List.getElem?_eq_getElem l2]
 simp [ek,this]
theorem CF {K:PySem.W.Frag} {c:Cf} {H:Hp} {v:V} {i:Int} (h:Rep K c H v (.int i)):v = .int i:=by cases h;rfl
theorem CG {K:PySem.W.Frag} {c:Cf} {H:Hp} {v:V} {i:Str} (h:Rep K c H v (.str i)):v = .str i:=by cases h;rfl
theorem FW {K:PySem.W.Frag} {c:Cf} {H:Hp} {v:V} {i:Bool} (h:Rep K c H v (.bl i)):v = .bl i:=by cases h;rfl
theorem Ha {K:PySem.W.Frag} {c:Cf} {H:Hp} {v:V} (h:Rep K c H v .non):v = .non:=by cases h;rfl
theorem E7 {K:PySem.W.Frag} {c:Cf} {H:Hp} {v:V} {ds:List D} (h:Rep K c H v (.lst ds)):∃a vs,v = .ref a∧H a=some (.lst vs)∧¬c.A a∧Reps K c H vs ds:=by cases h with | lst h1 h2 h3=>exact ⟨_,_,rfl,h1,h2,h3⟩
theorem E8 {K:PySem.W.Frag} {c:Cf} {H:Hp} {v:V} {ds:List D} (h:Rep K c H v (.tup ds)):∃a vs,v = .ref a∧H a=some (.tup vs)∧¬c.A a∧Reps K c H vs ds:=by cases h with | tup h1 h2 h3=>exact ⟨_,_,rfl,h1,h2,h3⟩
theorem GD {x y:D} {b:Bool} (e:eq0 x y=some b):(∃i j,x = .int i∧y = .int j∧(i == j)=b)∨(∃i j,x = .str i∧y = .str j∧(i == j)=b)∨(∃i j,x = .bl i∧y = .bl j∧(i == j)=b)∨(x = .non∧y = .non∧true=b)∨(∃i j,x = .int i∧y = .str j∧false=b)∨(∃i j,x = .str i∧y = .int j∧false=b):=by
 unfold eq0 at e
 split at e
 ·cases e;exact .inl ⟨_,_,rfl,rfl,rfl⟩
 ·cases e;exact .inr (.inl ⟨_,_,rfl,rfl,rfl⟩)
 ·cases e;exact .inr (.inr (.inl ⟨_,_,rfl,rfl,rfl⟩))
 ·cases e;exact .inr (.inr (.inr (.inl ⟨rfl,rfl,rfl⟩)))
 ·cases e;exact .inr (.inr (.inr (.inr (.inl ⟨_,_,rfl,rfl,rfl⟩))))
 ·cases e;exact .inr (.inr (.inr (.inr (.inr ⟨_,_,rfl,rfl,rfl⟩))))
 ·cases e
theorem GE {n:Nat} {x y:D} {b:Bool} (e:eqN n x y=some b):eq0 x y=some b∨(∃m xs ys,n=m + 1∧x = .lst xs∧y = .lst ys∧(if xs.length=ys.length then C7 (eqN m) xs ys else some false)=some b)∨∃m xs ys b',n=m + 1∧x = .tup xs∧y = .tup ys∧C7 (eqN m) xs ys=some b'∧(b' && xs.length == ys.length)=b:=by
 unfold eqN at e
 split at e
 ·exact .inl e
 ·obtain ⟨b',e1,e2⟩:=Option.map_eq_some_iff.mp e
  exact .inr (.inr ⟨_,_,_,b',rfl,rfl,rfl,e1,e2⟩)
 ·exact .inr (.inl ⟨_,_,_,rfl,rfl,rfl,e⟩)
 ·exact .inl e
theorem Jc {K:PySem.W.Frag} {c:Cf} {H:Hp}:∀(n:Nat) {v:V} {d e:D} {b:Bool},Rep K c H v d→Rep K c H v e→eqN n d e=some b→b=true
 | n,v,d,e,b,rd,re,q=>by
   have items:∀{m:Nat} {vs:List V} {ds es:List D} {b':Bool},n=m + 1→Reps K c H vs ds→Reps K c H vs es→C7 (eqN m) ds es=some b'→b'=true:=fun {m vs ds es b'} hm r1 r2 e'=>
    NO e' fun j d e k q1 q2 ek=>by
     obtain ⟨v,g1,g2⟩:=r1.at q1
     exact Jc m g2 (r2.get g1 q2) ek
   rcases GE q with q0 | ⟨m,ds,es,hm,rfl,rfl,q0⟩ | ⟨m,ds,es,b',hm,rfl,rfl,q1,q2⟩
   ·rcases GD q0 with ⟨i,j,rfl,rfl,rfl⟩ | ⟨i,j,rfl,rfl,rfl⟩ | ⟨i,j,rfl,rfl,rfl⟩ | ⟨rfl,rfl,rfl⟩ | ⟨i,j,rfl,rfl,rfl⟩ | ⟨i,j,rfl,rfl,rfl⟩
    ·have e1:=CF rd;have e2:=CF re;rw [e1] at e2;injection e2 with e2;rw [e2];simp
    ·have e1:=CG rd;have e2:=CG re;rw [e1] at e2;injection e2 with e2;rw [e2];simp
    ·have e1:=FW rd;have e2:=FW re;rw [e1] at e2;injection e2 with e2;rw [e2];simp
    ·rfl
    ·have e1:=CF rd;have e2:=CG re;rw [e1] at e2;cases e2
    ·have e1:=CG rd;have e2:=CF re;rw [e1] at e2;cases e2
   ·obtain ⟨a,vs,e1,h1,h2,h3⟩:=E7 rd
    obtain ⟨a',vs',e2,g1,g2,g3⟩:=E7 re
    rw [e1] at e2;injection e2 with e2;subst e2
    rw [h1] at g1;injection g1 with g1;injection g1 with g1;subst g1
    rw [if_pos (h3.length.symm.trans g3.length)] at q0
    exact items hm h3 g3 q0
   ·obtain ⟨a,vs,e1,h1,h2,h3⟩:=E8 rd
    obtain ⟨a',vs',e2,g1,g2,g3⟩:=E8 re
    rw [e1] at e2;injection e2 with e2;subst e2
    rw [h1] at g1;injection g1 with g1;injection g1 with g1;subst g1
    rw [←q2,items hm h3 g3 q1,h3.length.symm.trans g3.length]
    simp
theorem Jb {P:Program} {w:World} {K:PySem.W.Frag} {c:Cf} {H:Hp} {s:Shared} (hok:HOk P w H s.heap):∀(n:Nat) {A:Around} {x y:V} {u v:Value} {dx dy:D} {b:Bool},RelV x u→RelV y v→Rep K c H x dx→Rep K c H y dy→eqN n dx dy=some b→A.units + n < cLine→
 RcAt A s u v b∧(EqAt A s u v b)
 | n,A,x,y,u,v,dx,dy,b,ru,rv,rx,ry,e,hu=>by
   have items:∀{m:Nat} {vs ws:List V} {is js:List Value} {ds es:List D} {b':Bool},n=m + 1→Vals vs is→Vals ws js→Reps K c H vs ds→Reps K c H ws es→C7 (eqN m) ds es=some b'→
    ∀j (h1:j < is.toArray.size) (h2:j < js.toArray.size),EqAt A.in1 s is.toArray[j] js.toArray[j] (ej (eqN m) ds es j):=fun {m vs ws is js ds es b'} hm r1 r2 q1 q2 e' j h1 h2=>by
    obtain ⟨v1,a1,a2⟩:=IQ r1 h1
    obtain ⟨v2,b1,b2⟩:=IQ r2 h2
    obtain ⟨l1,g1⟩:=List.getElem?_eq_some_iff.mp a1
    obtain ⟨l2,g2⟩:=List.getElem?_eq_some_iff.mp b1
    have k1:ds[j]?=some (ds[j]'(by rw [←q1.length];exact l1)):=List.getElem?_eq_getElem _
    have k2:es[j]?=some (es[j]'(by rw [←q2.length];exact l2)):=List.getElem?_eq_getElem _
    obtain ⟨kk,ek⟩:=(Dv e').2 j _ _ k1 k2
    have:ej (eqN m) ds es j=kk:=by unfold ej;rw [k1,k2];simp [ek]
    rw [this]
    have hu':A.in1.units + m < cLine:=by
     have:A.in1.units=A.units + 1:=by first | rfl | exact Around.units_in1 _ | simp [Around.in1,Around.units]
     lia
    exact (Jb hok m a2 b2 (q1.get a1 k1) (q2.get b1 k2) ek hu').2
   have hu0:A.units < cLine:=by lia
   have conc:∀{p q:Addr} {k:Bool},p≠q→RcAt A s (.ref p) (.ref q) k→RcAt A s (.ref p) (.ref q) k∧EqAt A s (.ref p) (.ref q) k:=fun hn h=>⟨h,EqAt.of_refs hn h⟩
   rcases GE e with e0 | ⟨m,ds,es,hm,rfl,rfl,e0⟩ | ⟨m,ds,es,b',hm,rfl,rfl,e1,e2⟩
   ·rcases GD e0 with ⟨i,j,rfl,rfl,rfl⟩ | ⟨i,j,rfl,rfl,rfl⟩ | ⟨i,j,rfl,rfl,rfl⟩ | ⟨rfl,rfl,rfl⟩ | ⟨i,j,rfl,rfl,rfl⟩ | ⟨i,j,rfl,rfl,rfl⟩
    ·obtain rfl:=CF rx;obtain rfl:=CF ry;obtain ⟨t',rfl⟩:=ru;obtain ⟨t,rfl⟩:=rv;exact ⟨RcAt.int_int _ _ _ _,EqAt.int_int _ _ _ _⟩
    ·obtain rfl:=CG rx;obtain rfl:=CG ry;obtain ⟨t',rfl⟩:=ru;obtain ⟨t,rfl⟩:=rv;exact ⟨RcAt.str_str _ _ _ _,EqAt.str_str _ _ _ _⟩
    ·obtain rfl:=FW rx;obtain rfl:=FW ry;cases ru;cases rv;exact ⟨RcAt.bool_bool _ _,EqAt.bool_bool _ _⟩
    ·obtain rfl:=Ha rx;obtain rfl:=Ha ry;cases ru;cases rv;exact ⟨RcAt.none_none,EqAt.same _⟩
    ·obtain rfl:=CF rx;obtain rfl:=CG ry;obtain ⟨t',rfl⟩:=ru;obtain ⟨t,rfl⟩:=rv;exact ⟨RcAt.int_str _ _ _ _,EqAt.int_str _ _ _ _⟩
    ·obtain rfl:=CG rx;obtain rfl:=CF ry;obtain ⟨t',rfl⟩:=ru;obtain ⟨t,rfl⟩:=rv;exact ⟨RcAt.str_int _ _ _ _,EqAt.str_int _ _ _ _⟩
   ·obtain ⟨p,vs,rfl,g1,g2,g3⟩:=E7 rx
    obtain ⟨q,ws,rfl,h1,h2,h3⟩:=E7 ry
    ·cases ru
     cases rv
     obtain ⟨is,r1,l1⟩:=Gf hok g1
     obtain ⟨js,r2,l2⟩:=Gf hok h1
     have hs1:is.toArray.size=ds.length:=by rw [←g3.length,r1.length];simp
     have hs2:js.toArray.size=es.length:=by rw [←h3.length,r2.length];simp
     by_cases hl:ds.length=es.length
     ·rw [if_pos hl] at e0
      have hsz:is.toArray.size=js.toArray.size:=by rw [hs1,hs2,hl]
      have rc:=RcAt.lists l1 l2 hsz hu0 (items hm r1 r2 g3 h3 e0)
      have eb:(List.range is.toArray.size).all (ej (eqN m) ds es)=b:=by rw [(Dv e0).1,hs1,←hl,Nat.min_self]
      rw [eb] at rc
      by_cases hpq:p=q
      ·refine ⟨rc,?_⟩
       subst hpq
       rw [Jc n (Rep.lst g1 g2 g3) (Rep.lst h1 h2 h3) e]
       exact EqAt.same _
      ·exact conc hpq rc
     ·rw [if_neg hl] at e0
      cases e0
      have hsz:(is.toArray.size != js.toArray.size)=true:=by rw [hs1,hs2];simpa using hl
      refine conc (fun z=>hl ?_) (RcAt.lists_lengths l1 l2 hsz hu0)
      subst z
      rw [g1] at h1;injection h1 with h1;injection h1 with h1;subst h1
      rw [←g3.length,←h3.length]
   ·obtain ⟨p,vs,rfl,g1,g2,g3⟩:=E8 rx
    obtain ⟨q,ws,rfl,h1,h2,h3⟩:=E8 ry
    ·cases ru
     cases rv
     obtain ⟨is,r1,l1⟩:=G7 hok g1
     obtain ⟨js,r2,l2⟩:=G7 hok h1
     have hs1:is.toArray.size=ds.length:=by rw [←g3.length,r1.length];simp
     have hs2:js.toArray.size=es.length:=by rw [←h3.length,r2.length];simp
     have rc:=RcAt.tuples l1 l2 hu0 (items hm r1 r2 g3 h3 e1)
     have eb:((List.range (min is.toArray.size js.toArray.size)).all (ej (eqN m) ds es) && is.toArray.size == js.toArray.size)=b:=by rw [hs1,hs2,←(Dv e1).1];exact e2
     rw [eb] at rc
     by_cases hpq:p=q
     ·refine ⟨rc,?_⟩
      subst hpq
      rw [Jc n (Rep.tup g1 g2 g3) (Rep.tup h1 h2 h3) e]
      exact EqAt.same _
     ·exact conc hpq rc
theorem Q4 {P:Program} {w:World} {K:PySem.W.Frag} {c:Cf} {H:Hp} {s:Shared} (hok:HOk P w H s.heap) (n:Nat) {A:Around} {x y:V} {u v:Value} {dx dy:D} {b:Bool} (ru:RelV x u) (rv:RelV y v) (rx:Rep K c H x dx) (ry:Rep K c H y dy) (e:eqN n dx dy=some b) (hu:A.units + n < cLine) :
 RcNeAt A s u v (!b):=by
 have items:∀{m:Nat} {vs ws:List V} {is js:List Value} {ds es:List D} {b':Bool},n=m + 1→Vals vs is→Vals ws js→Reps K c H vs ds→Reps K c H ws es→C7 (eqN m) ds es=some b'→
  ∀j (h1:j < is.toArray.size) (h2:j < js.toArray.size),EqAt A.in1 s is.toArray[j] js.toArray[j] (ej (eqN m) ds es j):=fun {m vs ws is js ds es b'} hm r1 r2 q1 q2 e' j h1 h2=>by
  obtain ⟨v1,a1,a2⟩:=IQ r1 h1
  obtain ⟨v2,b1,b2⟩:=IQ r2 h2
  obtain ⟨l1,g1⟩:=List.getElem?_eq_some_iff.mp a1
  obtain ⟨l2,g2⟩:=List.getElem?_eq_some_iff.mp b1
  have k1:ds[j]?=some (ds[j]'(by rw [←q1.length];exact l1)):=List.getElem?_eq_getElem _
  have k2:es[j]?=some (es[j]'(by rw [←q2.length];exact l2)):=List.getElem?_eq_getElem _
  obtain ⟨kk,ek⟩:=(Dv e').2 j _ _ k1 k2
  have:ej (eqN m) ds es j=kk:=by unfold ej;rw [k1,k2];simp [ek]
  rw [this]
  have hu':A.in1.units + m < cLine:=by
   have:A.in1.units=A.units + 1:=rfl
   lia
  exact (Jb hok m a2 b2 (q1.get a1 k1) (q2.get b1 k2) ek hu').2
 have hu0:A.units < cLine:=by lia
 rcases GE e with e0 | ⟨m,ds,es,hm,rfl,rfl,e0⟩ | ⟨m,ds,es,b',hm,rfl,rfl,e1,e2⟩
 ·rcases GD e0 with ⟨i,j,rfl,rfl,rfl⟩ | ⟨i,j,rfl,rfl,rfl⟩ | ⟨i,j,rfl,rfl,rfl⟩ | ⟨rfl,rfl,rfl⟩ | ⟨i,j,rfl,rfl,rfl⟩ | ⟨i,j,rfl,rfl,rfl⟩
  ·obtain rfl:=CF rx;obtain rfl:=CF ry;obtain ⟨t',rfl⟩:=ru;obtain ⟨t,rfl⟩:=rv;exact RcNeAt.int_int _ _ _ _
  ·obtain rfl:=CG rx;obtain rfl:=CG ry;obtain ⟨t',rfl⟩:=ru;obtain ⟨t,rfl⟩:=rv;exact RcNeAt.str_str _ _ _ _
  ·obtain rfl:=FW rx;obtain rfl:=FW ry;cases ru;cases rv;exact RcNeAt.bool_bool _ _
  ·obtain rfl:=Ha rx;obtain rfl:=Ha ry;cases ru;cases rv;exact RcNeAt.none_none
  ·obtain rfl:=CF rx;obtain rfl:=CG ry;obtain ⟨t',rfl⟩:=ru;obtain ⟨t,rfl⟩:=rv;exact RcNeAt.int_str _ _ _ _
  ·obtain rfl:=CG rx;obtain rfl:=CF ry;obtain ⟨t',rfl⟩:=ru;obtain ⟨t,rfl⟩:=rv;exact RcNeAt.str_int _ _ _ _
 ·obtain ⟨p,vs,rfl,g1,g2,g3⟩:=E7 rx
  obtain ⟨q,ws,rfl,h1,h2,h3⟩:=E7 ry
  ·cases ru
   cases rv
   obtain ⟨is,r1,l1⟩:=Gf hok g1
   obtain ⟨js,r2,l2⟩:=Gf hok h1
   have hs1:is.toArray.size=ds.length:=by rw [←g3.length,r1.length];simp
   have hs2:js.toArray.size=es.length:=by rw [←h3.length,r2.length];simp
   by_cases hl:ds.length=es.length
   ·rw [if_pos hl] at e0
    have hsz:is.toArray.size=js.toArray.size:=by rw [hs1,hs2,hl]
    have rc:=RcNeAt.lists l1 l2 hsz hu0 (items hm r1 r2 g3 h3 e0)
    rw [show (List.range is.toArray.size).all (ej (eqN m) ds es)=b by rw [(Dv e0).1,hs1,←hl,Nat.min_self]] at rc
    exact rc
   ·rw [if_neg hl] at e0
    cases e0
    exact RcNeAt.lists_lengths l1 l2 (by rw [hs1,hs2];simpa using hl) hu0
 ·obtain ⟨p,vs,rfl,g1,g2,g3⟩:=E8 rx
  obtain ⟨q,ws,rfl,h1,h2,h3⟩:=E8 ry
  ·cases ru
   cases rv
   obtain ⟨is,r1,l1⟩:=G7 hok g1
   obtain ⟨js,r2,l2⟩:=G7 hok h1
   have hs1:is.toArray.size=ds.length:=by rw [←g3.length,r1.length];simp
   have hs2:js.toArray.size=es.length:=by rw [←h3.length,r2.length];simp
   have rc:=RcNeAt.tuples l1 l2 hu0 (items hm r1 r2 g3 h3 e1)
   have eb:((List.range (min is.toArray.size js.toArray.size)).all (ej (eqN m) ds es) && is.toArray.size == js.toArray.size)=b:=by rw [hs1,hs2,←(Dv e1).1];exact e2
   rw [eb] at rc
   exact rc
def EQD:Nat:=40
def neD (x y:D):M D:=fun t=>(eqN EQD x y).map fun b=>(.bl (!b),t)
def Pq (K:PySem.W.Frag) (g:Bool→Bool):R2:=fun x y H Q=>∃c dx dy b,Rep K c H x dx∧Rep K c H y dy∧eqN EQD dx dy=some b∧Q (.bl (g b)) H
theorem Bn {X:Cx} (hu:X.A.units + 64 < cLine):OpR X (compareOp .Eq) (Pq X.K id):=by
 intro pins s σ H x y v u Q I rx ry h
 obtain ⟨c,dx,dy,b,q1,q2,e,q⟩:=h
 have hu':X.A.units + EQD < cLine:=by unfold EQD;lia
 exact (Jb I.hok EQD rx ry q1 q2 e hu').1 X.prog X.w _ _ ⟨.bl b,H,I,rfl,q⟩
theorem Fm {X:Cx} (hu:X.A.units + 64 < cLine):OpR X (compareOp .NotEq) (Pq X.K (!·)):=by
 intro pins s σ H x y v u Q I rx ry h
 obtain ⟨c,dx,dy,b,q1,q2,e,q⟩:=h
 have hu':X.A.units + EQD < cLine:=by unfold EQD;lia
 exact Q4 I.hok EQD rx ry q1 q2 e hu' X.prog X.w _ _ ⟨.bl (!b),H,I,rfl,q⟩
end F2
set_option maxHeartbeats 4000000
namespace F2
open PySem L2 PySem.Spec
section
variable {K:PySem.W.Frag}
def i2 (g:Int→Int→D):D→D→M D
 | .int i,.int j=>ret (g i j)
 | _,_=>fail
theorem SA {g:Int→Int→D} {x y:D} {t:T} {z:D×T} (h:i2 g x y t=some z):∃i j,x = .int i∧y = .int j∧z=(g i j,t):=by
 cases x with
 | int i=>cases y with
   | int j=>cases h;exact ⟨i,j,rfl,rfl,rfl⟩
   | _=>cases h
 | _=>cases h
theorem TC {gV:Int→Int→V} {g:Int→Int→D} (hr:∀i j c H,Rep K c H (gV i j) (g i j)):BO K (rI0 gV) (i2 g):=fun {Oo c t σ H x y dx dy r t' Q} f rx ry eq k=>by
 obtain ⟨i,j,rfl,rfl,z⟩:=SA eq
 cases z
 cases rx
 cases ry
 exact ⟨i,j,rfl,rfl,k _ H c f .refl (hr i j c H)⟩
def i2C (C:Int→Int→Bool) (g:Int→Int→D):D→D→M D
 | .int i,.int j=>fun t=>if C i j=true then some (g i j,t) else none
 | _,_=>fail
theorem QU {C:Int→Int→Bool} {g:Int→Int→D} {x y:D} {t:T} {z:D×T} (h:i2C C g x y t=some z):∃i j,x = .int i∧y = .int j∧C i j=true∧z=(g i j,t):=by
 cases x with
 | int i=>cases y with
   | int j=>
     unfold i2C at h
     dsimp only at h
     by_cases hc:C i j=true
     ·rw [if_pos hc] at h;cases h;exact ⟨i,j,rfl,rfl,hc,rfl⟩
     ·rw [if_neg hc] at h;cases h
   | _=>cases h
 | _=>cases h
theorem He {P:Int→Int→Prop} {C:Int→Int→Bool} {gV:Int→Int→V} {g:Int→Int→D} (hP:∀i j,C i j=true→P i j) (hr:∀i j c H,Rep K c H (gV i j) (g i j)):BO K (rI P gV) (i2C C g):=fun {Oo c t σ H x y dx dy r t' Q} f rx ry eq k=>by
 obtain ⟨i,j,rfl,rfl,hc,z⟩:=QU eq
 cases z
 cases rx
 cases ry
 exact ⟨i,j,rfl,rfl,hP i j hc,k _ H c f .refl (hr i j c H)⟩
def BU:=i2 fun i j=>.int (i - j)
def Kt (_ j:Int):Bool:=decide (0 < j) && decide (j < 1073741824)
def Do:=i2C Kt fun i j=>.int (i / j)
def Dl:=i2C (fun _ j=>decide (0 < j)) fun i j=>.int (i % j)
def Kv (i j:Int):Bool:=decide (0≤j) && decide (j≤1000000) && decide (i.natAbs < 2 ^ 64)
def DL:=i2C Kv fun i j=>.int (i ^ j.toNat)
def E3 (i j:Int):Bool:=(decide (-(2 ^ 64) < i) && decide (i < 2 ^ 64)) || (decide (-(2 ^ 64) < j) && decide (j < 2 ^ 64))
def Nm:=i2C (fun _ j=>decide (0≤j)) fun i j=>.int (i / 2 ^ j.toNat)
theorem Bt:BO K (rI0 fun i j=>.int (i - j)) BU:=TC fun i j _ _=>.int _
theorem CM:BO K (rI R6 fun i j=>.int (i / j)) Do:=He (fun i j h=>by
 unfold Kt at h;rw [Bool.and_eq_true] at h;exact ⟨of_decide_eq_true h.1,of_decide_eq_true h.2⟩) fun i j _ _=>.int _
theorem Cn:BO K (rI (fun _ j=>0 < j) fun i j=>.int (i % j)) Dl:=He (fun i j h=>of_decide_eq_true h) fun i j _ _=>.int _
theorem Co:BO K (rI R7 fun i j=>.int (i ^ j.toNat)) DL:=He (fun i j h=>by
 unfold Kv at h;rw [Bool.and_eq_true,Bool.and_eq_true] at h;exact ⟨of_decide_eq_true h.1.1,of_decide_eq_true h.1.2,of_decide_eq_true h.2⟩) fun i j _ _=>.int _
theorem Ry:BO K (rI (fun _ j=>0≤j) fun i j=>.int (i / 2 ^ j.toNat)) Nm:=He (fun i j h=>of_decide_eq_true h) fun i j _ _=>.int _
theorem Od {i j:Int} (h:E3 i j=true):CMul i j:=by
 unfold E3 at h
 rw [Bool.or_eq_true,Bool.and_eq_true,Bool.and_eq_true] at h
 rcases h with h | h
 ·exact .inl ⟨of_decide_eq_true h.1,of_decide_eq_true h.2⟩
 ·exact .inr ⟨of_decide_eq_true h.1,of_decide_eq_true h.2⟩
def M6:D→M D
 | .int i=>ret (.int (-i))
 | _=>fail
theorem Rw:Sb K (rU fun i=>.int (-i)) M6:=fun {Oo c t σ H x dx r t' Q} f rx eq k=>by
 cases rx with
 | int i=>cases eq;exact ⟨i,rfl,k _ H c f .refl (.int _)⟩
 | _=>cases eq
def OO:D→D→M D
 | .int i,.int j=>ret (.int (i + j))
 | .str x,.str y=>lim (x.length + y.length) (.str (x++y))
 | .lst xs,.lst ys=>lim (xs.length + ys.length) (.lst (xs++ys))
 | .tup xs,.tup ys=>fun t=>if xs.isEmpty=false∧xs.length + ys.length≤LIM then some (.tup (xs++ys),t) else none
 | _,_=>fail
def Rr:R2:=fun x y H Q=>∃i j,x = .str i∧y = .str j∧i.length + j.length≤sizeLine∧Q (.str (i++j)) H
def Ng (K:PySem.W.Frag):R2:=fun x y H Q=>rI0 (fun i j=>.int (i + j)) x y H Q∨(Rr x y H Q∨(Pp x y H Q∨Qk K x y H Q))
theorem op_add4 {X:Cx}:OpR X (binaryOp .Add) (Ng X.K):=op_add.or (op_add_str.or (op_cat.or Ra))
theorem Rt:BO K (Ng K) OO:=fun {Oo c t σ H x y dx dy r t' Q} f rx ry eq k=>by
 cases rx with
 | int i=>
   cases ry with
   | int j=>cases eq;exact .inl ⟨i,j,rfl,rfl,k _ H c f .refl (.int _)⟩
   | _=>cases eq
 | str i=>
   cases ry with
   | str j=>
     obtain ⟨h,z⟩:=D3 eq
     cases z
     exact .inr (.inl ⟨i,j,rfl,rfl,Nat.le_trans h Cq,k _ H c f .refl (.str _)⟩)
   | _=>cases eq
 | @lst a vs ds h1 h2 h3=>
   cases ry with
   | @lst b ws es g1 g2 g3=>
     obtain ⟨h,z⟩:=D3 eq
     cases z
     refine .inr (.inr (.inl ⟨a,b,vs,ws,rfl,rfl,h1,g1,?_,fun p hp=>?_⟩))
     ·rw [h3.length,g3.length];exact Nat.le_trans h Cq
     ·exact k _ _ c (f.laid hp) (f.stp_laid hp) (.lst AJ (f.s.free hp) ((h3.append g3).mono (Ext.laid f.s hp)))
   | _=>cases eq
 | @tup a vs ds h1 h2 h3=>
   cases ry with
   | @tup b ws es g1 g2 g3=>
     unfold OO at eq
     dsimp only at eq
     split at eq
     ·next h=>
      cases eq
      have hne:vs≠[]:=fun z=>by
       have:=h3.length
       rw [z] at this
       have h0:ds.length=0:=this.symm
       have:ds=[]:=List.length_eq_zero_iff.mp h0
       rw [this] at h
       simp at h
      refine .inr (.inr (.inr ⟨a,b,vs,ws,rfl,rfl,SqT.of h1,SqT.of g1,hne,?_,fun z=>?_,fun z p hp=>?_⟩))
      ·rw [h3.length,g3.length];exact Nat.le_trans h.2 Cq
      ·subst z
       have:es=[]:=List.length_eq_zero_iff.mp g3.length.symm
       subst this
       rw [List.append_nil] at k
       exact k _ H c f .refl (.tup h1 h2 h3)
      ·exact k _ _ c (f.laid hp) (f.stp_laid hp) (.tup AJ (f.s.free hp) ((h3.append g3).mono (Ext.laid f.s hp)))
     ·cases eq
   | _=>cases eq
 | _=>cases eq
def KS:D→D→M (List D)
 | .lst xs,.lst ys=>lim (xs.length + ys.length) (xs++ys)
 | _,_=>fail
theorem Px:MK K Pp KS:=fun {Oo c t σ H x y dx dy r t' Q} f rx ry eq k=>by
 cases rx with
 | @lst a vs ds h1 h2 h3=>
   cases ry with
   | @lst b ws es g1 g2 g3=>
     obtain ⟨h,z⟩:=D3 eq
     cases z
     refine ⟨a,b,vs,ws,rfl,rfl,h1,g1,?_,fun p hp=>k p _ H c f .refl (h3.append g3) hp⟩
     rw [h3.length,g3.length];exact Nat.le_trans h Cq
   | _=>cases eq
 | _=>cases eq
def isC:D→D→M D
 | x,.non=>fun t=>some (.bl (match x with | .non=>true | _=>false),t)
 | x,.bl b=>fun t=>some (.bl (match x with | .bl c=>c == b | _=>false),t)
 | _,_=>fail
def GK (x y:D):M D:=bnd (isC x y) fun d=>match d with | .bl b=>ret (.bl (!b)) | _=>fail
def rIs (g:Bool→Bool):R2:=fun x y H Q=>(y = .non∨∃b,y = .bl b)∧Q (.bl (g (decide (x=y)))) H
theorem Mf {x y:V} {v u:Value} (rx:RelV x v) (ry:RelV y u) (hy:y = .non∨∃b,y = .bl b):plainIs v u=true∧(v == u)=decide (x=y):=by
 rcases hy with rfl | ⟨b,rfl⟩
 ·cases ry
  cases x with
  | non=>cases rx;exact ⟨rfl,by simp⟩
  | bl _=>cases rx;exact ⟨rfl,by simp⟩
  | int _=>obtain ⟨t,rfl⟩:=rx;exact ⟨rfl,by simp⟩
  | str _=>obtain ⟨t,rfl⟩:=rx;exact ⟨rfl,by simp⟩
  | byt _=>obtain ⟨t,rfl⟩:=rx;exact ⟨rfl,by simp⟩
  | flt _=>obtain ⟨t,rfl⟩:=rx;exact ⟨rfl,by simp⟩
  | ref _=>cases rx;exact ⟨rfl,by simp⟩
  | ty _=>cases rx;exact ⟨rfl,by simp⟩
 ·cases ry
  cases x with
  | non=>cases rx;exact ⟨rfl,by simp⟩
  | bl c=>cases rx;exact ⟨rfl,by simp;cases c <;> cases b <;> rfl⟩
  | int _=>obtain ⟨t,rfl⟩:=rx;exact ⟨rfl,by simp⟩
  | str _=>obtain ⟨t,rfl⟩:=rx;exact ⟨rfl,by simp⟩
  | byt _=>obtain ⟨t,rfl⟩:=rx;exact ⟨rfl,by simp⟩
  | flt _=>obtain ⟨t,rfl⟩:=rx;exact ⟨rfl,by simp⟩
  | ref _=>cases rx;exact ⟨rfl,by simp⟩
  | ty _=>cases rx;exact ⟨rfl,by simp⟩
theorem Og {X:Cx}:OpR X (compareOp .Is) (rIs id):=by
 intro pins s σ H x y v u Q I rx ry h
 obtain ⟨hy,q⟩:=h
 obtain ⟨h1,h2⟩:=Mf rx ry hy
 exact wpAny_is_plain h1 ⟨.bl _,H,I,by rw [h2];rfl,q⟩
theorem Oh {X:Cx}:OpR X (compareOp .IsNot) (rIs (!·)):=by
 intro pins s σ H x y v u Q I rx ry h
 obtain ⟨hy,q⟩:=h
 obtain ⟨h1,h2⟩:=Mf rx ry hy
 exact wpAny_isNot_plain h1 ⟨.bl _,H,I,by rw [h2];rfl,q⟩
theorem Mo {c:Cf} {H:Hp} {x y:V} {dx dy:D} {t:T} {z:D×T} (rx:Rep K c H x dx) (ry:Rep K c H y dy) (eq:isC dx dy t=some z):(y = .non∨∃b,y = .bl b)∧z=(.bl (decide (x=y)),t):=by
 cases ry with
 | non=>
   refine ⟨.inl rfl,?_⟩
   cases rx <;> (cases eq;first | rfl | simp)
 | bl b=>
   refine ⟨.inr ⟨b,rfl⟩,?_⟩
   cases rx <;> (cases eq;first | rfl | simp)
   next a=>cases a <;> cases b <;> rfl
 | _=>cases eq
theorem Ov:BO K (rIs id) isC:=fun {Oo c t σ H x y dx dy r t' Q} f rx ry eq k=>by
 obtain ⟨h,z⟩:=Mo rx ry eq
 cases z
 exact ⟨h,k _ H c f .refl (.bl _)⟩
theorem Ow:BO K (rIs (!·)) GK:=fun {Oo c t σ H x y dx dy r t' Q} f rx ry eq k=>by
 obtain ⟨d,t1,e1,eq⟩:=Ap eq
 obtain ⟨h,z⟩:=Mo rx ry e1
 cases z
 cases eq
 exact ⟨h,k _ H c f .refl (.bl _)⟩
def Gc:D→Bool
 | .non=>true | .bl _=>true | .int _=>true | .str _=>true | _=>false
def Nl:D→Option (List D)
 | .lst ds=>some ds
 | .tup ds=>some ds
 | _=>none
def toV:D→V
 | .bl b=>.bl b | .int i=>.int i | .str x=>.str x | _=>.non
theorem FY {c:Cf} {H:Hp} {v:V} {d:D} (r:Rep K c H v d) (h:Gc d=true):v=toV d:=by cases r <;> first | rfl | cases h
theorem Fo {c:Cf} {H:Hp}:∀{vs:List V} {ds:List D},Reps K c H vs ds→ds.all Gc=true→vs=ds.map toV
 | _,_,.nil,_=>rfl
 | _,_,.cons r t,h=>by
   rw [List.all_cons,Bool.and_eq_true] at h
   rw [List.map_cons,FY r h.1,Fo t h.2]
theorem Gd:∀d:D,EZ (toV d)=true:=fun d=>by cases d <;> rfl
def inD (neg:Bool) (x y:D):M D:=fun t=>match Nl y with
 | some ds=>if Gc x=true∧ds.all Gc=true then some (.bl (if neg then !inV (toV x) (ds.map toV) else inV (toV x) (ds.map toV)),t) else none
 | none=>none
theorem TD {neg:Bool}:BO K (rIn K neg) (inD neg):=fun {Oo c t σ H x y dx dy r t' Q} f rx ry eq k=>by
 unfold inD at eq
 cases ry with
 | @lst a vs ds h1 h2 h3=>
   dsimp only [Nl] at eq
   split at eq
   ·next h=>
    cases eq
    refine ⟨a,vs,rfl,.inl (SqL.of h1),?_,?_,?_⟩
    ·rw [FY rx h.1];exact Gd _
    ·rw [Fo h3 h.2,List.all_map,List.all_eq_true];exact fun d _=>Gd d
    ·rw [FY rx h.1,Fo h3 h.2];exact k _ H c f .refl (.bl _)
   ·cases eq
 | @tup a vs ds h1 h2 h3=>
   dsimp only [Nl] at eq
   split at eq
   ·next h=>
    cases eq
    refine ⟨a,vs,rfl,.inr (SqT.of h1),?_,?_,?_⟩
    ·rw [FY rx h.1];exact Gd _
    ·rw [Fo h3 h.2,List.all_map,List.all_eq_true];exact fun d _=>Gd d
    ·rw [FY rx h.1,Fo h3 h.2];exact k _ H c f .refl (.bl _)
   ·cases eq
 | _=>cases eq
def ixD:D→D→M D
 | .lst ds,.int i=>fun t=>(atI ds i).map fun d=>(d,t)
 | .tup ds,.int i=>fun t=>(atI ds i).map fun d=>(d,t)
 | .scr ns,.int i=>fun t=>(atI ns i).map fun n=>(.int n,t)
 | .str x,.int i=>fun t=>if x.length≤LIM then (atI x.cps.toList i).map fun n=>(.str ⟨#[n]⟩,t) else none
 | .obj k,.int i=>fun t=>match t.S[k]? with
   | some (.lst ds)=>(atI ds i).map fun d=>(d,t)
   | _=>none
 | _,_=>fail
theorem F7 {c:Cf} {H:Hp} {vs:List V} {ds:List D} {i:Int} {d:D} (r:Reps K c H vs ds) (h:atI ds i=some d):∃v,atI vs i=some v∧Rep K c H v d:=by
 unfold atI at h ⊢
 obtain ⟨j,h1,h2⟩:=Option.bind_eq_some_iff.mp h
 obtain ⟨v,h3,h4⟩:=r.at h2
 exact ⟨v,by rw [r.length,h1];exact h3,h4⟩
theorem QB {α β:Type} (g:α→β) (xs:List α) (i:Int):atI (xs.map g) i=(atI xs i).map g:=by
 unfold atI
 rw [List.length_map]
 cases ixN xs.length i with
 | none=>rfl
 | some j=>simp
theorem SC {dx dy r:D} {t t':T} (eq:ixD dx dy t=some (r,t')):∃i,dy = .int i∧((∃ds,dx = .lst ds)∨(∃ds,dx = .tup ds)∨(∃ns,dx = .scr ns)∨(∃z,dx = .str z)∨∃k,dx = .obj k):=by
 unfold ixD at eq
 split at eq
 ·exact ⟨_,rfl,.inl ⟨_,rfl⟩⟩
 ·exact ⟨_,rfl,.inr (.inl ⟨_,rfl⟩)⟩
 ·exact ⟨_,rfl,.inr (.inr (.inl ⟨_,rfl⟩))⟩
 ·exact ⟨_,rfl,.inr (.inr (.inr (.inl ⟨_,rfl⟩)))⟩
 ·exact ⟨_,rfl,.inr (.inr (.inr (.inr ⟨_,rfl⟩)))⟩
 ·cases eq
theorem Al:BO K (rIx K) ixD:=fun {Oo c t σ H x y dx dy r t' Q} f rx ry eq k=>by
 obtain ⟨i,rfl,hd⟩:=SC eq
 cases ry
 rcases hd with ⟨ds,rfl⟩ | ⟨ds,rfl⟩ | ⟨ns,rfl⟩ | ⟨z,rfl⟩ | ⟨kk,rfl⟩
 ·cases rx with
  | @lst a vs _ h1 h2 h3=>
    obtain ⟨d,e1,e2⟩:=Option.map_eq_some_iff.mp eq
    cases e2
    obtain ⟨v,e3,e4⟩:=F7 h3 e1
    exact .inl ⟨a,vs,i,v,rfl,rfl,SqL.of h1,e3,k _ H c f .refl e4⟩
 ·cases rx with
  | @tup a vs _ h1 h2 h3=>
    obtain ⟨d,e1,e2⟩:=Option.map_eq_some_iff.mp eq
    cases e2
    obtain ⟨v,e3,e4⟩:=F7 h3 e1
    exact .inr (.inl ⟨a,vs,i,v,rfl,rfl,SqT.of h1,e3,k _ H c f .refl e4⟩)
 ·cases rx with
  | @scr a _ h1=>
    obtain ⟨n,e1,e2⟩:=Option.map_eq_some_iff.mp eq
    cases e2
    exact .inl ⟨a,_,i,.int n,rfl,rfl,h1.sq,by rw [QB,e1];rfl,k _ H c f .refl (.int n)⟩
 ·cases rx
  unfold ixD at eq
  dsimp only at eq
  split at eq
  ·next hl=>
   obtain ⟨n,e1,e2⟩:=Option.map_eq_some_iff.mp eq
   cases e2
   exact .inr (.inr ⟨z,i,n,rfl,rfl,Nat.le_trans hl Cq,e1,k _ H c f .refl (.str _)⟩)
  ·cases eq
 ·cases rx with
  | @obj a _ h1=>
    unfold ixD at eq
    dsimp only at eq
    cases es:t.S[kk]? with
    | none=>rw [es] at eq;cases eq
    | some o=>
      rw [es] at eq
      cases o with
      | dct _=>cases eq
      | lst ds=>
        obtain ⟨d,e1,e2⟩:=Option.map_eq_some_iff.mp eq
        cases e2
        obtain ⟨vs,g1,g2⟩:=f.s.obs kk a _ h1 es
        obtain ⟨v,e3,e4⟩:=F7 g2 e1
        exact .inl ⟨a,vs,i,v,rfl,rfl,SqL.of g1,e3,k _ H c f .refl e4⟩
end
section
variable {X:Cx} {e a b:Expr} {es:List Expr} {pos:Pos}
def RO (K:PySem.W.Frag) (f:M (Option Int)):TO:=fun σ H Q=>∃Oo c t,FInv K Oo c t σ H∧∃r t',f t=some (r,t')∧∀H' c',FInv K Oo c' t' σ H'→Stp Oo c H c' H'→Q r H'
theorem NA {oe:Option Expr} {t t':TO} (h:PO X oe t) (i:∀σ H Q,t' σ H Q→t σ H Q):PO X oe t':=fun pins s σ H Q I q=>h pins s σ H Q I (i σ H Q q)
def fNo:M (Option Int):=ret none
def asI:D→M (Option Int)
 | .int i=>ret (some i)
 | _=>fail
def Ci (f:M D):M (Option Int):=bnd f asI
theorem CT:PO X none (RO X.K fNo):=NA Rl fun σ H Q ⟨Oo,c,t,fi,r,t',eq,k⟩=>by
 cases eq
 exact k H c fi .refl
theorem B5 {f:M D} (h:PE X e (RE X.K f)):PO X (some e) (RO X.K (Ci f)):=NA (Rm h) fun σ H Q ⟨Oo,c,t,fi,r,t',eq,k⟩=>by
 obtain ⟨d,t1,e1,eq⟩:=Ap eq
 refine ⟨Oo,c,t,fi,d,t1,e1,fun v H1 c1 f1 s1 rv=>?_⟩
 cases rv with
 | int i=>cases eq;exact ⟨i,rfl,k H1 c1 f1 s1⟩
 | _=>cases eq
def OK (K:PySem.W.Frag) (R:V→Option Int→Option Int→Hp→VK→Prop) (h:D→Option Int→Option Int→M D):Prop:=∀{Oo:Addr→Prop} {c:Cf} {t:T} {σ:L2.St} {H:Hp} {x:V} {dx r:D} {lo hi:Option Int} {t':T} {Q:VK},FInv K Oo c t σ H→Rep K c H x dx→h dx lo hi t=some (r,t')→
 (∀v H' c',FInv K Oo c' t' σ H'→Stp Oo c H c' H'→Rep K c' H' v r→Q v H')→R x lo hi H Q
def fSl (f:M D) (l u:M (Option Int)) (h:D→Option Int→Option Int→M D):M D:=bnd f fun x=>bnd l fun lo=>bnd u fun hi=>h x lo hi
theorem B4 {R:V→Option Int→Option Int→Hp→VK→Prop} {h:D→Option Int→Option Int→M D} {f:M D} {l u:M (Option Int)} {lo hi:Option Expr} {p2:Pos} (hr:SlR X R) (s:OK X.K R h) (he:PE X e (RE X.K f)) (hl:PO X lo (RO X.K l)) (hu:PO X hi (RO X.K u)):PE X (.Subscript e (.Slice lo hi none p2) pos) (RE X.K (fSl f l u h)):=
 Bu (Pk hr he hl hu) fun σ H Q ⟨Oo,c,t,fi,r,t',eq,k⟩=>by
  obtain ⟨d,t1,e1,eq⟩:=Ap eq
  obtain ⟨ol,t2,e2,eq⟩:=Ap eq
  obtain ⟨oh,t3,e3,eq⟩:=Ap eq
  exact ⟨Oo,c,t,fi,d,t1,e1,fun v H1 c1 f1 s1 rv=>⟨Oo,c1,t1,f1,ol,t2,e2,fun H2 c2 f2 s2=>⟨Oo,c2,t2,f2,oh,t3,e3,fun H3 c3 f3 s3=>
   s f3 (rv.mono (s2.trans s3).ext) eq fun v H' c' f' s' rv'=>k v H' c' f' (((s1.trans s2).trans s3).trans s') rv'⟩⟩⟩
def BG {α:Type} (xs:List α) (lo hi:Option Int):List α:=(xs.drop (HT.sIx xs.length 0 lo)).take (HT.sIx xs.length xs.length hi - HT.sIx xs.length 0 lo)
def slD:D→Option Int→Option Int→M D
 | .lst ds,lo,hi=>ret (.lst (BG ds lo hi))
 | .scr ns,lo,hi=>ret (.lst ((BG ns lo hi).map .int))
 | .tup ds,lo,hi=>fun t=>if HT.sIx ds.length 0 lo=0∧HT.sIx ds.length ds.length hi=ds.length then none else some (.tup (BG ds lo hi),t)
 | _,_,_=>fail
theorem HL {K:PySem.W.Frag} {c:Cf} {H:Hp} {vs:List V} {ds:List D} (r:Reps K c H vs ds) (lo hi:Option Int):Reps K c H (F8 vs lo hi) (BG ds lo hi):=by
 unfold F8 BG
 rw [r.length]
 exact (r.drop _).take _
theorem OU {α β:Type} (g:α→β) (xs:List α) (lo hi:Option Int):BG (xs.map g) lo hi=(BG xs lo hi).map g:=by
 unfold BG
 rw [List.length_map,List.map_take,List.map_drop]
theorem NM (ns:List Int) (lo hi:Option Int):F8 (ns.map V.int) lo hi=(BG ns lo hi).map V.int:=OU V.int ns lo hi
def Ps (K:PySem.W.Frag):V→Option Int→Option Int→Hp→VK→Prop:=fun x lo hi H Q=>Tr K x lo hi H Q∨Tt K x lo hi H Q
theorem sl2:SlR X (Ps X.K):=sl_list.or TJ
theorem TF {K:PySem.W.Frag}:OK K (Ps K) slD:=fun {Oo c t σ H x dx r lo hi t' Q} f rx eq k=>by
 cases rx with
 | @lst p vs ds h1 h2 h3=>
   cases eq
   exact .inl ⟨p,vs,rfl,SqL.of h1,fun q hq=>k _ _ c (f.laid hq) (f.stp_laid hq) (.lst AJ (f.s.free hq) ((HL h3 lo hi).mono (Ext.laid f.s hq)))⟩
 | @scr p ns h1=>
   cases eq
   refine .inl ⟨p,_,rfl,h1.sq,fun q hq=>k _ _ c (f.laid hq) (f.stp_laid hq) (.lst AJ (f.s.free hq) ?_)⟩
   rw [NM]
   exact Reps.ints _
 | @tup p vs ds h1 h2 h3=>
   unfold slD at eq
   dsimp only at eq
   split at eq
   ·cases eq
   ·next hn=>
    cases eq
    exact .inr ⟨p,vs,rfl,SqT.of h1,by rw [h3.length];exact hn,fun q hq=>k _ _ c (f.laid hq) (f.stp_laid hq) (.tup AJ (f.s.free hq) ((HL h3 lo hi).mono (Ext.laid f.s hq)))⟩
 | _=>cases eq
theorem Vw {id:String} {R:List V→Hp→VK→Prop} {h:List D→M D} {f:M (List D)} {x:Str} {p:Pos} (hc:B2 X (.builtin id) R) (s:DJ X.K R h) (hg:Gl X x) (hm:X.mg x=none) (hv:bootBuiltins x=some (.builtin id)) (ha:PA X (e :: es) (RA X.K f)) (hn:x≠"__name__":=by decide) (hdb:(x == ("__debug__" : Str))=false:=by decide)
 (he:starEach (e :: es) X.env=(false,eval e X.env) :: starEach es X.env:=by rfl) (hpl:(backTo pos (starEach es X.env)).any (·.1)=false:=by rfl):PE X (.Call (.Name x p) (e :: es) [] pos) (RE X.K (fB f h)):=
 Bu (Gm hc hg hm hv ha hn hdb he hpl) fun _ _ _ q=>RE.callB s q
theorem Vx {id:String} {R:List V→Hp→VK→Prop} {h:List D→M D} {f:M (List D)} {x:Str} {p:Pos} (hc:B2 X (.type id) R) (s:DJ X.K R h) (hg:Gl X x) (hm:X.mg x=none) (hv:bootBuiltins x=some (.type id)) (ha:PA X (e :: es) (RA X.K f)) (hn:x≠"__name__":=by decide) (hdb:(x == ("__debug__" : Str))=false:=by decide)
 (he:starEach (e :: es) X.env=(false,eval e X.env) :: starEach es X.env:=by rfl) (hpl:(backTo pos (starEach es X.env)).any (·.1)=false:=by rfl):PE X (.Call (.Name x p) (e :: es) [] pos) (RE X.K (fB f h)):=
 Bu (J2 hc hg hm hv ha hn hdb he hpl) fun _ _ _ q=>RE.callB s q
theorem Vy {id:String} {R:List V→Hp→VK→Prop} {h:List D→M (List D)} {f:M (List D)} {x:Str} {p:Pos} (hc:B2 X (.type id) R) (s:Kq X.K R h) (hg:Gl X x) (hm:X.mg x=none) (hv:bootBuiltins x=some (.type id)) (ha:PA X (e :: es) (RA X.K f)) (hn:x≠"__name__":=by decide) (hdb:(x == ("__debug__" : Str))=false:=by decide)
 (he:starEach (e :: es) X.env=(false,eval e X.env) :: starEach es X.env:=by rfl) (hpl:(backTo pos (starEach es X.env)).any (·.1)=false:=by rfl):PE X (.Call (.Name x p) (e :: es) [] pos) (RF X.K (fBF f h)):=
 Bu (J2 hc hg hm hv ha hn hdb he hpl) fun _ _ _ q=>RF.callB s q
theorem Ue {op:Operator} {R:R2} {f g:M D} {h:D→D→M (List D)} (ho:OpR X (binaryOp op) R) (s:MK X.K R h) (ha:PE X a (RE X.K f)) (hb:PE X b (RE X.K g)):PE X (.BinOp a op b pos) (RF X.K (bnd f fun x=>bnd g fun y=>h x y)):=
 Bu (Nd ho ha hb) fun _ _ _ q=>RF.two s q
end
section
variable {K:PySem.W.Frag}
theorem DZ {c:Cf} {H:Hp} {xs:List V} {d:D} (r:Reps K c H xs [d]):∃v,xs=[v]∧Rep K c H v d:=by
 cases r with
 | cons r rs=>cases rs;exact ⟨_,rfl,r⟩
theorem Kw {c:Cf} {H:Hp} {xs:List V} {d e:D} (r:Reps K c H xs [d,e]):∃v u,xs=[v,u]∧Rep K c H v d∧Rep K c H u e:=by
 cases r with
 | cons r rs=>
   obtain ⟨u,rfl,q⟩:=DZ rs
   exact ⟨_,u,rfl,r,q⟩
def BH:List D→M D
 | [.lst ds]=>ret (.int ds.length)
 | [.tup ds]=>ret (.int ds.length)
 | [.scr ns]=>ret (.int ns.length)
 | [.str x]=>lim x.length (.int x.length)
 | [.obj k]=>fun t=>match t.S[k]? with
   | some (.lst ds)=>some (.int ds.length,t)
   | _=>none
 | _=>fail
theorem BJ:DJ K (fun xs H Q=>∃x n,xs=[x]∧R8 K x H n∧Q (.int n) H) BH:=fun {Oo c t σ H xs ds r t' Q} f rx eq k=>by
 match ds,rx,eq with
 | [],_,eq=>cases eq
 | d0 :: _ :: _,_,eq=>cases d0 <;> cases eq
 | [d],rx,eq=>
   obtain ⟨v,rfl,rv⟩:=DZ rx
   cases rv with
   | @lst a vs ds h1 h2 h3=>cases eq;exact ⟨_,ds.length,rfl,.inl ⟨vs,SqL.of h1,h3.length.symm⟩,k _ H c f .refl (.int _)⟩
   | @tup a vs ds h1 h2 h3=>cases eq;exact ⟨_,ds.length,rfl,.inr ⟨vs,SqT.of h1,h3.length.symm⟩,k _ H c f .refl (.int _)⟩
   | @scr a ns h1=>cases eq;exact ⟨_,ns.length,rfl,.inl ⟨_,h1.sq,by simp⟩,k _ H c f .refl (.int _)⟩
   | str x=>
     obtain ⟨hl,z⟩:=D3 eq
     cases z
     exact ⟨_,x.length,rfl,⟨Nat.le_trans hl Cq,rfl⟩,k _ H c f .refl (.int _)⟩
   | @obj a kk h1=>
     unfold BH at eq
     dsimp only at eq
     cases es:t.S[kk]? with
     | none=>rw [es] at eq;cases eq
     | some o=>
       rw [es] at eq
       cases o with
       | dct _=>cases eq
       | lst ds=>
         cases eq
         obtain ⟨vs,g1,g2⟩:=f.s.obs kk a _ h1 es
         exact ⟨_,ds.length,rfl,.inl ⟨vs,SqL.of g1,g2.length.symm⟩,k _ H c f .refl (.int _)⟩
   | _=>cases eq
def tyD:D→Option String
 | .non=>some "NoneType"
 | .bl _=>some "bool"
 | .int _=>some "int"
 | .str _=>some "str"
 | .lst _=>some "list"
 | .tup _=>some "tuple"
 | .dic=>some "dict"
 | _=>none
def Jf (n m:String):Option Bool:=match m with
 | "int"=>some (n == "int" || n == "bool")
 | "bool"=>some (n == "bool")
 | "str"=>some (n == "str")
 | "list"=>some (n == "list")
 | "tuple"=>some (n == "tuple")
 | "dict"=>some (n == "dict")
 | _=>none
def C9:List D→M D
 | [d,.ty m]=>fun t=>match tyD d with
   | some n=>(Jf n m).map fun b=>(.bl b,t)
   | none=>none
 | _=>fail
theorem QW {d:D} {n m:String} {b:Bool} (h1:tyD d=some n) (h2:Jf n m=some b):PySem.W.kitOne K (.type n) (.type m)=some b:=by
 have hm:m = "int"∨m = "bool"∨m = "str"∨m = "list"∨m = "tuple"∨m = "dict":=by
  unfold Jf at h2
  split at h2 <;> simp_all
 have hn:n = "NoneType"∨n = "bool"∨n = "int"∨n = "str"∨n = "list"∨n = "tuple"∨n = "dict":=by
  cases d <;> simp [tyD] at h1 <;> simp [←h1]
 rcases hm with rfl | rfl | rfl | rfl | rfl | rfl <;> rcases hn with rfl | rfl | rfl | rfl | rfl | rfl | rfl <;> (cases h2;rfl)
def Tl (K:PySem.W.Frag):List V→Hp→VK→Prop:=fun xs H Q=>∃x n t b,xs=[x,.ty n]∧TyOf K H x t∧PySem.W.kitOne K t (.type n)=some b∧Q (.bl b) H
theorem Ce {X:Cx}:B2 X (.builtin "isinstance") (Tl X.K):=by
 intro pins s σ H xs us Q I r h
 obtain ⟨x,n,t,b,rfl,ty,e,q⟩:=h
 obtain ⟨u,w',rfl,rx,rt⟩:=Hh r
 cases rt
 exact JY I rx ty e fun tk=>⟨.bl b,H,I.tok tk,rfl,q⟩
theorem CH:DJ K (Tl K) C9:=fun {Oo c t σ H xs ds r t' Q} f rx eq k=>by
 unfold C9 at eq
 split at eq
 ·next d m=>
  obtain ⟨v,u,rfl,rv,ru⟩:=Kw rx
  cases ru
  cases et:tyD d with
  | none=>rw [et] at eq;cases eq
  | some n=>
    rw [et] at eq
    obtain ⟨b,e1,e2⟩:=Option.map_eq_some_iff.mp eq
    cases e2
    refine ⟨v,m,.type n,b,rfl,?_,QW et e1,k _ H c f .refl (.bl b)⟩
    cases rv <;> first | (cases et;first | exact .non | exact .bl _ | exact .int _ | exact .str _ | exact .lst ‹_› | exact .tup ‹_› | exact .dK ‹_›) | cases et
 ·cases eq
def JC:List D→M D
 | [.lst ds]=>ret (.tup ds)
 | [.tup ds]=>ret (.tup ds)
 | [.obj k]=>fun t=>match t.S[k]? with
   | some (.lst ds)=>some (.tup ds,t)
   | _=>none
 | _=>fail
theorem MH:DJ K (fun xs H Q=>∃p ys,xs=[.ref p]∧((SqL K H p ys∧∀l,H l=none→Q (.ref l) (upd H l (.tup ys)))∨(SqT K H p ys∧Q (.ref p) H))) JC:=fun {Oo c t σ H xs ds r t' Q} f rx eq k=>by
 match ds,rx,eq with
 | [],_,eq=>cases eq
 | d0 :: _ :: _,_,eq=>cases d0 <;> cases eq
 | [d],rx,eq=>
   obtain ⟨v,rfl,rv⟩:=DZ rx
   cases rv with
   | @lst a vs ds h1 h2 h3=>cases eq;exact ⟨a,vs,rfl,.inl ⟨SqL.of h1,fun q hq=>k _ _ c (f.laid hq) (f.stp_laid hq) (.tup AJ (f.s.free hq) (h3.mono (Ext.laid f.s hq)))⟩⟩
   | @tup a vs ds h1 h2 h3=>cases eq;exact ⟨a,vs,rfl,.inr ⟨SqT.of h1,k _ H c f .refl (.tup h1 h2 h3)⟩⟩
   | @obj a kk h1=>
     unfold JC at eq
     dsimp only at eq
     cases es:t.S[kk]? with
     | none=>rw [es] at eq;cases eq
     | some o=>
       rw [es] at eq
       cases o with
       | dct _=>cases eq
       | lst ds=>
         cases eq
         obtain ⟨vs,g1,g2⟩:=f.s.obs kk a _ h1 es
         exact ⟨a,vs,rfl,.inl ⟨SqL.of g1,fun q hq=>k _ _ c (f.laid hq) (f.stp_laid hq) (.tup AJ (f.s.free hq) (g2.mono (Ext.laid f.s hq)))⟩⟩
   | _=>cases eq
def Gj:List D→M (List D)
 | [.lst ds]=>ret ds
 | [.tup ds]=>ret ds
 | [.scr ns]=>ret (ns.map .int)
 | [.obj k]=>fun t=>match t.S[k]? with
   | some (.lst ds)=>some (ds,t)
   | _=>none
 | _=>fail
theorem Jy:Kq K (fun xs H Q=>∃p ys,xs=[.ref p]∧(SqL K H p ys∨SqT K H p ys)∧∀l,H l=none→Q (.ref l) (upd H l (.lst ys))) Gj:=fun {Oo c t σ H xs ds r t' Q} f rx eq k=>by
 match ds,rx,eq with
 | [],_,eq=>cases eq
 | d0 :: _ :: _,_,eq=>cases d0 <;> cases eq
 | [d],rx,eq=>
   obtain ⟨v,rfl,rv⟩:=DZ rx
   cases rv with
   | @lst a vs ds h1 h2 h3=>cases eq;exact ⟨a,vs,rfl,.inl (SqL.of h1),fun q hq=>k q vs H c f .refl h3 hq⟩
   | @tup a vs ds h1 h2 h3=>cases eq;exact ⟨a,vs,rfl,.inr (SqT.of h1),fun q hq=>k q vs H c f .refl h3 hq⟩
   | @scr a ns h1=>cases eq;exact ⟨a,_,rfl,.inl h1.sq,fun q hq=>k q _ H c f .refl (Reps.ints ns) hq⟩
   | @obj a kk h1=>
     unfold Gj at eq
     dsimp only at eq
     cases es:t.S[kk]? with
     | none=>rw [es] at eq;cases eq
     | some o=>
       rw [es] at eq
       cases o with
       | dct _=>cases eq
       | lst ds=>
         cases eq
         obtain ⟨vs,g1,g2⟩:=f.s.obs kk a _ h1 es
         exact ⟨a,vs,rfl,.inl (SqL.of g1),fun q hq=>k q vs H c f .refl g2 hq⟩
   | _=>cases eq
def Hz:List D→M D
 | [.int i]=>ret (.int i)
 | [.bl b]=>ret (.int (if b then 1 else 0))
 | _=>fail
theorem Jx:DJ K (fun xs H Q=>(∃i,xs=[.int i]∧Q (.int i) H)∨∃k,xs=[.bl k]∧Q (.int (if k then 1 else 0)) H) Hz:=fun {Oo c t σ H xs ds r t' Q} f rx eq k=>by
 match ds,rx,eq with
 | [],_,eq=>cases eq
 | d0 :: _ :: _,_,eq=>cases d0 <;> cases eq
 | [d],rx,eq=>
   obtain ⟨v,rfl,rv⟩:=DZ rx
   cases rv with
   | int i=>cases eq;exact .inl ⟨i,rfl,k _ H c f .refl (.int _)⟩
   | bl b=>cases eq;exact .inr ⟨b,rfl,k _ H c f .refl (.int _)⟩
   | _=>cases eq
def KG:List D→M D
 | [.int i]=>ret (.int (if i < 0 then -i else i))
 | _=>fail
theorem ME:DJ K (fun xs H Q=>∃i,xs=[.int i]∧Q (.int (if i < 0 then -i else i)) H) KG:=fun {Oo c t σ H xs ds r t' Q} f rx eq k=>by
 match ds,rx,eq with
 | [],_,eq=>cases eq
 | d0 :: _ :: _,_,eq=>cases d0 <;> cases eq
 | [d],rx,eq=>
   obtain ⟨v,rfl,rv⟩:=DZ rx
   cases rv with
   | int i=>cases eq;exact ⟨i,rfl,k _ H c f .refl (.int _)⟩
   | _=>cases eq
def Jj:List D→M D
 | [.int i,.int j]=>ret (.int (if j < i then j else i))
 | _=>fail
def HD:List D→M D
 | [.int i,.int j]=>ret (.int (if j > i then j else i))
 | _=>fail
theorem MG:DJ K (fun xs H Q=>∃i j,xs=[.int i,.int j]∧Q (.int (if j < i then j else i)) H) Jj:=fun {Oo c t σ H xs ds r t' Q} f rx eq k=>by
 unfold Jj at eq
 split at eq
 ·next i j=>
  obtain ⟨v,u,rfl,rv,ru⟩:=Kw rx
  cases rv;cases ru;cases eq
  exact ⟨i,j,rfl,k _ H c f .refl (.int _)⟩
 ·cases eq
theorem Jz:DJ K (fun xs H Q=>∃i j,xs=[.int i,.int j]∧Q (.int (if j > i then j else i)) H) HD:=fun {Oo c t σ H xs ds r t' Q} f rx eq k=>by
 unfold HD at eq
 split at eq
 ·next i j=>
  obtain ⟨v,u,rfl,rv,ru⟩:=Kw rx
  cases rv;cases ru;cases eq
  exact ⟨i,j,rfl,k _ H c f .refl (.int _)⟩
 ·cases eq
def Lm:List D→M D
 | [.str x]=>fun t=>if x.length=1 then some (.int (x.cps.getD 0 0:Nat),t) else none
 | _=>fail
theorem Rx:DJ K (fun xs H Q=>∃x,xs=[.str x]∧x.length=1∧Q (.int (x.cps.getD 0 0:Nat)) H) Lm:=fun {Oo c t σ H xs ds r t' Q} f rx eq k=>by
 match ds,rx,eq with
 | [],_,eq=>cases eq
 | d0 :: _ :: _,_,eq=>cases d0 <;> cases eq
 | [d],rx,eq=>
   obtain ⟨v,rfl,rv⟩:=DZ rx
   cases rv with
   | str x=>
     unfold Lm at eq
     dsimp only at eq
     split at eq
     ·next h=>cases eq;exact ⟨x,rfl,h,k _ H c f .refl (.int _)⟩
     ·cases eq
   | _=>cases eq
end
end F2
namespace L2
open PySem PySem.Spec PyProof.Rows
open AutoSeq1 (wpAny_loadPart')
def Qj (K:PySem.W.Frag):R2:=fun x y H Q=>∃a b ys,x = .ref a∧y = .ref b∧SqT K H a []∧SqT K H b ys∧Q (.ref b) H
theorem Q9 {X:Cx}:OpR X (binaryOp .Add) (Qj X.K):=by
 intro pins s σ H x y v u Q I rx ry h
 obtain ⟨a,b,ys,rfl,rfl,h1,h2,q⟩:=h
 cases rx
 cases ry
 obtain ⟨its,r,⟨⟨cls,dd,data,sl⟩,ho,hc,n,hd⟩,z⟩:=I.tuple h1
 obtain ⟨its2,r2,⟨⟨cls2,dd2,data2,sl2⟩,ho2,hc2,n2,hd2⟩,z2⟩:=I.tuple h2
 simp only at hc hd hc2 hd2
 subst hc hd hc2 hd2
 cases r
 exact concat_meets ⟨_,ho,rfl⟩ ⟨_,ho2,rfl⟩ noFill_tuple_add seq_tuple_add PySem.F.slot_tuple_add PySem.F.entry_tuple_add (PySem.F.args_tuple_add_2 _ _)
  (tuple_addW0 a b #[] its2.toArray n n2 dd dd2 sl sl2 rfl) ⟨ho,ho2,.ref b,H,I,rfl,q⟩
theorem HG:fillsNumberSlot (.type "tuple") "mul" = pure false:=
 PySem.fillsNumberSlot_seq (id:="tuple.__mul__") (r:=some (.builtin "tuple.__rmul__")) F.slot_tuple_mul.lookup (by decide +kernel) F.slot_tuple_rmul.lookup (by decide +kernel)
theorem Lw:seqRepeat? (.type "tuple")=pure (some (.builtin "tuple.__mul__")):=by
 unfold seqRepeat?
 rw [PySem.seqSlot_of (T:="tuple") (name:="__mul__") (id:="tuple.__mul__") F.slot_tuple_mul.lookup (by decide +kernel),PySem.seqSlot_of (T:="tuple") (name:="__rmul__") (id:="tuple.__rmul__") F.slot_tuple_rmul.lookup (by decide +kernel)]
 rfl
theorem Jr (a:Int) (t:Tok) (l:Addr) (items:Array Value) (n:Nat) (dd:Option Addr) (sl:Array (Option Value)) :
 Meets (Builtin.«int.__rmul__» ⟨[.int a t,.ref l],[]⟩) (fun _ R s=>s.heap.get? l=some { cls:=.type "tuple",dict:=dd,data:=.seq items n,slots:=sl }∧R (.ok (.ret Value.notImplemented)) s):=
 .of_wp fun prog w A R s h=>by obtain ⟨hp,g,d,tk,os⟩:=s;obtain ⟨hl,h⟩:=h;wp_walk;exact ⟨_,rfl,h⟩
theorem L8 (l:Addr) (items:Array Value) (n:Nat) (dd:Option Addr) (sl:Array (Option Value)) (x:Int) (u:Tok) (hc0:(decide (x < -(2 ^ 63)) || decide (x ≥ 2 ^ 63))=false) (hc1:(items.isEmpty || x == 1)=true) :
 Meets (Builtin.«tuple.__mul__» ⟨[.ref l,.int x u],[]⟩) (fun _ R s=>s.heap.get? l=some { cls:=.type "tuple",dict:=dd,data:=.seq items n,slots:=sl }∧R (.ok (.ret (Value.ref l))) s):=
 .of_wp fun prog w A R s h=>by
  obtain ⟨hp,g,d,tk,os⟩:=s;obtain ⟨hl,h⟩:=h;have f1:=AutoSeq1.idx_int;have f2:=AutoSeq1.sub_tuple_tuple;have f3:=AutoSeq1.sub_list_list;have f4:=AutoSeq1.sub_tuple_list;have f5:=AutoSeq1.sub_list_tuple
  wp_walk using wpAny_loadPart' hl
  refine wpAny_ite_split (fun z=>absurd z (by rw [hc0];decide)) fun _=>?_
  wp_walk using wpAny_loadPart' hl
  exact ⟨_,rfl,h⟩
theorem L9 (l:Addr) (items:Array Value) (n:Nat) (dd:Option Addr) (sl:Array (Option Value)) (x:Int) (u:Tok) (hc0:(decide (x < -(2 ^ 63)) || decide (x ≥ 2 ^ 63))=false) (hc1:(items.isEmpty || x == 1)=false) (hc2:(decide (x≤0) || items.isEmpty)=true) :
 Meets (Builtin.«tuple.__mul__» ⟨[.ref l,.int x u],[]⟩) (fun _ R s=>s.heap.get? l=some { cls:=.type "tuple",dict:=dd,data:=.seq items n,slots:=sl }∧R (.ok (.ret (Value.ref s.heap.objs.size))) { s with heap:=s.heap.push { cls:=Value.type "tuple",data:=Data.seq #[] },toks:=s.toks }):=
 .of_wp fun prog w A R s h=>by
  obtain ⟨hp,g,d,tk,os⟩:=s;obtain ⟨hl,h⟩:=h;have f1:=AutoSeq1.idx_int;have f2:=AutoSeq1.sub_tuple_tuple;have f3:=AutoSeq1.sub_list_list;have f4:=AutoSeq1.sub_tuple_list;have f5:=AutoSeq1.sub_list_tuple
  wp_walk using wpAny_loadPart' hl
  refine wpAny_ite_split (fun z=>absurd z (by rw [hc0];decide)) fun _=>?_
  wp_walk using wpAny_loadPart' hl
  exact ⟨_,rfl,h⟩
theorem Ma (l:Addr) (items:Array Value) (n:Nat) (dd:Option Addr) (sl:Array (Option Value)) (x:Int) (u:Tok) (hc0:(decide (x < -(2 ^ 63)) || decide (x ≥ 2 ^ 63))=false) (hc1:(items.isEmpty || x == 1)=false) (hc2:(decide (x≤0) || items.isEmpty)=false)
 (hc3:¬(items.size:Int) * x > (2 ^ 63 - 1) / 8) (hc4:Builtin.Tuple.tupleTooMany ((items.size:Int) * x)=false) (hsz:(List.foldl (fun x1 x2=>x1++x2) #[] (List.replicate x.toNat items)).size≤sizeLine) :
 Meets (Builtin.«tuple.__mul__» ⟨[.ref l,.int x u],[]⟩) (fun _ R s=>s.heap.get? l=some { cls:=.type "tuple",dict:=dd,data:=.seq items n,slots:=sl }∧R (.ok (.ret (Value.ref s.heap.objs.size))) { s with heap:=s.heap.push { cls:=Value.type "tuple",data:=Data.seq (List.foldl (fun x1 x2=>x1++x2) #[] (List.replicate x.toNat items)) },toks:=s.toks }):=
 .of_wp fun prog w A R s h=>by
  obtain ⟨hp,g,d,tk,os⟩:=s;obtain ⟨hl,h⟩:=h;have f1:=AutoSeq1.idx_int;have f2:=AutoSeq1.sub_tuple_tuple;have f3:=AutoSeq1.sub_list_list;have f4:=AutoSeq1.sub_tuple_list;have f5:=AutoSeq1.sub_list_tuple
  wp_walk using wpAny_loadPart' hl
  refine wpAny_ite_split (fun z=>absurd z (by rw [hc0];decide)) fun _=>?_
  wp_walk using wpAny_loadPart' hl
  refine wpAny_ite_split (fun z=>absurd z hc3) fun _=>?_
  wp_walk using wpAny_loadPart' hl
  exact ⟨_,rfl,h⟩
end L2
namespace L2
open PySem PySem.Spec PyProof.Rows
open AutoSeq1 (wpAny_loadPart')
def Qq (K:PySem.W.Frag):R2:=fun x y H Q=>∃a k xs,x = .ref a∧y = .int k∧SqT K H a xs∧-(2 ^ 62)≤k∧k < 2 ^ 62∧xs.length * k.toNat≤sizeLine∧
 ((xs=[]∨k=1)→Q (.ref a) H)∧(¬(xs=[]∨k=1)→∀p,H p=none→Q (.ref p) (upd H p (.tup (List.replicate k.toNat xs).flatten)))
theorem Inv.tnew {X:Cx} {pins:List (Addr×Obj)} {σ:L2.St} {H:Hp} {s:Shared} {ys:List V} {its:List Value} {t':Nat} (I:Inv X pins σ H s) (hv:Vals ys its) (hz:ys.length≤sizeLine) :
 Inv X pins σ (upd H s.heap.objs.size (.tup ys)) { s with heap:=s.heap.push { cls:=.type "tuple",data:=.seq its.toArray },toks:=t' }:=
 I.laid (fun b u e=>Heap.get?_push_of_some _ e) (Nat.le_refl _) ⟨hz,its,hv,⟨_,Heap.get?_push_size _ rfl,rfl,_,rfl⟩⟩
theorem op_mulT {X:Cx}:OpR X (binaryOp .Mult) (Qq X.K):=by
 intro pins s σ H x y v u Q I rx ry h
 obtain ⟨a,k,xs,rfl,rfl,hq,h1,h2,hz,q1,q2⟩:=h
 cases rx
 obtain ⟨t,rfl⟩:=ry
 obtain ⟨its,r,⟨⟨cls,dd,data,sl⟩,ho,hc,n,hd⟩,z⟩:=I.tuple hq
 simp only at hc hd
 subst hc hd
 have hl:=r.length
 have hc0:(decide (k < -(2 ^ 63)) || decide (k ≥ 2 ^ 63))=false:=by
  rw [Bool.or_eq_false_iff];exact ⟨decide_eq_false (by lia),decide_eq_false (by lia)⟩
 refine wpAny_binaryOp_repeat_ref (T:="tuple") (U:="int") (by decide) ⟨_,ho,rfl⟩ (fun s'=>typeIs_int s' k t) HG F.fills_int_mul F.slot_int_rmul Lw F.slot_int_index.lookup
  (call_meets F.slot_int_rmul (typeIs_int s k t) F.entry_int_rmul (F.args_int_rmul_2 _ _) (Jr k t a its.toArray n dd sl) ⟨ho,rfl,⟨_,ho,rfl⟩,?_⟩)
 by_cases hs:xs=[]∨k=1
 ·have hc1:(its.toArray.isEmpty || k == 1)=true:=by
   rw [Bool.or_eq_true]
   rcases hs with z | z
   ·subst z;cases r;exact .inl rfl
   ·exact .inr (by simp [z])
  exact call_meets F.slot_tuple_mul ⟨_,ho,rfl⟩ F.entry_tuple_mul (F.args_tuple_mul_2 _ _) (L8 a its.toArray n dd sl k t hc0 hc1) ⟨ho,.ref a,H,I,rfl,q1 hs⟩
 ·have hne:its≠[]:=fun z=>hs (.inl (by subst z;cases r;rfl))
  have hk1:k≠1:=fun z=>hs (.inr z)
  have hem:its.toArray.isEmpty=false:=by cases its with | nil=>exact absurd rfl hne | cons _ _=>rfl
  have hc1:(its.toArray.isEmpty || k == 1)=false:=by rw [hem];simpa using hk1
  by_cases hk:k≤0
  ·have hc2:(decide (k≤0) || its.toArray.isEmpty)=true:=by rw [decide_eq_true hk];rfl
   refine call_meets F.slot_tuple_mul ⟨_,ho,rfl⟩ F.entry_tuple_mul (F.args_tuple_mul_2 _ _) (L9 a its.toArray n dd sl k t hc0 hc1 hc2) ⟨ho,?_⟩
   have hk0:k.toNat=0:=by lia
   refine ⟨.ref _,_,I.tnew (t':=s.toks) (ys:=[]) (its:=[]) .nil (Nat.zero_le _),rfl,?_⟩
   have:=q2 hs _ I.fresh
   rw [hk0] at this
   exact this
  ·have hc2:(decide (k≤0) || its.toArray.isEmpty)=false:=by rw [decide_eq_false hk,hem];rfl
   have hsz:its.length * k.toNat≤sizeLine:=by rw [←hl];exact hz
   have hmul:((its.toArray.size:Nat):Int) * k=((its.length * k.toNat:Nat):Int):=by
    rw [List.size_toArray,Int.natCast_mul,Int.toNat_of_nonneg (by lia)]
   have hline:(sizeLine:Nat)≤(2 ^ 63 - 1) / 8:=by decide
   have hc3:¬(its.toArray.size:Int) * k > (2 ^ 63 - 1) / 8:=by rw [hmul];lia
   have hc4:Builtin.Tuple.tupleTooMany ((its.toArray.size:Int) * k)=false:=by
    unfold Builtin.Tuple.tupleTooMany;rw [hmul];exact decide_eq_false (by lia)
   have f0:List.foldl (fun x1 x2=>x1++x2) #[] (List.replicate k.toNat its.toArray)=(List.replicate k.toNat its).flatten.toArray:=by
    have:=GH its k.toNat []
    rw [List.nil_append] at this
    exact this
   have hfz:(List.foldl (fun x1 x2=>x1++x2) #[] (List.replicate k.toNat its.toArray)).size≤sizeLine:=by
    rw [f0,List.size_toArray,Jh,Nat.mul_comm];exact hsz
   refine call_meets F.slot_tuple_mul ⟨_,ho,rfl⟩ F.entry_tuple_mul (F.args_tuple_mul_2 _ _) (Ma a its.toArray n dd sl k t hc0 hc1 hc2 hc3 hc4 hfz) ⟨ho,?_⟩
   rw [f0]
   exact ⟨.ref _,_,I.tnew (t':=s.toks) (r.rep k.toNat) (by rw [Jh,Nat.mul_comm];exact hz),rfl,q2 hs _ I.fresh⟩
section
variable {X:Cx} {a b c d:Expr} {ta tb tc td:TE} {pos:Pos}
end
end L2
namespace F2
open PySem L2 PySem.Spec
section
variable {K:PySem.W.Frag}
def AQ (x y:D):M D:=match x,y with
 | .tup [],.tup ys=>ret (.tup ys)
 | x,y=>OO x y
def Qi (K:PySem.W.Frag):R2:=fun x y H Q=>Ng K x y H Q∨Qj K x y H Q
theorem Az {X:Cx}:OpR X (binaryOp .Add) (Qi X.K):=op_add4.or Q9
theorem Aw:BO K (Qi K) AQ:=fun {Oo c t σ H x y dx dy r t' Q} f rx ry eq k=>by
 unfold AQ at eq
 split at eq
 ·next ys=>
  cases eq
  cases rx with
  | tup h1 h2 h3=>
    cases h3
    cases ry with
    | tup g1 g2 g3=>exact .inr ⟨_,_,_,rfl,rfl,SqT.of h1,SqT.of g1,k _ H c f .refl (.tup g1 g2 g3)⟩
 ·exact .inl (Rt f rx ry eq k)
def HF:D→D→M D
 | .int i,.int j=>fun t=>if E3 i j=true then some (.int (i * j),t) else none
 | .tup xs,.int k=>fun t=>if Ck k=true∧xs.length * k.toNat≤LIM then some (.tup (List.replicate k.toNat xs).flatten,t) else none
 | .lst xs,.int k=>fun t=>if Ck k=true∧xs.length * k.toNat≤LIM then some (.lst (List.replicate k.toNat xs).flatten,t) else none
 | _,_=>fail
def Ni (K:PySem.W.Frag):R2:=fun x y H Q=>rI CMul (fun i j=>.int (i * j)) x y H Q∨(Qq K x y H Q∨Tp x y H Q)
theorem op_mul3 {X:Cx}:OpR X (binaryOp .Mult) (Ni X.K):=op_mul.or (op_mulT.or SQ)
theorem Q3 {dx dy r:D} {t t':T} (eq:HF dx dy t=some (r,t')):∃j,dy = .int j∧((∃i,dx = .int i)∨(∃ds,dx = .tup ds)∨∃ds,dx = .lst ds):=by
 unfold HF at eq
 split at eq
 ·exact ⟨_,rfl,.inl ⟨_,rfl⟩⟩
 ·exact ⟨_,rfl,.inr (.inl ⟨_,rfl⟩)⟩
 ·exact ⟨_,rfl,.inr (.inr ⟨_,rfl⟩)⟩
 ·cases eq
theorem Rv:BO K (Ni K) HF:=fun {Oo c t σ H x y dx dy r t' Q} f rx ry eq k=>by
 obtain ⟨j,rfl,hd⟩:=Q3 eq
 cases ry
 rcases hd with ⟨i,rfl⟩ | ⟨ds,rfl⟩ | ⟨ds,rfl⟩
 ·cases rx
  unfold HF at eq
  dsimp only at eq
  split at eq
  ·next h=>cases eq;exact .inl ⟨i,j,rfl,rfl,Od h,k _ H c f .refl (.int _)⟩
  ·cases eq
 ·cases rx with
  | @tup a vs _ h1 h2 h3=>
    unfold HF at eq
    dsimp only at eq
    split at eq
    ·next h=>
     cases eq
     obtain ⟨g1,g2⟩:=Eb h.1
     refine .inr (.inl ⟨a,j,vs,rfl,rfl,SqT.of h1,g1,g2,by rw [h3.length];exact Nat.le_trans h.2 Cq,fun hs=>?_,fun hs p hp=>?_⟩)
     ·rcases hs with z | z
      ·subst z
       have:ds=[]:=List.length_eq_zero_iff.mp h3.length.symm
       subst this
       have e:(List.replicate j.toNat ([]:List D)).flatten=[]:=by simp
       rw [e] at k
       exact k _ H c f .refl (.tup h1 h2 h3)
      ·subst z
       have e:(List.replicate (1:Int).toNat ds).flatten=ds:=by simp
       rw [e] at k
       exact k _ H c f .refl (.tup h1 h2 h3)
     ·exact k _ _ c (f.laid hp) (f.stp_laid hp) (.tup AJ (f.s.free hp) ((h3.rep j.toNat).mono (Ext.laid f.s hp)))
    ·cases eq
 ·cases rx with
  | @lst a vs _ h1 h2 h3=>
    unfold HF at eq
    dsimp only at eq
    split at eq
    ·next h=>
     cases eq
     obtain ⟨g1,g2⟩:=Eb h.1
     refine .inr (.inr ⟨a,j,vs,rfl,rfl,h1,by lia,by lia,by rw [h3.length];exact Nat.le_trans h.2 Cq,fun p hp=>?_⟩)
     exact k _ _ c (f.laid hp) (f.stp_laid hp) (.lst AJ (f.s.free hp) ((h3.rep j.toNat).mono (Ext.laid f.s hp)))
    ·cases eq
end
section
variable {X:Cx} {e a b:Expr} {pos:Pos}
def F6 (xs:List D):List D→Option (List D)
 | [d]=>if xs.length < LIM then some (xs++[d]) else none
 | _=>none
def ownM (i:Nat) (h:List D→List D→Option (List D)) (g:M (List D)):M Out:=fun t=>match t.env[i]? with
 | some (some (.own _))=>bnd g (fun ds t1=>match t1.env[i]? with
   | some (some (.own xs))=>(h xs ds).map fun ys=>(.next,{ t1 with env:=t1.env.set i (some (.own ys)) })
   | _=>none) t
 | _=>none
def OL (K:PySem.W.Frag) (R:V→List V→Hp→VK→Prop) (h:List D→List D→Option (List D)):Prop:=∀{c:Cf} {S:List Ob} {H:Hp} {a:Addr} {vs us:List V} {xs ds ys:List D} {Q:VK},SInv K c S H→H a=some (.lst vs)→Reps K c H vs xs→Reps K c H us ds→h xs ds=some ys→
 (∀ws,Reps K c H ws ys→Q .non (upd H a (.lst ws)))→R (.ref a) us H Q
theorem Ru {K:PySem.W.Frag}:OL K MC F6:=fun {c S H a vs us xs ds ys Q} s h r rs e k=>by
 unfold F6 at e
 split at e
 ·next d=>
  split at e
  ·next hl=>
   cases e
   obtain ⟨v,rfl,rv⟩:=DZ rs
   exact ⟨a,vs,v,rfl,rfl,h,by rw [r.length];exact Nat.lt_of_lt_of_le hl Cq,k _ (r.append (.cons rv .nil))⟩
  ·cases e
 ·cases e
theorem RS.ownM {μ:Cf→Hp→D→(V→Hp→Prop)→Prop} {K:PySem.W.Frag} {i:Nat} {h:List D→List D→Option (List D)} {g:M (List D)} {R:V→List V→Hp→VK→Prop} (s:OL K R h) {E:Ends} {σ:L2.St} {H:Hp} (q:RSg K μ (F2.ownM i h g) E σ H):Qr (tBM K "list" R (TR i) (RA K g)) E σ H:=by
 obtain ⟨Oo,c,t,fi,o,t',eq,k⟩:=q
 unfold F2.ownM at eq
 split at eq
 ·next xs0 e0=>
  obtain ⟨ds,t1,e1,eq⟩:=Ap eq
  obtain ⟨a,vs0,h1,h2,h3,h4,h5⟩:=fi.own i xs0 e0
  refine ⟨.ref a,h1,.inl ⟨rfl,vs0,SqL.of h4⟩,Oo,c,t,fi,ds,t1,e1,fun us H1 c1 f1 s1 rus=>?_⟩
  split at eq
  ·next xs ex=>
   obtain ⟨ys,ey,ez⟩:=Option.map_eq_some_iff.mp eq
   cases ez
   obtain ⟨a',vs,g1,g2,g3,g4,g5⟩:=f1.own i xs ex
   rw [h1] at g1;injection g1 with g1;injection g1 with g1;injection g1 with g1;subst g1
   refine s f1.s g4 g5 rus ey fun ws rws=>?_
   obtain ⟨f2,s2⟩:=f1.wrOwn ex h1 rws
   exact k σ _ c1 f2 (s1.trans s2)
  ·cases eq
 ·cases eq
theorem NX {μ:Cf→Hp→D→(V→Hp→Prop)→Prop} (i:Nat) {x:Str} {es:List Expr} {g:M (List D)} {px apos cpos:Pos} (ha:PA X (e :: es) (RA X.K g)) (hN:X.N[i]?=some x:=by rfl) (hv:Vis X.env.scope x:=by first | exact Or.inl rfl | exact Or.inr (Or.inl rfl) | exact Or.inr (Or.inr rfl)) (hd:(x == ("__debug__" : Str))=false:=by decide)
 (hcd:(x == ("__classdict__" : Str))=false:=by decide)
 (hbase:attributeBase (.Name x px) "append" X.env (eval (.Name x px) X.env)=eval (.Name x px) X.env:=by rfl)
 (hfew:((backTo cpos (starEach (e :: es) X.env)).all (fun x=>!x.1) && (backToKw cpos (keywordEach [] X.env)).all (fun x=>x.1.isSome) && decide ((e :: es).length + ([]:List Keyword).length + (if ([]:List Keyword).isEmpty then 0 else 1) < 30))=true:=by rfl)
 (hline:(apos.endLine == cpos.line)=true:=by rfl) (hs:starEach (e :: es) X.env=(false,eval e X.env) :: starEach es X.env:=by rfl) (hplain:(backTo cpos (starEach es X.env)).any (·.1)=false:=by rfl) :
 PS X (.Expr (.Call (.Attribute (.Name x px) "append" apos) (e :: es) [] cpos) pos) (RSg X.K μ (ownM i F6 g)):=
 BV (MB (Nc PySem.F.plainAttrs_list PySem.F.slot_list_append PySem.F.type_list_append Oc (DQ hN hv hd hcd) ha hbase hfew hline hs hplain)) fun _ _ _ q=>RS.ownM Ru q
def FH (o i d:D):M Unit:=match o,i with
 | .obj k,.int j=>fun t=>match t.S[k]? with
   | some (.lst xs)=>(ixN xs.length j).map fun n=>((),{ t with S:=t.S.set k (.lst (xs.set n d)) })
   | _=>none
 | _,_=>fail
def stD (f g:M D) (d:D):M Unit:=bnd f fun o=>bnd g fun i=>FH o i d
theorem Fl {o i:Expr} {f g:M D} (ho:PE X o (RE X.K f)) (hi:PE X i (RE X.K g))
 (ha:∀v,assign (.Subscript o i pos) X.env v=(do
   let ov ←holding [v] (eval o X.env)
   let iv ←holding [v,ov] (eval i X.env)
   standAt pos
   holding [v,ov,iv] (setItem ov iv v)
   release [v,ov,iv] []):=by intro _;rfl):PG X (.Subscript o i pos) (RG X.K (stD f g)):=
 H9 (Ol ho hi LB ha) fun v σ H Q ⟨Oo,c,t,d,fi,rv,t',eq,k⟩=>by
  obtain ⟨d0,t1,e1,eq⟩:=Ap eq
  obtain ⟨di,t2,e2,eq⟩:=Ap eq
  refine ⟨Oo,c,t,fi,_,t1,e1,fun x H1 c1 f1 s1 rx=>⟨Oo,c1,t1,f1,di,t2,e2,fun y H2 c2 f2 s2 ry=>?_⟩⟩
  unfold FH at eq
  split at eq
  ·cases ry with
   | int j=>
   cases rx with
   | @obj a kk hk=>
     split at eq
     ·next xs ex=>
      obtain ⟨n,en,ez⟩:=Option.map_eq_some_iff.mp eq
      cases ez
      have hk2:=s2.ext.io _ _ hk
      obtain ⟨vs,g1,g2⟩:=f2.s.obs _ a _ hk2 ex
      refine ⟨a,vs,_,n,rfl,rfl,g1,by rw [g2.length];exact en,?_⟩
      have rv2:=rv.mono (s1.trans s2).ext
      obtain ⟨f3,s3⟩:=f2.wrObj (o:=.lst (xs.set n d)) (u:=.lst (vs.set n v)) hk2 fun c' H' ext hu=>⟨_,hu,(Reps.set rv2 n g2).mono ext⟩
      exact k σ _ c2 f3 ((s1.trans s2).trans s3)
     ·cases eq
  ·cases eq
end
section
variable {X:Cx} {e a b tg iter elt:Expr} {ifs:List Expr} {pos:Pos} {scope:Scope} {N':List Str} {n:Nat} {fr:List Nat} {f:M (List D)} {st:D→M Unit} {tst:M Bool} {el:M D}
def Dc:M Bool:=ret true
theorem CS:PIf X [] (RT X.K Dc):=fun pins s σ H Q I ⟨Oo,c,t,fi,r,t',eq,k⟩=>Rj pins s σ H Q I (by cases eq;exact k H c fi .refl)
theorem E4 (O:CmpOk X scope N' (Fh n fr)) (hc:X.calm=true) (hi:PI X tg iter (RI X.K f))
 (hg:∀cl C s2 H2 fp,PG (Cg X N' scope cl C s2 H2 fp) tg (RG X.K st)) (ht:∀cl C s2 H2 fp,PIf (Cg X N' scope cl C s2 H2 fp) ifs (RT X.K tst)) (he:∀cl C s2 H2 fp,PE (Cg X N' scope cl C s2 H2 fp) elt (RE X.K el))
 (hs:∀x,foldedSetIterable iter X.env x=pure x:=by intro _;rfl):PE X (.ListComp elt [⟨tg,iter,ifs,0⟩] scope pos) (RF X.K (Ch n fr f st tst el)):=
 Bu (MA O hc hi hg ht he hs) fun _ _ _ q=>RF.comp q
theorem RF.ofPure {K:PySem.W.Frag} {f:M (List D)} {σ:L2.St} {H:Hp} {Q:VK} (q:RE K (Bb f) σ H Q):RF K f σ H Q:=by
 obtain ⟨Oo,c,t,fi,r,t',eq,k⟩:=q
 obtain ⟨ds,t1,e1,eq⟩:=Ap eq
 cases eq
 exact ⟨Oo,c,t,fi,ds,_,e1,fun p xs H1 c1 f1 s1 rxs hp=>k _ _ c1 (f1.laid hp) (s1.trans (f1.stp_laid hp)) (.lst AJ (f1.s.free hp) (rxs.mono (Ext.laid f1.s hp)))⟩
theorem G6 {μ:Cf→Hp→D→(V→Hp→Prop)→Prop} {i:Nat} {y:Str} {py spos:Pos} (O:CmpOk X scope N' (Fh n fr)) (hc:X.calm=true) (hN:X.N.Nodup) (hiN:X.N[i]?=some y) (hx:X.env.scope.names.lookup y=some .local) (hi:PI X tg iter (RI X.K f))
 (hg:∀cl C s2 H2 fp,PG (Cg X N' scope cl C s2 H2 fp) tg (RG X.K st)) (ht:∀cl C s2 H2 fp,PIf (Cg X N' scope cl C s2 H2 fp) ifs (RT X.K tst)) (he:∀cl C s2 H2 fp,PE (Cg X N' scope cl C s2 H2 fp) elt (RE X.K el))
 (hsw:swapsWith (.ListComp elt [⟨tg,iter,ifs,0⟩] scope pos) (some (.Name y py)) spos.line X.env=pure true:=by rfl)
 (hs:∀x,foldedSetIterable iter X.env x=pure x:=by intro _;rfl):PS X (.Assign [.Name y py] (.ListComp elt [⟨tg,iter,ifs,0⟩] scope pos) spos) (RSg X.K μ (A6 i (Bb (Ch n fr f st tst el)))):=
 BV (Rn O hc hN hiN hx hi hg ht he hsw hs) fun E σ H q=>RF.comp (RF.ofPure (RS.set q))
theorem Du (tgs:List Str) (frn:List (Nat×Str)) (hk:scope.kind = .function) (hcell:(scope.names.all fun y=>y.2 != .cell)=true) (hloc:(scope.names.all fun y=>y.2 != .local || scope.names.lookup y.1 == some .local)=true)
 (hfree:(scope.names.all fun y=>y.2 != .free || X.env.kindOf y.1 == some .cell || X.env.kindOf y.1 == some .free)=true)
 (hf:(frn.all fun p=>X.N[p.1]? == some p.2 && scope.names.lookup p.2 == some .free)=true):CmpOk X scope (tgs++frn.map (·.2)) (Fh tgs.length (frn.map (·.1))):=by
 rw [List.all_eq_true] at hcell hloc hfree hf
 refine ⟨hk,fun y hy=>by simpa using hcell y hy,fun y hy hl=>?_,fun y hy hl=>?_,fun σ _=>by simp [Fh],fun σ j x v h1 h2=>?_⟩
 ·have:=hloc y hy
  simpa [hl] using this
 ·have:=hfree y hy
  simpa [hl] using this
 ·unfold Fh at h2
  by_cases hj:j < tgs.length
  ·rw [List.getElem?_append_left (by simpa using hj),List.getElem?_replicate] at h2
   split at h2 <;> simp at h2
  ·rw [List.getElem?_append_right (by simpa using hj),List.length_replicate,List.getElem?_map,List.getElem?_map] at h2
   rw [List.getElem?_append_right (by simpa using hj),List.getElem?_map] at h1
   cases e:frn[j - tgs.length]? with
   | none=>rw [e] at h1;cases h1
   | some p=>
     rw [e] at h1 h2
     simp only [Option.map_some,Option.some.injEq] at h1 h2
     have hp:=hf p (List.mem_of_getElem? e)
     rw [Bool.and_eq_true] at hp
     refine ⟨p.1,by rw [←h1];simpa using hp.1,?_,by rw [←h1];simpa using hp.2⟩
     cases e2:σ[p.1]? with
     | none=>rw [e2] at h2;cases h2
     | some o=>rw [e2] at h2;simpa using h2
end
mutual
def Db:D→Bool
 | .tup xs=>GT xs
 | .lst xs=>GT xs
 | .obj _=>false
 | .scr _=>false
 | .exc _ _=>false
 | _=>true
def GT:List D→Bool
 | []=>true
 | d :: r=>Db d && GT r
end
def c0:Cf:=⟨[],fun _=>False⟩
theorem KK (a:Addr):¬c0.A a:=fun h=>h.elim (fun z=>nomatch z) fun z=>z
mutual
theorem FX {K:PySem.W.Frag} {c:Cf} {H:Hp}:∀{v:V} {d:D},Rep K c H v d→Db d=true→Rep K c0 H v d
 | _,_,.non,_=>.non
 | _,_,.bl b,_=>.bl b
 | _,_,.int i,_=>.int i
 | _,_,.str x,_=>.str x
 | _,_,.ty n,_=>.ty n
 | _,_,.tup h n r,p=>.tup h (KK _) (Hb r (by simpa [Db] using p))
 | _,_,.lst h n r,p=>.lst h (KK _) (Hb r (by simpa [Db] using p))
 | _,_,.scr h,p=>by simp [Db] at p
 | _,_,.dic h n,_=>.dic h (KK _)
 | _,_,.obj h,p=>by simp [Db] at p
 | _,_,.exc _ _ _ _ _,p=>by simp [Db] at p
theorem Hb {K:PySem.W.Frag} {c:Cf} {H:Hp}:∀{vs:List V} {ds:List D},Reps K c H vs ds→GT ds=true→Reps K c0 H vs ds
 | _,_,.nil,_=>.nil
 | _,_,.cons h t,p=>by
   simp only [GT,Bool.and_eq_true] at p
   exact .cons (FX h p.1) (Hb t p.2)
end
def EB (S:List Ob):D→D
 | .obj k=>match S[k]? with
   | some (.lst ds)=>.lst ds
   | _=>.obj k
 | d=>d
def M0:D→Bool
 | .obj _=>true
 | _=>false
def eqS (g:Bool→Bool) (x y:D):M D:=fun t=>
 if (M0 x || M0 y)=true then (if (Db (EB t.S x) && Db (EB t.S y))=true then (eqN EQD (EB t.S x) (EB t.S y)).map fun b=>(.bl (g b),t) else none)
 else (eqN EQD x y).map fun b=>(.bl (g b),t)
theorem Lv {K:PySem.W.Frag} {c:Cf} {S:List Ob} {H:Hp} {v:V} {d:D} (s:SInv K c S H) (r:Rep K c H v d) (p:Db (EB S d)=true):Rep K c0 H v (EB S d):=by
 cases r with
 | @obj a k hk=>
   unfold EB at p ⊢
   dsimp only at p ⊢
   split
   ·next ds e=>
    rw [e] at p
    obtain ⟨vs,h1,h2⟩:=s.obs k a _ hk e
    exact .lst h1 (KK _) (Hb h2 (by simpa [Db] using p))
   ·next h=>
    split at p
    ·next ds e=>exact absurd e (h ds)
    ·simp [Db] at p
 | non=>exact .non
 | bl b=>exact .bl b
 | int b=>exact .int b
 | str b=>exact .str b
 | ty b=>exact .ty b
 | tup h n q=>exact FX (.tup h n q) p
 | lst h n q=>exact FX (.lst h n q) p
 | scr h=>exact FX (c:=c) (.scr h) p
 | dic h n=>exact FX (.dic h n) p
 | exc a b n f q=>exact FX (.exc a b n f q) p
theorem AV {K:PySem.W.Frag} {g:Bool→Bool}:BO K (Pq K g) (eqS g):=fun {Oo c t σ H x y dx dy r t' Q} f rx ry eq k=>by
 unfold eqS at eq
 split at eq
 ·split at eq
  ·next hp=>
   rw [Bool.and_eq_true] at hp
   obtain ⟨b,e1,e2⟩:=Option.map_eq_some_iff.mp eq
   cases e2
   exact ⟨c0,_,_,b,Lv f.s rx hp.1,Lv f.s ry hp.2,e1,k _ H c f .refl (.bl (g b))⟩
  ·cases eq
 ·obtain ⟨b,e1,e2⟩:=Option.map_eq_some_iff.mp eq
  cases e2
  exact ⟨c,dx,dy,b,rx,ry,e1,k _ H c f .refl (.bl (g b))⟩
theorem N5 {K:PySem.W.Frag} {H:Hp} {a:Addr} {ns:List Int} {f:Fn} {S':List Ob} (hO:MJ H) (hS:SqL K H a (ns.map V.int)) (e:f [.scr ns] []=some (.bl true,S')):spF K f [.ref a] H (fun v _=>v = .bl true) fun _ _ _=>False:=by
 refine ⟨c0,[.scr ns],[],⟨rfl,List.Pairwise.nil,fun k a o h=>by simp [c0] at h,fun b z=>z.elim,fun b z=>z.elim⟩,.cons (.scr ?_) .nil,.bl true,S',e,fun v H' c' _ _ _ rv=>by cases rv;rfl⟩
 rcases hS with (h | h) | h
 ·rcases hO a with z | ⟨o,xs,z⟩
  ·rw [z] at h;cases h
  ·rw [z] at h;cases h
 ·exact .inl ⟨h,KK _⟩
 ·exact .inr h
end F2
namespace L2
open PySem PySem.Spec PyProof.Rows
section
variable {prog:Program} {w:World} {A:Around} {E:Value→Shared→Prop} {s:Shared}
theorem Il {it l:Addr} {items:Array Value} (hne:l≠it):∀(n i:Nat) (s:Shared) (Q:List Value→Shared→Prop),s.heap.IsListIter it l i→s.heap.IsList l items→i + n≤items.size→
 (∀h',h'.IsListIter it l (i + n)→Heap.SameBut it s.heap h'→Q ((items.toList.drop i).take n) { s with heap:=h' })→wpAny (model prog w) A (draw (.ref it) n) Q E s
 | 0,i,s,Q,hit,_,_,hQ=>wpAny_pure (by simpa using hQ s.heap hit (Heap.SameBut.refl ..))
 | n + 1,i,s,Q,hit,ht,hle,hQ=>by
   have hlt:i < items.size:=by lia
   refine wpAny_bind (wpAny_pyNext_list_item hit ht (x:=items[i]) (by simp [hlt]) fun h1 hit1 hs1=>?_)
   refine wpAny_bind (wpAny_holding (Il hne n (i + 1) _ _ hit1 (ht.extBut hs1.extBut hne) (by lia) fun h2 hit2 hs2=>wpAny_pure ?_))
   have hd:items.toList.drop i=items[i] :: items.toList.drop (i + 1):=by simp [List.drop_eq_getElem_cons,hlt]
   have:=hQ h2 (by rw [show i + (n + 1)=i + 1 + n by lia];exact hit2) (hs1.trans hs2)
   rw [hd,List.take_succ_cons] at this
   exact this
theorem LP {l:Addr} {items:Array Value} {targets:List (Bool×(Value→Sem Unit))} {Q:Unit→Shared→Prop} (hh:A.handled=none) (ht:s.heap.IsList l items) (hn:targets.length=items.size) (hstar:targets.findIdx? (·.1)=none)
 (h:∀h',Heap.ExtBut s.heap.objs.size s.heap h'→wpAny (model prog w) A (assignInOrder (targets.map (·.2)) items.toList) Q E { s with heap:=h' }):wpAny (model prog w) A (unpack (.ref l) targets) Q E s:=by
 have hlt:l≠s.heap.objs.size:=by obtain ⟨o,ho,_⟩:=ht;exact Nat.ne_of_lt (Heap.lt_size ho)
 unfold unpack
 rw [hn,hstar]
 refine wpAny_bind (wpAny_holding ?_)
 unfold unpackItems
 refine wpAny_bind ?_
 unfold notIterableAtAll
 refine wpAny_bind (wpAny_specialOf ht.typeIs PySem.F.slot_list_iter.lookup ?_)
 refine wpAny_pure ?_
 simp only [Bool.false_eq_true,if_false]
 refine wpAny_bind (wpAny_holding (wpAny_pyIter_list ht ?_))
 have hp:Heap.IsList (s.heap.push { cls:=.type "list_iterator",data:=.fields #[.ref l,.int 0 0] }) l items:=by
  obtain ⟨o,ho,r⟩:=ht
  exact ⟨o,Heap.get?_push_of_some _ ho,r⟩
 refine wpAny_bind (wpAny_holding (Il hlt items.size 0 _ _ ⟨_,Heap.get?_push_size _ rfl,rfl,rfl⟩ hp (by lia) fun h1 hit1 hs1=>?_))
 have hall:List.take items.size (List.drop 0 items.toList)=items.toList:=by
  rw [List.drop_zero];exact List.take_of_length_le (by simp)
 rw [hall]
 rw [if_neg (by simp)]
 have ht1:Heap.IsList h1 l items:=hp.extBut hs1.extBut hlt
 refine wpAny_bind (wpAny_holding (wpAny_pyNext_list_end hh hit1 ht1 (by simp) fun h2 he2=>?_))
 simp only [Option.isSome_none,Bool.false_eq_true,if_false]
 exact wpAny_pure (h h2 fun b o hb e=>he2 b o hb (hs1.extBut b o hb (Heap.get?_push_of_some _ e)))
end
section
variable {X:Cx} {pos:Pos}
def gUn (K:PySem.W.Frag) (n:Nat) (t:TGs):TG:=fun v σ H Q=>∃a xs,v = .ref a∧(SqT K H a xs∨SqL K H a xs)∧xs.length=n∧t xs σ H Q
theorem Ur {es:List Expr} {k:Nat} {t:TGs} {n:Nat} (hc:X.calm=true) (h:PGs X es t)
 (hn:(assignEach es X.env).length=n:=by rfl) (hst:(assignEach es X.env).findIdx? (·.1)=none:=by rfl):PG X (.Tuple es k pos) (gUn X.K n t):=by
 intro pins s σ H v u Q I r hw
 obtain ⟨a,xs,e1,hq | hq,hl,hw⟩:=hw
 ·exact Ta hc h hn hst pins s σ H v u Q I r ⟨a,xs,e1,hq,hl,hw⟩
 ·subst e1
  cases r
  obtain ⟨its,rv,ht,hz⟩:=I.list hq
  rw [assign_Tuple]
  refine wpAny_bind (wpAny_standAt (LP (I.ok.hd hc) ht.isList (by simp [hn,←hl,rv.length]) hst fun h' hx=>?_))
  have I1:Inv X pins σ H { s with heap:=h' }:=I.kept (t':=s.toks) fun b o e=>hx b o (Nat.ne_of_lt (Heap.lt_size e)) e
  exact h pins _ σ H xs _ Q I1 (by simpa using rv) hw
end
section
open HT
variable {prog:Program} {w:World} {A:Around} {E:Value→Shared→Prop} {s:Shared}
theorem Gw {t sl:Addr} {items:Array Value} {vl vu:Value} {lo hi:Option Int} {Q:Value→Shared→Prop} (ht:IsTup s.heap t items) (hs:s.heap.IsSliceOf sl vl vu .none) (pl:IsPart vl lo) (pu:IsPart vu hi)
 (hw:sIx items.size 0 lo=0∧sIx items.size items.size hi=items.size) (h:Q (.ref t) s):wpAny (model prog w) A (getItem (.ref t) (.ref sl)) Q E s:=by
 obtain ⟨os,hos,hcs,hds⟩:=id hs
 have hTs:s.TypeIs (.ref sl) "slice":=⟨os,hos,hcs⟩
 unfold getItem
 try with_reducible refine wpAny_holding ?_
 first | refine wpAny_bind (wpAny_pure ?_) | skip
 refine wpAny_bind (wpAny_sequenceKey ht.typeIs (by decide) ?_)
 refine wpAny_bind (wpAny_callSpecial?_slot (name:=Str.ofString "__getitem__") ht.typeIs PyProof.Rows.slot_tuple_getitem
  (wpAny_call_entry PyProof.Rows.slot_tuple_getitem ht.typeIs entry_tuple_getitem ?_ (args_tuple_getitem _ _)))
 show wpAny _ _ (Builtin.Tuple.tupleItemsOf (.ref t) >>= _) _ _ s
 refine wpAny_bind (tupleItemsOf_ ht ?_)
 refine wpAny_bind (wpAny_typeOf hTs ?_)
 rw [if_pos (by decide)]
 refine wpAny_bind (Fp hs pl pu ?_)
 have hyes:(((sIx items.size 0 lo:Nat):Int) == 0 && (1:Int) == 1 && (sIx items.size items.size hi - sIx items.size 0 lo) == items.size)=true:=by
  rw [hw.1,hw.2];simp
 show wpAny _ _ (if (((sIx items.size 0 lo:Nat):Int) == 0 && (1:Int) == 1 && (sIx items.size items.size hi - sIx items.size 0 lo) == items.size)=true then _ else _) _ _ s
 rw [if_pos hyes]
 refine wpAny_bind (m:=Builtin.Tuple.tupleIsExact _) ?_
 unfold Builtin.Tuple.tupleIsExact
 refine wpAny_bind (wpAny_typeOf ht.typeIs (wpAny_pure ?_))
 rw [if_pos (by decide)]
 first
  | exact wpAny_bind (wpAny_rule (wpAny_pure ⟨_,rfl,wpAny_pure h⟩))
  | exact wpAny_bind (wpAny_rule (wpAny_bind (wpAny_pure (wpAny_pure ⟨_,rfl,wpAny_pure h⟩))))
end
section
variable {X:Cx}
def Tu (K:PySem.W.Frag):V→Option Int→Option Int→Hp→VK→Prop:=fun x lo hi H Q=>∃a xs,x = .ref a∧SqT K H a xs∧(HT.sIx xs.length 0 lo=0∧HT.sIx xs.length xs.length hi=xs.length)∧Q (.ref a) H
theorem RJ:SlR X (Tu X.K):=by
 intro pins s σ H x v vl vu lo hi sl Q I rx hs pl pu h
 obtain ⟨a,xs,rfl,hx,hw,q⟩:=h
 cases rx
 obtain ⟨its,r,ht,hz⟩:=I.tuple hx
 have hlen:its.toArray.size=xs.length:=by rw [List.size_toArray];exact r.length.symm
 exact ⟨"tuple",_,PyProof.Rows.slot_tuple_getitem.lookup,ht.typeIs,Gw ht hs pl pu (by rw [hlen];exact hw) ⟨.ref a,H,I,rfl,q⟩⟩
end
def Its (z:Str):It:=⟨fun i _=>i < z.cps.size,fun i H x H'=>H'=H∧∃c,z.cps[i]?=some c∧x = .str ⟨#[c]⟩,fun i _=>i=z.cps.size⟩
theorem LO {P:Program} {w:World} {K:PySem.W.Frag} {tg:Expr} {T:String} {x:Str} {t:Tok} (it:Addr) (hT:["enumerate", "zip", "dict_itemiterator", "dict_reverseitemiterator", "odict_iterator", "itertools.zip_longest", "itertools.pairwise"].contains T=false)
 (W:∀A:Around,A.handled=none→Walks P w A it [it] [it] x.cps.size (SignAt x) (fun i h=>h.IsStrIter it T x t i))
 (self:∀(A:Around) (i:Nat) (s:Shared) (Q:Value→Shared→Prop) (E:Value→Shared→Prop),s.heap.IsStrIter it T x t i→Q (.ref it) s→wpAny (model P w) A (pyIter (.ref it)) Q E s) :
 Turn P w K tg (Its x) [it] it (fun i h=>h.IsStrIter it T x t i) where
 mem:=by simp
 obj:=fun i h st b hb=>by
  have e:b=it:=by simpa using hb
  subst e
  obtain ⟨o,e,c,d⟩:=st
  exact ⟨o,e,fun v z=>by rw [d] at z;cases z⟩
 keep:=fun i h h' st k=>by
  obtain ⟨o,e,r⟩:=st
  exact ⟨o,k it (by simp) o e,r⟩
 item:=by
  intro X hP hw hK hc i pins s σ H E I hf st hg
  subst hP hw hK
  obtain ⟨f0,f1,f2,f3,f4,f5⟩:=hf it (by simp)
  refine (W X.A (I.ok.hd hc)).item i s _ _ hg st fun v h' tk hv st' kk=>?_
  obtain ⟨c,u,hcc,rfl⟩:=hv
  have I1:Inv X pins σ H { s with heap:=h',toks:=tk }:=I.turned (fun b o hb e=>kk b o (by simpa using hb) e) f0 f1 f3 f4 f5
  obtain ⟨o,e,ec,ed⟩:=id st'
  exact ⟨_,rfl,Ku (s:={ s with heap:=h',toks:=tk }) e ec ed hT ⟨.str ⟨#[c]⟩,H,I1,⟨u,rfl⟩,⟨rfl,c,hcc,rfl⟩,st',fun b hb=>(hf b hb).1⟩⟩
 done:=by
  intro X hP hw hK hc i pins s σ H E I hf st hg
  subst hP hw hK
  obtain ⟨f0,f1,f2,f3,f4,f5⟩:=hf it (by simp)
  have hg':i=x.cps.size:=hg
  subst hg'
  exact (W X.A (I.ok.hd hc)).done s _ _ st fun h' tk kk=>⟨rfl,I.turned (fun b o hb e=>kk b o (by simpa using hb) e) f0 f1 f3 f4 f5⟩
 self:=fun A i s Q E st h=>self A i s Q E st h
section
variable {X:Cx} {tg:Expr} {pos:Pos}
def VC (K:PySem.W.Frag) (tl:TE):TI:=fun σ H R=>tl σ H fun x H1=>(∃a,x = .ref a∧(∃xs,SqL K H1 a xs)∧R (Itl K a) H1)∨(∃a,x = .ref a∧(∃xs,SqT K H1 a xs)∧R (Itt K a) H1)∨∃z,x = .str z∧R (Its z) H1
theorem Tb {l:Expr} {tl:TE} (hl:PE X l tl):PI X tg l (VC X.K tl):=by
 intro pins s σ H R I h
 refine thn (hl pins s σ H _ I h) fun v s1 ⟨x,H1,I1,r1,q1⟩=>?_
 have fp:∀b∈[s1.heap.objs.size],FpOk X pins H1 b:=fun b hb=>by
  have e:b=s1.heap.objs.size:=by simpa using hb
  subst e
  exact I1.fpOk (Nat.le_refl _) (I1.hok.fresh (Nat.le_refl _))
 rcases q1 with ⟨a,rfl,⟨xs,hq⟩,q⟩ | ⟨a,rfl,⟨xs,hq⟩,q⟩ | ⟨z,rfl,q⟩
 ·cases r1
  obtain ⟨its,rv,p,hz⟩:=I1.list hq
  refine wpAny_pyIter_list p.isList ?_
  exact ⟨s1.heap.objs.size,[s1.heap.objs.size],_,_,H1,rfl,I1.kept (t':=s1.toks) fun b o e=>Heap.get?_push_of_some _ e,OF a _,⟨_,Heap.get?_push_size _ rfl,rfl,rfl⟩,fp,q⟩
 ·cases r1
  obtain ⟨its,rv,p,hz⟩:=I1.tuple hq
  refine wpAny_pyIter_tuple (show s1.heap.IsTuple a its.toArray from p) ?_
  exact ⟨s1.heap.objs.size,[s1.heap.objs.size],_,_,H1,rfl,I1.kept (t':=s1.toks) fun b o e=>Heap.get?_push_of_some _ e,Nq a _,⟨_,Heap.get?_push_size _ rfl,rfl,rfl⟩,fp,q⟩
 ·obtain ⟨t,rfl⟩:=r1
  cases ha:z.cps.all (· < 128)
  ·refine wpAny_pyIter_wide ha ?_
   exact ⟨s1.heap.objs.size,[s1.heap.objs.size],_,_,H1,rfl,I1.kept (t':=s1.toks) fun b o e=>Heap.get?_push_of_some _ e,LO (T:="str_iterator") (x:=z) (t:=t) _ (by decide) (fun A hA=>Walks.strWide hA _ z t) (fun _ _ _ _ _ st h=>wpAny_pyIter_striter_wide st h),⟨_,Heap.get?_push_size _ rfl,rfl,rfl⟩,fp,q⟩
  ·refine wpAny_pyIter_ascii ha ?_
   exact ⟨s1.heap.objs.size,[s1.heap.objs.size],_,_,H1,rfl,I1.kept (t':=s1.toks) fun b o e=>Heap.get?_push_of_some _ e,LO (T:="str_ascii_iterator") (x:=z) (t:=t) _ (by decide) (fun A hA=>Walks.strAscii hA _ z t) (fun _ _ _ _ _ st h=>wpAny_pyIter_striter_ascii st h),⟨_,Heap.get?_push_size _ rfl,rfl,rfl⟩,fp,q⟩
def Qp:R2:=fun x y H Q=>∃z k,x = .str z∧y = .int k∧MulOk z k∧Q (.str (Txt.mul z k)) H
theorem Rb:OpR X (binaryOp .Mult) Qp:=by
 intro pins s σ H x y v u Q I rx ry h
 obtain ⟨z,k,rfl,rfl,hk,q⟩:=h
 obtain ⟨t,rfl⟩:=rx
 obtain ⟨t',rfl⟩:=ry
 exact SB.mul hk fun t2 tk=>⟨.str _,H,I.tok tk,⟨t2,rfl⟩,q⟩
def Ts:V→Option Int→Option Int→Hp→VK→Prop:=fun x lo hi H Q=>∃z,x = .str z∧z.length≤sizeLine∧Q (.str (Txt.slice z lo hi)) H
theorem sl_str:SlR X Ts:=by
 intro pins s σ H x v vl vu lo hi sl Q I rx hs pl pu h
 obtain ⟨z,rfl,hz,q⟩:=h
 obtain ⟨t,rfl⟩:=rx
 refine ⟨"str",_,PySem.F.slot_str_getitem.lookup,typeIs_str _ _ _,?_⟩
 have part:∀{v:Value} {o:Option Int},IsPart v o→∃l:Option (Int×Tok),v=partValue l∧l.map (·.1)=o:=fun {v o} p=>by
  cases p with
  | none=>exact ⟨none,rfl,rfl⟩
  | int i t=>exact ⟨some (i,t),rfl,rfl⟩
 obtain ⟨l,rfl,el⟩:=part pl
 obtain ⟨u,rfl,eu⟩:=part pu
 refine wpAny_getItem_str_slice (l:=l) (u:=u) (st:=none) (by obtain ⟨o,h1,h2,h3⟩:=hs;exact ⟨o,h1,h2,h3⟩) rfl ?_
 unfold sliceMade slicePicked
 rw [el,eu]
 show (if ((1:Int) == 1 && (Builtin.Str.strSliceIndices lo hi 1 z.length).length == z.length)=true then Made.val (.str z t) else Made.str ⟨((Builtin.Str.strSliceIndices lo hi 1 z.length).filterMap (z.cps[·]?)).toArray⟩).post _ s
 have hle:=Txt.slice_le z lo hi
 unfold Txt.slice at q hle
 by_cases hc:((1:Int) == 1 && (Builtin.Str.strSliceIndices lo hi 1 z.length).length == z.length)=true
 ·rw [if_pos hc] at q ⊢
  exact ⟨.str z,H,I,⟨t,rfl⟩,q⟩
 ·rw [if_neg hc] at q hle ⊢
  exact ⟨Nat.le_trans hle hz,.str _,H,I.tok _,⟨_,rfl⟩,q⟩
def Go (g:Int→Int→Bool) (h:List Nat→List Nat→Bool):R2:=fun x y H Q=>(∃i j,x = .int i∧y = .int j∧Q (.bl (g i j)) H)∨∃i j,x = .str i∧y = .str j∧Q (.bl (h i.cps.toList j.cps.toList)) H
theorem EV:OpR X (compareOp .Lt) (Go (fun i j=>decide (i < j)) fun i j=>decide (i < j)):=op_lt.or fun pins s σ H x y v u Q I rx ry h=>by
 obtain ⟨i,j,rfl,rfl,q⟩:=h
 obtain ⟨t,rfl⟩:=rx
 obtain ⟨t',rfl⟩:=ry
 exact P.lt_str ⟨.bl _,H,I,rfl,q⟩
theorem Oi:OpR X (compareOp .LtE) (Go (fun i j=>decide (i≤j)) fun i j=>!(decide (j < i))):=op_le.or fun pins s σ H x y v u Q I rx ry h=>by
 obtain ⟨i,j,rfl,rfl,q⟩:=h
 obtain ⟨t,rfl⟩:=rx
 obtain ⟨t',rfl⟩:=ry
 exact P.le_str ⟨.bl _,H,I,rfl,q⟩
theorem Ex:OpR X (compareOp .Gt) (Go (fun i j=>decide (j < i)) fun i j=>decide (j < i)):=op_gt.or fun pins s σ H x y v u Q I rx ry h=>by
 obtain ⟨i,j,rfl,rfl,q⟩:=h
 obtain ⟨t,rfl⟩:=rx
 obtain ⟨t',rfl⟩:=ry
 exact P.gt_str ⟨.bl _,H,I,rfl,q⟩
theorem FU:OpR X (compareOp .GtE) (Go (fun i j=>decide (j≤i)) fun i j=>!(decide (i < j))):=op_ge.or fun pins s σ H x y v u Q I rx ry h=>by
 obtain ⟨i,j,rfl,rfl,q⟩:=h
 obtain ⟨t,rfl⟩:=rx
 obtain ⟨t',rfl⟩:=ry
 exact P.ge_str ⟨.bl _,H,I,rfl,q⟩
end
end L2
namespace F2
open PySem L2 PySem.Spec
def DP:D→M (List D)
 | .lst ds=>ret ds
 | .scr ns=>ret (ns.map .int)
 | .tup ds=>ret ds
 | .str x=>ret (x.cps.toList.map fun c=>.str ⟨#[c]⟩)
 | _=>fail
def EX (f:M D):M (List D):=bnd f DP
def Da:D→D→M D
 | .str x,.int k=>fun t=>if Ck k=true∧x.length * k.toNat≤LIM∧k≤LIM∧x.length≤LIM then some (.str (Txt.mul x k),t) else none
 | x,y=>HF x y
def Cv:D→Option Int→Option Int→M D
 | .str x,lo,hi=>lim x.length (.str (Txt.slice x lo hi))
 | .tup ds,lo,hi=>ret (.tup (BG ds lo hi))
 | x,lo,hi=>slD x lo hi
def KW (g:Int→Int→Bool) (h:List Nat→List Nat→Bool):D→D→M D
 | .int i,.int j=>ret (.bl (g i j))
 | .str x,.str y=>ret (.bl (h x.cps.toList y.cps.toList))
 | _,_=>fail
def ltA:=KW (fun i j=>decide (i < j)) (fun i j=>decide (i < j))
def leA:=KW (fun i j=>decide (i≤j)) (fun i j=>!(decide (j < i)))
def gtA:=KW (fun i j=>decide (j < i)) (fun i j=>decide (j < i))
def geA:=KW (fun i j=>decide (j≤i)) (fun i j=>!(decide (i < j)))
def unS (n:Nat) (g:List D→M Unit):D→M Unit
 | .tup ds=>if ds.length=n then g ds else fail
 | .lst ds=>if ds.length=n then g ds else fail
 | _=>fail
def Vv:M D:=fC .dic
def Gp (i:Nat) (g:M D) (d:D):M Unit:=fun t=>match t.env[i]? with
 | some (some (.own _))=>bnd g (fun j t1=>match j,t1.env[i]? with
   | .int j,some (some (.own xs))=>(ixN xs.length j).map fun n=>((),{ t1 with env:=t1.env.set i (some (.own (xs.set n d))) })
   | _,_=>none) t
 | _=>none
section
variable {X:Cx} {e a b:Expr} {pos:Pos} {st:Stmt}
theorem ItOk.str {K:PySem.W.Frag} {c:Cf} {H:Hp} {x:Str}:ItOk K (Its x) c H (x.cps.toList.map fun c=>.str ⟨#[c]⟩):=by
 refine ⟨fun c' H' i ex hi=>?_,fun c' H' i y H'' d ex hd hy=>?_,fun c' H' ex=>?_⟩
 ·show i < x.cps.size
  simpa using hi
 ·obtain ⟨rfl,n,hn,rfl⟩:=hy
  refine ⟨rfl,?_⟩
  have:d = .str ⟨#[n]⟩:=by
   rw [List.getElem?_map] at hd
   have hn':x.cps.toList[i]?=some n:=by simpa using hn
   rw [hn'] at hd
   simpa using hd.symm
  rw [this]
  exact .str _
 ·show _=x.cps.size
  simp
theorem EU {tg:Expr} {f:M D} (h:PE X e (RE X.K f)):PI X tg e (RI X.K (EX f)):=
 Ia (Tb h) fun σ H R ⟨Oo,c,t,fi,ds,t',eq,k⟩=>by
  obtain ⟨d,t1,e1,eq⟩:=Ap eq
  refine ⟨Oo,c,t,fi,d,t1,e1,fun v H1 c1 f1 s1 rv=>?_⟩
  cases rv with
  | @lst p vs ds' h1 h2 h3=>
    cases eq
    exact .inl ⟨p,rfl,⟨vs,SqL.of h1⟩,k _ H1 c1 f1 s1 (ItOk.lst fun c' H' ex=>⟨vs,SqL.of (ex.keep _ _ h1 h2),h3.mono ex⟩)⟩
  | @scr p ns h1=>
    cases eq
    exact .inl ⟨p,rfl,⟨_,h1.sq⟩,k _ H1 c1 f1 s1 (ItOk.lst fun c' H' ex=>⟨_,(h1.mono ex).sq,Reps.ints ns⟩)⟩
  | @tup p vs ds' h1 h2 h3=>
    cases eq
    exact .inr (.inl ⟨p,rfl,⟨vs,SqT.of h1⟩,k _ H1 c1 f1 s1 (ItOk.tup fun c' H' ex=>⟨vs,SqT.of (ex.keep _ _ h1 h2),h3.mono ex⟩)⟩)
  | str x=>
    cases eq
    exact .inr (.inr ⟨x,rfl,k _ H1 c1 f1 s1 ItOk.str⟩)
  | _=>cases eq
theorem RG.un {K:PySem.W.Frag} {n:Nat} {g:List D→M Unit} {v:V} {σ:L2.St} {H:Hp} {Q:L2.St→Hp→Prop} (q:RG K (unS n g) v σ H Q):gUn K n (RGs K g) v σ H Q:=by
 obtain ⟨Oo,c,t,d,fi,rv,t',eq,k⟩:=q
 cases rv with
 | @tup a vs ds h1 h2 h3=>
   unfold unS at eq
   by_cases hn:ds.length=n
   ·dsimp only at eq
    rw [if_pos hn] at eq
    exact ⟨a,vs,rfl,.inl (SqT.of h1),by rw [h3.length];exact hn,Oo,c,t,ds,fi,h3,t',eq,k⟩
   ·dsimp only at eq
    rw [if_neg hn] at eq;cases eq
 | @lst a vs ds h1 h2 h3=>
   unfold unS at eq
   by_cases hn:ds.length=n
   ·dsimp only at eq
    rw [if_pos hn] at eq
    exact ⟨a,vs,rfl,.inr (SqL.of h1),by rw [h3.length];exact hn,Oo,c,t,ds,fi,h3,t',eq,k⟩
   ·dsimp only at eq
    rw [if_neg hn] at eq;cases eq
 | _=>cases eq
theorem Uf {es:List Expr} {k n:Nat} {g:List D→M Unit} (hc:X.calm=true) (h:PGs X es (RGs X.K g)) (hn:(assignEach es X.env).length=n:=by rfl) (hst:(assignEach es X.env).findIdx? (·.1)=none:=by rfl):PG X (.Tuple es k pos) (RG X.K (unS n g)):=
 H9 (Ur hc h hn hst) fun _ _ _ _ q=>RG.un q
theorem K3 {es:List Expr} {f:D→M Unit} {g:List D→M Unit} (h1:PG X e (RG X.K f)) (h2:PGs X es (RGs X.K g)) (hs:(assignEach (e :: es) X.env).map (·.2)=assign e X.env :: (assignEach es X.env).map (·.2):=by rfl):PGs X (e :: es) (RGs X.K (DF f g)):=
 Mb (Pl h1 h2 hs) fun _ _ _ _ q=>RGs.cons q
theorem GG (i:Nat) {x:Str} {ix:Expr} {g:M D} {px:Pos} (hi:PE X ix (RE X.K g)) (hN:X.N[i]?=some x:=by rfl) (hv:Vis X.env.scope x:=by first | exact Or.inl rfl | exact Or.inr (Or.inl rfl) | exact Or.inr (Or.inr rfl)) (hd:(x == ("__debug__" : Str))=false:=by decide)
 (hcd:(x == ("__classdict__" : Str))=false:=by decide)
 (ha:∀v,assign (.Subscript (.Name x px) ix pos) X.env v=(do
   let ov ←holding [v] (eval (.Name x px) X.env)
   let iv ←holding [v,ov] (eval ix X.env)
   standAt pos
   holding [v,ov,iv] (setItem ov iv v)
   release [v,ov,iv] []):=by intro _;rfl):PG X (.Subscript (.Name x px) ix pos) (RG X.K (Gp i g)):=
 H9 (Ol (DQ hN hv hd hcd) hi LB ha) fun v σ H Q ⟨Oo,c,t,d,fi,rv,t',eq,k⟩=>by
  unfold Gp at eq
  split at eq
  ·next xs0 e0=>
   obtain ⟨j,t1,e1,eq⟩:=Ap eq
   obtain ⟨a,vs0,h1,h2,h3,h4,h5⟩:=fi.own i xs0 e0
   refine ⟨.ref a,h1,Oo,c,t,fi,j,t1,e1,fun y H1 c1 f1 s1 ry=>?_⟩
   split at eq
   ·next j' xs ex=>
    obtain ⟨n,en,ez⟩:=Option.map_eq_some_iff.mp eq
    cases ez
    cases ry
    obtain ⟨a',vs,g1,g2,g3,g4,g5⟩:=f1.own i xs ex
    rw [h1] at g1;injection g1 with g1;injection g1 with g1;injection g1 with g1;subst g1
    refine ⟨a,vs,j',n,rfl,rfl,g4,by rw [g5.length];exact en,?_⟩
    obtain ⟨f2,s2⟩:=f1.wrOwn ex h1 (Reps.set (rv.mono s1.ext) n g5)
    exact k σ _ c1 f2 (s1.trans s2)
   ·cases eq
  ·cases eq
end
section
variable {K:PySem.W.Frag}
def Qo (K:PySem.W.Frag):R2:=fun x y H Q=>Ni K x y H Q∨Qp x y H Q
theorem Cm {X:Cx}:OpR X (binaryOp .Mult) (Qo X.K):=op_mul3.or Rb
theorem LV {x:Str} {k:Int} (h:Ck k=true∧x.length * k.toNat≤LIM∧k≤LIM∧x.length≤LIM):MulOk x k:=by
 obtain ⟨g1,g2⟩:=Eb h.1
 have hL:LIM=100000:=rfl
 refine ⟨?_,fun h1 _=>?_,fun h1 _=>?_⟩
 ·rw [Bool.or_eq_false_iff];exact ⟨decide_eq_false (by lia),decide_eq_false (by lia)⟩
 ·have h2:k≤100000:=by have:=h.2.2.1;rw [hL] at this;exact this
  have h3:x.length≤100000:=by have:=h.2.2.2;rw [hL] at this;exact this
  have h4:(92233720368547:Int)≤(2 ^ 63 - 1) / k:=by
   rw [Int.le_ediv_iff_mul_le (by lia)]
   lia
  lia
 ·have h5:=h.2.1
  rw [hL] at h5
  unfold Builtin.Str.tooLong
  first | exact decide_eq_false (by unfold sizeLine;lia) | (unfold sizeLine;exact decide_eq_false (by lia))
theorem B7:BO K (Qo K) Da:=fun {Oo c t σ H x y dx dy r t' Q} f rx ry eq k=>by
 unfold Da at eq
 split at eq
 ·next z kk=>
  split at eq
  ·next h=>
   cases eq
   cases rx
   cases ry
   exact .inr ⟨z,kk,rfl,rfl,LV h,k _ H c f .refl (.str _)⟩
  ·cases eq
 ·exact .inl (Rv f rx ry eq k)
def Tq (K:PySem.W.Frag):V→Option Int→Option Int→Hp→VK→Prop:=fun x lo hi H Q=>Ps K x lo hi H Q∨(Ts x lo hi H Q∨Tu K x lo hi H Q)
theorem sl3 {X:Cx}:SlR X (Tq X.K):=sl2.or (sl_str.or RJ)
theorem MT {α:Type} {xs:List α} {lo hi:Option Int} (h:HT.sIx xs.length 0 lo=0∧HT.sIx xs.length xs.length hi=xs.length):BG xs lo hi=xs:=by
 unfold BG;rw [h.1,h.2];simp
theorem Cp:OK K (Tq K) Cv:=fun {Oo c t σ H x dx r lo hi t' Q} f rx eq k=>by
 unfold Cv at eq
 split at eq
 ·next z=>
  obtain ⟨h,e⟩:=D3 eq
  cases e
  cases rx
  exact .inr (.inl ⟨z,rfl,Nat.le_trans h Cq,k _ H c f .refl (.str _)⟩)
 ·next ds=>
  cases eq
  cases rx with
  | @tup p vs ds h1 h2 h3=>
    by_cases hw:HT.sIx ds.length 0 lo=0∧HT.sIx ds.length ds.length hi=ds.length
    ·rw [MT hw] at k
     exact .inr (.inr ⟨p,vs,rfl,SqT.of h1,by rw [h3.length];exact hw,k _ H c f .refl (.tup h1 h2 h3)⟩)
    ·exact .inl (.inr ⟨p,vs,rfl,SqT.of h1,by rw [h3.length];exact hw,fun q hq=>k _ _ c (f.laid hq) (f.stp_laid hq) (.tup AJ (f.s.free hq) ((HL h3 lo hi).mono (Ext.laid f.s hq)))⟩)
 ·exact .inl (TF f rx eq k)
theorem Hd {g:Int→Int→Bool} {h:List Nat→List Nat→Bool}:BO K (Go g h) (KW g h):=fun {Oo c t σ H x y dx dy r t' Q} f rx ry eq k=>by
 cases rx with
 | int i=>cases ry with
   | int j=>cases eq;exact .inl ⟨i,j,rfl,rfl,k _ H c f .refl (.bl _)⟩
   | _=>cases eq
 | str i=>cases ry with
   | str j=>cases eq;exact .inr ⟨i,j,rfl,rfl,k _ H c f .refl (.bl _)⟩
   | _=>cases eq
 | _=>cases eq
theorem Ea:BO K (Go (fun i j=>decide (i < j)) fun i j=>decide (i < j)) ltA:=Hd
theorem MF:BO K (Go (fun i j=>decide (i≤j)) fun i j=>!(decide (j < i))) leA:=Hd
theorem DH:BO K (Go (fun i j=>decide (j < i)) fun i j=>decide (j < i)) gtA:=Hd
theorem E9:BO K (Go (fun i j=>decide (j≤i)) fun i j=>!(decide (i < j))) geA:=Hd
end
theorem BY {P:Program} {w:World} {K:PySem.W.Frag} {mg:Str→Option Value} {base:Heap} {x qual:Str} {st:Stmt} {fa:Addr} {fd:FuncData} {N ps:List Str} {k n m:Nat} {g:M Out} (e1:ps.length=n) (e2:N.length=m) (F:Fun K x qual st fa fd) (S:FnScope N ps (As st))
 (hb:∀(cdv:Value) (A:Around) (outer:List Env) (s:Shared) (H:Hp) (E:XK),Room k (A.deeper (PyProof.Rows.envOfC qual (As st) s.heap.objs.size fa cdv))→
   PSs (EE CX0 P w K mg base N qual (As st) fa cdv A outer s H E).nox (B3 st) (RS K g)):FnOk P w K mg base CX0 (k + 1) fa fd ps (spF K (fnOf n m g)):=by
 subst e1 e2
 exact Uh F S hb
theorem BZ {P:Program} {w:World} {K:PySem.W.Frag} {mg:Str→Option Value} {base:Heap} {fa:Addr} {fd:FuncData} {ps:List Str} {k:Nat} {f g:Fn} (e:f=g) (h:FnOk P w K mg base CX0 k fa fd ps (spF K g)):FnOk P w K mg base CX0 k fa fd ps (spF K f):=by rw [e];exact h
theorem BP:bootBuiltins "len" = some (.builtin "len"):=by decide +kernel
theorem Bj:bootBuiltins "isinstance" = some (.builtin "isinstance"):=by decide +kernel
theorem Se:bootBuiltins "ord" = some (.builtin "ord"):=by decide +kernel
theorem Ig:bootBuiltins "min" = some (.builtin "min"):=by decide +kernel
theorem Ie:bootBuiltins "max" = some (.builtin "max"):=by decide +kernel
theorem NE:bootBuiltins "abs" = some (.builtin "abs"):=by decide +kernel
theorem Sg:bootBuiltins "sum" = some (.builtin "sum"):=by decide +kernel
theorem Id:bootBuiltins "int" = some (.type "int"):=by decide +kernel
theorem Sf:bootBuiltins "str" = some (.type "str"):=by decide +kernel
theorem QD:bootBuiltins "bool" = some (.type "bool"):=by decide +kernel
theorem ED:bootBuiltins "list" = some (.type "list"):=by decide +kernel
theorem D1:bootBuiltins "tuple" = some (.type "tuple"):=by decide +kernel
def BK:Expr→Bool
 | .Starred _ _=>true
 | _=>false
theorem Bs {e:Expr} {es:List Expr} {env:Env} (h:BK e=false):starEach (e :: es) env=(false,eval e env) :: starEach es env:=by
 cases e <;> first | rfl | cases h
def B0 (es:List Expr):Bool:=es.all fun e=>!BK e
theorem BA:∀{es:List Expr} {env:Env} {p:Pos},B0 es=true→(backTo p (starEach es env)).any (·.1)=false∧(backTo p (starEach es env)).all (fun x=>!x.1)=true
 | [],env,p,_=>⟨rfl,rfl⟩
 | e :: es,env,p,h=>by
   have h':BK e=false∧B0 es=true:=by
    rw [B0,List.all_cons,Bool.and_eq_true] at h
    exact ⟨by simpa using h.1,h.2⟩
   obtain ⟨h1,h2⟩:=BA (es:=es) (env:=env) (p:=p) h'.2
   rw [Bs h'.1]
   refine ⟨?_,?_⟩
   ·show (false || (backTo p (starEach es env)).any (·.1))=false
    rw [h1];rfl
   ·show (!false && (backTo p (starEach es env)).all (fun x=>!x.1))=true
    rw [h2];rfl
section
variable {X:Cx} {e a b:Expr} {es:List Expr} {pos:Pos}
theorem Aa {f:M D} {g:M (List D)} (ha:PE X e (RE X.K f)) (hr:PA X es (RA X.K g)) (hs:BK e=false:=by rfl):PA X (e :: es) (RA X.K (Ac f g)):=QK ha hr (Bs hs)
theorem Aq {k:Nat} {fa:Addr} {fd:FuncData} {ps:List Str} {g:Fn} {f:M (List D)} {x:Str} {p:Pos} (F:FnOk X.prog X.w X.K X.mg X.base CX0 k fa fd ps (spF X.K g)) (hr:Room k X.A) (hg:Gl X x) (hm:X.mg x=some (.ref fa)) (hk:PySem.W.keepIn X.K (.ref fa)=true) (hb:Binds X.K fd ps [])
 (ha:PA X (e :: es) (RA X.K f)) (hdb:(x == ("__debug__" : Str))=false:=by decide) (h1:BK e=false:=by rfl) (h2:B0 es=true:=by rfl) :
 PE X (.Call (.Name x p) (e :: es) [] pos) (RE X.K (Av g f)):=QM F hr hg hm hk hb ha hdb (Bs h1) (BA h2).1
theorem Bm {id:String} {R:List V→Hp→VK→Prop} {h:List D→M D} {f:M (List D)} {x:Str} {p:Pos} (hc:B2 X (.builtin id) R) (s:DJ X.K R h) (hg:Gl X x) (hm:X.mg x=none) (hv:bootBuiltins x=some (.builtin id)) (ha:PA X (e :: es) (RA X.K f)) (hn:x≠"__name__":=by decide) (hdb:(x == ("__debug__" : Str))=false:=by decide)
 (h1:BK e=false:=by rfl) (h2:B0 es=true:=by rfl):PE X (.Call (.Name x p) (e :: es) [] pos) (RE X.K (fB f h)):=Vw hc s hg hm hv ha hn hdb (Bs h1) (BA h2).1
theorem Ir {id:String} {R:List V→Hp→VK→Prop} {h:List D→M D} {f:M (List D)} {x:Str} {p:Pos} (hc:B2 X (.type id) R) (s:DJ X.K R h) (hg:Gl X x) (hm:X.mg x=none) (hv:bootBuiltins x=some (.type id)) (ha:PA X (e :: es) (RA X.K f)) (hn:x≠"__name__":=by decide) (hdb:(x == ("__debug__" : Str))=false:=by decide)
 (h1:BK e=false:=by rfl) (h2:B0 es=true:=by rfl):PE X (.Call (.Name x p) (e :: es) [] pos) (RE X.K (fB f h)):=Vx hc s hg hm hv ha hn hdb (Bs h1) (BA h2).1
theorem MW {id:String} {R:List V→Hp→VK→Prop} {h:List D→M (List D)} {f:M (List D)} {x:Str} {p:Pos} (hc:B2 X (.type id) R) (s:Kq X.K R h) (hg:Gl X x) (hm:X.mg x=none) (hv:bootBuiltins x=some (.type id)) (ha:PA X (e :: es) (RA X.K f)) (hn:x≠"__name__":=by decide) (hdb:(x == ("__debug__" : Str))=false:=by decide)
 (h1:BK e=false:=by rfl) (h2:B0 es=true:=by rfl):PE X (.Call (.Name x p) (e :: es) [] pos) (RF X.K (fBF f h)):=Vy hc s hg hm hv ha hn hdb (Bs h1) (BA h2).1
theorem BM {tg:Expr} {f:M (List D)} {p:Pos} (hg:Gl X "range") (hm:X.mg "range" = none) (ha:PA X [a] (RA X.K f)) (h1:BK a=false:=by rfl):PI X tg (.Call (.Name "range" p) [a] [] pos) (RI X.K (Ct f)):=NV hg hm ha (Bs h1)
theorem MX {tg:Expr} {f:M (List D)} {p:Pos} (hg:Gl X "range") (hm:X.mg "range" = none) (ha:PA X [a,b] (RA X.K f)) (h1:BK a=false:=by rfl) (h2:BK b=false:=by rfl):PI X tg (.Call (.Name "range" p) [a,b] [] pos) (RI X.K (G3 f)):=
 NW hg hm ha (by rw [Bs h1,Bs h2];rfl) (Bs h2)
theorem NU {cpos:Pos} (h1:BK e=false) (h2:B0 es=true) (h3:es.length < 20):((backTo cpos (starEach (e :: es) X.env)).all (fun x=>!x.1) && (backToKw cpos (keywordEach [] X.env)).all (fun x=>x.1.isSome) && decide ((e :: es).length + ([]:List Keyword).length + (if ([]:List Keyword).isEmpty then 0 else 1) < 30))=true:=by
 rw [(BA (es:=e :: es) (env:=X.env) (p:=cpos) (by rw [B0,List.all_cons,h1];exact h2)).2]
 show (true && true && decide (es.length + 1 + 0 + 0 < 30))=true
 simp;lia
theorem Ix {μ:Cf→Hp→D→(V→Hp→Prop)→Prop} (i:Nat) {x:Str} {g:M (List D)} {px apos cpos:Pos} (ha:PA X (e :: es) (RA X.K g)) (hN:X.N[i]?=some x:=by rfl) (hv:Vis X.env.scope x:=by first | exact Or.inl rfl | exact Or.inr (Or.inl rfl) | exact Or.inr (Or.inr rfl)) (hd:(x == ("__debug__" : Str))=false:=by decide)
 (hcd:(x == ("__classdict__" : Str))=false:=by decide) (hline:(apos.endLine == cpos.line)=true:=by rfl) (h1:BK e=false:=by rfl) (h2:B0 es=true:=by rfl) (h3:es.length < 20:=by decide) :
 PS X (.Expr (.Call (.Attribute (.Name x px) "append" apos) (e :: es) [] cpos) pos) (RSg X.K μ (ownM i F6 g)):=NX i ha hN hv hd hcd rfl (NU h1 h2 h3) hline (Bs h1) (BA h2).1
end
end F2
namespace HT
open PySem PySem.Spec L2 PyProof.Rows
section
variable {prog:Program} {w:World} {A:Around} {E:Value→Shared→Prop} {s:Shared}
end
end HT
namespace L2
open PySem PySem.Spec PyProof.Rows
section
variable {X:Cx} {e ek:Expr} {p2 pos:Pos} {te:TE} {tk:TO}
end
section
variable {X:Cx}
theorem GC:∀{ys:List Str} {us:List Value},Vals (ys.map V.str) us→CarriedAll us (ys.map PyData.str)
 | [],_,r=>by cases r;exact .nil
 | _ :: _,_,r=>by
   cases r with
   | cons r1 r2=>obtain ⟨t,rfl⟩:=r1;exact .cons (.str _ _) (GC r2)
def Qn (K:PySem.W.Frag):V→List V→Hp→VK→Prop:=fun x xs H Q=>∃z a ys,x = .str z∧xs=[.ref a]∧SqL K H a (ys.map V.str)∧(∀y∈ys,y.length≤8)∧z.length≤8∧ys.length≤1048576∧Q (.str (Txt.join z ys)) H
theorem Q2:MtR X "str.join" (Qn X.K):=by
 intro pins s σ H x xs v us Q I rx rs h
 obtain ⟨z,a,ys,rfl,rfl,ha,h1,h2,h3,q⟩:=h
 obtain ⟨t,rfl⟩:=rx
 obtain ⟨u,rfl,ru⟩:=ER rs
 cases ru
 obtain ⟨its,r,pl,_⟩:=I.list ha
 refine join_madeW (l:=ys) (g:=id) 8 pl.isList (by rw [List.map_id];exact GC r) h1 h3 (by lia) fun t' k=>?_
 rw [List.map_id]
 exact ⟨.str _,H,I.tok _,⟨_,rfl⟩,q⟩
end
section
variable {X:Cx}
end
section
variable {X:Cx}
theorem SL {ns:List Int} {M N:Int} (h1:M∈ns) (h2:∀a,a∈ns→a≤M) (h:ns.max?=some N):M=N:=by
 have:=List.max?_eq_some_iff.mp h
 exact Int.le_antisymm (this.2 M h1) (h2 N this.1)
theorem NG (hc:X.calm=true):B2 X (.builtin "max") (fun xs H Q=>∃(a:Addr) (ns:List Int) (M:Int),xs=[.ref a]∧SqL X.K H a (ns.map V.int)∧ns.max?=some M∧Q (.int M) H):=by
 intro pins s σ H xs us Q I r h
 obtain ⟨a,ns,N,rfl,ha,hN,q⟩:=h
 obtain ⟨u,rfl,ru⟩:=ER r
 cases ru
 obtain ⟨its,r',pl,_⟩:=I.list ha
 have hi:IntsAre its ns:=MZ r'
 have hne:0 < ns.length:=List.length_pos_iff.mpr fun e=>by subst e;cases hN
 have hl:=pl.isList
 obtain ⟨xs,e⟩:=hi.allInts.items
 have hns:ns=xs.toList.map (·.1):=by
  rw [←hi.numsOf,←nums_intItems,←e]
 have hsz:0 < xs.size:=by
  have h3:=hne;rw [hns,List.length_map,Array.length_toList] at h3;exact h3
 rw [e] at hl
 refine max_intList (I.ok.hd hc) hl hsz fun v h' tk hv hk=>?_
 obtain ⟨t,rfl⟩:=intItems_at hv
 obtain ⟨h1,h2⟩:=argBest_gt (numAt xs) (xs.size - 1)
 have m1:numAt xs (argBest (fun i j=>decide (numAt xs i > numAt xs j)) (xs.size - 1))∈ns:=by
  rw [hns,numAt_eq];exact getD_mem (by rw [List.length_map,Array.length_toList];lia)
 have m2:∀a,a∈ns→a≤numAt xs (argBest (fun i j=>decide (numAt xs i > numAt xs j)) (xs.size - 1)):=fun a ha=>by
  rw [hns] at ha
  obtain ⟨j,hj,rfl⟩:=mem_getD ha
  rw [List.length_map,Array.length_toList] at hj
  rw [←numAt_eq];exact h2 j (by lia)
 have em:=SL m1 m2 hN
 refine ⟨.int N,H,I.kept hk,⟨t,?_⟩,q⟩
 rw [←em]
end
end L2
namespace F2
open PySem L2 PySem.Spec
section
variable {X:Cx} {K:PySem.W.Frag}
theorem UJ {x y z:V} {us:List Value} (r:Vals [x,y,z] us):∃u v w',us=[u,v,w']∧RelV x u∧RelV y v∧RelV z w':=by
 cases r with
 | cons r1 r2=>obtain ⟨v,w',rfl,h1,h2⟩:=Hh r2;exact ⟨_,_,_,rfl,r1,h1,h2⟩
def min3I (a b c:Int):Int:=if b < a then (if c < b then c else b) else (if c < a then c else a)
theorem JQ (hc:X.calm=true):B2 X (.builtin "min") (fun xs H Q=>∃i j l,xs=[.int i,.int j,.int l]∧Q (.int (min3I i j l)) H):=by
 intro pins s σ H xs us Q I r h
 obtain ⟨i,j,l,rfl,q⟩:=h
 obtain ⟨u,v,w',rfl,⟨t,rfl⟩,⟨t',rfl⟩,⟨t'',rfl⟩⟩:=UJ r
 refine min_three_ints (I.ok.hd hc) fun h' tk k=>⟨_,H,I.kept k,?_,q⟩
 unfold min3I
 by_cases h1:j < i
 ·by_cases h2:l < j
  ·simp only [if_pos h1,if_pos h2];exact ⟨_,rfl⟩
  ·simp only [if_pos h1,if_neg h2];exact ⟨_,rfl⟩
 ·by_cases h2:l < i
  ·simp only [if_neg h1,if_pos h2];exact ⟨_,rfl⟩
  ·simp only [if_neg h1,if_neg h2];exact ⟨_,rfl⟩
theorem Ux {c:Cf} {H:Hp} {xs:List V} {d e f:D} (r:Reps K c H xs [d,e,f]):∃v u w,xs=[v,u,w]∧Rep K c H v d∧Rep K c H u e∧Rep K c H w f:=by
 cases r with
 | cons r1 r2=>obtain ⟨u,w,rfl,h1,h2⟩:=Kw r2;exact ⟨_,_,_,rfl,r1,h1,h2⟩
def IG:List D→M D
 | [.int i,.int j,.int l]=>ret (.int (min3I i j l))
 | _=>fail
theorem LA:DJ K (fun xs H Q=>∃i j l,xs=[.int i,.int j,.int l]∧Q (.int (min3I i j l)) H) IG:=fun {Oo c t σ H xs ds r t' Q} f rx eq k=>by
 unfold IG at eq
 split at eq
 ·next i j l=>
  obtain ⟨v,u,w,rfl,rv,ru,rw'⟩:=Ux rx
  cases rv;cases ru;cases rw';cases eq
  exact ⟨i,j,l,rfl,k _ H c f .refl (.int _)⟩
 ·cases eq
def Fq:List D→Option (List Str)
 | []=>some []
 | .str x :: r=>if x.length≤8 then (Fq r).map (x :: ·) else none
 | _=>none
def joinM (f:M D) (g:M (List D)):M D:=bnd f fun o=>bnd g fun as=>match o,as with
 | .str z,[.lst ds]=>fun t=>match Fq ds with
   | some ys=>if z.length≤8∧ys.length≤1048576 then some (.str (Txt.join z ys),t) else none
   | none=>none
 | _,_=>fail
theorem LK {c:Cf} {H:Hp}:∀{ds:List D} {vs:List V} {ys:List Str},Reps K c H vs ds→Fq ds=some ys→vs=ys.map V.str∧∀y∈ys,y.length≤8
 | [],_,ys,r,e=>by
   cases r
   cases e
   exact ⟨rfl,fun _ h=>nomatch h⟩
 | d :: ds,_,ys,r,e=>by
   cases r with
   | cons r1 r2=>
     cases r1 with
     | str x=>
       unfold Fq at e
       split at e
       ·next hx=>
        obtain ⟨zs,e1,rfl⟩:=Option.map_eq_some_iff.mp e
        obtain ⟨h1,h2⟩:=LK r2 e1
        refine ⟨by rw [h1];rfl,fun y hy=>?_⟩
        rcases List.mem_cons.mp hy with rfl | hy
        ·exact hx
        ·exact h2 y hy
       ·cases e
     | _=>cases e
theorem RE.joinM {f:M D} {g:M (List D)} {σ:L2.St} {H:Hp} {Q:VK} (q:RE K (F2.joinM f g) σ H Q):tBM K "str" (Qn K) (RE K f) (RA K g) σ H Q:=by
 obtain ⟨Oo,c,t,fi,r,t',eq,k⟩:=q
 obtain ⟨d,t1,e1,eq⟩:=Ap eq
 obtain ⟨as,t2,e2,eq⟩:=Ap eq
 refine ⟨Oo,c,t,fi,d,t1,e1,fun v H1 c1 f1 s1 rv=>?_⟩
 split at eq
 ·next z ds=>
  cases rv
  refine ⟨rfl,Oo,c1,t1,f1,_,t2,e2,fun us H2 c2 f2 s2 rus=>?_⟩
  obtain ⟨w,rfl,rw'⟩:=DZ rus
  split at eq
  ·next ys ey=>
   split at eq
   ·next hz=>
    cases eq
    cases rw' with
    | @lst p vs ds h1 h2 h3=>
      obtain ⟨h4,h5⟩:=LK h3 ey
      subst h4
      exact ⟨_,p,ys,rfl,rfl,SqL.of h1,h5,hz.1,hz.2,k _ _ c2 f2 (s1.trans s2) (.str _)⟩
   ·cases eq
  ·cases eq
 ·cases eq
theorem Mm {o e:Expr} {es:List Expr} {f:M D} {g:M (List D)} {apos cpos:Pos} (ho:PE X o (RE X.K f)) (ha:PA X (e :: es) (RA X.K g))
 (hbase:attributeBase o "join" X.env (eval o X.env)=eval o X.env:=by rfl)
 (hfew:((backTo cpos (starEach (e :: es) X.env)).all (fun x=>!x.1) && (backToKw cpos (keywordEach [] X.env)).all (fun x=>x.1.isSome) && decide ((e :: es).length + ([]:List Keyword).length + (if ([]:List Keyword).isEmpty then 0 else 1) < 30))=true:=by rfl)
 (hline:(apos.endLine == cpos.line)=true:=by rfl) (hs:starEach (e :: es) X.env=(false,eval e X.env) :: starEach es X.env:=by rfl) (hplain:(backTo cpos (starEach es X.env)).any (·.1)=false:=by rfl) :
 PE X (.Call (.Attribute o "join" apos) (e :: es) [] cpos) (RE X.K (joinM f g)):=
 Bu (Nc PySem.F.plainAttrs_str PySem.F.slot_str_join PySem.F.type_str_join Q2 ho ha hbase hfew hline hs hplain) fun _ _ _ q=>RE.joinM q
def El:List D→Option (List Int)
 | []=>some []
 | .int i :: r=>(El r).map (i :: ·)
 | _=>none
def IF:List D→M D
 | [.lst ds]=>fun t=>match El ds with
   | some ns=>match ns.max? with
     | some m=>some (.int m,t)
     | none=>none
   | none=>none
 | _=>fail
theorem HA {c:Cf} {H:Hp}:∀{ds:List D} {vs:List V} {ns:List Int},Reps K c H vs ds→El ds=some ns→vs=ns.map V.int
 | [],_,ns,r,e=>by
   cases r
   cases e
   rfl
 | d :: ds,_,ns,r,e=>by
   cases r with
   | cons r1 r2=>
     cases r1 with
     | int i=>
       obtain ⟨zs,e1,rfl⟩:=Option.map_eq_some_iff.mp e
       rw [HA r2 e1]
       rfl
     | _=>cases e
theorem Pz:DJ K (fun xs H Q=>∃(a:Addr) (ns:List Int) (M:Int),xs=[.ref a]∧SqL K H a (ns.map V.int)∧ns.max?=some M∧Q (.int M) H) IF:=fun {Oo c t σ H xs ds r t' Q} f rx eq k=>by
 unfold IF at eq
 split at eq
 ·next ds=>
  obtain ⟨v,rfl,rv⟩:=DZ rx
  split at eq
  ·next ns en=>
   split at eq
   ·next m em=>
    cases eq
    cases rv with
    | @lst p vs ds h1 h2 h3=>
      have h4:=HA h3 en
      subst h4
      exact ⟨p,ns,m,rfl,SqL.of h1,em,k _ H c f .refl (.int _)⟩
   ·cases eq
  ·cases eq
 ·cases eq
end
end F2
namespace L2
open PySem PySem.Spec PyProof.Rows
section
variable {X:Cx}
end
end L2
namespace F2
open PySem L2 PySem.Spec
def Uo (kvs:List (Key×D)) (k:Key):Option D:=(kvs.find? fun kv=>decide (kv.1=k)).map (·.2)
def CQ (i:Nat) (g:M D):M D:=fun t=>match t.env[i]? with
 | some (some (.own _))=>bnd g (fun j t1=>match j,t1.env[i]? with
   | .int j,some (some (.own xs))=>(atI xs j).map fun d=>(d,t1)
   | _,_=>none) t
 | _=>none
section
variable {K:PySem.W.Frag} {c:Cf} {H:Hp}
end
section
variable {X:Cx} {pos:Pos} {e:Expr}
theorem C8 (i:Nat) {x:Str} {ix:Expr} {g:M D} {px:Pos} (hi:PE X ix (RE X.K g)) (hs:IT ix) (hN:X.N[i]?=some x:=by rfl) (hv:Vis X.env.scope x:=by first | exact Or.inl rfl | exact Or.inr (Or.inl rfl) | exact Or.inr (Or.inr rfl)) (hd:(x == ("__debug__" : Str))=false:=by decide)
 (hcd:(x == ("__classdict__" : Str))=false:=by decide):PE X (.Subscript (.Name x px) ix pos) (RE X.K (CQ i g)):=
 Bu (Qh ix_list (DQ hN hv hd hcd) hi hs) fun σ H Q ⟨Oo,c,t,fi,r,t',eq,k⟩=>by
  unfold CQ at eq
  split at eq
  ·next xs0 e0=>
   obtain ⟨j,t1,e1,eq⟩:=Ap eq
   obtain ⟨a,vs0,h1,h2,h3,h4,h5⟩:=fi.own i xs0 e0
   refine ⟨.ref a,h1,Oo,c,t,fi,j,t1,e1,fun y H1 c1 f1 s1 ry=>?_⟩
   split at eq
   ·next j' xs ex=>
    obtain ⟨d,en,ez⟩:=Option.map_eq_some_iff.mp eq
    cases ez
    cases ry
    obtain ⟨a',vs,g1,g2,g3,g4,g5⟩:=f1.own i xs ex
    rw [h1] at g1;injection g1 with g1;injection g1 with g1;injection g1 with g1;subst g1
    obtain ⟨v,e3,e4⟩:=F7 g5 en
    exact ⟨a,vs,j',v,rfl,rfl,SqL.of g4,e3,k _ H1 c1 f1 s1 e4⟩
   ·cases eq
  ·cases eq
end
end F2
namespace L2
open PySem PySem.Spec PyProof.Rows
section
variable {X:Cx}
end
end L2
namespace F2
open PySem L2 PySem.Spec
section
variable {X:Cx} {pos:Pos} {e:Expr} {es:List Expr}
end
end F2
namespace L2
open PySem PySem.Spec PyProof.Rows
section
variable {prog:Program} {w:World} {A:Around} {I:Addr} {fp wr:List Addr} {G:Array GenState→Array GenState→Prop} {n:Nat} {P:Nat→Value→Prop} {St:Nat→Shared→Prop}
end
section
variable {X:Cx}
end
end L2
namespace F2
open PySem L2 PySem.Spec PyProof.Rows
section
variable {X:Cx} {pos:Pos} {e:Expr}
end
end F2
namespace F2
open PySem L2 PySem.Spec
def Di (f:M Bool) (b:M Out):Nat→M Out
 | 0=>fun _=>none
 | n + 1=>fun t=>match f t with
   | none=>none
   | some (false,t1)=>some (.next,t1)
   | some (true,t1)=>match b t1 with
     | some (.next,t2)=>Di f b n t2
     | some (.cont,t2)=>Di f b n t2
     | some (.brk,t2)=>some (.next,t2)
     | some (.ret x,t2)=>some (.ret x,t2)
     | none=>none
def Kr:Nat:=1000000
def LS (f:M Bool) (b:M Out):M Out:=Di f b Kr
theorem RS.while {μ:Cf→Hp→D→(V→Hp→Prop)→Prop} {K:PySem.W.Frag} {f:M Bool} {b:M Out} {E:Ends} {σ:L2.St} {H:Hp} (q:RSg K μ (LS f b) E σ H):OC (RT K f) (RSg K μ b) E σ H:=by
 obtain ⟨Oo,c,t,fi,o,t',eq,k⟩:=q
 refine ⟨fun m σ' H'=>∃c' t2,FInv K Oo c' t2 σ' H'∧Stp Oo c H c' H'∧Di f b m t2=some (o,t'),⟨Kr,c,t,fi,.refl,eq⟩,?_⟩
 rintro m σ' H' ⟨c',t2,f2,s2,e2⟩
 cases m with
 | zero=>cases e2
 | succ m=>
 rw [Di] at e2
 dsimp only at e2
 cases ef:f t2 with
 | none=>rw [ef] at e2;cases e2
 | some p=>
 obtain ⟨r,t3⟩:=p
 rw [ef] at e2
 refine ⟨Oo,c',t2,f2,r,t3,ef,fun H3 c3 f3 s3=>?_⟩
 cases r with
 | false=>
   cases e2
   exact k σ' H3 c3 f3 (s2.trans s3)
 | true=>
   rw [if_pos rfl]
   dsimp only at e2
   refine ⟨fun σ4 H4=>∃c4 t4,FInv K Oo c4 t4 σ4 H4∧Stp Oo c H c4 H4∧Di f b m t4=some (o,t'),fun σ4 H4 h=>⟨m,Nat.lt_succ_self m,h⟩,?_⟩
   cases eb:b t3 with
   | none=>rw [eb] at e2;cases e2
   | some p=>
   obtain ⟨ob,t4⟩:=p
   rw [eb] at e2
   refine ⟨Oo,c3,t3,f3,ob,t4,eb,fun σ4 H4 c4 f4 s4=>?_⟩
   cases ob with
   | next=>exact ⟨c4,t4,f4,(s2.trans s3).trans s4,e2⟩
   | cont=>exact ⟨c4,t4,f4,(s2.trans s3).trans s4,e2⟩
   | brk=>
     cases e2
     exact k σ4 H4 c4 f4 ((s2.trans s3).trans s4)
   | ret x=>
     cases e2
     exact k σ4 H4 c4 f4 ((s2.trans s3).trans s4)
section
variable {X:Cx} {pos:Pos}
theorem O1 {μ:Cf→Hp→D→(V→Hp→Prop)→Prop} {e:Expr} {body:List Stmt} {f:M Bool} {b:M Out} (hp:PassesOwn (model X.prog X.w) X.A X.env X.xe) (hc:PT X e (RT X.K f)) (hb:PSs X body (RSg X.K μ b)):PS X (.While e body [] pos) (RSg X.K μ (LS f b)):=
 BV (Po hp hc hb) fun _ _ _ q=>RS.while q
end
end F2
namespace L2
open PySem PySem.Spec PyProof.Rows
theorem Hr (ns:List Int):∀n:Nat,n≤ns.length→preSum (fun i=>ns.getD i 0) n=(ns.take n).sum
 | 0,_=>by simp [preSum]
 | n + 1,h=>by
   rw [preSum,Hr ns n (by lia),List.take_succ,List.getElem?_eq_getElem (by lia),List.sum_append]
   simp [List.getD_eq_getElem?_getD,List.getElem?_eq_getElem (show n < ns.length by lia)]
theorem NH {X:Cx} (hc:X.calm=true):B2 X (.builtin "sum") (fun xs H Q=>∃(p:Addr) (ns:List Int),xs=[.ref p]∧SqL X.K H p (ns.map V.int)∧Q (.int ns.sum) H):=by
 intro pins s σ H xs us Q I r h
 obtain ⟨p,ns,rfl,hq,q⟩:=h
 obtain ⟨u,rfl,rx⟩:=ER r
 cases rx
 obtain ⟨its,rv,pl,hz⟩:=I.list hq
 have hl:=rv.length
 rw [List.length_map] at hl
 have hlist:=pl.isList
 have lp:p < s.heap.objs.size:=by obtain ⟨o,ho,_⟩:=hlist;exact Heap.lt_size ho
 refine call_sum_walkAnyS (wpAny_pyIter_list hlist ?_)
 refine ⟨s.heap.objs.size,_,_,_,_,_,_,fun i=>ns.getD i 0,rfl,(Walks.list (by simp [I.ok.hd hc]) s.heap.objs.size p (Nat.ne_of_lt lp) its.toArray).toS,⟨⟨_,Heap.get?_push_size _ rfl,rfl,rfl⟩,hlist.push _⟩,?_,?_,?_⟩
 ·intro b hb
  simp only [List.mem_cons,List.not_mem_nil,or_false] at hb
  show b < (s.heap.push _).objs.size
  rw [Heap.size_push]
  rcases hb with rfl | rfl
  ·exact Nat.lt_succ_self _
  ·exact Nat.lt_succ_of_lt lp
 ·intro i v e
  have e':its[i]?=some v:=by simpa using e
  obtain ⟨hi,_⟩:=List.getElem?_eq_some_iff.mp e'
  have hy:(ns.map V.int)[i]?=some (.int (ns.getD i 0)):=by
   rw [List.getElem?_map,List.getD_eq_getElem?_getD,List.getElem?_eq_getElem (by lia)];rfl
  obtain ⟨w',ew,rw'⟩:=rv.get hy
  rw [e'] at ew;cases ew
  exact rw'
 ·intro s' t' mv
  obtain ⟨h',g',d',tk',os'⟩:=s'
  obtain rfl:g'=s.gens:=mv.gens
  obtain rfl:d'=s.drawn:=mv.drawn
  obtain rfl:os'=s.os:=mv.os
  have e:preSum (fun i=>ns.getD i 0) its.toArray.size=ns.sum:=by
   rw [Hr ns _ (by simp;lia),List.take_of_length_le (by simp;lia)]
  refine ⟨.int ns.sum,H,I.kept (t':=tk') fun b o e=>?_,⟨t',by rw [e]⟩,q⟩
  have lb:=Heap.lt_size e
  exact mv.heap b o (by simp only [List.mem_cons,List.not_mem_nil,or_false];exact Nat.ne_of_lt lb) (Heap.get?_push_of_some _ e)
end L2
namespace F2
open PySem L2 PySem.Spec
def LL:List D→M D
 | [.lst ds]=>fun t=>match El ds with
   | some ns=>some (.int ns.sum,t)
   | none=>none
 | _=>fail
theorem PB {K:PySem.W.Frag}:DJ K (fun xs H Q=>∃(p:Addr) (ns:List Int),xs=[.ref p]∧SqL K H p (ns.map V.int)∧Q (.int ns.sum) H) LL:=fun {Oo c t σ H xs ds r t' Q} f rx eq k=>by
 unfold LL at eq
 split at eq
 ·next es=>
  split at eq
  ·next ns e=>
   cases eq
   obtain ⟨v,rfl,rv⟩:=DZ rx
   cases rv with
   | @lst a ws es g1 g2 g3=>
   have:=HA g3 e
   subst this
   exact ⟨a,ns,rfl,SqL.of g1,k _ H c f .refl (.int _)⟩
  ·cases eq
 ·cases eq
end F2
namespace L2
open PySem PySem.Spec PyProof.Rows
section
variable {X:Cx} {tg:Expr}
end
end L2
namespace F2
open PySem L2 PySem.Spec
section
variable {X:Cx} {pos:Pos} {e:Expr} {es:List Expr}
end
def EH (H:Hp) (a:Addr):Hp:=fun b=>if b=a then none else H b
theorem Ph {H:Hp} {a:Addr} {o:HO} (h:H a=some o):upd (EH H a) a o=H:=by
 funext b
 by_cases e:b=a
 ·subst e;rw [AJ];exact h.symm
 ·rw [Au e];unfold EH;rw [if_neg e]
section
variable {K:PySem.W.Frag} {Oo:Addr→Prop} {c:Cf} {t:T} {σ:L2.St} {H:Hp}
theorem FInv.out (f:FInv K Oo c t σ H) {i:Nat} {ds:List D} (e:t.env[i]?=some (some (.own ds))) {a:Addr} (ha:σ[i]?=some (some (.ref a))) :
 FInv K Oo ⟨c.ι,fun b=>c.O b∧b≠a⟩ { t with env:=t.env.set i none } σ (EH H a)∧Stp Oo c H ⟨c.ι,fun b=>c.O b∧b≠a⟩ (EH H a):=by
 obtain ⟨a',vs,g1,g2,g3,g4,g5⟩:=f.own i ds e
 rw [ha] at g1;injection g1 with g1;injection g1 with g1;injection g1 with g1;subst g1
 have ni:a∉c.ι:=f.s.dis a g2
 have ext:Ext c H ⟨c.ι,fun b=>c.O b∧b≠a⟩ (EH H a):=by
  refine ⟨fun b o hb hn=>?_,fun b o hb z=>?_,fun k b h=>h⟩
  ·unfold EH;rw [if_neg fun z=>hn (by rw [z];exact .inr g2)];exact hb
  ·rcases z with z | z
   ·exact .inl z
   ·exact .inr z.1
 have stp:Stp Oo c H ⟨c.ι,fun b=>c.O b∧b≠a⟩ (EH H a):=⟨ext,fun b hb=>by unfold EH;rw [if_neg fun z=>g3 (by rw [←z];exact hb)]⟩
 have old:∀{j:Nat} {x:Sl},(t.env.set i none)[j]?=some (some x)→j≠i∧t.env[j]?=some (some x):=fun {j x} q=>by
  by_cases h:j=i
  ·subst h
   rw [List.getElem?_set] at q
   split at q
   ·split at q <;> simp at q
   ·contradiction
  ·exact ⟨h,by rw [List.getElem?_set_ne (Ne.symm h)] at q;exact q⟩
 refine ⟨⟨⟨f.s.len,f.s.nd,fun k b o e1 e2=>?_,fun b hb=>?_,fun b hb=>f.s.dis b hb.1⟩,by simpa using f.len,fun b hb=>⟨f.sub b hb,fun z=>g3 (by rw [←z];exact hb)⟩,fun j d q=>?_,fun j es q=>?_,fun j k es fs b q1 q2 q3 q4=>?_⟩,stp⟩
 ·refine (f.s.obs k b o e1 e2).mono ext ?_
  unfold EH
  rw [if_neg fun z=>ni (by rw [←z];exact List.mem_of_getElem? e1)]
 ·obtain ⟨o,ho⟩:=f.s.trk b hb.1
  exact ⟨o,by unfold EH;rw [if_neg hb.2];exact ho⟩
 ·obtain ⟨v,h1,h2⟩:=f.val j d (old q).2
  exact ⟨v,h1,h2.mono ext⟩
 ·obtain ⟨nj,q'⟩:=old q
  obtain ⟨b,us,k1,k2,k3,k4,k5⟩:=f.own j es q'
  have nb:b≠a:=fun z=>nj (f.inj j i es ds a q' e (by rw [k1,z]) ha)
  exact ⟨b,us,k1,⟨k2,nb⟩,k3,by unfold EH;rw [if_neg nb];exact k4,k5.mono ext⟩
 ·exact f.inj j k es fs b (old q1).2 (old q2).2 q3 q4
end
def EW (i:Nat):M Out:=fun t=>match t.env[i]? with
 | some (some (.own xs))=>some (.ret (.lst xs),{ t with env:=t.env.set i none })
 | _=>none
def DB (f:M (List D)):M Out:=bnd f fun ds=>ret (.ret (.lst ds))
section
variable {X:Cx} {pos:Pos} {e:Expr} {es:List Expr}
theorem B6 {f:M (List D)} (h:PE X e (RF X.K f)):PS X (.Return (some e) pos) (RSg X.K (μF X.K) (DB f)):=
 BV (GS h) fun E σ H ⟨Oo,c,t,fi,o,t',eq,k⟩=>by
  obtain ⟨ds,t1,e1,eq⟩:=Ap eq
  cases eq
  exact ⟨Oo,c,t,fi,ds,_,e1,fun p us H1 c1 f1 s1 ru hp=>k σ H1 c1 f1 s1 p us hp ru⟩
theorem Fy (i:Nat) {x:Str} {px:Pos} (hN:X.N[i]?=some x:=by rfl) (hv:Vis X.env.scope x:=by first | exact Or.inl rfl | exact Or.inr (Or.inl rfl) | exact Or.inr (Or.inr rfl)) (hd:(x == ("__debug__" : Str))=false:=by decide)
 (hcd:(x == ("__classdict__" : Str))=false:=by decide):PS X (.Return (some (.Name x px)) pos) (RSg X.K (μF X.K) (EW i)):=
 BV (GS (DQ hN hv hd hcd)) fun E σ H ⟨Oo,c,t,fi,o,t',eq,k⟩=>by
  unfold EW at eq
  split at eq
  ·next xs ex=>
   cases eq
   obtain ⟨a,vs,h1,h2,h3,h4,h5⟩:=fi.own i xs ex
   refine ⟨.ref a,h1,?_⟩
   obtain ⟨f2,s2⟩:=fi.out ex h1
   have:=k σ (EH H a) _ f2 s2 a vs (by unfold EH;rw [if_pos rfl]) (h5.mono s2.ext)
   rw [Ph h4] at this
   exact this
  ·cases eq
def HN (K:PySem.W.Frag) (f:Fn):Sp:=fun vs H Q _=>∃c ds S,SInv K c S H∧Reps K c H vs ds∧∃rs S',f ds S=some (.lst rs,S')∧
 ∀p us H' c',SInv K c' S' H'→Stp c.O c H c' H'→(∀b,c'.O b↔c.O b)→Reps K c' H' us rs→H' p=none→Q (.ref p) (upd H' p (.lst us))
def DM (g:Fn) (f:M (List D)):M (List D):=bnd f fun ds t=>match g ds t.S with
 | some (.lst rs,S')=>some (rs,{ t with S:=S' })
 | _=>none
theorem MR {g:Fn} {ds:List D} {t:T} {rs:List D} {t':T} (h:(match g ds t.S with | some (.lst rs,S')=>some (rs,{ t with S:=S' }) | _=>none:Option (List D×T))=some (rs,t')):∃S',g ds t.S=some (.lst rs,S')∧t' = { t with S:=S' }:=by
 split at h
 ·next rs' S' e=>cases h;exact ⟨S',e,rfl⟩
 ·cases h
theorem D2 {k:Nat} {fa:Addr} {fd:FuncData} {ps:List Str} {g:Fn} {f:M (List D)} {x:Str} {p:Pos} (F:FnOk X.prog X.w X.K X.mg X.base CX0 k fa fd ps (HN X.K g)) (hr:Room k X.A) (hg:Gl X x) (hm:X.mg x=some (.ref fa)) (hk:PySem.W.keepIn X.K (.ref fa)=true) (hb:Binds X.K fd ps [])
 (ha:PA X (e :: es) (RA X.K f)) (hdb:(x == ("__debug__" : Str))=false:=by decide) (h1:BK e=false:=by rfl) (h2:B0 es=true:=by rfl) :
 PE X (.Call (.Name x p) (e :: es) [] pos) (RF X.K (DM g f)):=
 Bu (Mz F hr hg hm hk hb .nil Qg ha hdb (Bs h1) (BA h2).1) fun σ H Q ⟨Oo,c,t,fi,rs,t',eq,kk⟩=>by
  obtain ⟨ds,t1,e1,eq⟩:=Ap eq
  obtain ⟨S',e2,rfl⟩:=MR eq
  refine ⟨Oo,c,t,fi,ds,t1,e1,fun vs H1 c1 f1 s1 rvs=>?_⟩
  show HN X.K g (vs++[]) H1 Q E0
  rw [List.append_nil]
  refine ⟨c1,ds,t1.S,f1.s,rvs,rs,S',e2,fun p us H' c' si st ho ru hp=>?_⟩
  obtain ⟨f2,s2⟩:=f1.after si st ho
  exact kk p us H' c' f2 (s1.trans s2) ru hp
theorem NS {k:Nat} {fa:Addr} {fd:FuncData} {ps:List Str} {g:Fn} {f:M (List D)} {x:Str} {p:Pos} (F:FnOk X.prog X.w X.K X.mg X.base CX0 k fa fd ps (HN X.K g)) (hr:Room k X.A) (hg:Gl X x) (hm:X.mg x=some (.ref fa)) (hk:PySem.W.keepIn X.K (.ref fa)=true) (hb:Binds X.K fd ps [])
 (ha:PA X (e :: es) (RA X.K f)) (hdb:(x == ("__debug__" : Str))=false:=by decide) (h1:BK e=false:=by rfl) (h2:B0 es=true:=by rfl) :
 PE X (.Call (.Name x p) (e :: es) [] pos) (RE X.K (Bb (DM g f))):=A4 (D2 F hr hg hm hk hb ha hdb h1 h2)
end
theorem G5 {P:Program} {w:World} {K:PySem.W.Frag} {mg:Str→Option Value} {base:Heap} {x qual:Str} {st:Stmt} {fa:Addr} {fd:FuncData} {N ps:List Str} {k n m:Nat} {g:M Out} (e1:ps.length=n) (e2:N.length=m) (F:Fun K x qual st fa fd) (S:FnScope N ps (As st))
 (hb:∀(cdv:Value) (A:Around) (outer:List Env) (s:Shared) (H:Hp) (E:XK),Room k (A.deeper (PyProof.Rows.envOfC qual (As st) s.heap.objs.size fa cdv))→
   PSs (EE CX0 P w K mg base N qual (As st) fa cdv A outer s H E).nox (B3 st) (RSg K (μF K) g)):FnOk P w K mg base CX0 (k + 1) fa fd ps (HN K (fnOf n m g)):=by
 subst e1 e2
 have hlen:∀{ds:List D} {S:List Ob} {z:D×List Ob},fnOf ps.length N.length g ds S=some z→ds.length=ps.length:=fun {ds S z} h=>by
  unfold fnOf at h
  split at h
  ·next h1=>exact h1
  ·cases h
 refine F.ok S (fun vs H Q E h=>?_) (fun cdv A outer s H vs Q E hr h=>?_)
 ·obtain ⟨c,ds,S,si,rs,r,S',e,_⟩:=h
  rw [rs.length];exact hlen e
 obtain ⟨c,ds,S0,si,rs,r,S',e,kk⟩:=h
 refine ⟨RSg K (μF K) g,hb cdv A outer s H E hr,?_⟩
 have hl:=hlen e
 unfold fnOf at e
 rw [if_pos hl] at e
 cases eg:g ⟨env0 N.length ds,S0⟩ with
 | none=>rw [eg] at e;cases e
 | some p=>
   obtain ⟨o,t⟩:=p
   rw [eg] at e
   refine ⟨c.O,c,_,Gb si rs,o,t,eg,fun σ' H' c' f' s'=>?_⟩
   obtain ⟨si',ext'⟩:=f'.leave
   have st':Stp c.O c H ⟨c'.ι,c.O⟩ H':=⟨s'.ext.trans ext',s'.oo⟩
   cases o with
   | next=>cases e
   | ret d=>
     cases e
     exact fun p us hp ru=>kk p us H' _ si' st' (fun _=>Iff.rfl) (ru.mono ext') hp
   | brk=>cases e
   | cont=>cases e
theorem Hc {P:Program} {w:World} {K:PySem.W.Frag} {mg:Str→Option Value} {base:Heap} {fa:Addr} {fd:FuncData} {ps:List Str} {k:Nat} {f g:Fn} (e:f=g) (h:FnOk P w K mg base CX0 k fa fd ps (HN K g)):FnOk P w K mg base CX0 k fa fd ps (HN K f):=by rw [e];exact h
end F2
namespace L2
open PySem PySem.Spec PyProof.Rows
section
variable {X:Cx}
theorem Re {o:Expr} {to:TE} {apos cpos:Pos} (ho:PE X o to) (hbase:attributeBase o "bit_length" X.env (eval o X.env)=eval o X.env:=by rfl) (hline:(apos.endLine == cpos.line)=true:=by rfl) :
 PE X (.Call (.Attribute o "bit_length" apos) [] [] cpos) (fun σ H Q=>to σ H fun v H1=>∃i,v = .int i∧Q (.int (Builtin.Int.intBits i:Nat)) H1):=by
 intro pins s σ H Q I h
 refine Call_method0 hbase hline (thn (ho pins s σ H _ I h) fun u s1 ⟨v,H1,I1,rv,i,ex,q⟩=>?_)
 subst ex
 obtain ⟨t,rfl⟩:=rv
 exact ⟨"int", "int.bit_length",PySem.F.plainAttrs_int,PySem.F.slot_int_bit_length,PySem.F.type_int_bit_length,typeIs_int _ _ _,(fun _ e=>nomatch e),
  method0_gives PySem.F.slot_int_bit_length PySem.F.entry_int_bit_length (typeIs_int _ _ _) (PySem.F.args_int_bit_length_1 _) (PySem.AutoIntG2.int_bit_length_int_0 i t) ⟨.int (Builtin.Int.intBits i:Nat),H1,I1.tok _,⟨_,rfl⟩,q⟩⟩
def Ql:V→List V→Hp→VK→Prop:=fun x vs H Q=>∃l xs y,x = .ref l∧vs=[.int 0,y]∧H l=some (.lst xs)∧xs.length < sizeLine∧Q .non (upd H l (.lst (y :: xs)))
theorem Q1:MtM X "list.insert" Ql:=by
 intro pins s σ H x vs v us Q I rx rv h
 obtain ⟨l,xs,y,rfl,rfl,hH,hz,q⟩:=h
 cases rx
 cases rv with
 | cons r0 rv=>
 cases rv with
 | cons ru rv=>
 rename_i u _
 cases rv
 obtain ⟨t,rfl⟩:=r0
 obtain ⟨z,its,n,r,hl,e⟩:=I.lstM hH
 refine call_meets PySem.F.slot_list_insert ⟨_,e,rfl⟩ PySem.F.entry_list_insert (PySem.F.args_list_insert_3 _ _ _) (PySem.AutoListH.list_insert_list_int_val_1 l its.toArray n 0 t u (by decide) (by rw [List.size_toArray];lia)) ⟨e,?_⟩
 refine ⟨.non,_,I.lset (its':=u :: its) hH e (by simp) (.cons ru r) ?_,rfl,q⟩
 rw [List.length_cons];lia
end
end L2
namespace F2
open PySem L2 PySem.Spec
def Ks:D→M D
 | .int i=>ret (.int (Builtin.Int.intBits i:Nat))
 | _=>fail
def Je (xs:List D):List D→Option (List D)
 | [.int i,d]=>if i=0∧xs.length < LIM then some (d :: xs) else none
 | _=>none
theorem Py {K:PySem.W.Frag}:OL K Ql Je:=fun {c S H a vs us xs ds ys Q} s h r rs e k=>by
 unfold Je at e
 split at e
 ·next i d=>
  split at e
  ·next hl=>
   obtain ⟨rfl,hl⟩:=hl
   cases e
   cases rs with
   | cons r1 rs=>
   cases r1
   obtain ⟨v,rfl,rv⟩:=DZ rs
   exact ⟨a,vs,v,rfl,rfl,h,by rw [r.length];exact Nat.lt_of_lt_of_le hl Cq,k _ (.cons rv r)⟩
  ·cases e
 ·cases e
section
variable {X:Cx} {pos:Pos} {e:Expr} {es:List Expr}
theorem NR {o:Expr} {f:M D} {apos cpos:Pos} (ho:PE X o (RE X.K f)) (hbase:attributeBase o "bit_length" X.env (eval o X.env)=eval o X.env:=by rfl) (hline:(apos.endLine == cpos.line)=true:=by rfl) :
 PE X (.Call (.Attribute o "bit_length" apos) [] [] cpos) (RE X.K (fUn f Ks)):=
 Bu (Re ho hbase hline) fun σ H Q ⟨Oo,c,t,fi,r,t',eq,k⟩=>by
  obtain ⟨d,t1,e1,eq⟩:=Ap eq
  refine ⟨Oo,c,t,fi,d,t1,e1,fun x H1 c1 f1 s1 rx=>?_⟩
  unfold Ks at eq
  split at eq
  ·next i=>
   cases eq
   cases rx
   exact ⟨i,rfl,k _ H1 c1 f1 s1 (.int _)⟩
  ·cases eq
theorem MY {μ:Cf→Hp→D→(V→Hp→Prop)→Prop} (i:Nat) {x:Str} {g:M (List D)} {px apos cpos:Pos} (ha:PA X (e :: es) (RA X.K g)) (hN:X.N[i]?=some x:=by rfl) (hv:Vis X.env.scope x:=by first | exact Or.inl rfl | exact Or.inr (Or.inl rfl) | exact Or.inr (Or.inr rfl)) (hd:(x == ("__debug__" : Str))=false:=by decide)
 (hcd:(x == ("__classdict__" : Str))=false:=by decide) (hline:(apos.endLine == cpos.line)=true:=by rfl) (h1:BK e=false:=by rfl) (h2:B0 es=true:=by rfl) (h3:es.length < 20:=by decide)
 (hbase:attributeBase (.Name x px) "insert" X.env (eval (.Name x px) X.env)=eval (.Name x px) X.env:=by rfl) :
 PS X (.Expr (.Call (.Attribute (.Name x px) "insert" apos) (e :: es) [] cpos) pos) (RSg X.K μ (ownM i Je g)):=
 BV (MB (Nc PySem.F.plainAttrs_list PySem.F.slot_list_insert PySem.F.type_list_insert Q1 (DQ hN hv hd hcd) ha hbase (NU h1 h2 h3) hline (Bs h1) (BA h2).1)) fun _ _ _ q=>RS.ownM Py q
end
section
variable {X:Cx} {b elt:Expr} {pos:Pos}
end
end F2
namespace L2
open PySem PySem.Spec PyProof.Rows
theorem Inv.turnedL {X:Cx} {pins:List (Addr×Obj)} {σ:St} {H:Hp} {s:Shared} {h':Heap} {t':Nat} (fp:List Addr) (I:Inv X pins σ H s) (hf:∀b∈fp,FpOk X pins H b) (k:∀b o,b∉fp→s.heap.get? b=some o→h'.get? b=some o):Inv X pins σ H { s with heap:=h',toks:=t' }:=by
 have nit:∀b u,H b=some u→b∉fp:=fun b u e z=>by rw [(hf b z).1] at e;cases e
 refine I.step (g':=s.gens) (d':=s.drawn) (ch:=fp) (fun b hb=>?_) (fun b o _ _ hc e _=>k b o hc e) (fun b o _ _ hc e _=>⟨o.slots,k b o hc e⟩) (fun _ _ _ _ n=>n)
  (fun b o hc e=>⟨o,k b o hc e⟩) (fun _ _ e=>e) (fun _ _ _ e=>e) (fun b ps e=>⟨#[],by rw [e];simp⟩) (fun m hm=>?_) (fun b u e=>?_) I.bare
 ·obtain ⟨_,h1,_,h3,h4,h5⟩:=hf b hb
  exact ⟨h3,h1,h4,h5⟩
 ·obtain ⟨o,es,ep,ho,r⟩:=hm
  exact ⟨o,es,ep,k _ o (fun z=>(hf _ z).2.1 rfl) ho,r⟩
 ·refine (I.hok b u e).stay (fun c v hc q=>k c v ?_ q) (fun _ q=>q) fun _ _ q=>q
  rcases hc with z | z
  ·rw [z];exact nit b u e
  ·exact nit c _ z
end L2
namespace F2
open PySem L2 PySem.Spec
structure ItOk2 (K:PySem.W.Frag) (J:It) (c:Cf) (H:Hp) (ds:List D):Prop where
 go:∀c' H' (i:Nat),Ext c H c' H'→i < ds.length→J.go i H'
 yld:∀c' H' (i:Nat) x H'' d,Ext c H c' H'→ds[i]?=some d→J.yld i H' x H''→∃p vs es,x = .ref p∧H' p=none∧H''=upd H' p (.tup vs)∧d = .tup es∧Reps K c' H' vs es
 stop:∀c' H',Ext c H c' H'→J.stop ds.length H'
def RI2 (K:PySem.W.Frag) (f:M (List D)):TI:=fun σ H R=>∃Oo c t,FInv K Oo c t σ H∧∃ds t',f t=some (ds,t')∧∀J H' c',FInv K Oo c' t' σ H'→Stp Oo c H c' H'→ItOk2 K J c' H' ds→R J H'
section
variable {X:Cx} {pos:Pos} {e:Expr}
end
end F2
namespace L2
open PySem PySem.Spec PyProof.Rows
section
variable {X:Cx}
end
end L2
namespace F2
open PySem L2 PySem.Spec
section
variable {X:Cx} {pos:Pos} {e:Expr} {es:List Expr}
end
end F2
namespace L2
open PySem PySem.Spec PyProof.Rows
section
variable {X:Cx} {e ek:Expr} {p2 pos:Pos} {te:TE} {tk:TO}
end
end L2
namespace F2
open PySem L2 PySem.Spec
section
variable {X:Cx}
end
end F2
namespace L2
open PySem PySem.Spec PyProof.Rows
section
variable {X:Cx}
end
end L2
namespace F2
open PySem L2 PySem.Spec
section
variable {X:Cx} {pos:Pos}
end
end F2
namespace L2
open PySem PySem.Spec PyProof.Rows
section
variable {X:Cx}
end
end L2
namespace F2
open PySem L2 PySem.Spec
end F2
namespace L2
open PySem PySem.Spec PyProof.Rows
section
variable {X:Cx}
end
section
variable {X:Cx}
end
section
variable {X:Cx}
end
end L2
namespace F2
open PySem L2 PySem.Spec
section
variable {X:Cx} {pos:Pos} {e:Expr} {es:List Expr}
end
end F2
namespace L2
open PySem PySem.Spec PyProof.Rows
section
variable {X:Cx}
end
end L2
namespace F2
open PySem L2 PySem.Spec
def M2:List (Key×D)→Option (List Int)
 | []=>some []
 | (.inl k,_) :: r=>(M2 r).map (k :: ·)
 | _=>none
section
variable {K:PySem.W.Frag} {c:Cf} {H:Hp}
end
section
variable {X:Cx} {pos:Pos} {e b:Expr}
end
end F2
namespace L2
open PySem PySem.Spec PyProof.Rows
def tb (led:Bool) (pl:List Nat):SetTable:={ mask:=7,place:=pl.toArray,dummies:=#[],finger:=0,led:=led,moves:=0,plain:=true }
def pls:Nat→List (List Nat)
 | 0=>[[]]
 | k + 1=>(pls k).flatMap fun l=>(List.range 8).filterMap fun j=>if l.all (· < j) then some (l++[j]) else none
section
variable {P:Program} {w:World} {A:Around} {E:Value→Shared→Prop} {s:Shared}
end
section
variable {P:Program} {w:World} {A:Around} {I:Addr} {fp wr:List Addr} {G:Array GenState→Array GenState→Prop} {n:Nat} {Pr:Nat→Value→Prop} {St:Nat→Shared→Prop}
end
section
variable {P:Program} {w:World} {A:Around} {E:Value→Shared→Prop} {s:Shared}
end
section
variable {prog:Program} {w:World} {A:Around}
end
section
variable {X:Cx}
end
end L2
namespace F2
open PySem L2 PySem.Spec PyProof.Rows
section
variable {X:Cx} {pos:Pos} {e:Expr}
end
end F2
namespace L2
open PySem PySem.Spec PyProof.Rows
section
variable {P:Program} {w:World} {A:Around} {E:Value→Shared→Prop} {s:Shared}
theorem Gk {j t:Addr} {n:Nat} {its:Array Value} {v:Value} {R:Value→Shared→Prop} (a:s.heap.IsTupleIter j t n) (b:s.heap.IsTuple t its) (c:its[n]?=some v)
 (k:∀g,g.IsTupleIter j t (n + 1)→Heap.SameBut j s.heap g→R v { s with heap:=g }):wpAny (model P w) A (Builtin.SmallTypes.nextOf (.ref j)) R E s:=by
 obtain ⟨q,hq,hqc,hqd⟩:=id a
 obtain ⟨ot,hot,_,nt,hod⟩:=b
 unfold Builtin.SmallTypes.nextOf;refine wpAny_bind (wpAny_callSpecial?_slot (name:=Str.ofString "__next__") a.typeIs F.slot_tuple_iterator_next (wpAny_call_entry F.slot_tuple_iterator_next a.typeIs F.entry_tuple_iterator_next ?_ (F.args_tuple_iterator_next_1 _)))
 change wpAny _ _ (field (.ref j) 0 >>= _) _ _ s
 refine wpAny_bind (wpAny_field hq hqd (x:=.ref t) rfl ?_)
 change wpAny _ _ (if (Value.ref t == Value.none)=true then _ else _) _ _ s
 rw [if_neg (show ¬((Value.ref t == Value.none)=true) from fun q=>Bool.noConfusion q)]
 change wpAny _ _ (field (.ref j) 1 >>= _) _ _ s
 refine wpAny_bind (wpAny_field hq hqd (x:=.int n 0) rfl ?_)
 change wpAny _ _ (seqItems? (.ref t) >>= _) _ _ s
 refine wpAny_bind (wpAny_seqItems hot hod ?_)
 simp only [Int.toNat_natCast,c]
 refine wpAny_bind (wpAny_setField hq hqd (by simp) (wpAny_pure ⟨v,rfl,wpAny_pure (k _ ?_ (Heap.SameBut.update ..))⟩))
 exact ⟨_,Heap.get?_update_self _ hq (Obj.isFreed_of_fields (Obj.data_mapFields hqd _)),(Obj.cls_mapFields ..).trans hqc,by rw [Obj.data_mapFields hqd];simp [rawInt]⟩
theorem Hq {j t:Addr} {n:Nat} {its:Array Value} {R:Value→Shared→Prop} (hA:A.handled=none) (a:s.heap.IsTupleIter j t n) (b:s.heap.IsTuple t its) (c:its[n]?=none)
 (k:∀g e,Heap.ExtBut j s.heap g→(∃o,g.get? e=some o∧o.cls = .type "StopIteration")→E (.ref e) { s with heap:=g }):wpAny (model P w) A (Builtin.SmallTypes.nextOf (.ref j)) R E s:=by
 obtain ⟨q,hq,hqc,hqd⟩:=id a
 obtain ⟨ot,hot,_,nt,hod⟩:=b
 unfold Builtin.SmallTypes.nextOf;refine wpAny_bind (wpAny_callSpecial?_slot (name:=Str.ofString "__next__") a.typeIs F.slot_tuple_iterator_next (wpAny_call_entry F.slot_tuple_iterator_next a.typeIs F.entry_tuple_iterator_next ?_ (F.args_tuple_iterator_next_1 _)))
 change wpAny _ _ (field (.ref j) 0 >>= _) _ _ s
 refine wpAny_bind (wpAny_field hq hqd (x:=.ref t) rfl ?_)
 change wpAny _ _ (if (Value.ref t == Value.none)=true then _ else _) _ _ s
 rw [if_neg (show ¬((Value.ref t == Value.none)=true) from fun q=>Bool.noConfusion q)]
 change wpAny _ _ (field (.ref j) 1 >>= _) _ _ s
 refine wpAny_bind (wpAny_field hq hqd (x:=.int n 0) rfl ?_)
 change wpAny _ _ (seqItems? (.ref t) >>= _) _ _ s
 refine wpAny_bind (wpAny_seqItems hot hod ?_)
 simp only [Int.toNat_natCast,c]
 refine wpAny_bind (wpAny_rule (wpAny_bind (wpAny_setField hq hqd (by simp) ?_)))
 change wpAny _ _ (newExc (.type "StopIteration") [] >>= _) _ _ _
 refine wpAny_bind ?_;simp only [newExc,newTuple];refine wpAny_bind (wpAny_newObj_type ?_ (by size_fits))
 refine wpAny_bind (m:=firstArgMember _ _) (wpAny_of_eq (a:=Value.none) (by first | rfl | (unfold firstArgMember;rfl)) ?_);refine wpAny_newObj_type ?_ (by size_fits)
 simp only [raiseNew];refine wpAny_bind (wpAny_handled ?_);first | rw [show A.in1.handled=none from hA] | rw [hA]
 refine wpAny_bind (wpAny_pure (wpAny_throw ?_));exact k _ _ (((Heap.SameBut.update ..).extBut.push _).push _) ⟨_,Heap.get?_push_size _ rfl,rfl⟩
structure ZT (h:Heap) (z TI TO i1 i2 t1 t2:Addr) (n:Nat):Prop where
 zz:IsZip h z TI TO .none
 ti:IsPair h TI (.ref i1) (.ref i2)
 ot:∃a b,IsPair h TO a b
 p1:h.IsTupleIter i1 t1 n
 p2:h.IsTupleIter i2 t2 n
theorem R4 {z TI TO i1 i2 t1 t2:Addr} {n:Nat} {xs ys:Array Value} {x y:Value} {R:Value→Shared→Prop} (D:ZipApart z TI TO i1 i2 t1 t2) (st:ZT s.heap z TI TO i1 i2 t1 t2 n)
 (c1:s.heap.IsTuple t1 xs) (c2:s.heap.IsTuple t2 ys) (e1:xs[n]?=some x) (e2:ys[n]?=some y)
 (k:∀g,IsZip g z TI TO (rawInt s.heap.objs.size)→IsPair g TI (.ref i1) (.ref i2)→(∃a b,IsPair g TO a b)→g.IsTupleIter i1 t1 (n + 1)→g.IsTupleIter i2 t2 (n + 1)→IsPair g s.heap.objs.size x y→(∀c o,c≠z→c≠TO→c≠i1→c≠i2→s.heap.get? c=some o→g.get? c=some o)→R (.ref s.heap.objs.size) { s with heap:=g }) :
 wpAny (model P w) A (Builtin.«zip.__next__» ⟨[.ref z],[]⟩) (fun fin s'=>∃v,fin = .done (.ret v)∧R v s') E s:=by
 obtain ⟨hz,hI,⟨a,b,hO⟩,q1,q2⟩:=st
 change wpAny _ _ (field (.ref z) 2 >>= _) _ _ _
 refine wpAny_bind (wpAny_field hz rfl (x:=.bool false) rfl ?_);change wpAny _ _ (field (.ref z) 3 >>= _) _ _ _
 refine wpAny_bind (wpAny_field hz rfl (x:=.ref TI) rfl ?_);refine wpAny_bind (wpAny_seqItems hI rfl ?_)
 change wpAny _ _ (Builtin.SmallTypes.ownedTupleIsFree (.ref z) >>= _) _ _ _
 refine wpAny_bind ?_;unfold Builtin.SmallTypes.ownedTupleIsFree
 refine wpAny_bind (wpAny_field hz rfl (x:=.none) rfl (wpAny_pure ?_));simp only [if_true]
 refine wpAny_bind (wpAny_rule (wpAny_bind (wpAny_field hz rfl (x:=.ref TO) rfl ?_)))
 refine wpAny_bind (wpAny_setField_rec hz (by simp) fun g1 z1 s1=>?_);replace z1:IsZip g1 z TI TO .ellipsis:=z1
 refine wpAny_bind ?_;simp only [List.zipIdx_cons,List.zipIdx_nil,List.forIn_cons,List.forIn_nil];refine wpAny_bind (wpAny_bind (wpAny_onRaise ?_))
 change wpAny _ _ (Builtin.SmallTypes.nextOf (.ref i1) >>= _) _ _ _
 refine wpAny_bind (Gk (q1.extBut s1.extBut D.i1z) (c1.extBut s1.extBut D.l1z) e1 fun g2 r1 s2=>wpAny_pure ?_)
 have o2:IsPair g2 TO a b:=s2.extBut _ _ D.TOi1 (s1.extBut _ _ D.TOz hO)
 refine wpAny_bind (wpAny_seqItems o2 rfl ?_);refine wpAny_bind (wpAny_updateSeq_pair o2 fun g3 o3 s3=>?_)
 replace o3:IsPair g3 TO x b:=o3
 refine wpAny_bind (wpAny_letGo (wpAny_pure ?_));refine wpAny_bind (wpAny_bind (wpAny_onRaise ?_))
 change wpAny _ _ (Builtin.SmallTypes.nextOf (.ref i2) >>= _) _ _ _
 refine wpAny_bind (Gk (((q2.extBut s1.extBut D.i2z).extBut s2.extBut D.i12.symm).extBut s3.extBut D.TOi2.symm) (((c2.extBut s1.extBut D.l2z).extBut s2.extBut D.l2i1).extBut s3.extBut D.l2TO) e2 fun g4 r2 s4=>wpAny_pure ?_)
 have o4:IsPair g4 TO x b:=s4.extBut _ _ D.TOi2 o3
 refine wpAny_bind (wpAny_seqItems o4 rfl ?_);refine wpAny_bind (wpAny_updateSeq_pair o4 fun g5 o5 s5=>?_)
 replace o5:IsPair g5 TO x y:=o5
 refine wpAny_bind (wpAny_letGo (wpAny_pure (wpAny_pure ?_)));refine wpAny_bind (wpAny_seqItems o5 rfl (wpAny_bind (wpAny_newTuple ?_)))
 have sz:g5.objs.size=s.heap.objs.size:=by rw [s5.1,s4.1,s3.1,s2.1,s1.1]
 have keep:∀c o,c≠z→c≠TO→c≠i1→c≠i2→s.heap.get? c=some o→g5.get? c=some o:=fun c o a1 a2 a3 a4 e=>s5.extBut _ _ a2 (s4.extBut _ _ a4 (s3.extBut _ _ a2 (s2.extBut _ _ a3 (s1.extBut _ _ a1 e))))
 have z5:IsZip g5 z TI TO .ellipsis:=s5.extBut _ _ D.TOz.symm (s4.extBut _ _ D.i2z.symm (s3.extBut _ _ D.TOz.symm (s2.extBut _ _ D.i1z.symm z1)))
 have w1:g5.IsTupleIter i1 t1 (n + 1):=((r1.extBut s3.extBut D.TOi1.symm).extBut s4.extBut D.i12).extBut s5.extBut D.TOi1.symm
 have w2:g5.IsTupleIter i2 t2 (n + 1):=r2.extBut s5.extBut D.TOi2.symm
 have zl:z < g5.objs.size:=Heap.lt_size z5
 change wpAny _ _ (Builtin.SmallTypes.ownedTupleHandOut (.ref z) (.ref g5.objs.size) >>= _) _ _ _
 refine wpAny_bind ?_;unfold Builtin.SmallTypes.ownedTupleHandOut
 have z6:IsZip (g5.push { cls:=.type "tuple",data:=.seq #[x,y] }) z TI TO .ellipsis:=Heap.get?_push_of_some _ z5
 refine wpAny_bind (wpAny_setField_rec z6 (by simp) fun g7 z7 s7=>?_);replace z7:IsZip g7 z TI TO (rawInt g5.objs.size):=z7
 refine wpAny_setField_rec z7 (by simp) fun g8 z8 s8=>?_
 replace z8:IsZip g8 z TI TO (rawInt g5.objs.size):=z8
 have up:∀c o,c≠z→g5.get? c=some o→g8.get? c=some o:=fun c o a1 e=>s8.extBut _ _ a1 (s7.extBut _ _ a1 (Heap.get?_push_of_some _ e))
 have t8:IsPair g8 g5.objs.size x y:=s8.extBut _ _ (Nat.ne_of_gt zl) (s7.extBut _ _ (Nat.ne_of_gt zl) (Heap.get?_push_size _ rfl))
 rw [sz] at z8 t8
 refine wpAny_pure ⟨_,rfl,?_⟩;change R (.ref g5.objs.size) _
 rw [sz]
 exact k g8 z8 (up _ _ D.TIz (keep _ _ D.TIz D.TITO D.TIi1 D.TIi2 hI)) ⟨_,_,up _ _ D.TOz o5⟩ (let ⟨o,ho,r⟩:=w1;⟨o,up _ o D.i1z ho,r⟩) (let ⟨o,ho,r⟩:=w2;⟨o,up _ o D.i2z ho,r⟩) t8 fun c o a1 a2 a3 a4 e=>up c o a1 (keep c o a1 a2 a3 a4 e)
theorem Ua {z TI TO i1 i2 t1 t2:Addr} {n:Nat} {xs ys:Array Value} {R:Fin→Shared→Prop} (hA:A.handled=none) (D:ZipApart z TI TO i1 i2 t1 t2) (st:ZT s.heap z TI TO i1 i2 t1 t2 n)
 (c1:s.heap.IsTuple t1 xs) (c2:s.heap.IsTuple t2 ys) (en:xs[n]?=none∨ys[n]?=none)
 (k:∀g e,(∀c o,c≠z→c≠TO→c≠i1→c≠i2→s.heap.get? c=some o→g.get? c=some o)→(∃o,g.get? e=some o∧o.cls = .type "StopIteration")→E (.ref e) { s with heap:=g }) :
 wpAny (model P w) A (Builtin.«zip.__next__» ⟨[.ref z],[]⟩) R E s:=by
 obtain ⟨hz,hI,⟨a,b,hO⟩,q1,q2⟩:=st
 change wpAny _ _ (field (.ref z) 2 >>= _) _ _ _
 refine wpAny_bind (wpAny_field hz rfl (x:=.bool false) rfl ?_);change wpAny _ _ (field (.ref z) 3 >>= _) _ _ _
 refine wpAny_bind (wpAny_field hz rfl (x:=.ref TI) rfl ?_);refine wpAny_bind (wpAny_seqItems hI rfl ?_)
 change wpAny _ _ (Builtin.SmallTypes.ownedTupleIsFree (.ref z) >>= _) _ _ _
 refine wpAny_bind ?_;unfold Builtin.SmallTypes.ownedTupleIsFree
 refine wpAny_bind (wpAny_field hz rfl (x:=.none) rfl (wpAny_pure ?_));simp only [if_true]
 refine wpAny_bind (wpAny_rule (wpAny_bind (wpAny_field hz rfl (x:=.ref TO) rfl ?_)))
 refine wpAny_bind (wpAny_setField_rec hz (by simp) fun g1 z1 s1=>?_);replace z1:IsZip g1 z TI TO .ellipsis:=z1
 refine wpAny_bind ?_;simp only [List.zipIdx_cons,List.zipIdx_nil,List.forIn_cons,List.forIn_nil];refine wpAny_bind (wpAny_bind (wpAny_onRaise ?_))
 change wpAny _ _ (Builtin.SmallTypes.nextOf (.ref i1) >>= _) _ _ _
 cases e1:xs[n]? with
 | none=>
   refine wpAny_bind (Hq hA (q1.extBut s1.extBut D.i1z) (c1.extBut s1.extBut D.l1z) e1 fun g2 e s2 ⟨oe,he,hc⟩=>?_)
   have z2:IsZip g2 z TI TO .ellipsis:=s2 _ _ D.i1z.symm z1
   have ne:e≠z:=fun q=>by subst q;rw [z2] at he;cases he;simp at hc
   exact wpAny_setField_rec z2 (by simp) fun g3 _ s3=>k g3 e (fun c o a1 _ a3 _ q=>s3.extBut _ _ a1 (s2 _ _ a3 (s1.extBut _ _ a1 q))) ⟨oe,s3.extBut _ _ ne he,hc⟩
 | some x=>
   have e2:ys[n]?=none:=by
    rcases en with h | h
    ·rw [e1] at h;cases h
    ·exact h
   refine wpAny_bind (Gk (q1.extBut s1.extBut D.i1z) (c1.extBut s1.extBut D.l1z) e1 fun g2 r1 s2=>wpAny_pure ?_)
   have o2:IsPair g2 TO a b:=s2.extBut _ _ D.TOi1 (s1.extBut _ _ D.TOz hO)
   refine wpAny_bind (wpAny_seqItems o2 rfl ?_);refine wpAny_bind (wpAny_updateSeq_pair o2 fun g3 o3 s3=>?_)
   refine wpAny_bind (wpAny_letGo (wpAny_pure ?_));refine wpAny_bind (wpAny_bind (wpAny_onRaise ?_))
   change wpAny _ _ (Builtin.SmallTypes.nextOf (.ref i2) >>= _) _ _ _
   refine wpAny_bind (Hq hA (((q2.extBut s1.extBut D.i2z).extBut s2.extBut D.i12.symm).extBut s3.extBut D.TOi2.symm) (((c2.extBut s1.extBut D.l2z).extBut s2.extBut D.l2i1).extBut s3.extBut D.l2TO) e2 fun g4 e s4 ⟨oe,he,hc⟩=>?_)
   have z4:IsZip g4 z TI TO .ellipsis:=s4 _ _ D.i2z.symm (s3.extBut _ _ D.TOz.symm (s2.extBut _ _ D.i1z.symm z1))
   have ne:e≠z:=fun q=>by subst q;rw [z4] at he;cases he;simp at hc
   exact wpAny_setField_rec z4 (by simp) fun g5 _ s5=>k g5 e (fun c o a1 a2 a3 a4 q=>s5.extBut _ _ a1 (s4 _ _ a4 (s3.extBut _ _ a2 (s2.extBut _ _ a3 (s1.extBut _ _ a1 q))))) ⟨oe,s5.extBut _ _ ne he,hc⟩
theorem Q5 {z TI TO i1 i2 t1 t2:Addr} {n:Nat} {xs ys:Array Value} {x y:Value} {R:Option Value→Shared→Prop} (D:ZipApart z TI TO i1 i2 t1 t2) (st:ZT s.heap z TI TO i1 i2 t1 t2 n)
 (c1:s.heap.IsTuple t1 xs) (c2:s.heap.IsTuple t2 ys) (e1:xs[n]?=some x) (e2:ys[n]?=some y)
 (k:∀g,IsZip g z TI TO (rawInt s.heap.objs.size)→IsPair g TI (.ref i1) (.ref i2)→(∃a b,IsPair g TO a b)→g.IsTupleIter i1 t1 (n + 1)→g.IsTupleIter i2 t2 (n + 1)→IsPair g s.heap.objs.size x y→(∀c o,c≠z→c≠TO→c≠i1→c≠i2→s.heap.get? c=some o→g.get? c=some o)→R (some (.ref s.heap.objs.size)) { s with heap:=g }):wpAny (model P w) A (pyNext (.ref z)) R E s:=by
 have ty:s.TypeIs (.ref z) "zip":=⟨_,st.zz,rfl⟩
 unfold pyNext
 exact wpAny_bind (wpAny_attempt (wpAny_callSpecial?_slot (name:=Str.ofString "__next__") ty F.slot_zip_next (wpAny_call_entry F.slot_zip_next ty F.entry_zip_next (R4 D st c1 c2 e1 e2 fun g b1 b2 b3 b4 b5 b6 b7=>wpAny_pure (k g b1 b2 b3 b4 b5 b6 b7)) (F.args_zip_next_1 _))))
theorem So {z TI TO i1 i2 t1 t2:Addr} {n:Nat} {xs ys:Array Value} {R:Option Value→Shared→Prop} (hA:A.handled=none) (D:ZipApart z TI TO i1 i2 t1 t2) (st:ZT s.heap z TI TO i1 i2 t1 t2 n)
 (c1:s.heap.IsTuple t1 xs) (c2:s.heap.IsTuple t2 ys) (en:xs[n]?=none∨ys[n]?=none)
 (k:∀g,(∀c o,c≠z→c≠TO→c≠i1→c≠i2→s.heap.get? c=some o→g.get? c=some o)→R none { s with heap:=g }):wpAny (model P w) A (pyNext (.ref z)) R E s:=by
 have ty:s.TypeIs (.ref z) "zip":=⟨_,st.zz,rfl⟩
 unfold pyNext
 refine wpAny_bind (wpAny_attempt (wpAny_callSpecial?_slot (name:=Str.ofString "__next__") ty F.slot_zip_next (wpAny_call_entry F.slot_zip_next ty F.entry_zip_next (Ua hA D st c1 c2 en fun g e hk ⟨o,ho,hc⟩=>?_) (F.args_zip_next_1 _))))
 exact wpAny_bind (wpAny_isInstance (T:="StopIteration") (b:=true) ⟨o,ho,hc⟩ isSubtype_stop (wpAny_pure (k _ hk)))
end
theorem Lg (a b:Value):Builtin.SmallTypes.newClass "zip" { pos:=[Value.type "zip",a,b] }=pure (Value.type "zip",[a,b]):=rfl
theorem LU {M:Model} {A:Around} {E:Value→Shared→Prop} {s:Shared} {x y:Value} {Q:List Value→Shared→Prop} (h:wpAny M A (pyIter x) (fun i1 s1=>wpAny M A (pyIter y) (fun i2 s2=>Q [i1,i2] s2) E s1) E s):wpAny M A (Builtin.SmallTypes.iterAll [x,y]) Q E s:=by
 unfold Builtin.SmallTypes.iterAll
 simp only [List.forIn_cons,List.forIn_nil]
 refine wpAny_bind (wpAny_bind (wpAny_bind (wpAny_holding (L2.thn h fun i1 s1 h1=>?_))))
 refine wpAny_pure ?_
 refine wpAny_bind (wpAny_bind (wpAny_holding (L2.thn h1 fun i2 s2 h2=>?_)))
 refine wpAny_pure ?_
 refine wpAny_pure ?_
 exact wpAny_pure h2
theorem M8 {M:Model} {A:Around} {E:Value→Shared→Prop} {s:Shared} {T:String} {vs:List Value} {Q:Value→Shared→Prop} (hz:sizeOk (.fields vs.toArray)) (h:Q (.ref s.heap.objs.size) { s with heap:=s.heap.push { cls:=.type T,data:=.fields vs.toArray } }):wpAny M A (Builtin.SmallTypes.newRecord (.type T) vs) Q E s:=
 wpAny_newObj_type h hz
def itO (t:Addr):Obj:={ cls:=.type "tuple_iterator",data:=.fields #[.ref t,.int 0 0] }
def EA (a b:Value):Obj:={ cls:=.type "tuple",data:=.seq #[a,b] }
def Wm (TI TO:Addr):Obj:={ cls:=.type "zip",data:=.fields #[.none,.bool false,.bool false,.ref TI,.ref TO] }
def JF (h:Heap) (t1 t2:Addr):Heap:=
 ((((h.push (itO t1)).push (itO t2)).push (EA (.ref h.objs.size) (.ref (h.push (itO t1)).objs.size))).push (EA .none .none)).push (Wm ((h.push (itO t1)).push (itO t2)).objs.size (((h.push (itO t1)).push (itO t2)).push (EA (.ref h.objs.size) (.ref (h.push (itO t1)).objs.size))).objs.size)
theorem Ji (t1 t2:Addr) (xs ys:Array Value):Meets (Builtin.«zip.__new__» { pos:=[Value.type "zip",Value.ref t1,Value.ref t2] }) fun A R s=>s.heap.IsTuple t1 xs∧s.heap.IsTuple t2 ys∧∀z,z=((((s.heap.push (itO t1)).push (itO t2)).push (EA (.ref s.heap.objs.size) (.ref (s.heap.push (itO t1)).objs.size))).push (EA .none .none)).objs.size→R (Except.ok (Flow.ret (Value.ref z))) { s with heap:=JF s.heap t1 t2 }:=by
 intro prog w A R s ⟨h1,h2,hR⟩
 unfold Builtin.«zip.__new__»
 rw [Lg]
 refine wpAny_bind (wpAny_pure ?_)
 refine wpAny_bind (LU ?_)
 refine wpAny_pyIter_tuple h1 ?_
 refine wpAny_pyIter_tuple (items:=ys) ?_ ?_
 ·obtain ⟨o,e,r⟩:=h2
  exact ⟨o,Heap.get?_push_of_some _ e,r⟩
 refine wpAny_bind (wpAny_newTuple ?_)
 refine wpAny_bind (wpAny_newTuple ?_)
 refine wpAny_bind (M8 (by first | trivial | exact Nat.le_of_ble_eq_true rfl) ?_)
 refine wpAny_pure ?_
 exact hR _ rfl
section
variable {P:Program} {w:World} {A:Around} {E:Value→Shared→Prop} {s:Shared}
theorem NI {t1 t2:Addr} {xs ys:Array Value} {R:Value→Shared→Prop} (c1:s.heap.IsTuple t1 xs) (c2:s.heap.IsTuple t2 ys)
 (k:∀g,ZT g (s.heap.objs.size + 4) (s.heap.objs.size + 2) (s.heap.objs.size + 3) s.heap.objs.size (s.heap.objs.size + 1) t1 t2 0→(∀c o,s.heap.get? c=some o→g.get? c=some o)→R (.ref (s.heap.objs.size + 4)) { s with heap:=g }) :
 wpAny (model P w) A (call (.type "zip") [.ref t1,.ref t2]) R E s:=by
 refine callType_new F.called_zip (by decide) (F.typeCall_zip_2 _ _) (F.newCall_zip_2 _ _) (fun o=>F.args_object_init_3 o _ _) F.entry_zip_new (Ji t1 t2 xs ys) ⟨c1,c2,fun z ez=>?_⟩
 have l1:(s.heap.push (itO t1)).objs.size=s.heap.objs.size + 1:=Heap.size_push ..
 have l2:((s.heap.push (itO t1)).push (itO t2)).objs.size=s.heap.objs.size + 2:=by rw [Heap.size_push,l1]
 have l3:(((s.heap.push (itO t1)).push (itO t2)).push (EA (.ref s.heap.objs.size) (.ref (s.heap.push (itO t1)).objs.size))).objs.size=s.heap.objs.size + 3:=by rw [Heap.size_push,l2]
 have l4:((((s.heap.push (itO t1)).push (itO t2)).push (EA (.ref s.heap.objs.size) (.ref (s.heap.push (itO t1)).objs.size))).push (EA .none .none)).objs.size=s.heap.objs.size + 4:=by rw [Heap.size_push,l3]
 have g5:(JF s.heap t1 t2).get? ((((s.heap.push (itO t1)).push (itO t2)).push (EA (.ref s.heap.objs.size) (.ref (s.heap.push (itO t1)).objs.size))).push (EA .none .none)).objs.size=some _:=Heap.get?_push_size _ rfl
 have g4:(JF s.heap t1 t2).get? (((s.heap.push (itO t1)).push (itO t2)).push (EA (.ref s.heap.objs.size) (.ref (s.heap.push (itO t1)).objs.size))).objs.size=some _:=Heap.get?_push_of_some _ (Heap.get?_push_size _ rfl)
 have g3:(JF s.heap t1 t2).get? ((s.heap.push (itO t1)).push (itO t2)).objs.size=some _:=Heap.get?_push_of_some _ (Heap.get?_push_of_some _ (Heap.get?_push_size _ rfl))
 have g2:(JF s.heap t1 t2).get? (s.heap.push (itO t1)).objs.size=some _:=Heap.get?_push_of_some _ (Heap.get?_push_of_some _ (Heap.get?_push_of_some _ (Heap.get?_push_size _ rfl)))
 have g1:(JF s.heap t1 t2).get? s.heap.objs.size=some _:=Heap.get?_push_of_some _ (Heap.get?_push_of_some _ (Heap.get?_push_of_some _ (Heap.get?_push_of_some _ (Heap.get?_push_size _ rfl))))
 rw [l4,l3,l2] at g5
 rw [l3] at g4
 rw [l2,l1] at g3
 rw [l1] at g2
 rw [l4] at ez
 subst ez
 exact ⟨⟨_,g5,rfl⟩,k _ ⟨g5,g3,⟨_,_,g4⟩,⟨_,g1,rfl,rfl⟩,⟨_,g2,rfl,rfl⟩⟩ fun c o x=>Heap.get?_push_of_some _ (Heap.get?_push_of_some _ (Heap.get?_push_of_some _ (Heap.get?_push_of_some _ (Heap.get?_push_of_some _ x))))⟩
end
def Itz (K:PySem.W.Frag) (a b:Addr):It:=
 ⟨fun i H=>∃xs ys x y,SqT K H a xs∧SqT K H b ys∧xs[i]?=some x∧ys[i]?=some y,fun i H v H'=>∃p x y,v = .ref p∧H p=none∧(∀xs,SqT K H a xs→xs[i]?=some x)∧(∀ys,SqT K H b ys→ys[i]?=some y)∧H'=upd H p (.tup [x,y]),fun i H=>∃xs ys,SqT K H a xs∧SqT K H b ys∧(xs.length≤i∨ys.length≤i)⟩
theorem PN {P:Program} {w:World} {K:PySem.W.Frag} {elts:List Expr} {n:Nat} {pos:Pos} (a b z TI TO i1 i2:Addr) (D:ZipApart z TI TO i1 i2 a b):Turn P w K (.Tuple elts n pos) (Itz K a b) [z,TI,TO,i1,i2] z (fun i h=>ZT h z TI TO i1 i2 a b i) where
 mem:=by simp
 obj:=fun i h st c hc=>by
  obtain ⟨h1,h2,⟨x,y,h3⟩,⟨o4,e4,_,d4⟩,⟨o5,e5,_,d5⟩⟩:=st
  simp only [List.mem_cons,List.not_mem_nil,or_false] at hc
  rcases hc with rfl | rfl | rfl | rfl | rfl
  ·exact ⟨_,h1,fun v q=>by have q':Data.fields _=Data.cell v:=q;cases q'⟩
  ·exact ⟨_,h2,fun v q=>by have q':Data.seq _=Data.cell v:=q;cases q'⟩
  ·exact ⟨_,h3,fun v q=>by have q':Data.seq _=Data.cell v:=q;cases q'⟩
  ·exact ⟨o4,e4,fun v q=>by rw [d4] at q;cases q⟩
  ·exact ⟨o5,e5,fun v q=>by rw [d5] at q;cases q⟩
 keep:=fun i h h' st k=>by
  obtain ⟨h1,h2,⟨x,y,h3⟩,⟨o4,e4,r4⟩,⟨o5,e5,r5⟩⟩:=st
  exact ⟨k z (by simp) _ h1,k TI (by simp) _ h2,⟨x,y,k TO (by simp) _ h3⟩,⟨o4,k i1 (by simp) _ e4,r4⟩,⟨o5,k i2 (by simp) _ e5,r5⟩⟩
 item:=by
  intro X hP hw hK hc i pins s σ H E I hf st hg
  subst hP hw hK
  obtain ⟨xs,ys,x,y,hq1,hq2,hx,hy⟩:=hg
  obtain ⟨its,rv,⟨o1,p1,pc1,n1,pd1⟩,hz⟩:=I.tuple hq1
  obtain ⟨jts,rv',⟨o2,p2,pc2,n2,pd2⟩,hz'⟩:=I.tuple hq2
  obtain ⟨u,hu,ru⟩:=rv.get hx
  obtain ⟨v,hv,ru'⟩:=rv'.get hy
  have lz:z < s.heap.objs.size:=Heap.lt_size st.zz
  have lTI:TI < s.heap.objs.size:=Heap.lt_size st.ti
  have lTO:TO < s.heap.objs.size:=by obtain ⟨_,_,h⟩:=st.ot;exact Heap.lt_size h
  have l1:i1 < s.heap.objs.size:=by obtain ⟨_,h,_⟩:=st.p1;exact Heap.lt_size h
  have l2:i2 < s.heap.objs.size:=by obtain ⟨_,h,_⟩:=st.p2;exact Heap.lt_size h
  refine Q5 D st (xs:=its.toArray) (ys:=jts.toArray) ⟨o1,p1,pc1,n1,pd1⟩ ⟨o2,p2,pc2,n2,pd2⟩ (x:=u) (y:=v) (by simpa using hu) (by simpa using hv) fun g b1 b2 b3 b4 b5 b6 b7=>?_
  refine ⟨_,rfl,?_⟩
  refine wpAny_letOwnedTupleGo_zip b1 fun g2 b1' sb=>?_
  have hfr:H s.heap.objs.size=none:=I.hok.fresh (Nat.le_refl _)
  have nz:∀c,c∈[z,TI,TO,i1,i2]→c≠s.heap.objs.size:=fun c hc=>by
   simp only [List.mem_cons,List.not_mem_nil,or_false] at hc
   rcases hc with rfl | rfl | rfl | rfl | rfl <;> exact Nat.ne_of_lt (by assumption)
  have hT:g2.get? s.heap.objs.size=some { cls:=.type "tuple",data:=.seq #[u,v] }:=(sb.2 _ (Nat.ne_of_gt lz)).trans b6
  have I1:Inv X pins σ (upd H s.heap.objs.size (.tup [x,y])) { s with heap:=s.heap.push { cls:=.type "tuple",data:=.seq #[u,v] },toks:=s.toks }:=
   I.laid (t':=s.toks) (fun b u e=>Heap.get?_push_of_some _ e) (Nat.le_refl _) ⟨by show 2≤sizeLine;decide,[u,v],.cons ru (.cons ru' .nil),⟨_,Heap.get?_push_size _ rfl,rfl,_,rfl⟩⟩
  have fp':∀b∈[z,TI,TO,i1,i2],FpOk X pins (upd H s.heap.objs.size (.tup [x,y])) b:=fun b hb=>by
   obtain ⟨g0,g1⟩:=hf b hb
   exact ⟨by rw [Au (nz b hb)];exact g0,g1⟩
  refine ⟨.ref s.heap.objs.size,upd H s.heap.objs.size (.tup [x,y]),?_,rfl,⟨_,x,y,rfl,hfr,fun zs hs=>by rw [I.tuple_inj hs hq1];exact hx,fun zs hs=>by rw [I.tuple_inj hs hq2];exact hy,rfl⟩,?_,fun b hb=>(fp' b hb).1⟩
  ·have I2:=Inv.turnedL (h':=g2) (t':=s.toks) [z,TI,TO,i1,i2] I1 fp' fun b o hb eb=>(by
    simp only [List.mem_cons,List.not_mem_nil,or_false,not_or] at hb
    rcases Heap.get?_push_cases eb with ⟨rfl,rfl⟩ | eb'
    ·exact hT
    ·exact (sb.2 b hb.1).trans (b7 b o hb.1 hb.2.2.1 hb.2.2.2.1 hb.2.2.2.2 eb'))
   exact I2
  ·obtain ⟨x3,y3,b3⟩:=b3
   exact ⟨b1',(sb.2 TI D.TIz).trans b2,⟨x3,y3,(sb.2 TO D.TOz).trans b3⟩,let ⟨o,e,r⟩:=b4;⟨o,(sb.2 i1 D.i1z).trans e,r⟩,let ⟨o,e,r⟩:=b5;⟨o,(sb.2 i2 D.i2z).trans e,r⟩⟩
 done:=by
  intro X hP hw hK hc i pins s σ H E I hf st hg
  subst hP hw hK
  obtain ⟨xs,ys,hq1,hq2,hl⟩:=hg
  obtain ⟨its,rv,⟨o1,p1,pc1,n1,pd1⟩,hz⟩:=I.tuple hq1
  obtain ⟨jts,rv',⟨o2,p2,pc2,n2,pd2⟩,hz'⟩:=I.tuple hq2
  have e1:=rv.length
  have e2:=rv'.length
  refine So (I.ok.hd hc) D st (xs:=its.toArray) (ys:=jts.toArray) ⟨o1,p1,pc1,n1,pd1⟩ ⟨o2,p2,pc2,n2,pd2⟩ (by simp only [List.getElem?_toArray,List.getElem?_eq_none_iff];lia) fun g hk=>⟨rfl,?_⟩
  exact Inv.turnedL [z,TI,TO,i1,i2] (t':=s.toks) I hf fun b o hb e=>(by
   simp only [List.mem_cons,List.not_mem_nil,or_false,not_or] at hb
   exact hk b o hb.1 hb.2.2.1 hb.2.2.2.1 hb.2.2.2.2 e)
 self:=fun _ _ _ _ _ st h=>wpAny_pyIter_zip st.zz h
theorem JH {n a b:Nat} (ha:a < n) (hb:b < n):ZipApart (n + 4) (n + 2) (n + 3) n (n + 1) a b:=by constructor <;> (show @Ne Nat _ _;lia)
end L2
namespace F2
open PySem L2 PySem.Spec
def Dm:List D→List D→List D
 | x :: xs,y :: ys=>.tup [x,y] :: Dm xs ys
 | _,_=>[]
theorem Fu:∀(xs ys:List D),(Dm xs ys).length=min xs.length ys.length
 | [],ys=>by simp [Dm]
 | x :: xs,[]=>by simp [Dm]
 | x :: xs,y :: ys=>by rw [Dm,List.length_cons,Fu xs ys,List.length_cons,List.length_cons,Nat.succ_min_succ]
theorem HX:∀(xs ys:List D) (j:Nat) (d:D),(Dm xs ys)[j]?=some d→∃x y,xs[j]?=some x∧ys[j]?=some y∧d = .tup [x,y]
 | [],ys,j,d,h=>by simp [Dm] at h
 | x :: xs,[],j,d,h=>by simp [Dm] at h
 | x :: xs,y :: ys,0,d,h=>by rw [Dm] at h;exact ⟨x,y,rfl,rfl,by simpa using h.symm⟩
 | x :: xs,y :: ys,j + 1,d,h=>by rw [Dm] at h;simpa using HX xs ys j d (by simpa using h)
theorem ItOk2.zip {K:PySem.W.Frag} {c:Cf} {H:Hp} {p q:Addr} {ds es:List D} (r:∀c' H',Ext c H c' H'→∃vs,SqT K H' p vs∧Reps K c' H' vs ds) (r':∀c' H',Ext c H c' H'→∃vs,SqT K H' q vs∧Reps K c' H' vs es):ItOk2 K (Itz K p q) c H (Dm ds es):=by
 refine ⟨fun c' H' i ex hi=>?_,fun c' H' i x H'' d ex hd hy=>?_,fun c' H' ex=>?_⟩
 ·obtain ⟨vs,h1,h2⟩:=r c' H' ex
  obtain ⟨ws,h3,h4⟩:=r' c' H' ex
  rw [Fu] at hi
  obtain ⟨v,e,_⟩:=h2.at (List.getElem?_eq_getElem (Nat.lt_of_lt_of_le hi (Nat.min_le_left _ _)))
  obtain ⟨w,e',_⟩:=h4.at (List.getElem?_eq_getElem (Nat.lt_of_lt_of_le hi (Nat.min_le_right _ _)))
  exact ⟨vs,ws,v,w,h1,h3,e,e'⟩
 ·obtain ⟨vs,h1,h2⟩:=r c' H' ex
  obtain ⟨ws,h3,h4⟩:=r' c' H' ex
  obtain ⟨a,v,w,rfl,hq,hs,hs',rfl⟩:=hy
  obtain ⟨d1,d2,e1,e2,rfl⟩:=HX _ _ _ _ hd
  obtain ⟨v',g1,rv⟩:=h2.at e1
  obtain ⟨w',g2,rw'⟩:=h4.at e2
  rw [hs vs h1] at g1
  rw [hs' ws h3] at g2
  cases g1
  cases g2
  exact ⟨a,_,_,rfl,hq,rfl,rfl,.cons rv (.cons rw' .nil)⟩
 ·obtain ⟨vs,h1,h2⟩:=r c' H' ex
  obtain ⟨ws,h3,h4⟩:=r' c' H' ex
  refine ⟨vs,ws,h1,h3,?_⟩
  rw [Fu,h2.length,h4.length]
  lia
theorem RF.comp2 {K:PySem.W.Frag} {n:Nat} {fr:List Nat} {f:M (List D)} {st:D→M Unit} {tst:M Bool} {elt:M D} {σ:L2.St} {H:Hp} {Q:VK} (q:RF K (Ch n fr f st tst elt) σ H Q):Kx (RI2 K f) (RG K st) (RT K tst) (RE K elt) (Fh n fr) σ H Q:=by
 obtain ⟨Oo,c,t,fi,xs,t',eq,k⟩:=q
 obtain ⟨ds,t1,e1,eq⟩:=Ap eq
 refine ⟨Oo,c,t,fi,ds,t1,e1,fun J H1 c1 f1 s1 it=>?_⟩
 cases e3:BW st tst elt ds ⟨cenv n fr t1.env,t1.S⟩ with
 | none=>rw [e3] at eq;cases eq
 | some p=>
   obtain ⟨ys,t3⟩:=p
   rw [e3] at eq
   dsimp only at eq
   split at eq
   case isFalse=>cases eq
   next hl=>
   cases eq
   refine ⟨fun i m acc σ' H'=>m=ds.length - i∧i≤ds.length∧∃c' t2 zs rest,FInv K c1.O c' t2 σ' H'∧Stp c1.O c1 H1 c' H'∧Reps K c' H' acc zs∧BW st tst elt (ds.drop i) t2=some (rest,t3)∧xs=zs++rest,
    ⟨_,rfl,Nat.zero_le _,c1,_,[],xs,Iv f1,.refl,.nil,by rw [List.drop_zero];exact e3,rfl⟩,?_⟩
   rintro i m acc σ' H' ⟨rfl,hi,c',t2,zs,rest,f2,s2,ra,e2,ez⟩
   have hacc:acc.length≤sizeLine:=by
    have:zs.length≤xs.length:=by rw [ez,List.length_append];exact Nat.le_add_right _ _
    rw [ra.length]
    exact Nat.le_trans this (Nat.le_trans hl Cq)
   refine ⟨hacc,?_⟩
   by_cases hlt:i < ds.length
   ·refine .inr ⟨it.go c' H' i s2.ext hlt,fun x H'' hy=>?_⟩
    obtain ⟨p,vs,es,rfl,hp,rfl,ed,rx⟩:=it.yld c' H' i x H'' _ s2.ext (List.getElem?_eq_getElem hlt) hy
    rw [List.drop_eq_getElem_cons hlt,ed] at e2
    unfold BW at e2
    obtain ⟨u,t4,e4,e2⟩:=Ap e2
    obtain ⟨kb,t5,e5,e2⟩:=Ap e2
    have sL:=f2.stp_laid (o:=.tup vs) hp
    have s2':=s2.trans sL
    have ra':=ra.mono sL.ext
    refine ⟨c1.O,c',t2,_,f2.laid hp,.tup AJ (f2.s.free hp) (rx.mono (Ext.laid f2.s hp)),t4,e4,fun σ3 H3 c3 f3 s3=>⟨c1.O,c3,t4,f3,kb,t5,e5,fun H4 c4 f4 s4=>?_⟩⟩
    cases kb with
    | false=>
      rw [if_neg Bool.false_ne_true] at e2 ⊢
      exact ⟨ds.length - (i + 1),by lia,rfl,hlt,c4,t5,zs,rest,f4,(s2'.trans s3).trans s4,ra'.mono (s3.trans s4).ext,e2,ez⟩
    | true=>
      rw [if_pos rfl] at e2 ⊢
      obtain ⟨x6,t6,e6,e2⟩:=Ap e2
      obtain ⟨r7,t7,e7,e2⟩:=Ap e2
      cases e2
      refine ⟨c1.O,c4,t5,f4,x6,t6,e6,fun v H5 c5 f5 s5 rv=>?_⟩
      exact ⟨ds.length - (i + 1),by lia,rfl,hlt,c5,t6,zs++[x6],r7,f5,((s2'.trans s3).trans s4).trans s5,(ra'.mono ((s3.trans s4).trans s5).ext).append (.cons rv .nil),e7,by rw [ez,List.append_assoc];rfl⟩
   ·have hi':i=ds.length:=by lia
    subst hi'
    rw [List.drop_length] at e2
    cases e2
    refine .inl ⟨it.stop c' H' s2.ext,fun p hp _=>?_⟩
    obtain ⟨si,ext⟩:=f2.leave
    obtain ⟨f6,s6⟩:=f1.after si ⟨s2.ext.trans ext,s2.oo⟩ (fun _=>Iff.rfl)
    rw [List.append_nil] at ez
    subst ez
    exact k p acc H' _ f6 (s1.trans s6) (ra.mono ext) hp
section
variable {X:Cx} {e a b tg iter elt:Expr} {ifs:List Expr} {pos:Pos} {scope:Scope} {N':List Str} {n:Nat} {fr:List Nat} {f:M (List D)} {st:D→M Unit} {tst:M Bool} {el:M D}
theorem O0 (O:CmpOk X scope N' (Fh n fr)) (hc:X.calm=true) (hi:PI X tg iter (RI2 X.K f))
 (hg:∀cl C s2 H2 fp,PG (Cg X N' scope cl C s2 H2 fp) tg (RG X.K st)) (ht:∀cl C s2 H2 fp,PIf (Cg X N' scope cl C s2 H2 fp) ifs (RT X.K tst)) (he:∀cl C s2 H2 fp,PE (Cg X N' scope cl C s2 H2 fp) elt (RE X.K el))
 (hs:∀x,foldedSetIterable iter X.env x=pure x:=by intro _;rfl):PE X (.ListComp elt [⟨tg,iter,ifs,0⟩] scope pos) (RF X.K (Ch n fr f st tst el)):=
 Bu (MA O hc hi hg ht he hs) fun _ _ _ q=>RF.comp2 q
end
section
variable {X:Cx} {elt:Expr} {pos:Pos} {e:Expr} {es:List Expr}
end
end F2
namespace L2
open PySem PySem.Spec PyProof.Rows
section
variable {X:Cx} {pins:List (Addr×Obj)} {σ:St} {H:Hp} {s:Shared} {a:Addr} {kvs:List (Key×V)} {o:Obj}
end
section
variable {X:Cx}
end
section
variable {X:Cx}
end
end L2
namespace F2
open PySem L2 PySem.Spec SeqAt
def Ny (K:PySem.W.Frag) (H:Hp) (v w:V):Prop:=∃c dv dw,Rep K c H v dv∧Rep K c H w dw∧eqN EQD dv dw=some true
def R5 (K:PySem.W.Frag) (H:Hp) (v w:V):Prop:=Ny K H v w∨∃a b us ts,v = .ref a∧w = .ref b∧H a=some (.dK us)∧H b=some (.dK ts)∧us.length=ts.length∧(∀kv∈us,∃n:Int,kv.1=Sum.inl n)∧(∀kv∈ts,∃n:Int,kv.1=Sum.inl n)∧∀kv∈us,∃z,PQ ts kv.1=some z∧Ny K H kv.2 z
def WE (K:PySem.W.Frag) (b:Bool):R2:=fun x y H Q=>∃p q vs ws,x = .ref p∧y = .ref q∧H p=some (.lst vs)∧H q=some (.lst ws)∧vs.length=ws.length∧(∀(j:Nat) v w,vs[j]?=some v→ws[j]?=some w→R5 K H v w)∧Q (.bl b) H
def KH (S:List Ob) (x y:D):Bool:=Db (EB S x) && Db (EB S y) && decide (eqN EQD (EB S x) (EB S y)=some true)
def Wr (S:List Ob) (x y:D):Bool:=match x,y with
 | .obj m,.obj n=>match S[m]?,S[n]? with
   | some (.dct kvs),some (.dct lvs)=>kvs.length == lvs.length && (M2 kvs).isSome && (M2 lvs).isSome && kvs.all (fun kv=>match Uo lvs kv.1 with | some e=>KH S kv.2 e | none=>false)
   | _,_=>KH S x y
 | _,_=>KH S x y
end F2
namespace F2
open PySem L2 PySem.Spec
section
variable {X:Cx} {pos:Pos}
end
end F2
namespace L2
open PySem PySem.Spec PyProof.Rows
structure ZL (h:Heap) (z TI TO i1 i2 t1 t2:Addr) (n:Nat):Prop where
 zz:IsZip h z TI TO .none
 ti:IsPair h TI (.ref i1) (.ref i2)
 ot:∃a b,IsPair h TO a b
 p1:h.IsListIter i1 t1 n
 p2:h.IsListIter i2 t2 n
def OJ (K:PySem.W.Frag) (a b:Addr):It:=
 ⟨fun i H=>∃xs ys x y,SqL K H a xs∧SqL K H b ys∧xs[i]?=some x∧ys[i]?=some y,fun i H v H'=>∃p x y,v = .ref p∧H p=none∧(∀xs,SqL K H a xs→xs[i]?=some x)∧(∀ys,SqL K H b ys→ys[i]?=some y)∧H'=upd H p (.tup [x,y]),fun i H=>∃xs ys,SqL K H a xs∧SqL K H b ys∧(xs.length≤i∨ys.length≤i)⟩
theorem OG {P:Program} {w:World} {K:PySem.W.Frag} {elts:List Expr} {n:Nat} {pos:Pos} (a b z TI TO i1 i2:Addr) (D:ZipApart z TI TO i1 i2 a b):Turn P w K (.Tuple elts n pos) (OJ K a b) [z,TI,TO,i1,i2] z (fun i h=>ZL h z TI TO i1 i2 a b i) where
 mem:=by simp
 obj:=fun i h st c hc=>by
  obtain ⟨h1,h2,⟨x,y,h3⟩,⟨o4,e4,_,d4⟩,⟨o5,e5,_,d5⟩⟩:=st
  simp only [List.mem_cons,List.not_mem_nil,or_false] at hc
  rcases hc with rfl | rfl | rfl | rfl | rfl
  ·exact ⟨_,h1,fun v q=>by have q':Data.fields _=Data.cell v:=q;cases q'⟩
  ·exact ⟨_,h2,fun v q=>by have q':Data.seq _=Data.cell v:=q;cases q'⟩
  ·exact ⟨_,h3,fun v q=>by have q':Data.seq _=Data.cell v:=q;cases q'⟩
  ·exact ⟨o4,e4,fun v q=>by rw [d4] at q;cases q⟩
  ·exact ⟨o5,e5,fun v q=>by rw [d5] at q;cases q⟩
 keep:=fun i h h' st k=>by
  obtain ⟨h1,h2,⟨x,y,h3⟩,⟨o4,e4,r4⟩,⟨o5,e5,r5⟩⟩:=st
  exact ⟨k z (by simp) _ h1,k TI (by simp) _ h2,⟨x,y,k TO (by simp) _ h3⟩,⟨o4,k i1 (by simp) _ e4,r4⟩,⟨o5,k i2 (by simp) _ e5,r5⟩⟩
 item:=by
  intro X hP hw hK hc i pins s σ H E I hf st hg
  subst hP hw hK
  obtain ⟨xs,ys,x,y,hq1,hq2,hx,hy⟩:=hg
  obtain ⟨its,rv,P1,hz⟩:=I.list hq1
  obtain ⟨jts,rv',P2,hz'⟩:=I.list hq2
  obtain ⟨u,hu,ru⟩:=rv.get hx
  obtain ⟨v,hv,ru'⟩:=rv'.get hy
  have lz:z < s.heap.objs.size:=Heap.lt_size st.zz
  have lTI:TI < s.heap.objs.size:=Heap.lt_size st.ti
  have lTO:TO < s.heap.objs.size:=by obtain ⟨_,_,h⟩:=st.ot;exact Heap.lt_size h
  have l1:i1 < s.heap.objs.size:=by obtain ⟨_,h,_⟩:=st.p1;exact Heap.lt_size h
  have l2:i2 < s.heap.objs.size:=by obtain ⟨_,h,_⟩:=st.p2;exact Heap.lt_size h
  obtain ⟨xO,yO,hO⟩:=st.ot
  refine wpAny_pyNext_zip_item D st.zz st.ti hO st.p1 st.p2 (xs:=its.toArray) (ys:=jts.toArray) P1.isList P2.isList (x:=u) (y:=v) (by simpa using hu) (by simpa using hv) fun g b1 b3' b4 b5 b6 _ b7=>?_
  have b2:IsPair g TI (.ref i1) (.ref i2):=b7 _ _ D.TIz D.TITO D.TIi1 D.TIi2 st.ti
  have b3:∃a b,IsPair g TO a b:=⟨_,_,b3'⟩
  refine ⟨_,rfl,?_⟩
  refine wpAny_letOwnedTupleGo_zip b1 fun g2 b1' sb=>?_
  have hfr:H s.heap.objs.size=none:=I.hok.fresh (Nat.le_refl _)
  have nz:∀c,c∈[z,TI,TO,i1,i2]→c≠s.heap.objs.size:=fun c hc=>by
   simp only [List.mem_cons,List.not_mem_nil,or_false] at hc
   rcases hc with rfl | rfl | rfl | rfl | rfl <;> exact Nat.ne_of_lt (by assumption)
  have hT:g2.get? s.heap.objs.size=some { cls:=.type "tuple",data:=.seq #[u,v] }:=(sb.2 _ (Nat.ne_of_gt lz)).trans b6
  have I1:Inv X pins σ (upd H s.heap.objs.size (.tup [x,y])) { s with heap:=s.heap.push { cls:=.type "tuple",data:=.seq #[u,v] },toks:=s.toks }:=
   I.laid (t':=s.toks) (fun b u e=>Heap.get?_push_of_some _ e) (Nat.le_refl _) ⟨by show 2≤sizeLine;decide,[u,v],.cons ru (.cons ru' .nil),⟨_,Heap.get?_push_size _ rfl,rfl,_,rfl⟩⟩
  have fp':∀b∈[z,TI,TO,i1,i2],FpOk X pins (upd H s.heap.objs.size (.tup [x,y])) b:=fun b hb=>by
   obtain ⟨g0,g1⟩:=hf b hb
   exact ⟨by rw [Au (nz b hb)];exact g0,g1⟩
  refine ⟨.ref s.heap.objs.size,upd H s.heap.objs.size (.tup [x,y]),?_,rfl,⟨_,x,y,rfl,hfr,fun zs hs=>by rw [I.list_inj hs hq1];exact hx,fun zs hs=>by rw [I.list_inj hs hq2];exact hy,rfl⟩,?_,fun b hb=>(fp' b hb).1⟩
  ·have I2:=Inv.turnedL (h':=g2) (t':=s.toks) [z,TI,TO,i1,i2] I1 fp' fun b o hb eb=>(by
    simp only [List.mem_cons,List.not_mem_nil,or_false,not_or] at hb
    rcases Heap.get?_push_cases eb with ⟨rfl,rfl⟩ | eb'
    ·exact hT
    ·exact (sb.2 b hb.1).trans (b7 b o hb.1 hb.2.2.1 hb.2.2.2.1 hb.2.2.2.2 eb'))
   exact I2
  ·obtain ⟨x3,y3,b3⟩:=b3
   exact ⟨b1',(sb.2 TI D.TIz).trans b2,⟨x3,y3,(sb.2 TO D.TOz).trans b3⟩,let ⟨o,e,r⟩:=b4;⟨o,(sb.2 i1 D.i1z).trans e,r⟩,let ⟨o,e,r⟩:=b5;⟨o,(sb.2 i2 D.i2z).trans e,r⟩⟩
 done:=by
  intro X hP hw hK hc i pins s σ H E I hf st hg
  subst hP hw hK
  obtain ⟨xs,ys,hq1,hq2,hl⟩:=hg
  obtain ⟨its,rv,P1,hz⟩:=I.list hq1
  obtain ⟨jts,rv',P2,hz'⟩:=I.list hq2
  have e1:=rv.length
  have e2:=rv'.length
  obtain ⟨xO,yO,hO⟩:=st.ot
  refine wpAny_pyNext_zip_end (I.ok.hd hc) D st.zz st.ti hO st.p1 st.p2 (xs:=its.toArray) (ys:=jts.toArray) P1.isList P2.isList (by simp only [List.getElem?_toArray,List.getElem?_eq_none_iff];lia) fun g hk=>⟨rfl,?_⟩
  exact Inv.turnedL [z,TI,TO,i1,i2] (t':=s.toks) I hf fun b o hb e=>(by
   simp only [List.mem_cons,List.not_mem_nil,or_false,not_or] at hb
   exact hk b o hb.1 hb.2.2.1 hb.2.2.2.1 hb.2.2.2.2 e)
 self:=fun _ _ _ _ _ st h=>wpAny_pyIter_zip st.zz h
end L2
namespace F2
open PySem L2 PySem.Spec
theorem ItOk2.zipl {K:PySem.W.Frag} {c:Cf} {H:Hp} {p q:Addr} {ds es:List D} (r:∀c' H',Ext c H c' H'→∃vs,SqL K H' p vs∧Reps K c' H' vs ds) (r':∀c' H',Ext c H c' H'→∃vs,SqL K H' q vs∧Reps K c' H' vs es):ItOk2 K (OJ K p q) c H (Dm ds es):=by
 refine ⟨fun c' H' i ex hi=>?_,fun c' H' i x H'' d ex hd hy=>?_,fun c' H' ex=>?_⟩
 ·obtain ⟨vs,h1,h2⟩:=r c' H' ex
  obtain ⟨ws,h3,h4⟩:=r' c' H' ex
  rw [Fu] at hi
  obtain ⟨v,e,_⟩:=h2.at (List.getElem?_eq_getElem (Nat.lt_of_lt_of_le hi (Nat.min_le_left _ _)))
  obtain ⟨w,e',_⟩:=h4.at (List.getElem?_eq_getElem (Nat.lt_of_lt_of_le hi (Nat.min_le_right _ _)))
  exact ⟨vs,ws,v,w,h1,h3,e,e'⟩
 ·obtain ⟨vs,h1,h2⟩:=r c' H' ex
  obtain ⟨ws,h3,h4⟩:=r' c' H' ex
  obtain ⟨a,v,w,rfl,hq,hs,hs',rfl⟩:=hy
  obtain ⟨d1,d2,e1,e2,rfl⟩:=HX _ _ _ _ hd
  obtain ⟨v',g1,rv⟩:=h2.at e1
  obtain ⟨w',g2,rw'⟩:=h4.at e2
  rw [hs vs h1] at g1
  rw [hs' ws h3] at g2
  cases g1
  cases g2
  exact ⟨a,_,_,rfl,hq,rfl,rfl,.cons rv (.cons rw' .nil)⟩
 ·obtain ⟨vs,h1,h2⟩:=r c' H' ex
  obtain ⟨ws,h3,h4⟩:=r' c' H' ex
  refine ⟨vs,ws,h1,h3,?_⟩
  rw [Fu,h2.length,h4.length]
  lia
section
variable {X:Cx} {a b:Expr} {pos:Pos}
end
end F2
namespace L2
open PySem PySem.Spec PyProof.Rows PySem.W
section
variable {prog:Program} {w:World} {A:Around} {h:Heap} {g:Array GenState} {d:Drawn} {t:Nat} {os:OsState} {R:Result→Shared→Prop}
variable {nm q:Str} {C N fI:Addr} {bs bm bmB:List Value} {hdct:Bool} {sn:List Str} {sub:List Value} {ab:Bool} {col:Option Bool} {dd:Option Addr} {k0 k1 k2 k3 k5:Option Value} {B newId initId:String} {mN:Str→Option Value}
abbrev excObj (C tp:Addr):Obj:={ cls:=.ref C,data:=.fields #[.ref tp,.none,.none,.none,.bool false,.none] }
abbrev Ew (h:Heap) (C:Addr) (us:List Value):Heap:=(h.push { cls:=.type "tuple",data:=.seq us.toArray }).push (excObj C h.objs.size)
theorem Pb (F:ExcBaseFacts B newId initId bmB) (T:OwnTail h bmB bm) {us:List Value} (hC:h.get? C=some (excClassObj nm q C N bs bm hdct sn sub ab col dd k0 k1 k2 k3 k5 newId)) (hn:h.Ns N mN) (hni:mN "__init__" = some (.ref fI))
 (hb:Looks (model prog w) h (bindSpecial (.ref fI) (.ref (h.objs.size + 1))) (.ref fI,[.ref (h.objs.size + 1)])) (hus:us.length≤sizeLine)
 (hq:codeAny (model prog w) (A.under (.builtin "type.__call__" ⟨.ref C :: us,[]⟩)) (.call (.ref fI) ⟨.ref (h.objs.size + 1) :: us,[]⟩) (InitBack (h.objs.size + 1) R) ⟨Ew h C us,g,d,t,os⟩) :
 codeAny (model prog w) A (.call (.ref C) ⟨us,[]⟩) R ⟨h,g,d,t,os⟩:=by
 have c1:=tc_lookup
 have c2:=tc_bind (.ref C)
 have ty:(⟨h,g,d,t,os⟩:Shared).TypeIs (.ref C) "type":=⟨_,hC,rfl⟩
 refine codeAny_of_tree ?_
 show wpAny _ _ (callAny (.ref C) _) _ _ _
 repeat (any_goals (first
  | assumption
  | with_reducible refine wpAny_loadPart_at hC ?_
  | wp_step))
 refine ⟨rfl,codeAny_call_builtin_at (Code.quiet_builtin _ (by decide +kernel)) entry_typeCall (wpAny_check_type_call_sub hC ?_)⟩
 repeat (first
  | with_reducible refine wpAny_loadPart_at hC ?_
  | with_reducible refine wpAny_madeBy_exc hC ?_
  | wp_step)
 refine codeAny_call_builtin_code (Code.quiet_builtin _ F.quiet) (wpAny_check_new_subT F T hC (codeAny_exc_new_subT F T hC ?_ hus))
 change wpAny _ _ _ _ _ (Shared.mk (Ew h C us) g d t os)
 have kp:∀b o,h.get? b=some o→(Ew h C us).get? b=some o:=fun b o e=>Heap.get?_push_of_some _ (Heap.get?_push_of_some _ e)
 have he:(Ew h C us).get? (h.objs.size + 1)=some { cls:=.ref C,data:=.fields #[.ref h.objs.size,.none,.none,.none,.bool false,.none] }:=by heap_get
 have n1:(Ew h C us).Ns N mN:=hn.keeps kp
 have cC:(Value.ref C :: bm).contains (.ref C)=true:=by simp
 unfold isInstance
 repeat (first
  | with_reducible refine wpAny_loadPart_at he ?_
  | (with_reducible refine wpAny_isSubtype_exc (kp _ _ hC) ?_;rw [cC])
  | wp_step)
 show wpAny _ _ (typeLookup (.ref C) _) _ _ _
 refine wpAny_typeLookup_tail (kp _ _ hC) n1 (T.keeps kp) F.mroIs F.init.lookup ?_
 rw [hni]
 refine wpAny_holding (wpAny_bind ((hb.keeps kp).at ?_))
 refine wpAny_bind (wpAny_call (codeAny_mono hq fun r s' z=>?_))
 cases r with
 | error e=>exact z
 | ok f=>
   cases f with
   | ret v=>
     obtain ⟨rfl,z⟩:=z
     exact wpAny_pure (wpAny_pure z)
   | _=>exact z.elim
end
end L2
namespace L2
open PySem PySem.Spec PyProof.Rows PySem.W PySem.Builtin PySem.Builtin.ObjectAttr
theorem Ot (self:Value):refuseLoop self "__setattr__" [.type "ValueError",.type "Exception",.type "BaseException",.type "object"]=pure ():=by
 kernel_rfl
abbrev Fw (C P:Addr):List Value:=[.ref C,.ref P,.type "ValueError",.type "Exception",.type "BaseException",.type "object"]
theorem IM (self:Value) (C P:Addr):refuseLoop self "__setattr__" (Fw C P)=pure ():=by
 rw [Fw,refuseLoop_ref,refuseLoop_ref]
 exact Ot self
section
variable {prog:Program} {w:World} {A:Around} {s:Shared} {K:PySem.W.Frag} {x C P tp:Addr} {R:Result→Shared→Prop} {name:Str} {v:Value} {tk:Tok} {cd:ClassData}
theorem Rc (X:K.In s.heap) (hx:s.heap.get? x=some (excObj C tp)) (hc:clsIn K C=some cd) (hmr:cd.mro=Fw C P) (ha:findIn K (.ref C) name=some none)
 (h:wpAny (model prog w) A.in1 (storeInOwnDict (.ref x) (.ref C) (.str name tk) name v false) (fun fin s'=>match fin with | .done f=>R (.ok f) s' | .again c'=>c'.quiet=true∧codeAny (model prog w) A c' R s') (fun e s'=>R (.error e) s') s) :
 codeAny (model prog w) A (.call (.builtin "object.__setattr__") ⟨[.ref x,.str name tk,v],[]⟩) R s:=by
 have SF:=PySem.F.store_object
 have I:InstAt s.heap x (excObj C tp) C none:=⟨hx,rfl,rfl,trivial⟩
 have ob:Looks (model prog w) s.heap (isInstance (.ref x) (.type "object")) true:=I.type.andThen (looks_mroIn X (by unfold mroIn;rw [hc,Option.bind_some,hmr];rfl))
 refine codeAny_call_builtin SF.slot.plain SF.entry (@check_slot (model prog w) _ _ s "object.__setattr__" "object" "__setattr__" (.ref x) [.str name tk,v] [] _ SF.kind SF.split ob (SF.args (.ref x) (.str name tk) v) ?_)
 have mr:Looks (model prog w) s.heap (mroOf (.ref C)) (Fw C P):=by rw [←hmr];exact (looks_clsIn X hc).andThen .now
 rw [osa_eq,refuse_eq]
 refine wpAny_bind (wpAny_bind (I.type.here (wpAny_bind (mr.here ?_))))
 rw [IM]
 refine wpAny_pure (wpAny_bind (I.type.here (wpAny_bind ((looks_findIn X ha).here ?_))))
 exact wpAny_bind (wpAny_pure h)
theorem Rz {E:Value→Shared→Prop} {Q:Unit→Shared→Prop} (X:K.In s.heap) (hx:s.heap.get? x=some (excObj C tp)) (hs:findIn K (.ref C) "__setattr__" = some (some (.builtin "object.__setattr__"))) (hc:clsIn K C=some cd) (hmr:cd.mro=Fw C P) (hd:cd.hasDict=true) (ha:findIn K (.ref C) name=some none)
 (h:∀h',(∀b o,b≠x→s.heap.get? b=some o→h'.get? b=some o)→h'.get? x=some { excObj C tp with dict:=some s.heap.objs.size }→h'.Ns1 s.heap.objs.size (fun y=>if y=name then some v else none)→Q () { s with heap:=h',toks:=s.toks + 2 }) :
 wpAny (model prog w) A (setAttr (.ref x) name v) Q E s:=by
 have I:InstAt s.heap x (excObj C tp) C none:=⟨hx,rfl,rfl,trivial⟩
 refine set_plain X I hs (Rc (s:={ s with toks:=s.toks + 1 }) X hx hc hmr ha ?_)
 refine wpAny_bind (wpAny_pure (wpAny_bind (wpAny_bind (wpAny_loadPart (s:={ s with toks:=s.toks + 1 }) hx (wpAny_bind (Looks.here (s:={ s with toks:=s.toks + 1 }) (looks_clsIn X hc) ?_))))))
 rw [hd,if_neg (by decide)]
 show wpAny _ _ (alloc _ >>= fun dx=>update x _ >>= fun _=>pure (some dx)) _ _ _
 have hx1:(s.heap.push emptyDict).get? x=some (excObj C tp):=Heap.get?_push_of_some _ hx
 have hne:s.heap.objs.size≠x:=Nat.ne_of_gt (Heap.lt_size hx)
 refine wpAny_bind (wpAny_alloc (s:={ s with toks:=s.toks + 1 }) (wpAny_bind (wpAny_update hx1 (wpAny_pure ?_))))
 have hx2:((s.heap.push emptyDict).update x fun o=>{ o with dict:=some s.heap.objs.size }).get? x=some { excObj C tp with dict:=some s.heap.objs.size }:=Heap.get?_update_self _ hx1 rfl
 have hk:∀b o,b≠x→s.heap.get? b=some o→((s.heap.push emptyDict).update x fun o=>{ o with dict:=some s.heap.objs.size }).get? b=some o:=fun b o hb e=>(Heap.get?_update_other _ _ (Ne.symm hb)).trans (Heap.get?_push_of_some _ e)
 have hdx:((s.heap.push emptyDict).update x fun o=>{ o with dict:=some s.heap.objs.size }).get? s.heap.objs.size=some emptyDict:=(Heap.get?_update_other _ _ (Ne.symm hne)).trans (Heap.get?_push_size _ rfl)
 have n1:((s.heap.push emptyDict).update x fun o=>{ o with dict:=some s.heap.objs.size }).Ns1 s.heap.objs.size fun _=>none:=⟨_,#[],_,hdx,rfl,(fun e he=>by simp at he),(by simp [UniqKeys]),fun _=>rfl⟩
 refine wpAny_bind (wpAny_pure (wpAny_bind ?_))
 refine wpAny_nsSet1 n1 fun h' n2 sb=>?_
 obtain ⟨oD,esD,epD,hoD,hdD,hcD⟩:=n2.count (PySem.Within.cons name v (ns:=[]) (fun y u=>absurd rfl u))
 refine wpAny_bind (wpAny_lookBehind hoD (by rw [hdD];exact pastItsLine_dict (Nat.le_trans hcD (by show 1≤_;decide))) ?_)
 exact wpAny_pure (h h' (fun b o hb e=>by
  by_cases hb2:b=s.heap.objs.size
  ·subst hb2;exact absurd (Heap.lt_size e) (Nat.lt_irrefl _)
  ·exact (sb.2 b hb2).trans (hk b o hb e)) ((sb.2 x (Ne.symm hne)).trans hx2) n2)
end
end L2
namespace L2
open PySem PySem.Spec PyProof.Rows PySem.W
def XRec (h:Heap) (x C:Addr) (dx:Option Addr) (tb:Value):Prop:=∃(o:Obj) (vs:Array Value),h.get? x=some o∧o.cls = .ref C∧o.dict=dx∧o.data = .fields vs∧vs[1]?=some tb
def XTb (h:Heap) (T:Addr):Prop:=∃(o:Obj) (ts:Array Value),h.get? T=some o∧o.data = .fields ts∧ts[3]?=some .none
structure XKeep (fs ch:List Addr) (h h':Heap):Prop where
 keep:∀b o,b∉ch→b∉fs→h.get? b=some o→h'.get? b=some o
 slot:∀b o,b∉ch→h.get? b=some o→∃sl,h'.get? b=some { o with slots:=sl }
section
variable {M:Model} {A:Around} {E:Value→Shared→Prop} {s:Shared} {env:Env} {outer:List Env} {base:Heap} {L x C:Addr} {dx:Option Addr} {tb:Value} {Q:Unit→Shared→Prop}
theorem Le {o:Obj} {vs:Array Value} (hd:o.data = .fields vs) (f:Array Value→Array Value):(o.mapFields f).data = .fields (f vs)∧(o.mapFields f).cls=o.cls∧(o.mapFields f).dict=o.dict:=by
 obtain ⟨c,d,dt,sl⟩:=o
 cases hd
 exact ⟨rfl,rfl,rfl⟩
end
abbrev VE:List Value:=[.type "ValueError",.type "Exception",.type "BaseException",.type "object"]
structure XCl (K:PySem.W.Frag) (C:Addr) (bm:List Value):Prop where
 ex:∃cd dd k0 k1 k2 k3 k5,K.lookup C=some { cls:=.type "type",dict:=dd,data:=.cls cd,slots:=#[k0,k1,k2,k3,some (.builtin "ValueError.__new__"),k5] }∧cd.mro = .ref C :: bm∧cd.hasDel=false∧cd.hasDict=true∧nsOkIn K cd.ns=true
 tl:tailIn K VE bm=true
def Ky (K:PySem.W.Frag) (C:Addr) (bm:List Value):Bool:=tailIn K VE bm && match K.lookup C with
 | some ⟨.type "type",_,.cls cd,sl⟩=>(match sl.toList with
   | [_,_,_,_,some (.builtin n),_]=>n == "ValueError.__new__" && cd.mro == .ref C :: bm && !cd.hasDel && cd.hasDict && nsOkIn K cd.ns
   | _=>false)
 | _=>false
theorem XCl.of_in {K:PySem.W.Frag} {C:Addr} {bm:List Value} (q:Ky K C bm=true):XCl K C bm:=by
 unfold Ky at q
 rw [Bool.and_eq_true] at q
 refine ⟨?_,q.1⟩
 have q:=q.2
 split at q
 ·rename_i dd cd sl ho
  split at q
  ·rename_i k0 k1 k2 k3 n k5 hs
   simp only [Bool.and_eq_true,beq_iff_eq,Bool.not_eq_true'] at q
   obtain ⟨⟨⟨⟨rfl,h1⟩,h2⟩,h3⟩,h4⟩:=q
   have hsl:sl=#[k0,k1,k2,k3,some (.builtin "ValueError.__new__"),k5]:=by
    cases sl
    exact congrArg Array.mk hs
   exact ⟨cd,dd,k0,k1,k2,k3,k5,by rw [ho,hsl],h1,h2,h3,h4⟩
  ·cases q
 ·cases q
theorem XCl.obj {K:PySem.W.Frag} {C:Addr} {bm:List Value} {h:Heap} (c:XCl K C bm) (X:K.In h):∃nm q N bs sn sub ab col dd k0 k1 k2 k3 k5,h.get? C=some (excClassObj nm q C N bs bm true sn sub ab col dd k0 k1 k2 k3 k5 "ValueError.__new__")∧h.Ns N (h.nsMap N):=by
 obtain ⟨⟨nm,bs,mro,ns,qn,hd,sn,sub,ab,col,del⟩,dd,k0,k1,k2,k3,k5,h1,h2,h3,h4,h5⟩:=c.ex
 dsimp only at h2 h3 h4 h5
 subst h2 h3 h4
 exact ⟨nm,qn,ns,bs,sn,sub,ab,col,dd,k0,k1,k2,k3,k5,X _ _ h1,.of_isNs (isNs_of_in X h5)⟩
theorem XCl.tail {K:PySem.W.Frag} {C:Addr} {bm:List Value} {h:Heap} (c:XCl K C bm) (X:K.In h):OwnTail h VE bm:=tail_of_in X c.tl
theorem XCl.has {K:PySem.W.Frag} {C:Addr} {bm:List Value} {h:Heap} (c:XCl K C bm) (X:K.In h):(Value.ref C :: bm).contains (.type "BaseException")=true:=by
 rw [List.contains_cons,(c.tail X).hasType (b:=true) (by decide +kernel),Bool.or_true]
section
variable {M:Model} {A:Around} {E:Value→Shared→Prop} {env:Env} {K:PySem.W.Frag} {C:Addr} {bm:List Value} {s:Shared}
theorem Pt {t:Sem Value} {Q:Flow→Shared→Prop} (c:XCl K C bm) (hh:A.handled=none)
 (h:wpAny M A t (fun v s1=>∃x dx,v = .ref x∧K.In s1.heap∧XRec s1.heap x C dx .none∧E v s1) E s):wpAny M A (raiseStmt env (some t) none) Q E s:=by
 unfold raiseStmt
 refine wpAny_bind (wpAny_mono h (fun v s1 q=>?_) fun _ _ z=>z)
 obtain ⟨x,dx,rfl,X,⟨o,vs,hx,hc,hd,hdt,h1⟩,hE⟩:=q
 obtain ⟨nm,q,N,bs,sn,sub,ab,col,dd,k0,k1,k2,k3,k5,hC,_⟩:=c.obj X
 have hb:=c.has X
 obtain ⟨hp,g,d,tk,os⟩:=s1
 repeat (first
  | (with_reducible refine wpAny_loadPart_at hx ?_;rw [hc])
  | with_reducible refine wpAny_loadPart_at hC ?_
  | (with_reducible refine wpAny_isSubtype_exc hC ?_;rw [hb])
  | with_reducible refine wpAny_field hx hdt h1 ?_
  | wp_step)
 exact wpAny_raiseNew_none hh hE
end
def CX1 (P:Program) (w:World):CXT:=fun outer H s E e s'=>∃(x C:Addr) (dx:Option Addr) (T:Addr) (H':Hp),e = .ref x∧s'.os=s.os∧AllBare s'.gens∧Un (frs outer) [] H H' s.heap s'.heap∧HOk P w H' s'.heap∧
 H' x=some (.ext (F2.XIs x C dx))∧s.heap.objs.size≤x∧s.heap.objs.size≤T∧T≠x∧H' T=none∧XRec s'.heap x C dx (.ref T)∧XTb s'.heap T∧E (.ref x) dx H'
theorem XRec.is {h:Heap} {x C:Addr} {dx:Option Addr} {tb:Value} (r:XRec h x C dx tb):F2.XIs x C dx h:=by
 obtain ⟨o,vs,h1,h2,h3,h4,_⟩:=r
 exact ⟨o,vs,h1,h2,h3,h4⟩
theorem XIs.stay {x C:Addr} {dx:Option Addr} {h1 h2:Heap} (r:F2.XIs x C dx h1) (k:∀o,h1.get? x=some o→h2.get? x=some o):F2.XIs x C dx h2:=by
 obtain ⟨o,vs,e,q⟩:=r
 exact ⟨o,vs,k o e,q⟩
theorem K0 {P:Program} {w:World} {H:Hp} {h:Heap} {x C:Addr} {dx:Option Addr} (r:F2.XIs x C dx h):ObjOk P w H h x (.ext (F2.XIs x C dx)):=
 ⟨r,let ⟨o,_,e,_⟩:=r;⟨o,e⟩,fun _ _ q k=>XIs.stay q k⟩
section
variable {X:Cx} {pins:List (Addr×Obj)} {σ:St} {H H':Hp} {s s':Shared} {h':Heap} {x C T:Addr} {dx:Option Addr} {ch:List Addr}
theorem PP (k:XKeep (frs X.stack) ch s.heap h') (hT:∀b∈ch,b=x∨b=T):Un (frs X.stack) (x :: T :: []) H H s.heap h':=by
 have nch:∀b:Addr,b∉(x :: T :: [])→b∉ch:=fun b hb z=>hb (by rcases hT b z with rfl | rfl <;> simp)
 refine ⟨fun b o e n hb hx=>k.keep b o (nch b hx) hb e,fun b o e n hb hx=>k.slot b o (nch b hx) e,fun b o e n _=>n,fun b o e hx=>?_,fun _ _ e=>e,fun _ _ _ e=>e,fun b ps e=>⟨#[],by rw [e];simp⟩⟩
 obtain ⟨sl,q⟩:=k.slot b o (nch b hx) e
 exact ⟨_,q⟩
theorem Inv.left (I:Inv X pins σ H s) (hx:H x=some (.ext (F2.XIs x C dx))) (hT:H T=none) (nx:X.s₀.heap.objs.size≤x) (nT:X.s₀.heap.objs.size≤T) (k:XKeep (frs X.stack) ch s.heap h') (hc:∀b∈ch,b=x∨b=T) (r:F2.XIs x C dx h')
 (oT:∀y c,X.env.cells.lookup y=some c→c≠T) (lT:T≠X.env.locals) (pT:∀p∈X.pn++pins,p.1≠T):Inv X pins σ H { s with heap:=h' }:=by
 have nfr:∀b u,H b=some u→b∉frs X.stack:=fun b u e z=>by rw [I.stkFree b z] at e;cases e
 refine I.call (g':=s.gens) (t':=s.toks) (d':=s.drawn) (ch:=[x,T]) (PP k hc) (fun b u e=>?_) I.bare fun b hb=>?_
 ·by_cases hb:b=x
  ·subst hb;rw [hx] at e;cases e;exact K0 r
  ·refine (I.hok b u e).stay (fun c v hcc q=>k.keep c v ?_ ?_ q) (fun _ q=>q) fun _ _ q=>q
   ·intro z
    rcases hcc with rfl | hcc
    ·rcases hc c z with q | q
     ·exact hb q
     ·rw [q,hT] at e;cases e
    ·rcases hc c z with q | q
     ·rw [q,hx] at hcc;cases hcc
     ·rw [q,hT] at hcc;cases hcc
   ·rcases hcc with rfl | hcc
    ·exact nfr _ _ e
    ·exact nfr _ _ hcc
 ·have q:b=x∨b=T:=by simpa using hb
  rcases q with rfl | rfl
  ·exact ⟨.inr nx,(fun z=>by rw [z,I.free] at hx;cases hx),(fun y c e z=>by subst z;rw [I.freeC y c e] at hx;cases hx),fun p hp z=>by rw [←z,(I.pin p hp).2.1] at hx;cases hx⟩
  ·exact ⟨.inr nT,lT,oT,pT⟩
theorem Inv.raised (I:Inv X pins σ H s) {E:XK} {e:Value} (q:CX1 X.prog X.w X.stack H s E e s'):∃(x C:Addr) (dx:Option Addr) (T:Addr) (H':Hp),e = .ref x∧Inv X pins σ H' s'∧H' x=some (.ext (F2.XIs x C dx))∧s.heap.objs.size≤x∧s.heap.objs.size≤T∧T≠x∧H' T=none∧XRec s'.heap x C dx (.ref T)∧XTb s'.heap T∧E (.ref x) dx H':=by
 obtain ⟨x,C,dx,T,H',he,os,bare,un,hok,hx,nx,nT,ne,hT,r,tb,q⟩:=q
 obtain ⟨hh,g,d,t,os'⟩:=s'
 obtain rfl:os'=s.os:=os
 exact ⟨x,C,dx,T,H',he,I.call (h':=hh) (g':=g) (d':=d) (t':=t) (ch:=[]) un hok bare (fun b z=>absurd z (by simp)),hx,nx,nT,ne,hT,r,tb,q⟩
theorem Inv.newT (I:Inv X pins σ H s) (h:s.heap.objs.size≤T):T≠X.env.locals∧(∀y c,X.env.cells.lookup y=some c→c≠T)∧∀p∈X.pn++pins,p.1≠T:=by
 have far:∀b o,s.heap.get? b=some o→b≠T:=fun b o e z=>absurd (Nat.lt_of_lt_of_le (Heap.lt_size e) h) (by rw [z];exact Nat.lt_irrefl _)
 refine ⟨fun z=>absurd I.lt (by rw [←z];exact Nat.not_lt.mpr h),fun y c e=>?_,fun p hp=>far _ _ (I.pin p hp).1⟩
 obtain ⟨v,o,ho,_⟩:=I.cell y c e
 exact far c o ho
end
section
variable {P:Program} {w:World} {K:PySem.W.Frag} {mg:Str→Option Value} {base:Heap} {N:List Str} {qual:Str} {scope:Scope} {f:Addr} {cd:Value} {A:Around} {outer:List Env} {s₀:Shared} {H₀:Hp} {E:XK}
end
def exO (x C tp:Addr):HO:=.ext fun h=>h.get? x=some (excObj C tp)
def Hv (x C tp dx:Addr):HO:=.ext fun h=>h.get? x=some { excObj C tp with dict:=some dx }
theorem Sr {P:Program} {w:World} {H:Hp} {h:Heap} {x C tp:Addr} (e:h.get? x=some (excObj C tp)):ObjOk P w H h x (exO x C tp):=⟨e,⟨_,e⟩,fun _ _ p k=>k _ p⟩
theorem QJ {P:Program} {w:World} {H:Hp} {h:Heap} {x C tp dx:Addr} (e:h.get? x=some { excObj C tp with dict:=some dx }):ObjOk P w H h x (Hv x C tp dx):=⟨e,⟨_,e⟩,fun _ _ p k=>k _ p⟩
structure XAt (K:PySem.W.Frag) (C P:Addr) (f:Str):Prop where
 cl:XCl K C (.ref P :: VE)
 set:findIn K (.ref C) "__setattr__" = some (some (.builtin "object.__setattr__"))
 no:findIn K (.ref C) f=some none
theorem XCl.cls {K:PySem.W.Frag} {C:Addr} {bm:List Value} (c:XCl K C bm):∃cd,clsIn K C=some cd∧cd.mro = .ref C :: bm∧cd.hasDict=true:=by
 obtain ⟨cd,dd,k0,k1,k2,k3,k5,h1,h2,_,h4,_⟩:=c.ex
 exact ⟨cd,by unfold clsIn;rw [h1],h2,h4⟩
def sXF (K:PySem.W.Frag) (P:Addr) (ta tv:TE) (f:Str):TS:=fun D σ H=>tv σ H fun y H1=>ta σ H1 fun x H2=>∃a C tp,x = .ref a∧H2 a=some (exO a C tp)∧XAt K C P f∧
 ∀dx,H2 dx=none→dx≠a→D.nx σ (upd (upd H2 dx (.xd [(f,y)])) a (Hv a C tp dx))
theorem Uu {X:Cx} {P:Addr} {o value:Expr} {ta tv:TE} {f:Str} {pos' pos:Pos} (ha:PE X o ta) (hv:PE X value tv) (hs:swapsWith value (some (.Attribute o f pos')) pos.line X.env=pure false):PS X (.Assign [.Attribute o f pos'] value pos) (sXF X.K P ta tv f):=by
 intro pins s σ H D I h
 refine plainObj_wpAny_Assign_Attribute (thn (hv pins s σ H _ I h) fun u s1 ⟨y,H1,I1,ry,q⟩=>thn (ha pins s1 σ H1 _ I1 q) fun ov s2 ⟨x,H2,I2,rx,a,C,tp,ex,ea,c,q2⟩=>?_) hs
 subst ex
 obtain rfl:ov=Value.ref a:=rx
 obtain ⟨cd,c1,c2,c3⟩:=c.cl.cls
 have hx:s2.heap.get? a=some (excObj C tp):=(I2.hok a _ ea).1
 refine Rz I2.kIn hx c.set c1 c2 c3 c.no fun h' k e n=>?_
 have fr:=I2.hok.fresh (Nat.le_refl s2.heap.objs.size)
 have ne:s2.heap.objs.size≠a:=(fun z=>by rw [z,ea] at fr;cases fr)
 have nn:∀b u,H2 b=some u→b≠s2.heap.objs.size:=fun b u z=>Bf z fr
 have na:∀b u,s2.heap.get? b=some u→H2 b=none→b≠a:=fun b u _ z w'=>by rw [w',ea] at z;cases z
 refine ⟨σ,_,I2.un (h':=h') (t':=s2.toks + 2) ⟨fun b u e1 e2 _ _=>k b u (na b u e1 e2) e1,fun b u e1 e2 _ _=>⟨u.slots,k b u (na b u e1 e2) e1⟩,fun b u e1 e2 _=>?_,fun b u e1 _=>?_,fun b xs e1=>?_,fun b o' u e1=>?_,fun b ps e1=>⟨#[],?_⟩⟩ fun b u e1=>?_,q2 s2.heap.objs.size fr ne⟩
 ·rw [Au (na b u e1 e2),Au (Nat.ne_of_lt (Heap.lt_size e1))];exact e2
 ·by_cases hb:b=a
  ·subst hb;exact ⟨_,e⟩
  ·exact ⟨_,k b u hb e1⟩
 ·rw [Au (fun z=>by rw [z,ea] at e1;cases e1),Au (nn _ _ e1)];exact e1
 ·rw [Au (fun z=>by rw [z,ea] at e1;cases e1),Au (nn _ _ e1)];exact e1
 ·rw [Au (fun z=>by rw [z,ea] at e1;cases e1),Au (nn _ _ e1),e1];simp
 ·by_cases hb:b=a
  ·subst hb;rw [AJ] at e1;cases e1;exact QJ e
  ·rw [Au hb] at e1
   by_cases hb2:b=s2.heap.objs.size
   ·subst hb2;rw [AJ] at e1;cases e1
    refine ⟨_,n,fun g=>?_⟩
    by_cases hg:g=f
    ·subst hg;simp only [List.lookup,beq_self_eq_true,if_true];exact ry
    ·have hgb:(g == f)=false:=beq_eq_false_iff_ne.mpr hg
     simp only [List.lookup,hgb,if_neg hg];trivial
   ·rw [Au hb2] at e1
    refine (I2.hok b u e1).stay (fun z v hz q=>k z v ?_ q) (fun z q=>?_) fun z xs q=>?_
    ·rcases hz with rfl | hz
     ·exact hb
     ·intro w';rw [w',ea] at hz;cases hz
    ·rw [Au (fun z=>by rw [z,ea] at q;cases q),Au (nn _ _ q)];exact q
    ·rw [Au (fun z=>by rw [z,ea] at q;cases q),Au (nn _ _ q)];exact q
theorem Na {K:PySem.W.Frag} {h:Heap} {N:Addr} {m:Str→Option Value} {n:Str} {v:Value} (X:K.In h) (G:h.Ns N m) (e:nsIn K N n=some (some v)):m n=some v:=by
 obtain ⟨o,es,ep,ho,hd,_,hf⟩:=G
 unfold nsIn at e
 split at e
 ·next c d es' n' sl q=>
  have z:=X _ _ q
  rw [ho] at z
  cases z
  cases hd
  split at e
  ·next en he=>
   rw [←hf]
   unfold nsFind findBy
   rw [←Array.find?_toList,he]
   simpa using e
  ·split at e <;> cases e
 ·cases e
structure XMk (K:PySem.W.Frag) (C P f:Addr):Prop where
 cl:XCl K C (.ref P :: VE)
 init:∃cd,clsIn K C=some cd∧nsIn K cd.ns "__init__" = some (some (.ref f))
 fn:isFn K (.ref f)=true
 kp:keepIn K (.ref C)=true
section
variable {X:Cx} {k:Nat} {f C P:Addr} {fd:FuncData} {pins:List (Addr×Obj)} {σ:St} {H:Hp} {s:Shared} {Q:Value→Shared→Prop} {us:List Value} {vs:List V} {a:Str} {ps:List Str} {v:V} {u:Value}
end
section
variable {M:Model} {A:Around} {E:Value→Shared→Prop} {K:PySem.W.Frag} {s:Shared} {x C C':Addr} {bm bm':List Value} {dx:Option Addr} {tb:Value}
theorem Pc {Q:Bool→Shared→Prop} (c:XCl K C bm) (c':XCl K C' bm') (X:K.In s.heap) (hx:XRec s.heap x C dx tb) (h:Q ((Value.ref C :: bm).contains (.ref C')) s):wpAny M A (excMatches (.ref x) (.ref C')) Q E s:=by
 obtain ⟨nm,q,N,bs,sn,sub,ab,col,dd,k0,k1,k2,k3,k5,hC,_⟩:=c.obj X
 obtain ⟨nm',q',N',bs',sn',sub',ab',col',dd',k0',k1',k2',k3',k5',hC',_⟩:=c'.obj X
 have hb:=c'.has X
 obtain ⟨o,vs,ho,hc,hd,hdt,h1⟩:=hx
 obtain ⟨hp,g,d,tk,os⟩:=s
 have ty:(⟨hp,g,d,tk,os⟩:Shared).TypeIs (.ref C') "type":=⟨_,hC',rfl⟩
 have nt:=tc_notTuple
 cases hbb:(Value.ref C :: bm).contains (.ref C') <;> (
  rw [hbb] at h
  unfold excMatches
  repeat (first
   | (with_reducible refine wpAny_loadPart_at ho ?_;rw [hc])
   | with_reducible refine wpAny_loadPart_at hC' ?_
   | (with_reducible refine wpAny_isSubtype_exc hC' ?_;rw [hb])
   | (with_reducible refine wpAny_isSubtype_exc hC ?_;rw [hbb])
   | wp_step)
  exact h)
end
def ON (h:Heap) (T:Addr) (fl:Value):Prop:=∃(o:Obj) (ts:Array Value),h.get? T=some o∧o.data = .fields ts∧ts[3]?=some fl
section
variable {M:Model} {A:Around} {E:Value→Shared→Prop} {s:Shared} {env:Env} {outer:List Env} {base:Heap} {L x C:Addr} {dx:Option Addr} {tb:Value} {Q:Unit→Shared→Prop}
theorem JV {hadNext:Bool} {hd:Value} (hfr:A.frames=some (env :: outer)) (hl:s.heap.FunFrames base (env :: outer)) (hf:env.frame=some L) (hx:XRec s.heap x C dx tb)
 (h:∀h' T,s.heap.objs.size≤T→T≠x→XRec h' x C dx (.ref T)→ON h' T (rawInt L)→XKeep (frs (env :: outer)) [x] s.heap h'→Q () { s with heap:=h' }) :
 wpAny M A (do let fo ←frameOf env;let at' ←entryPlaceOf L hadNext;let en ←EntryCells.newEntry hd fo .none (rawInt L) .none at';setField (.ref x) 1 en) Q E s:=by
 obtain ⟨ox,vs,gx,cx,dxe,dtx,tbx⟩:=hx
 have v1:1 < vs.size:=(Array.getElem?_eq_some_iff.mp tbx).1
 have nfr:x∉frs (env :: outer):=fun z=>by
  obtain ⟨_,o2,g2,n2⟩:=hl.mem z
  rw [gx] at g2;cases g2
  exact n2 vs dtx
 refine wpAny_bind (wpAny_frameOf_fun hfr hl hf fun h1 so=>?_)
 refine wpAny_bind (wpAny_entryPlaceOf fun at' ip=>?_)
 unfold EntryCells.newEntry newFields
 refine wpAny_bind (wpAny_newObj_type ?_ (ip.sizeOk5 _ _ _ _ _))
 generalize hne:(Obj.mk (Value.type "traceback") none (Data.fields ([hd,Value.ref L,Value.none,rawInt L,Value.none]++if at'.isEmpty=true then List.replicate 6 Value.none else at').toArray) #[])=nob
 have dn:nob.data = .fields ([hd,Value.ref L,Value.none,rawInt L,Value.none]++if at'.isEmpty=true then List.replicate 6 Value.none else at').toArray:=by rw [←hne]
 have gx1:h1.get? x=some ox:=(so.2.1 x nfr).trans gx
 have gx2:(h1.push nob).get? x=some ox:=Heap.get?_push_of_some _ gx1
 have nex:h1.objs.size≠x:=Nat.ne_of_gt (Heap.lt_size gx1)
 refine wpAny_setField gx2 dtx v1 ?_
 obtain ⟨m1,m2,m3⟩:=Le dtx (·.setIfInBounds 1 (Value.ref h1.objs.size))
 have gx3:=Heap.get?_update_self (Obj.mapFields (·.setIfInBounds 1 (Value.ref h1.objs.size))) gx2 (Obj.isFreed_of_fields m1)
 have gT2:(h1.push nob).get? h1.objs.size=some nob:=Heap.get?_push_size h1 (Obj.isFreed_of_fields dn)
 have gT3:=(Heap.get?_update_other (h1.push nob) (Obj.mapFields (·.setIfInBounds 1 (Value.ref h1.objs.size))) (Ne.symm nex)).trans gT2
 have vx:(vs.setIfInBounds 1 (Value.ref h1.objs.size))[1]?=some (.ref h1.objs.size):=by simp [v1]
 have old:∀b o,b≠x→h1.get? b=some o→((h1.push nob).update x (Obj.mapFields (·.setIfInBounds 1 (Value.ref h1.objs.size)))).get? b=some o:=fun b o hb e=>by
  rw [Heap.get?_update_other _ _ (Ne.symm hb)]
  exact Heap.get?_push_of_some _ e
 refine h _ h1.objs.size (Nat.le_of_eq so.1.symm) nex ⟨_,_,gx3,m2.trans cx,m3.trans dxe,m1,vx⟩ ⟨_,_,gT3,dn,?_⟩ ⟨fun b o hb hbf e=>old b o (fun z=>hb (by simp [z])) ((so.2.1 b hbf).trans e),fun b o hb e=>?_⟩
 ·rw [List.getElem?_toArray];rfl
 ·obtain ⟨sl,e1⟩:=so.2.2 b o e
  exact ⟨sl,old b _ (fun z=>hb (by simp [z])) e1⟩
end
structure XOn (X:Cx) (pins:List (Addr×Obj)) (H:Hp) (s:Shared) (x C:Addr) (dx:Option Addr) (T:Option Addr) (fl:Value):Prop where
 hx:H x=some (.ext (F2.XIs x C dx))
 nx:X.s₀.heap.objs.size≤x
 rc:XRec s.heap x C dx (match T with | some a=>.ref a | none=>.none)
 tb:∀a,T=some a→a≠x∧H a=none∧X.s₀.heap.objs.size≤a∧(a≠X.env.locals∧(∀y c,X.env.cells.lookup y=some c→c≠a)∧∀p∈X.pn++pins,p.1≠a)∧ON s.heap a fl
 fo:fl = .none∨fl=rawInt X.env.locals
section
variable {M:Model} {A:Around} {Er:Value→Shared→Prop} {X:Cx} {pins:List (Addr×Obj)} {σ:St} {H:Hp} {s:Shared} {x C:Addr} {dx T:Option Addr} {fl:Value} {Q:Unit→Shared→Prop}
theorem Hf (fr:Option Addr) (I:Inv X pins σ H s) {a:Addr} (o:XOn X pins H s x C dx (some a) fl) (hfr:fr=none∨fr=some X.env.locals)
 (k:∀h',Inv X pins σ H { s with heap:=h' }→XOn X pins H { s with heap:=h' } x C dx (some a) (fr.elim Value.none fun f=>rawInt f)→Q () { s with heap:=h' }):wpAny M A (setFlight (.ref x) fr) Q Er s:=by
 obtain ⟨ox,vs,gx,cx,dxe,dtx,tbx⟩:=id o.rc
 obtain ⟨ne,hT,nT,oT,ot,ts,gT,dT,t3⟩:=o.tb a rfl
 unfold setFlight
 refine wpAny_bind (wpAny_field gx dtx tbx ?_)
 rw [if_pos (show (Value.ref a != Value.none)=true from rfl)]
 refine wpAny_setField gT dT (Array.getElem?_eq_some_iff.mp t3).1 ?_
 obtain ⟨m1,m2,m3⟩:=Le dT (·.setIfInBounds 3 (fr.elim Value.none fun f=>rawInt f))
 have gT2:=Heap.get?_update_self (Obj.mapFields (·.setIfInBounds 3 (fr.elim Value.none fun f=>rawInt f))) gT (Obj.isFreed_of_fields m1)
 have oth:∀b,b≠a→(s.heap.update a (Obj.mapFields (·.setIfInBounds 3 (fr.elim Value.none fun f=>rawInt f)))).get? b=s.heap.get? b:=fun b z=>Heap.get?_update_other _ _ (Ne.symm z)
 have rc':XRec (s.heap.update a (Obj.mapFields (·.setIfInBounds 3 (fr.elim Value.none fun f=>rawInt f)))) x C dx (.ref a):=⟨ox,vs,(oth x (Ne.symm ne)).trans gx,cx,dxe,dtx,tbx⟩
 refine k _ (I.left o.hx hT o.nx nT (ch:=[a]) ⟨fun b u hb _ e=>(oth b (by simpa using hb)).trans e,fun b u hb e=>⟨u.slots,(oth b (by simpa using hb)).trans e⟩⟩ (fun b hb=>.inr (by simpa using hb)) rc'.is oT.2.1 oT.1 oT.2.2) ⟨o.hx,o.nx,rc',fun a' e=>?_,?_⟩
 ·cases e
  exact ⟨ne,hT,nT,oT,_,_,gT2,m1,by rw [Array.getElem?_setIfInBounds_self,if_pos (Array.getElem?_eq_some_iff.mp t3).1]⟩
 ·rcases hfr with rfl | rfl
  ·exact .inl rfl
  ·exact .inr rfl
theorem HI (hA:A.frames=some X.stack) (I:Inv X pins σ H s) (hs:X.stack=X.env :: X.outer) (hf:X.env.frame=some X.env.locals) (o:XOn X pins H s x C dx T fl)
 (k:∀h' a,Inv X pins σ H { s with heap:=h' }→XOn X pins H { s with heap:=h' } x C dx (some a) (rawInt X.env.locals)→Q () { s with heap:=h' }):wpAny M A (noteFrame (.ref x) X.env) Q Er s:=by
 obtain ⟨ox,vs,gx,cx,dxe,dtx,tbx⟩:=id o.rc
 have fin:∀(s1:Shared) (hh:∃h1,s1 = { s with heap:=h1 }) (ch:List Addr) (h':Heap) (a:Addr),Inv X pins σ H s1→s1.heap.objs.size≤a→a≠x→XRec h' x C dx (.ref a)→ON h' a (rawInt X.env.locals)→XKeep (frs (X.env :: X.outer)) [x] s1.heap h'→Q () { s1 with heap:=h' }:=by
  rintro s1 ⟨h1,rfl⟩ ch h' a I1 l1 l2 l3 l4 l5
  obtain ⟨o1,o2,o3⟩:=I1.newT l1
  have J:=I1.left o.hx (I1.hok.fresh l1) o.nx (Nat.le_trans I1.sz l1) (ch:=[x]) (hs ▸ l5) (fun b hb=>.inl (by simpa using hb)) l3.is o2 o1 o3
  exact k h' a J ⟨o.hx,o.nx,l3,fun a' e=>by cases e;exact ⟨l2,I1.hok.fresh l1,Nat.le_trans I1.sz l1,⟨o1,o2,o3⟩,l4⟩,.inr rfl⟩
 unfold noteFrame
 simp only [hf]
 refine wpAny_bind (wpAny_field gx dtx tbx ?_)
 cases T with
 | none=>
   rw [if_neg (by decide)]
   exact JV (hA.trans (congrArg some hs)) (hs ▸ I.stack) hf o.rc fun h' a l1 l2 l3 l4 l5=>fin s ⟨s.heap,rfl⟩ [] h' a I l1 l2 l3 l4 l5
 | some T₀=>
   obtain ⟨ne,hT,nT,oT,ot,ts,gT,dT,t3⟩:=o.tb T₀ rfl
   rw [if_pos (show (Value.ref T₀ != Value.none)=true from rfl)]
   refine wpAny_bind (wpAny_field gT dT t3 ?_)
   rcases o.fo with rfl | rfl
   ·rw [if_neg (show ¬((Value.none == rawInt X.env.locals)=true) from by simp [rawInt])]
    refine wpAny_bind (wpAny_setField gT dT (Array.getElem?_eq_some_iff.mp t3).1 ?_)
    have oth:∀b,b≠T₀→(s.heap.update T₀ (Obj.mapFields (·.setIfInBounds 3 Value.none))).get? b=s.heap.get? b:=fun b z=>Heap.get?_update_other _ _ (Ne.symm z)
    have rc':XRec (s.heap.update T₀ (Obj.mapFields (·.setIfInBounds 3 Value.none))) x C dx (.ref T₀):=⟨ox,vs,(oth x (Ne.symm ne)).trans gx,cx,dxe,dtx,tbx⟩
    have J:=I.left o.hx hT o.nx nT (ch:=[T₀]) ⟨fun b u hb _ e=>(oth b (by simpa using hb)).trans e,fun b u hb e=>⟨u.slots,(oth b (by simpa using hb)).trans e⟩⟩ (fun b hb=>.inr (by simpa using hb)) rc'.is oT.2.1 oT.1 oT.2.2
    exact JV (s:={ s with heap:=s.heap.update T₀ (Obj.mapFields (·.setIfInBounds 3 Value.none)) }) (hA.trans (congrArg some hs)) (hs ▸ J.stack) hf rc' fun h' a l1 l2 l3 l4 l5=>fin _ ⟨_,rfl⟩ [] h' a J l1 l2 l3 l4 l5
   ·rw [if_pos (show (rawInt X.env.locals == rawInt X.env.locals)=true from by first | (simp;done) | exact beq_self_eq_true _)]
    exact wpAny_pure (k s.heap T₀ I ⟨o.hx,o.nx,o.rc,o.tb,.inr rfl⟩)
end
def XE (X:Cx) (E:St→XK):Value→Shared→Prop:=fun e s=>∃pins σ H x C dx T fl,e = .ref x∧Inv X pins σ H s∧XOn X pins H s x C dx T fl∧E σ (.ref x) dx H
def FJ (CX:CXT) (X:Cx) (E:St→XK):Prop:=∀(pins:List (Addr×Obj)) (σ:St) (H:Hp) (s:Shared) (e:Value) (s':Shared),Inv X pins σ H s→CX X.stack H s (E σ) e s'→X.xe e s'
section
variable {M:Model} {X:Cx} {E:St→XK}
theorem XE.own (hs:X.stack=X.env :: X.outer) (hf:X.env.frame=some X.env.locals):PassesOwn M X.A X.env (XE X E):=by
 rintro e s ⟨pins,σ,H,x,C,dx,T,fl,rfl,I,o,q⟩
 refine HI I.ok.frames I hs hf o fun h' a I' o'=>?_
 obtain ⟨ox,vs,gx,cx,dxe,dtx,tbx⟩:=id o'.rc
 unfold cameBackBy
 refine wpAny_bind (wpAny_field gx dtx tbx ?_)
 rw [if_neg (show ¬((Value.ref a == Value.none)=true) from by intro z;cases z)]
 rw [hf]
 exact Hf _ I' o' (.inr rfl) fun h'' I'' o''=>⟨pins,σ,H,x,C,dx,some a,_,rfl,I'',o'',q⟩
theorem XE.pass:FJ (CX1 X.prog X.w) (X.wish (XE X E)) E:=by
 intro pins σ H s e s' I q
 obtain ⟨x,C,dx,T,H',rfl,J,hx,nx,nT,ne,hT,r,tb,q⟩:=I.unwish.raised q
 exact ⟨pins,σ,H',x,C,dx,some T,.none,rfl,J,⟨hx,Nat.le_trans I.sz nx,r,fun a e=>by cases e;exact ⟨ne,hT,Nat.le_trans I.sz nT,I.unwish.newT nT,tb⟩,.inl rfl⟩,q⟩
end
section
variable {P:Program} {w:World} {K:PySem.W.Frag} {mg:Str→Option Value} {base:Heap}
abbrev cxX (P:Program) (w:World) (K:PySem.W.Frag) (mg:Str→Option Value) (base:Heap) (N:List Str) (qual:Str) (scope:Scope) (f:Addr) (cd:Value) (A:Around) (outer:List Env) (s:Shared) (H:Hp) (E:XK):Cx:=
 (EE (CX1 P w) P w K mg base N qual scope f cd A outer s H E).wish (XE (EE (CX1 P w) P w K mg base N qual scope f cd A outer s H E) fun _=>E)
theorem XE.leaves {N:List Str} {qual:Str} {scope:Scope} {f:Addr} {cd:Value} {A:Around} {outer:List Env} {s₀:Shared} {H₀:Hp} {E:XK} {e:Value} {s:Shared}
 (h:XE (EE (CX1 P w) P w K mg base N qual scope f cd A outer s₀ H₀ E) (fun _=>E) e s):(EE (CX1 P w) P w K mg base N qual scope f cd A outer s₀ H₀ E).xe e s:=by
 obtain ⟨pins,σ,H,x,C,dx,T,fl,rfl,I,o,q⟩:=h
 refine wpAny_bind (HI I.ok.frames I rfl rfl o fun h' a I' o'=>?_)
 refine Hf none I' o' (.inl rfl) fun h'' I'' o''=>?_
 obtain ⟨ne,hT,nT,oT,tb⟩:=o''.tb a rfl
 exact ⟨x,C,dx,a,H,rfl,I''.os,I''.bare,I''.base,I''.hok,o''.hx,o''.nx,nT,ne,hT,o''.rc,tb,q⟩
theorem Fun.okX {x qual:Str} {st:Stmt} {f:Addr} {fd:FuncData} {N ps:List Str} {k:Nat} {sp:Sp} (F:Fun K x qual st f fd) (S:FnScope N ps (As st)) (len:∀vs H Q E,sp vs H Q E→vs.length=ps.length)
 (hbody:∀(cdv:Value) (A:Around) (outer:List Env) (s:Shared) (H:Hp) (vs:List V) (Q:VK) (E:XK),Room k (A.deeper (envOfC qual (As st) s.heap.objs.size f cdv))→sp vs H Q E→
   ∃t,PSs (cxX P w K mg base N qual (As st) f cdv A outer s H E) (B3 st) t∧t { nx:=fun _ H'=>Q .non H',rt:=Q } (D0 N vs) H):FnOk P w K mg base (CX1 P w) (k + 1) f fd ps sp:=by
 obtain ⟨oc,od,kV,doc,pm,an,cdv,ct,osl,rfl,lk,hcd⟩:=F.ex
 refine Qc lk hcd S len fun A outer s H vs Q E hr hsp=>?_
 obtain ⟨t,h,q⟩:=hbody cdv A outer s H vs Q E hr hsp
 exact ⟨t,fun pins s1 σ H1 D I hw=>wpAny_mono (h pins s1 σ H1 D (I.wish _) hw) (fun _ _ q=>q.unwish) fun _ _ z=>z.leaves,q⟩
end
section
variable {X:Cx} {CX:CXT} {k:Nat} {f:Addr} {fd:FuncData} {ps:List Str} {sp:Sp} {E:St→XK} {x:Str} {p pos:Pos} {e:Expr} {es:List Expr} {t:TA}
def TM (sp:Sp) (E:St→XK) (t:TA):TE:=fun σ H Q=>t σ H fun vs H1=>sp vs H1 Q (E σ)
theorem Pi (F:FnOk X.prog X.w X.K X.mg X.base CX k f fd ps sp) (hr:Room k X.A) (hg:Gl X x) (hm:X.mg x=some (.ref f)) (hk:PySem.W.keepIn X.K (.ref f)=true) (hb:Binds X.K fd ps []) (hx:FJ CX X E)
 (ha:PA X (e :: es) t) (hdb:(x == ("__debug__" : Str))=false:=by decide) (he:starEach (e :: es) X.env=(false,eval e X.env) :: starEach es X.env:=by rfl) (hpl:(backTo pos (starEach es X.env)).any (·.1)=false:=by rfl) :
 PE X (.Call (.Name x p) (e :: es) [] pos) (TM sp E t):=by
 intro pins s σ H Q I h
 refine wpAny_Call_Name_kw (E5 I hg hm ?_ hdb)
 refine PySem.W.callWith_K (h₀:=X.base) I.ok.mod.kin hk (thn (ha pos pins s σ H _ I h) fun us s1 ⟨vs,H1,I1,r,q⟩=>⟨I1.kIn,?_⟩) he hpl
 have hl:(us++[]).length=ps.length:=by rw [List.append_nil,←r.length];exact F.len _ _ _ _ q
 refine wpAny_call (codeAny_mono (F.run X.A X.stack s1 H1 ⟨us,[]⟩ us vs Q (E σ) hr I1.env0 (by have:=hb s1 us I1.kIn hl;rwa [List.append_nil] at this) r q) fun r s' hq=>?_)
 cases r with
 | error e=>exact hx pins σ H1 s1 e s' I1 hq
 | ok fl=>
   cases fl with
   | ret u=>exact I1.after hq
   | next=>exact False.elim hq
   | brk=>exact False.elim hq
   | cont=>exact False.elim hq
end
def PM (X:Cx) (e:Expr) (C:Addr) (t:St→Hp→(Addr→Option Addr→Hp→Prop)→Prop):Prop:=
 ∀(pins:List (Addr×Obj)) (s:Shared) (σ:St) (H:Hp) (Q:Addr→Option Addr→Hp→Prop),Inv X pins σ H s→t σ H Q→
  wpAny (model X.prog X.w) X.A (eval e X.env) (fun v s1=>∃x dx H1,v = .ref x∧Inv X pins σ H1 s1∧H1 x=some (.ext (F2.XIs x C dx))∧X.s₀.heap.objs.size≤x∧XRec s1.heap x C dx .none∧Q x dx H1) X.xe s
def Gx (X:Cx) (E:St→XK):Prop:=∀(pins:List (Addr×Obj)) (σ:St) (H:Hp) (s:Shared) (x C:Addr) (dx:Option Addr),Inv X pins σ H s→XOn X pins H s x C dx none .none→E σ (.ref x) dx H→X.xe (.ref x) s
theorem XE.raises {X:Cx} {E:St→XK}:Gx (X.wish (XE X E)) E:=fun pins σ H s x C dx I o q=>⟨pins,σ,H,x,C,dx,none,.none,rfl,I.unwish,⟨o.hx,o.nx,o.rc,o.tb,o.fo⟩,q⟩
theorem Lo {X:Cx} {e:Expr} {C:Addr} {bm:List Value} {t:St→Hp→(Addr→Option Addr→Hp→Prop)→Prop} {E:St→XK} {pos:Pos} (hc:X.calm=true) (c:XCl X.K C bm) (hx:Gx X E) (h:PM X e C t)
 (ho:evalOpt (some e) X.env=some (eval e X.env):=by rfl):PS X (.Raise (some e) none pos) (fun _ σ H=>t σ H fun x dx H1=>E σ (.ref x) dx H1):=by
 intro pins s σ H D I q
 rw [arm_exec_Raise,ho]
 refine wpAny_bind (wpAny_standAt ?_)
 refine Pt c (I.ok.hd hc) ?_
 refine wpAny_bind (wpAny_mono (h pins s σ H _ I q) (fun v s1 ⟨x,dx,H1,e1,I1,hx1,nx,r,q1⟩=>?_) fun _ _ z=>z)
 subst e1
 refine wpAny_bind (wpAny_standAt (wpAny_pure ⟨x,dx,rfl,I1.kIn,r,hx pins σ H1 s1 x C dx I1 ⟨hx1,nx,r,(fun a e=>by cases e),.inl rfl⟩ q1⟩))
theorem M9 {K:PySem.W.Frag} {h:Heap} {N:Addr} {m:Str→Option Value} {n:Str} (X:K.In h) (G:h.Ns N m) (e:nsIn K N n=some none):m n=none:=by
 obtain ⟨o,es,ep,ho,hd,_,hf⟩:=G
 unfold nsIn at e
 split at e
 ·next c d es' n' sl q=>
  have z:=X _ _ q
  rw [ho] at z
  cases z
  cases hd
  split at e
  ·cases e
  ·next he=>rw [←hf];unfold nsFind findBy;rw [←Array.find?_toList,he];rfl
 ·cases e
section
variable {prog:Program} {w:World} {A:Around} {E:Value→Shared→Prop} {h:Heap} {g:Array GenState} {d:Drawn} {t:Nat} {os:OsState} {Q:Value→Shared→Prop}
variable {nm q:Str} {C N:Addr} {bs bm bmB:List Value} {hdct:Bool} {sn:List Str} {sub:List Value} {ab:Bool} {col:Option Bool} {dd:Option Addr} {k0 k1 k2 k3 k5:Option Value} {B newId initId:String} {mN:Str→Option Value}
theorem Oa (F:ExcBaseFacts B newId initId bmB) (T:OwnTail h bmB bm) {us:List Value} (hC:h.get? C=some (excClassObj nm q C N bs bm hdct sn sub ab col dd k0 k1 k2 k3 k5 newId)) (hn:h.Ns N mN) (hni:mN "__init__" = none) (hus:us.length≤sizeLine)
 (hq:∀h' tp,(∀b o,h.get? b=some o→h'.get? b=some o)→h'.get? (h.objs.size + 1)=some (excObj C tp)→Q (.ref (h.objs.size + 1)) ⟨h',g,d,t,os⟩) :
 wpAny (model prog w) A (call (.ref C) us) Q E ⟨h,g,d,t,os⟩:=by
 have c1:=tc_lookup
 have c2:=tc_bind (.ref C)
 have ty:(⟨h,g,d,t,os⟩:Shared).TypeIs (.ref C) "type":=⟨_,hC,rfl⟩
 refine wpAny_call (codeAny_of_tree ?_)
 show wpAny _ _ (callAny (.ref C) _) _ _ _
 repeat (any_goals (first
  | assumption
  | with_reducible refine wpAny_loadPart_at hC ?_
  | wp_step))
 refine ⟨rfl,codeAny_call_builtin_at (Code.quiet_builtin _ (by decide +kernel)) entry_typeCall (wpAny_check_type_call_sub hC ?_)⟩
 repeat (first
  | with_reducible refine wpAny_loadPart_at hC ?_
  | with_reducible refine wpAny_madeBy_exc hC ?_
  | wp_step)
 refine codeAny_call_builtin_code (Code.quiet_builtin _ F.quiet) (wpAny_check_new_subT F T hC (codeAny_exc_new_subT F T hC ?_ hus))
 change wpAny _ _ _ _ _ (Shared.mk (Ew h C us) g d t os)
 have kp:∀b o,h.get? b=some o→(Ew h C us).get? b=some o:=fun b o e=>Heap.get?_push_of_some _ (Heap.get?_push_of_some _ e)
 have he:(Ew h C us).get? (h.objs.size + 1)=some { cls:=.ref C,data:=.fields #[.ref h.objs.size,.none,.none,.none,.bool false,.none] }:=by heap_get
 have n1:(Ew h C us).Ns N mN:=hn.keeps kp
 have cC:(Value.ref C :: bm).contains (.ref C)=true:=by simp
 unfold isInstance
 repeat (first
  | with_reducible refine wpAny_loadPart_at he ?_
  | (with_reducible refine wpAny_isSubtype_exc (kp _ _ hC) ?_;rw [cC])
  | wp_step)
 show wpAny _ _ (typeLookup (.ref C) _) _ _ _
 refine wpAny_typeLookup_tail (kp _ _ hC) n1 (T.keeps kp) F.mroIs F.init.lookup ?_
 rw [hni]
 refine wpAny_holding (wpAny_bind (wpAny_of_eq (F.init.bind _) (wpAny_bind (wpAny_call (codeAny_call_builtin F.init.plain F.initEntry (wpAny_check_init_subT F (T.keeps kp) (kp _ _ hC) he rfl ?_))))))
 wp_walk
 refine hq _ ((Ew h C us).objs.size) (fun b o hb=>?_) ?_
 ·rw [Heap.get?_update_other _ _ (Nat.ne_of_gt (Nat.lt_succ_of_lt (Heap.lt_size hb)))]
  exact Heap.get?_push_of_some _ (kp b o hb)
 ·rw [Heap.get?_update_self _ (Heap.get?_push_of_some _ he) rfl]
  rfl
end
section
variable {X:Cx} {k:Nat} {f C P:Addr} {fd:FuncData} {a:Str} {ps:List Str} {n:Str} {p pos:Pos} {e:Expr} {es:List Expr}
theorem Rk {t:TA} {bm:List Value} {cd:ClassData} (c:XCl X.K C bm) (hk:keepIn X.K (.ref C)=true) (hcd:clsIn X.K C=some cd) (hni:nsIn X.K cd.ns "__init__" = some none) (hg:Gl X n) (hm:X.mg n=some (.ref C)) (ha:PA X (e :: es) t)
 (hdb:(n == ("__debug__" : Str))=false:=by decide) (h1:starEach (e :: es) X.env=(false,eval e X.env) :: starEach es X.env:=by rfl) (hpl:(backTo pos (starEach es X.env)).any (·.1)=false:=by rfl) :
 PM X (.Call (.Name n p) (e :: es) [] pos) C (fun σ H Q=>t σ H fun vs H1=>vs.length≤1000∧∀x,H1 x=none→Q x none (upd H1 x (.ext (F2.XIs x C none)))):=by
 intro pins s σ H Q I h
 refine wpAny_Call_Name_kw (E5 I hg hm ?_ hdb)
 refine PySem.W.callWith_K (h₀:=X.base) I.ok.mod.kin hk (thn (ha pos pins s σ H _ I h) fun us s1 ⟨vs,H1,I1,r,hl,q⟩=>⟨I1.kIn,?_⟩) h1 hpl
 obtain ⟨nm,q',N,bs,sn,sub,ab,col,dd,k0,k1,k2,k3,k5,hC,hN⟩:=c.obj I1.kIn
 have hni':s1.heap.nsMap N "__init__" = none:=by
  unfold clsIn at hcd
  split at hcd
  ·next l=>
   cases hcd
   have z:=I1.kIn _ _ l
   rw [hC] at z
   cases z
   exact M9 I1.kIn hN hni
  ·cases hcd
 obtain ⟨hh,g,d,tk,os⟩:=s1
 refine Oa PySem.F.excBase_ValueError (c.tail I1.kIn) hC hN hni' (by show us.length≤sizeLine;rw [←r.length];exact Nat.le_trans hl (by decide)) fun h' tp kp ht=>?_
 have xr:XRec h' (hh.objs.size + 1) C none .none:=⟨_,_,ht,rfl,rfl,rfl,rfl⟩
 exact ⟨_,none,_,rfl,I1.laid (h':=h') (t':=tk) kp (Nat.le_succ _) (K0 xr.is),AJ,Nat.le_trans I1.sz (Nat.le_succ _),xr,q _ (I1.hok.fresh (Nat.le_succ _))⟩
end
abbrev Cx.mark (X:Cx) (x:Addr):Cx:={ X with A:=X.A.mark (some (.ref x)),calm:=false,xe:=fun _ _=>False }
section
variable {X:Cx} {pins:List (Addr×Obj)} {σ:St} {H:Hp} {s:Shared} {D:Ends}
theorem Inv.mark (I:Inv X pins σ H s) (x:Addr):Inv (X.mark x) pins σ H s:=
 ⟨⟨I.ok.mod,I.ok.kind,I.ok.glob,I.ok.blt,I.ok.above,I.ok.inj,I.ok.has,I.ok.cab,(fun z=>by cases z),I.ok.frames,I.ok.stk,I.ok.exf,I.ok.bs,I.ok.bsz,I.ok.noex,I.ok.exfs,I.ok.funs,I.ok.frf⟩,I.os,I.bare,I.base,I.loc,I.cell,I.free,I.freeC,I.pin,I.hok,I.len⟩
theorem Inv.unmark {x:Addr} (J:X.Ok) (I:Inv (X.mark x) pins σ H s):Inv X pins σ H s:=⟨J,I.os,I.bare,I.base,I.loc,I.cell,I.free,I.freeC,I.pin,I.hok,I.len⟩
theorem Inv.repin {pn' pins':List (Addr×Obj)} {xe:Value→Shared→Prop} (I:Inv X pins σ H s) (h:∀p∈pn'++pins',p∈X.pn++pins):Inv { X with pn:=pn',xe:=xe } pins' σ H s:=
 ⟨⟨I.ok.mod,I.ok.kind,I.ok.glob,I.ok.blt,I.ok.above,I.ok.inj,I.ok.has,I.ok.cab,I.ok.hd,I.ok.frames,I.ok.stk,I.ok.exf,I.ok.bs,I.ok.bsz,I.ok.noex,I.ok.exfs,I.ok.funs,I.ok.frf⟩,I.os,I.bare,I.base,I.loc,I.cell,I.free,I.freeC,fun p hp=>I.pin p (h p hp),I.hok,I.len⟩
theorem Gr {M:Model} {A:Around} {E:Value→Shared→Prop} {i:Nat} {n:Str} {pos:Pos} {Q:Unit→Shared→Prop} (I:Inv X pins σ H s) (hN:X.N.Nodup) (hi:X.N[i]?=some n) (hk:X.env.scope.names.lookup n=some .local)
 (h:∀s',Inv X pins (σ.set i none) H s'→Q () s'):wpAny M A (do bindName X.env n .none;unbindBehindTheSuite X.env n pos) Q E s:=by
 refine wpAny_bind (wpAny_bindName (Gq (v:=.non) I hN hi (.inl hk) rfl (fun s1 I1=>?_) (.inr hk)))
 unfold unbindBehindTheSuite
 have hiσ:i < σ.length:=by rw [I.len];exact (List.getElem?_eq_some_iff.mp hi).1
 obtain ⟨m,hn,hl⟩:=id I1.loc
 have hcls:(X.env.scope.kind == .class || (X.env.scope.kind == .module && X.env.locals != X.env.globals))=false:=by rw [I.ok.kind];rfl
 obtain ⟨u0,_,lk⟩:=hl i n .non hi (by rw [List.getElem?_set_self hiσ]) (.inl hk)
 have hv:m n=some u0:=by
  rcases lk with ⟨_,e⟩ | ⟨k,_⟩
  ·exact e
  ·have k:X.env.scope.names.lookup n=some .cell∨X.env.scope.names.lookup n=some .free:=k
   rw [hk] at k;rcases k with k | k <;> cases k
 refine wpAny_onRaise (wpAny_unbindName_local hk hn hv hcls fun h' u hn' hs=>?_)
 have cne:=I1.cne
 have tracked:HOk X.prog X.w H h':=fun b ob e=>by
  refine (I1.hok b ob e).stay (fun c w' hc q=>(hs.2 c ?_).trans q) (fun _ q=>q) fun _ _ q=>q
  rintro rfl
  rcases hc with rfl | hc
  ·rw [I1.free] at e;cases e
  ·rw [I1.free] at hc;cases hc
 have far:∀b o,X.s₀.heap.get? b=some o→b≠X.env.locals:=fun b o e=>Nat.ne_of_lt (Nat.lt_of_lt_of_le (Heap.lt_size e) I1.ok.above)
 refine h _ ⟨I1.ok,I1.os,I1.bare,⟨fun b o e n hb hx=>?_,fun b o e n hb hx=>?_,I1.base.free,fun b o e hx=>?_,I1.base.tups,I1.base.frzs,I1.base.tbls⟩,⟨_,hn',fun j y v' e1 e2 e3=>?_⟩,fun y c e=>?_,I1.free,I1.freeC,fun p hp=>?_,tracked,by simpa using I.len⟩
 ·exact (hs.2 b (far b o e)).trans (I1.base.keep b o e n hb hx)
 ·obtain ⟨sl,e1⟩:=I1.base.slot b o e n hb hx
  exact ⟨sl,(hs.2 b (far b o e)).trans e1⟩
 ·obtain ⟨o',e1⟩:=I1.base.there b o e hx
  exact ⟨o',(hs.2 b (far b o e)).trans e1⟩
 ·by_cases hj:j=i
  ·subst hj
   rw [List.getElem?_set_self hiσ] at e2
   cases e2
  ·rw [List.getElem?_set_ne (Ne.symm hj)] at e2
   obtain ⟨u',r',q⟩:=hl j y v' e1 (by rw [List.getElem?_set_ne (Ne.symm hj)];exact e2) e3
   refine ⟨u',r',?_⟩
   rcases q with ⟨k,e⟩ | ⟨k,c,e,z⟩
   ·refine .inl ⟨k,?_⟩
    have:y≠n:=fun e=>hj (HH hN e1 (e ▸ hi))
    simp [this,e]
   ·exact .inr ⟨k,c,e,z.sameBut hs (cne y c e)⟩
 ·obtain ⟨w',z⟩:=I1.cell y c e
  exact ⟨w',z.sameBut hs (cne y c e)⟩
 ·obtain ⟨e,n,ne,nf,d⟩:=I1.pin p hp
  exact ⟨(hs.2 p.1 ne).trans e,n,ne,nf,d⟩
end
def PH (X:Cx) (hs:List ExceptHandler) (th:Addr→Addr→Option Addr→TS):Prop:=∀(pins:List (Addr×Obj)) (s:Shared) (σ:St) (H:Hp) (x C:Addr) (dx:Option Addr) (T:Addr) (D:Ends),Inv X pins σ H s→XOn X pins H s x C dx (some T) .none→th x C dx D σ H→
 wpAny (model X.prog X.w) X.A (handleBy (.ref x) X.env hs) (SP X pins D) X.xe s
def Ends.unset (D:Ends) (i:Nat):Ends:={ nx:=fun σ H=>D.nx (σ.set i none) H,rt:=D.rt,bk:=fun σ H=>D.bk (σ.set i none) H,ct:=fun σ H=>D.ct (σ.set i none) H }
section
variable {X:Cx} {n v:Str} {C':Addr} {bm':List Value} {p pos:Pos} {b₀:Stmt} {suite:List Stmt} {rest:List ExceptHandler} {ts:Addr→TS} {tr:Addr→Addr→Option Addr→TS} {i:Nat}
def VI (K:PySem.W.Frag) (C':Addr) (i:Nat) (ts:Addr→TS) (tr:Addr→Addr→Option Addr→TS):Addr→Addr→Option Addr→TS:=fun x C dx D σ H=>∃bm,XCl K C bm∧
 if (Value.ref C :: bm).contains (.ref C')=true then ts x (D.unset i) (σ.set i (some (.ref x))) H else tr x C dx D σ H
theorem Us (hg:Gl X n) (hm:X.mg n=some (.ref C')) (c':XCl X.K C' bm') (hN:X.N.Nodup) (hi:X.N[i]?=some v) (hl:X.env.scope.names.lookup v=some .local) (hb:∀x,PSs (X.mark x) (b₀ :: suite) (ts x)) (hr:PH X rest tr)
 (hdb:(n == ("__debug__" : Str))=false:=by decide):PH X (.ExceptHandler (some (.Name n p)) (some v) (b₀ :: suite) pos :: rest) (VI X.K C' i ts tr):=by
 intro pins s σ H x C dx T D I o ⟨bm,c,q⟩
 have Im:=I.mark x
 refine wpAny_handleBy_cons (codeAny_handlers_test (E5 Im hg hm ?_ hdb)) (by intro z;cases z)
 refine Pc c c' I.kIn o.rc ?_
 cases hc:(Value.ref C :: bm).contains (.ref C') with
 | false=>
   rw [hc,if_neg (by decide)] at q
   exact hr pins s σ H x C dx T D I o q
 | true=>
   rw [hc,if_pos rfl] at q
   refine codeAny_handlers_suite_as ?_
   refine Hf none I o (.inl rfl) fun h1 I1 o1=>?_
   refine Gq (v:=.ref x) I1 hN hi (.inl hl) rfl (fun s2 I2=>?_) (.inr hl)
   refine wpAny_mono (hb x pins s2 _ H _ (I2.mark x) q) (fun f s3 z=>?_) fun _ _ z=>z.elim
   show wpAny _ _ _ _ _ _
   have J:=I.ok
   cases f with
   | next=>obtain ⟨σ',H',I',q'⟩:=z;exact Gr (I'.unmark J) hN hi hl fun s4 I4=>⟨_,H',I4,q'⟩
   | brk=>obtain ⟨σ',H',I',q'⟩:=z;exact Gr (I'.unmark J) hN hi hl fun s4 I4=>⟨_,H',I4,q'⟩
   | cont=>obtain ⟨σ',H',I',q'⟩:=z;exact Gr (I'.unmark J) hN hi hl fun s4 I4=>⟨_,H',I4,q'⟩
   | ret u=>obtain ⟨w,σ',H',I',r,q'⟩:=z;exact Gr (I'.unmark J) hN hi hl fun s4 I4=>⟨w,_,H',I4,r,q'⟩
theorem Te {body:List Stmt} {h₀:ExceptHandler} {hs:List ExceptHandler} {tb:(St→XK)→TS} {th:Addr→Addr→Option Addr→TS} (h1:X.stack=X.env :: X.outer) (h2:X.env.frame=some X.env.locals)
 (hb:∀(pn:List (Addr×Obj)) (E:St→XK),PSs { X with pn:=pn,xe:=XE { X with pn:=pn } E } body (tb E)) (hh:PH X (h₀ :: hs) th) :
 PS X (.Try body (h₀ :: hs) [] [] pos) (fun D σ H=>tb (fun σ' v dx H'=>∀x C,v = .ref x→H' x=some (.ext (F2.XIs x C dx))→(∃h,F2.XIs x C dx h)→th x C dx D σ' H') D σ H):=by
 intro pins s σ H D I q
 refine wpAny_Try_except ?_
 refine wpAny_mono (hb (X.pn++pins) _ [] s σ H D (I.repin fun p hp=>by simpa using hp) q) (fun f s1 z=>?_) fun e s1 z=>?_
 ·have back:∀{σ':St} {H':Hp},Inv { X with pn:=X.pn++pins,xe:=XE { X with pn:=X.pn++pins } (fun σ' v dx H'=>∀x C,v = .ref x→H' x=some (.ext (F2.XIs x C dx))→(∃h,F2.XIs x C dx h)→th x C dx D σ' H') } [] σ' H' s1→Inv X pins σ' H' s1:=fun J=>J.repin (X:={ X with pn:=X.pn++pins,xe:=_ }) (pn':=X.pn) (pins':=pins) (xe:=X.xe) fun p hp=>by simpa using hp
  cases f with
  | next=>obtain ⟨σ',H',J,q'⟩:=z;exact wpAny_execs_nil ⟨σ',H',back J,q'⟩
  | brk=>obtain ⟨σ',H',J,q'⟩:=z;exact ⟨σ',H',back J,q'⟩
  | cont=>obtain ⟨σ',H',J,q'⟩:=z;exact ⟨σ',H',back J,q'⟩
  | ret u=>obtain ⟨w,σ',H',J,r,q'⟩:=z;exact ⟨w,σ',H',back J,r,q'⟩
 ·obtain ⟨pins',σ',H',x,C,dx,T,fl,rfl,J,o,q'⟩:=z
  have J1:Inv X pins σ' H' s1:=J.repin (X:={ X with pn:=X.pn++pins }) (pn':=X.pn) (pins':=pins) (xe:=X.xe) fun p hp=>by
   simp only [List.mem_append] at hp ⊢;exact .inl hp
  have o1:XOn X pins H' s1 x C dx T fl:=⟨o.hx,o.nx,o.rc,fun a e=>by
   obtain ⟨z1,z2,z3,⟨y1,y2,y3⟩,z5⟩:=o.tb a e
   exact ⟨z1,z2,z3,⟨y1,y2,fun p hp=>y3 p (by simp only [List.mem_append] at hp ⊢;exact .inl hp)⟩,z5⟩,o.fo⟩
  refine HI J1.ok.frames J1 h1 h2 o1 fun h' a I' o'=>Hf none I' o' (.inl rfl) fun h'' I'' o''=>?_
  exact hh pins _ σ' H' x C dx a D I'' o'' (q' x C rfl o.hx ⟨_,o.rc.is⟩)
end
end L2
namespace F2
open PySem L2 PySem.Spec
def BN:D→Bool
 | .exc _ _=>true
 | _=>false
def exE (E:XK) (v:V) (H:Hp):Prop:=∀x dx,v = .ref x→E (.ref x) dx H
section
variable (K:PySem.W.Frag)
def RX (E:L2.St→XK) (f:M D):TE:=fun σ H Q=>∃Oo c t,FInv K Oo c t σ H∧∃r t',f t=some (r,t')∧∀v H' c',FInv K Oo c' t' σ H'→Stp Oo c H c' H'→Rep K c' H' v r→if BN r=true then exE (E σ) v H' else Q v H'
def μX (E:XK):Cf→Hp→D→(V→Hp→Prop)→Prop:=fun c H r rt=>∀v,Rep K c H v r→if BN r=true then exE E v H else rt v H
def RSX (E:L2.St→XK) (f:M Out):TS:=fun D σ H=>∃Oo c t,FInv K Oo c t σ H∧∃o t',f t=some (o,t')∧∀σ' H' c',FInv K Oo c' t' σ' H'→Stp Oo c H c' H'→
 match o with
 | .next=>D.nx σ' H'
 | .brk=>D.bk σ' H'
 | .cont=>D.ct σ' H'
 | .ret r=>∀v,Rep K c' H' v r→if BN r=true then exE (E σ') v H' else D.rt v H'
def spX (f:Fn):Sp:=fun vs H Q E=>∃c ds S,SInv K c S H∧Reps K c H vs ds∧∃r S',f ds S=some (r,S')∧
 ∀v H' c',SInv K c' S' H'→Stp c.O c H c' H'→(∀b,c'.O b↔c.O b)→Rep K c' H' v r→if BN r=true then exE E v H' else Q v H'
end
def WD (g:Fn):Fn:=fun ds S=>match g ds S with
 | some (r,S')=>if BN r=true then none else some (r,S')
 | none=>none
section
variable {P:Program} {w:World} {K:PySem.W.Frag} {mg:Str→Option Value} {base:Heap}
theorem DC {x qual:Str} {st:Stmt} {fa:Addr} {fd:FuncData} {N ps:List Str} {k n m:Nat} {g:M Out} (e1:ps.length=n) (e2:N.length=m) (F:Fun K x qual st fa fd) (S:FnScope N ps (As st))
 (hb:∀(cdv:Value) (A:Around) (outer:List Env) (s:Shared) (H:Hp) (E:XK),Room k (A.deeper (PyProof.Rows.envOfC qual (As st) s.heap.objs.size fa cdv))→
   FJ (CX1 P w) (cxX P w K mg base N qual (As st) fa cdv A outer s H E) (fun _=>E)→Gx (cxX P w K mg base N qual (As st) fa cdv A outer s H E) (fun _=>E)→
   PassesOwn (model P w) (cxX P w K mg base N qual (As st) fa cdv A outer s H E).A (cxX P w K mg base N qual (As st) fa cdv A outer s H E).env (cxX P w K mg base N qual (As st) fa cdv A outer s H E).xe→
   PSs (cxX P w K mg base N qual (As st) fa cdv A outer s H E) (B3 st) (RSg K (μX K E) g)):FnOk P w K mg base (CX1 P w) (k + 1) fa fd ps (spX K (fnOf n m g)):=by
 subst e1 e2
 have hlen:∀{ds:List D} {S:List Ob} {z:D×List Ob},fnOf ps.length N.length g ds S=some z→ds.length=ps.length:=fun {ds S z} h=>by
  unfold fnOf at h
  split at h
  ·next h1=>exact h1
  ·cases h
 refine F.okX S (fun vs H Q E h=>?_) (fun cdv A outer s H vs Q E hr h=>?_)
 ·obtain ⟨c,ds,S,si,rs,r,S',e,_⟩:=h
  rw [rs.length];exact hlen e
 obtain ⟨c,ds,S0,si,rs,r,S',e,kk⟩:=h
 refine ⟨RSg K (μX K E) g,hb cdv A outer s H E hr XE.pass XE.raises (XE.own rfl rfl),?_⟩
 have hl:=hlen e
 unfold fnOf at e
 rw [if_pos hl] at e
 cases eg:g ⟨env0 N.length ds,S0⟩ with
 | none=>rw [eg] at e;cases e
 | some p=>
   obtain ⟨o,t⟩:=p
   rw [eg] at e
   refine ⟨c.O,c,_,Gb si rs,o,t,eg,fun σ' H' c' f' s'=>?_⟩
   obtain ⟨si',ext'⟩:=f'.leave
   have st':Stp c.O c H ⟨c'.ι,c.O⟩ H':=⟨s'.ext.trans ext',s'.oo⟩
   cases o with
   | next=>cases e;exact kk .non H' _ si' st' (fun _=>Iff.rfl) .non
   | ret d=>cases e;exact fun v rv=>kk v H' _ si' st' (fun _=>Iff.rfl) (rv.mono ext')
   | brk=>cases e
   | cont=>cases e
theorem DG {fa:Addr} {fd:FuncData} {ps:List Str} {k:Nat} {f g:Fn} (e:f=g) (h:FnOk P w K mg base (CX1 P w) k fa fd ps (spX K g)):FnOk P w K mg base (CX1 P w) k fa fd ps (spX K f):=by rw [e];exact h
end
section
variable {X:Cx} {e a b:Expr} {es:List Expr} {pos:Pos} {E:L2.St→XK} {st:Stmt}
theorem Cc {E:XK} {f:M Out} (h:PS X st (RSX X.K (fun _=>E) f)):PS X st (RSg X.K (μX X.K E) f):=BV h fun D σ H ⟨Oo,c,t,fi,o,t',eq,k⟩=>⟨Oo,c,t,fi,o,t',eq,fun σ' H' c' f' s'=>by
 have q:=k σ' H' c' f' s'
 cases o <;> exact q⟩
theorem BS {k:Nat} {fa:Addr} {fd:FuncData} {ps:List Str} {g:Fn} {f:M (List D)} {x:Str} {p:Pos} (F:FnOk X.prog X.w X.K X.mg X.base (CX1 X.prog X.w) k fa fd ps (spX X.K g)) (hr:Room k X.A) (hg:Gl X x) (hm:X.mg x=some (.ref fa)) (hk:PySem.W.keepIn X.K (.ref fa)=true) (hb:Binds X.K fd ps [])
 (hx:FJ (CX1 X.prog X.w) X E) (ha:PA X (e :: es) (RA X.K f)) (hdb:(x == ("__debug__" : Str))=false:=by decide) (h1:BK e=false:=by rfl) (h2:B0 es=true:=by rfl) :
 PE X (.Call (.Name x p) (e :: es) [] pos) (RX X.K E (Av g f)):=
 Bu (Pi F hr hg hm hk hb hx ha hdb (Bs h1) (BA h2).1) fun σ H Q ⟨Oo,c,t,fi,r,t',eq,kk⟩=>by
  obtain ⟨ds,t1,e1,eq⟩:=Ap eq
  obtain ⟨S',e2,rfl⟩:=JR eq
  refine ⟨Oo,c,t,fi,ds,t1,e1,fun vs H1 c1 f1 s1 rvs=>?_⟩
  refine ⟨c1,ds,t1.S,f1.s,rvs,r,S',e2,fun v H' c' si st ho rv=>?_⟩
  obtain ⟨f2,s2⟩:=f1.after si st ho
  exact kk v H' c' f2 (s1.trans s2) rv
def nxD (f:M D):M D:=bnd f fun d=>if BN d=true then fail else ret d
theorem Lj {f:M D} {t t':T} {r:D} (h:nxD f t=some (r,t')):f t=some (r,t')∧BN r=false:=by
 obtain ⟨d,t1,e1,h⟩:=Ap h
 by_cases hx:BN d=true
 ·rw [if_pos hx] at h;cases h
 ·rw [if_neg hx] at h;cases h;exact ⟨e1,by simpa using hx⟩
theorem N1 {r:D} {A B:Prop} (h:BN r=false) (q:if BN r=true then A else B):B:=by rw [if_neg (by rw [h];decide)] at q;exact q
def IY (g:M D) (h:D→M D):M D:=bnd g fun y=>if BN y=true then ret y else nxD (h y)
theorem RX.bind {K:PySem.W.Frag} {g:M D} {h:D→M D} {σ:L2.St} {H:Hp} {Q:VK} {Oo:Addr→Prop} {c:Cf} {t t':T} {r:D} (fi:FInv K Oo c t σ H) (eq:IY g h t=some (r,t'))
 (k:∀v H' c',FInv K Oo c' t' σ H'→Stp Oo c H c' H'→Rep K c' H' v r→if BN r=true then exE (E σ) v H' else Q v H') {R:V→Hp→Prop}
 (s:∀y dy t1 H1 c1,FInv K Oo c1 t1 σ H1→Stp Oo c H c1 H1→Rep K c1 H1 y dy→h dy t1=some (r,t')→(∀v H' c',FInv K Oo c' t' σ H'→Stp Oo c1 H1 c' H'→Rep K c' H' v r→Q v H')→R y H1):RX K E g σ H R:=by
 obtain ⟨dy,t1,e1,eq⟩:=Ap eq
 refine ⟨Oo,c,t,fi,dy,t1,e1,fun y H1 c1 f1 s1 ry=>?_⟩
 by_cases hx:BN dy=true
 ·rw [if_pos hx] at eq ⊢
  cases eq
  have:=k y H1 c1 f1 s1 ry
  rw [if_pos hx] at this
  exact this
 ·rw [if_neg hx] at eq ⊢
  obtain ⟨e2,e3⟩:=Lj eq
  exact s y dy t1 H1 c1 f1 s1 ry e2 fun v H' c' f' s' rv=>N1 e3 (k v H' c' f' (s1.trans s') rv)
def Ip (f g:M D) (h:D→D→M D):M D:=bnd f fun x=>IY g fun y=>h x y
theorem RX.two {K:PySem.W.Frag} {f g:M D} {h:D→D→M D} {R:R2} (s:BO K R h) {σ:L2.St} {H:Hp} {Q:VK} (q:RX K E (Ip f g h) σ H Q):tOp R (RE K f) (RX K E g) σ H Q:=by
 obtain ⟨Oo,c,t,fi,r,t',eq,k⟩:=q
 obtain ⟨dx,t1,e1,eq⟩:=Ap eq
 refine ⟨Oo,c,t,fi,dx,t1,e1,fun x H1 c1 f1 s1 rx=>?_⟩
 exact RX.bind f1 eq (fun v H' c' f' s' rv=>k v H' c' f' (s1.trans s') rv) fun y dy t2 H2 c2 f2 s2 ry e2 kk=>s f2 (rx.mono s2.ext) ry e2 kk
theorem Qd {op:Operator} {R:R2} {f g:M D} {h:D→D→M D} (ho:OpR X (binaryOp op) R) (s:BO X.K R h) (ha:PE X a (RE X.K f)) (hb:PE X b (RX X.K E g)):PE X (.BinOp a op b pos) (RX X.K E (Ip f g h)):=
 Bu (Nd ho ha hb) fun _ _ _ q=>RX.two s q
def Wy (f g:M D) (h:D→D→M D):M D:=IY f fun x=>bnd g fun y=>h x y
def Ws (g:Fn) (f:M D):M D:=IY f fun d t=>match g [d] t.S with
 | some (r,S')=>some (r,{ t with S:=S' })
 | none=>none
theorem FR {f:M D} (h:PE X e (RX X.K E f)):PS X (.Return (some e) pos) (RSX X.K E (A3 f)):=
 BV (GS h) fun D σ H ⟨Oo,c,t,fi,o,t',eq,k⟩=>by
  obtain ⟨d,t1,e1,eq⟩:=Ap eq
  cases eq
  exact ⟨Oo,c,t,fi,d,_,e1,fun v H1 c1 f1 s1 rv=>k σ H1 c1 f1 s1 v rv⟩
def EC (i:Nat) (f:M D):M Out:=bnd f fun d=>if BN d=true then ret (.ret d) else bnd (BL i d) fun _=>ret .next
theorem CD {i:Nat} {x:Str} {f:M D} {pos':Pos} (hN:X.N.Nodup) (hi:X.N[i]?=some x) (hx:Loc X.env.scope x) (he:PE X e (RX X.K E f)) (hs:swapsWith e (some (.Name x pos')) pos.line X.env=pure false:=by rfl) (hf:X.fn x=true∨X.env.scope.names.lookup x=some .local:=by first | exact .inl rfl | exact .inr rfl | assumption) :
 PS X (.Assign [.Name x pos'] e pos) (RSX X.K E (EC i f)):=BV (Lp hN hi hx he hs hf) fun D σ H ⟨Oo,c,t,fi,o,t',eq,k⟩=>by
 obtain ⟨d,t1,e1,eq⟩:=Ap eq
 refine ⟨Oo,c,t,fi,d,t1,e1,fun v H1 c1 f1 s1 rv=>?_⟩
 by_cases hx:BN d=true
 ·rw [if_pos hx] at eq ⊢
  cases eq
  have:=k σ H1 c1 f1 s1 v rv
  rw [if_pos hx] at this
  exact this
 ·rw [if_neg hx] at eq ⊢
  cases eq
  exact k _ H1 c1 (f1.set rv) s1
def Wx (f:M D):M Out:=bnd f fun d=>if BN d=true then ret (.ret d) else ret .next
def WC (f:M D) (g:D→M Unit):M Out:=bnd f fun d=>if BN d=true then ret (.ret d) else bnd (g d) fun _=>ret .next
theorem O2 {f:M Out} (h:PS X st (RSX X.K E f)):PSs X [st] (RSX X.K E f):=Jq h
end
end F2
namespace L2
open PySem PySem.Spec PyProof.Rows PySem.W PySem.Builtin PySem.Builtin.ObjectAttr
structure XGet (K:PySem.W.Frag) (C:Addr):Prop where
 ga:findIn K (.ref C) "__getattribute__" = some (some (.builtin "BaseException.__getattribute__"))
 gt:findIn K (.ref C) "__getattr__" = some none
 mb:mroIn K C (.type "BaseException")=some true
 mo:mroIn K C (.type "object")=some true
 hd:hasDictIn K C=true
section
variable {prog:Program} {w:World} {A:Around} {E:Value→Shared→Prop} {s:Shared} {K:PySem.W.Frag} {x C:Addr} {ox:Obj} {od:Option Obj} {name:Str} {tk:Tok} {Q:Value→Shared→Prop} {R:Result→Shared→Prop}
theorem JX {fill expr:Bool} (X:K.In s.heap) (I:InstAt s.heap x ox C od) (g:XGet K C)
 (h:codeAny (model prog w) A (.call (.builtin "BaseException.__getattribute__") ⟨[.ref x,.str name tk],[]⟩) (fun r s'=>match r with | .ok (.ret v)=>wpAny (model prog w) A (handedOut v) Q E s' | _=>False) s) :
 wpAny (model prog w) A (getAttrBy (.ref x) (.str name tk) fill expr) Q E s:=by
 have L0:=I.type (M:=model prog w)
 have L1:=looks_findIn (M:=model prog w) X g.ga
 have L2:=looks_findIn (M:=model prog w) X g.gt
 have ne:(onTheHeap (Value.ref C) && Value.builtin "BaseException.__getattribute__" == Value.builtin "object.__getattribute__")=false:=by
  rw [show (Value.builtin "BaseException.__getattribute__" == Value.builtin "object.__getattribute__")=false from by decide +kernel];rfl
 unfold getAttrBy
 refine wpAny_holding (wpAny_bind (L0.here (wpAny_bind (L1.here ?_))))
 show wpAny _ _ (if (onTheHeap (Value.ref C) && Value.builtin "BaseException.__getattribute__" == Value.builtin "object.__getattribute__")=true then _ else _) _ _ _
 rw [if_neg (by rw [ne];decide)]
 unfold getAttrByItsOwn hookBefore
 rw [if_pos (show onTheHeap (Value.ref C)=true from rfl)]
 refine wpAny_bind (L2.here (wpAny_bind (wpAny_attempt (wpAny_holding ?_))))
 unfold callGetattribute
 rw [if_neg (show ¬((expr && onTheHeap (Value.builtin "BaseException.__getattribute__"))=true) from by cases expr <;> decide)]
 unfold boundAndCalled
 refine wpAny_bind (wpAny_of_eq (PySem.F.excAttr_ValueError.ga.bind _) (wpAny_call (codeAny_mono h fun r s' z=>?_)))
 cases r with
 | error e=>exact z.elim
 | ok f=>cases f <;> first | exact z | exact z.elim
theorem K6 (X:K.In s.heap) (I:InstAt s.heap x ox C od) (g:XGet K C)
 (h:wpAny (model prog w) A.in1 («object.__getattribute__» ⟨[.ref x,.str name tk],[]⟩) (fun fin s'=>match fin with | .done f=>R (.ok f) s' | .again c'=>c'.quiet=true∧codeAny (model prog w) A c' R s') (fun e s'=>R (.error e) s') s) :
 codeAny (model prog w) A (.call (.builtin "BaseException.__getattribute__") ⟨[.ref x,.str name tk],[]⟩) R s:=by
 have ob:Looks (model prog w) s.heap (isInstance (.ref x) (.type "BaseException")) true:=I.type.andThen (looks_mroIn X g.mb)
 refine codeAny_call_builtin PySem.F.excAttr_ValueError.ga.plain PySem.F.entry_bexc_ga (@check_slot (model prog w) _ _ s "BaseException.__getattribute__" "BaseException" "__getattribute__" (.ref x) [.str name tk] [] _ (by decide +kernel) (by decide +kernel) ob (PySem.F.args_bexc_ga (.ref x) (.str name tk)) h)
theorem O3 {v:Value} (X:K.In s.heap) (I:InstAt s.heap x ox C od) (g:XGet K C) (hf:findObj K C od name=some (.value v)) (h:R (.ok (.ret v)) s) :
 codeAny (model prog w) A (.call (.builtin "BaseException.__getattribute__") ⟨[.ref x,.str name tk],[]⟩) R s:=by
 refine K6 X I g ?_
 have L0:=I.type (M:=model prog w)
 have L1:=looks_find (M:=model prog w) X I hf
 refine wpAny_bind (wpAny_pure (wpAny_bind (wpAny_pure (wpAny_bind (L0.here (wpAny_bind (L1.here ?_)))))))
 exact wpAny_pure h
theorem QS {gg a:Value} (X:K.In s.heap) (I:InstAt s.heap x ox C od) (g:XGet K C) (hf:findObj K C od name=some (.bind gg a)) (h:codeAny (model prog w) A.in1 (.call gg ⟨[a,.ref x,.ref C],[]⟩) (fun r s'=>match r with | .ok (.ret v)=>R (.ok (.ret v)) s' | .ok _=>False | .error e=>R (.error e) s') s) :
 codeAny (model prog w) A (.call (.builtin "BaseException.__getattribute__") ⟨[.ref x,.str name tk],[]⟩) R s:=by
 refine K6 X I g ?_
 have L0:=I.type (M:=model prog w)
 have L1:=looks_find (M:=model prog w) X I hf
 refine wpAny_bind (wpAny_pure (wpAny_bind (wpAny_pure (wpAny_bind (L0.here (wpAny_bind (L1.here ?_)))))))
 show wpAny _ _ (bindTo gg a (.ref x) (.ref C)) _ _ _
 unfold bindTo
 refine wpAny_bind (wpAny_holding (wpAny_call (codeAny_mono h fun r s' z=>?_)))
 cases r with
 | error e=>exact z
 | ok f=>cases f <;> first | exact wpAny_pure z | exact z.elim
end
end L2
namespace L2
open PySem PySem.Spec PyProof.Rows PySem.W
theorem QF (K:PySem.W.Frag):specialIn K (.builtin "object.__class__") "__get__" = some (some (.builtin "getset_descriptor.__get__")):=by kernel_rfl
theorem NK (K:PySem.W.Frag):takesIn K (.builtin "object.__class__")=some true:=by kernel_rfl
theorem K5 {K:PySem.W.Frag} {C:Addr} {od:Option Obj} (hc:(clsIn K C).isSome=true) (ha:findIn K (.ref C) "__class__" = some (some (.builtin "object.__class__"))):findObj K C od "__class__" = some (.bind (.builtin "getset_descriptor.__get__") (.builtin "object.__class__")):=by
 obtain ⟨cd,hc⟩:=Option.isSome_iff_exists.mp hc
 unfold findObj
 rw [hc,Option.bind_some,ha,Option.bind_some]
 simp [QF,NK]
def P7 (x C:Addr) (h:Heap):Prop:=∃ox od,InstAt h x ox C od
theorem K9 {K:PySem.W.Frag} {x C:Addr} (g:XGet K C) (ha:findIn K (.ref C) "__class__" = some (some (.builtin "object.__class__"))):KitX K (.ref x) (.ref C) (P7 x C) where
 ty:=fun _ _ _ ⟨_,_,I⟩=>I.type
 it:=fun _ _ X _=>by
  obtain ⟨cd,hc,_⟩:=any_some g.hd
  unfold clsIn at hc
  split at hc
  ·next ho=>
   intro A' Q' E' s' k q
   unfold isType loadHead
   exact wpAny_bind (wpAny_loadPart (k _ _ (X _ _ ho)) (wpAny_pure q))
  ·cases hc
 ne:=fun h tp dd its n sl X htp=>by
  obtain ⟨cd,hc,_⟩:=any_some g.hd
  refine Bool.eq_false_iff.mpr fun q=>?_
  have e:C=tp:=Value.ref.inj (beq_iff_eq.mp q)
  subst e
  unfold clsIn at hc
  split at hc
  ·next ho=>
   have z:=(X _ _ ho).symm.trans htp
   cases z
  ·cases hc
 ca:=fun {prog w A E Q s} X ⟨ox,od,I⟩ k=>by
  obtain ⟨cd,hc,_⟩:=any_some g.hd
  unfold getAttr? getAttrBy?
  refine wpAny_bind (wpAny_mkText (wpAny_bind (wpAny_attempt ?_)))
  refine JX (s:={ s with toks:=s.toks + 1 }) X I g (QS X I g (K5 (by rw [hc];rfl) ha) (class_get (s:={ s with toks:=s.toks + 1 }) X I g.mo ?_))
  exact handed_on rfl (wpAny_pure k)
end L2
namespace F2
open PySem L2 PySem.Spec PySem.W
abbrev BF:List Str:=["NoValue", "Short", "Broken", "NoTalk", "NoName", "NoText", "NoRow"]
structure XM (K:PySem.W.Frag) (mg:Str→Option Value) (P:Addr) (ca:Str→Addr):Prop where
 pm:mg "ParleyError" = some (.ref P)
 pc:XCl K P VE
 ns:∀n∈BF,nsIn K mainGlobals n=some (some (.ref (ca n)))
 ms:∀n∈BF,mg n=some (.ref (ca n))
 cl:∀n∈BF,XCl K (ca n) (.ref P :: VE)
 inj:∀n∈BF,∀m∈BF,ca n=ca m→n=m
 np:∀n∈BF,ca n≠P
 kp:∀n∈BF,keepIn K (.ref (ca n))=true
 gt:∀n∈BF,XGet K (ca n)
 gc:∀n∈BF,findIn K (.ref (ca n)) "__class__" = some (some (.builtin "object.__class__"))
 na:∀n∈BF,findIn K (.ref (ca n)) "at" = some none
 nd:∀n∈BF,findIn K (.ref (ca n)) "side" = some none
def D5 (n m:Str):Bool:=m == "ParleyError" || m == "ValueError" || n == m
theorem Eh {a b:Addr} {r:List Value}:(Value.ref a :: r).contains (.ref b)=(a == b || r.contains (.ref b)):=by
 rw [List.contains_cons]
 congr 1
 by_cases h:a=b
 ·subst h;simp
 ·rw [beq_eq_false_iff_ne.mpr h,beq_eq_false_iff_ne.mpr (fun z:Value.ref b=Value.ref a=>h (Value.ref.inj z).symm)]
theorem Sc {b:Addr}:VE.contains (.ref b)=false:=rfl
section
variable {K:PySem.W.Frag} {mg:Str→Option Value} {P:Addr} {ca:Str→Addr}
theorem XM.subP (x:XM K mg P ca) {n:Str} (hn:n∈BF):(Value.ref (ca n) :: .ref P :: VE).contains (.ref P)=D5 n "ParleyError":=by
 rw [Eh,Eh,beq_self_eq_true,Bool.true_or,Bool.or_true];rfl
theorem XM.subE (x:XM K mg P ca) {n m:Str} (hn:n∈BF) (hm:m∈BF):(Value.ref (ca n) :: .ref P :: VE).contains (.ref (ca m))=D5 n m:=by
 rw [Eh,Eh,Sc,beq_eq_false_iff_ne.mpr (Ne.symm (x.np m hm)),Bool.or_false,Bool.or_false]
 have h1:(m == ("ParleyError" : Str))=false∧(m == ("ValueError" : Str))=false:=by
  simp only [BF,List.mem_cons,List.not_mem_nil,or_false] at hm
  rcases hm with rfl | rfl | rfl | rfl | rfl | rfl | rfl <;> exact ⟨by decide,by decide⟩
 unfold D5
 rw [h1.1,h1.2,Bool.false_or,Bool.false_or]
 by_cases h:n=m
 ·subst h;rw [beq_self_eq_true,beq_self_eq_true]
 ·rw [beq_eq_false_iff_ne.mpr h,beq_eq_false_iff_ne.mpr fun z=>h (x.inj n hn m hm z)]
theorem XM.of (x:XM K mg P ca) {n:Str} {C:Addr} (hn:n∈BF) (h:nsIn K mainGlobals n=some (some (.ref C))):C=ca n:=by
 rw [x.ns n hn] at h
 injection h with h;injection h with h;injection h with h
 exact h.symm
end
theorem R3 {x C C':Addr} {dx dx':Option Addr} (h:XIs x C dx=XIs x C' dx') (e:∃h,XIs x C dx h):C=C'∧dx=dx':=by
 obtain ⟨hh,o,vs,e1,e2,e3,e4⟩:=e
 have q:XIs x C' dx' hh:=by rw [←h];exact ⟨o,vs,e1,e2,e3,e4⟩
 obtain ⟨o',vs',q1,q2,q3,q4⟩:=q
 rw [e1] at q1;cases q1
 rw [e2] at q2;cases q2
 exact ⟨rfl,e3.symm.trans q3⟩
section
variable {X:Cx} {e:Expr} {es:List Expr} {pos p pos2:Pos} {E:L2.St→XK} {P:Addr} {ca:Str→Addr}
def Wu (n:Str) (f:M (List D)):M Out:=bnd f fun ds=>match ds with
 | [d]=>ret (.ret (.exc n [d]))
 | _=>fail
def XN0 (K:PySem.W.Frag) (C:Addr):Prop:=∃cd,clsIn K C=some cd∧nsIn K cd.ns "__init__" = some none
def IL (n:Str) (f:M (List D)):M Out:=bnd f fun ds=>if ds.length≤1000 then ret (.ret (.exc n [])) else fail
theorem NY {n:Str} {f:M (List D)} (x:XM X.K X.mg P ca) (hn:n∈BF) (hf:Hx n=[]) (xn:XN0 X.K (ca n)) (hc:X.calm=true) (hx:Gx X E) (hg:Gl X n) (ha:PA X (e :: es) (RA X.K f))
 (hdb:(n == ("__debug__" : Str))=false:=by decide) (h1:BK e=false:=by rfl) (h2:B0 es=true:=by rfl):PS X (.Raise (some (.Call (.Name n p) (e :: es) [] pos)) none pos2) (RSX X.K E (IL n f)):=by
 obtain ⟨cd,hcd,hni⟩:=xn
 refine BV (Lo hc (x.cl n hn) hx (Rk (x.cl n hn) (x.kp n hn) hcd hni hg (x.ms _ hn) ha hdb (Bs h1) (BA h2).1)) fun D σ H ⟨Oo,c,t,fi,o,t',eq,k⟩=>?_
 obtain ⟨ds,t1,e1,eq⟩:=Ap eq
 refine ⟨Oo,c,t,fi,ds,t1,e1,fun vs H1 c1 f1 s1 rvs=>?_⟩
 split at eq
 ·next hl=>
  cases eq
  refine ⟨by rw [rvs.length];exact hl,fun y hy=>?_⟩
  have f3:=f1.laid (o:=.ext (XIs y (ca n) none)) hy
  exact k σ _ c1 f3 (s1.trans (f1.stp_laid hy)) (.ref y) (.exc (x.ns _ hn) AJ (f1.s.free hy) (vs:=[]) rfl .nil) y none rfl
 ·cases eq
end
section
variable {X:Cx} {pos p:Pos} {P:Addr} {ca:Str→Addr} {μ:Cf→Hp→D→(V→Hp→Prop)→Prop}
def RH (K:PySem.W.Frag) (ca:Str→Addr) (μ:Cf→Hp→D→(V→Hp→Prop)→Prop) (h:D→M Out):Addr→Addr→Option Addr→TS:=fun x C dx E σ H=>∃Oo c t n ds,FInv K Oo c t σ H∧n∈BF∧C=ca n∧Rep K c H (.ref x) (.exc n ds)∧
 ∃o t',h (.exc n ds) t=some (o,t')∧∀σ' H' c',FInv K Oo c' t' σ' H'→Stp Oo c H c' H'→
  match o with
  | .next=>E.nx σ' H'
  | .brk=>E.bk σ' H'
  | .cont=>E.ct σ' H'
  | .ret r=>μ c' H' r E.rt
def unE (i:Nat) (t:T):T:={ t with env:=t.env.set i none }
theorem FInv.unset {K:PySem.W.Frag} {Oo:Addr→Prop} {c:Cf} {t:T} {σ:L2.St} {H:Hp} (f:FInv K Oo c t σ H) (i:Nat):FInv K Oo c (unE i t) (σ.set i none) H:=by
 have neq:∀{j:Nat} {x:Sl},(t.env.set i none)[j]?=some (some x)→j≠i∧t.env[j]?=some (some x):=fun {j x} q=>by
  by_cases h:j=i
  ·subst h
   rw [List.getElem?_set] at q
   split at q
   ·split at q
    ·injection q with q;cases q
    ·cases q
   ·next h1=>exact absurd rfl h1
  ·rw [List.getElem?_set_ne (Ne.symm h)] at q
   exact ⟨h,q⟩
 refine ⟨f.s,by simp [unE,f.len],f.sub,fun j e q=>?_,fun j ds q=>?_,fun j k ds es a q1 q2 q3 q4=>?_⟩
 ·obtain ⟨h,q⟩:=neq q
  obtain ⟨u,h1,h2⟩:=f.val j e q
  exact ⟨u,by rw [List.getElem?_set_ne (Ne.symm h)];exact h1,h2⟩
 ·obtain ⟨h,q⟩:=neq q
  obtain ⟨a,vs,h1,h2⟩:=f.own j ds q
  exact ⟨a,vs,by rw [List.getElem?_set_ne (Ne.symm h)];exact h1,h2⟩
 ·obtain ⟨h,q1⟩:=neq q1
  obtain ⟨h',q2⟩:=neq q2
  rw [List.getElem?_set_ne (Ne.symm h)] at q3
  rw [List.getElem?_set_ne (Ne.symm h')] at q4
  exact f.inj j k ds es a q1 q2 q3 q4
def hAs (n':Str) (i:Nat) (s:M Out) (r:D→M Out):D→M Out:=fun e t=>match e with
 | .exc n ds=>if D5 n n'=true then (match s { t with env:=t.env.set i (some (.val (.exc n ds))) } with
   | some (o,t2)=>some (o,unE i t2)
   | none=>none) else r (.exc n ds) t
 | _=>none
def hNo (n':Str) (s:M Out) (r:D→M Out):D→M Out:=fun e t=>match e with
 | .exc n ds=>if D5 n n'=true then s t else r (.exc n ds) t
 | _=>none
def Sz:D→M Out:=fun _ _=>none
theorem Sw:PH X [] (RH X.K ca μ Sz):=fun _ _ _ _ _ _ _ _ _ _ _ ⟨_,_,_,_,_,_,_,_,_,_,_,e,_⟩=>by cases e
theorem Ug {n' v:Str} {C':Addr} {bm':List Value} {i:Nat} {b₀:Stmt} {suite:List Stmt} {rest:List ExceptHandler} {s:M Out} {r:D→M Out} (x:XM X.K X.mg P ca) (hg:Gl X n') (hm:X.mg n'=some (.ref C')) (c':XCl X.K C' bm') (hs:∀n∈BF,(Value.ref (ca n) :: .ref P :: VE).contains (.ref C')=D5 n n')
 (hN:X.N.Nodup) (hi:X.N[i]?=some v) (hl:X.env.scope.names.lookup v=some .local) (hb:∀x,PSs (X.mark x) (b₀ :: suite) (RSg X.K μ s)) (hr:PH X rest (RH X.K ca μ r)) (hdb:(n' == ("__debug__" : Str))=false:=by decide) :
 PH X (.ExceptHandler (some (.Name n' p)) (some v) (b₀ :: suite) pos :: rest) (RH X.K ca μ (hAs n' i s r)):=by
 intro pins s0 σ H y C dx T D I o q
 refine Us hg hm c' hN hi hl hb hr hdb pins s0 σ H y C dx T D I o ?_
 obtain ⟨Oo,c,t,n,ds,fi,hn,rfl,rv,o1,t',eq,k⟩:=q
 refine ⟨_,x.cl n hn,?_⟩
 rw [hs n hn]
 unfold hAs at eq
 dsimp only at eq
 by_cases hb':D5 n n'=true
 ·rw [if_pos hb'] at eq ⊢
  cases e1:s { t with env:=t.env.set i (some (.val (.exc n ds))) } with
  | none=>rw [e1] at eq;cases eq
  | some z=>
    obtain ⟨o2,t2⟩:=z
    rw [e1] at eq
    cases eq
    refine ⟨Oo,c,_,fi.set rv,o1,t2,e1,fun σ' H' c2 f2 s2=>?_⟩
    have:=k _ H' c2 (f2.unset i) s2
    cases o1 <;> exact this
 ·rw [if_neg hb'] at eq ⊢
  exact ⟨Oo,c,t,n,ds,fi,hn,rfl,rv,o1,t',eq,k⟩
def FI (b:M Out) (h:D→M Out):M Out:=fun t=>match b t with
 | some (.ret (.exc n ds),t1)=>if n∈BF then h (.exc n ds) t1 else none
 | z=>z
theorem Sx {body:List Stmt} {h₀:ExceptHandler} {hs:List ExceptHandler} {b:M Out} {h:D→M Out} (x:XM X.K X.mg P ca) (hμ:∀c H r rt,BN r=false→(∀v,Rep X.K c H v r→rt v H)=μ c H r rt) (h1:X.stack=X.env :: X.outer) (h2:X.env.frame=some X.env.locals)
 (hb:∀(pn:List (Addr×Obj)) (E:L2.St→XK),FJ (CX1 X.prog X.w) { X with pn:=pn,xe:=XE { X with pn:=pn } E } E→PSs { X with pn:=pn,xe:=XE { X with pn:=pn } E } body (RSX X.K E b)) (hh:PH X (h₀ :: hs) (RH X.K ca μ h)):PS X (.Try body (h₀ :: hs) [] [] pos) (RSg X.K μ (FI b h)):=
 BV (Te h1 h2 (fun pn E=>hb pn E (XE.pass (X:={ X with pn:=pn }))) hh) fun D σ H ⟨Oo,c,t,fi,o,t',eq,k⟩=>by
  unfold FI at eq
  cases e1:b t with
  | none=>rw [e1] at eq;cases eq
  | some z=>
    obtain ⟨o1,t1⟩:=z
    rw [e1] at eq
    refine ⟨Oo,c,t,fi,o1,t1,e1,fun σ1 H1 c1 f1 s1=>?_⟩
    cases o1 with
    | next=>cases eq;exact k σ1 H1 c1 f1 s1
    | brk=>cases eq;exact k σ1 H1 c1 f1 s1
    | cont=>cases eq;exact k σ1 H1 c1 f1 s1
    | ret r=>
      intro v rv
      cases hx:BN r with
      | false=>
        rw [if_neg (by decide)]
        have eq':some (Out.ret r,t1)=some (o,t'):=by cases r <;> first | exact eq | cases hx
        cases eq'
        have q:=k σ1 H1 c1 f1 s1
        have q:μ c1 H1 r D.rt:=q
        rw [←hμ _ _ _ _ hx] at q
        exact q v rv
      | true=>
        rw [if_pos rfl]
        intro y dx hv y' C hy' hC hex
        cases rv with
        | @exc x0 C0 dx0 n vs ds g hx0 hA fl rs=>
          cases hv
          cases hy'
          dsimp only at eq
          split at eq
          ·next hn=>
           rw [hx0] at hC
           injection hC with hC;injection hC with hC
           obtain ⟨e2,e3⟩:=R3 hC.symm hex
           have:=x.of hn g
           exact ⟨Oo,c1,t1,n,ds,f1,hn,e2.trans this,.exc g hx0 hA fl rs,o,t',eq,fun σ' H' c' f' s'=>k σ' H' c' f' (s1.trans s')⟩
          ·cases eq
        | _=>cases hx
end
def FF (n:Str):D→M D
 | .exc m _=>if m∈BF then ret (.bl (D5 m n)) else fail
 | .non=>ret (.bl false)
 | .bl _=>ret (.bl false)
 | .int _=>ret (.bl false)
 | .str _=>ret (.bl false)
 | .lst _=>ret (.bl false)
 | .tup _=>ret (.bl false)
 | .dic=>ret (.bl false)
 | _=>fail
def Nh (K:PySem.W.Frag) (c:Value):List V→Hp→VK→Prop:=fun xs H Q=>∃x y t b,xs=[x,y]∧(∀u,RelV y u→u=c)∧
 (TyOf K H x t∨∃a C dx,x = .ref a∧t = .ref C∧H a=some (.ext (XIs a C dx))∧(∀d,dx=some d→∃fs,H d=some (.xd fs))∧XGet K C∧findIn K (.ref C) "__class__" = some (some (.builtin "object.__class__")))∧kitOne K t c=some b∧Q (.bl b) H
theorem Qz {X:Cx} {pins:List (Addr×Obj)} {σ:L2.St} {H:Hp} {s:Shared} {a C:Addr} {dx:Option Addr} (I:Inv X pins σ H s) (h:H a=some (.ext (XIs a C dx))) (hd:∀d,dx=some d→∃fs,H d=some (.xd fs)):P7 a C s.heap:=by
 obtain ⟨o,vs,e1,e2,e3,e4⟩:=(I.hok a _ h).1
 have nc:notCls o=true:=by unfold notCls;rw [e4]
 cases dx with
 | none=>exact ⟨o,none,e1,e2,nc,by rw [e3];trivial⟩
 | some d=>
   obtain ⟨fs,hf⟩:=hd d rfl
   obtain ⟨mA,n,_⟩:=(show ObjOk X.prog X.w H s.heap d (.xd fs) from I.hok d _ hf)
   obtain ⟨od,ho,_⟩:=FA n
   exact ⟨o,some od,e1,e2,nc,by rw [e3];exact ho⟩
theorem JO {X:Cx} {c:Value}:B2 X (.builtin "isinstance") (Nh X.K c):=by
 intro pins s σ H xs us Q I r h
 obtain ⟨x,y,t,b,rfl,hy,ty,e,q⟩:=h
 obtain ⟨u,w',rfl,rx,rt⟩:=Hh r
 cases hy _ rt
 rcases ty with ty | ⟨a,C,dx,rfl,rfl,ha,hd,g,gc⟩
 ·exact JY I rx ty e fun tk=>⟨.bl b,H,I.tok tk,rfl,q⟩
 ·cases (show u=Value.ref a from rx)
  exact kia_one (K9 g gc) I.kIn (Qz I ha hd) e (fun z=>nomatch z) fun tk=>⟨.bl b,H,I.tok tk,rfl,q⟩
theorem SK {K:PySem.W.Frag} {d:D} {T:String} {C':Addr} {bm':List Value} (h:tyD d=some T) (c':XCl K C' bm'):kitOne K (.type T) (.ref C')=some false:=by
 obtain ⟨cd,dd,k0,k1,k2,k3,k5,h1,h2,h3,h4,h5⟩:=c'.ex
 have e1:clsIn K C'=some cd:=by unfold clsIn;rw [h1]
 have e2:typeIn K (.ref C')=some (.type "type"):=by
  show (K.lookup C').map _=_
  rw [h1];rfl
 have z:((clsIn K C').isSome && typeIn K (.ref C') == some (.type "type"))=true:=by rw [e1,e2,Option.isSome_some,Bool.true_and];decide
 have hT:T = "NoneType"∨T = "bool"∨T = "int"∨T = "str"∨T = "list"∨T = "tuple"∨T = "dict":=by
  cases d <;> simp [tyD] at h <;> simp [←h]
 unfold kitOne kitCls
 rw [if_neg (by intro q;cases beq_iff_eq.mp q)]
 dsimp only
 rw [if_pos z]
 rcases hT with rfl | rfl | rfl | rfl | rfl | rfl | rfl <;> rfl
theorem QX {K:PySem.W.Frag} {d:D} {T:String} (h:tyD d=some T):kitOne K (.type T) (.type "ValueError")=some false:=by
 have hT:T = "NoneType"∨T = "bool"∨T = "int"∨T = "str"∨T = "list"∨T = "tuple"∨T = "dict":=by
  cases d <;> simp [tyD] at h <;> simp [←h]
 rcases hT with rfl | rfl | rfl | rfl | rfl | rfl | rfl <;> rfl
theorem Oz {K:PySem.W.Frag} {C:Addr} {bm:List Value} (c:XCl K C bm) (v:Value):subIn K (.ref C) v=some ((Value.ref C :: bm).contains v):=by
 obtain ⟨cd,h1,h2,_⟩:=c.cls
 show mroIn K C v=_
 unfold mroIn
 rw [h1,Option.bind_some,h2];rfl
theorem Ms {K:PySem.W.Frag} {C C':Addr} {bm bm':List Value} (c:XCl K C bm) (c':XCl K C' bm'):kitOne K (.ref C) (.ref C')=some ((Value.ref C :: bm).contains (.ref C')):=by
 obtain ⟨cd,dd,k0,k1,k2,k3,k5,h1,h2,h3,h4,h5⟩:=c'.ex
 have e1:clsIn K C'=some cd:=by unfold clsIn;rw [h1]
 have e2:typeIn K (.ref C')=some (.type "type"):=by
  show (K.lookup C').map _=_
  rw [h1];rfl
 have z:((clsIn K C').isSome && typeIn K (.ref C') == some (.type "type"))=true:=by rw [e1,e2,Option.isSome_some,Bool.true_and];decide
 unfold kitOne kitCls
 by_cases h:C=C'
 ·subst h;rw [if_pos (by simp)];simp
 ·rw [if_neg (fun q=>h (Value.ref.inj (beq_iff_eq.mp q)))]
  dsimp only
  rw [if_pos z]
  exact Oz c _
theorem Um {K:PySem.W.Frag} {C P:Addr} (c:XCl K C (.ref P :: VE)):kitOne K (.ref C) (.type "ValueError")=some true:=by
 unfold kitOne kitCls
 rw [if_neg (by intro q;cases beq_iff_eq.mp q)]
 dsimp only
 rw [if_pos (by decide +kernel),Oz c]
 rw [List.contains_cons,List.contains_cons,show VE.contains (.type "ValueError")=true from by decide +kernel,Bool.or_true,Bool.or_true]
section
variable {X:Cx} {P:Addr} {ca:Str→Addr} {a:Expr} {f:M D} {p pos q:Pos}
theorem Mp {n:Str} {c:Value} {y:V} (x:XM X.K X.mg P ca) (hy:∀u,RelV y u→u=c) (k1:∀d T,tyD d=some T→kitOne X.K (.type T) c=some false) (k2:∀m∈BF,kitOne X.K (.ref (ca m)) c=some (D5 m n)) {σ:L2.St} {H:Hp} {Q:VK} (h:RE X.K (bnd f (FF n)) σ H Q) :
 tCB (Nh X.K c) (No (RE X.K f) (No (tC y) TQ)) σ H Q:=by
 obtain ⟨Oo,c0,t,fi,r,t',eq,k⟩:=h
 obtain ⟨d,t1,e1,eq⟩:=Ap eq
 refine ⟨Oo,c0,t,fi,d,t1,e1,fun v H1 c1 f1 s1 rv=>?_⟩
 show Nh X.K c [v,y] H1 Q
 cases rv with
 | @exc x0 C0 dx0 m vs ds g hx0 hA fl rs=>
   unfold FF at eq
   dsimp only at eq
   split at eq
   ·next hm=>
    cases eq
    have hc:=x.of hm g
    subst hc
    refine ⟨_,_,_,_,rfl,hy,.inr ⟨x0,ca m,dx0,rfl,rfl,hx0,fun d hd=>?_,x.gt m hm,x.gc m hm⟩,k2 m hm,k _ H1 c1 f1 s1 (.bl _)⟩
    subst hd
    exact ⟨_,fl.1⟩
   ·cases eq
 | non=>cases eq;exact ⟨_,_,_,_,rfl,hy,.inl .non,k1 .non _ rfl,k _ H1 c1 f1 s1 (.bl _)⟩
 | bl b=>cases eq;exact ⟨_,_,_,_,rfl,hy,.inl (.bl _),k1 (.bl b) _ rfl,k _ H1 c1 f1 s1 (.bl _)⟩
 | int i=>cases eq;exact ⟨_,_,_,_,rfl,hy,.inl (.int _),k1 (.int i) _ rfl,k _ H1 c1 f1 s1 (.bl _)⟩
 | str i=>cases eq;exact ⟨_,_,_,_,rfl,hy,.inl (.str _),k1 (.str i) _ rfl,k _ H1 c1 f1 s1 (.bl _)⟩
 | lst h1 h2 h3=>cases eq;exact ⟨_,_,_,_,rfl,hy,.inl (.lst h1),k1 (.lst []) _ rfl,k _ H1 c1 f1 s1 (.bl _)⟩
 | tup h1 h2 h3=>cases eq;exact ⟨_,_,_,_,rfl,hy,.inl (.tup h1),k1 (.tup []) _ rfl,k _ H1 c1 f1 s1 (.bl _)⟩
 | dic h1 h2=>cases eq;exact ⟨_,_,_,_,rfl,hy,.inl (.dK h1),k1 .dic _ rfl,k _ H1 c1 f1 s1 (.bl _)⟩
 | _=>cases eq
theorem Jd {n:Str} (x:XM X.K X.mg P ca) (hn:n∈BF) (hg:Gl X "isinstance") (hm:X.mg "isinstance" = none) (hv:bootBuiltins "isinstance" = some (.builtin "isinstance")) (hgn:Gl X n) (ha:PE X a (RE X.K f)) (hdb:(n == ("__debug__" : Str))=false:=by decide) (h1:BK a=false:=by rfl) :
 PE X (.Call (.Name "isinstance" p) [a,.Name n q] [] pos) (RE X.K (bnd f (FF n))):=
 Bu (Gm JO hg hm hv (D9 ha (D9 (G9 hgn (x.ms n hn) (v:=.ref (ca n)) rfl hdb) GO (Bs (e:=.Name n q) rfl)) (Bs h1)) (by decide) (by decide) (Bs h1) (BA (es:=[.Name n q]) rfl).1)
  fun σ H Q h=>Mp (n:=n) (c:=.ref (ca n)) (y:=.ref (ca n)) x (fun u r=>r) (fun d T e=>SK e (x.cl n hn)) (fun m hm=>by rw [Ms (x.cl m hm) (x.cl n hn),x.subE hm hn]) h
theorem QO (x:XM X.K X.mg P ca) (hg:Gl X "isinstance") (hm:X.mg "isinstance" = none) (hv:bootBuiltins "isinstance" = some (.builtin "isinstance")) (hgn:Gl X "ValueError") (hmn:X.mg "ValueError" = none) (hvn:bootBuiltins "ValueError" = some (.type "ValueError")) (ha:PE X a (RE X.K f)) (h1:BK a=false:=by rfl) :
 PE X (.Call (.Name "isinstance" p) [a,.Name "ValueError" q] [] pos) (RE X.K (bnd f (FF "ValueError"))):=
 Bu (Gm JO hg hm hv (D9 ha (D9 (My hgn hmn hvn (v:=.ty "ValueError") rfl (by decide) (by decide)) GO (Bs (e:=.Name "ValueError" q) rfl)) (Bs h1)) (by decide) (by decide) (Bs h1) (BA (es:=[.Name "ValueError" q]) rfl).1)
  fun σ H Q h=>Mp (n:="ValueError") (c:=.type "ValueError") (y:=.ty "ValueError") x (fun u r=>r) (fun d T e=>QX e) (fun m hm=>by rw [Um (x.cl m hm)];rfl) h
def IX (nm:Str):D→M D
 | .exc n ds=>if n∈BF then (match ((Hx n).zip ds).lookup nm with
   | some d=>ret d
   | none=>fail) else fail
 | _=>fail
theorem Ho {K:PySem.W.Frag} {c:Cf} {H:Hp} {nm:Str} {d:D}:∀{ns:List Str} {vs:List V} {ds:List D},Reps K c H vs ds→(ns.zip ds).lookup nm=some d→∃v,(ns.zip vs).lookup nm=some v∧Rep K c H v d
 | [],_,_,_,e=>by cases e
 | _ :: _,_,_,.nil,e=>by cases e
 | n :: ns,_,_,.cons (v:=v0) (d:=d0) r rs,e=>by
   by_cases h:nm=n
   ·subst h
    simp only [List.zip_cons_cons,List.lookup,beq_self_eq_true,Option.some.injEq] at e ⊢
    subst e
    exact ⟨v0,rfl,r⟩
   ·have hb:(nm == n)=false:=beq_eq_false_iff_ne.mpr h
    simp only [List.zip_cons_cons,List.lookup,hb] at e ⊢
    exact Ho rs e
theorem J8:bootBuiltins "ValueError" = some (.type "ValueError"):=by decide +kernel
theorem NQ {nm:Str} (x:XM X.K X.mg P ca) (hno:∀n∈BF,findIn X.K (.ref (ca n)) nm=some none) (ha:PE X a (RE X.K f)) (hb:attributeBase a nm X.env (eval a X.env)=eval a X.env):PE X (.Attribute a nm pos) (RE X.K (bnd f (IX nm))):=by
 intro pins s σ H Q I h
 obtain ⟨Oo,c0,t,fi,r,t',eq,k⟩:=h
 obtain ⟨d,t1,e1,eq⟩:=Ap eq
 refine QC hb (thn (ha pins s σ H (fun v H1=>∃c1,FInv X.K Oo c1 t1 σ H1∧Stp Oo c0 H c1 H1∧Rep X.K c1 H1 v d) I ⟨Oo,c0,t,fi,d,t1,e1,fun v H1 c1 f1 s1 rv=>⟨c1,f1,s1,rv⟩⟩) fun u s1 ⟨v,H1,I1,rx,c1,f1,st1,rv⟩=>?_)
 cases rv with
 | @exc x0 C0 dx0 m vs ds g hx0 hA fl rs=>
   cases (show u=Value.ref x0 from rx)
   unfold IX at eq
   dsimp only at eq
   split at eq
   ·next hm=>
    have hc:=x.of hm g
    subst hc
    cases el:((Hx m).zip ds).lookup nm with
    | none=>rw [el] at eq;cases eq
    | some d'=>
      rw [el] at eq
      cases eq
      obtain ⟨v',l1,r1⟩:=Ho rs el
      cases dx0 with
      | none=>
        have fl:vs=[]:=fl
        subst fl
        simp at l1
      | some dd=>
        have hdd:H1 dd=some (.xd ((Hx m).zip vs)):=fl.1
        obtain ⟨o,vs0,q1,q2,q3,q4⟩:=(I1.hok x0 _ hx0).1
        have nc:notCls o=true:=by unfold notCls;rw [q4]
        obtain ⟨mA,nA,rA⟩:=(show ObjOk X.prog X.w H1 s1.heap dd (.xd ((Hx m).zip vs)) from I1.hok dd _ hdd)
        obtain ⟨od,ho,hl⟩:=FA nA
        obtain ⟨u',hu,ru⟩:=RelO.some_of (v:=v') (o:=mA nm) (by rw [←l1];exact rA nm)
        have IA:InstAt s1.heap x0 o (ca m) (some od):=⟨q1,q2,nc,by rw [q3];exact ho⟩
        unfold getAttr
        refine wpAny_bind (wpAny_mkText ?_)
        refine JX (s:={ s1 with toks:=s1.toks + 1 }) I1.kIn IA (x.gt m hm) (O3 I1.kIn IA (x.gt m hm) (findObj_own (x.gt m hm).hd (hno m hm) rfl (by rw [hl,hu])) ?_)
        exact handed_on (NZ ru) ⟨v',H1,I1.tok _,ru,k v' H1 c1 f1 st1 r1⟩
   ·cases eq
 | _=>cases eq
end
def Nx (K:PySem.W.Frag) (P c:Addr):Bool:=Ky K c (.ref P :: VE) && keepIn K (.ref c) && findIn K (.ref c) "__getattribute__" == some (some (.builtin "BaseException.__getattribute__")) && findIn K (.ref c) "__getattr__" == some none && mroIn K c (.type "BaseException") == some true
 && mroIn K c (.type "object") == some true && hasDictIn K c && findIn K (.ref c) "__class__" == some (some (.builtin "object.__class__")) && findIn K (.ref c) "at" == some none && findIn K (.ref c) "side" == some none
structure XOne (K:PySem.W.Frag) (P c:Addr):Prop where
 cl:XCl K c (.ref P :: VE)
 kp:keepIn K (.ref c)=true
 gt:XGet K c
 gc:findIn K (.ref c) "__class__" = some (some (.builtin "object.__class__"))
 na:findIn K (.ref c) "at" = some none
 nd:findIn K (.ref c) "side" = some none
theorem EM {K:PySem.W.Frag} {P c:Addr} (h:Nx K P c=true):XOne K P c:=by
 unfold Nx at h
 simp only [Bool.and_eq_true,beq_iff_eq] at h
 obtain ⟨⟨⟨⟨⟨⟨⟨⟨⟨h1,h2⟩,h3⟩,h4⟩,h5⟩,h6⟩,h7⟩,h8⟩,h9⟩,h10⟩:=h
 exact ⟨.of_in h1,h2,⟨h3,h4,h5,h6,h7⟩,h8,h9,h10⟩
def FE (c1 c2 c3 c4 c5 c6 c7:Addr):Str→Addr:=fun n=>if n = "NoValue" then c1 else if n = "Short" then c2 else if n = "Broken" then c3 else if n = "NoTalk" then c4 else if n = "NoName" then c5 else if n = "NoText" then c6 else c7
theorem CO {Q:Str→Prop} (h1:Q "NoValue") (h2:Q "Short") (h3:Q "Broken") (h4:Q "NoTalk") (h5:Q "NoName") (h6:Q "NoText") (h7:Q "NoRow"):∀n∈BF,Q n:=by
 intro n hn
 simp only [BF,List.mem_cons,List.not_mem_nil,or_false] at hn
 rcases hn with rfl | rfl | rfl | rfl | rfl | rfl | rfl <;> assumption
def Nw (K:PySem.W.Frag) (P:Addr) (cs:List Addr):Bool:=Ky K P VE && cs.all (Nx K P)
theorem Vg {K:PySem.W.Frag} {h:Heap} {mg:Str→Option Value} {P c1 c2 c3 c4 c5 c6 c7:Addr} (X:K.In h) (G:h.Ns mainGlobals mg) (p:nsIn K mainGlobals "ParleyError" = some (some (.ref P))) (a1:nsIn K mainGlobals "NoValue" = some (some (.ref c1))) (a2:nsIn K mainGlobals "Short" = some (some (.ref c2)))
 (a3:nsIn K mainGlobals "Broken" = some (some (.ref c3))) (a4:nsIn K mainGlobals "NoTalk" = some (some (.ref c4))) (a5:nsIn K mainGlobals "NoName" = some (some (.ref c5))) (a6:nsIn K mainGlobals "NoText" = some (some (.ref c6))) (a7:nsIn K mainGlobals "NoRow" = some (some (.ref c7)))
 (q:Nw K P [c1,c2,c3,c4,c5,c6,c7]=true) (nd:[P,c1,c2,c3,c4,c5,c6,c7].Nodup):XM K mg P (FE c1 c2 c3 c4 c5 c6 c7):=by
 unfold Nw at q
 simp only [List.all_cons,List.all_nil,Bool.and_true,Bool.and_eq_true] at q
 obtain ⟨q0,q1,q2,q3,q4,q5,q6,q7⟩:=q
 have o1:=EM q1
 have o2:=EM q2
 have o3:=EM q3
 have o4:=EM q4
 have o5:=EM q5
 have o6:=EM q6
 have o7:=EM q7
 have inj:∀n∈BF,∀m∈BF,FE c1 c2 c3 c4 c5 c6 c7 n=FE c1 c2 c3 c4 c5 c6 c7 m→n=m:=by
  simp only [List.nodup_cons,List.mem_cons,List.not_mem_nil,or_false,not_or,List.nodup_nil,and_true] at nd
  obtain ⟨⟨n1,n2,n3,n4,n5,n6,n7⟩,⟨m12,m13,m14,m15,m16,m17⟩,⟨m23,m24,m25,m26,m27⟩,⟨m34,m35,m36,m37⟩,⟨m45,m46,m47⟩,⟨m56,m57⟩,m67,_⟩:=nd
  have h1:FE c1 c2 c3 c4 c5 c6 c7 "NoValue" = c1:=rfl
  have h2:FE c1 c2 c3 c4 c5 c6 c7 "Short" = c2:=rfl
  have h3:FE c1 c2 c3 c4 c5 c6 c7 "Broken" = c3:=rfl
  have h4:FE c1 c2 c3 c4 c5 c6 c7 "NoTalk" = c4:=rfl
  have h5:FE c1 c2 c3 c4 c5 c6 c7 "NoName" = c5:=rfl
  have h6:FE c1 c2 c3 c4 c5 c6 c7 "NoText" = c6:=rfl
  have h7:FE c1 c2 c3 c4 c5 c6 c7 "NoRow" = c7:=rfl
  refine CO ?_ ?_ ?_ ?_ ?_ ?_ ?_ <;> refine CO ?_ ?_ ?_ ?_ ?_ ?_ ?_ <;> intro e <;> first | rfl | (exfalso;rw [h1] at e) | (exfalso;rw [h2] at e) | (exfalso;rw [h3] at e) | (exfalso;rw [h4] at e) | (exfalso;rw [h5] at e) | (exfalso;rw [h6] at e) | (exfalso;rw [h7] at e)
  all_goals (first | rw [h1] at e | rw [h2] at e | rw [h3] at e | rw [h4] at e | rw [h5] at e | rw [h6] at e | rw [h7] at e)
  all_goals (first | contradiction | (have e:=e.symm;contradiction))
 refine ⟨mg_of X G p,.of_in q0,CO a1 a2 a3 a4 a5 a6 a7,CO (mg_of X G a1) (mg_of X G a2) (mg_of X G a3) (mg_of X G a4) (mg_of X G a5) (mg_of X G a6) (mg_of X G a7),CO o1.cl o2.cl o3.cl o4.cl o5.cl o6.cl o7.cl,inj,?_,
  CO o1.kp o2.kp o3.kp o4.kp o5.kp o6.kp o7.kp,CO o1.gt o2.gt o3.gt o4.gt o5.gt o6.gt o7.gt,CO o1.gc o2.gc o3.gc o4.gc o5.gc o6.gc o7.gc,CO o1.na o2.na o3.na o4.na o5.na o6.na o7.na,CO o1.nd o2.nd o3.nd o4.nd o5.nd o6.nd o7.nd⟩
 simp only [List.nodup_cons,List.mem_cons,List.not_mem_nil,or_false,not_or] at nd
 obtain ⟨⟨n1,n2,n3,n4,n5,n6,n7⟩,_⟩:=nd
 exact CO (Ne.symm n1) (Ne.symm n2) (Ne.symm n3) (Ne.symm n4) (Ne.symm n5) (Ne.symm n6) (Ne.symm n7)
def ET (s:Stmt) (k:Nat):Stmt:=match s with
 | .ClassDef _ _ _ body _ _ _ _ _ _ _=>body.getD k (.Pass ⟨0,0,0,0⟩)
 | _=>.Pass ⟨0,0,0,0⟩
def K8 (K:PySem.W.Frag) (C f:Addr):Bool:=match clsIn K C with
 | some cd=>nsIn K cd.ns "__init__" == some (some (.ref f))
 | none=>false
def Lh (K:PySem.W.Frag) (C:Addr):Bool:=match clsIn K C with
 | some cd=>nsIn K cd.ns "__init__" == some none
 | none=>false
theorem T9 {K:PySem.W.Frag} {C:Addr} (h:Lh K C=true):XN0 K C:=by
 unfold Lh at h
 split at h
 ·next cd e=>exact ⟨cd,e,beq_iff_eq.mp h⟩
 ·cases h
inductive Kd where
 | pl | fr | ex
abbrev okK (k:Kd) (P:Program) (w:World) (K:PySem.W.Frag) (mg:Str→Option Value) (base:Heap) (n:Nat) (fa:Addr) (fd:FuncData) (ps:List Str) (f:Fn):Prop:=match k with
 | .pl=>FnOk P w K mg base CX0 n fa fd ps (spF K f)
 | .fr=>FnOk P w K mg base CX0 n fa fd ps (HN K f)
 | .ex=>FnOk P w K mg base (CX1 P w) n fa fd ps (spX K f)
section
variable {X:Cx} {e a b:Expr} {pos:Pos} {f g:M D}
theorem DE {E:XK} (h:PE X e (RE X.K f)):PS X (.Return (some e) pos) (RSg X.K (μX X.K E) (A3 (nxD f))):=
 BV (GS h) fun D σ H ⟨Oo,c,t,fi,o,t',eq,k⟩=>by
  obtain ⟨d,t1,e1,eq⟩:=Ap eq
  cases eq
  obtain ⟨e2,e3⟩:=Lj e1
  exact ⟨Oo,c,t,fi,d,_,e2,fun v H1 c1 f1 s1 rv=>N1 e3 (k σ H1 c1 f1 s1 v rv)⟩
end
theorem SM {K:PySem.W.Frag}:∀(c:Cf) (H:Hp) (r:D) (rt:V→Hp→Prop),BN r=false→(∀v,Rep K c H v r→rt v H)=μR K c H r rt:=fun _ _ _ _ _=>rfl
def Qm (K:PySem.W.Frag) (cs:List Addr):List V→Hp→VK→Prop:=fun xs H Q=>∃a p C dx b,xs=[.ref a,.ref p]∧H p=some (.tup (cs.map V.ref))∧H a=some (.ext (XIs a C dx))∧(∀d,dx=some d→∃fs,H d=some (.xd fs))∧XGet K C∧findIn K (.ref C) "__class__" = some (some (.builtin "object.__class__"))∧kitAny K (.ref C) (cs.map Value.ref)=some b∧Q (.bl b) H
theorem J6:∀{cs:List Addr} {us:List Value},Vals (cs.map V.ref) us→us=cs.map Value.ref
 | [],_,.nil=>rfl
 | c :: cs,_,.cons r rs=>by rw [J6 rs,show _=Value.ref c from r];rfl
theorem NF {X:Cx} {cs:List Addr}:B2 X (.builtin "isinstance") (Qm X.K cs):=by
 intro pins s σ H xs us Q I r h
 obtain ⟨a,p,C,dx,b,rfl,hp,ha,hd,g,gc,e,q⟩:=h
 obtain ⟨u,w',rfl,rx,rt⟩:=Hh r
 cases (show u=Value.ref a from rx)
 cases (show w'=Value.ref p from rt)
 obtain ⟨_,its,rv,hit⟩:=(show ObjOk X.prog X.w H s.heap p (.tup (cs.map V.ref)) from I.hok p _ hp)
 have hv:=J6 rv
 subst hv
 obtain ⟨o,h1,h2,n,h3⟩:=hit
 obtain ⟨oc,od,oda,osl⟩:=o
 dsimp only at h2 h3
 subst h2 h3
 exact kia_tup (K9 g gc) I.kIn (Qz I ha hd) h1 e (fun z=>nomatch z) fun tk=>⟨.bl b,H,I.tok tk,rfl,q⟩
def ID (ns:List Str):D→M D
 | .exc m _=>if m∈BF then ret (.bl (ns.any fun n=>D5 m n)) else fail
 | _=>fail
section
variable {X:Cx} {P:Addr} {ca:Str→Addr} {a:Expr} {es:List Expr} {f:M D} {p pos q:Pos} {i:Nat} {ns:List Str}
def FAC (X:Cx) (ca:Str→Addr) (es:List Expr) (ns:List Str):Prop:=PA X es (fun _ H Q=>Q ((ns.map ca).map V.ref) H)∧∀n∈ns,n∈BF
theorem QL:FAC X ca [] []:=⟨GO,fun _ h=>nomatch h⟩
theorem Fk {n:Str} (x:XM X.K X.mg P ca) (hn:n∈BF) (hg:Gl X n) (h:FAC X ca es ns) (hdb:(n == ("__debug__" : Str))=false:=by decide):FAC X ca (.Name n q :: es) (n :: ns):=
 ⟨fun pos pins s σ H Q I hq=>D9 (G9 hg (x.ms n hn) (v:=.ref (ca n)) rfl hdb) h.1 (Bs (e:=.Name n q) rfl) pos pins s σ H Q I hq,fun m hm=>by
  rcases List.mem_cons.mp hm with rfl | hm
  ·exact hn
  ·exact h.2 m hm⟩
theorem Mr {K:PySem.W.Frag} {mg:Str→Option Value} (x:XM K mg P ca) {m:Str} (hm:m∈BF):∀{ns:List Str},(∀n∈ns,n∈BF)→kitAny K (.ref (ca m)) ((ns.map ca).map Value.ref)=some (ns.any fun n=>D5 m n)
 | [],_=>rfl
 | n :: ns,h=>by
   have hn:=h n List.mem_cons_self
   rw [List.map_cons,List.map_cons,kitAny,Ms (x.cl m hm) (x.cl n hn),x.subE hm hn,List.any_cons]
   cases D5 m n with
   | true=>rfl
   | false=>exact Mr x hm fun k hk=>h k (List.mem_cons_of_mem _ hk)
theorem QN (x:XM X.K X.mg P ca) (hg:Gl X "isinstance") (hm:X.mg "isinstance" = none) (hv:bootBuiltins "isinstance" = some (.builtin "isinstance")) (hc:FAC X ca es ns) (ha:PE X a (RE X.K f)) (hl:ns.length≤1000:=by decide) (h1:BK a=false:=by rfl) :
 PE X (.Call (.Name "isinstance" p) [a,.Tuple es i q] [] pos) (RE X.K (bnd f (ID ns))):=
 Bu (Gm (NF (cs:=ns.map ca)) hg hm hv (D9 ha (D9 (Oj hc.1) GO (Bs (e:=.Tuple es i q) rfl)) (Bs h1)) (by decide) (by decide) (Bs h1) (BA (es:=[.Tuple es i q]) rfl).1)
  fun σ H Q ⟨Oo,c0,t,fi,r,t',eq,k⟩=>by
   obtain ⟨d,t1,e1,eq⟩:=Ap eq
   refine ⟨Oo,c0,t,fi,d,t1,e1,fun v H1 c1 f1 s1 rv=>⟨by rw [List.length_map,List.length_map];exact Nat.le_trans hl (by decide),fun pp hp=>?_⟩⟩
   show Qm X.K (ns.map ca) [v,.ref pp] _ Q
   have f2:=f1.laid (o:=.tup ((ns.map ca).map V.ref)) hp
   have s2:=f1.stp_laid (o:=.tup ((ns.map ca).map V.ref)) hp
   cases rv with
   | @exc x0 C0 dx0 m vs ds g hx0 hA fl rs=>
     unfold ID at eq
     dsimp only at eq
     split at eq
     ·next hm'=>
      cases eq
      have hcc:=x.of hm' g
      subst hcc
      refine ⟨x0,pp,ca m,dx0,_,rfl,AJ,by rw [Au (Bf hx0 hp)];exact hx0,fun dd hd=>?_,x.gt m hm',x.gc m hm',Mr x hm' hc.2,k _ _ c1 f2 (s1.trans s2) (.bl _)⟩
      subst hd
      exact ⟨_,by rw [Au (Bf fl.1 hp)];exact fl.1⟩
     ·cases eq
   | _=>cases eq
end
end F2
namespace F2
open PySem L2 PySem.Spec SeqAt
end F2
namespace L2
open PySem PySem.Spec PyProof.Rows PySem.W PySem.Builtin PySem.Builtin.ObjectAttr
section
variable {prog:Program} {w:World} {A:Around} {s:Shared} {K:PySem.W.Frag} {x C P dx:Addr} {ox:Obj} {od:Option Obj} {R:Result→Shared→Prop} {name:Str} {v:Value} {tk:Tok} {cd:ClassData}
theorem Pg (X:K.In s.heap) (I:InstAt s.heap x ox C od) (hc:clsIn K C=some cd) (hmr:cd.mro=Fw C P) (ha:findIn K (.ref C) name=some none)
 (h:wpAny (model prog w) A.in1 (storeInOwnDict (.ref x) (.ref C) (.str name tk) name v false) (fun fin s'=>match fin with | .done f=>R (.ok f) s' | .again c'=>c'.quiet=true∧codeAny (model prog w) A c' R s') (fun e s'=>R (.error e) s') s) :
 codeAny (model prog w) A (.call (.builtin "object.__setattr__") ⟨[.ref x,.str name tk,v],[]⟩) R s:=by
 have SF:=PySem.F.store_object
 have ob:Looks (model prog w) s.heap (isInstance (.ref x) (.type "object")) true:=I.type.andThen (looks_mroIn X (by unfold mroIn;rw [hc,Option.bind_some,hmr];rfl))
 refine codeAny_call_builtin SF.slot.plain SF.entry (@check_slot (model prog w) _ _ s "object.__setattr__" "object" "__setattr__" (.ref x) [.str name tk,v] [] _ SF.kind SF.split ob (SF.args (.ref x) (.str name tk) v) ?_)
 have mr:Looks (model prog w) s.heap (mroOf (.ref C)) (Fw C P):=by rw [←hmr];exact (looks_clsIn X hc).andThen .now
 rw [osa_eq,refuse_eq]
 refine wpAny_bind (wpAny_bind (I.type.here (wpAny_bind (mr.here ?_))))
 rw [IM]
 refine wpAny_pure (wpAny_bind (I.type.here (wpAny_bind ((looks_findIn X ha).here ?_))))
 exact wpAny_bind (wpAny_pure h)
theorem PF {E:Value→Shared→Prop} {Q:Unit→Shared→Prop} {m:Str→Option Value} {a:Str} {oD:Obj} (X:K.In s.heap) (hx:s.heap.get? x=some ox) (hcl:ox.cls = .ref C) (hno:notCls ox=true) (hod:ox.dict=some dx) (hdx:s.heap.get? dx=some oD) (n1:s.heap.Ns1 dx m) (hm:PySem.Within m [a]) (hs:findIn K (.ref C) "__setattr__" = some (some (.builtin "object.__setattr__"))) (hc:clsIn K C=some cd) (hmr:cd.mro=Fw C P) (hd:cd.hasDict=true) (ha:findIn K (.ref C) name=some none)
 (h:∀h',(∀b o,b≠dx→s.heap.get? b=some o→h'.get? b=some o)→h'.Ns1 dx (fun y=>if y=name then some v else m y)→Q () { s with heap:=h',toks:=s.toks + 2 }) :
 wpAny (model prog w) A (setAttr (.ref x) name v) Q E s:=by
 have I:InstAt s.heap x ox C (some oD):=⟨hx,hcl,hno,by rw [hod];exact hdx⟩
 refine set_plain X I hs (Pg (s:={ s with toks:=s.toks + 1 }) X I hc hmr ha ?_)
 refine wpAny_bind (wpAny_pure (wpAny_bind (wpAny_bind (wpAny_loadPart (s:={ s with toks:=s.toks + 1 }) hx ?_))))
 rw [hod,hcl]
 refine wpAny_bind (Looks.here (s:={ s with toks:=s.toks + 1 }) (looks_clsIn X hc) ?_)
 rw [hd,if_neg (by decide)]
 refine wpAny_pure ?_
 refine wpAny_bind (wpAny_pure (wpAny_bind ?_))
 refine wpAny_nsSet1 n1 fun h' n2 sb=>?_
 obtain ⟨oD,esD,epD,hoD,hdD,hcD⟩:=n2.count (PySem.Within.cons name v hm)
 refine wpAny_bind (wpAny_lookBehind hoD (by rw [hdD];exact pastItsLine_dict (Nat.le_trans hcD (by show 2≤_;decide))) ?_)
 exact wpAny_pure (h h' (fun b o hb e=>(sb.2 b hb).trans e) n2)
end
def VG (K:PySem.W.Frag) (P:Addr) (ta tv:TE) (f1 f:Str):TS:=fun D σ H=>tv σ H fun y H1=>ta σ H1 fun x H2=>∃a C tp dx y1,x = .ref a∧H2 a=some (Hv a C tp dx)∧H2 dx=some (.xd [(f1,y1)])∧dx≠a∧XAt K C P f∧D.nx σ (upd H2 dx (.xd [(f1,y1),(f,y)]))
theorem Tf {X:Cx} {P:Addr} {o value:Expr} {ta tv:TE} {f1 f:Str} {pos' pos:Pos} (hf:f1≠f) (ha:PE X o ta) (hv:PE X value tv) (hs:swapsWith value (some (.Attribute o f pos')) pos.line X.env=pure false):PS X (.Assign [.Attribute o f pos'] value pos) (VG X.K P ta tv f1 f):=by
 intro pins s σ H D I h
 refine plainObj_wpAny_Assign_Attribute (thn (hv pins s σ H _ I h) fun u s1 ⟨y,H1,I1,ry,q⟩=>thn (ha pins s1 σ H1 _ I1 q) fun ov s2 ⟨x,H2,I2,rx,a,C,tp,dx,y1,ex,ea,ed,ne,c,q2⟩=>?_) hs
 subst ex
 obtain rfl:ov=Value.ref a:=rx
 obtain ⟨cd,c1,c2,c3⟩:=c.cl.cls
 have hx:s2.heap.get? a=some { excObj C tp with dict:=some dx }:=(I2.hok a _ ea).1
 obtain ⟨m,n1,rm⟩:=(show ObjOk X.prog X.w H2 s2.heap dx (.xd [(f1,y1)]) from I2.hok dx _ ed)
 obtain ⟨oD,ho,_⟩:=FA n1
 have hw:PySem.Within m [f1]:=fun g hg=>by
  by_cases e:g=f1
  ·simp [e]
  ·exfalso
   have z:=rm g
   have hgb:(g == f1)=false:=beq_eq_false_iff_ne.mpr e
   simp only [List.lookup,hgb] at z
   cases hm:m g with
   | none=>exact hg hm
   | some u=>rw [hm] at z;exact z
 refine PF I2.kIn hx rfl rfl rfl ho n1 hw c.set c1 c2 c3 c.no fun h' k n=>?_
 have na:∀b u,s2.heap.get? b=some u→H2 b=none→b≠dx:=fun b u _ z w'=>by rw [w',ed] at z;cases z
 refine ⟨σ,_,I2.un (h':=h') (t':=s2.toks + 2) ⟨fun b u e1 e2 _ _=>k b u (na b u e1 e2) e1,fun b u e1 e2 _ _=>⟨u.slots,k b u (na b u e1 e2) e1⟩,fun b u e1 e2 _=>?_,fun b u e1 _=>?_,fun b xs e1=>?_,fun b o' u e1=>?_,fun b ps e1=>⟨#[],?_⟩⟩ fun b u e1=>?_,q2⟩
 ·rw [Au (na b u e1 e2)];exact e2
 ·by_cases hb:b=dx
  ·subst hb;obtain ⟨od',es,ep,e,_⟩:=n;exact ⟨_,e⟩
  ·exact ⟨_,k b u hb e1⟩
 ·rw [Au (fun z=>by rw [z,ed] at e1;cases e1)];exact e1
 ·rw [Au (fun z=>by rw [z,ed] at e1;cases e1)];exact e1
 ·rw [Au (fun z=>by rw [z,ed] at e1;cases e1),e1];simp
 ·by_cases hb:b=dx
  ·subst hb;rw [AJ] at e1;cases e1
   refine ⟨_,n,fun g=>?_⟩
   by_cases hg:g=f
   ·subst hg
    have hgb:(g == f1)=false:=beq_eq_false_iff_ne.mpr (Ne.symm hf)
    simp only [List.lookup,hgb,beq_self_eq_true,if_true];exact ry
   ·have hgb:(g == f)=false:=beq_eq_false_iff_ne.mpr hg
    have z:=rm g
    by_cases hg1:g=f1
    ·subst hg1
     simp only [List.lookup,beq_self_eq_true] at z
     simp only [List.lookup,beq_self_eq_true,if_neg hg];exact z
    ·have hgb1:(g == f1)=false:=beq_eq_false_iff_ne.mpr hg1
     simp only [List.lookup,hgb1] at z
     simp only [List.lookup,hgb,hgb1,if_neg hg];exact z
  ·rw [Au hb] at e1
   refine (I2.hok b u e1).stay (fun z v hz q=>k z v ?_ q) (fun z q=>?_) fun z xs q=>?_
   ·rcases hz with rfl | hz
    ·exact hb
    ·intro w';rw [w',ed] at hz;cases hz
   ·rw [Au (fun z=>by rw [z,ed] at q;cases q)];exact q
   ·rw [Au (fun z=>by rw [z,ed] at q;cases q)];exact q
def Nn (K:PySem.W.Frag) (P:Addr) (a b:Str):Sp:=fun vs H Q _=>∃x C tp v u,vs=[.ref x,v,u]∧H x=some (exO x C tp)∧XAt K C P a∧XAt K C P b∧∀dx,H dx=none→dx≠x→Q .non (upd (upd H dx (.xd [(a,v),(b,u)])) x (Hv x C tp dx))
section
variable {X:Cx} {k:Nat} {f C P:Addr} {fd:FuncData} {pins:List (Addr×Obj)} {σ:St} {H:Hp} {s:Shared} {Q:Value→Shared→Prop} {us:List Value} {vs:List V} {a b:Str} {ps:List Str} {v v2:V} {u u2:Value}
theorem Nj (M:XMk X.K C P f) (ha:XAt X.K C P a) (hab:XAt X.K C P b) (F:FnOk X.prog X.w X.K X.mg X.base CX0 k f fd ps (Nn X.K P a b)) (hr:Room (k + 1) X.A) (hb:Binds X.K fd ps []) (I:Inv X pins σ H s) (r:RelV v u) (rr:RelV v2 u2)
 (h:∀s' x dx,Inv X pins σ (upd (upd H dx (.xd [(a,v),(b,v2)])) x (.ext (F2.XIs x C (some dx)))) s'→H x=none→H dx=none→dx≠x→s.heap.objs.size≤x→XRec s'.heap x C (some dx) .none→Q (.ref x) s'):wpAny (model X.prog X.w) X.A (call (.ref C) [u,u2]) Q X.xe s:=by
 obtain ⟨nm,q,N,bs,sn,sub,ab,col,dd,k0,k1,k2,k3,k5,hC,hN⟩:=M.cl.obj I.kIn
 have hni:s.heap.nsMap N "__init__" = some (.ref f):=by
  obtain ⟨cd,c1,c2⟩:=M.init
  refine Na I.kIn hN ?_
  unfold clsIn at c1
  split at c1
  ·next l=>
   cases c1
   have z:=I.kIn _ _ l
   rw [hC] at z
   cases z
   exact c2
  ·cases c1
 have I1:Inv X pins σ (upd H (s.heap.objs.size + 1) (exO (s.heap.objs.size + 1) C s.heap.objs.size)) { s with heap:=Ew s.heap C [u,u2] }:=by
  refine I.laid (t':=s.toks) (fun b o e=>Heap.get?_push_of_some _ (Heap.get?_push_of_some _ e)) (Nat.le_succ _) (Sr ?_)
  show ((s.heap.push _).push _).get? _=_
  heap_get
 have hx0:=I.hok.fresh (Nat.le_succ s.heap.objs.size)
 have r2:Vals [V.ref (s.heap.objs.size + 1),v,v2] [Value.ref (s.heap.objs.size + 1),u,u2]:=.cons rfl (.cons r (.cons rr .nil))
 have hsp:Nn X.K P a b [V.ref (s.heap.objs.size + 1),v,v2] (upd H (s.heap.objs.size + 1) (exO (s.heap.objs.size + 1) C s.heap.objs.size))
  (fun w' H'=>w' = .non∧∃dx,H dx=none∧dx≠s.heap.objs.size + 1∧H'=upd (upd H dx (.xd [(a,v),(b,v2)])) (s.heap.objs.size + 1) (Hv (s.heap.objs.size + 1) C s.heap.objs.size dx)) E0:=by
  refine ⟨_,C,s.heap.objs.size,v,v2,rfl,AJ,ha,hab,fun dx h1 h2=>⟨rfl,dx,by rw [Au h2] at h1;exact h1,h2,?_⟩⟩
  funext b
  by_cases e1:b=s.heap.objs.size + 1
  ·subst e1;rw [AJ,AJ]
  ·by_cases e2:b=dx
   ·subst e2;rw [Au e1,Au e1,AJ,AJ]
   ·rw [Au e1,Au e1,Au e2,Au e2,Au e1]
 have hl:([Value.ref (s.heap.objs.size + 1),u,u2]++[]).length=ps.length:=by
  have e:=F.len _ _ _ _ hsp
  simpa using e
 obtain ⟨hh,g,d,t,os⟩:=s
 refine wpAny_call (Pb PySem.F.excBase_ValueError (M.cl.tail I.kIn) hC hN hni ((bind_fn I.kIn _ (beq_iff_eq.mp M.fn))) (by show 2≤sizeLine;decide) ?_)
 refine codeAny_mono (F.run _ X.stack _ _ ⟨[Value.ref (hh.objs.size + 1),u,u2],[]⟩ [Value.ref (hh.objs.size + 1),u,u2] _ _ E0 (hr.make C [u,u2] []) (I1.env0.make C [u,u2] []) (by have:=hb _ [Value.ref (hh.objs.size + 1),u,u2] I1.kIn hl;simpa using this) r2 hsp) fun r s' hq'=>?_
 cases r with
 | error e=>exact hq'.elim
 | ok fl=>
   cases fl with
   | ret w'=>
     obtain ⟨v',H',I3,rv,rfl,dx,d1,d2,rfl⟩:=I1.after hq'
     refine ⟨rv,?_⟩
     have hx:=(I3.hok (hh.objs.size + 1) _ AJ).1
     have hx:s'.heap.get? (hh.objs.size + 1)=some { excObj C hh.objs.size with dict:=some dx }:=hx
     have xr:XRec s'.heap (hh.objs.size + 1) C (some dx) .none:=⟨_,_,hx,rfl,rfl,rfl,rfl⟩
     have I4:=I3.write (x:=hh.objs.size + 1) (e:=hh.objs.size + 1) (o:=.ext (F2.XIs (hh.objs.size + 1) C (some dx))) (h':=s'.heap) (t':=s'.toks) (by rw [AJ];trivial) (.inl rfl) (fun _ _ _ z=>z) ⟨_,hx⟩ (K0 xr.is)
     rw [RM] at I4
     exact h s' (hh.objs.size + 1) dx I4 hx0 d1 d2 (Nat.le_succ _) xr
   | next=>exact False.elim hq'
   | brk=>exact False.elim hq'
   | cont=>exact False.elim hq'
end
section
variable {X:Cx} {k:Nat} {f C P:Addr} {fd:FuncData} {a b:Str} {ps:List Str} {n:Str} {p pos:Pos} {e e':Expr}
theorem Tc {t:TA} (M:XMk X.K C P f) (ha:XAt X.K C P a) (hab:XAt X.K C P b) (F:FnOk X.prog X.w X.K X.mg X.base CX0 k f fd ps (Nn X.K P a b)) (hr:Room (k + 1) X.A) (hb:Binds X.K fd ps []) (hg:Gl X n) (hm:X.mg n=some (.ref C)) (hA:PA X [e,e'] t)
 (hdb:(n == ("__debug__" : Str))=false:=by decide) (h1:starEach [e,e'] X.env=(false,eval e X.env) :: starEach [e'] X.env:=by rfl) (hpl:(backTo pos (starEach [e'] X.env)).any (·.1)=false:=by rfl) :
 PM X (.Call (.Name n p) [e,e'] [] pos) C (fun σ H Q=>t σ H fun vs H1=>∃v u,vs=[v,u]∧∀x dx,H1 x=none→H1 dx=none→dx≠x→Q x (some dx) (upd (upd H1 dx (.xd [(a,v),(b,u)])) x (.ext (F2.XIs x C (some dx))))):=by
 intro pins s σ H Q I h
 refine wpAny_Call_Name_kw (E5 I hg hm ?_ hdb)
 refine PySem.W.callWith_K (h₀:=X.base) I.ok.mod.kin M.kp (thn (hA pos pins s σ H _ I h) fun us s1 ⟨vs,H1,I1,r,v,u,ev,q⟩=>⟨I1.kIn,?_⟩) h1 hpl
 subst ev
 cases r with
 | cons r0 rs=>
   cases rs with
   | cons r1 rs=>
     cases rs
     exact Nj M ha hab F hr hb I1 r0 r1 fun s' x dx I' hx hdx ne nx rc=>⟨x,some dx,_,rfl,I',AJ,Nat.le_trans I1.sz nx,rc,q x dx hx hdx ne⟩
end
end L2
namespace F2
open PySem L2 PySem.Spec PySem.W
section
variable {X:Cx} {e e':Expr} {pos p pos2:Pos} {E:L2.St→XK} {P:Addr} {ca:Str→Addr}
def XN2 (prog:Program) (w:World) (K:PySem.W.Frag) (mg:Str→Option Value) (base:Heap) (C P:Addr):Prop:=
 ∃(f:Addr) (fd:FuncData) (ps:List Str),XMk K C P f∧XAt K C P "at"∧XAt K C P "side"∧Binds K fd ps []∧FnOk prog w K mg base CX0 1 f fd ps (Nn K P "at" "side")
def GV (n:Str) (f:M (List D)):M Out:=bnd f fun ds=>match ds with
 | [d,d']=>ret (.ret (.exc n [d,d']))
 | _=>fail
theorem GI {f:M (List D)} (x:XM X.K X.mg P ca) (xn:XN2 X.prog X.w X.K X.mg X.base (ca "Broken") P) (hr:L2.Room 2 X.A) (hc:X.calm=true) (hx:Gx X E) (hg:Gl X "Broken") (ha:PA X [e,e'] (RA X.K f))
 (h1:BK e=false:=by rfl) (h2:B0 [e']=true:=by rfl):PS X (.Raise (some (.Call (.Name "Broken" p) [e,e'] [] pos)) none pos2) (RSX X.K E (GV "Broken" f)):=by
 obtain ⟨fa,fd,ps,M,A,A2,B,F⟩:=xn
 have hn:("Broken" : Str)∈BF:=by decide
 refine BV (Lo hc M.cl hx (Tc M A A2 F hr B hg (x.ms _ hn) ha (by decide) (Bs h1) (BA h2).1)) fun D σ H ⟨Oo,c,t,fi,o,t',eq,k⟩=>?_
 obtain ⟨ds,t1,e1,eq⟩:=Ap eq
 refine ⟨Oo,c,t,fi,ds,t1,e1,fun vs H1 c1 f1 s1 rvs=>?_⟩
 rcases ds with _ | ⟨d,_ | ⟨d',_ | ⟨_,_⟩⟩⟩
 ·cases eq
 ·cases eq
 ·cases rvs with
  | @cons v0 _ _ _ rv r=>
  cases r with
  | @cons v1 _ _ _ rv1 r=>
  cases r
  cases eq
  refine ⟨_,_,rfl,fun y dx hy hdx ne=>?_⟩
  have f2:=f1.laid (o:=.xd [("at",v0),("side",v1)]) hdx
  have hy2:upd H1 dx (.xd [("at",v0),("side",v1)]) y=none:=by rw [Au (Ne.symm ne)];exact hy
  have f3:=f2.laid (o:=.ext (XIs y (ca "Broken") (some dx))) hy2
  have ex:=(f1.stp_laid (o:=.xd [("at",v0),("side",v1)]) hdx).ext.trans (f2.stp_laid (o:=.ext (XIs y (ca "Broken") (some dx))) hy2).ext
  have s3:=s1.trans ((f1.stp_laid (o:=.xd [("at",v0),("side",v1)]) hdx).trans (f2.stp_laid (o:=.ext (XIs y (ca "Broken") (some dx))) hy2))
  refine k σ _ c1 f3 s3 (.ref y) (.exc (x.ns _ hn) AJ (f2.s.free hy2) ?_ (.cons (rv.mono ex) (.cons (rv1.mono ex) .nil))) y (some dx) rfl
  exact ⟨by rw [Au ne,AJ];rfl,f1.s.free hdx⟩
 ·cases eq
end
def XF2 (K:PySem.W.Frag) (C P:Addr) (qual:Str) (st:Stmt):Prop:=∃(f:Addr) (fd:FuncData),XMk K C P f∧XAt K C P "at"∧XAt K C P "side"∧Binds K fd ["self", "at", "side"] []∧Fun K "__init__" qual st f fd
theorem T8 {K:PySem.W.Frag} {C P f:Addr} {qual:Str} {st:Stmt} {od an:Option Addr} {sl:Array (Option Value)} {oc kV dc pm cd ct:Value} (o:XOne K P C) (i:K8 K C f=true) (hf:isFn K (.ref f)=true) (hs:findIn K (.ref C) "__setattr__" = some (some (.builtin "object.__setattr__")))
 (l:K.lookup f=some ⟨oc,od,.func (PySem.W.fnOf "__init__" qual (D7 st) (B3 st) (As st) .none kV dc pm an cd ct),sl⟩) (c:codeIn K cd qual=true) (k:keepIn K (.ref f)=true)
 (hb:∀(kV doc pm:Value) (an:Option Addr) (cdv ct:Value) (us:List Value),us.length=3→bindArgs (PySem.W.fnOf "__init__" qual (D7 st) (B3 st) (As st) .none kV doc pm an cdv ct) ⟨us,[]⟩=pure ((["self", "at", "side"]:List Str).zip us)):XF2 K C P qual st:=by
 refine ⟨f,_,⟨o.cl,?_,hf,o.kp⟩,⟨o.cl,hs,o.na⟩,⟨o.cl,hs,o.nd⟩,(Iy (st:=st) l c k).binds (ps:=["self", "at", "side"]) hb,Iy (st:=st) l c k⟩
 unfold K8 at i
 split at i
 ·next cd' e=>exact ⟨cd',e,beq_iff_eq.mp i⟩
 ·cases i
theorem Hy {prog:Program} {w:World} {K:PySem.W.Frag} {mg:Str→Option Value} {base:Heap} {C P:Addr} {qual:Str} {st:Stmt} {p1 p2 p3 p4 p5 p6 p7 p8:Pos} (hbd:B3 st=[.Assign [.Attribute (.Name "self" p1) "at" p2] (.Name "at" p3) p4,.Assign [.Attribute (.Name "self" p5) "side" p6] (.Name "side" p7) p8]) (S:FnScope ["self", "at", "side"] ["self", "at", "side"] (As st))
 (s1:(As st).names.lookup ("self" : Str)=some NameKind.local) (s2:(As st).names.lookup ("at" : Str)=some NameKind.local) (s3:(As st).names.lookup ("side" : Str)=some NameKind.local) (x:XF2 K C P qual st):XN2 prog w K mg base C P:=by
 obtain ⟨f,fd,M,A,A2,B,F⟩:=x
 refine ⟨f,fd,_,M,A,A2,B,F.ok (k:=0) S (fun vs H Q E h=>?_) fun cdv A' outer s H vs Q E hr h=>?_⟩
 ·obtain ⟨y,C',tp,v,u,rfl,_⟩:=h;rfl
 ·rw [hbd]
  refine ⟨_,Lq (Uu (P:=P) (DQ (i:=0) rfl (.inl s1) (by decide) (by decide)) (DQ (i:=1) rfl (.inl s2) (by decide) (by decide)) rfl) (Jq (Tf (P:=P) (f1:="at") (by decide) (DQ (i:=0) rfl (.inl s1) (by decide) (by decide)) (DQ (i:=2) rfl (.inl s3) (by decide) (by decide)) rfl)),?_⟩
  obtain ⟨y,C',tp,v,u,rfl,hy,ha,ha2,k⟩:=h
  refine ⟨v,rfl,.ref y,rfl,y,C',tp,rfl,hy,ha,fun dx h1 h2=>⟨u,rfl,.ref y,rfl,y,C',tp,dx,v,rfl,AJ,by rw [Au h2,AJ],h2,ha2,?_⟩⟩
  have z:=k dx h1 h2
  have e:upd (upd (upd H dx (.xd [("at",v)])) y (Hv y C' tp dx)) dx (.xd [("at",v),("side",u)])=upd (upd H dx (.xd [("at",v),("side",u)])) y (Hv y C' tp dx):=by
   funext b
   by_cases e1:b=dx
   ·subst e1;rw [AJ,Au h2,AJ]
   ·by_cases e2:b=y
    ·subst e2;rw [Au e1,AJ,AJ]
    ·rw [Au e1,Au e2,Au e1,Au e2,Au e1]
  rw [e]
  exact z
end F2
namespace L2
open PySem PySem.Spec PyProof.Rows PySem.W
def Uk (K:PySem.W.Frag) (ta:TA):TI:=fun σ H R=>ta σ H fun vs H1=>∃a b xs ys,vs=[.ref a,.ref b]∧((SqL K H1 a xs∧SqL K H1 b ys∧R (OJ K a b) H1)∨(SqT K H1 a xs∧SqT K H1 b ys∧R (Itz K a b) H1))
theorem Ri {X:Cx} {e e':Expr} {ta:TA} {elts:List Expr} {n:Nat} {tpos p pos:Pos} (hg:Gl X "zip") (hm:X.mg "zip" = none) (ha:PA X [e,e'] ta) (hs:starEach [e,e'] X.env=[(false,eval e X.env),(false,eval e' X.env)]) (hs2:starEach [e'] X.env=[(false,eval e' X.env)]) :
 PI X (.Tuple elts n tpos) (.Call (.Name "zip" p) [e,e'] [] pos) (Uk X.K ta):=by
 intro pins s σ H R I h
 refine Call_ (FS I hg hm (by decide +kernel:bootBuiltins "zip" = some (.type "zip")) (PyProof.Rows.callWith_type1 (thn (ha pos pins s σ H _ I h) fun us s1 ⟨vs,H1,I1,r1,q1⟩=>?_) (by rw [hs,hs2]) (by rw [hs2];rfl)))
 obtain ⟨a,b,xs,ys,ev,q1⟩:=q1
 subst ev
 cases r1 with
 | cons r rr=>
   cases rr with
   | cons r' rr=>
     cases rr
     cases r
     cases r'
     have fresh:∀c∈[s1.heap.objs.size + 4,s1.heap.objs.size + 2,s1.heap.objs.size + 3,s1.heap.objs.size,s1.heap.objs.size + 1],FpOk X pins H1 c:=fun c hc=>by
      have hc':s1.heap.objs.size≤c:=by
       simp only [List.mem_cons,List.not_mem_nil,or_false] at hc
       lia
      exact I1.fpOk hc' (I1.hok.fresh hc')
     rcases q1 with ⟨hq1,hq2,q⟩ | ⟨hq1,hq2,q⟩
     ·obtain ⟨its,rv,P1,hz⟩:=I1.list hq1
      obtain ⟨jts,rv',P2,hz'⟩:=I1.list hq2
      have la:a < s1.heap.objs.size:=by obtain ⟨o,n,e,_⟩:=P1;exact Heap.lt_size e
      have lb:b < s1.heap.objs.size:=by obtain ⟨o,n,e,_⟩:=P2;exact Heap.lt_size e
      refine call_zip_2 (xs:=its.toArray) (ys:=jts.toArray) P1.isList P2.isList fun g k1 k2 k3 k4 k5 _ kk=>?_
      have st:ZL g (s1.heap.objs.size + 4) (s1.heap.objs.size + 2) (s1.heap.objs.size + 3) s1.heap.objs.size (s1.heap.objs.size + 1) a b 0:=⟨k1,k2,⟨_,_,k3⟩,k4,k5⟩
      refine wpAny_pyIter_zip st.zz ?_
      exact ⟨s1.heap.objs.size + 4,_,_,_,H1,rfl,I1.kept (t':=s1.toks) kk,OG a b _ _ _ _ _ (JH la lb),st,fresh,q⟩
     ·obtain ⟨its,rv,⟨o1,p1,pc1,n1,pd1⟩,hz⟩:=I1.tuple hq1
      obtain ⟨jts,rv',⟨o2,p2,pc2,n2,pd2⟩,hz'⟩:=I1.tuple hq2
      have la:a < s1.heap.objs.size:=Heap.lt_size p1
      have lb:b < s1.heap.objs.size:=Heap.lt_size p2
      refine NI (xs:=its.toArray) (ys:=jts.toArray) ⟨o1,p1,pc1,n1,pd1⟩ ⟨o2,p2,pc2,n2,pd2⟩ fun g st kk=>?_
      refine wpAny_pyIter_zip st.zz ?_
      exact ⟨s1.heap.objs.size + 4,_,_,_,H1,rfl,I1.kept (t':=s1.toks) kk,PN a b _ _ _ _ _ (JH la lb),st,fresh,q⟩
end L2
namespace F2
open PySem L2 PySem.Spec
def IR:List D→M (List D)
 | [.lst xs,.lst ys]=>ret (Dm xs ys)
 | [.tup xs,.tup ys]=>ret (Dm xs ys)
 | _=>fail
def MV (f:M (List D)):M (List D):=bnd f IR
section
variable {X:Cx} {a b:Expr} {pos:Pos}
theorem QQ {g:M (List D)} {elts:List Expr} {m:Nat} {tpos p:Pos} (hg:Gl X "zip") (hm:X.mg "zip" = none) (ha:PA X [a,b] (RA X.K g)) (h1:BK a=false:=by rfl) (h2:BK b=false:=by rfl):PI X (.Tuple elts m tpos) (.Call (.Name "zip" p) [a,b] [] pos) (RI2 X.K (MV g)):=
 Ia (Ri hg hm ha (by rw [Bs h1,Bs h2];rfl) (Bs h2)) fun σ H R ⟨Oo,c,t,fi,ds,t',eq,k⟩=>by
  obtain ⟨xs,t1,e1,eq⟩:=Ap eq
  refine ⟨Oo,c,t,fi,xs,t1,e1,fun vs H1 c1 f1 s1 rv=>?_⟩
  unfold IR at eq
  split at eq
  ·next es es'=>
   cases eq
   cases rv with
   | cons r rs=>
     cases rs with
     | cons r' rs=>
       cases rs
       cases r with
       | @lst a ws _ g1 g2 g3=>
         cases r' with
         | @lst a' ws' _ g1' g2' g3'=>exact ⟨a,a',ws,ws',rfl,.inl ⟨SqL.of g1,SqL.of g1',k _ H1 c1 f1 s1 (ItOk2.zipl (fun c' H' ex=>⟨ws,SqL.of (ex.keep _ _ g1 g2),g3.mono ex⟩) fun c' H' ex=>⟨ws',SqL.of (ex.keep _ _ g1' g2'),g3'.mono ex⟩)⟩⟩
  ·next es es'=>
   cases eq
   cases rv with
   | cons r rs=>
     cases rs with
     | cons r' rs=>
       cases rs
       cases r with
       | @tup a ws _ g1 g2 g3=>
         cases r' with
         | @tup a' ws' _ g1' g2' g3'=>exact ⟨a,a',ws,ws',rfl,.inr ⟨SqT.of g1,SqT.of g1',k _ H1 c1 f1 s1 (ItOk2.zip (fun c' H' ex=>⟨ws,SqT.of (ex.keep _ _ g1 g2),g3.mono ex⟩) fun c' H' ex=>⟨ws',SqT.of (ex.keep _ _ g1' g2'),g3'.mono ex⟩)⟩⟩
  ·cases eq
end
end F2
namespace LW
open PySem L2 F2
def FB:M Out:=
 (A3 (F9 (FN (fC (.int 32)) (Ad 0) (fC (.int 126)) leA leA) (Ah (Ad 0) (fC (.int 37)) (eqS fun b=>!b))))
def Eo:M Out:=
 (Ar (A6 1 (Fj (fBF (Ac (fSl (Ad 0) fNo (Ci (fC (.int 63))) Cv) Aj) Gj)))
 (Ar (ifS (AK (Ah (Ad 1) (Bb (Bi Aj)) (eqS id)))
   (A6 1 (Fj (Bi (Ac (fC (.int 0)) Aj))))
   AR)
 (A3 (Fj (Bi (Ac (Ad 1) (Ac (Ah (fB (Ac (Ad 0) Aj) BH) (fC (.int 2)) Dl) (Ac (fC (.int 0)) Aj))))))))
def Dz:M Out:=
 (Ar (A6 2 (Ah (Ah (Ad 0) (fC (.int 2)) ixD) (fB (Ac (Ah (Ad 0) (fC (.int 0)) ixD) Aj) BH) Dl))
 (Ar (Ed (Ah (Ah (Ad 0) (fC (.int 2)) ixD) (fC (.int 1)) AQ) (stD (Ad 0) (fC (.int 2))))
 (Ar (ifS (AK (Ah (Ah (Ad 0) (fC (.int 1)) ixD) (fC (.int 0)) (eqS id)))
   (Ar (A6 3 (Ah (Ah (Ah (Ad 0) (fC (.int 0)) ixD) (Ad 2) ixD) (Ad 1) Dl))
 (Ar (Ed (Ah (Ah (Ah (Ad 0) (fC (.int 0)) ixD) (Ad 2) ixD) (Ad 1) Do) (stD (Ah (Ad 0) (fC (.int 0)) ixD) (Ad 2)))
 (A3 (Ad 3))))
   AR)
 (Ar (A6 4 (Ah (Ah (Ah (Ah (Ah (Ah (Ad 0) (fC (.int 0)) ixD) (Ad 2) ixD) (fC (.int 1000000021)) Dl) (fC (.int 6563)) Da) (Ah (Ah (Ad 0) (fC (.int 2)) ixD) (fC (.int 130363)) Da) AQ) (fC (.int 1000000033)) Dl))
 (Ar (A6 4 (Ah (Ah (Ad 4) (Ad 4) Da) (fC (.int 469762049)) Dl))
 (A3 (Ah (Ah (Ah (Ah (Ah (Ad 4) (fC (.int 29443)) Da) (Ah (Ad 0) (fC (.int 2)) ixD) AQ) (fC (.int 167772161)) Dl) (fC (.int 3)) Do) (Ad 1) Dl)))))))
def EQ (Ax:Fn):M Out:=
 (Ar (A6 1 (Ah (Ah (Ah (Av Ax (Ac (Ad 0) (Ac (Ah (fC (.int 10)) (fC (.int 6)) DL) Aj))) (Ah (fC (.int 10)) (fC (.int 12)) DL) Da) (Ah (Av Ax (Ac (Ad 0) (Ac (Ah (fC (.int 10)) (fC (.int 6)) DL) Aj))) (Ah (fC (.int 10)) (fC (.int 6)) DL) Da) AQ) (Av Ax (Ac (Ad 0) (Ac (Ah (fC (.int 10)) (fC (.int 6)) DL) Aj))) AQ))
 (A3 (Ah (Ad 1) (Ah (Bb (Bi (Ac (fC (.int 1)) (Ac (fUn (fC (.int 1)) M6) Aj)))) (Av Ax (Ac (Ad 0) (Ac (fC (.int 2)) Aj))) ixD) Da)))
def Ep (Ax EN:Fn):M Out:=
 (Ar (A6 1 (Av Ax (Ac (Ad 0) (Ac (fC (.int 6)) Aj))))
 (Ar (ifS (AK (Ah (Ad 1) (fC (.int 0)) (eqS id)))
   (A3 (CK (Ac (fC (.str "nothing")) Aj)))
   AR)
 (Ar (ifS (AK (Ah (Ad 1) (fC (.int 3)) ltA))
   (A3 (CK (Ac (fC (.str "text")) (Ac (Ah (Bb (Bi (Ac (fC (.int 0)) (Ac (fC (.int 1)) (Ac (fC (.int 4)) (Ac (fC (.int 250)) (Ac (Av Ax (Ac (Ad 0) (Ac (fC (.int 251)) Aj))) Aj))))))) (Av Ax (Ac (Ad 0) (Ac (fC (.int 5)) Aj))) ixD) Aj))))
   AR)
 (Ar (A6 2 (Ah (Bb (Bi (Ac (fC (.int 0)) (Ac (Ah (Av Ax (Ac (Ad 0) (Ac (fC (.int 40)) Aj))) (fC (.int 20)) BU) (Ac (Av EN (Ac (Ad 0) Aj)) (Ac (Ah (fC (.int 1)) (Ah (fC (.int 10)) (fC (.int 18)) DL) BU) Aj)))))) (Av Ax (Ac (Ad 0) (Ac (fC (.int 4)) Aj))) ixD))
 (Ar (A6 3 (Ah (Ah (Bb (Bi (Ac (Ah (fC (.int 2)) (fC (.int 24)) DL) (Ac (Ah (fC (.int 2)) (fC (.int 32)) DL) (Ac (Ah (fC (.int 2)) (fC (.int 40)) DL) (Ac (Ah (fC (.int 2)) (fC (.int 48)) DL) (Ac (Ah (fC (.int 2)) (fC (.int 56)) DL) Aj))))))) (Av Ax (Ac (Ad 0) (Ac (fC (.int 5)) Aj))) ixD) (Av Ax (Ac (Ad 0) (Ac (fC (.int 2)) Aj))) BU))
 (Ar (A6 4 (Bb (Bi (Ac (fC (.int 0)) (Ac (fC (.int 1)) (Ac (fC (.int 255)) (Ac (fC (.int 256)) (Ac (fC (.int 299)) (Ac (fC (.int 65535)) (Ac (fC (.int 65536)) (Ac (Av Ax (Ac (Ad 0) (Ac (fC (.int 1000)) Aj))) (Ac (fB (Ac (Av EN (Ac (Ad 0) Aj)) Aj) KG) (Ac (Ad 3) (Ac (Ah (fC (.int 2)) (Ah (fC (.int 10)) (fC (.int 18)) DL) Da) Aj))))))))))))))
 (A3 (CK (Ac (fC (.str "number")) (Ac (Ad 2) (Ac (fB (Ac (Ah (Ah (fC (.int 10)) (fC (.int 18)) DL) (fC (.int 1)) BU) (Ac (Ah (Ad 2) (Ah (Ad 4) (Av Ax (Ac (Ad 0) (Ac (fC (.int 11)) Aj))) ixD) AQ) Aj)) Jj) Aj)))))))))))
def DW (Ax CA KM:Fn):M Out:=
 (Ar (Ed (Ah (Ah (Ad 2) (fC (.int 0)) ixD) (fC (.int 1)) BU) (stD (Ad 2) (fC (.int 0))))
 (Ar (A6 3 (Av Ax (Ac (Ad 0) (Ac (fC (.int 8)) Aj))))
 (Ar (ifS (fOr (AK (Ah (Ad 1) (fC (.int 2)) ltA)) (fOr (AK (Ah (Ah (Ad 2) (fC (.int 0)) ixD) (fC (.int 1)) ltA)) (AK (Ah (Ad 3) (fC (.int 2)) ltA))))
   (A3 (Av KM (Ac (Ad 0) Aj)))
   AR)
 (Ar (ifS (AK (Ah (Ad 3) (fC (.int 4)) ltA))
   (Ar (A6 4 (Ah (Bb (Bi (Ac (fC (.int 0)) (Ac (fC (.int 1)) (Ac (fC (.int 3)) (Ac (fC (.int 250)) (Ac (Av Ax (Ac (Ad 0) (Ac (fC (.int 251)) Aj))) Aj))))))) (Av Ax (Ac (Ad 0) (Ac (fC (.int 5)) Aj))) ixD))
 (A3 (CK (Ac (fC (.str "list")) (Ac (Av CA (Ac (Ad 0) (Ac (Ah (Ad 1) (fC (.int 1)) BU) (Ac (Ad 2) Aj)))) (Ac (Ad 4) Aj))))))
   AR)
 (Ar (ifS (AK (Ah (Ad 3) (fC (.int 6)) ltA))
   (Ar (A6 5 (Av CA (Ac (Ad 0) (Ac (Ah (Ad 1) (fC (.int 1)) BU) (Ac (Ad 2) Aj)))))
 (A3 (CK (Ac (fC (.str "pair")) (Ac (Ad 5) (Ac (Av CA (Ac (Ad 0) (Ac (Ah (Ad 1) (fC (.int 1)) BU) (Ac (Ad 2) Aj)))) Aj))))))
   AR)
 (Ar (A6 6 (Bb (Ch 1 [0,2,1] (Ct (Ac (Ah (fC (.int 1)) (Av Ax (Ac (Ad 0) (Ac (Ah (Bb (Bi (Ac (fC (.int 3)) (Ac (fC (.int 9)) Aj)))) (fB (Ac (Ah (Ad 1) (fC (.int 2)) (eqS id)) Aj) Hz) ixD) Aj))) AQ) Aj)) (BL 0) Dc (Av CA (Ac (Ad 1) (Ac (Ah (Ad 3) (fC (.int 1)) BU) (Ac (Ad 2) Aj)))))))
 (A3 (CK (Ac (fC (.str "choice")) (Ac (fB (Ac (Ad 6) Aj) JC) Aj))))))))))
def Eu (Ax:Fn):M Out:=
 (Ar (A6 1 (fC (.str " !\"#$&'()*+,-./0123456789:;<=>?@ABCDEFGHIJKLMNOPQRSTUVWXYZ[\\]^_`abcdefghijklmnopqrstuvwxyz{|}~")))
 (A3 (Ah (Ad 1) (Av Ax (Ac (Ad 0) (Ac (fC (.int 94)) Aj))) ixD)))
def DV (Cz:Fn):M Out:=
 (Ar (ifS (AK (Ah (Ah (Ad 0) (fC (.int 0)) ixD) (fC (.str "list")) (eqS id)))
   (A3 (Ah (fC (.int 1)) (Av Cz (Ac (Ah (Ad 0) (fC (.int 1)) ixD) Aj)) AQ))
   AR)
 (Ar (ifS (AK (Ah (Ah (Ad 0) (fC (.int 0)) ixD) (fC (.str "pair")) (eqS id)))
   (A3 (Ah (Ah (fC (.int 1)) (Av Cz (Ac (Ah (Ad 0) (fC (.int 1)) ixD) Aj)) AQ) (Av Cz (Ac (Ah (Ad 0) (fC (.int 2)) ixD) Aj)) AQ))
   AR)
 (Ar (ifS (AK (Ah (Ah (Ad 0) (fC (.int 0)) ixD) (fC (.str "choice")) (eqS id)))
   (A3 (Ah (fC (.int 1)) (fB (Ac (Bb (Ch 1 [] (EX (Ah (Ad 0) (fC (.int 1)) ixD)) (BL 0) Dc (Av Cz (Ac (Ad 0) Aj)))) Aj) IF) AQ))
   AR)
 (A3 (fC (.int 1))))))
def DX (CB Ax Cz KN EN:Fn):M Out:=
 (Ar (Ed (Ah (Ah (Ad 2) (fC (.int 0)) ixD) (fC (.int 1)) BU) (stD (Ad 2) (fC (.int 0))))
 (Ar (Ed (Ah (Ah (Ad 2) (fC (.int 1)) ixD) (fC (.int 1)) BU) (stD (Ad 2) (fC (.int 1))))
 (Ar (ifS (AK (Ah (Ah (Ad 1) (fC (.int 0)) ixD) (fC (.str "nothing")) (eqS id)))
   (A3 (fC .non))
   AR)
 (Ar (ifS (AK (Ah (Ah (Ad 1) (fC (.int 0)) ixD) (fC (.str "number")) (eqS id)))
   (Ar (Ed (Ah (Ah (Ad 2) (fC (.int 1)) ixD) (fC (.int 8)) BU) (stD (Ad 2) (fC (.int 1))))
 (Ar (A6 3 (Ah (Ah (Ad 1) (fC (.int 2)) ixD) (Ah (Ad 1) (fC (.int 1)) ixD) BU))
 (Ar (A6 4 (Bb (Bi (Ac (fC (.int 0)) (Ac (Ad 3) (Ac (Ah (fB (Ac (Av EN (Ac (Ad 0) Aj)) Aj) KG) (Ah (Ad 3) (fC (.int 1)) AQ) Dl) (Ac (Ah (Av Ax (Ac (Ad 0) (Ac (fC (.int 1000)) Aj))) (Ah (Ad 3) (fC (.int 1)) AQ) Dl) Aj)))))))
 (A3 (Ah (Ah (Ad 1) (fC (.int 1)) ixD) (Ah (Ad 4) (Av Ax (Ac (Ad 0) (Ac (fC (.int 4)) Aj))) ixD) AQ)))))
   AR)
 (Ar (ifS (AK (Ah (Ah (Ad 1) (fC (.int 0)) ixD) (fC (.str "text")) (eqS id)))
   (Ar (A6 5 (fB (Ac (Ah (Ad 1) (fC (.int 1)) ixD) (Ac (fB (Ac (fC (.int 0)) (Ac (Ah (Ah (Ad 2) (fC (.int 1)) ixD) (fC (.int 2)) Do) Aj)) HD) (Ac (Ah (Bb (Bi (Ac (fC (.int 0)) (Ac (fC (.int 1)) (Ac (Av Ax (Ac (Ad 0) (Ac (fC (.int 5)) Aj))) (Ac (fC (.int 250)) Aj)))))) (Av Ax (Ac (Ad 0) (Ac (fC (.int 4)) Aj))) ixD) Aj))) IG))
 (Ar (Ed (Ah (Ah (Ad 2) (fC (.int 1)) ixD) (Ad 5) BU) (stD (Ad 2) (fC (.int 1))))
 (A3 (joinM (fC (.str "")) (Ac (Bb (Ch 1 [0] (Ct (Ac (Ad 5) Aj)) (BL 0) Dc (Av KN (Ac (Ad 1) Aj)))) Aj)))))
   AR)
 (Ar (ifS (AK (Ah (Ah (Ad 1) (fC (.int 0)) ixD) (fC (.str "list")) (eqS id)))
   (Ar (A6 5 (fB (Ac (Ah (Ad 1) (fC (.int 2)) ixD) (Ac (fB (Ac (fC (.int 0)) (Ac (Ah (Ah (Ad 2) (fC (.int 0)) ixD) (Ah (fC (.int 2)) (Av Cz (Ac (Ah (Ad 1) (fC (.int 1)) ixD) Aj)) Da) Do) Aj)) HD) (Ac (fB (Ac (fC (.int 0)) (Ac (Ah (Ah (Ad 2) (fC (.int 1)) ixD) (fC (.int 12)) Do) Aj)) HD) Aj))) IG))
 (Ar (A6 5 (fB (Ac (Ad 5) (Ac (Ah (Bb (Bi (Ac (fC (.int 0)) (Ac (fC (.int 1)) (Ac (Av Ax (Ac (Ad 0) (Ac (fC (.int 4)) Aj))) (Ac (fC (.int 250)) Aj)))))) (Av Ax (Ac (Ad 0) (Ac (fC (.int 4)) Aj))) ixD) Aj)) Jj))
 (A3 (Bb (Ch 1 [0,2,1] (Ct (Ac (Ad 5) Aj)) (BL 0) Dc (Av CB (Ac (Ad 1) (Ac (Ah (Ad 3) (fC (.int 1)) ixD) (Ac (Ad 2) Aj)))))))))
   AR)
 (Ar (ifS (AK (Ah (Ah (Ad 1) (fC (.int 0)) ixD) (fC (.str "pair")) (eqS id)))
   (Ar (A6 6 (Av CB (Ac (Ad 0) (Ac (Ah (Ad 1) (fC (.int 1)) ixD) (Ac (Ad 2) Aj)))))
 (A3 (CK (Ac (Ad 6) (Ac (Av CB (Ac (Ad 0) (Ac (Ah (Ad 1) (fC (.int 2)) ixD) (Ac (Ad 2) Aj)))) Aj)))))
   AR)
 (Ar (A6 7 (Av Ax (Ac (Ad 0) (Ac (fB (Ac (Ah (Ad 1) (fC (.int 1)) ixD) Aj) BH) Aj))))
 (A3 (CK (Ac (fC (.str "of")) (Ac (Ad 7) (Ac (Av CB (Ac (Ad 0) (Ac (Ah (Ah (Ad 1) (fC (.int 1)) ixD) (Ad 7) ixD) (Ac (Ad 2) Aj)))) Aj)))))))))))))
def DY:M Out:=
 (A3 (Ah (Ah (fUn (Ad 0) Ks) (fC (.int 7)) AQ) (fC (.int 8)) Do))
def FD:M Out:=
 (A3 (Ah (Ad 0) (Ah (fC (.int 8)) (Ad 1) Da) Nm))
def Es:M Out:=
 (Ar (A6 1 (fC (.int 0)))
 (Ar (LS (AK (Ah (Ad 0) (fC (.int 0)) gtA))
   (Ar (A6 0 (Ah (Ad 0) (fC (.int 256)) Do))
 (A6 1 (Ah (Ad 1) (fC (.int 1)) AQ))))
 (A3 (Ad 1))))
def DU (Cy Fc:Fn):M Out:=
 (Ar (ifS (AK (Ah (Ah (Ad 0) (fC (.int 0)) ixD) (fC (.str "nothing")) (eqS id)))
   (A3 (Bb (Bi Aj)))
   AR)
 (Ar (ifS (AK (Ah (Ah (Ad 0) (fC (.int 0)) ixD) (fC (.str "number")) (eqS id)))
   (Ar (A6 2 (Ah (Ad 1) (Ah (Ad 0) (fC (.int 1)) ixD) BU))
 (Ar (Ey 3 (Bi Aj))
 (Ar (Dy (Ct (Ac (Av Fc (Ac (Ah (Ah (Ad 0) (fC (.int 2)) ixD) (Ah (Ad 0) (fC (.int 1)) ixD) BU) Aj)) Aj)) (BL 4)
   (Ar (ownM 3 Je (Ac (fC (.int 0)) (Ac (Ah (Ad 2) (fC (.int 256)) Dl) Aj)))
 (A6 2 (Ah (Ad 2) (fC (.int 256)) Do))))
 (A3 (Ad 3)))))
   AR)
 (Ar (ifS (AK (Ah (Ah (Ad 0) (fC (.int 0)) ixD) (fC (.str "text")) (eqS id)))
   (A3 (Ah (Bb (Bi (Ac (fB (Ac (Ad 1) Aj) BH) Aj))) (Bb (Ch 1 [] (EX (Ad 1)) (BL 0) Dc (fB (Ac (Ad 0) Aj) Lm))) AQ))
   AR)
 (Ar (ifS (AK (Ah (Ah (Ad 0) (fC (.int 0)) ixD) (fC (.str "pair")) (eqS id)))
   (A3 (Ah (Av Cy (Ac (Ah (Ad 0) (fC (.int 1)) ixD) (Ac (Ah (Ad 1) (fC (.int 0)) ixD) Aj))) (Av Cy (Ac (Ah (Ad 0) (fC (.int 2)) ixD) (Ac (Ah (Ad 1) (fC (.int 1)) ixD) Aj))) AQ))
   AR)
 (Ar (ifS (AK (Ah (Ah (Ad 0) (fC (.int 0)) ixD) (fC (.str "choice")) (eqS id)))
   (A3 (Ah (Bb (Bi (Ac (Ah (Ad 1) (fC (.int 1)) ixD) Aj))) (Av Cy (Ac (Ah (Ah (Ad 0) (fC (.int 1)) ixD) (Ah (Ad 1) (fC (.int 1)) ixD) ixD) (Ac (Ah (Ad 1) (fC (.int 2)) ixD) Aj))) AQ))
   AR)
 (Ar (Ey 3 (Bi (Ac (fB (Ac (Ad 1) Aj) BH) Aj)))
 (Ar (Dy (EX (Ad 1)) (BL 5)
   (Ey 3 (bnd (Ad 3) fun x=>bnd (Av Cy (Ac (Ah (Ad 0) (fC (.int 1)) ixD) (Ac (Ad 5) Aj))) fun y=>KS x y)))
 (A3 (Ad 3)))))))))
def CV (Fe:Fn):M Out:=
 (Ar (ifS (fOr (AK (fB (Ac (Ad 0) (Ac (fC (.ty "list")) Aj)) C9)) (AK (fB (Ac (Ad 0) (Ac (fC (.ty "tuple")) Aj)) C9)))
   (A3 (Ah (fC (.int 1)) (fB (Ac (Bb (Ch 1 [] (EX (Ad 0)) (BL 0) Dc (Av Fe (Ac (Ad 0) Aj)))) Aj) LL) AQ))
   AR)
 (A3 (fC (.int 1))))
def CI (IZ KP KO KQ I9:Fn):M Out:=
 (Ar (A6 3 (Ah (Ad 0) (fC (.int 0)) ixD))
 (Ar (ifS (AK (Ah (Ad 3) (fC (.str "nothing")) (eqS id)))
   (A3 (nxD (CK (Ac (fC .non) (Ac (Ad 2) Aj)))))
   AR)
 (Ar (ifS (AK (Ah (Ad 3) (fC (.str "number")) (eqS id)))
   (A3 (Av I9 (Ac (Ad 0) (Ac (Ad 1) (Ac (Ad 2) Aj)))))
   AR)
 (Ar (ifS (AK (Ah (Ad 3) (fC (.str "text")) (eqS id)))
   (A3 (Av KQ (Ac (Ad 0) (Ac (Ad 1) (Ac (Ad 2) Aj)))))
   AR)
 (Ar (ifS (AK (Ah (Ad 3) (fC (.str "list")) (eqS id)))
   (A3 (Av KO (Ac (Ad 0) (Ac (Ad 1) (Ac (Ad 2) Aj)))))
   AR)
 (Ar (ifS (AK (Ah (Ad 3) (fC (.str "pair")) (eqS id)))
   (A3 (Av KP (Ac (Ad 0) (Ac (Ad 1) (Ac (Ad 2) Aj)))))
   AR)
 (A3 (Av IZ (Ac (Ad 0) (Ac (Ad 1) (Ac (Ad 2) Aj)))))))))))
def Em:M Out:=
 (Ar (ifS (AK (Ah (Ad 1) (fB (Ac (Ad 0) Aj) BH) geA))
   (IL "Short" (Ac (fC (.str "the bytes end within a value")) Aj))
   AR)
 (A3 (nxD (Ah (Ad 0) (Ad 1) ixD))))
def Dp (Ee:Fn):M Out:=
 (Ar (EC 3 (Av Ee (Ac (Ad 1) (Ac (Ad 2) Aj))))
 (Ar (ifS (AK (Ah (Ad 3) (Ad 0) gtA))
   (GV "Broken" (Ac (Ad 2) (Ac (fC .non) Aj)))
   AR)
 (A3 (nxD (Ad 3)))))
def Cs (MP Ee Ja:Fn):M Out:=
 (Ar (A6 3 (Ah (Ah (Ad 0) (fC (.int 2)) ixD) (Ah (Ad 0) (fC (.int 1)) ixD) BU))
 (Ar (A6 4 (Av Ja (Ac (Ad 3) Aj)))
 (Ar (A6 5 (fC (.int 0)))
 (Ar (Dy (Ct (Ac (Ad 4) Aj)) (BL 6)
   (Ar (EC 5 (Ip (Ah (Ad 5) (fC (.int 256)) Da) (Av Ee (Ac (Ad 1) (Ac (Ah (Ad 2) (Ad 6) AQ) Aj))) AQ))
 (ifS (AK (Ah (Ad 5) (Av MP (Ac (Ad 3) (Ac (Ah (Ah (Ad 4) (fC (.int 1)) BU) (Ad 6) BU) Aj))) gtA))
   (GV "Broken" (Ac (Ah (Ad 2) (Ad 6) AQ) (Ac (fC .non) Aj)))
   AR)))
 (A3 (nxD (CK (Ac (Ah (Ah (Ad 0) (fC (.int 1)) ixD) (Ad 5) AQ) (Ac (Ah (Ad 2) (Ad 4) AQ) Aj)))))))))
def CZ (MQ De:Fn):M Out:=
 (Ar (EC 3 (Av De (Ac (Ah (Ad 0) (fC (.int 1)) ixD) (Ac (Ad 1) (Ac (Ad 2) Aj)))))
 (Ar (A6 4 (Ah (Ad 2) (fC (.int 1)) AQ))
 (Ar (A6 5 (fC (.str "")))
 (Ar (Dy (Ct (Ac (Ad 3) Aj)) (BL 6)
   (EC 5 (Ip (Ad 5) (Av MQ (Ac (Ad 1) (Ac (Ah (Ad 4) (Ad 6) AQ) Aj))) AQ)))
 (A3 (nxD (CK (Ac (Ad 5) (Ac (Ah (Ad 4) (Ad 3) AQ) Aj)))))))))
def Ev (MO Ee:Fn):M Out:=
 (Ar (EC 2 (Av Ee (Ac (Ad 0) (Ac (Ad 1) Aj))))
 (Ar (ifS (Ga (AK (Av MO (Ac (Ad 2) Aj))))
   (GV "Broken" (Ac (Ad 1) (Ac (fC .non) Aj)))
   AR)
 (A3 (nxD (Ah (fC (.str " !\"#$ &'()*+,-./0123456789:;<=>?@ABCDEFGHIJKLMNOPQRSTUVWXYZ[\\]^_`abcdefghijklmnopqrstuvwxyz{|}~")) (Ah (Ad 2) (fC (.int 32)) BU) ixD)))))
def CW (B1 De:Fn):M Out:=
 (Ar (EC 3 (Av De (Ac (Ah (Ad 0) (fC (.int 2)) ixD) (Ac (Ad 1) (Ac (Ad 2) Aj)))))
 (Ar (A6 4 (Ah (Ad 2) (fC (.int 1)) AQ))
 (Ar (Ey 5 (Bi Aj))
 (Ar (Dy (Ct (Ac (Ad 3) Aj)) (BL 6)
   (Ar (EC 7 (Av B1 (Ac (Ah (Ad 0) (fC (.int 1)) ixD) (Ac (Ad 1) (Ac (Ad 4) Aj)))))
 (Ar (ownM 5 F6 (Ac (Ah (Ad 7) (fC (.int 0)) ixD) Aj))
 (A6 4 (Ah (Ad 7) (fC (.int 1)) ixD)))))
 (A3 (nxD (CK (Ac (Ad 5) (Ac (Ad 4) Aj)))))))))
def CY (B1:Fn):M Out:=
 (Ar (EC 3 (Av B1 (Ac (Ah (Ad 0) (fC (.int 1)) ixD) (Ac (Ad 1) (Ac (Ad 2) Aj)))))
 (Ar (EC 4 (Av B1 (Ac (Ah (Ad 0) (fC (.int 2)) ixD) (Ac (Ad 1) (Ac (Ah (Ad 3) (fC (.int 1)) ixD) Aj)))))
 (A3 (nxD (CK (Ac (CK (Ac (Ah (Ad 3) (fC (.int 0)) ixD) (Ac (Ah (Ad 4) (fC (.int 0)) ixD) Aj))) (Ac (Ah (Ad 4) (fC (.int 1)) ixD) Aj)))))))
def Cr (B1 De:Fn):M Out:=
 (Ar (EC 3 (Av De (Ac (Ah (fB (Ac (Ah (Ad 0) (fC (.int 1)) ixD) Aj) BH) (fC (.int 1)) BU) (Ac (Ad 1) (Ac (Ad 2) Aj)))))
 (Ar (EC 4 (Av B1 (Ac (Ah (Ah (Ad 0) (fC (.int 1)) ixD) (Ad 3) ixD) (Ac (Ad 1) (Ac (Ah (Ad 2) (fC (.int 1)) AQ) Aj)))))
 (A3 (nxD (CK (Ac (CK (Ac (fC (.str "of")) (Ac (Ad 3) (Ac (Ah (Ad 4) (fC (.int 0)) ixD) Aj)))) (Ac (Ah (Ad 4) (fC (.int 1)) ixD) Aj)))))))
def Et (B1:Fn):M Out:=
 (Ar (A6 3 (fC .non))
 (Ar (A6 4 (fC .non))
 (Ar (FI (EC 4 (Av B1 (Ac (Ad 0) (Ac (Ad 1) (Ac (Ad 2) Aj))))) (hAs "ParleyError" 5 (A6 3 (Ad 5)) Sz))
 (Ar (ifS (AK (Ah (Ad 3) (fC .non) isC))
   (Ar (ifS (fOr (Ga (AK (fB (Ac (Ad 4) (Ac (fC (.ty "tuple")) Aj)) C9))) (AK (Ah (fB (Ac (Ad 4) Aj) BH) (fC (.int 2)) (eqS fun b=>!b))))
   (A3 (Bb (Bi (Ac (fC (.str "other")) Aj))))
   AR)
 (A3 (Ah (Bb (Bi (Ac (fC (.str "told")) Aj))) (Bb (fBF (Ac (Ad 4) Aj) Gj)) AQ)))
   AR)
 (Ar (ifS (fOr (Ga (AK (bnd (Ad 3) (FF "ValueError")))) (AK (bnd (Ad 3) (ID ["NoName", "NoRow", "NoTalk", "NoText", "NoValue"]))))
   (A3 (Bb (Bi (Ac (fC (.str "other")) Aj))))
   AR)
 (Ar (ifS (AK (bnd (Ad 3) (FF "Short")))
   (A3 (Ah (Bb (Bi (Ac (Bb (Bi (Ac (fC (.str "short")) Aj))) (Ac (Bb (Bi (Ac (fC (.str "other")) Aj))) Aj)))) (fB (Ac (bnd (Ad 3) (FF "Broken")) Aj) Hz) ixD))
   AR)
 (Ar (ifS (fOr (Ga (AK (bnd (Ad 3) (FF "Broken")))) (AK (Ah (bnd (Ad 3) (IX "side")) (fC .non) GK)))
   (A3 (Bb (Bi (Ac (fC (.str "other")) Aj))))
   AR)
 (A3 (Bb (Bi (Ac (fC (.str "broken")) (Ac (bnd (Ad 3) (IX "at")) Aj))))))))))))
def CN (Fc:Fn):M Out:=
 (Ar (A6 3 (fC (.int 0)))
 (Ar (A6 4 (Av Fc (Ac (Ad 0) Aj)))
 (Ar (Dy (Ct (Ac (Ad 4) Aj)) (BL 5)
   (Ar (ifS (AK (Ah (Ah (Ad 2) (Ad 5) AQ) (fB (Ac (Ad 1) Aj) BH) geA))
   (DB (Bi (Ac (fC (.str "short")) Aj)))
   AR)
 (Ar (A6 3 (Ah (Ah (Ad 3) (fC (.int 256)) Da) (Ah (Ad 1) (Ah (Ad 2) (Ad 5) AQ) ixD) AQ))
 (Ar (A6 6 (Ad 0))
 (Ar (Dy (Ct (Ac (Ah (Ah (Ad 4) (fC (.int 1)) BU) (Ad 5) BU) Aj)) (BL 7)
   (A6 6 (Ah (Ad 6) (fC (.int 256)) Do)))
 (ifS (AK (Ah (Ad 3) (Ad 6) gtA))
   (DB (Bi (Ac (fC (.str "broken")) (Ac (Ah (Ad 2) (Ad 5) AQ) Aj))))
   AR))))))
 (DB (Bi (Ac (fC (.str "told")) (Ac (Ad 3) (Ac (Ah (Ad 2) (Ad 4) AQ) Aj))))))))
def Ds:M Out:=
 (Ar (ifS (AK (Ah (Ad 2) (fB (Ac (Ad 1) Aj) BH) geA))
   (DB (Bi (Ac (fC (.str "short")) Aj)))
   AR)
 (Ar (ifS (AK (Ah (Ah (Ad 1) (Ad 2) ixD) (Ad 0) gtA))
   (DB (Bi (Ac (fC (.str "broken")) (Ac (Ad 2) Aj))))
   AR)
 (Ar (Dy (G3 (Ac (Ah (Ad 2) (fC (.int 1)) AQ) (Ac (Ah (Ah (Ad 2) (fC (.int 1)) AQ) (Ah (Ad 1) (Ad 2) ixD) AQ) Aj))) (BL 3)
   (Ar (ifS (AK (Ah (Ad 3) (fB (Ac (Ad 1) Aj) BH) geA))
   (DB (Bi (Ac (fC (.str "short")) Aj)))
   AR)
 (ifS (fOr (AK (Ah (Ah (Ad 1) (Ad 3) ixD) (fC (.int 32)) ltA)) (fOr (AK (Ah (Ah (Ad 1) (Ad 3) ixD) (fC (.int 126)) gtA)) (AK (Ah (Ah (Ad 1) (Ad 3) ixD) (fC (.int 37)) (eqS id)))))
   (DB (Bi (Ac (fC (.str "broken")) (Ac (Ad 3) Aj))))
   AR)))
 (Ar (A6 4 (fC (.str " !\"#$&'()*+,-./0123456789:;<=>?@ABCDEFGHIJKLMNOPQRSTUVWXYZ[\\]^_`abcdefghijklmnopqrstuvwxyz{|}~")))
 (Ar (A6 5 (Bb (Ch 1 [4] (EX (fSl (Ad 1) (Ci (Ah (Ad 2) (fC (.int 1)) AQ)) (Ci (Ah (Ah (Ad 2) (fC (.int 1)) AQ) (Ah (Ad 1) (Ad 2) ixD) AQ)) Cv)) (BL 0) Dc (Ah (Ad 1) (Ah (Ah (Ad 0) (fC (.int 32)) BU) (fB (Ac (Ah (Ad 0) (fC (.int 37)) gtA) Aj) Hz) BU) ixD))))
 (DB (Bi (Ac (fC (.str "told")) (Ac (joinM (fC (.str "")) (Ac (Ad 5) Aj)) (Ac (Ah (Ah (Ad 2) (fC (.int 1)) AQ) (Ah (Ad 1) (Ad 2) ixD) AQ) Aj))))))))))
def CU (Eg:Fn):M Out:=
 (Ar (Ey 3 (Bi Aj))
 (Ar (Dy (EX (Ad 0)) (BL 4)
   (Ar (Ey 5 (DM Eg (Ac (Ad 4) (Ac (Ad 1) (Ac (Ad 2) Aj)))))
 (Ar (ifS (AK (Ah (CQ 5 (fC (.int 0))) (fC (.str "told")) (eqS fun b=>!b)))
   (EW 5)
   AR)
 (Ar (ownM 3 F6 (Ac (CQ 5 (fC (.int 1))) Aj))
 (A6 2 (CQ 5 (fC (.int 2))))))))
 (DB (Bi (Ac (fC (.str "told")) (Ac (Ad 3) (Ac (Ad 2) Aj)))))))
def E1 (Eg FM Ij Hk:Fn):M Out:=
 (Ar (ifS (AK (Ah (Ah (Ad 0) (fC (.int 0)) ixD) (fC (.str "nothing")) (eqS id)))
   (DB (Bi (Ac (fC (.str "told")) (Ac (fC .non) (Ac (Ad 2) Aj)))))
   AR)
 (Ar (ifS (AK (Ah (Ah (Ad 0) (fC (.int 0)) ixD) (fC (.str "number")) (eqS id)))
   (Ar (Ey 3 (DM Hk (Ac (Ah (Ah (Ad 0) (fC (.int 2)) ixD) (Ah (Ad 0) (fC (.int 1)) ixD) BU) (Ac (Ad 1) (Ac (Ad 2) Aj)))))
 (Ar (ifS (AK (Ah (CQ 3 (fC (.int 0))) (fC (.str "told")) (eqS id)))
   (Ed (Ah (CQ 3 (fC (.int 1))) (Ah (Ad 0) (fC (.int 1)) ixD) AQ) (Gp 3 (fC (.int 1))))
   AR)
 (EW 3)))
   AR)
 (Ar (ifS (AK (Ah (Ah (Ad 0) (fC (.int 0)) ixD) (fC (.str "text")) (eqS id)))
   (DB (DM Ij (Ac (Ah (Ad 0) (fC (.int 1)) ixD) (Ac (Ad 1) (Ac (Ad 2) Aj)))))
   AR)
 (Ar (ifS (AK (Ah (Ah (Ad 0) (fC (.int 0)) ixD) (fC (.str "pair")) (eqS id)))
   (Ar (Ey 3 (DM FM (Ac (Bb (Bi (Ac (Ah (Ad 0) (fC (.int 1)) ixD) (Ac (Ah (Ad 0) (fC (.int 2)) ixD) Aj)))) (Ac (Ad 1) (Ac (Ad 2) Aj)))))
 (Ar (ifS (AK (Ah (CQ 3 (fC (.int 0))) (fC (.str "told")) (eqS id)))
   (Ed (fB (Ac (CQ 3 (fC (.int 1))) Aj) JC) (Gp 3 (fC (.int 1))))
   AR)
 (EW 3)))
   AR)
 (Ar (ifS (AK (Ah (Ad 2) (fB (Ac (Ad 1) Aj) BH) geA))
   (DB (Bi (Ac (fC (.str "short")) Aj)))
   AR)
 (Ar (ifS (AK (Ah (Ah (Ad 0) (fC (.int 0)) ixD) (fC (.str "list")) (eqS id)))
   (Ar (ifS (AK (Ah (Ah (Ad 1) (Ad 2) ixD) (Ah (Ad 0) (fC (.int 2)) ixD) gtA))
   (DB (Bi (Ac (fC (.str "broken")) (Ac (Ad 2) Aj))))
   AR)
 (DB (DM FM (Ac (Ah (Bb (Bi (Ac (Ah (Ad 0) (fC (.int 1)) ixD) Aj))) (Ah (Ad 1) (Ad 2) ixD) Da) (Ac (Ad 1) (Ac (Ah (Ad 2) (fC (.int 1)) AQ) Aj))))))
   AR)
 (Ar (ifS (AK (Ah (Ah (Ad 1) (Ad 2) ixD) (fB (Ac (Ah (Ad 0) (fC (.int 1)) ixD) Aj) BH) geA))
   (DB (Bi (Ac (fC (.str "broken")) (Ac (Ad 2) Aj))))
   AR)
 (Ar (Ey 3 (DM Eg (Ac (Ah (Ah (Ad 0) (fC (.int 1)) ixD) (Ah (Ad 1) (Ad 2) ixD) ixD) (Ac (Ad 1) (Ac (Ah (Ad 2) (fC (.int 1)) AQ) Aj)))))
 (Ar (ifS (AK (Ah (CQ 3 (fC (.int 0))) (fC (.str "told")) (eqS id)))
   (Ed (CK (Ac (fC (.str "of")) (Ac (Ah (Ad 1) (Ad 2) ixD) (Ac (CQ 3 (fC (.int 1))) Aj)))) (Gp 3 (fC (.int 1))))
   AR)
 (EW 3))))))))))
def En (Ax:Fn):M Out:=
 (A3 (Ah (Bb (Bi (Ac (fC (.int 0)) (Ac (Av Ax (Ac (Ad 0) (Ac (fC (.int 4)) Aj))) (Ac (Ah (fC (.int 32)) (Av Ax (Ac (Ad 0) (Ac (fC (.int 95)) Aj))) AQ) (Ac (Av Ax (Ac (Ad 0) (Ac (fC (.int 256)) Aj))) (Ac (fC (.int 255)) Aj))))))) (Av Ax (Ac (Ad 0) (Ac (fC (.int 5)) Aj))) ixD))
def Dq (Ax Ef:Fn):M Out:=
 (Ar (Dy (Ct (Ac (Ah (fC (.int 1)) (Av Ax (Ac (Ad 1) (Ac (fC (.int 3)) Aj))) AQ) Aj)) (BL 2)
   (Ar (A6 3 (Av Ax (Ac (Ad 1) (Ac (Ah (fB (Ac (Ad 0) Aj) BH) (fC (.int 1)) AQ) Aj))))
 (Ar (A6 4 (Av Ef (Ac (Ad 1) Aj)))
 (Ar (A6 5 (Av Ax (Ac (Ad 1) (Ac (fC (.int 5)) Aj))))
 (ifS (AK (Ah (Ad 5) (fC (.int 2)) ltA))
   (A6 0 (Ah (Ah (fSl (Ad 0) fNo (Ci (Ad 3)) Cv) (Bb (Bi (Ac (Ad 4) Aj))) AQ) (fSl (Ad 0) (Ci (Ah (Ad 3) (fC (.int 1)) AQ)) fNo Cv) AQ))
   (ifS (AK (Ah (Ad 5) (fC (.int 2)) (eqS id)))
   (A6 0 (Ah (fSl (Ad 0) fNo (Ci (Ad 3)) Cv) (fSl (Ad 0) (Ci (Ah (Ad 3) (fC (.int 1)) AQ)) fNo Cv) AQ))
   (ifS (AK (Ah (Ad 5) (fC (.int 3)) (eqS id)))
   (A6 0 (Ah (Ah (fSl (Ad 0) fNo (Ci (Ad 3)) Cv) (Bb (Bi (Ac (Ad 4) Aj))) AQ) (fSl (Ad 0) (Ci (Ad 3)) fNo Cv) AQ))
   (A6 0 (Ah (Ah (fSl (Ad 0) fNo (Ci (Ad 3)) Cv) (Bb (Ch 1 [4] (EX (fSl (Ad 0) (Ci (Ad 3)) (Ci (Ah (Ad 3) (fC (.int 1)) AQ)) Cv)) (BL 0) Dc (Ah (Ah (Ad 0) (Ah (Bb (Bi (Ac (fC (.int 1)) (Ac (fC (.int 255)) Aj)))) (Ah (Ad 1) (fC (.int 2)) Dl) ixD) AQ) (fC (.int 256)) Dl))) AQ) (fSl (Ad 0) (Ci (Ah (Ad 3) (fC (.int 1)) AQ)) fNo Cv) AQ)))))))))
 (A3 (fSl (Ad 0) fNo (Ci (Ah (fB (Ac (Ad 0) Aj) BH) (Ah (Bb (Bi (Ac (fC (.int 0)) (Ac (fC (.int 0)) (Ac (Av Ax (Ac (Ad 1) (Ac (fC (.int 9)) Aj))) Aj))))) (Av Ax (Ac (Ad 1) (Ac (fC (.int 3)) Aj))) ixD) BU)) Cv)))
def Dr (Fd:Fn):M Out:=
 (Ar (ifS (fOr (AK (fB (Ac (Ad 1) (Ac (fC (.ty "list")) Aj)) C9)) (AK (fB (Ac (Ad 1) (Ac (fC (.ty "tuple")) Aj)) C9)))
   (Ar (ifS (fOr (AK (Ah (fB (Ac (Ad 1) (Ac (fC (.ty "list")) Aj)) C9) (fB (Ac (Ad 0) (Ac (fC (.ty "list")) Aj)) C9) (eqS fun b=>!b))) (AK (Ah (fB (Ac (Ad 1) (Ac (fC (.ty "tuple")) Aj)) C9) (fB (Ac (Ad 0) (Ac (fC (.ty "tuple")) Aj)) C9) (eqS fun b=>!b))))
   (A3 (fC (.bl false)))
   AR)
 (Ar (ifS (AK (Ah (fB (Ac (Ad 0) Aj) BH) (fB (Ac (Ad 1) Aj) BH) (eqS fun b=>!b)))
   (A3 (fC (.bl false)))
   AR)
 (A3 (Ah (fC (.bl false)) (Bb (Ch 2 [] (MV (Ac (Ad 0) (Ac (Ad 1) Aj))) (unS 2 (DF (BL 0) (DF (BL 1) GU))) Dc (Av Fd (Ac (Ad 0) (Ac (Ad 1) Aj))))) (inD true)))))
   AR)
 (Ar (ifS (fOr (AK (Ah (Ad 1) (fC .non) isC)) (AK (fB (Ac (Ad 1) (Ac (fC (.ty "str")) Aj)) C9)))
   (A3 (Ah (Ad 0) (Ad 1) (eqS id)))
   AR)
 (A3 (F9 (fB (Ac (Ad 0) (Ac (fC (.ty "int")) Aj)) C9) (F9 (Iq (fB (Ac (Ad 0) (Ac (fC (.ty "bool")) Aj)) C9)) (Ah (Ad 0) (Ad 1) (eqS id)))))))
def FC (Ii Gz Fd Fe Eg CB Cy Ax Ef CA KL:Fn):M Out:=
 (Ar (A6 1 (Av KL (Ac (Ad 0) Aj)))
 (Ar (Dy (Ct (Ac (fC (.int 4)) Aj)) (BL 2)
   (Ar (A6 3 (Av CA (Ac (Ad 1) (Ac (Ah (fC (.int 1)) (Av Ax (Ac (Ad 1) (Ac (fC (.int 6)) Aj))) AQ) (Ac (Fj (Bi (Ac (fC (.int 12)) Aj))) Aj)))))
 (Ar (A6 4 (Bb (Ch 1 [1] (Ct (Ac (Av Ax (Ac (Ad 1) (Ac (fC (.int 7)) Aj))) Aj)) (BL 0) Dc (Av Ef (Ac (Ad 1) Aj)))))
 (Ar (A6 5 (Bb (Ch 1 [1] (Ct (Ac (Av Ax (Ac (Ad 1) (Ac (fC (.int 41)) Aj))) Aj)) (BL 0) Dc (Av Ef (Ac (Ad 1) Aj)))))
 (Ar (A6 6 (Av Cy (Ac (Ad 3) (Ac (Av CB (Ac (Ad 1) (Ac (Ad 3) (Ac (Fj (Bi (Ac (fC (.int 100)) (Ac (fC (.int 400)) Aj)))) Aj)))) Aj))))
 (Dy (EX (Bb (Bi (Ac (Ad 5) (Ac (Av Ii (Ac (Ad 6) (Ac (Ad 1) Aj))) (Ac (Ah (Ad 6) (Ad 5) AQ) (Ac (Ah (fSl (Ad 6) fNo (Ci (Ah (fB (Ac (Ad 6) Aj) BH) (fC (.int 2)) Do)) Cv) (Ad 5) AQ) Aj))))))) (BL 7)
   (Ar (A6 8 (Ah (Ad 4) (Ad 7) AQ))
 (Ar (A6 9 (Bb (fBF (Ac (Ad 8) Aj) Gj)))
 (Ar (A6 10 (Bb (DM Eg (Ac (Ad 3) (Ac (Ad 8) (Ac (fB (Ac (Ad 4) Aj) BH) Aj))))))
 (Ar (ifS (K1 (AK (Ah (Ah (Ad 10) (fC (.int 0)) ixD) (fC (.str "told")) (eqS id))) (AK (Ah (Av Fe (Ac (Ah (Ad 10) (fC (.int 1)) ixD) Aj)) (fC (.int 200)) gtA)))
   (A6 10 (Av Gz (Ac (Ad 3) (Ac (Ad 9) (Ac (fB (Ac (Ad 4) Aj) BH) Aj)))))
   AR)
 (ifS (fOr (Ga (AK (Av Fd (Ac (Av Gz (Ac (Ad 3) (Ac (Ad 9) (Ac (fB (Ac (Ad 4) Aj) BH) Aj)))) (Ac (Ad 10) Aj))))) (AK (Ah (Ad 9) (Ad 8) (eqS fun b=>!b))))
   (A3 (fC (.bl false)))
   AR)))))))))))
 (A3 (fC (.bl true)))))
end LW
namespace F2
open PySem L2
def W {α:Type} (m:M α) (t:T) (P:α→T→Prop):Prop:=∃a t',m t=some (a,t')∧P a t'
def Wf (g:Fn) (ds:List D) (S:List Ob) (P:D→List Ob→Prop):Prop:=∃r S',g ds S=some (r,S')∧P r S'
theorem W.mono {α:Type} {m:M α} {t:T} {P Q:α→T→Prop} (h:W m t P) (i:∀a t',P a t'→Q a t'):W m t Q:=by
 obtain ⟨a,t',e,p⟩:=h
 exact ⟨a,t',e,i a t' p⟩
theorem Wf.mono {g:Fn} {ds:List D} {S:List Ob} {P Q:D→List Ob→Prop} (h:Wf g ds S P) (i:∀r S',P r S'→Q r S'):Wf g ds S Q:=by
 obtain ⟨a,t',e,p⟩:=h
 exact ⟨a,t',e,i a t' p⟩
section
variable {α β:Type}
theorem AO {m:M α} {t:T} {P:α→T→Prop} {a:α} {t':T} (e:m t=some (a,t')):W m t P↔P a t':=by
 constructor
 ·rintro ⟨a',t1,e',p⟩;rw [e] at e';cases e';exact p
 ·exact fun p=>⟨a,t',e,p⟩
theorem Dt {m:M α} {t:T} {P:α→T→Prop} (e:m t=none):W m t P↔False:=by
 constructor
 ·rintro ⟨a',t1,e',p⟩;rw [e] at e';cases e'
 ·exact False.elim
@[simp] theorem W_ret {a:α} {t:T} {P:α→T→Prop}:W (ret a) t P↔P a t:=AO rfl
@[simp] theorem W_fail {t:T} {P:α→T→Prop}:W (fail:M α) t P↔False:=Dt rfl
@[simp] theorem W_bnd {f:M α} {g:α→M β} {t:T} {P:β→T→Prop}:W (bnd f g) t P↔W f t fun a t1=>W (g a) t1 P:=by
 constructor
 ·rintro ⟨b,t',e,p⟩
  obtain ⟨a,t1,e1,e2⟩:=Ap e
  exact ⟨a,t1,e1,b,t',e2,p⟩
 ·rintro ⟨a,t1,e1,b,t',e2,p⟩
  exact ⟨b,t',by unfold bnd;rw [e1];exact e2,p⟩
@[simp] theorem P6 {c:Prop} [Decidable c] {f g:M α} {t:T} {P:α→T→Prop}:W (if c then f else g) t P↔if c then W f t P else W g t P:=by split <;> rfl
@[simp] theorem Ww {n:Nat} {a:α} {t:T} {P:α→T→Prop}:W (lim n a) t P↔n≤LIM∧P a t:=by
 unfold lim
 constructor
 ·rintro ⟨a',t',e,p⟩
  split at e
  ·cases e;exact ⟨by assumption,p⟩
  ·cases e
 ·rintro ⟨h,p⟩
  exact ⟨a,t,by simp only [h,if_true],p⟩
end
variable {t:T} {env:List (Option Sl)} {S:List Ob}
@[simp] theorem W_fC {d:D} {P:D→T→Prop}:W (fC d) t P↔P d t:=AO rfl
@[simp] theorem NC {i:Nat} {P:D→T→Prop}:W (Ad i) t P↔match t.env[i]? with
 | some (some (.val d))=>P d t
 | some (some (.own ds))=>P (.lst ds) ⟨t.env.set i (some (.val (.lst ds))),t.S⟩
 | _=>False:=by
 cases e:t.env[i]? with
 | none=>exact Dt (by unfold Ad;simp [e])
 | some o=>
   cases o with
   | none=>exact Dt (by unfold Ad;simp [e])
   | some sl=>
     cases sl with
     | val d=>exact AO (by unfold Ad;simp [e])
     | own ds=>exact AO (by unfold Ad;simp [e])
@[simp] theorem W_fBin {f g:M D} {h:D→D→M D} {P:D→T→Prop}:W (Ah f g h) t P↔W f t fun x t1=>W g t1 fun y t2=>W (h x y) t2 P:=by simp [Ah]
@[simp] theorem W_fUn {f:M D} {h:D→M D} {P:D→T→Prop}:W (fUn f h) t P↔W f t fun x t1=>W (h x) t1 P:=by simp [fUn]
@[simp] theorem W_toB {b:Bool} {P:Bool→T→Prop}:W (toB (.bl b)) t P↔P b t:=AO rfl
@[simp] theorem W_fTst {f:M D} {P:Bool→T→Prop}:W (AK f) t P↔W f t fun x t1=>W (toB x) t1 P:=by simp [AK]
@[simp] theorem W_fChain {f g w:M D} {h h':D→D→M D} {P:D→T→Prop}:W (FN f g w h h') t P↔W f t fun x t1=>W g t1 fun y t2=>W (h x y) t2 fun k t3=>W (toB k) t3 fun k t4=>if k=true then W w t4 fun z t5=>W (h' y z) t5 P else P (.bl false) t4:=by
 simp [FN]
@[simp] theorem W_fAnd {f g:M Bool} {P:Bool→T→Prop}:W (K1 f g) t P↔W f t fun k t1=>if k=true then W g t1 P else P false t1:=by simp [K1]
@[simp] theorem W_fOr {f g:M Bool} {P:Bool→T→Prop}:W (fOr f g) t P↔W f t fun k t1=>if k=true then P true t1 else W g t1 P:=by simp [fOr]
@[simp] theorem W_fNot {f:M Bool} {P:Bool→T→Prop}:W (Ga f) t P↔W f t fun k t1=>P (!k) t1:=by simp [Ga]
@[simp] theorem W_fAndV {f g:M D} {P:D→T→Prop}:W (F9 f g) t P↔W f t fun x t1=>W (toB x) t1 fun k t2=>if k=true then W g t2 P else P (.bl false) t2:=by simp [F9]
@[simp] theorem Wq {f g:M D} {P:D→T→Prop}:W (Ss f g) t P↔W f t fun x t1=>W (toB x) t1 fun k t2=>if k=true then P (.bl true) t2 else W g t2 P:=by simp [Ss]
@[simp] theorem W_fNotV {f:M D} {P:D→T→Prop}:W (Iq f) t P↔W f t fun x t1=>W (toB x) t1 fun k t2=>P (.bl (!k)) t2:=by simp [Iq]
@[simp] theorem Wv {f:M Bool} {g h:M D} {P:D→T→Prop}:W (fIf f g h) t P↔W f t fun k t1=>if k=true then W g t1 P else W h t1 P:=by simp [fIf]
@[simp] theorem W_fNil {P:List D→T→Prop}:W Aj t P↔P [] t:=AO rfl
@[simp] theorem W_fCons {f:M D} {g:M (List D)} {P:List D→T→Prop}:W (Ac f g) t P↔W f t fun d t1=>W g t1 fun ds t2=>P (d :: ds) t2:=by simp [Ac]
@[simp] theorem W_fTup {f:M (List D)} {P:D→T→Prop}:W (CK f) t P↔W f t fun ds t1=>ds.length≤LIM∧P (.tup ds) t1:=by simp [CK]
@[simp] theorem W_fLst {f:M (List D)} {P:List D→T→Prop}:W (Bi f) t P↔W f t fun ds t1=>ds.length≤LIM∧P ds t1:=by simp [Bi]
@[simp] theorem W_fPure {f:M (List D)} {P:D→T→Prop}:W (Bb f) t P↔W f t fun ds t1=>P (.lst ds) t1:=by simp [Bb]
@[simp] theorem W_newOb {o:Ob} {P:D→T→Prop}:W (M7 o) t P↔P (.obj t.S.length) ⟨t.env,t.S++[o]⟩:=AO rfl
@[simp] theorem Sd {f:M (List D)} {P:D→T→Prop}:W (Fj f) t P↔W f t fun ds t1=>W (M7 (.lst ds)) t1 P:=by simp [Fj]
@[simp] theorem W_fCall {g:Fn} {f:M (List D)} {P:D→T→Prop}:W (Av g f) t P↔W f t fun ds t1=>Wf g ds t1.S fun r S'=>P r ⟨t1.env,S'⟩:=by
 unfold Av
 rw [W_bnd]
 constructor
 ·rintro ⟨ds,t1,e1,r,t',e2,p⟩
  refine ⟨ds,t1,e1,?_⟩
  dsimp only at e2
  cases e:g ds t1.S with
  | none=>rw [e] at e2;cases e2
  | some z=>obtain ⟨r',S'⟩:=z;rw [e] at e2;cases e2;exact ⟨r,_,e,p⟩
 ·rintro ⟨ds,t1,e1,r,S',e2,p⟩
  exact ⟨ds,t1,e1,r,_,by simp only [e2],p⟩
@[simp] theorem W_fB {f:M (List D)} {h:List D→M D} {P:D→T→Prop}:W (fB f h) t P↔W f t fun ds t1=>W (h ds) t1 P:=by simp [fB]
@[simp] theorem W_fBF {f:M (List D)} {h:List D→M (List D)} {P:List D→T→Prop}:W (fBF f h) t P↔W f t fun ds t1=>W (h ds) t1 P:=by simp [fBF]
@[simp] theorem W_seqS {f g:M Out} {P:Out→T→Prop}:W (Ar f g) t P↔W f t fun o t1=>match o with
 | .next=>W g t1 P
 | .brk=>P .brk t1
 | .cont=>P .cont t1
 | .ret d=>P (.ret d) t1:=by
 unfold Ar
 constructor
 ·rintro ⟨o,t',e,p⟩
  dsimp only at e
  cases e1:f t with
  | none=>rw [e1] at e;cases e
  | some z=>
    obtain ⟨o1,t1⟩:=z
    rw [e1] at e
    refine ⟨o1,t1,e1,?_⟩
    cases o1 with
    | next=>exact ⟨o,t',e,p⟩
    | brk=>cases e;exact p
    | cont=>cases e;exact p
    | ret d=>cases e;exact p
 ·rintro ⟨o,t1,e,p⟩
  cases o with
  | next=>obtain ⟨o,t',e',p⟩:=p;exact ⟨o,t',by simp only [e];exact e',p⟩
  | brk=>exact ⟨_,_,by simp only [e],p⟩
  | cont=>exact ⟨_,_,by simp only [e],p⟩
  | ret d=>exact ⟨_,_,by simp only [e],p⟩
@[simp] theorem W_skipS {P:Out→T→Prop}:W AR t P↔P .next t:=AO rfl
@[simp] theorem W_retS {f:M D} {P:Out→T→Prop}:W (A3 f) t P↔W f t fun d t1=>P (.ret d) t1:=by simp [A3]
@[simp] theorem Wn {f:M D} {P:Out→T→Prop}:W (Qb f) t P↔W f t fun d t1=>P .next t1:=by simp [Qb]
@[simp] theorem W_ifS {f:M Bool} {g h:M Out} {P:Out→T→Prop}:W (ifS f g h) t P↔W f t fun k t1=>if k=true then W g t1 P else W h t1 P:=by simp [ifS]
@[simp] theorem W_putV {i:Nat} {d:D} {P:Unit→T→Prop}:W (BL i d) t P↔P () ⟨t.env.set i (some (.val d)),t.S⟩:=AO rfl
@[simp] theorem W_setS {i:Nat} {f:M D} {P:Out→T→Prop}:W (A6 i f) t P↔W f t fun d t1=>P .next ⟨t1.env.set i (some (.val d)),t1.S⟩:=by
 simp only [A6,W_bnd,W_ret,W_putV]
@[simp] theorem W_ownS {i:Nat} {f:M (List D)} {P:Out→T→Prop}:W (Ey i f) t P↔W f t fun ds t1=>P .next ⟨t1.env.set i (some (.own ds)),t1.S⟩:=by
 unfold Ey;rw [W_bnd]
 have:∀(ds:List D) (t1:T),W (fun t:T=>some (Out.next,({ t with env:=t.env.set i (some (.own ds)) }:T))) t1 P↔P .next ⟨t1.env.set i (some (.own ds)),t1.S⟩:=fun ds t1=>AO rfl
 simp only [this]
@[simp] theorem W_asgS {f:M D} {g:D→M Unit} {P:Out→T→Prop}:W (Ed f g) t P↔W f t fun d t1=>W (g d) t1 fun _ t2=>P .next t2:=by simp [Ed]
@[simp] theorem W_putNil {P:Unit→T→Prop}:W (GU []) t P↔P () t:=AO rfl
@[simp] theorem W_putCons {f:D→M Unit} {g:List D→M Unit} {d:D} {ds:List D} {P:Unit→T→Prop}:W (DF f g (d :: ds)) t P↔W (f d) t fun _ t1=>W (g ds) t1 P:=by simp [DF]
@[simp] theorem Vj {n:Nat} {g:List D→M Unit} {ds:List D} {P:Unit→T→Prop}:W (unS n g (.lst ds)) t P↔ds.length=n∧W (g ds) t P:=by
 unfold unS;simp only [P6,W_fail];split <;> simp [*]
@[simp] theorem W_unS_tup {n:Nat} {g:List D→M Unit} {ds:List D} {P:Unit→T→Prop}:W (unS n g (.tup ds)) t P↔ds.length=n∧W (g ds) t P:=by
 unfold unS;simp only [P6,W_fail];split <;> simp [*]
@[simp] theorem W_forS {f:M (List D)} {st:D→M Unit} {b:M Out} {P:Out→T→Prop}:W (Dy f st b) t P↔W f t fun ds t1=>W (Dk st b ds) t1 P:=by simp [Dy]
@[simp] theorem W_forL_nil {st:D→M Unit} {b:M Out} {P:Out→T→Prop}:W (Dk st b []) t P↔P .next t:=AO rfl
theorem LT {st:D→M Unit} {b:M Out} {d:D} {r:List D} {P:Out→T→Prop}:W (Dk st b (d :: r)) t P↔W (st d) t fun _ t1=>W b t1 fun o t2=>match o with
 | .next=>W (Dk st b r) t2 P
 | .cont=>W (Dk st b r) t2 P
 | .brk=>P .next t2
 | .ret x=>P (.ret x) t2:=by
 constructor
 ·rintro ⟨o,t',e,p⟩
  unfold Dk at e
  cases e1:st d t with
  | none=>rw [e1] at e;cases e
  | some z=>
    obtain ⟨u,t1⟩:=z
    rw [e1] at e
    try dsimp only at e
    refine ⟨u,t1,e1,?_⟩
    cases e2:b t1 with
    | none=>rw [e2] at e;cases e
    | some z=>
      obtain ⟨o2,t2⟩:=z
      rw [e2] at e
      try dsimp only at e
      refine ⟨o2,t2,e2,?_⟩
      cases o2 with
      | next=>exact ⟨o,t',e,p⟩
      | cont=>exact ⟨o,t',e,p⟩
      | brk=>cases e;exact p
      | ret x=>cases e;exact p
 ·rintro ⟨u,t1,e1,o,t2,e2,p⟩
  cases o with
  | next=>obtain ⟨o,t',e',p⟩:=p;exact ⟨o,t',by unfold Dk;simp only [e1,e2];exact e',p⟩
  | cont=>obtain ⟨o,t',e',p⟩:=p;exact ⟨o,t',by unfold Dk;simp only [e1,e2];exact e',p⟩
  | brk=>exact ⟨_,_,by unfold Dk;simp only [e1,e2],p⟩
  | ret x=>exact ⟨_,_,by unfold Dk;simp only [e1,e2],p⟩
theorem Dn {st:D→M Unit} {b:M Out} {P:Out→T→Prop} (I:List D→T→Prop):∀(ds:List D) (t:T),I ds t→
 (∀d r t,I (d :: r) t→d∈ds→W (st d) t fun _ t1=>W b t1 fun o t2=>match o with
   | .next=>I r t2
   | .cont=>I r t2
   | .brk=>P .next t2
   | .ret x=>P (.ret x) t2)→(∀t,I [] t→P .next t)→W (Dk st b ds) t P
 | [],t,h,_,fin=>W_forL_nil.mpr (fin t h)
 | d :: r,t,h,turn,fin=>by
   rw [LT]
   refine (turn d r t h List.mem_cons_self).mono fun _ t1 h1=>h1.mono fun o t2 h2=>?_
   cases o with
   | next=>exact Dn I r t2 h2 (fun d' r' t' h' m=>turn d' r' t' h' (List.mem_cons_of_mem _ m)) fin
   | cont=>exact Dn I r t2 h2 (fun d' r' t' h' m=>turn d' r' t' h' (List.mem_cons_of_mem _ m)) fin
   | brk=>exact h2
   | ret x=>exact h2
@[simp] theorem W_fComp {n:Nat} {fr:List Nat} {f:M (List D)} {st:D→M Unit} {tst:M Bool} {elt:M D} {P:List D→T→Prop}:W (Ch n fr f st tst elt) t P↔W f t fun ds t1=>W (BW st tst elt ds) ⟨cenv n fr t1.env,t1.S⟩ fun xs t'=>xs.length≤LIM∧P xs ⟨t1.env,t'.S⟩:=by
 unfold Ch
 rw [W_bnd]
 constructor
 ·rintro ⟨ds,t1,e1,xs,t',e2,p⟩
  refine ⟨ds,t1,e1,?_⟩
  dsimp only at e2
  cases e:BW st tst elt ds ⟨cenv n fr t1.env,t1.S⟩ with
  | none=>rw [e] at e2;cases e2
  | some z=>
    obtain ⟨ys,t3⟩:=z
    rw [e] at e2
    dsimp only at e2
    split at e2
    ·cases e2;exact ⟨_,_,e,by assumption,p⟩
    ·cases e2
 ·rintro ⟨ds,t1,e1,xs,t',e2,h,p⟩
  exact ⟨ds,t1,e1,xs,_,by simp only [e2,h,if_true],p⟩
@[simp] theorem W_compL_nil {st:D→M Unit} {tst:M Bool} {elt:M D} {P:List D→T→Prop}:W (BW st tst elt []) t P↔P [] t:=AO rfl
theorem Ec {st:D→M Unit} {tst:M Bool} {elt:M D} {d:D} {r:List D} {P:List D→T→Prop}:W (BW st tst elt (d :: r)) t P↔W (st d) t fun _ t1=>W tst t1 fun k t2=>
 if k=true then W elt t2 fun x t3=>W (BW st tst elt r) t3 fun xs t4=>P (x :: xs) t4 else W (BW st tst elt r) t2 P:=by
 rw [BW];simp
theorem Fa {st:D→M Unit} {tst:M Bool} {elt:M D} {P:List D→T→Prop} (I:List D→List D→T→Prop):∀(ds:List D) (acc:List D) (t:T),I acc ds t→
 (∀acc d r t,I acc (d :: r) t→d∈ds→W (st d) t fun _ t1=>W tst t1 fun k t2=>if k=true then W elt t2 fun x t3=>I (acc++[x]) r t3 else I acc r t2)→
 (∀acc t,I acc [] t→P acc t)→W (BW st tst elt ds) t fun xs t'=>P (acc++xs) t'
 | [],acc,t,h,_,fin=>W_compL_nil.mpr (by rw [List.append_nil];exact fin acc t h)
 | d :: r,acc,t,h,turn,fin=>by
   rw [Ec]
   have turn':∀acc d' r' t',I acc (d' :: r') t'→d'∈r→_:=fun acc d' r' t' h' m=>turn acc d' r' t' h' (List.mem_cons_of_mem _ m)
   refine (turn acc d r t h List.mem_cons_self).mono fun _ t1 h1=>h1.mono fun k t2 h2=>?_
   cases k with
   | true=>
     rw [if_pos rfl] at h2 ⊢
     refine h2.mono fun x t3 h3=>(Fa I r (acc++[x]) t3 h3 turn' fin).mono fun xs t4 h4=>?_
     rw [List.append_assoc] at h4
     exact h4
   | false=>
     rw [if_neg Bool.false_ne_true] at h2 ⊢
     exact Fa I r acc t2 h2 turn' fin
theorem Bh {n m:Nat} {g:M Out} {ds:List D} {P:D→List Ob→Prop} (h:ds.length=n) (w:W g ⟨env0 m ds,S⟩ fun o t=>match o with
 | .ret r=>P r t.S
 | .next=>P .non t.S
 | _=>False):Wf (fnOf n m g) ds S P:=by
 obtain ⟨o,t,e,p⟩:=w
 cases o with
 | ret r=>exact ⟨r,t.S,by unfold fnOf;rw [if_pos h,e],p⟩
 | next=>exact ⟨.non,t.S,by unfold fnOf;rw [if_pos h,e],p⟩
 | brk=>exact p.elim
 | cont=>exact p.elim
@[simp] theorem W_tTru {P:Bool→T→Prop}:W Dc t P↔P true t:=AO rfl
@[simp] theorem Wp {P:D→T→Prop}:W Vv t P↔P .dic t:=AO rfl
end F2
namespace F2
open PySem L2
variable {t:T} {P:D→T→Prop}
theorem Ic {α β:Type} {o:Option β} {g:β→α×T} {Q:α→T→Prop} {m:M α} (e:m t=o.map g):W m t Q↔∃b,o=some b∧Q (g b).1 (g b).2:=by
 constructor
 ·rintro ⟨a,t',e',p⟩
  rw [e] at e'
  obtain ⟨b,h1,h2⟩:=Option.map_eq_some_iff.mp e'
  exact ⟨b,h1,by rw [h2];exact p⟩
 ·rintro ⟨b,h,p⟩
  exact ⟨_,_,by rw [e,h];rfl,p⟩
theorem ML {α:Type} {c:Prop} [Decidable c] {z:α×T} {Q:α→T→Prop} {m:M α} (e:m t=if c then some z else none):W m t Q↔c∧Q z.1 z.2:=by
 constructor
 ·rintro ⟨a,t',e',p⟩
  rw [e] at e'
  split at e'
  ·cases e';exact ⟨by assumption,p⟩
  ·cases e'
 ·rintro ⟨h,p⟩
  exact ⟨_,_,by rw [e,if_pos h],p⟩
theorem ND {α β:Type} {o:Option β} (f:β→α) {Q:α→T→Prop} {m:M α} (e:m t=o.map fun b=>(f b,t)):W m t Q↔∃b,o=some b∧Q (f b) t:=Ic (g:=fun b=>(f b,t)) e
theorem G2 {α:Type} {c:Prop} [Decidable c] {a:α} {Q:α→T→Prop} {m:M α} (e:m t=if c then some (a,t) else none):W m t Q↔c∧Q a t:=ML (z:=(a,t)) e
@[simp] theorem W_ix_tup {ds:List D} {i:Int}:W (ixD (.tup ds) (.int i)) t P↔∃d,atI ds i=some d∧P d t:=ND id rfl
@[simp] theorem W_ix_lst {ds:List D} {i:Int}:W (ixD (.lst ds) (.int i)) t P↔∃d,atI ds i=some d∧P d t:=ND id rfl
@[simp] theorem W_ix_str {x:Str} {i:Int}:W (ixD (.str x) (.int i)) t P↔x.length≤LIM∧∃n,atI x.cps.toList i=some n∧P (.str ⟨#[n]⟩) t:=by
 by_cases h:x.length≤LIM
 ·have:ixD (.str x) (.int i) t=(atI x.cps.toList i).map fun n=>(.str ⟨#[n]⟩,t):=by simp only [ixD,h,if_true]
  rw [Ic this];simp [h]
 ·rw [Dt (by simp only [ixD,h,if_false])];simp [h]
@[simp] theorem W_ix_obj {k:Nat} {i:Int}:W (ixD (.obj k) (.int i)) t P↔∃ds,t.S[k]?=some (.lst ds)∧∃d,atI ds i=some d∧P d t:=by
 cases e:t.S[k]? with
 | none=>rw [Dt (by simp only [ixD,e])];simp
 | some o=>
   cases o with
   | dct _=>rw [Dt (by simp only [ixD,e])];simp
   | lst ds=>
     have:ixD (.obj k) (.int i) t=(atI ds i).map fun d=>(d,t):=by simp only [ixD,e]
     rw [Ic this];simp
@[simp] theorem MN {α:Type} {a:α} {r:List α}:atI (a :: r) 0=some a:=by simp [atI,ixN]
@[simp] theorem P8 {α:Type} {a b:α} {r:List α}:atI (a :: b :: r) 1=some b:=by
 have:(1:Int) < ((a :: b :: r).length:Nat):=by simp;lia
 simp only [atI,ixN,this,if_true,show (0:Int)≤1 by decide];rfl
@[simp] theorem P9 {α:Type} {a b c:α} {r:List α}:atI (a :: b :: c :: r) 2=some c:=by
 have:(2:Int) < ((a :: b :: c :: r).length:Nat):=by simp;lia
 simp only [atI,ixN,this,if_true,show (0:Int)≤2 by decide];rfl
theorem FL {α:Type} {xs:List α} {i:Int} (h0:0≤i) (h1:i < xs.length):∃d,atI xs i=some d∧d∈xs∧xs[i.toNat]?=some d:=by
 have hl:i.toNat < xs.length:=by lia
 refine ⟨xs[i.toNat],?_,List.getElem_mem hl,List.getElem?_eq_getElem hl⟩
 simp [atI,ixN,h0,h1,hl]
@[simp] theorem W_len_lst {ds:List D}:W (BH [.lst ds]) t P↔P (.int ds.length) t:=AO rfl
@[simp] theorem W_len_tup {ds:List D}:W (BH [.tup ds]) t P↔P (.int ds.length) t:=AO rfl
@[simp] theorem W_len_scr {ds:List Int}:W (BH [.scr ds]) t P↔P (.int ds.length) t:=AO rfl
@[simp] theorem W_len_str {x:Str}:W (BH [.str x]) t P↔x.length≤LIM∧P (.int x.length) t:=by simp [BH]
@[simp] theorem W_len_obj {k:Nat}:W (BH [.obj k]) t P↔∃ds,t.S[k]?=some (.lst ds)∧P (.int ds.length) t:=by
 cases e:t.S[k]? with
 | none=>rw [Dt (by simp only [BH,e])];simp
 | some o=>
   cases o with
   | dct _=>rw [Dt (by simp only [BH,e])];simp
   | lst ds=>rw [AO (a:=.int ds.length) (t':=t) (by simp only [BH,e])];simp
@[simp] theorem W_isi {d:D} {m:String}:W (C9 [d,.ty m]) t P↔∃n,tyD d=some n∧∃b,Jf n m=some b∧P (.bl b) t:=by
 cases e:tyD d with
 | none=>rw [Dt (by simp only [C9,e])];simp
 | some n=>
   have:C9 [d,.ty m] t=(Jf n m).map fun b=>(.bl b,t):=by simp only [C9,e]
   rw [Ic this];simp
def G8:D→Bool
 | .non=>true
 | _=>false
def VD (b:Bool):D→Bool
 | .bl c=>c == b
 | _=>false
@[simp] theorem W_is_non {x:D}:W (isC x .non) t P↔P (.bl (G8 x)) t:=AO (by cases x <;> rfl)
@[simp] theorem Wo {x:D} {b:Bool}:W (isC x (.bl b)) t P↔P (.bl (VD b x)) t:=AO (by cases x <;> rfl)
@[simp] theorem W_isNot {x y:D}:W (GK x y) t P↔W (isC x y) t fun d t1=>W (toB d) t1 fun b t2=>P (.bl (!b)) t2:=by
 unfold GK
 rw [W_bnd]
 constructor
 ·exact fun h=>h.mono fun d t1 h1=>by
   cases d with
   | bl b=>simpa using h1
   | _=>exact (W_fail.mp h1).elim
 ·exact fun h=>h.mono fun d t1 h1=>by
   cases d with
   | bl b=>simpa using h1
   | _=>obtain ⟨_,_,e,_⟩:=h1;cases e
@[simp] theorem W_add_int {i j:Int}:W (AQ (.int i) (.int j)) t P↔P (.int (i + j)) t:=AO rfl
@[simp] theorem W_sub_int {i j:Int}:W (BU (.int i) (.int j)) t P↔P (.int (i - j)) t:=AO rfl
@[simp] theorem W_lt_int {i j:Int}:W (ltA (.int i) (.int j)) t P↔P (.bl (decide (i < j))) t:=AO rfl
@[simp] theorem W_le_int {i j:Int}:W (leA (.int i) (.int j)) t P↔P (.bl (decide (i≤j))) t:=AO rfl
@[simp] theorem W_gt_int {i j:Int}:W (gtA (.int i) (.int j)) t P↔P (.bl (decide (j < i))) t:=AO rfl
@[simp] theorem W_ge_int {i j:Int}:W (geA (.int i) (.int j)) t P↔P (.bl (decide (j≤i))) t:=AO rfl
@[simp] theorem Vo {i j:Str}:W (ltA (.str i) (.str j)) t P↔P (.bl (decide (i.cps.toList < j.cps.toList))) t:=AO rfl
@[simp] theorem Vm {i j:Str}:W (gtA (.str i) (.str j)) t P↔P (.bl (decide (j.cps.toList < i.cps.toList))) t:=AO rfl
@[simp] theorem W_neg {i:Int}:W (M6 (.int i)) t P↔P (.int (-i)) t:=AO rfl
@[simp] theorem W_fdiv {i j:Int}:W (Do (.int i) (.int j)) t P↔(0 < j∧j < 1073741824)∧P (.int (i / j)) t:=by
 rw [ML (m:=Do (.int i) (.int j)) (c:=Kt i j=true) (z:=(.int (i / j),t)) rfl];simp [Kt]
@[simp] theorem W_mod {i j:Int}:W (Dl (.int i) (.int j)) t P↔0 < j∧P (.int (i % j)) t:=by
 rw [ML (m:=Dl (.int i) (.int j)) (c:=decide (0 < j)=true) (z:=(.int (i % j),t)) rfl];simp
@[simp] theorem W_pow {i j:Int}:W (DL (.int i) (.int j)) t P↔Kv i j=true∧P (.int (i ^ j.toNat)) t:=G2 rfl
@[simp] theorem W_mul_int {i j:Int}:W (Da (.int i) (.int j)) t P↔E3 i j=true∧P (.int (i * j)) t:=G2 rfl
@[simp] theorem W_mul_lst {xs:List D} {k:Int}:W (Da (.lst xs) (.int k)) t P↔(Ck k=true∧xs.length * k.toNat≤LIM)∧P (.lst (List.replicate k.toNat xs).flatten) t:=G2 rfl
theorem FT {i j:Int} (h1 : -18446744073709551616 < i) (h2:i < 18446744073709551616):E3 i j=true:=by simp [E3,h1,h2]
theorem D8 {i j:Int} (h1 : -18446744073709551616 < j) (h2:j < 18446744073709551616):E3 i j=true:=by simp [E3,h1,h2]
theorem BR {k:Int} (h1 : -4611686018427387904≤k) (h2:k < 4611686018427387904):Ck k=true:=by simp [Ck,h1,h2]
@[simp] theorem W_add_str {x y:Str}:W (AQ (.str x) (.str y)) t P↔x.length + y.length≤LIM∧P (.str (x++y)) t:=by
 have:AQ (.str x) (.str y)=lim (x.length + y.length) (.str (x++y)):=rfl
 rw [this];simp
@[simp] theorem W_add_lst {x y:List D}:W (AQ (.lst x) (.lst y)) t P↔x.length + y.length≤LIM∧P (.lst (x++y)) t:=by
 have:AQ (.lst x) (.lst y)=lim (x.length + y.length) (.lst (x++y)):=rfl
 rw [this];simp
@[simp] theorem Vh {d:D} {x y:List D}:W (AQ (.tup (d :: x)) (.tup y)) t P↔x.length + 1 + y.length≤LIM∧P (.tup (d :: x++y)) t:=by
 have:AQ (.tup (d :: x)) (.tup y) t=if (d :: x).isEmpty=false∧(d :: x).length + y.length≤LIM then some (.tup (d :: x++y),t) else none:=rfl
 rw [ML this];simp
@[simp] theorem Ub {y:List D}:W (AQ (.tup []) (.tup y)) t P↔P (.tup y) t:=AO rfl
@[simp] theorem W_cat {x y:List D} {Q:List D→T→Prop}:W (KS (.lst x) (.lst y)) t Q↔x.length + y.length≤LIM∧Q (x++y) t:=by
 have:KS (.lst x) (.lst y)=lim (x.length + y.length) (x++y):=rfl
 rw [this];simp
@[simp] theorem W_abs {i:Int}:W (KG [.int i]) t P↔P (.int (if i < 0 then -i else i)) t:=AO rfl
@[simp] theorem W_min {i j:Int}:W (Jj [.int i,.int j]) t P↔P (.int (if j < i then j else i)) t:=AO rfl
@[simp] theorem W_max {i j:Int}:W (HD [.int i,.int j]) t P↔P (.int (if j > i then j else i)) t:=AO rfl
@[simp] theorem Vi {i:Int}:W (Hz [.int i]) t P↔P (.int i) t:=AO rfl
@[simp] theorem W_int_bl {b:Bool}:W (Hz [.bl b]) t P↔P (.int (if b then 1 else 0)) t:=AO rfl
@[simp] theorem W_ord {x:Str}:W (Lm [.str x]) t P↔x.length=1∧P (.int (x.cps.getD 0 0:Nat)) t:=G2 rfl
@[simp] theorem W_tup_lst {ds:List D}:W (JC [.lst ds]) t P↔P (.tup ds) t:=AO rfl
@[simp] theorem W_lst_lst {ds:List D} {Q:List D→T→Prop}:W (Gj [.lst ds]) t Q↔Q ds t:=AO rfl
@[simp] theorem W_lst_tup {ds:List D} {Q:List D→T→Prop}:W (Gj [.tup ds]) t Q↔Q ds t:=AO rfl
@[simp] theorem W_eq_str {g:Bool→Bool} {x y:Str}:W (eqS g (.str x) (.str y)) t P↔P (.bl (g (x == y))) t:=AO rfl
@[simp] theorem W_eq_int {g:Bool→Bool} {x y:Int}:W (eqS g (.int x) (.int y)) t P↔P (.bl (g (x == y))) t:=AO rfl
@[simp] theorem W_eq_bl {g:Bool→Bool} {x y:Bool}:W (eqS g (.bl x) (.bl y)) t P↔P (.bl (g (x == y))) t:=AO rfl
@[simp] theorem Vl {g:Bool→Bool} {x:List D}:W (eqS g (.lst x) (.lst [])) t P↔P (.bl (g x.isEmpty)) t:=by
 refine AO ?_
 cases x <;> rfl
@[simp] theorem KD {g:Bool→Bool} {k:Nat} {ds:List D} (h:t.S[k]?=some (.lst ds)) (hp:GT ds=true):W (eqS g (.obj k) (.lst [])) t P↔P (.bl (g ds.isEmpty)) t:=by
 refine AO ?_
 have e1:EB t.S (.obj k) = .lst ds:=by simp only [EB,h]
 have e2:EB t.S (.lst []) = .lst []:=rfl
 unfold eqS
 rw [e1,e2]
 simp only [M0,Bool.true_or,if_true,Db,hp,Bool.true_and]
 cases ds <;> rfl
@[simp] theorem W_sl_lst {ds:List D} {lo hi:Option Int}:W (Cv (.lst ds) lo hi) t P↔P (.lst (BG ds lo hi)) t:=AO rfl
@[simp] theorem W_sl_scr {ds:List Int} {lo hi:Option Int}:W (Cv (.scr ds) lo hi) t P↔P (.lst ((BG ds lo hi).map .int)) t:=AO rfl
@[simp] theorem Vp {x:Str} {lo hi:Option Int}:W (Cv (.str x) lo hi) t P↔x.length≤LIM∧P (.str (Txt.slice x lo hi)) t:=by
 have:Cv (.str x) lo hi=lim x.length (.str (Txt.slice x lo hi)):=rfl
 rw [this];simp
@[simp] theorem Vq {ds:List D} {lo hi:Option Int}:W (Cv (.tup ds) lo hi) t P↔P (.tup (BG ds lo hi)) t:=AO rfl
@[simp] theorem W_fSl {f:M D} {l u:M (Option Int)} {h:D→Option Int→Option Int→M D}:W (fSl f l u h) t P↔W f t fun x t1=>W l t1 fun lo t2=>W u t2 fun hi t3=>W (h x lo hi) t3 P:=by simp [fSl]
@[simp] theorem W_fNo {Q:Option Int→T→Prop}:W fNo t Q↔Q none t:=AO rfl
@[simp] theorem W_asI {i:Int} {Q:Option Int→T→Prop}:W (asI (.int i)) t Q↔Q (some i) t:=AO rfl
@[simp] theorem W_fPart {f:M D} {Q:Option Int→T→Prop}:W (Ci f) t Q↔W f t fun x t1=>W (asI x) t1 Q:=by simp [Ci]
@[simp] theorem W_fItA {f:M D} {Q:List D→T→Prop}:W (EX f) t Q↔W f t fun x t1=>W (DP x) t1 Q:=by simp [EX]
@[simp] theorem W_it_lst {ds:List D} {Q:List D→T→Prop}:W (DP (.lst ds)) t Q↔Q ds t:=AO rfl
@[simp] theorem W_it_tup {ds:List D} {Q:List D→T→Prop}:W (DP (.tup ds)) t Q↔Q ds t:=AO rfl
@[simp] theorem Vn {ds:List Int} {Q:List D→T→Prop}:W (DP (.scr ds)) t Q↔Q (ds.map .int) t:=AO rfl
@[simp] theorem W_it_str {x:Str} {Q:List D→T→Prop}:W (DP (.str x)) t Q↔Q (x.cps.toList.map fun c=>.str ⟨#[c]⟩) t:=AO rfl
@[simp] theorem W_fRng1 {f:M (List D)} {Q:List D→T→Prop}:W (Ct f) t Q↔W f t fun x t1=>W (Js x) t1 Q:=by simp [Ct]
@[simp] theorem W_fRng2 {f:M (List D)} {Q:List D→T→Prop}:W (G3 f) t Q↔W f t fun x t1=>W (Jt x) t1 Q:=by simp [G3]
@[simp] theorem W_rng1 {j:Int} {Q:List D→T→Prop}:W (Js [.int j]) t Q↔Ck j=true∧Q (BT 0 j.toNat) t:=G2 rfl
@[simp] theorem W_rng2 {i j:Int} {Q:List D→T→Prop}:W (Jt [.int i,.int j]) t Q↔(Ck i && Ck j)=true∧Q (BT i (j - i).toNat) t:=G2 rfl
@[simp] theorem W_ownM {i:Nat} {h:List D→List D→Option (List D)} {g:M (List D)} {Q:Out→T→Prop}:W (ownM i h g) t Q↔(∃xs,t.env[i]?=some (some (.own xs)))∧W g t fun ds t1=>∃xs,t1.env[i]?=some (some (.own xs))∧∃ys,h xs ds=some ys∧Q .next ⟨t1.env.set i (some (.own ys)),t1.S⟩:=by
 constructor
 ·rintro ⟨o,t',e,p⟩
  unfold ownM at e
  split at e
  ·next xs e0=>
   refine ⟨⟨xs,e0⟩,?_⟩
   obtain ⟨ds,t1,e1,e⟩:=Ap e
   refine ⟨ds,t1,e1,?_⟩
   split at e
   ·next ys e2=>
    obtain ⟨zs,e3,e4⟩:=Option.map_eq_some_iff.mp e
    cases e4
    exact ⟨ys,e2,zs,e3,p⟩
   ·cases e
  ·cases e
 ·rintro ⟨⟨xs,e0⟩,ds,t1,e1,ys,e2,zs,e3,p⟩
  exact ⟨_,_,by unfold ownM bnd;simp only [e0,e1,e2,e3,Option.map_some],p⟩
@[simp] theorem app1_one {xs:List D} {d:D} {ys:List D}:F6 xs [d]=some ys↔xs.length < LIM∧xs++[d]=ys:=by
 unfold F6;split <;> simp [*]
@[simp] theorem W_stD {f g:M D} {d:D} {Q:Unit→T→Prop}:W (stD f g d) t Q↔W f t fun o t1=>W g t1 fun i t2=>W (FH o i d) t2 Q:=by simp [stD]
@[simp] theorem W_stOb {k:Nat} {j:Int} {d:D} {Q:Unit→T→Prop}:W (FH (.obj k) (.int j) d) t Q↔∃xs,t.S[k]?=some (.lst xs)∧∃n,ixN xs.length j=some n∧Q () ⟨t.env,t.S.set k (.lst (xs.set n d))⟩:=by
 cases e:t.S[k]? with
 | none=>rw [Dt (by simp only [FH,e])];simp
 | some o=>
   cases o with
   | dct _=>rw [Dt (by simp only [FH,e])];simp
   | lst ds=>
     have:FH (.obj k) (.int j) d t=(ixN ds.length j).map fun n=>((),{ t with S:=t.S.set k (.lst (ds.set n d)) }):=by simp only [FH,e]
     rw [Ic this];simp
end F2
namespace F2
open PySem L2
variable {t:T} {P:D→T→Prop} {Q:List D→T→Prop} {R:Out→T→Prop} {B:Bool→T→Prop} {U:Unit→T→Prop}
def FG (k:Bool) (A B:Prop):Prop:=if k=true then A else B
theorem DK {k:Bool} {A B:Prop} (h:k=true) (a:A):FG k A B:=by unfold FG;rw [if_pos h];exact a
theorem CL {k:Bool} {A B:Prop} (h:k=false) (b:B):FG k A B:=by unfold FG;rw [if_neg (by rw [h];exact Bool.false_ne_true)];exact b
theorem EG {k:Bool} {A B:Prop} (a:k=true→A) (b:k=false→B):FG k A B:=by cases h:k with
 | true=>exact DK rfl (a h)
 | false=>exact CL rfl (b h)
def PC (g:M Out) (R:Out→T→Prop) (o:Out) (t1:T):Prop:=match o with
 | .next=>W g t1 R
 | o=>R o t1
theorem C6 {g:M Out} {t1:T} (h:W g t1 R):PC g R .next t1:=h
theorem PD {g:M Out} {t1:T} {d:D} (h:R (.ret d) t1):PC g R (.ret d) t1:=h
theorem LQ {f g:M Out} (h:W f t (PC g R)):W (Ar f g) t R:=W_seqS.mpr (h.mono fun o t1 h1=>by cases o <;> exact h1)
theorem U9 (h:R .next t):W AR t R:=W_skipS.mpr h
theorem PZ {f:M D} (h:W f t fun d t1=>R (.ret d) t1):W (A3 f) t R:=W_retS.mpr h
theorem wIf {f:M Bool} {g h:M Out} (w:W f t fun k t1=>FG k (W g t1 R) (W h t1 R)):W (ifS f g h) t R:=W_ifS.mpr w
theorem P0 {i:Nat} {f:M D} (h:W f t fun d t1=>R .next ⟨t1.env.set i (some (.val d)),t1.S⟩):W (A6 i f) t R:=W_setS.mpr h
theorem We {i:Nat} {f:M (List D)} (h:W f t fun d t1=>R .next ⟨t1.env.set i (some (.own d)),t1.S⟩):W (Ey i f) t R:=W_ownS.mpr h
theorem VT {f:M D} {g:D→M Unit} (h:W f t fun d t1=>W (g d) t1 fun _ t2=>R .next t2):W (Ed f g) t R:=W_asgS.mpr h
theorem VW {f:M (List D)} {st:D→M Unit} {b:M Out} (h:W f t fun ds t1=>W (Dk st b ds) t1 R):W (Dy f st b) t R:=W_forS.mpr h
theorem wC {d:D} (h:P d t):W (fC d) t P:=W_fC.mpr h
theorem D6 {i:Nat} {d:D} (e:t.env[i]?=some (some (.val d))) (h:P d t):W (Ad i) t P:=by rw [NC,e];exact h
theorem Vd {i:Nat} {ds:List D} (e:t.env[i]?=some (some (.own ds))) (h:P (.lst ds) ⟨t.env.set i (some (.val (.lst ds))),t.S⟩):W (Ad i) t P:=by rw [NC,e];exact h
theorem JD {f g:M D} {h:D→D→M D} (w:W f t fun x t1=>W g t1 fun y t2=>W (h x y) t2 P):W (Ah f g h) t P:=W_fBin.mpr w
theorem wUn {f:M D} {h:D→M D} (w:W f t fun x t1=>W (h x) t1 P):W (fUn f h) t P:=W_fUn.mpr w
theorem Gs {α β:Type} {f:M α} {g:α→M β} {K:β→T→Prop} (w:W f t fun x t1=>W (g x) t1 K):W (bnd f g) t K:=W_bnd.mpr w
theorem Nu {b:Bool} (h:B b t):W (toB (.bl b)) t B:=W_toB.mpr h
theorem Nv {f:M D} (h:W f t fun x t1=>W (toB x) t1 B):W (AK f) t B:=W_fTst.mpr h
theorem TX {f g w:M D} {h h':D→D→M D} (q:W f t fun x t1=>W g t1 fun y t2=>W (h x y) t2 fun k t3=>W (toB k) t3 fun k t4=>FG k (W w t4 fun z t5=>W (h' y z) t5 P) (P (.bl false) t4)):W (FN f g w h h') t P:=W_fChain.mpr q
theorem VR {f g:M Bool} (h:W f t fun k t1=>FG k (W g t1 B) (B false t1)):W (K1 f g) t B:=W_fAnd.mpr h
theorem wOr {f g:M Bool} (h:W f t fun k t1=>FG k (B true t1) (W g t1 B)):W (fOr f g) t B:=W_fOr.mpr h
theorem Wc {f:M Bool} (h:W f t fun k t1=>B (!k) t1):W (Ga f) t B:=W_fNot.mpr h
theorem UN {f g:M D} (h:W f t fun x t1=>W (toB x) t1 fun k t2=>FG k (W g t2 P) (P (.bl false) t2)):W (F9 f g) t P:=W_fAndV.mpr h
theorem U3 {f:M D} (h:W f t fun x t1=>W (toB x) t1 fun k t2=>P (.bl (!k)) t2):W (Iq f) t P:=W_fNotV.mpr h
theorem Ft (h:Q [] t):W Aj t Q:=W_fNil.mpr h
theorem Dd {f:M D} {g:M (List D)} (h:W f t fun d t1=>W g t1 fun ds t2=>Q (d :: ds) t2):W (Ac f g) t Q:=W_fCons.mpr h
def GL (n:Nat) (A:Prop):Prop:=n≤LIM∧A
theorem BQ {n:Nat} {A:Prop} (h:n≤LIM) (a:A):GL n A:=⟨h,a⟩
theorem Wk {f:M (List D)} (h:W f t fun ds t1=>GL ds.length (P (.tup ds) t1)):W (CK f) t P:=W_fTup.mpr h
theorem V8 {f:M (List D)} (h:W f t fun ds t1=>GL ds.length (Q ds t1)):W (Bi f) t Q:=W_fLst.mpr h
theorem U5 {f:M (List D)} (h:W f t fun ds t1=>P (.lst ds) t1):W (Bb f) t P:=W_fPure.mpr h
theorem PX {f:M (List D)} (h:W f t fun ds t1=>P (.obj t1.S.length) ⟨t1.env,t1.S++[.lst ds]⟩):W (Fj f) t P:=by rw [Sd];exact h.mono fun ds t1 h=>W_newOb.mpr h
theorem Hi {g:Fn} {f:M (List D)} (h:W f t fun ds t1=>Wf g ds t1.S fun r S'=>P r ⟨t1.env,S'⟩):W (Av g f) t P:=W_fCall.mpr h
theorem wB {f:M (List D)} {h:List D→M D} (w:W f t fun ds t1=>W (h ds) t1 P):W (fB f h) t P:=W_fB.mpr w
theorem wBF {f:M (List D)} {h:List D→M (List D)} (w:W f t fun ds t1=>W (h ds) t1 Q):W (fBF f h) t Q:=W_fBF.mpr w
theorem GX {i:Nat} {d:D} (h:U () ⟨t.env.set i (some (.val d)),t.S⟩):W (BL i d) t U:=W_putV.mpr h
theorem RV (h:U () t):W (GU []) t U:=W_putNil.mpr h
theorem PY {f:D→M Unit} {g:List D→M Unit} {d:D} {ds:List D} (h:W (f d) t fun _ t1=>W (g ds) t1 U):W (DF f g (d :: ds)) t U:=W_putCons.mpr h
theorem Wl {n:Nat} {g:List D→M Unit} {ds:List D} (e:ds.length=n) (h:W (g ds) t U):W (unS n g (.tup ds)) t U:=W_unS_tup.mpr ⟨e,h⟩
theorem US {n:Nat} {fr:List Nat} {f:M (List D)} {st:D→M Unit} {tst:M Bool} {elt:M D} (h:W f t fun ds t1=>W (BW st tst elt ds) ⟨cenv n fr t1.env,t1.S⟩ fun xs t'=>GL xs.length (Q xs ⟨t1.env,t'.S⟩)):W (Ch n fr f st tst elt) t Q:=W_fComp.mpr h
theorem GY (h:B true t):W Dc t B:=W_tTru.mpr h
theorem HV {ds:List D} {i:Int} {d:D} (e:atI ds i=some d) (h:P d t):W (ixD (.tup ds) (.int i)) t P:=W_ix_tup.mpr ⟨d,e,h⟩
theorem B8 {ds:List D} {i:Int} {d:D} (e:atI ds i=some d) (h:P d t):W (ixD (.lst ds) (.int i)) t P:=W_ix_lst.mpr ⟨d,e,h⟩
theorem Cw {k:Nat} {ds:List D} {i:Int} {d:D} (e0:t.S[k]?=some (.lst ds)) (e:atI ds i=some d) (h:P d t):W (ixD (.obj k) (.int i)) t P:=W_ix_obj.mpr ⟨ds,e0,d,e,h⟩
theorem Qu {ds:List D} (h:P (.int ds.length) t):W (BH [.lst ds]) t P:=W_len_lst.mpr h
theorem UZ {ds:List D} (h:P (.int ds.length) t):W (BH [.tup ds]) t P:=W_len_tup.mpr h
theorem Qv {ds:List Int} (h:P (.int ds.length) t):W (BH [.scr ds]) t P:=W_len_scr.mpr h
theorem UW {k:Nat} {ds:List D} (e:t.S[k]?=some (.lst ds)) (h:P (.int ds.length) t):W (BH [.obj k]) t P:=W_len_obj.mpr ⟨ds,e,h⟩
theorem UY {x:Str} (e:x.length≤LIM) (h:P (.int x.length) t):W (BH [.str x]) t P:=W_len_str.mpr ⟨e,h⟩
theorem V2 {d:D} {m n:String} {b:Bool} (e:tyD d=some n) (e':Jf n m=some b) (h:P (.bl b) t):W (C9 [d,.ty m]) t P:=W_isi.mpr ⟨n,e,b,e',h⟩
theorem V1 {x:D} (h:P (.bl (G8 x)) t):W (isC x .non) t P:=W_is_non.mpr h
theorem TZ {x y:D} (h:W (isC x y) t fun d t1=>W (toB d) t1 fun b t2=>P (.bl (!b)) t2):W (GK x y) t P:=W_isNot.mpr h
theorem UK {i j:Int} (h:P (.int (i + j)) t):W (AQ (.int i) (.int j)) t P:=W_add_int.mpr h
theorem Va {i j:Int} (h:P (.int (i - j)) t):W (BU (.int i) (.int j)) t P:=W_sub_int.mpr h
theorem V9 {i j:Int} (h:P (.bl (decide (i < j))) t):W (ltA (.int i) (.int j)) t P:=W_lt_int.mpr h
theorem V7 {i j:Int} (h:P (.bl (decide (i≤j))) t):W (leA (.int i) (.int j)) t P:=W_le_int.mpr h
theorem VY {i j:Int} (h:P (.bl (decide (j < i))) t):W (gtA (.int i) (.int j)) t P:=W_gt_int.mpr h
theorem VX {i j:Int} (h:P (.bl (decide (j≤i))) t):W (geA (.int i) (.int j)) t P:=W_ge_int.mpr h
theorem Wb {i:Int} (h:P (.int (-i)) t):W (M6 (.int i)) t P:=W_neg.mpr h
theorem PU {i j:Int} (h1:0 < j) (h2:j < 1073741824) (h:P (.int (i / j)) t):W (Do (.int i) (.int j)) t P:=W_fdiv.mpr ⟨⟨h1,h2⟩,h⟩
theorem JE {i j:Int} (h1:0 < j) (h:P (.int (i % j)) t):W (Dl (.int i) (.int j)) t P:=W_mod.mpr ⟨h1,h⟩
theorem Wg {i j:Int} (h1:Kv i j=true) (h:P (.int (i ^ j.toNat)) t):W (DL (.int i) (.int j)) t P:=W_pow.mpr ⟨h1,h⟩
theorem DI {i j:Int} (h1:E3 i j=true) (h:P (.int (i * j)) t):W (Da (.int i) (.int j)) t P:=W_mul_int.mpr ⟨h1,h⟩
theorem U2 {xs:List D} {k:Int} (h1:Ck k=true∧xs.length * k.toNat≤LIM) (h:P (.lst (List.replicate k.toNat xs).flatten) t):W (Da (.lst xs) (.int k)) t P:=W_mul_lst.mpr ⟨h1,h⟩
theorem UM {x y:Str} (h:GL (x.length + y.length) (P (.str (x++y)) t)):W (AQ (.str x) (.str y)) t P:=W_add_str.mpr h
theorem UL {x y:List D} (h:GL (x.length + y.length) (P (.lst (x++y)) t)):W (AQ (.lst x) (.lst y)) t P:=W_add_lst.mpr h
theorem VU {x y:List D} (h:GL (x.length + y.length) (Q (x++y) t)):W (KS (.lst x) (.lst y)) t Q:=W_cat.mpr h
theorem VQ {i:Int} (h:P (.int (if i < 0 then -i else i)) t):W (KG [.int i]) t P:=W_abs.mpr h
theorem T0 {i j:Int} (h:P (.int (if j < i then j else i)) t):W (Jj [.int i,.int j]) t P:=W_min.mpr h
theorem Wa {i j:Int} (h:P (.int (if j > i then j else i)) t):W (HD [.int i,.int j]) t P:=W_max.mpr h
theorem UT {i:Bool} (h:P (.int (if i then 1 else 0)) t):W (Hz [.bl i]) t P:=W_int_bl.mpr h
theorem Wd {x:Str} (e:x.length=1) (h:P (.int (x.cps.getD 0 0:Nat)) t):W (Lm [.str x]) t P:=W_ord.mpr ⟨e,h⟩
theorem Vb {ds:List D} (h:P (.tup ds) t):W (JC [.lst ds]) t P:=W_tup_lst.mpr h
theorem Nr {ds:List D} (h:Q ds t):W (Gj [.lst ds]) t Q:=W_lst_lst.mpr h
theorem U0 {ds:List D} (h:Q ds t):W (Gj [.tup ds]) t Q:=W_lst_tup.mpr h
theorem PV {g:Bool→Bool} {x y:Str} (h:P (.bl (g (x == y))) t):W (eqS g (.str x) (.str y)) t P:=W_eq_str.mpr h
theorem TY {g:Bool→Bool} {x y:Int} (h:P (.bl (g (x == y))) t):W (eqS g (.int x) (.int y)) t P:=W_eq_int.mpr h
theorem VV {g:Bool→Bool} {x y:Bool} (h:P (.bl (g (x == y))) t):W (eqS g (.bl x) (.bl y)) t P:=W_eq_bl.mpr h
theorem T2 {ds:List D} {lo hi:Option Int} (h:P (.lst (BG ds lo hi)) t):W (Cv (.lst ds) lo hi) t P:=W_sl_lst.mpr h
theorem T3 {ds:List Int} {lo hi:Option Int} (h:P (.lst ((BG ds lo hi).map .int)) t):W (Cv (.scr ds) lo hi) t P:=W_sl_scr.mpr h
theorem wSl {f:M D} {l u:M (Option Int)} {h:D→Option Int→Option Int→M D} (w:W f t fun x t1=>W l t1 fun lo t2=>W u t2 fun hi t3=>W (h x lo hi) t3 P):W (fSl f l u h) t P:=W_fSl.mpr w
theorem wNo {K:Option Int→T→Prop} (h:K none t):W fNo t K:=W_fNo.mpr h
theorem PR {i:Int} {K:Option Int→T→Prop} (h:K (some i) t):W (asI (.int i)) t K:=W_asI.mpr h
theorem Nt {f:M D} {K:Option Int→T→Prop} (h:W f t fun x t1=>W (asI x) t1 K):W (Ci f) t K:=W_fPart.mpr h
theorem V3 {f:M D} (h:W f t fun x t1=>W (DP x) t1 Q):W (EX f) t Q:=W_fItA.mpr h
theorem V4 {ds:List D} (h:Q ds t):W (DP (.lst ds)) t Q:=W_it_lst.mpr h
theorem V6 {ds:List D} (h:Q ds t):W (DP (.tup ds)) t Q:=W_it_tup.mpr h
theorem V5 {x:Str} (h:Q (x.cps.toList.map fun c=>.str ⟨#[c]⟩) t):W (DP (.str x)) t Q:=W_it_str.mpr h
theorem U6 {f:M (List D)} (h:W f t fun x t1=>W (Js x) t1 Q):W (Ct f) t Q:=W_fRng1.mpr h
theorem U7 {f:M (List D)} (h:W f t fun x t1=>W (Jt x) t1 Q):W (G3 f) t Q:=W_fRng2.mpr h
theorem EL {j:Int} (e:Ck j=true) (h:Q (BT 0 j.toNat) t):W (Js [.int j]) t Q:=W_rng1.mpr ⟨e,h⟩
theorem T1 {i j:Int} (e:(Ck i && Ck j)=true) (h:Q (BT i (j - i).toNat) t):W (Jt [.int i,.int j]) t Q:=W_rng2.mpr ⟨e,h⟩
theorem U4 {i:Nat} {xs:List D} {h:List D→List D→Option (List D)} {g:M (List D)} (e:t.env[i]?=some (some (.own xs))) (w:W g t fun ds t1=>∃xs,t1.env[i]?=some (some (.own xs))∧∃ys,h xs ds=some ys∧R .next ⟨t1.env.set i (some (.own ys)),t1.S⟩):W (ownM i h g) t R:=W_ownM.mpr ⟨⟨xs,e⟩,w⟩
theorem VS {i:Nat} {xs:List D} {d:D} {t1:T} {A:List D→Prop} (e:t1.env[i]?=some (some (.own xs))) (w:GL (xs.length + 1) (A (xs++[d]))):∃xs,t1.env[i]?=some (some (.own xs))∧∃ys,F6 xs [d]=some ys∧A ys:=
 ⟨xs,e,_,app1_one.mpr ⟨w.1,rfl⟩,w.2⟩
theorem Wi {f g:M D} {d:D} (h:W f t fun o t1=>W g t1 fun i t2=>W (FH o i d) t2 U):W (stD f g d) t U:=W_stD.mpr h
theorem Gu {k:Nat} {j:Int} {d:D} {xs:List D} {n:Nat} (e:t.S[k]?=some (.lst xs)) (e':ixN xs.length j=some n) (h:U () ⟨t.env,t.S.set k (.lst (xs.set n d))⟩):W (FH (.obj k) (.int j) d) t U:=W_stOb.mpr ⟨xs,e,n,e',h⟩
end F2
namespace F2
open PySem L2
section
variable {t:T} {P:D→T→Prop} {B:Bool→T→Prop} {Q:List D→T→Prop}
theorem Vc {i:Nat} {n:Int} {ds:List D} {d:D} (e:t.env[i]?=some (some (.val (.tup ds)))) (a:atI ds n=some d) (h:P d t):W (Ah (Ad i) (fC (.int n)) ixD) t P:=JD (D6 e (wC (HV a h)))
theorem UV {i:Nat} {x y:Str} {ds:List D} {g:Bool→Bool} (e:t.env[i]?=some (some (.val (.tup (.str y :: ds))))) (h:B (g (y == x)) t):W (AK (Ah (Ah (Ad i) (fC (.int 0)) ixD) (fC (.str x)) (eqS g))) t B:=Nv (JD (JD (D6 e (wC (HV MN (wC (PV (Nu h))))))))
theorem T5 {i:Nat} {x y:Str} {g:Bool→Bool} (e:t.env[i]?=some (some (.val (.str y)))) (h:B (g (y == x)) t):W (AK (Ah (Ad i) (fC (.str x)) (eqS g))) t B:=Nv (JD (D6 e (wC (PV (Nu h)))))
theorem T4 {i:Nat} {x y:Int} {g:Bool→Bool} (e:t.env[i]?=some (some (.val (.int y)))) (h:B (g (y == x)) t):W (AK (Ah (Ad i) (fC (.int x)) (eqS g))) t B:=Nv (JD (D6 e (wC (TY (Nu h)))))
theorem RN {g:Fn} {i:Nat} {d:D} (e:t.env[i]?=some (some (.val d))) (h:Wf g [d] t.S fun r S'=>P r ⟨t.env,S'⟩):W (Av g (Ac (Ad i) Aj)) t P:=Hi (Dd (D6 e (Ft h)))
theorem RP {g:Fn} {i j:Nat} {d d':D} (e:t.env[i]?=some (some (.val d))) (e':t.env[j]?=some (some (.val d'))) (h:Wf g [d,d'] t.S fun r S'=>P r ⟨t.env,S'⟩):W (Av g (Ac (Ad i) (Ac (Ad j) Aj))) t P:=Hi (Dd (D6 e (Dd (D6 e' (Ft h)))))
theorem RU {g:Fn} {i:Nat} {d d':D} (e:t.env[i]?=some (some (.val d))) (h:Wf g [d,d'] t.S fun r S'=>P r ⟨t.env,S'⟩):W (Av g (Ac (Ad i) (Ac (fC d') Aj))) t P:=Hi (Dd (D6 e (Dd (wC (Ft h)))))
theorem RQ {g:Fn} {i j k:Nat} {d d' d'':D} (e:t.env[i]?=some (some (.val d))) (e':t.env[j]?=some (some (.val d'))) (e'':t.env[k]?=some (some (.val d''))) (h:Wf g [d,d',d''] t.S fun r S'=>P r ⟨t.env,S'⟩):W (Av g (Ac (Ad i) (Ac (Ad j) (Ac (Ad k) Aj)))) t P:=Hi (Dd (D6 e (Dd (D6 e' (Dd (D6 e'' (Ft h)))))))
end
end F2
set_option maxHeartbeats 1000000
namespace LW
open PySem L2 F2
set_option compiler.extract_closed false
local macro_rules | `(tactic| walk_at "w1")=>`(tactic| first
 | ((with_reducible first | refine' UV ?wv ?_ | refine' T5 ?wv ?_ | refine' RN ?wv ?_);(case wv=>exact rfl))
 | ((with_reducible first | refine' T4 ?wv ?_ | refine' RU ?wv ?_);(case wv=>exact rfl))
 | ((with_reducible refine' Vc ?wv ?wu ?_);(case wv=>exact rfl);(case wu=>first | exact rfl | exact MN | exact P8 | exact P9))
 | ((with_reducible refine' RP ?wv ?wu ?_);(case wv=>exact rfl);(case wu=>exact rfl))
 | ((with_reducible refine' RQ ?wv ?wu ?wt ?_);(case wv=>exact rfl);(case wu=>exact rfl);(case wt=>exact rfl))
 | with_reducible (first | refine LQ ?_ | refine C6 ?_ | refine PD ?_ | refine P0 ?_ | refine JD ?_ | refine wC ?_ | refine Dd ?_ | refine Ft ?_ | refine wIf ?_ | refine Nv ?_ | refine Nu ?_ | refine PZ ?_ | refine Hi ?_ | refine PV ?_ | refine TY ?_ | refine VV ?_ | refine UK ?_ | refine Va ?_ | refine U9 ?_ | refine wB ?_ | refine wBF ?_ | refine U5 ?_ | refine Wk ?_ | refine V8 ?_ | refine PX ?_ | refine VT ?_ | refine VW ?_ | refine VR ?_ | refine wOr ?_ | refine Wc ?_ | refine UN ?_ | refine wOrV ?_ | refine U3 ?_ | refine wIfE ?_ | refine TX ?_ | refine wUn ?_ | refine Wb ?_ | refine V1 ?_ | refine wIsB ?_ | refine TZ ?_ | refine V9 ?_ | refine V7 ?_ | refine VY ?_ | refine VX ?_ | refine wLtS ?_ | refine wGtS ?_ | refine Qu ?_ | refine UZ ?_ | refine Qv ?_ | refine VQ ?_ | refine T0 ?_ | refine Wa ?_ | refine wInt ?_ | refine UT ?_ | refine Vb ?_ | refine Nr ?_ | refine U0 ?_ | refine UM ?_ | refine UL ?_ | refine wAddT ?_ | refine wAddT0 ?_ | refine VU ?_ | refine wEqNil ?_ | refine wSl ?_ | refine wNo ?_ | refine Nt ?_ | refine PR ?_ | refine T2 ?_ | refine T3 ?_ | refine wSlS ?_ | refine wSlT ?_ | refine V3 ?_ | refine V4 ?_ | refine V6 ?_ | refine wItR ?_ | refine V5 ?_ | refine U6 ?_ | refine U7 ?_ | refine GX ?_ | refine RV ?_ | refine PY ?_ | refine US ?_ | refine GY ?_ | refine wDic ?_ | refine We ?_ | refine Gs ?_ | refine wDrop ?_ | refine Wi ?_)
 | ((with_reducible first | refine' D6 ?wv ?_ | refine' DK ?wv ?_ | refine' wUnL ?wv ?_ | refine' U4 ?wv ?_ | refine' VS ?wv ?_);(case wv=>exact rfl))
 | ((with_reducible first | refine' CL ?wv ?_ | refine' Vd ?wv ?_ | refine' Wl ?wv ?_);(case wv=>exact rfl))
 | ((with_reducible first | refine' HV ?wv ?_ | refine' B8 ?wv ?_);(case wv=>first | exact rfl | exact MN | exact P8 | exact P9))
 | ((with_reducible refine BQ ?wv ?_);(case wv=>exact Nat.le_of_ble_eq_true rfl))
 | ((with_reducible refine' V2 ?wv ?wu ?_);(case wv=>exact rfl);(case wu=>exact rfl))
 | ((with_reducible refine PU ?wv ?wu ?_);(case wv=>decide);(case wu=>decide))
 | ((with_reducible first | refine' Wg ?wv ?_ | refine' JE ?wv ?_ | refine' EL ?wv ?_ | refine' T1 ?wv ?_);(case wv=>decide)))
local macro_rules | `(tactic| walk_at "w")=>`(tactic| repeat (walk_at "w1"))
structure DeckAt (k c:Nat) (S:List Ob):Prop where
 ne:k≠c
 at_:∃(cells:List Int) (par pos:Int),S[k]?=some (.lst [.obj c,.int par,.int pos])∧S[c]?=some (.lst (cells.map .int))∧cells≠[]∧0≤pos
def Keep (k c:Nat) (S S':List Ob):Prop:=S'.length=S.length∧∀j:Nat,j≠k→j≠c→S'[j]?=S[j]?
theorem Keep.refl {k c:Nat} {S:List Ob}:Keep k c S S:=⟨rfl,fun _ _ _=>rfl⟩
theorem Keep.trans {k c:Nat} {S S' S'':List Ob} (a:Keep k c S S') (b:Keep k c S' S''):Keep k c S S'':=⟨b.1.trans a.1,fun j h1 h2=>(b.2 j h1 h2).trans (a.2 j h1 h2)⟩
theorem Jg {n:Nat} {i:Int} (h0:0≤i) (h1:i < n):ixN n i=some i.toNat:=by simp [ixN,h0,h1]
theorem EF {S:List Ob} {k:Nat} {o o':Ob} (h:S[k]?=some o):(S.set k o')[k]?=some o':=by
 obtain ⟨hl,_⟩:=List.getElem?_eq_some_iff.mp h
 exact List.getElem?_set_self hl
theorem QI {k c:Nat} {S:List Ob} {many:Int} (h:0 < many) (hm:many < 1073741824) (d:DeckAt k c S) :
 Wf (fnOf 2 5 Dz) [.obj k,.int many] S fun r S'=>(∃i,r = .int i∧0≤i∧i < many)∧DeckAt k c S'∧Keep k c S S':=by
 obtain ⟨ne,cells,par,pos,e1,e2,hc,hp⟩:=d
 have hl:0 < cells.length:=List.length_pos_iff.mpr hc
 have hr0:0≤pos % (cells.length:Int):=Int.emod_nonneg _ (by lia)
 have hr1:pos % (cells.length:Int) < cells.length:=Int.emod_lt_of_pos _ (by lia)
 have g1:(S.set k (.lst [.obj c,.int par,.int (pos + 1)]))[k]?=some (.lst [.obj c,.int par,.int (pos + 1)]):=EF e1
 have g2:(S.set k (.lst [.obj c,.int par,.int (pos + 1)]))[c]?=some (.lst (cells.map .int)):=by rw [List.getElem?_set_ne ne];exact e2
 obtain ⟨x,hx,_,_⟩:=FL hr0 hr1
 have hx':atI (cells.map D.int) (pos % (cells.length:Int))=some (.int x):=by
  unfold atI at hx ⊢
  rw [List.length_map]
  obtain ⟨j,q1,q2⟩:=Option.bind_eq_some_iff.mp hx
  rw [q1]
  simp [q2]
 have kp:∀o,Keep k c S ((S.set k o).set c o):=fun o=>⟨by simp,fun j h1 h2=>by rw [List.getElem?_set_ne (Ne.symm h2),List.getElem?_set_ne (Ne.symm h1)]⟩
 refine Bh rfl ?_
 unfold Dz
 walk_at "w"
 refine Cw e1 (by rfl) ?_
 walk_at "w"
 refine Cw e1 (by rfl) ?_
 walk_at "w"
 refine UW e2 ?_
 refine JE (by simp only [List.length_map];lia) ?_
 rw [List.length_map]
 walk_at "w"
 refine Cw e1 (by rfl) ?_
 walk_at "w"
 refine Gu (n:=2) e1 (by rfl) ?_
 walk_at "w"
 refine Cw g1 (by rfl) ?_
 walk_at "w"
 refine EG (fun _=>?_) fun _=>?_
 ·walk_at "w"
  refine Cw g1 (by rfl) ?_
  walk_at "w"
  refine Cw g2 hx' ?_
  walk_at "w"
  refine JE h ?_
  walk_at "w"
  refine Cw g1 (by rfl) ?_
  walk_at "w"
  refine Cw g2 hx' ?_
  walk_at "w"
  refine PU h hm ?_
  walk_at "w"
  refine Cw g1 (by rfl) ?_
  walk_at "w"
  refine Gu g2 (Jg hr0 (by rw [List.length_map];exact hr1)) ?_
  walk_at "w"
  refine ⟨⟨_,rfl,Int.emod_nonneg _ (by lia),Int.emod_lt_of_pos _ h⟩,⟨ne,?_⟩,?_⟩
  ·refine ⟨cells.set (pos % (cells.length:Int)).toNat (x / many),par,pos + 1,?_,?_,?_,by lia⟩
   ·show ((S.set k _).set c _)[k]?=_
    rw [List.getElem?_set_ne (Ne.symm ne)];exact g1
   ·show ((S.set k _).set c _)[c]?=_
    exact (EF g2).trans (by rw [List.map_set])
   ·intro z
    have:=congrArg List.length z
    rw [List.length_set] at this
    exact absurd this (by simp;lia)
  ·exact ⟨by simp,fun j h1 h2=>by show ((S.set k _).set c _)[j]?=_;rw [List.getElem?_set_ne (Ne.symm h2),List.getElem?_set_ne (Ne.symm h1)]⟩
 ·walk_at "w"
  refine Cw g1 (by rfl) ?_
  walk_at "w"
  refine Cw g2 hx' ?_
  walk_at "w"
  refine DI (D8 (by decide) (by decide)) ?_
  walk_at "w"
  refine Cw g1 (by rfl) ?_
  walk_at "w"
  refine DI (D8 (by decide) (by decide)) ?_
  walk_at "w"
  refine DI (D8 (by have:=Int.emod_nonneg (x % 1000000021 * 6563 + (pos + 1) * 130363) (b:=1000000033) (by decide);lia) (by have:=Int.emod_lt_of_pos (x % 1000000021 * 6563 + (pos + 1) * 130363) (b:=1000000033) (by decide);lia)) ?_
  walk_at "w"
  refine DI (D8 (by decide) (by decide)) ?_
  walk_at "w"
  refine Cw g1 (by rfl) ?_
  walk_at "w"
  refine JE h ?_
  refine ⟨⟨_,rfl,Int.emod_nonneg _ (by lia),Int.emod_lt_of_pos _ h⟩,⟨ne,cells,par,pos + 1,g1,g2,hc,by lia⟩,⟨by simp,fun j h1 h2=>by show (S.set k _)[j]?=_;rw [List.getElem?_set_ne (Ne.symm h1)]⟩⟩
inductive Sh where
 | nothing | number (lo hi:Int) | text (m:Int) | list (s:Sh) (m:Int) | pair (s r:Sh) | choice (ss:List Sh)
mutual
def Sh.d:Sh→D
 | .nothing=>.tup [.str "nothing"]
 | .number lo hi=>.tup [.str "number",.int lo,.int hi]
 | .text m=>.tup [.str "text",.int m]
 | .list s m=>.tup [.str "list",s.d,.int m]
 | .pair s r=>.tup [.str "pair",s.d,r.d]
 | .choice ss=>.tup [.str "choice",.tup (shD ss)]
def shD:List Sh→List D
 | []=>[]
 | s :: r=>s.d :: shD r
end
mutual
def Sh.depth:Sh→Nat
 | .nothing=>1
 | .number _ _=>1
 | .text _=>1
 | .list s _=>s.depth + 1
 | .pair s r=>max s.depth r.depth + 1
 | .choice ss=>shDep ss + 1
def shDep:List Sh→Nat
 | []=>0
 | s :: r=>max s.depth (shDep r)
end
theorem EJ:∀ss:List Sh,(shD ss).length=ss.length
 | []=>rfl
 | s :: r=>by simp [shD,EJ r]
theorem FZ:∀(ss:List Sh) (k:Nat),(shD ss)[k]?=(ss[k]?).map Sh.d
 | [],k=>by simp [shD]
 | s :: r,0=>by simp [shD]
 | s :: r,k + 1=>by simp [shD,FZ r k]
theorem Cl:∀(ss:List Sh) (k:Nat) (s:Sh),ss[k]?=some s→s.depth≤shDep ss
 | [],k,s,h=>by simp at h
 | s :: r,0,s',h=>by simp at h;subst h;simp [shDep];lia
 | s :: r,k + 1,s',h=>by
   have:=Cl r k s' (by simpa using h)
   simp [shDep];lia
theorem Sh.depth_pos (s:Sh):1≤s.depth:=by cases s <;> simp [Sh.depth]
def BI (n:Nat):Bool:=decide (32≤n) && decide (n≤126) && decide (n≠37)
def O5:Str→Bool:=fun o=>o == ("of" : Str)
mutual
def Be:Sh→D→Bool
 | .nothing,d=>G8 d
 | .number lo hi,d=>match d with
   | .int i=>decide (lo≤i) && decide (i≤hi)
   | _=>false
 | .text m,d=>match d with
   | .str x=>decide ((x.length:Int)≤m) && x.cps.toList.all BI
   | _=>false
 | .list s m,d=>match d with
   | .lst ds=>decide ((ds.length:Int)≤m) && ds.all fun e=>Be s e
   | _=>false
 | .pair s r,d=>match d with
   | .tup [a,b]=>Be s a && Be r b
   | _=>false
 | .choice ss,d=>match d with
   | .tup [.str o,.int k,x]=>O5 o && (decide (0≤k) && decide (k < ss.length)) && Iw ss k.toNat x
   | _=>false
def Iw:List Sh→Nat→D→Bool
 | [],_,_=>false
 | s :: _,0,d=>Be s d
 | _ :: r,k + 1,d=>Iw r k d
end
theorem Dx:∀(ss:List Sh) (k:Nat) (s:Sh) (d:D),ss[k]?=some s→Iw ss k d=Be s d
 | [],k,s,d,h=>by simp at h
 | s :: r,0,s',d,h=>by simp at h;subst h;simp [Iw]
 | s :: r,k + 1,s',d,h=>by rw [Iw];exact Dx r k s' d (by simpa using h)
mutual
def okD:D→Bool
 | .str x=>decide (x.length≤90000)
 | .tup xs=>oks xs
 | .lst xs=>oks xs
 | .obj _=>false
 | .scr _=>false
 | .exc _ _=>false
 | .ty _=>false
 | _=>true
def oks:List D→Bool
 | []=>true
 | d :: r=>okD d && oks r
end
abbrev Pure1 (f:Fn) (ds:List D) (r:D):Prop:=∀S,Wf f ds S fun v S'=>v=r∧S'=S
theorem Pure1.use {f:Fn} {ds:List D} {r:D} (h:Pure1 f ds r) {S:List Ob} {P:D→List Ob→Prop} (p:P r S):Wf f ds S P:=(h S).mono fun _ _ ⟨e1,e2⟩=>by subst e1 e2;exact p
def KC (f:Fn):Prop:=∀n:Nat,Pure1 f [.int n] (.bl (BI n))
theorem M1:KC (fnOf 1 1 FB):=by
 intro n S
 refine Bh rfl ?_
 unfold FB
 walk_at "w"
 have c1:decide ((32:Int)≤n)=decide (32≤n):=decide_eq_decide.mpr (by lia)
 have c2:decide ((n:Int)≤126)=decide (n≤126):=decide_eq_decide.mpr (by lia)
 have c3:(!((n:Int) == 37))=decide (n≠37):=by
  by_cases h:n=37
  ·subst h;rfl
  ·have:¬((n:Int)=37):=by lia
   simp [h,this]
 rw [c1]
 refine EG (fun e=>?_) fun e=>?_
 ·walk_at "w"
  rw [c2]
  refine EG (fun e'=>?_) fun e'=>?_
  ·walk_at "w"
   exact ⟨by simp only [BI,e,e',c3,Bool.true_and],rfl⟩
  ·exact ⟨by simp only [BI,e,e',Bool.false_and,Bool.and_false],rfl⟩
 ·walk_at "w"
  exact ⟨by simp only [BI,e,Bool.false_and],rfl⟩
def DrawOk (f:Fn):Prop:=∀(k c:Nat) (S:List Ob) (many:Int),0 < many→many < 1073741824→DeckAt k c S→Wf f [.obj k,.int many] S fun r S'=>(∃i,r = .int i∧0≤i∧i < many)∧DeckAt k c S'∧Keep k c S S'
theorem OX:DrawOk (fnOf 2 5 Dz):=fun k c S many h1 h2 d=>QI h1 h2 d
theorem DrawOk.use {f:Fn} (h:DrawOk f) {k c:Nat} {S:List Ob} {m:Int} (many:Int) (d:DeckAt k c S) {P:D→List Ob→Prop} (p:∀i S',0≤i→i < many→DeckAt k c S'→Keep k c S S'→P (.int i) S') (e:m=many:=by first | rfl | decide) (h1:0 < many:=by decide) (h2:many < 1073741824:=by decide) :
 Wf f [.obj k,.int m] S P:=by
 subst e
 exact (h k c S m h1 h2 d).mono fun r S' ⟨⟨i,e,h0,hm⟩,d',kp⟩=>by subst e;exact p i S' h0 hm d' kp
def FarOk (f:Fn):Prop:=∀(k c:Nat) (S:List Ob),DeckAt k c S→Wf f [.obj k] S fun r S'=>(∃i,r = .int i∧-1000000000000000000 < i∧i < 1000000000000000000)∧DeckAt k c S'∧Keep k c S S'
theorem FarOk.use {f:Fn} (h:FarOk f) {k c:Nat} {S:List Ob} (d:DeckAt k c S) {P:D→List Ob→Prop} (p:∀i S',-1000000000000000000 < i→i < 1000000000000000000→DeckAt k c S'→Keep k c S S'→P (.int i) S'):Wf f [.obj k] S P:=
 (h k c S d).mono fun r S' ⟨⟨i,e,h0,hm⟩,d',kp⟩=>by subst e;exact p i S' h0 hm d' kp
theorem Su {c:Fn} (hc:DrawOk c):FarOk (fnOf 1 2 (EQ c)):=by
 intro k cc S d
 refine Bh rfl ?_
 unfold EQ
 have p6:(10:Int) ^ Int.toNat 6=1000000:=by decide
 have p12:(10:Int) ^ Int.toNat 12=1000000000000:=by decide
 walk_at "w"
 refine hc.use 1000000 d (fun a S1 a0 a1 d1 k1=>?_) p6
 walk_at "w"
 refine DI (FT (by lia) (by lia)) ?_
 walk_at "w"
 refine hc.use 1000000 d1 (fun b S2 b0 b1 d2 k2=>?_) p6
 walk_at "w"
 refine DI (FT (by lia) (by lia)) ?_
 walk_at "w"
 refine hc.use 1000000 d2 (fun e S3 e0 e1 d3 k3=>?_) p6
 walk_at "w"
 refine hc.use 2 d3 (fun g S4 g0 g1 d4 k4=>?_)
 have hg:g=0∨g=1:=by lia
 rw [p6,p12]
 rcases hg with rfl | rfl
 ·walk_at "w"
  refine DI (D8 (by decide) (by decide)) ?_
  exact ⟨⟨_,rfl,by lia,by lia⟩,d4,k1.trans (k2.trans (k3.trans k4))⟩
 ·walk_at "w"
  refine DI (D8 (by decide) (by decide)) ?_
  exact ⟨⟨_,rfl,by lia,by lia⟩,d4,k1.trans (k2.trans (k3.trans k4))⟩
theorem Fz (x:Str):x.length=x.cps.toList.length:=by simp [Str.length]
theorem JI (x y:Str):(x++y).cps.toList=x.cps.toList++y.cps.toList:=by
 show (x.cps++y.cps).toList=_
 simp
theorem JG {f:D→D} {fr:List (Option Sl)} {S:List Ob} {elt:M D} {ds:List D} {z:Option Sl} (h:∀d∈ds,W elt ⟨some (.val d) :: fr,S⟩ fun x t'=>x=f d∧t'=⟨some (.val d) :: fr,S⟩) :
 W (BW (BL 0) Dc elt ds) ⟨z :: fr,S⟩ fun xs t'=>xs=ds.map f∧t'.S=S:=by
 refine (Fa (P:=fun xs t'=>xs=ds.map f∧t'.S=S) (fun acc r t=>acc++r.map f=ds.map f∧∃z,t=⟨z :: fr,S⟩) ds [] _ ⟨rfl,z,rfl⟩ ?_ ?_).mono fun xs t' h=>h
 ·rintro acc d r t ⟨h1,z,rfl⟩ hm
  refine GX (GY ?_)
  rw [if_pos rfl]
  refine (h d hm).mono fun x t' ⟨e1,e2⟩=>?_
  subst e1 e2
  exact ⟨by rw [List.append_assoc];exact h1,_,rfl⟩
 ·rintro acc t ⟨h1,z,rfl⟩
  exact ⟨by simpa using h1,rfl⟩
theorem J3:∀ns:List Int,GT (ns.map D.int)=true
 | []=>rfl
 | n :: r=>by rw [List.map_cons,GT,J3 r];rfl
theorem QG {ns:List Int} {d:D} {S:List Ob} (hd:d = .scr ns∨(d = .lst (ns.map .int))):Wf (fnOf 1 2 Eo) [d] S fun r S'=>∃(k c:Nat) (ex:List Ob),r = .obj k∧DeckAt k c S'∧S'=S++ex∧S.length≤k∧S.length≤c∧k < S'.length∧c < S'.length:=by
 refine Bh rfl ?_
 unfold Eo
 have key:∀(cs:List Int) (n:Nat),W (Ar (ifS (AK (Ah (Ad 1) (Bb (Bi Aj)) (eqS id)))
  (A6 1 (Fj (Bi (Ac (fC (.int 0)) Aj))))
  AR)
 (A3 (Fj (Bi (Ac (Ad 1) (Ac (Ah (fB (Ac (Ad 0) Aj) BH) (fC (.int 2)) Dl) (Ac (fC (.int 0)) Aj)))))))
  ⟨[some (.val d),some (.val (.obj S.length))],S++[.lst (cs.map .int)]⟩ fun o t=>match o with
   | .ret r=>∃(k c:Nat) (ex:List Ob),r = .obj k∧DeckAt k c t.S∧t.S=S++ex∧S.length≤k∧S.length≤c∧k < t.S.length∧c < t.S.length
   | .next=>∃(k c:Nat) (ex:List Ob),D.non = .obj k∧DeckAt k c t.S∧t.S=S++ex∧S.length≤k∧S.length≤c∧k < t.S.length∧c < t.S.length
   | _=>False:=by
   intro cs n
   have len:∀{t:T} {P:D→T→Prop},(∀i:Int,P (.int i) t)→W (BH [d]) t P:=fun {t P} h=>by
    rcases hd with rfl | rfl
    ·exact Qv (h _)
    ·exact Qu (h _)
   walk_at "w"
   refine (KD (ds:=cs.map .int) (by simp) (J3 cs)).mpr ?_
   walk_at "w"
   refine EG (fun q=>?_) fun q=>?_
   ·walk_at "w"
    refine len fun i=>?_
    walk_at "w"
    refine ⟨S.length + 2,S.length + 1,[.lst (cs.map .int),.lst [.int 0],.lst [.obj (S.length + 1),.int (i % 2),.int 0]],by simp,⟨by lia,[0],i % 2,0,?_,?_,by simp,by decide⟩,by simp,by lia,by lia,by simp,by simp⟩
    ·simp
    ·simp
   ·walk_at "w"
    refine len fun i=>?_
    walk_at "w"
    refine ⟨S.length + 1,S.length,[.lst (cs.map .int),.lst [.obj S.length,.int (i % 2),.int 0]],by simp,⟨by lia,cs,i % 2,0,?_,?_,?_,by decide⟩,by simp,by lia,by lia,by simp,by simp⟩
    ·simp
    ·simp
    ·intro z;subst z;exact absurd q (by decide)
 rcases hd with rfl | rfl
 ·exact LQ (P0 (PX (wBF (Dd (wSl (D6 (d:=.scr ns) rfl (wNo (Nt (wC (PR (T3 (Ft (Nr (C6 (key (BG ns none (some 63)) 0)))))))))))))))
 ·have:BG (ns.map D.int) none (some 63)=(BG ns none (some 63)).map D.int:=by
   unfold BG
   rw [List.length_map,List.map_take,List.map_drop]
  have q:=key (BG ns none (some 63)) 0
  rw [←this] at q
  exact LQ (P0 (PX (wBF (Dd (wSl (D6 (d:=.lst (ns.map .int)) rfl (wNo (Nt (wC (PR (T2 (Ft (Nr (C6 q))))))))))))))
theorem DeckAt.more {k c:Nat} {S ex:List Ob} (d:DeckAt k c S):DeckAt k c (S++ex):=by
 obtain ⟨ne,cells,par,pos,e1,e2,r⟩:=d
 refine ⟨ne,cells,par,pos,?_,?_,r⟩
 ·rw [List.getElem?_append_left (List.getElem?_eq_some_iff.mp e1).1];exact e1
 ·rw [List.getElem?_append_left (List.getElem?_eq_some_iff.mp e2).1];exact e2
mutual
def sz:D→Nat
 | .tup xs=>szs xs + 1
 | .lst xs=>szs xs + 1
 | _=>1
def szs:List D→Nat
 | []=>0
 | d :: r=>sz d + szs r
end
theorem MI {x y:Str} (h:x.cps.toList=y.cps.toList):x=y:=by
 cases x;cases y
 congr
 exact Array.toList_inj.mp h
mutual
def wf:Sh→Bool
 | .nothing=>true
 | .number lo hi=>decide (-1000000000000000000 < lo) && decide (lo≤hi) && decide (hi < 1000000000000000000)
 | .text m=>decide (0≤m) && decide (m≤250)
 | .list s m=>decide (0≤m) && decide (m≤250) && wf s
 | .pair s r=>wf s && wf r
 | .choice ss=>decide (1≤ss.length) && decide (ss.length≤9) && wfs ss
def wfs:List Sh→Bool
 | []=>true
 | s :: r=>wf s && wfs r
end
mutual
def cnt:Sh→Nat
 | .list s _=>cnt s + 1
 | .pair s r=>cnt s + cnt r + 1
 | .choice ss=>cnts ss + 1
 | _=>1
def cnts:List Sh→Nat
 | []=>0
 | s :: r=>cnt s + cnts r
end
theorem C5:∀{ss:List Sh},wfs ss=true→∀s∈ss,wf s=true
 | x :: r,h,s,m=>by
   rw [wfs,Bool.and_eq_true] at h
   rcases List.mem_cons.mp m with z | z
   ·subst z;exact h.1
   ·exact C5 h.2 s z
theorem OI:∀{ss:List Sh},(∀s∈ss,wf s=true)→wfs ss=true
 | [],_=>rfl
 | x :: r,h=>by rw [wfs,h x List.mem_cons_self,OI fun s m=>h s (List.mem_cons_of_mem _ m)];rfl
theorem HM:∀ss:List Sh,shD ss=ss.map Sh.d
 | []=>rfl
 | s :: r=>by rw [shD,HM r];rfl
theorem LD:∀{ss:List Sh} {n:Nat},(∀s∈ss,s.depth≤n)→shDep ss≤n
 | [],n,_=>Nat.zero_le _
 | s :: r,n,h=>by
   rw [shDep]
   have:=h s List.mem_cons_self
   have:=LD fun s m=>h s (List.mem_cons_of_mem _ m)
   lia
theorem GW:∀{ss:List Sh} {s:Sh},s∈ss→s.depth≤shDep ss
 | x :: r,s,m=>by
   rw [shDep]
   rcases List.mem_cons.mp m with z | z
   ·subst z;lia
   ·have:=GW z;lia
theorem KY:∀xs ys:List Sh,cnts (xs++ys)=cnts xs + cnts ys
 | [],ys=>by simp [cnts]
 | x :: xs,ys=>by simp [cnts,KY xs ys];lia
def LeafOk (f:Fn):Prop:=∀(k c:Nat) (S:List Ob),DeckAt k c S→Wf f [.obj k] S fun r S'=>(∃s:Sh,r=s.d∧wf s=true∧s.depth=1∧cnt s=1)∧DeckAt k c S'∧Keep k c S S'
theorem LeafOk.use {f:Fn} (h:LeafOk f) {k c:Nat} {S:List Ob} (d:DeckAt k c S) {P:D→List Ob→Prop} (p:∀(s:Sh) S',wf s=true→s.depth=1→cnt s=1→DeckAt k c S'→Keep k c S S'→P s.d S'):Wf f [.obj k] S P:=
 (h k c S d).mono fun r S' ⟨⟨s,e,h1,h2,h3⟩,d',kp⟩=>by subst e;exact p s S' h1 h2 h3 d' kp
theorem GP {xs:List D} {i:Int} (h0:0≤i) (h1:i < xs.length) {p:D→Prop} (h:∀d∈xs,p d):∃d,atI xs i=some d∧p d:=by
 obtain ⟨d,e,m,_⟩:=FL h0 h1
 exact ⟨d,e,h d m⟩
theorem QZ {cd cf:Fn} (hd:DrawOk cd) (hf:FarOk cf):LeafOk (fnOf 1 5 (Ep cd cf)):=by
 intro k c S d
 refine Bh rfl ?_
 unfold Ep
 walk_at "w"
 refine hd.use 6 d (fun kd S1 q0 q1 d1 k1=>?_)
 walk_at "w"
 refine EG (fun q=>?_) fun q=>?_
 ·walk_at "w"
  exact ⟨⟨.nothing,by rw [Sh.d],rfl,rfl,rfl⟩,d1,k1⟩
 walk_at "w"
 refine EG (fun q=>?_) fun q=>?_
 ·walk_at "w"
  refine hd.use 251 d1 (fun a S2 a0 a1 d2 k2=>?_)
  walk_at "w"
  refine hd.use 5 d2 (fun i S3 i0 i1 d3 k3=>?_)
  obtain ⟨x,ex,m,rfl,m0,m1⟩:=GP (xs:=[D.int 0,D.int 1,D.int 4,D.int 250,D.int a]) i0 (by simpa using i1) (p:=fun d=>∃m:Int,d = .int m∧0≤m∧m≤250) (by
   simp only [List.forall_mem_cons]
   exact ⟨⟨_,rfl,by decide,by decide⟩,⟨_,rfl,by decide,by decide⟩,⟨_,rfl,by decide,by decide⟩,⟨_,rfl,by decide,by decide⟩,⟨_,rfl,by lia,by lia⟩,fun _ z=>nomatch z⟩)
  refine B8 ex ?_
  walk_at "w"
  exact ⟨⟨.text m,by rw [Sh.d],by simp [wf,m0,m1],rfl,rfl⟩,d3,k1.trans (k2.trans k3)⟩
 have p18:(10:Int) ^ Int.toNat 18=1000000000000000000:=by decide
 have pw:(2:Int) ^ Int.toNat 24=16777216∧(2:Int) ^ Int.toNat 32=4294967296∧(2:Int) ^ Int.toNat 40=1099511627776∧(2:Int) ^ Int.toNat 48=281474976710656∧(2:Int) ^ Int.toNat 56=72057594037927936:=by decide
 walk_at "w"
 refine hd.use 40 d1 (fun a S2 a0 a1 d2 k2=>?_)
 walk_at "w"
 refine hf.use d2 (fun f S3 f0 f1 d3 k3=>?_)
 walk_at "w"
 refine hd.use 4 d3 (fun i S4 i0 i1 d4 k4=>?_)
 rw [p18]
 obtain ⟨x,ex,low,rfl,l0,l1⟩:=GP (xs:=[D.int 0,D.int (a - 20),D.int f,D.int (1 - 1000000000000000000)]) i0 (by simpa using i1) (p:=fun d=>∃m:Int,d = .int m∧-1000000000000000000 < m∧m < 1000000000000000000) (by
  simp only [List.forall_mem_cons]
  exact ⟨⟨_,rfl,by decide,by decide⟩,⟨_,rfl,by lia,by lia⟩,⟨_,rfl,by lia,by lia⟩,⟨_,rfl,by decide,by decide⟩,fun _ z=>nomatch z⟩)
 refine B8 ex ?_
 walk_at "w"
 refine hd.use 5 d4 (fun j S5 j0 j1 d5 k5=>?_)
 obtain ⟨y,ey,gr,rfl,gr0⟩:=GP (xs:=[D.int ((2:Int) ^ Int.toNat 24),D.int ((2:Int) ^ Int.toNat 32),D.int ((2:Int) ^ Int.toNat 40),D.int ((2:Int) ^ Int.toNat 48),D.int ((2:Int) ^ Int.toNat 56)]) j0 (by simpa using j1) (p:=fun d=>∃m:Int,d = .int m∧1000≤m) (by
  simp only [List.forall_mem_cons]
  obtain ⟨w1,w2,w3,w4,w5⟩:=pw
  exact ⟨⟨_,rfl,by rw [w1];decide⟩,⟨_,rfl,by rw [w2];decide⟩,⟨_,rfl,by rw [w3];decide⟩,⟨_,rfl,by rw [w4];decide⟩,⟨_,rfl,by rw [w5];decide⟩,fun _ z=>nomatch z⟩)
 refine B8 ey ?_
 walk_at "w"
 refine hd.use 2 d5 (fun u S6 u0 u1 d6 k6=>?_)
 walk_at "w"
 refine hd.use 1000 d6 (fun v S7 v0 v1 d7 k7=>?_)
 walk_at "w"
 refine hf.use d7 (fun f' S8 g0 g1 d8 k8=>?_)
 walk_at "w"
 rw [p18]
 refine DI (FT (by decide) (by decide)) ?_
 walk_at "w"
 refine hd.use 11 d8 (fun z S9 z0 z1 d9 k9=>?_)
 obtain ⟨w,ew,sp,rfl,sp0⟩:=GP (xs:=[D.int 0,D.int 1,D.int 255,D.int 256,D.int 299,D.int 65535,D.int 65536,D.int v,D.int (if f' < 0 then -f' else f'),D.int (gr - u),D.int (2 * 1000000000000000000)]) z0 (by simpa using z1) (p:=fun d=>∃m:Int,d = .int m∧0≤m) (by
  simp only [List.forall_mem_cons]
  exact ⟨⟨_,rfl,by decide⟩,⟨_,rfl,by decide⟩,⟨_,rfl,by decide⟩,⟨_,rfl,by decide⟩,⟨_,rfl,by decide⟩,⟨_,rfl,by decide⟩,⟨_,rfl,by decide⟩,⟨_,rfl,by lia⟩,⟨_,rfl,by split <;> lia⟩,⟨_,rfl,by lia⟩,⟨_,rfl,by decide⟩,fun _ z=>nomatch z⟩)
 refine B8 ew ?_
 walk_at "w"
 rw [p18]
 refine ⟨⟨.number low (if low + sp < 1000000000000000000 - 1 then low + sp else 1000000000000000000 - 1),by rw [Sh.d],?_,rfl,rfl⟩,d9,k1.trans (k2.trans (k3.trans (k4.trans (k5.trans (k6.trans (k7.trans (k8.trans k9)))))))⟩
 simp only [wf,Bool.and_eq_true,decide_eq_true_eq]
 split <;> lia
def KeepL (k c l:Nat) (S S':List Ob):Prop:=S'.length=S.length∧∀j:Nat,j≠k→j≠c→j≠l→S'[j]?=S[j]?
theorem KeepL.refl {k c l:Nat} {S:List Ob}:KeepL k c l S S:=⟨rfl,fun _ _ _ _=>rfl⟩
theorem KeepL.trans {k c l:Nat} {S S' S'':List Ob} (a:KeepL k c l S S') (b:KeepL k c l S' S''):KeepL k c l S S'':=⟨b.1.trans a.1,fun j h1 h2 h3=>(b.2 j h1 h2 h3).trans (a.2 j h1 h2 h3)⟩
theorem Keep.toL {k c l:Nat} {S S':List Ob} (a:Keep k c S S'):KeepL k c l S S':=⟨a.1,fun j h1 h2 _=>a.2 j h1 h2⟩
def CJ (deep:Int):Int:=if deep < 2 then 0 else 2 * deep + 4
def bd (deep x:Int):Int:=if deep < 2 then 1 else max x 1 + CJ deep - (if deep + 1≤x then 1 else 0)
def tb (deep y i:Int):Int:=if deep=2 then i else if i=0 then 0 else y + CJ (deep - 1) + i - 1 - (if deep≤y then 1 else 0)
theorem SN (deep x:Int):1≤bd deep x:=by
 unfold bd CJ
 repeat' split
 all_goals lia
theorem Hg {deep y T n i:Int} (hd:2≤deep) (hy:1≤y) (hi:0≤i) (hT0:0≤T) (hT:T≤tb deep y i) (h1:y - T≤1→n=1) (h2:n≤bd (deep - 1) (y - T)):T + n≤tb deep y (i + 1):=by
 by_cases h:y - T≤1
 ·have:=h1 h
  subst this
  unfold tb at hT ⊢
  unfold CJ at hT ⊢
  (repeat' split at hT) <;> (repeat' split) <;> lia
 ·unfold tb at hT ⊢
  unfold bd at h2
  unfold CJ at hT h2 ⊢
  (repeat' split at hT) <;> (repeat' split at h2) <;> (repeat' split) <;> lia
theorem K4 {deep x m:Int} (hd:2≤deep) (hx:2≤x) (hm:1≤m) (h:m≤3∨(deep=2∧m≤9)):tb deep (x - 1) m + 1≤bd deep x:=by
 unfold tb bd CJ
 (repeat' split) <;> lia
structure ShapeRes (k c l:Nat) (S:List Ob) (deep x:Int) (s:Sh) (S':List Ob):Prop where
 w:wf s=true
 dep:(s.depth:Int)≤max deep 1
 lft:S'[l]?=some (.lst [.int (x - cnt s)])
 one:x≤1→cnt s=1
 few:(cnt s:Int)≤max x 1 + CJ deep
 deck:DeckAt k c S'
 kp:KeepL k c l S S'
 few2:(cnt s:Int)≤bd deep x
def FK (f:Fn) (n:Nat):Prop:=∀(k c l:Nat) (S:List Ob) (deep x:Int),deep≤n→l≠k→l≠c→DeckAt k c S→S[l]?=some (.lst [.int x])→Wf f [.obj k,.int deep,.obj l] S fun r S'=>∃s:Sh,r=s.d∧ShapeRes k c l S deep x s S'
theorem HR {y T n P i:Int} (hy:1≤y) (hP:0≤P) (hT:(i=0∧T=0)∨(1≤i∧T≤y + P + (i - 1))) (h1:y - T≤1→n=1) (h2:n≤max (y - T) 1 + P):T + n≤y + P + i:=by
 by_cases h:y - T≤1
 ·have:=h1 h
  lia
 ·have:max (y - T) 1=y - T:=by lia
  lia
theorem LE {cd cs cl:Fn} {n:Nat} (hd:DrawOk cd) (hl:LeafOk cl) (hs:n=0∨FK cs n):FK (fnOf 3 7 (DW cd cs cl)) (n + 1):=by
 intro k c l S deep x hdeep hlk hlc dk hx
 refine Bh rfl ?_
 unfold DW
 have hL:LIM=100000:=rfl
 have g0:(S.set l (.lst [.int (x - 1)]))[l]?=some (.lst [.int (x - 1)]):=EF hx
 have kp0:KeepL k c l S (S.set l (.lst [.int (x - 1)])):=⟨by simp,fun j _ _ h=>List.getElem?_set_ne (Ne.symm h)⟩
 have dk0:DeckAt k c (S.set l (.lst [.int (x - 1)])):=by
  obtain ⟨ne,cells,par,pos,e1,e2,r⟩:=dk
  exact ⟨ne,cells,par,pos,by rw [List.getElem?_set_ne hlk];exact e1,by rw [List.getElem?_set_ne hlc];exact e2,r⟩
 walk_at "w"
 refine Cw hx (by rfl) ?_
 walk_at "w"
 refine Gu (n:=0) hx (by rfl) ?_
 walk_at "w"
 refine hd.use 8 dk0 (fun kd S1 q0 q1 d1 k1=>?_)
 have x1:S1[l]?=some (.lst [.int (x - 1)]):=(k1.2 l hlk hlc).trans g0
 have kp1:=kp0.trans (k1.toL (l:=l))
 walk_at "w"
 have leaf:∀{env:List (Option Sl)} {R:Out→T→Prop},(env[0]?=some (some (.val (.obj k))))→(∀(s:Sh) S',ShapeRes k c l S deep x s S'→R (.ret s.d) ⟨env,S'⟩)→W (A3 (Av cl (Ac (Ad 0) Aj))) ⟨env,S1⟩ R:=fun {env R} he h=>by
  refine PZ (Hi (Dd (D6 he (Ft (hl.use d1 fun s S2 w1 w2 w3 d2 k2=>?_)))))
  refine h s S2 ⟨w1,by rw [w2];lia,?_,fun _=>w3,?_,d2,kp1.trans k2.toL,by rw [w3];exact SN deep x⟩
  ·rw [w3];exact (k2.2 l hlk hlc).trans x1
  ·rw [w3];unfold CJ;split <;> lia
 refine EG (fun q=>?_) fun q=>?_
 ·walk_at "w1"
  exact leaf rfl fun s S' r=>⟨s,rfl,r⟩
 walk_at "w"
 refine Cw x1 (by rfl) ?_
 walk_at "w"
 refine EG (fun q'=>?_) fun q'=>?_
 ·walk_at "w1"
  exact leaf rfl fun s S' r=>⟨s,rfl,r⟩
 walk_at "w"
 refine EG (fun q''=>?_) fun q''=>?_
 ·exact leaf rfl fun s S' r=>⟨s,rfl,r⟩
 have hdp:2≤deep:=by have:=of_decide_eq_false q;lia
 have hy:1≤x - 1:=by have:=of_decide_eq_false q';lia
 have hs':FK cs n:=by
  rcases hs with rfl | h
  ·exact absurd hdeep (by lia)
  ·exact h
 have hsl:0≤CJ (deep - 1):=by unfold CJ;split <;> lia
 have sl3:∀m:Int,1≤m→(m≤3∨(deep=2∧m≤9))→CJ (deep - 1) + m - 1≤CJ deep:=fun m m0 m1=>by
  unfold CJ
  by_cases h2:deep=2
  ·subst h2
   rcases m1 with h | ⟨_,h⟩
   ·simp;lia
   ·simp;lia
  ·rw [if_neg (by lia),if_neg (by lia)]
   rcases m1 with h | ⟨h,_⟩
   ·lia
   ·exact absurd h h2
 walk_at "w"
 refine EG (fun z=>?_) fun z=>?_
 ·walk_at "w"
  refine hd.use 251 d1 (fun a S2 a0 a1 d2 k2=>?_)
  walk_at "w"
  refine hd.use 5 d2 (fun i S3 i0 i1 d3 k3=>?_)
  obtain ⟨y,ey,m,rfl,m0,m1⟩:=GP (xs:=[D.int 0,D.int 1,D.int 3,D.int 250,D.int a]) i0 (by simpa using i1) (p:=fun d=>∃m:Int,d = .int m∧0≤m∧m≤250) (by
   simp only [List.forall_mem_cons]
   exact ⟨⟨_,rfl,by decide,by decide⟩,⟨_,rfl,by decide,by decide⟩,⟨_,rfl,by decide,by decide⟩,⟨_,rfl,by decide,by decide⟩,⟨_,rfl,by lia,by lia⟩,fun _ z=>nomatch z⟩)
  refine B8 ey ?_
  walk_at "w"
  have x3:S3[l]?=some (.lst [.int (x - 1)]):=(k3.2 l hlk hlc).trans ((k2.2 l hlk hlc).trans x1)
  refine (hs' k c l S3 (deep - 1) (x - 1) (by lia) hlk hlc d3 x3).mono fun r S4 ⟨s,e,R⟩=>?_
  subst e
  walk_at "w"
  have f1:=R.few
  have f2:=R.dep
  have f3:=sl3 1 (by decide) (.inl (by decide))
  refine ⟨.list s m,by rw [Sh.d],⟨by simp [wf,m0,m1,R.w],by rw [Sh.depth];lia,?_,fun h=>absurd h (by lia),by rw [cnt];lia,R.deck,kp1.trans (k2.toL.trans (k3.toL.trans R.kp)),?_⟩⟩
  ·have:=R.lft
   rw [cnt]
   rw [show x - ((cnt s + 1:Nat):Int)=x - 1 - cnt s by lia]
   exact this
  ·have t1:=Hg (deep:=deep) (y:=x - 1) (T:=0) (n:=cnt s) (i:=0) hdp hy (by decide) (by decide) (by unfold tb;simp) (fun h=>by have:=R.one (by lia);lia) (by rw [Int.sub_zero];exact R.few2)
   have t2:=K4 (deep:=deep) (x:=x) (m:=1) hdp (by lia) (by decide) (.inl (by decide))
   rw [cnt];simp only [Int.zero_add] at t1;lia
 walk_at "w"
 refine EG (fun z=>?_) fun z=>?_
 ·walk_at "w"
  refine (hs' k c l S1 (deep - 1) (x - 1) (by lia) hlk hlc d1 x1).mono fun r S2 ⟨s,e,R⟩=>?_
  subst e
  walk_at "w"
  refine (hs' k c l S2 (deep - 1) (x - 1 - cnt s) (by lia) hlk hlc R.deck R.lft).mono fun r S3 ⟨s2,e,R2⟩=>?_
  subst e
  walk_at "w"
  have f1:=R.few
  have f2:=R.dep
  have f2':=R2.dep
  have f4:=HR (T:=0) (i:=0) (y:=x - 1) (n:=cnt s) hy hsl (.inl ⟨rfl,rfl⟩) (fun h=>by have:=R.one (by lia);lia) (by simpa using f1)
  have f5:=HR (T:=cnt s) (i:=1) (y:=x - 1) (n:=cnt s2) hy hsl (.inr ⟨by decide,by lia⟩) (fun h=>by have:=R2.one h;lia) R2.few
  have f3:=sl3 2 (by decide) (.inl (by decide))
  refine ⟨.pair s s2,by rw [Sh.d],⟨by simp [wf,R.w,R2.w],by rw [Sh.depth];lia,?_,fun h=>absurd h (by lia),by rw [cnt];lia,R2.deck,kp1.trans (R.kp.trans R2.kp),?_⟩⟩
  ·have:=R2.lft
   rw [cnt,show x - ((cnt s + cnt s2 + 1:Nat):Int)=x - 1 - cnt s - cnt s2 by lia]
   exact this
  ·have t1:=Hg (deep:=deep) (y:=x - 1) (T:=0) (n:=cnt s) (i:=0) hdp hy (by decide) (by decide) (by unfold tb;simp) (fun h=>by have:=R.one (by lia);lia) (by rw [Int.sub_zero];exact R.few2)
   have t2:=Hg (deep:=deep) (y:=x - 1) (T:=cnt s) (n:=cnt s2) (i:=1) hdp hy (by decide) (by lia) (by simpa using t1) (fun h=>by have:=R2.one h;lia) R2.few2
   have t3:=K4 (deep:=deep) (x:=x) (m:=2) hdp (by lia) (by decide) (.inl (by decide))
   rw [cnt];simp only [show (1:Int) + 1=2 from rfl] at t2;lia
 walk_at "w"
 have tab:∀b:Bool,∃m:Int,atI [D.int 3,D.int 9] (if b=true then 1 else 0)=some (.int m)∧((b=false∧m=3)∨(b=true∧m=9)):=by
  intro b
  cases b
  ·exact ⟨3,rfl,.inl ⟨rfl,rfl⟩⟩
  ·exact ⟨9,rfl,.inr ⟨rfl,rfl⟩⟩
 obtain ⟨m,em,hm⟩:=tab (id (deep == 2))
 have hm':3≤m∧m≤9∧(m≤3∨deep=2):=by
  rcases hm with ⟨h1,h2⟩ | ⟨h1,h2⟩
  ·lia
  ·have:deep=2:=by simpa using h1
   lia
 refine B8 em ?_
 walk_at "w"
 refine hd.use m d1 (fun i S2 i0 i1 d2 k2=>?_) rfl (by lia) (by lia)
 walk_at "w"
 have x2:S2[l]?=some (.lst [.int (x - 1)]):=(k2.2 l hlk hlc).trans x1
 refine EL (BR (by lia) (by lia)) ?_
 refine (Fa (P:=fun ys t'=>∃ss:List Sh,ys=shD ss∧ss≠[]∧(ss.length:Int)≤1 + i∧wfs ss=true∧((shDep ss:Nat):Int)≤deep - 1∧(cnts ss:Int)≤x - 1 + CJ (deep - 1) + (ss.length - 1)∧t'.S[l]?=some (.lst [.int (x - 1 - cnts ss)])∧DeckAt k c t'.S∧KeepL k c l S2 t'.S∧(cnts ss:Int)≤tb deep (x - 1) ss.length)
  (fun acc r t=>∃(ss:List Sh) (S':List Ob) (e0:Option Sl),acc=shD ss∧(ss.length:Int) + r.length=1 + i∧wfs ss=true∧((shDep ss:Nat):Int)≤deep - 1∧(((ss.length:Int)=0∧(cnts ss:Int)=0)∨(1≤(ss.length:Int)∧(cnts ss:Int)≤x - 1 + CJ (deep - 1) + (ss.length - 1)))∧S'[l]?=some (.lst [.int (x - 1 - cnts ss)])∧DeckAt k c S'∧KeepL k c l S2 S'∧(cnts ss:Int)≤tb deep (x - 1) ss.length∧t=⟨[e0,some (.val (.obj k)),some (.val (.obj l)),some (.val (.int deep))],S'⟩) _ [] _ ?_ ?_ ?_).mono ?_
 ·exact ⟨[],S2,_,rfl,by simp [BT];lia,rfl,by simp [shDep];lia,.inl ⟨rfl,rfl⟩,by simpa [cnts] using x2,d2,.refl,by unfold tb;simp [cnts],rfl⟩
 ·rintro acc d r t ⟨ss,S',e0,rfl,hlen,hw,hdp',hT,hlf,hdk,hkp,htb,rfl⟩ _
  refine GX (GY ?_)
  rw [if_pos rfl]
  walk_at "w"
  refine (hs' k c l S' (deep - 1) (x - 1 - cnts ss) (by lia) hlk hlc hdk hlf).mono fun r' S3 ⟨s,e,R⟩=>?_
  subst e
  have f5:=HR (T:=cnts ss) (i:=ss.length) (y:=x - 1) (n:=cnt s) hy hsl hT (fun h=>by have:=R.one h;lia) R.few
  have fd:=R.dep
  have ftb:=Hg (deep:=deep) (y:=x - 1) (T:=cnts ss) (n:=cnt s) (i:=ss.length) hdp hy (by lia) (by lia) htb (fun h=>by have:=R.one h;lia) R.few2
  have ec:cnts (ss++[s])=cnts ss + cnt s:=by rw [KY];simp [cnts]
  refine ⟨ss++[s],S3,_,by rw [HM,HM,List.map_append];rfl,by simp at hlen ⊢;lia,OI fun y hy=>?_,?_,.inr ⟨by simp;lia,?_⟩,?_,R.deck,hkp.trans R.kp,by rw [ec];simp only [List.length_append,List.length_cons,List.length_nil];exact_mod_cast ftb,rfl⟩
  ·rcases List.mem_append.mp hy with h | h
   ·exact C5 hw y h
   ·rw [List.mem_singleton] at h;subst h;exact R.w
  ·have:shDep (ss++[s])≤(deep - 1).toNat:=LD fun y hy=>by
    rcases List.mem_append.mp hy with h | h
    ·have:=GW h;lia
    ·rw [List.mem_singleton] at h;subst h;lia
   lia
  ·rw [ec];simp;lia
  ·have:=R.lft
   rw [ec,show x - 1 - ((cnts ss + cnt s:Nat):Int)=x - 1 - cnts ss - cnt s by lia]
   exact this
 ·rintro acc t ⟨ss,S',e0,rfl,hlen,hw,hdp',hT,hlf,hdk,hkp,htb,rfl⟩
  have hl1:(ss.length:Int)=1 + i:=by simpa using hlen
  have hne:ss≠[]:=fun z=>by subst z;simp at hl1;lia
  refine ⟨ss,rfl,hne,by lia,hw,hdp',?_,hlf,hdk,hkp,htb⟩
  rcases hT with ⟨h1,h2⟩ | ⟨h1,h2⟩
  ·lia
  ·exact h2
 rintro ys t' ⟨ss,hys,hne,hln,hw,hdp',hT,hlf,hdk,hkp,htb⟩
 rw [List.nil_append] at hys
 subst hys
 have hpos:1≤ss.length:=List.length_pos_iff.mpr hne
 refine BQ (by rw [EJ,hL];lia) ?_
 walk_at "w"
 have f3:=sl3 ss.length (by lia) (by lia)
 refine ⟨.choice ss,by rw [Sh.d],⟨?_,by rw [Sh.depth];lia,?_,fun h=>absurd h (by lia),by rw [cnt];lia,hdk,kp1.trans (k2.toL.trans hkp),?_⟩⟩
 ·simp only [wf,Bool.and_eq_true,decide_eq_true_eq]
  exact ⟨⟨hpos,by lia⟩,hw⟩
 ·rw [cnt,show x - ((cnts ss + 1:Nat):Int)=x - 1 - cnts ss by lia]
  exact hlf
 ·have t3:=K4 (deep:=deep) (x:=x) (m:=ss.length) hdp (by lia) (by lia) (by lia)
  rw [cnt];lia
def signs94:Str:=" !\"#$&'()*+,-./0123456789:;<=>?@ABCDEFGHIJKLMNOPQRSTUVWXYZ[\\]^_`abcdefghijklmnopqrstuvwxyz{|}~"
theorem PK {i:Int} (h0:0≤i) (h1:i < 94):∃n,atI signs94.cps.toList i=some n∧BI n=true:=by
 have hl:signs94.cps.toList.length=94:=by decide +kernel
 have ha:signs94.cps.toList.all BI=true:=by decide +kernel
 obtain ⟨n,e,m,_⟩:=FL (xs:=signs94.cps.toList) h0 (by rw [hl];exact h1)
 exact ⟨n,e,List.all_eq_true.mp ha n m⟩
structure Sep (ks:List (Nat×Nat)):Prop where
 sep:∀p∈ks,∀q∈ks,p=q∨(q.1≠p.1∧q.1≠p.2∧q.2≠p.1∧q.2≠p.2)
theorem Qw {i j l:Int} {t:T} {P:D→T→Prop} (h:P (.int (min3I i j l)) t):W (IG [.int i,.int j,.int l]) t P:=⟨_,_,rfl,h⟩
theorem U1 {ds:List D} {ns:List Int} {m:Int} {t:T} {P:D→T→Prop} (e:El ds=some ns) (e2:ns.max?=some m) (h:P (.int m) t):W (IF [.lst ds]) t P:=
 ⟨_,_,by simp only [IF,e,e2],h⟩
def F4 (f:Fn):Prop:=∀(k c:Nat) (S:List Ob),DeckAt k c S→Wf f [.obj k] S fun r S'=>(∃n,r = .str ⟨#[n]⟩∧BI n=true)∧DeckAt k c S'∧Keep k c S S'
theorem LG {cd:Fn} (hd:DrawOk cd):F4 (fnOf 1 2 (Eu cd)):=by
 intro k c S d
 refine Bh rfl ?_
 unfold Eu
 walk_at "w"
 refine hd.use 94 d (fun i S1 i0 i1 d1 k1=>?_)
 obtain ⟨n,en,hn⟩:=PK i0 i1
 refine W_ix_str.mpr ⟨by decide +kernel,n,en,?_⟩
 exact ⟨⟨n,rfl,hn⟩,d1,k1⟩
mutual
def dpt:D→Nat
 | .lst ds=>Fi ds + 1
 | .tup ds=>Fi ds + 1
 | _=>1
def Fi:List D→Nat
 | []=>0
 | d :: r=>max (dpt d) (Fi r)
end
theorem Hu:∀{ds:List D},∀d∈ds,dpt d≤Fi ds
 | x :: r,d,m=>by
   rw [Fi]
   rcases List.mem_cons.mp m with rfl | m
   ·lia
   ·have:=Hu d m;lia
theorem Mj:∀{ds:List D} {n:Nat},(∀d∈ds,dpt d≤n)→Fi ds≤n
 | [],n,_=>by simp [Fi]
 | x :: r,n,h=>by
   rw [Fi]
   have h1:=h x List.mem_cons_self
   have h2:=Mj fun d m=>h d (List.mem_cons_of_mem _ m)
   lia
theorem Mi (d:D):0 < dpt d:=by cases d <;> simp [dpt]
mutual
def smD:D→Bool
 | .str x=>decide (x.length≤300)
 | .int i=>decide (-1000000000000000000000000 < i) && decide (i < 1000000000000000000000000)
 | .tup xs=>decide (xs.length≤300) && sms xs
 | .lst xs=>decide (xs.length≤300) && sms xs
 | .obj _=>false
 | .scr _=>false
 | .ty _=>false
 | .exc _ _=>false
 | _=>true
def sms:List D→Bool
 | []=>true
 | d :: r=>smD d && sms r
end
theorem JA:∀{xs:List D},sms xs=true→∀d∈xs,smD d=true
 | x :: r,h,d,m=>by
   rw [sms,Bool.and_eq_true] at h
   rcases List.mem_cons.mp m with z | z
   ·subst z;exact h.1
   ·exact JA h.2 d z
theorem Oy:∀{xs:List D},(∀d∈xs,smD d=true)→sms xs=true
 | [],_=>rfl
 | x :: r,h=>by
   rw [sms,Bool.and_eq_true]
   exact ⟨h x List.mem_cons_self,Oy fun d m=>h d (List.mem_cons_of_mem _ m)⟩
theorem NN {f:D→D→Option Bool}:∀{xs:List D},(∀d∈xs,f d d=some true)→C7 f xs xs=some true
 | [],_=>rfl
 | x :: r,h=>by
   rw [C7,h x List.mem_cons_self,NN fun d m=>h d (List.mem_cons_of_mem _ m)]
   rfl
theorem FQ:∀(n:Nat) (s:Sh),s.depth≤n→wf s=true→∀d,Be s d=true→smD d=true∧dpt d≤s.depth∧True
 | 0,s,h,_,_,_=>absurd s.depth_pos (by lia)
 | n + 1,s,hs,hw,d,hf=>by
   have l2:(Str.ofString "of").length≤300:=by decide +kernel
   cases s with
   | nothing=>
     cases d <;> simp [Be,G8] at hf
     refine ⟨rfl,by simp [dpt,Sh.depth],trivial⟩
   | number lo hi=>
     simp only [wf,Bool.and_eq_true,decide_eq_true_eq] at hw
     cases d <;> simp [Be] at hf
     rename_i i
     have sm:smD (.int i)=true:=by
      simp only [smD,Bool.and_eq_true,decide_eq_true_eq]
      lia
     refine ⟨sm,by simp [dpt,Sh.depth],trivial⟩
   | text q=>
     simp only [wf,Bool.and_eq_true,decide_eq_true_eq] at hw
     cases d <;> simp [Be] at hf
     rename_i x
     have sm:smD (.str x)=true:=by
      simp only [smD,decide_eq_true_eq]
      lia
     refine ⟨sm,by simp [dpt,Sh.depth],trivial⟩
   | list s q=>
     simp only [wf,Bool.and_eq_true,decide_eq_true_eq] at hw
     rw [Sh.depth] at hs
     cases d <;> simp only [Be,Bool.false_eq_true] at hf
     rename_i ds
     rw [Bool.and_eq_true,decide_eq_true_eq,List.all_eq_true] at hf
     have ih:=fun d m=>FQ n s (by lia) hw.2 d (hf.2 d m)
     have sm:smD (.lst ds)=true:=by
      rw [smD,Bool.and_eq_true,decide_eq_true_eq]
      exact ⟨by lia,Oy fun d m=>(ih d m).1⟩
     have dd:Fi ds≤s.depth:=Mj fun d m=>(ih d m).2.1
     refine ⟨sm,by rw [dpt,Sh.depth];lia,trivial⟩
   | pair s r=>
     simp only [wf,Bool.and_eq_true] at hw
     rw [Sh.depth] at hs
     match d,hf with
     | .tup [a,b],hf=>
       simp only [Be,Bool.and_eq_true] at hf
       have i1:=FQ n s (by lia) hw.1 a hf.1
       have i2:=FQ n r (by lia) hw.2 b hf.2
       have sm:smD (.tup [a,b])=true:=by simp [smD,sms,i1.1,i2.1]
       have h1:=i1.2.1
       have h2:=i2.2.1
       refine ⟨sm,by simp only [dpt,Fi,Sh.depth];lia,trivial⟩
   | choice ss=>
     simp only [wf,Bool.and_eq_true,decide_eq_true_eq] at hw
     rw [Sh.depth] at hs
     match d,hf with
     | .tup [.str o,.int k,x],hf=>
       simp only [Be,Bool.and_eq_true,decide_eq_true_eq] at hf
       obtain ⟨⟨ho,k0,k1⟩,hf⟩:=hf
       have hk:k.toNat < ss.length:=by lia
       have e1:ss[k.toNat]?=some ss[k.toNat]:=List.getElem?_eq_getElem hk
       rw [Dx ss _ _ _ e1] at hf
       have hd:=Cl ss _ _ e1
       have ih:=FQ n _ (by lia) (C5 hw.2 _ (List.getElem_mem hk)) x hf
       have ho':o.length≤300:=by
        have:o=("of" : Str):=by simpa [O5] using ho
        subst this;exact l2
       have sm:smD (.tup [.str o,.int k,x])=true:=by
        simp only [smD,sms,ih.1,Bool.and_true,Bool.and_eq_true,decide_eq_true_eq,List.length_cons,List.length_nil]
        lia
       have h1:=ih.2.1
       have h2:=Mi x
       have p1:=(ss[k.toNat]).depth_pos
       refine ⟨sm,by simp only [dpt,Fi,Sh.depth];lia,trivial⟩
theorem F1 {d:D} {g:Bool→Bool} {t:T} {P:D→T→Prop} (h0:M0 d=false) (h:eqN EQD d d=some true) (p:P (.bl (g true)) t):W (eqS g d d) t P:=⟨_,_,by simp [eqS,h0,h],p⟩
def G0 (f:Fn) (n:Nat):Prop:=∀s:Sh,s.depth≤n→wf s=true→∀S,Wf f [s.d] S fun r S'=>(∃i:Int,r = .int i∧1≤i∧i≤cnt s)∧S'=S
theorem Gg:∀ns:List Int,El (ns.map .int)=some ns
 | []=>rfl
 | n :: r=>by rw [List.map_cons,El,Gg r];rfl
theorem LC:∀{ss:List Sh} {d:D},d∈shD ss→∃s∈ss,d=s.d
 | s :: r,d,h=>by
   rw [shD] at h
   rcases List.mem_cons.mp h with rfl | h
   ·exact ⟨s,List.mem_cons_self,rfl⟩
   ·obtain ⟨s',h1,h2⟩:=LC h;exact ⟨s',List.mem_cons_of_mem _ h1,h2⟩
theorem EO:∀{ss:List Sh} {s:Sh},s∈ss→cnt s≤cnts ss
 | x :: r,s,m=>by
   rw [cnts]
   rcases List.mem_cons.mp m with rfl | m
   ·lia
   ·have:=EO m;lia
theorem OT {c:Fn} {n:Nat} (hc:n=0∨G0 c n):G0 (fnOf 1 1 (DV c)) (n + 1):=by
 intro s hs hw S
 have hL:LIM=100000:=rfl
 refine Bh rfl ?_
 unfold DV
 have rec_:∀{s':Sh} {S:List Ob},s'.depth≤n→wf s'=true→Wf c [s'.d] S fun r S'=>(∃i:Int,r = .int i∧1≤i∧i≤cnt s')∧S'=S:=fun {s' S} h1 h2=>by
  rcases hc with rfl | hc
  ·exact absurd s'.depth_pos (by lia)
  ·exact hc s' h1 h2 S
 cases s with
 | nothing=>rw [Sh.d];walk_at "w";exact ⟨⟨_,rfl,by decide,by simp [cnt]⟩,rfl⟩
 | number lo hi=>rw [Sh.d];walk_at "w";exact ⟨⟨_,rfl,by decide,by simp [cnt]⟩,rfl⟩
 | text m=>rw [Sh.d];walk_at "w";exact ⟨⟨_,rfl,by decide,by simp [cnt]⟩,rfl⟩
 | list s m=>
   rw [Sh.depth] at hs
   simp only [wf,Bool.and_eq_true] at hw
   rw [Sh.d]
   walk_at "w"
   refine (rec_ (by lia) hw.2).mono fun r S' ⟨⟨i,e,hi,hi'⟩,e2⟩=>?_
   subst e e2
   walk_at "w"
   exact ⟨⟨_,rfl,by lia,by rw [cnt];lia⟩,rfl⟩
 | pair s r=>
   rw [Sh.depth] at hs
   simp only [wf,Bool.and_eq_true] at hw
   rw [Sh.d]
   walk_at "w"
   refine (rec_ (by lia) hw.1).mono fun r1 S' ⟨⟨i,e,hi,hi'⟩,e2⟩=>?_
   subst e e2
   walk_at "w"
   refine (rec_ (by lia) hw.2).mono fun r2 S' ⟨⟨j,e,hj,hj'⟩,e2⟩=>?_
   subst e e2
   walk_at "w"
   exact ⟨⟨_,rfl,by lia,by rw [cnt];lia⟩,rfl⟩
 | choice ss=>
   rw [Sh.depth] at hs
   simp only [wf,Bool.and_eq_true,decide_eq_true_eq] at hw
   rw [Sh.d]
   walk_at "w"
   have hl:=EJ ss
   refine (Fa (P:=fun xs t'=>∃ns:List Int,xs=ns.map .int∧(∀m∈ns,1≤m∧m≤cnts ss)∧ns.length=ss.length∧t'.S=S) (fun acc r t=>∃(ns:List Int) (z:Option Sl),acc=ns.map .int∧(∀m∈ns,1≤m∧m≤cnts ss)∧ns.length + r.length=ss.length∧t=⟨[z],S⟩) (shD ss) [] _ ⟨[],_,rfl,(by simp),(by simpa using hl),rfl⟩ ?_ ?_).mono ?_
   ·rintro acc d r t ⟨ns,z,rfl,h1,h2,rfl⟩ hm
    refine GX (GY ?_)
    rw [if_pos rfl]
    obtain ⟨s',m',rfl⟩:=LC hm
    walk_at "w"
    refine (rec_ (Nat.le_trans (GW m') (by lia)) (C5 hw.2 _ m')).mono fun r1 S' ⟨⟨i,e,hi,hi'⟩,e2⟩=>?_
    subst e e2
    refine ⟨ns++[i],_,by rw [List.map_append];rfl,?_,by simp only [List.length_append,List.length_cons,List.length_nil] at h2 ⊢;lia,rfl⟩
    intro m hm
    rcases List.mem_append.mp hm with h | h
    ·exact h1 m h
    ·rw [List.mem_singleton] at h
     have:=EO m'
     lia
   ·rintro acc t ⟨ns,z,rfl,h1,h2,rfl⟩
    exact ⟨ns,rfl,h1,by simpa using h2,rfl⟩
   ·rintro xs t' ⟨ns,e,h1,h2,h3⟩
    rw [List.nil_append] at e
    subst e
    refine BQ (by rw [List.length_map,hL];lia) ?_
    walk_at "w"
    cases em:ns.max? with
    | none=>rw [List.max?_eq_none_iff] at em;subst em;simp at h2;lia
    | some M=>
      refine U1 (Gg ns) em ?_
      walk_at "w"
      have:=h1 M (List.max?_eq_some_iff.mp em).1
      exact ⟨⟨_,rfl,by lia,by rw [cnt];lia⟩,h3⟩
theorem Qt {f:M D} {g:M (List D)} {t:T} {P:D→T→Prop} (h:W f t fun o t1=>W g t1 fun as t2=>∃z ds ys,o = .str z∧as=[.lst ds]∧Fq ds=some ys∧(z.length≤8∧ys.length≤1048576)∧P (.str (Txt.join z ys)) t2):W (joinM f g) t P:=by
 refine Gs (h.mono fun o t1 h1=>Gs (h1.mono fun as t2 h2=>?_))
 obtain ⟨z,ds,ys,rfl,rfl,e,hl,p⟩:=h2
 refine ⟨_,_,?_,p⟩
 simp only [e]
 rw [if_pos hl]
theorem Fr:∀ns:List Nat,Fq (ns.map fun n=>D.str ⟨#[n]⟩)=some (ns.map fun n=>(⟨#[n]⟩:Str))
 | []=>rfl
 | n :: r=>by
   rw [List.map_cons,Fq,if_pos (Nat.le_of_ble_eq_true rfl),Fr r]
   rfl
theorem IB:∀(ns:List Nat) (acc:Array Nat),((ns.map fun n=>(⟨#[n]⟩:Str)).foldl (fun acc p=>acc++(Str.ofString "").cps++p.cps) acc).toList=acc.toList++ns
 | [],acc=>by simp
 | n :: r,acc=>by
   have e:(Str.ofString "").cps=#[]:=by decide +kernel
   rw [List.map_cons,List.foldl_cons,IB r,e]
   simp
theorem Gi (ns:List Nat):(Txt.join (Str.ofString "") (ns.map fun n=>(⟨#[n]⟩:Str))).cps.toList=ns:=by
 show (List.foldl (fun (acc:Array Nat) (p:Str)=>acc++(Str.ofString "").cps++p.cps) (((ns.map fun n=>(⟨#[n]⟩:Str)).headD Str.empty).cps) ((ns.map fun n=>(⟨#[n]⟩:Str)).drop 1)).toList=ns
 cases ns with
 | nil=>rfl
 | cons n r=>
   rw [List.map_cons,List.drop_one,List.tail_cons,IB]
   rfl
structure ValueRes (k c l:Nat) (S:List Ob) (s:Sh) (r:D) (S':List Ob):Prop where
 fit:Be s r=true
 lft:∃a b:Int,S'[l]?=some (.lst [.int a,.int b])
 deck:DeckAt k c S'
 kp:KeepL k c l S S'
theorem DeckAt.setO {k c l:Nat} {S:List Ob} {o:Ob} (d:DeckAt k c S) (h1:l≠k) (h2:l≠c):DeckAt k c (S.set l o):=by
 obtain ⟨ne,cells,par,pos,e1,e2,r⟩:=d
 exact ⟨ne,cells,par,pos,by rw [List.getElem?_set_ne h1];exact e1,by rw [List.getElem?_set_ne h2];exact e2,r⟩
theorem KeepL.setO {k c l:Nat} {S:List Ob} {o:Ob}:KeepL k c l S (S.set l o):=⟨by simp,fun j _ _ h=>List.getElem?_set_ne (Ne.symm h)⟩
theorem Keep.at {k c l:Nat} {S S':List Ob} {o:Option Ob} (a:Keep k c S S') (h1:l≠k) (h2:l≠c) (e:S[l]?=o):S'[l]?=o:=(a.2 l h1 h2).trans e
theorem Cu {f:M (List D)} {t:T} {P:Out→T→Prop} (h:W f t fun ds t1=>P (.ret (.lst ds)) t1):W (DB f) t P:=W_bnd.mpr (h.mono fun _ _ p=>W_ret.mpr p)
theorem Fs {g:Fn} {f:M (List D)} {t:T} {P:List D→T→Prop} (h:W f t fun ds t1=>Wf g ds t1.S fun r S'=>∃rs,r = .lst rs∧P rs ⟨t1.env,S'⟩):W (DM g f) t P:=by
 refine W_bnd.mpr (h.mono fun ds t1 ⟨r,S',e,rs,er,p⟩=>?_)
 subst er
 exact ⟨rs,⟨t1.env,S'⟩,by simp only [e],p⟩
theorem C4 {i:Nat} {xs:List D} {t:T} {P:Out→T→Prop} (e:t.env[i]?=some (some (.own xs))) (h:P (.ret (.lst xs)) ⟨t.env.set i none,t.S⟩):W (EW i) t P:=⟨_,_,by simp only [EW,e],h⟩
theorem UQ {i:Int} {t:T} {P:D→T→Prop} (h:P (.int (Builtin.Int.intBits i:Nat)) t):W (Ks (.int i)) t P:=⟨_,_,rfl,h⟩
theorem Wh {i j:Int} {t:T} {P:D→T→Prop} (h0:0≤j) (h:P (.int (i / 2 ^ j.toNat)) t):W (Nm (.int i) (.int j)) t P:=⟨_,_,by simp [Nm,i2C,h0],h⟩
theorem V0 {i:Nat} {xs:List D} {d:D} {t1:T} {A:List D→Prop} (e:t1.env[i]?=some (some (.own xs))) (l:xs.length < LIM) (w:A (d :: xs)):∃xs,t1.env[i]?=some (some (.own xs))∧∃ys,Je xs [.int 0,d]=some ys∧A ys:=
 ⟨xs,e,d :: xs,by simp [Je,l],w⟩
theorem Hs {f:M Bool} {b:M Out} {P:Out→T→Prop} (I:Nat→T→Prop) (turn:∀n t,I n t→W f t fun k t1=>match k with
 | true=>∃m,n=m + 1∧W b t1 fun o t2=>match o with
   | .next=>I m t2
   | .cont=>I m t2
   | .brk=>P .next t2
   | .ret x=>P (.ret x) t2
 | false=>P .next t1):∀(fuel n:Nat) (t:T),n < fuel→I n t→W (Di f b fuel) t P
 | 0,n,t,h,_=>absurd h (Nat.not_lt_zero _)
 | fuel + 1,n,t,h,i=>by
   obtain ⟨k,t1,e1,p⟩:=turn n t i
   cases k with
   | false=>exact ⟨_,_,by simp only [Di,e1],p⟩
   | true=>
     obtain ⟨m,rfl,o,t2,e2,p⟩:=p
     cases o with
     | next=>obtain ⟨o,t',e',p⟩:=Hs I turn fuel m t2 (by lia) p;exact ⟨o,t',by simp only [Di,e1,e2];exact e',p⟩
     | cont=>obtain ⟨o,t',e',p⟩:=Hs I turn fuel m t2 (by lia) p;exact ⟨o,t',by simp only [Di,e1,e2];exact e',p⟩
     | brk=>exact ⟨_,_,by simp only [Di,e1,e2],p⟩
     | ret x=>exact ⟨_,_,by simp only [Di,e1,e2],p⟩
def wid (n:Nat):Nat:=if n=0 then 0 else n.log2 / 8 + 1
theorem N7 {n:Nat} (h:2≤n):n.log2=(n / 2).log2 + 1:=by rw [Nat.log2_def,if_pos h]
theorem Pa {n:Nat} (h:n < 2):n.log2=0:=by rw [Nat.log2_def,if_neg (by lia)]
theorem Lc:∀(k:Nat) {n:Nat},2 ^ k≤n→n.log2=(n / 2 ^ k).log2 + k
 | 0,n,_=>by rw [Nat.pow_zero,Nat.div_one,Nat.add_zero]
 | k + 1,n,h=>by
   have h2:2 ^ k * 2≤n:=by rw [←Nat.pow_succ];exact h
   have h3:2≤n / 2 ^ k:=(Nat.le_div_iff_mul_le (Nat.pow_pos (by decide))).mpr (by rw [Nat.mul_comm];exact h2)
   rw [Lc k (Nat.le_trans (Nat.le_mul_of_pos_right _ (by decide)) h2),N7 h3,Nat.div_div_eq_div_mul,←Nat.pow_succ,Nat.add_assoc,Nat.add_comm 1 k]
theorem O8 {n:Nat} (h:256≤n):n.log2=(n / 256).log2 + 8:=Lc 8 h
theorem O9 {n:Nat} (h:n < 256):n.log2 < 8:=by
 by_cases z:n=0
 ·subst z;rw [Pa (by lia)];lia
 ·exact (Nat.log2_lt z).mpr h
theorem HW {n:Nat} (h:0 < n):wid n=wid (n / 256) + 1:=by
 unfold wid
 rw [if_neg (by lia)]
 by_cases z:n < 256
 ·have:=O9 z
  rw [if_pos (by lia)];lia
 ·rw [if_neg (by lia),O8 (by lia)];lia
theorem F3:∀(k n:Nat),n < 256 ^ k→wid n≤k
 | 0,n,h=>by
   have:n=0:=by simpa using h
   subst this;decide
 | k + 1,n,h=>by
   by_cases z:n=0
   ·subst z;exact Nat.zero_le _
   ·rw [HW (by lia)]
    have:=F3 k (n / 256) (Nat.div_lt_of_lt_mul (by rw [Nat.pow_succ] at h;lia))
    lia
theorem OQ (n:Nat):((Builtin.Int.intBits (n:Int):Nat) + 7) / 8=wid n:=by
 unfold Builtin.Int.intBits wid
 by_cases z:n=0
 ·subst z;rfl
 ·have:((n:Int) == 0)=false:=by simp;exact z
  rw [this,if_neg (by simp),if_neg z,Int.natAbs_natCast];lia
def nb:Nat→Nat→List D
 | 0,_=>[]
 | w + 1,n=>nb w (n / 256)++[.int ((n % 256:Nat):Int)]
theorem Lf:∀w n,(nb w n).length=w
 | 0,n=>rfl
 | w + 1,n=>by rw [nb,List.length_append,Lf];rfl
mutual
def By:Sh→D→List D
 | .nothing,_=>[]
 | .number lo hi,d=>match d with
   | .int i=>nb (wid (hi - lo).toNat) (i - lo).toNat
   | _=>[]
 | .text _,d=>match d with
   | .str x=>.int (x.length:Nat) :: x.cps.toList.map fun n=>D.int (n:Nat)
   | _=>[]
 | .list s _,d=>match d with
   | .lst ds=>.int (ds.length:Nat) :: (ds.map fun d=>By s d).flatten
   | _=>[]
 | .pair s r,d=>match d with
   | .tup [a,b]=>By s a++By r b
   | _=>[]
 | .choice ss,d=>match d with
   | .tup [_,.int k,x]=>.int k :: Ih ss k.toNat x
   | _=>[]
def Ih:List Sh→Nat→D→List D
 | [],_,_=>[]
 | s :: _,0,d=>By s d
 | _ :: r,k + 1,d=>Ih r k d
end
theorem ES:∀(ss:List Sh) (k:Nat) (s:Sh) (d:D),ss[k]?=some s→Ih ss k d=By s d
 | [],k,s,d,h=>by simp at h
 | s :: r,0,s',d,h=>by simp at h;subst h;simp [Ih]
 | s :: r,k + 1,s',d,h=>by rw [Ih];exact ES r k s' d (by simpa using h)
def GZ (f:Fn) (n:Nat):Prop:=∀(s:Sh),s.depth≤n→wf s=true→∀d,Be s d=true→(By s d).length≤LIM→Pure1 f [s.d,d] (.lst (By s d))
def H0 (f:Fn):Prop:=∀(n j:Nat),j≤1000→Pure1 f [.int n,.int j] (.int ((n / 2 ^ (8 * j):Nat):Int))
theorem QY:H0 (fnOf 2 2 FD):=by
 intro n j hj S
 refine Bh rfl ?_
 unfold FD
 walk_at "w"
 refine DI (FT (by decide) (by decide)) ?_
 refine Wh (by lia) ?_
 refine ⟨?_,rfl⟩
 have:(8 * (j:Int)).toNat=8 * j:=by lia
 rw [this]
 simp
def Fv (f:Fn):Prop:=∀n:Nat,n < 256 ^ 9→Pure1 f [.int n] (.int (wid n:Nat))
theorem P3:Fv (fnOf 1 1 DY):=by
 intro n _ S
 refine Bh rfl ?_
 unfold DY
 walk_at "w"
 refine UQ ?_
 walk_at "w"
 refine ⟨?_,rfl⟩
 rw [←OQ]
 simp
theorem Q0:Fv (fnOf 1 2 Es):=by
 intro n hb S
 have hn:wid n < Kr:=Nat.lt_of_le_of_lt (F3 9 n hb) (by decide)
 refine Bh rfl ?_
 unfold Es
 walk_at "w"
 refine Hs (fun k t=>∃m:Nat,k=wid m∧t=⟨[some (.val (.int m)),some (.val (.int ((wid n - wid m:Nat):Int)))],S⟩∧wid m≤wid n) ?_ Kr (wid n) _ hn ⟨n,rfl,by rw [Nat.sub_self];rfl,Nat.le_refl _⟩
 rintro k t ⟨m,rfl,rfl,hm⟩
 walk_at "w"
 by_cases z:0 < m
 ·rw [decide_eq_true (by lia:(0:Int) < m)]
  refine ⟨_,HW z,?_⟩
  have:=HW z
  walk_at "w"
  refine ⟨m / 256,rfl,?_,by lia⟩
  have e:((wid n - wid (m / 256):Nat):Int)=((wid n - wid m:Nat):Int) + 1:=by lia
  rw [e]
  rfl
 ·have:m=0:=by lia
  subst this
  rw [decide_eq_false (by lia)]
  walk_at "w"
  exact ⟨by simp [wid],rfl⟩
theorem JB {lo hi:Int} (h:wf (.number lo hi)=true):(hi - lo).toNat < 256 ^ 9:=by
 simp only [wf,Bool.and_eq_true,decide_eq_true_eq] at h
 have:(256:Nat) ^ 9=4722366482869645213696:=by decide
 lia
theorem NL (x:Str):(x.cps.toList.map fun c=>D.str ⟨#[c]⟩).map (fun d=>match d with | .str y=>D.int (y.cps.getD 0 0:Nat) | _=>d)=x.cps.toList.map fun n=>D.int (n:Nat):=by
 rw [List.map_map]
 refine List.map_congr_left fun n _=>?_
 rfl
theorem N6 {c cm:Fn} {n:Nat} (hc:GZ c n) (hm:Fv cm):GZ (fnOf 2 6 (DU c cm)) (n + 1):=by
 intro s hs hwf d hf hlen S
 have hL:LIM=100000:=rfl
 refine Bh rfl ?_
 unfold DU
 cases s with
 | nothing=>
   rw [Sh.d]
   walk_at "w"
   exact ⟨by rw [By],rfl⟩
 | number lo hi=>
   have hsp:=JB hwf
   have hwd:=F3 9 _ hsp
   simp only [wf,Bool.and_eq_true,decide_eq_true_eq] at hwf
   cases d <;> simp [Be] at hf
   rename_i i
   rw [Sh.d]
   have e1:hi - lo=(((hi - lo).toNat:Nat):Int):=by lia
   have e2:i - lo=(((i - lo).toNat:Nat):Int):=by lia
   walk_at "w"
   rw [e1,e2]
   refine (hm _ hsp).use ?_
   walk_at "w"
   refine EL (BR (by lia) (by lia)) ?_
   refine Dn (fun r t=>∃(z:Option Sl) (m:Nat) (acc:List D),t=⟨[some (.val (.tup [.str "number",.int lo,.int hi])),some (.val (.int i)),some (.val (.int m)),some (.own acc),z,none],S⟩∧nb r.length m++acc=nb (wid (hi - lo).toNat) (i - lo).toNat) _ _ ⟨_,_,_,rfl,by simp [BT]⟩ ?_ ?_
   ·rintro d r t ⟨z,m,acc,rfl,hacc⟩ _
    rw [List.length_cons,nb,List.append_assoc] at hacc
    have hl:acc.length < LIM:=by
     have:=congrArg List.length hacc
     simp only [List.length_append,List.length_cons,List.length_nil,Lf] at this
     lia
    walk_at "w"
    refine V0 rfl hl ?_
    walk_at "w"
    exact ⟨_,m / 256,_,rfl,hacc⟩
   ·rintro t ⟨z,m,acc,rfl,hacc⟩
    rw [List.length_nil,nb,List.nil_append] at hacc
    walk_at "w"
    exact ⟨by rw [hacc,By],rfl⟩
 | text q=>
   simp only [wf,Bool.and_eq_true,decide_eq_true_eq] at hwf
   cases d <;> simp [Be] at hf
   rename_i x
   rw [Sh.d]
   walk_at "w"
   refine UY (by rw [hL];lia) ?_
   walk_at "w"
   refine (JG (f:=fun d=>match d with | .str y=>D.int (y.cps.getD 0 0:Nat) | _=>d) (fr:=[]) ?_).mono ?_
   ·intro d m
    obtain ⟨k,hk,rfl⟩:=List.mem_map.mp m
    walk_at "w"
    refine Wd rfl ?_
    exact ⟨rfl,rfl⟩
   ·rintro xs t' ⟨rfl,hS⟩
    rw [NL]
    have hl:x.cps.toList.length≤250:=by rw [←Fz];lia
    refine BQ (by rw [List.length_map,hL];lia) ?_
    walk_at "w"
    refine BQ (by simp only [List.length_map,List.length_cons,List.length_nil,hL];lia) ?_
    walk_at "w"
    exact ⟨by rw [By];rfl,hS⟩
 | list s q=>
   simp only [wf,Bool.and_eq_true,decide_eq_true_eq] at hwf
   rw [Sh.depth] at hs
   cases d <;> simp only [Be,Bool.false_eq_true] at hf
   rename_i ds
   rw [Bool.and_eq_true,decide_eq_true_eq,List.all_eq_true] at hf
   rw [By] at hlen ⊢
   rw [Sh.d]
   walk_at "w"
   refine Dn (fun r t=>∃(z:Option Sl) (acc:List D),t=⟨[some (.val (.tup [.str "list",s.d,.int q])),some (.val (.lst ds)),none,some (.own acc),none,z],S⟩∧acc++(r.map fun d=>By s d).flatten = .int (ds.length:Nat) :: (ds.map fun d=>By s d).flatten) _ _ ⟨_,_,rfl,rfl⟩ ?_ ?_
   ·rintro d r t ⟨z,acc,rfl,hacc⟩ m
    rw [List.map_cons,List.flatten_cons,←List.append_assoc] at hacc
    have hl:acc.length + (By s d).length≤LIM:=by
     have:=congrArg List.length hacc
     rw [List.length_append,List.length_append] at this
     lia
    walk_at "w"
    refine (hc s (by lia) hwf.2 d (hf.2 d m) (by lia)).use ?_
    walk_at "w"
    refine BQ hl ?_
    exact ⟨_,_,rfl,hacc⟩
   ·rintro t ⟨z,acc,rfl,hacc⟩
    rw [List.map_nil,List.flatten_nil,List.append_nil] at hacc
    walk_at "w"
    exact ⟨by rw [hacc],rfl⟩
 | pair s r=>
   simp only [wf,Bool.and_eq_true] at hwf
   rw [Sh.depth] at hs
   match d,hf,hlen with
   | .tup [a,b],hf,hlen=>
     simp only [Be,Bool.and_eq_true] at hf
     rw [By] at hlen ⊢
     rw [List.length_append] at hlen
     rw [Sh.d]
     walk_at "w"
     refine (hc s (by lia) hwf.1 a hf.1 (by lia)).use ?_
     walk_at "w"
     refine (hc r (by lia) hwf.2 b hf.2 (by lia)).use ?_
     walk_at "w"
     refine BQ (by lia) ?_
     walk_at "w"
     exact ⟨rfl,rfl⟩
 | choice ss=>
   simp only [wf,Bool.and_eq_true,decide_eq_true_eq] at hwf
   rw [Sh.depth] at hs
   match d,hf,hlen with
   | .tup [.str o,.int k,x],hf,hlen=>
     simp only [Be,Bool.and_eq_true,decide_eq_true_eq] at hf
     obtain ⟨⟨ho,k0,k1⟩,hf⟩:=hf
     have hk:k.toNat < ss.length:=by lia
     have e1:ss[k.toNat]?=some ss[k.toNat]:=List.getElem?_eq_getElem hk
     have hl:=EJ ss
     have e2:atI (shD ss) k=some (ss[k.toNat]).d:=by
      unfold atI
      rw [Jg k0 (by lia)]
      show (shD ss)[k.toNat]?=_
      rw [FZ,e1];rfl
     rw [Dx ss _ _ _ e1] at hf
     rw [By] at hlen ⊢
     rw [ES ss _ _ _ e1] at hlen ⊢
     rw [List.length_cons] at hlen
     rw [Sh.d]
     walk_at "w"
     refine HV e2 ?_
     walk_at "w"
     refine (hc _ (Nat.le_trans (Cl ss _ _ e1) (by lia)) (C5 hwf.2 _ (List.getElem_mem hk)) x hf (by lia)).use ?_
     walk_at "w"
     refine BQ (by simp only [List.length_cons,List.length_nil];lia) ?_
     walk_at "w"
     exact ⟨rfl,rfl⟩
theorem DR (a:Int) (n:Nat):(BT a n).length=n:=by simp [BT]
theorem E6 {a:Int} {n j:Nat} {d:D} {r:List D} (e:d :: r=(BT a n).drop j):d = .int (a + j)∧r=(BT a n).drop (j + 1)∧j < n:=by
 have hj:j < (BT a n).length:=by
  rcases Nat.lt_or_ge j (BT a n).length with h | h
  ·exact h
  ·rw [List.drop_eq_nil_of_le h] at e;cases e
 rw [List.drop_eq_getElem_cons hj] at e
 injection e with e1 e2
 rw [DR] at hj
 refine ⟨?_,e2,hj⟩
 rw [e1]
 simp [BT]
def sgs:Str:=" !\"#$ &'()*+,-./0123456789:;<=>?@ABCDEFGHIJKLMNOPQRSTUVWXYZ[\\]^_`abcdefghijklmnopqrstuvwxyz{|}~"
theorem TH {c:Nat} (h:BI c=true):atI sgs.cps.toList ((c:Int) - 32)=some c:=by
 have hl:sgs.cps.toList.length=95:=by decide +kernel
 have hall:(List.range 127).all (fun c=>!BI c || decide (sgs.cps.toList[c - 32]?=some c))=true:=by decide +kernel
 have h':=h
 simp only [BI,Bool.and_eq_true,decide_eq_true_eq] at h'
 have:=List.all_eq_true.mp hall c (List.mem_range.mpr (by lia))
 rw [h,Bool.not_true,Bool.false_or,decide_eq_true_eq] at this
 rw [show ((c:Int) - 32)=((c - 32:Nat):Int) by lia]
 exact CP this
section
variable {t:T} {P:D→T→Prop} {R:Out→T→Prop}
def PL (h:D→M Out) (R:Out→T→Prop) (o:Out) (t1:T):Prop:=match o with
 | .ret (.exc n ds)=>n∈BF∧W (h (.exc n ds)) t1 R
 | o=>R o t1
theorem Wj {b:M Out} {h:D→M Out} (w:W b t (PL h R)):W (FI b h) t R:=by
 obtain ⟨o,t1,e,q⟩:=w
 have rest:∀d,BN d=false→o = .ret d→W (FI b h) t R:=fun d hd ho=>by
  subst ho
  refine ⟨.ret d,t1,?_,?_⟩
  ·unfold FI;rw [e];cases d <;> first | rfl | cases hd
  ·cases d <;> first | exact q | cases hd
 cases o with
 | next=>exact ⟨.next,t1,by unfold FI;rw [e],q⟩
 | brk=>exact ⟨.brk,t1,by unfold FI;rw [e],q⟩
 | cont=>exact ⟨.cont,t1,by unfold FI;rw [e],q⟩
 | ret d=>
   cases d with
   | exc n ds=>
     obtain ⟨hn,o2,t2,e2,q2⟩:=q
     exact ⟨o2,t2,by unfold FI;rw [e];dsimp only;rw [if_pos hn,e2],q2⟩
   | _=>exact rest _ rfl rfl
theorem OE {h:D→M Out} {t1:T} (q:R .next t1):PL h R .next t1:=q
theorem RL {h:D→M Out} {n:Str} {ds:List D} {t1:T} (e:n∈BF) (q:W (h (.exc n ds)) t1 R):PL h R (.ret (.exc n ds)) t1:=⟨e,q⟩
def xK (d:D) (A B:Prop):Prop:=if BN d=true then A else B
theorem Vf {d:D} {A B:Prop} (e:BN d=false) (b:B):xK d A B:=by unfold xK;rw [if_neg (by rw [e];decide)];exact b
theorem Ve {d:D} {A B:Prop} (e:BN d=true) (a:A):xK d A B:=by unfold xK;rw [if_pos e];exact a
theorem U8 {i:Nat} {f:M D} (w:W f t fun d t1=>xK d (R (.ret d) t1) (R .next ⟨t1.env.set i (some (.val d)),t1.S⟩)):W (EC i f) t R:=by
 refine Gs (w.mono fun d t1 q=>?_)
 unfold xK at q
 split at q
 ·next h=>rw [if_pos h];exact ⟨_,_,rfl,q⟩
 ·next h=>rw [if_neg h];exact ⟨_,_,rfl,q⟩
theorem wNx {f:M D} (w:W f t fun d t1=>BN d=false∧P d t1):W (nxD f) t P:=by
 refine Gs (w.mono fun d t1 ⟨h,q⟩=>?_)
 rw [if_neg (by rw [h];decide)]
 exact ⟨_,_,rfl,q⟩
theorem UR {g:M D} {h:D→M D} (w:W g t fun y t1=>xK y (P y t1) (W (h y) t1 fun d t2=>BN d=false∧P d t2)):W (IY g h) t P:=by
 refine Gs (w.mono fun y t1 q=>?_)
 unfold xK at q
 split at q
 ·next z=>rw [if_pos z];exact ⟨_,_,rfl,q⟩
 ·next z=>rw [if_neg z];exact wNx q
theorem UP {f g:M D} {h:D→D→M D} (w:W f t fun x t1=>W (IY g (h x)) t1 P):W (Ip f g h) t P:=Gs w
theorem RW {n:Str} {f:M (List D)} (w:W f t fun ds t1=>ds.length≤1000∧R (.ret (.exc n [])) t1):W (IL n f) t R:=
 Gs (w.mono fun ds t1 ⟨e,q⟩=>by rw [if_pos e];exact ⟨_,_,rfl,q⟩)
theorem RZ {n:Str} {f:M D} (w:W f t fun _ t1=>R (.ret (.exc n [])) t1):W (IL n (Ac f Aj)) t R:=RW (Dd (w.mono fun d t1 q=>Ft ⟨by show 1≤1000;decide,q⟩))
theorem VZ {n n':Str} {ds:List D} {i:Nat} {s:M Out} {r:D→M Out} (e:D5 n n'=true) (w:W s { t with env:=t.env.set i (some (.val (.exc n ds))) } fun o t2=>R o (unE i t2)):W (hAs n' i s r (.exc n ds)) t R:=by
 obtain ⟨o,t2,e1,q⟩:=w
 exact ⟨o,unE i t2,by unfold hAs;dsimp only;rw [if_pos e,e1],q⟩
theorem UU {m n:Str} {ds:List D} (e:m∈BF) (q:P (.bl (D5 m n)) t):W (FF n (.exc m ds)) t P:=⟨_,_,by unfold FF;dsimp only;rw [if_pos e];rfl,q⟩
theorem UO {m n:Str} {ds:List D} {d:D} (e:m∈BF) (l:((Hx m).zip ds).lookup n=some d) (q:P d t):W (IX n (.exc m ds)) t P:=⟨_,_,by unfold IX;dsimp only;rw [if_pos e,l];rfl,q⟩
end
theorem RY {n:Str} {f g:M D} {t:T} {R:Out→T→Prop} (w:W f t fun a t1=>W g t1 fun b t2=>R (.ret (.exc n [a,b])) t2):W (GV n (Ac f (Ac g Aj))) t R:=
 Gs (Dd (w.mono fun a t1 q=>Dd (q.mono fun b t2 q=>Ft ⟨_,_,rfl,q⟩)))
local macro_rules | `(tactic| walk_at "x1")=>`(tactic| first
 | walk_at "w1"
 | with_reducible refine Wj ?_ | with_reducible refine U8 ?_ | with_reducible refine wDropX ?_ | with_reducible refine wAsgX ?_ | with_reducible refine wNx ?_ | with_reducible refine UP ?_ | with_reducible refine wBinY ?_ | with_reducible refine UR ?_ | with_reducible refine wCallY ?_ | with_reducible refine OE ?_
 | ((with_reducible refine' RL ?wv ?_);(case wv=>decide)) | ((with_reducible refine' Vf ?wv ?_);(case wv=>exact rfl)) | ((with_reducible refine' Ve ?wv ?_);(case wv=>exact rfl))
 | with_reducible refine wRaiseT ?_ | with_reducible refine RZ ?_ | ((with_reducible refine' VZ ?wv ?_);(case wv=>decide)) | ((with_reducible refine' wHAsN ?wv ?_);(case wv=>decide)) | ((with_reducible refine' wHNo ?wv ?_);(case wv=>decide)) | ((with_reducible refine' wHNoN ?wv ?_);(case wv=>decide))
 | ((with_reducible refine' UU ?wv ?_);(case wv=>decide)) | with_reducible refine wIsiXN ?_ | ((with_reducible refine' UO ?wv ?wu ?_);(case wv=>decide);(case wu=>exact rfl)))
local macro_rules | `(tactic| walk_at "x")=>`(tactic| repeat (walk_at "x1"))
inductive Rd where
 | done (v:D)
 | need (ok:Nat→Bool) (nx:Nat→Rd)
inductive RR where
 | told (v:D) (a:Nat)
 | short
 | broken (a:Nat)
def Rd.run:Rd→List Nat→Nat→RR
 | .done v,_,a=>.told v a
 | .need ok nx,w,a=>match w[a]? with
   | none=>.short
   | some b=>if ok b=true then (nx b).run w (a + 1) else .broken a
def Rd.bnd:Rd→(D→Rd)→Rd
 | .done v,k=>k v
 | .need ok nx,k=>.need ok fun b=>(nx b).bnd k
def RR.thn (r:RR) (w:List Nat) (k:D→Rd):RR:=match r with
 | .told v a=>(k v).run w a
 | .short=>.short
 | .broken a=>.broken a
theorem BD {ok:Nat→Bool} {nx:Nat→Rd} {w:List Nat} {a:Nat} (h:w[a]?=none):(Rd.need ok nx).run w a = .short:=by rw [Rd.run,h]
theorem BE {ok:Nat→Bool} {nx:Nat→Rd} {w:List Nat} {a b:Nat} (h:w[a]?=some b):(Rd.need ok nx).run w a=if ok b=true then (nx b).run w (a + 1) else .broken a:=by rw [Rd.run,h]
theorem Cd (k:D→Rd) (w:List Nat):∀(p:Rd) (a:Nat),(p.bnd k).run w a=(p.run w a).thn w k:=by
 intro p
 induction p with
 | done v=>intro a;rfl
 | need ok nx ih=>
   intro a
   rw [Rd.bnd]
   cases h:w[a]? with
   | none=>rw [BD h,BD h];rfl
   | some b=>
     rw [BE h,BE h]
     by_cases q:ok b=true
     ·rw [if_pos q,if_pos q];exact ih b (a + 1)
     ·rw [if_neg q,if_neg q];rfl
theorem EK {v:D} {w:List Nat} {b:Nat}:∀(p:Rd) (a:Nat),a≤w.length→p.run w a = .told v b→a≤b∧b≤w.length:=by
 intro p
 induction p with
 | done v'=>intro a ha h;cases h;exact ⟨Nat.le_refl _,ha⟩
 | need ok nx ih=>
   intro a ha h
   cases e:w[a]? with
   | none=>rw [BD e] at h;cases h
   | some c=>
     rw [BE e] at h
     have hl:=(List.getElem?_eq_some_iff.mp e).1
     by_cases q:ok c=true
     ·rw [if_pos q] at h;have:=ih c (a + 1) hl h;lia
     ·rw [if_neg q] at h;cases h
def Cj (lo:Int) (M:Nat):Nat→Nat→Rd
 | 0,x=>.done (.int (lo + x))
 | r + 1,x=>.need (fun b=>decide (x * 256 + b≤M / 2 ^ (8 * r))) fun b=>Cj lo M r (x * 256 + b)
def DA:Nat→List Nat→Rd
 | 0,cs=>.done (.str ⟨cs.toArray⟩)
 | n + 1,cs=>.need BI fun c=>DA n (cs++[c])
def EY (p:Rd):Nat→List D→Rd
 | 0,ds=>.done (.lst ds)
 | n + 1,ds=>p.bnd fun v=>EY p n (ds++[v])
def pSh:Nat→Sh→Rd
 | 0,_=>.done .non
 | _ + 1,.nothing=>.done .non
 | _ + 1,.number lo hi=>Cj lo (hi - lo).toNat (wid (hi - lo).toNat) 0
 | _ + 1,.text q=>.need (fun b=>decide ((b:Int)≤q)) fun b=>DA b []
 | n + 1,.list s q=>.need (fun b=>decide ((b:Int)≤q)) fun b=>EY (pSh n s) b []
 | n + 1,.pair s r=>(pSh n s).bnd fun v=>(pSh n r).bnd fun u=>.done (.tup [v,u])
 | n + 1,.choice ss=>.need (fun b=>decide (b < ss.length)) fun b=>(pSh n (ss.getD b .nothing)).bnd fun v=>.done (.tup [.str "of",.int b,v])
mutual
def plD:D→Bool
 | .lst xs=>pls xs
 | .tup xs=>pls xs
 | .obj _=>false
 | .scr _=>false
 | .ty _=>false
 | .exc _ _=>false
 | .dic=>false
 | _=>true
def pls:List D→Bool
 | []=>true
 | d :: r=>plD d && pls r
end
theorem OW {xs:List D} {k:Int} (h0:0≤k) (h1:k≤xs.length):BG xs none (some k)=xs.take k.toNat:=by
 have:HT.sIx xs.length xs.length (some k)=k.toNat:=by simp only [HT.sIx];rw [if_neg (by lia)];lia
 unfold BG
 rw [this]
 simp [HT.sIx]
theorem OV {xs:List D} {k:Int} (h0:0≤k) (h1:k≤xs.length):BG xs (some k) none=xs.drop k.toNat:=by
 have:HT.sIx xs.length 0 (some k)=k.toNat:=by simp only [HT.sIx];rw [if_neg (by lia)];lia
 unfold BG
 rw [this]
 simp only [HT.sIx]
 rw [List.take_of_length_le (by simp)]
def okE:Nat→D→Bool
 | _,.str x=>decide (x.length≤90000)
 | 0,.lst _=>false
 | 0,.tup _=>false
 | n + 1,.lst xs=>decide (xs.length≤1000) && xs.all (okE n)
 | n + 1,.tup xs=>decide (xs.length≤1000) && xs.all (okE n)
 | _,.obj _=>false
 | _,.scr _=>false
 | _,.ty _=>false
 | _,.exc _ _=>false
 | _,_=>true
theorem Q7 (n:Nat) (x:Str):okE n (.str x)=decide (x.length≤90000):=by cases n <;> rw [okE]
theorem Mw (n:Nat) (xs:List D):okE (n + 1) (.lst xs)=(decide (xs.length≤1000) && xs.all (okE n)):=by rw [okE]
theorem Mx (n:Nat) (xs:List D):okE (n + 1) (.tup xs)=(decide (xs.length≤1000) && xs.all (okE n)):=by rw [okE]
theorem LJ:∀(n:Nat) (d:D),smD d=true→dpt d≤n→okE n d=true
 | 0,d,_,h=>absurd (Mi d) (by lia)
 | n + 1,d,h,hd=>by
   cases d <;> first | (simp [smD] at h;done) | rfl | skip
   ·rw [smD,decide_eq_true_eq] at h
    rw [Q7,decide_eq_true_eq]
    lia
   ·rw [smD,Bool.and_eq_true,decide_eq_true_eq] at h
    rw [dpt] at hd
    rw [Mx,Bool.and_eq_true,decide_eq_true_eq,List.all_eq_true]
    exact ⟨by lia,fun x m=>LJ n x (JA h.2 x m) (by have:=Hu x m;lia)⟩
   ·rw [smD,Bool.and_eq_true,decide_eq_true_eq] at h
    rw [dpt] at hd
    rw [Mw,Bool.and_eq_true,decide_eq_true_eq,List.all_eq_true]
    exact ⟨by lia,fun x m=>LJ n x (JA h.2 x m) (by have:=Hu x m;lia)⟩
def pos (i:Int):Int:=if 0 < i then i else 0
theorem Sj {K A B x1 x2 c1 c2:Int} (hK:1≤K) (hA:0≤A) (hc:0≤c1) (h0:0≤x1) (hB:B≤pos (A - x1)) (h1:x1≤c1 + K * A) (h2:x2≤c2 + K * B):x1 + x2≤c1 + c2 + K * A:=by
 have m1:K * B≤K * pos (A - x1):=Int.mul_le_mul_of_nonneg_left hB (by lia)
 unfold pos at m1
 split at m1
 ·have m2:1 * x1≤K * x1:=Int.mul_le_mul_of_nonneg_right hK h0
  rw [Int.mul_sub] at m1
  lia
 ·rw [Int.mul_zero] at m1
  lia
theorem GR (i:Int):0≤pos i:=by unfold pos;split <;> lia
theorem Gn {a b:Int} (h:a≤b):pos a≤pos b:=by unfold pos;split <;> split <;> lia
theorem Pn {a m:Int} (h0:0≤m) (h:m=0∨2 * m≤a):pos (a - m) + m≤pos a:=by unfold pos;split <;> split <;> lia
theorem Ln (a b:Int):pos a≤pos (pos b - (b - a)):=by unfold pos;(repeat' split) <;> lia
theorem Lb {w:Nat} {a a1 pb pb':Int} (hw:w≤9) (ea:a1=a - 1) (h:pb'≤pb):(w:Int)≤9 * (a - a1) + (pb - pb'):=by lia
theorem HC {a a1:Int} (ea:a1=a - 1):1≤a - a1:=by lia
theorem HB {a a1 L:Int} (ea:a1=a - 1) (h:0≤L):a - a1≤((1:Nat):Int) + L:=by lia
theorem HQ {d D:Nat} {p q y C:Int} (hd:d + 1≤D) (hp:0≤p) (hpq:p≤q) (h:y≤C + (14 * (d:Int)) * p + 14 * p):y≤C + (14 * (D:Int)) * q:=by
 have h1:(14 * ((d:Int) + 1)) * p≤(14 * (D:Int)) * q:=Int.mul_le_mul (by lia) hpq hp (by lia)
 rw [Int.mul_add,Int.add_mul] at h1
 lia
theorem IP {d D:Nat} {p y C:Int} (hd:d≤D) (hp:0≤p) (h:y≤C + (14 * (d:Int)) * p):y≤C + (14 * (D:Int)) * p:=by
 have h1:(14 * (d:Int)) * p≤(14 * (D:Int)) * p:=Int.mul_le_mul_of_nonneg_right (by lia) hp
 lia
theorem QT {a i:Int} (hi:1≤i):(if a / (2 * i) > 0 then a / (2 * i) else 0) * 2≤pos a:=by
 split
 ·next h=>
  have h1:=Int.ediv_mul_le a (b:=2 * i) (by lia)
  have h2:a / (2 * i) * 2≤a / (2 * i) * (2 * i):=Int.mul_le_mul_of_nonneg_left (by lia) (by lia)
  unfold pos
  split <;> lia
 ·have:=GR a;lia
theorem Vs:cnt .nothing=1:=by simp [cnt]
theorem Vt (lo hi:Int):cnt (.number lo hi)=1:=by simp [cnt]
theorem Vu (q:Int):cnt (.text q)=1:=by simp [cnt]
structure ValueRes2 (k c l:Nat) (S:List Ob) (s:Sh) (a b:Int) (r:D) (S':List Ob):Prop where
 fit:Be s r=true
 lft:∃a' b':Int,S'[l]?=some (.lst [.int a',.int b'])∧((By s r).length:Int)≤9 * (a - a') + (pos b - pos b')∧pos b'≤pos b∧1≤a - a'∧a - a'≤cnt s + (14 * (s.depth:Int)) * pos a
 deck:DeckAt k c S'
 kp:KeepL k c l S S'
def F5 (f:Fn) (n:Nat):Prop:=∀(s:Sh),s.depth≤n→wf s=true→cnt s≤28→∀(k c l:Nat) (S:List Ob) (a b:Int),l≠k→l≠c→DeckAt k c S→S[l]?=some (.lst [.int a,.int b])→Wf f [.obj k,s.d,.obj l] S fun r S'=>ValueRes2 k c l S s a b r S'
theorem OH {cv cd cc cs cf:Fn} {n:Nat} (hd:DrawOk cd) (hc:G0 cc n) (hs:F4 cs) (hf:FarOk cf) (hv:n=0∨F5 cv n):F5 (fnOf 3 8 (DX cv cd cc cs cf)) (n + 1):=by
 intro s hsd hw hcn k c l S a b hlk hlc dk hx
 refine Bh rfl ?_
 unfold DX
 have hL:LIM=100000:=rfl
 have rec_:∀{s':Sh} {S:List Ob} {a b:Int},s'.depth≤n→wf s'=true→cnt s'≤28→DeckAt k c S→S[l]?=some (.lst [.int a,.int b])→Wf cv [.obj k,s'.d,.obj l] S fun r S'=>ValueRes2 k c l S s' a b r S':=fun {s' S a b} h1 h2 h3 d e=>by
  rcases hv with rfl | hv
  ·exact absurd s'.depth_pos (by lia)
  ·exact hv s' h1 h2 h3 k c l S a b hlk hlc d e
 have g0:(S.set l (.lst [.int (a - 1),.int b]))[l]?=some (.lst [.int (a - 1),.int b]):=EF hx
 have kp0:KeepL k c l S (S.set l (.lst [.int (a - 1),.int b])):=.setO
 have dk0:DeckAt k c (S.set l (.lst [.int (a - 1),.int b])):=dk.setO hlk hlc
 refine LQ ?_
 walk_at "w"
 refine Cw hx (by rfl) ?_
 walk_at "w"
 refine Gu (n:=0) hx (by rfl) ?_
 refine C6 ?_
 change W _ ⟨[some (.val (.obj k)),some (.val s.d),some (.val (.obj l)),none,none,none,none,none],S.set l (.lst [.int (a - 1),.int b])⟩ _
 generalize S.set l (.lst [.int (a - 1),.int b])=S0 at g0 kp0 dk0 ⊢
 clear hx dk
 refine LQ ?_
 walk_at "w"
 refine Cw g0 (by rfl) ?_
 walk_at "w"
 refine Gu (n:=1) g0 (by rfl) ?_
 refine C6 ?_
 change W _ ⟨[some (.val (.obj k)),some (.val s.d),some (.val (.obj l)),none,none,none,none,none],S0.set l (.lst [.int (a - 1),.int (b - 1)])⟩ _
 have g1:(S0.set l (.lst [.int (a - 1),.int (b - 1)]))[l]?=some (.lst [.int (a - 1),.int (b - 1)]):=EF g0
 have kp1:KeepL k c l S (S0.set l (.lst [.int (a - 1),.int (b - 1)])):=kp0.trans .setO
 have dk1:DeckAt k c (S0.set l (.lst [.int (a - 1),.int (b - 1)])):=dk0.setO hlk hlc
 generalize S0.set l (.lst [.int (a - 1),.int (b - 1)])=S1 at g1 kp1 dk1 ⊢
 clear g0 kp0 dk0
 obtain ⟨a1,ea⟩:∃a1,a1=a - 1:=⟨_,rfl⟩
 obtain ⟨b1,eb⟩:∃b1,b1=b - 1:=⟨_,rfl⟩
 rw [←ea,←eb] at g1
 have hpa:0≤pos a:=GR a
 have hpb1:pos b1≤pos b:=Gn (by rw [eb];exact Int.sub_le_self _ (by decide))
 have hpa1:pos a1≤pos a:=Gn (by rw [ea];exact Int.sub_le_self _ (by decide))
 have hpa0:=GR a1
 have leaf:∀{d:Nat},(0:Int)≤(14 * (d:Int)) * pos a:=fun {d}=>Int.mul_nonneg (by lia) hpa
 cases s with
 | nothing=>
   rw [Sh.d]
   walk_at "w"
   exact ⟨by rw [Be];rfl,⟨_,_,g1,by rw [By];exact Lb (w:=0) (Nat.zero_le _) ea hpb1,hpb1,HC ea,by rw [Vs];exact HB ea leaf⟩,dk1,kp1⟩
 | number lo hi=>
   simp only [wf,Bool.and_eq_true,decide_eq_true_eq] at hw
   have hwd : wid (hi - lo).toNat ≤ 8 := F3 8 _ (by have : (256 : Nat) ^ 8 = 18446744073709551616 := by decide
                                                    lia)
   rw [Sh.d]
   walk_at "w"
   refine Cw g1 (by rfl) ?_
   walk_at "w"
   refine Gu (n:=1) g1 (by rfl) ?_
   have g2:(S1.set l (.lst [.int a1,.int (b1 - 8)]))[l]?=some (.lst [.int a1,.int (b1 - 8)]):=EF g1
   have kp2:KeepL k c l S (S1.set l (.lst [.int a1,.int (b1 - 8)])):=kp1.trans .setO
   have dk2:DeckAt k c (S1.set l (.lst [.int a1,.int (b1 - 8)])):=dk1.setO hlk hlc
   walk_at "w"
   refine hf.use dk2 fun i S2 i0 i1 d3 k3=>?_
   walk_at "w"
   refine JE (by lia) ?_
   walk_at "w"
   refine hd.use 1000 d3 (fun j S3 j0 j1 d4 k4=>?_)
   walk_at "w"
   refine JE (by lia) ?_
   walk_at "w"
   refine hd.use 4 d4 (fun g S4 z0 z1 d5 k5=>?_)
   have w1:=Int.emod_nonneg (if i < 0 then -i else i) (b:=hi - lo + 1) (by lia)
   have w2:=Int.emod_lt_of_pos (if i < 0 then -i else i) (b:=hi - lo + 1) (by lia)
   have w3:=Int.emod_nonneg j (b:=hi - lo + 1) (by lia)
   have w4:=Int.emod_lt_of_pos j (b:=hi - lo + 1) (by lia)
   obtain ⟨y,ey,m,rfl,m0,m1⟩:=GP (xs:=[D.int 0,D.int (hi - lo),D.int ((if i < 0 then -i else i) % (hi - lo + 1)),D.int (j % (hi - lo + 1))]) z0 (by simpa using z1) (p:=fun d=>∃m:Int,d = .int m∧0≤m∧m≤hi - lo) (by
    simp only [List.forall_mem_cons]
    exact ⟨⟨_,rfl,by lia,by lia⟩,⟨_,rfl,by lia,by lia⟩,⟨_,rfl,by lia,by lia⟩,⟨_,rfl,by lia,by lia⟩,fun _ z=>nomatch z⟩)
   refine B8 ey ?_
   walk_at "w"
   refine ⟨by simp only [Be,Bool.and_eq_true,decide_eq_true_eq];lia,⟨_,_,k5.at hlk hlc (k4.at hlk hlc (k3.at hlk hlc g2)),by rw [By,Lf];exact Lb (Nat.le_trans hwd (by decide)) ea (Int.le_trans (Gn (Int.sub_le_self _ (by decide))) hpb1),Int.le_trans (Gn (Int.sub_le_self _ (by decide))) hpb1,HC ea,by rw [Vt];exact HB ea leaf⟩,d5,kp2.trans (k3.toL.trans (k4.toL.trans k5.toL))⟩
 | text q=>
   simp only [wf,Bool.and_eq_true,decide_eq_true_eq] at hw
   rw [Sh.d]
   walk_at "w"
   refine Cw g1 (by rfl) ?_
   walk_at "w"
   refine hd.use 5 dk1 (fun i S2 i0 i1 d2 k2=>?_)
   walk_at "w"
   refine hd.use 4 d2 (fun g S3 z0 z1 d3 k3=>?_)
   obtain ⟨y,ey,m,rfl,m0,m1⟩:=GP (xs:=[D.int 0,D.int 1,D.int i,D.int 250]) z0 (by simpa using z1) (p:=fun d=>∃m:Int,d = .int m∧0≤m∧m≤250) (by
    simp only [List.forall_mem_cons]
    exact ⟨⟨_,rfl,by lia,by lia⟩,⟨_,rfl,by lia,by lia⟩,⟨_,rfl,by lia,by lia⟩,⟨_,rfl,by lia,by lia⟩,fun _ z=>nomatch z⟩)
   refine B8 ey ?_
   walk_at "w"
   refine Qw ?_
   have hm:(0≤min3I q (if b1 / 2 > 0 then b1 / 2 else 0) m∧min3I q (if b1 / 2 > 0 then b1 / 2 else 0) m≤q)∧(min3I q (if b1 / 2 > 0 then b1 / 2 else 0) m=0∨2 * min3I q (if b1 / 2 > 0 then b1 / 2 else 0) m≤b1):=by
    unfold min3I
    refine ⟨⟨?_,?_⟩,?_⟩ <;> (repeat' split) <;> lia
   generalize min3I q (if b1 / 2 > 0 then b1 / 2 else 0) m=many at hm
   walk_at "w"
   have g3:=k3.at hlk hlc (k2.at hlk hlc g1)
   refine Cw g3 (by rfl) ?_
   walk_at "w"
   refine Gu (n:=1) g3 (by rfl) ?_
   have g4:(S3.set l (.lst [.int a1,.int (b1 - many)]))[l]?=some (.lst [.int a1,.int (b1 - many)]):=EF g3
   have kp4:KeepL k c l S (S3.set l (.lst [.int a1,.int (b1 - many)])):=kp1.trans (k2.toL.trans (k3.toL.trans .setO))
   have dk4:DeckAt k c (S3.set l (.lst [.int a1,.int (b1 - many)])):=d3.setO hlk hlc
   refine C6 ?_
   change W _ ⟨[some (.val (.obj k)),some (.val (.tup [.str "text",.int q])),some (.val (.obj l)),none,none,some (.val (.int many)),none,none],S3.set l (.lst [.int a1,.int (b1 - many)])⟩ _
   generalize S3.set l (.lst [.int a1,.int (b1 - many)])=S4 at g4 kp4 dk4 ⊢
   refine PZ (Qt ?_)
   walk_at "w"
   refine EL (BR (by lia) (by lia)) ?_
   refine (Fa (P:=fun xs t'=>∃ns:List Nat,xs=ns.map (fun n=>D.str ⟨#[n]⟩)∧ns.all BI=true∧ns.length=many.toNat∧DeckAt k c t'.S∧Keep k c S4 t'.S) (fun acc r t=>∃(ns:List Nat) (S':List Ob) (z:Option Sl),acc=ns.map (fun n=>D.str ⟨#[n]⟩)∧ns.all BI=true∧ns.length + r.length=many.toNat∧DeckAt k c S'∧Keep k c S4 S'∧t=⟨[z,some (.val (.obj k))],S'⟩) _ [] _ ⟨[],S4,_,rfl,rfl,by simp [BT],dk4,.refl,rfl⟩ ?_ ?_).mono ?_
   ·rintro acc d r t ⟨ns,S',z,rfl,h1,h2,h3,h4,rfl⟩ _
    refine GX (GY ?_)
    rw [if_pos rfl]
    walk_at "w"
    refine (hs k c S' h3).mono fun v S5 ⟨⟨n1,e,hn⟩,d5,k5⟩=>?_
    subst e
    refine ⟨ns++[n1],S5,_,by rw [List.map_append];rfl,by simp [List.all_append,h1,hn],by simp only [List.length_append,List.length_cons,List.length_nil] at h2 ⊢;lia,d5,h4.trans k5,rfl⟩
   ·rintro acc t ⟨ns,S',z,rfl,h1,h2,h3,h4,rfl⟩
    exact ⟨ns,rfl,h1,by simpa using h2,h3,h4⟩
   ·rintro xs t' ⟨ns,e,h1,h2,h3,h4⟩
    rw [List.nil_append] at e
    subst e
    refine BQ (by rw [List.length_map,hL];lia) ?_
    walk_at "w"
    refine ⟨_,_,_,rfl,rfl,Fr ns,⟨by decide +kernel,by rw [List.length_map];lia⟩,?_⟩
    have hby:((By (.text q) (.str (Txt.join (Str.ofString "") (ns.map fun n=>(⟨#[n]⟩:Str))))).length:Int)=1 + many:=by
     rw [By,List.length_cons,List.length_map,Gi]
     lia
    have hpb:pos (b1 - many) + many≤pos b1:=Pn hm.1.1 hm.2
    refine ⟨?_,⟨_,_,h4.at hlk hlc g4,by rw [hby];lia,by lia,HC ea,by rw [Vu];exact HB ea leaf⟩,h3,kp4.trans h4.toL⟩
    rw [Be]
    simp only [Bool.and_eq_true,decide_eq_true_eq]
    rw [Fz,Gi]
    exact ⟨by lia,h1⟩
 | list s q=>
   simp only [wf,Bool.and_eq_true,decide_eq_true_eq] at hw
   rw [Sh.depth] at hsd
   rw [cnt] at hcn
   rw [Sh.d]
   walk_at "w"
   refine Cw g1 (by rfl) ?_
   walk_at "w"
   refine (hc s (by lia) hw.2 S1).mono fun r S2 ⟨⟨i,e,i0,i1⟩,e2⟩=>?_
   subst e e2
   refine DI (FT (by decide) (by decide)) ?_
   refine PU (by lia) (by lia) ?_
   walk_at "w"
   refine Cw g1 (by rfl) ?_
   walk_at "w"
   refine Qw ?_
   have hhalf:=QT (a:=a1) i0
   have hm:(0≤min3I q (if a1 / (2 * i) > 0 then a1 / (2 * i) else 0) (if b1 / 12 > 0 then b1 / 12 else 0)∧min3I q (if a1 / (2 * i) > 0 then a1 / (2 * i) else 0) (if b1 / 12 > 0 then b1 / 12 else 0)≤q)∧2 * min3I q (if a1 / (2 * i) > 0 then a1 / (2 * i) else 0) (if b1 / 12 > 0 then b1 / 12 else 0)≤pos a1:=by
    generalize a1 / (2 * i)=z1 at hhalf
    generalize b1 / 12=z2
    unfold min3I
    refine ⟨⟨?_,?_⟩,?_⟩ <;> (repeat' split) <;> (try split at hhalf) <;> lia
   generalize min3I q (if a1 / (2 * i) > 0 then a1 / (2 * i) else 0) (if b1 / 12 > 0 then b1 / 12 else 0)=many at hm
   walk_at "w"
   refine hd.use 4 dk1 (fun u S3 u0 u1 d3 k3=>?_)
   walk_at "w"
   refine hd.use 4 d3 (fun g S4 z0 z1 d4 k4=>?_)
   obtain ⟨y,ey,m,rfl,m0,m1⟩:=GP (xs:=[D.int 0,D.int 1,D.int u,D.int 250]) z0 (by simpa using z1) (p:=fun d=>∃m:Int,d = .int m∧0≤m∧m≤250) (by
    simp only [List.forall_mem_cons]
    exact ⟨⟨_,rfl,by lia,by lia⟩,⟨_,rfl,by lia,by lia⟩,⟨_,rfl,by lia,by lia⟩,⟨_,rfl,by lia,by lia⟩,fun _ z=>nomatch z⟩)
   refine B8 ey ?_
   refine Ft (T0 ?_)
   have hm2:(0≤(if m < many then m else many)∧(if m < many then m else many)≤q)∧2 * (if m < many then m else many)≤pos a1:=by split <;> lia
   generalize (if m < many then m else many)=M at hm2 ⊢
   have g4:=k4.at hlk hlc (k3.at hlk hlc g1)
   have kp4:=kp1.trans (k3.toL.trans k4.toL (l:=l))
   walk_at "w"
   refine EL (BR (by lia) (by lia)) ?_
   refine (Fa (P:=fun xs t'=>(∀x∈xs,Be s x=true)∧xs.length=M.toNat∧(∃a b:Int,t'.S[l]?=some (.lst [.int a,.int b])∧(((xs.map fun d=>By s d).flatten).length:Int)≤9 * (a1 - a) + (pos b1 - pos b)∧pos b≤pos b1∧0≤a1 - a∧a1 - a≤xs.length * (cnt s:Int) + (14 * (s.depth:Int)) * pos a1)∧DeckAt k c t'.S∧KeepL k c l S4 t'.S) (fun acc r t=>∃(S':List Ob) (z:Option Sl) (a b:Int),(∀x∈acc,Be s x=true)∧acc.length + r.length=M.toNat∧(S'[l]?=some (.lst [.int a,.int b])∧(((acc.map fun d=>By s d).flatten).length:Int)≤9 * (a1 - a) + (pos b1 - pos b)∧pos b≤pos b1∧0≤a1 - a∧a1 - a≤acc.length * (cnt s:Int) + (14 * (s.depth:Int)) * pos a1)∧DeckAt k c S'∧KeepL k c l S4 S'∧t=⟨[z,some (.val (.obj k)),some (.val (.obj l)),some (.val (.tup [.str "list",s.d,.int q]))],S'⟩) _ [] _ ⟨S4,_,a1,b1,by simp,by simp [BT],⟨g4,by simp,by lia,by lia,by have:=Int.mul_nonneg (a:=14 * (s.depth:Int)) (by lia) hpa0;simp only [List.length_nil];lia⟩,d4,.refl,rfl⟩ ?_ ?_).mono ?_
   ·rintro acc d r t ⟨S',z,a,b,h1,h2,⟨h3,hb1,hb2,hb3,hb4⟩,h4,h5,rfl⟩ _
    refine GX (GY ?_)
    rw [if_pos rfl]
    walk_at "w"
    refine (rec_ (by lia) hw.2 (by lia) h4 h3).mono fun v S5 R=>?_
    obtain ⟨a',b',e,q1,q2,q3,q4⟩:=R.lft
    have dp:=s.depth_pos
    have hcb:=Sj (K:=14 * (s.depth:Int)) (A:=pos a1) (B:=pos a) (x1:=a1 - a) (x2:=a - a') (by lia) hpa0 (Int.mul_nonneg (by lia) (by lia)) hb3 (Ln _ _) hb4 q4
    refine ⟨S5,_,a',b',?_,by simp only [List.length_append,List.length_cons,List.length_nil] at h2 ⊢;lia,⟨e,?_,by lia,by lia,?_⟩,R.deck,h5.trans R.kp,rfl⟩
    ·intro x hx
     rcases List.mem_append.mp hx with h | h
     ·exact h1 x h
     ·rw [List.mem_singleton] at h;subst h;exact R.fit
    ·rw [List.map_append,List.flatten_append,List.length_append]
     simp only [List.map_cons,List.map_nil,List.flatten_cons,List.flatten_nil,List.append_nil]
     lia
    ·rw [List.length_append]
     simp only [List.length_cons,List.length_nil]
     have:((acc.length + (0 + 1):Nat):Int) * (cnt s:Int)=acc.length * (cnt s:Int) + cnt s:=by
      rw [Nat.zero_add,Int.natCast_add,Int.add_mul];simp
     rw [this]
     lia
   ·rintro acc t ⟨S',z,a,b,h1,h2,h3,h4,h5,rfl⟩
    exact ⟨h1,by simpa using h2,⟨a,b,h3⟩,h4,h5⟩
   ·rintro xs t' ⟨h1,h2,⟨a',b',h3,hb1,hb2,hb3,hb4⟩,h4,h5⟩
    rw [List.nil_append] at *
    refine BQ (by rw [hL];lia) ?_
    have hmc:(xs.length:Int) * (cnt s:Int)≤(xs.length:Int) * 28:=Int.mul_le_mul_of_nonneg_left (by lia) (by lia)
    refine ⟨?_,⟨a',b',h3,?_,by lia,by lia,?_⟩,h4,kp4.trans h5⟩
    ·rw [Be]
     simp only [Bool.and_eq_true,decide_eq_true_eq,List.all_eq_true]
     exact ⟨by lia,h1⟩
    ·rw [By,List.length_cons]
     lia
    ·refine HQ (d:=s.depth) (p:=pos a1) (by rw [Sh.depth];lia) hpa0 hpa1 ?_
     rw [cnt]
     lia
 | pair s r=>
   simp only [wf,Bool.and_eq_true] at hw
   rw [Sh.depth] at hsd
   rw [cnt] at hcn
   rw [Sh.d]
   walk_at "w"
   refine (rec_ (by lia) hw.1 (by lia) dk1 g1).mono fun v S2 R=>?_
   obtain ⟨a',b',e,q1,q2,q3,q4⟩:=R.lft
   walk_at "w"
   refine (rec_ (by lia) hw.2 (by lia) R.deck e).mono fun v2 S3 R2=>?_
   obtain ⟨a2,b2,e',p1,p2,p3,p4⟩:=R2.lft
   walk_at "w"
   have dp:=s.depth_pos
   have hcb:=Sj (K:=14 * ((max s.depth r.depth:Nat):Int)) (A:=pos a1) (B:=pos a') (x1:=a1 - a') (x2:=a' - a2) (by lia) hpa0 (by lia) (by lia) (Ln _ _) (IP (by lia) hpa0 q4) (IP (D:=max s.depth r.depth) (by lia) (GR a') p4)
   refine ⟨by simp only [Be,R.fit,R2.fit,Bool.and_self],⟨a2,b2,e',?_,by lia,by lia,?_⟩,R2.deck,kp1.trans (R.kp.trans R2.kp)⟩
   ·rw [By,List.length_append]
    lia
   ·refine HQ (d:=max s.depth r.depth) (p:=pos a1) (by rw [Sh.depth];lia) hpa0 hpa1 ?_
    rw [cnt]
    lia
 | choice ss=>
   simp only [wf,Bool.and_eq_true,decide_eq_true_eq] at hw
   rw [Sh.depth] at hsd
   rw [cnt] at hcn
   rw [Sh.d]
   have hl:=EJ ss
   walk_at "w"
   refine hd.use (shD ss).length dk1 (fun i S2 i0 i1 d2 k2=>?_) rfl (by lia) (by lia)
   have hk:i.toNat < ss.length:=by lia
   have e1:ss[i.toNat]?=some ss[i.toNat]:=List.getElem?_eq_getElem hk
   have e2:atI (shD ss) i=some (ss[i.toNat]).d:=by
    unfold atI
    rw [Jg i0 i1]
    show (shD ss)[i.toNat]?=_
    rw [FZ,e1];rfl
   walk_at "w"
   refine HV e2 ?_
   walk_at "w"
   refine (rec_ (Nat.le_trans (Cl ss _ _ e1) (by lia)) (C5 hw.2 _ (List.getElem_mem hk)) (by have:=EO (List.getElem_mem hk);lia) d2 (k2.at hlk hlc g1)).mono fun v S3 R=>?_
   walk_at "w"
   obtain ⟨a2,b2,e',p1,p2,p3,p4⟩:=R.lft
   have hcc:=EO (List.getElem_mem hk)
   have hdd:=Cl ss _ _ e1
   have:O5 (Str.ofString "of")=true:=by decide +kernel
   refine ⟨?_,⟨a2,b2,e',?_,by lia,by lia,?_⟩,R.deck,kp1.trans (k2.toL.trans R.kp)⟩
   ·simp only [Be,Bool.and_eq_true,decide_eq_true_eq]
    exact ⟨⟨this,by lia,by lia⟩,by rw [Dx ss _ _ _ e1];exact R.fit⟩
   ·rw [By,ES ss _ _ _ e1,List.length_cons]
    lia
   ·refine HQ (d:=(ss[i.toNat]).depth) (p:=pos a1) (by rw [Sh.depth];lia) hpa0 hpa1 ?_
    rw [cnt]
    lia
mutual
def szE:D→Nat
 | .lst xs=>1 + szEs xs
 | .tup xs=>1 + szEs xs
 | _=>1
def szEs:List D→Nat
 | []=>0
 | d :: r=>szE d + szEs r
end
theorem HS:∀xs:List D,(xs.map fun d=>((szE d:Nat):Int)).sum=((szEs xs:Nat):Int)
 | []=>rfl
 | d :: r=>by rw [List.map_cons,List.sum_cons,HS r,szEs];lia
theorem Qx {ds:List D} {ns:List Int} {t:T} {P:D→T→Prop} (e:El ds=some ns) (h:P (.int ns.sum) t):W (LL [.lst ds]) t P:=⟨_,_,by simp only [LL,e],h⟩
def Gy (f:Fn) (n:Nat):Prop:=∀d,okE n d=true→Pure1 f [d] (.int (szE d))
theorem Ox {c:Fn}:Gy (fnOf 1 1 (CV c)) 0:=by
 intro d h S
 refine Bh rfl ?_
 unfold CV
 cases d <;> first | (simp [okE] at h;done) | (walk_at "w";exact ⟨by simp [szE],rfl⟩)
theorem RD {c:Fn} {n:Nat} (hc:Gy c n):Gy (fnOf 1 1 (CV c)) (n + 1):=by
 intro d h S
 have hL:LIM=100000:=rfl
 refine Bh rfl ?_
 unfold CV
 have key:∀(xs:List D),xs.length≤1000→(∀x∈xs,okE n x=true)→∀(z:Option Sl) (P:List D→T→Prop),(∀t',t'.S=S→P (xs.map fun d=>D.int (szE d)) t')→W (BW (BL 0) Dc (Av c (Ac (Ad 0) Aj)) xs) ⟨[z],S⟩ P:=fun xs hl hx z P hp=>by
  refine (JG (f:=fun d=>D.int (szE d)) (fr:=[]) ?_).mono fun ys t' ⟨e,e2⟩=>by subst e;exact hp t' e2
  intro d hd
  walk_at "w"
  exact (hc d (hx d hd)).use ⟨rfl,rfl⟩
 have hni:∀xs:List D,El (xs.map fun d=>D.int (szE d))=some (xs.map fun d=>((szE d:Nat):Int)):=fun xs=>by
  have:=Gg (xs.map fun d=>((szE d:Nat):Int))
  rw [List.map_map] at this
  exact this
 cases d <;> first | (simp [okE] at h;done) | (walk_at "w";exact ⟨by simp [szE],rfl⟩) | skip
 ·rename_i xs
  rw [Mx,Bool.and_eq_true,decide_eq_true_eq,List.all_eq_true] at h
  walk_at "w"
  refine key xs h.1 h.2 _ _ fun t' e=>?_
  refine BQ (by rw [List.length_map,hL];lia) ?_
  walk_at "w"
  refine Qx (hni xs) ?_
  rw [HS]
  walk_at "w"
  refine ⟨?_,e⟩
  rw [szE];rfl
 ·rename_i xs
  rw [Mw,Bool.and_eq_true,decide_eq_true_eq,List.all_eq_true] at h
  walk_at "w"
  refine key xs h.1 h.2 _ _ fun t' e=>?_
  refine BQ (by rw [List.length_map,hL];lia) ?_
  walk_at "w"
  refine Qx (hni xs) ?_
  rw [HS]
  walk_at "w"
  refine ⟨?_,e⟩
  rw [szE];rfl
structure VOk (s:Sh) (v:D):Prop where
 fit:Be s v=true
 len:(By s v).length≤14809
local macro_rules | `(tactic| walk_at "y1")=>`(tactic| first | walk_at "x1" | with_reducible refine RY ?_)
local macro_rules | `(tactic| walk_at "y")=>`(tactic| repeat (walk_at "y1"))
def wD (w:List Nat):List D:=w.map fun (n:Nat)=>D.int (n:Int)
theorem Bg (w:List Nat):(wD w).length=w.length:=by unfold wD;rw [List.length_map]
theorem F0 {w:List Nat} {a b:Nat} (h:w[a]?=some b):(wD w)[a]?=some (.int (b:Int)):=by unfold wD;rw [List.getElem?_map,h];rfl
abbrev exS:D:=.exc "Short" []
abbrev exB (a:Nat):D:=.exc "Broken" [.int (a:Int),.non]
def rrD:RR→D
 | .told v b=>.tup [v,.int (b:Int)]
 | .short=>exS
 | .broken a=>exB a
def byX:Option Nat→D
 | none=>exS
 | some b=>.int (b:Int)
def upX (m:Int) (a:Nat):Option Nat→D
 | none=>exS
 | some b=>if (b:Int)≤m then .int (b:Int) else exB a
def sgX (a:Nat):Option Nat→D
 | none=>exS
 | some c=>if BI c=true then .str ⟨#[c]⟩ else exB a
def BX (f:Fn):Prop:=∀(w:List Nat) (a:Nat),Pure1 f [.lst (wD w),.int (a:Int)] (byX w[a]?)
theorem Uc:BX (fnOf 2 2 Em):=by
 intro w a S
 refine Bh rfl ?_
 unfold Em
 have hl:=Bg w
 cases h:w[a]? with
 | none=>
   have:=List.getElem?_eq_none_iff.mp h
   walk_at "y"
   refine DK (decide_eq_true (by lia)) ?_
   walk_at "y"
   exact ⟨rfl,rfl⟩
 | some b=>
   obtain ⟨hj,_⟩:=List.getElem?_eq_some_iff.mp h
   walk_at "y"
   refine CL (decide_eq_false (by lia)) ?_
   walk_at "y"
   refine B8 (CP (F0 h)) ?_
   exact ⟨rfl,rfl,rfl⟩
def UX (f:Fn):Prop:=∀(m:Int) (w:List Nat) (a:Nat),Pure1 f [.int m,.lst (wD w),.int (a:Int)] (upX m a w[a]?)
theorem UH {c:Fn} (hc:BX c):UX (fnOf 3 4 (Dp c)):=by
 intro m w a S
 refine Bh rfl ?_
 unfold Dp
 have hb:=hc w a
 cases h:w[a]? with
 | none=>
   rw [h,byX] at hb
   walk_at "y"
   refine hb.use ?_
   walk_at "y"
   exact ⟨rfl,rfl⟩
 | some b=>
   rw [h,byX] at hb
   walk_at "y"
   refine hb.use ?_
   walk_at "y"
   rw [upX]
   by_cases q:(b:Int)≤m
   ·rw [if_pos q]
    refine CL (decide_eq_false (by lia)) ?_
    walk_at "y"
    exact ⟨rfl,rfl,rfl⟩
   ·rw [if_neg q]
    refine DK (decide_eq_true (by lia)) ?_
    walk_at "y"
    exact ⟨rfl,rfl⟩
def SX (f:Fn):Prop:=∀(w:List Nat) (a:Nat),Pure1 f [.lst (wD w),.int (a:Int)] (sgX a w[a]?)
theorem Uz {cs cb:Fn} (hs:KC cs) (hb:BX cb):SX (fnOf 2 3 (Ev cs cb)):=by
 intro w a S
 refine Bh rfl ?_
 unfold Ev
 have hb:=hb w a
 cases h:w[a]? with
 | none=>
   rw [h,byX] at hb
   walk_at "y"
   refine hb.use ?_
   walk_at "y"
   exact ⟨rfl,rfl⟩
 | some c=>
   rw [h,byX] at hb
   walk_at "y"
   refine hb.use ?_
   walk_at "y"
   refine (hs c).use ?_
   rw [sgX]
   by_cases q:BI c=true
   ·rw [if_pos q,q]
    walk_at "y"
    refine W_ix_str.mpr ⟨by decide +kernel,c,TH q,?_⟩
    exact ⟨rfl,rfl,rfl⟩
   ·have q':BI c=false:=by simpa using q
    rw [if_neg q,q']
    walk_at "y"
    exact ⟨rfl,rfl⟩
theorem Uy {cl cb cw:Fn} (hl:H0 cl) (hb:BX cb) (hw:Fv cw) {lo hi:Int} (hwf:wf (.number lo hi)=true) (w:List Nat) (a:Nat):Pure1 (fnOf 3 7 (Cs cl cb cw)) [(Sh.number lo hi).d,.lst (wD w),.int (a:Int)] (rrD ((Cj lo (hi - lo).toNat (wid (hi - lo).toNat) 0).run w a)):=by
 intro S
 have hsp:=JB hwf
 have hwd:=F3 9 _ hsp
 refine Bh rfl ?_
 unfold Cs
 rw [Sh.d]
 have em:hi - lo=(((hi - lo).toNat:Nat):Int):=by
  simp only [wf,Bool.and_eq_true,decide_eq_true_eq] at hwf
  lia
 have hww:=fun S P p=>(hw (hi - lo).toNat hsp).use (S:=S) (P:=P) p
 rw [←em] at hww
 generalize (hi - lo).toNat=M at *
 generalize hW:wid M=n at *
 walk_at "y"
 refine hww _ _ ?_
 rw [em]
 walk_at "y"
 refine EL (BR (by lia) (by lia)) ?_
 refine Dn (fun r t=>∃(j x:Nat) (e6:Option Sl),j≤n∧r=(BT 0 ((n:Nat):Int).toNat).drop j∧(Cj lo M n 0).run w a=(Cj lo M (n - j) x).run w (a + j)∧t=⟨[some (.val (.tup [.str "number",.int lo,.int hi])),some (.val (.lst (wD w))),some (.val (.int a)),some (.val (.int M)),some (.val (.int n)),some (.val (.int x)),e6],S⟩) _ _ ⟨0,0,none,Nat.zero_le _,rfl,rfl,rfl⟩ ?_ ?_
 ·rintro d r t ⟨j,x,e6,hj,hr,hrun,rfl⟩ _
  obtain ⟨rfl,hr',hjn⟩:=E6 hr
  rw [Int.toNat_natCast] at hjn
  rw [Int.zero_add]
  obtain ⟨e,he⟩:∃e,n - j=e + 1:=⟨n - j - 1,by lia⟩
  rw [he,Cj] at hrun
  have hby:=hb w (a + j)
  walk_at "y"
  refine DI (D8 (by decide) (by decide)) ?_
  walk_at "y"
  rw [show ((a:Int) + (j:Int))=((a + j:Nat):Int) by lia]
  cases h:w[a + j]? with
  | none=>
    rw [h,byX] at hby
    rw [BD h] at hrun
    refine hby.use ?_
    walk_at "y"
    exact ⟨by rw [hrun];rfl,rfl⟩
  | some b=>
    rw [h,byX] at hby
    rw [BE h] at hrun
    refine hby.use ?_
    walk_at "y"
    refine ⟨rfl,?_⟩
    walk_at "y"
    rw [show ((n:Int) - 1 - (j:Int))=((e:Nat):Int) by lia,show ((x:Int) * 256 + (b:Int))=((x * 256 + b:Nat):Int) by lia]
    refine (hl M e (by lia)).use ?_
    walk_at "y"
    by_cases q:x * 256 + b≤M / 2 ^ (8 * e)
    ·rw [if_pos (decide_eq_true q)] at hrun
     refine CL (decide_eq_false (by lia)) ?_
     walk_at "y"
     exact ⟨j + 1,x * 256 + b,_,hjn,hr',by rw [show n - (j + 1)=e by lia,hrun,Nat.add_assoc],rfl⟩
    ·rw [if_neg (by rw [decide_eq_true_eq];exact q)] at hrun
     refine DK (decide_eq_true (by lia)) ?_
     walk_at "y"
     exact ⟨by rw [hrun];rfl,rfl⟩
 ·rintro t ⟨j,x,e6,hj,hr,hrun,rfl⟩
  have hj':j=n:=by
   have:=congrArg List.length hr
   rw [List.length_nil,List.length_drop,DR,Int.toNat_natCast] at this
   lia
  subst hj'
  rw [Nat.sub_self,Cj,Rd.run] at hrun
  walk_at "y"
  exact ⟨rfl,by rw [hrun];rfl,rfl⟩
theorem Ty {ca cu:Fn} (ha:SX ca) (hu:UX cu) {q:Int} (hwf:wf (.text q)=true) (n:Nat) (w:List Nat) (a:Nat):Pure1 (fnOf 3 7 (CZ ca cu)) [(Sh.text q).d,.lst (wD w),.int (a:Int)] (rrD ((pSh (n + 1) (.text q)).run w a)):=by
 intro S
 have hL:LIM=100000:=rfl
 refine Bh rfl ?_
 unfold CZ
 rw [Sh.d,pSh]
 simp only [wf,Bool.and_eq_true,decide_eq_true_eq] at hwf
 have hup:=hu q w a
 walk_at "y"
 cases h:w[a]? with
 | none=>
   rw [h,upX] at hup
   rw [BD h]
   refine hup.use ?_
   walk_at "y"
   exact ⟨rfl,rfl⟩
 | some b=>
   rw [h,upX] at hup
   rw [BE h]
   by_cases hb:(b:Int)≤q
   ·rw [if_pos hb] at hup
    rw [if_pos (decide_eq_true hb)]
    refine hup.use ?_
    walk_at "y"
    refine EL (BR (by lia) (by lia)) ?_
    refine Dn (fun r t=>∃(j:Nat) (y:Str) (e6:Option Sl),j≤b∧r=(BT 0 ((b:Nat):Int).toNat).drop j∧y.cps.toList.length=j∧(DA b []).run w (a + 1)=(DA (b - j) y.cps.toList).run w (a + 1 + j)∧t=⟨[some (.val (.tup [.str "text",.int q])),some (.val (.lst (wD w))),some (.val (.int a)),some (.val (.int b)),some (.val (.int ((a:Int) + 1))),some (.val (.str y)),e6],S⟩) _ _ ⟨0,Str.ofString "",none,Nat.zero_le _,rfl,by decide +kernel,by rw [Nat.sub_zero,Nat.add_zero,show (Str.ofString "").cps.toList=[] by decide +kernel],rfl⟩ ?_ ?_
    ·rintro d r t ⟨j,y,e6,hj,hr,hyl,hrun,rfl⟩ _
     obtain ⟨rfl,hr',hjn⟩:=E6 hr
     rw [Int.toNat_natCast] at hjn
     rw [Int.zero_add]
     obtain ⟨e,he⟩:∃e,b - j=e + 1:=⟨b - j - 1,by lia⟩
     rw [he,DA] at hrun
     have hsg:=ha w (a + 1 + j)
     walk_at "y"
     rw [show ((a:Int) + 1 + (j:Int))=((a + 1 + j:Nat):Int) by lia]
     cases h2:w[a + 1 + j]? with
     | none=>
       rw [h2,sgX] at hsg
       rw [BD h2] at hrun
       refine hsg.use ?_
       walk_at "y"
       exact ⟨by rw [hrun];rfl,rfl⟩
     | some c=>
       rw [h2,sgX] at hsg
       rw [BE h2] at hrun
       by_cases hc:BI c=true
       ·rw [if_pos hc] at hsg hrun
        refine hsg.use ?_
        walk_at "y"
        refine BQ (by rw [Fz y,hyl,hL];show j + 1≤_;lia) ?_
        refine ⟨rfl,?_⟩
        walk_at "y"
        refine ⟨j + 1,_,_,hjn,hr',?_,?_,rfl⟩
        ·rw [JI,List.length_append,hyl];rfl
        ·rw [hrun,JI,show b - (j + 1)=e by lia,Nat.add_assoc (a + 1)]
       ·rw [if_neg hc] at hsg hrun
        refine hsg.use ?_
        walk_at "y"
        exact ⟨by rw [hrun];rfl,rfl⟩
    ·rintro t ⟨j,y,e6,hj,hr,hyl,hrun,rfl⟩
     have hj':j=b:=by
      have:=congrArg List.length hr
      rw [List.length_nil,List.length_drop,DR,Int.toNat_natCast] at this
      lia
     subst hj'
     rw [Nat.sub_self,DA,Rd.run] at hrun
     have ey:(⟨y.cps.toList.toArray⟩:Str)=y:=MI (by simp)
     rw [ey] at hrun
     walk_at "y"
     refine ⟨rfl,?_,rfl⟩
     rw [hrun,rrD,show ((a:Int) + 1 + (j:Int))=((a + 1 + j:Nat):Int) by lia]
   ·rw [if_neg hb] at hup
    rw [if_neg (by rw [decide_eq_true_eq];exact hb)]
    refine hup.use ?_
    walk_at "y"
    exact ⟨rfl,rfl⟩
def RX (c:Fn) (s:Sh) (p:Rd):Prop:=∀(w:List Nat) (a:Nat),a≤w.length→Pure1 c [s.d,.lst (wD w),.int (a:Int)] (rrD (p.run w a))
theorem Tv {c cu:Fn} {s:Sh} {p:Rd} {q:Int} (hu:UX cu) (hq2:q≤250) (hc:RX c s p) (w:List Nat) (a:Nat):Pure1 (fnOf 3 8 (CW c cu)) [(Sh.list s q).d,.lst (wD w),.int (a:Int)] (rrD ((Rd.need (fun b=>decide ((b:Int)≤q)) fun b=>EY p b []).run w a)):=by
 intro S
 have hL:LIM=100000:=rfl
 refine Bh rfl ?_
 unfold CW
 rw [Sh.d]
 have hup:=hu q w a
 walk_at "y"
 cases h:w[a]? with
 | none=>
   rw [h,upX] at hup
   rw [BD h]
   refine hup.use ?_
   walk_at "y"
   exact ⟨rfl,rfl⟩
 | some b=>
   have hal:=(List.getElem?_eq_some_iff.mp h).1
   rw [h,upX] at hup
   rw [BE h]
   by_cases hb:(b:Int)≤q
   ·rw [if_pos hb] at hup
    rw [if_pos (decide_eq_true hb)]
    refine hup.use ?_
    walk_at "y"
    refine EL (BR (by lia) (by lia)) ?_
    refine Dn (fun r t=>∃(j a':Nat) (ds:List D) (e6 e7:Option Sl),j≤b∧r=(BT 0 ((b:Nat):Int).toNat).drop j∧ds.length=j∧a'≤w.length∧(EY p b []).run w (a + 1)=(EY p (b - j) ds).run w a'∧t=⟨[some (.val (.tup [.str "list",s.d,.int q])),some (.val (.lst (wD w))),some (.val (.int a)),some (.val (.int b)),some (.val (.int (a':Int))),some (.own ds),e6,e7],S⟩) _ _ ⟨0,a + 1,[],none,none,Nat.zero_le _,rfl,rfl,hal,rfl,rfl⟩ ?_ ?_
    ·rintro d r t ⟨j,a',ds,e6,e7,hj,hr,hdl,ha',hrun,rfl⟩ _
     obtain ⟨rfl,hr',hjn⟩:=E6 hr
     rw [Int.toNat_natCast] at hjn
     obtain ⟨e,he⟩:∃e,b - j=e + 1:=⟨b - j - 1,by lia⟩
     rw [he,EY,Cd] at hrun
     have hcc:=hc w a' ha'
     cases h2:p.run w a' with
     | short=>
       rw [h2] at hrun hcc
       walk_at "y"
       refine hcc.use ?_
       rw [rrD]
       walk_at "y"
       exact ⟨by rw [hrun];rfl,rfl⟩
     | broken k=>
       rw [h2] at hrun hcc
       walk_at "y"
       refine hcc.use ?_
       rw [rrD]
       walk_at "y"
       exact ⟨by rw [hrun];rfl,rfl⟩
     | told v a2=>
       have hle:=EK p a' ha' h2
       rw [h2] at hrun hcc
       walk_at "y"
       refine hcc.use ?_
       rw [rrD]
       walk_at "y"
       refine BQ (by rw [hdl,hL];lia) ?_
       walk_at "y"
       exact ⟨j + 1,a2,ds++[v],_,_,hjn,hr',by rw [List.length_append,hdl];rfl,hle.2,by rw [hrun,show b - (j + 1)=e by lia];rfl,rfl⟩
    ·rintro t ⟨j,a',ds,e6,e7,hj,hr,hdl,ha',hrun,rfl⟩
     have hj':j=b:=by
      have:=congrArg List.length hr
      rw [List.length_nil,List.length_drop,DR,Int.toNat_natCast] at this
      lia
     subst hj'
     rw [Nat.sub_self,EY,Rd.run] at hrun
     walk_at "y"
     exact ⟨rfl,by rw [hrun];rfl,rfl⟩
   ·rw [if_neg hb] at hup
    rw [if_neg (by rw [decide_eq_true_eq];exact hb)]
    refine hup.use ?_
    walk_at "y"
    exact ⟨rfl,rfl⟩
theorem Tx {c:Fn} {s r:Sh} {p p':Rd} (hs:RX c s p) (hr:RX c r p') (w:List Nat) (a:Nat) (ha:a≤w.length):Pure1 (fnOf 3 5 (CY c)) [(Sh.pair s r).d,.lst (wD w),.int (a:Int)] (rrD ((p.bnd fun v=>p'.bnd fun u=>.done (.tup [v,u])).run w a)):=by
 intro S
 refine Bh rfl ?_
 unfold CY
 rw [Sh.d,Cd]
 have h1:=hs w a ha
 cases e1:p.run w a with
 | short=>
   rw [e1] at h1
   walk_at "y"
   refine h1.use ?_
   rw [rrD]
   walk_at "y"
   exact ⟨rfl,rfl⟩
 | broken k=>
   rw [e1] at h1
   walk_at "y"
   refine h1.use ?_
   rw [rrD]
   walk_at "y"
   exact ⟨rfl,rfl⟩
 | told v a'=>
   have hle:=EK p a ha e1
   rw [e1] at h1
   have h2:=hr w a' hle.2
   rw [RR.thn,Cd]
   walk_at "y"
   refine h1.use ?_
   rw [rrD]
   walk_at "y"
   refine h2.use ?_
   cases e2:p'.run w a' with
   | short=>rw [rrD];walk_at "y";exact ⟨rfl,rfl⟩
   | broken k=>rw [rrD];walk_at "y";exact ⟨rfl,rfl⟩
   | told u a2=>rw [rrD];walk_at "y";exact ⟨rfl,rfl,rfl⟩
theorem Pu {c cu:Fn} {ss:List Sh} {p:Nat→Rd} (hu:UX cu) (hc:∀(k:Nat) (h:k < ss.length),RX c ss[k] (p k)) (w:List Nat) (a:Nat):Pure1 (fnOf 3 5 (Cr c cu)) [(Sh.choice ss).d,.lst (wD w),.int (a:Int)] (rrD ((Rd.need (fun b=>decide (b < ss.length)) fun b=>(p b).bnd fun v=>.done (.tup [.str "of",.int b,v])).run w a)):=by
 intro S
 refine Bh rfl ?_
 unfold Cr
 rw [Sh.d]
 have hup:=hu ((ss.length:Int) - 1) w a
 walk_at "y"
 rw [EJ]
 refine hup.use ?_
 cases h:w[a]? with
 | none=>
   rw [BD h,upX]
   walk_at "y"
   exact ⟨rfl,rfl⟩
 | some b=>
   have hal:=(List.getElem?_eq_some_iff.mp h).1
   rw [BE h,upX]
   by_cases hb:b < ss.length
   ·rw [if_pos (show (b:Int)≤(ss.length:Int) - 1 by lia),if_pos (decide_eq_true hb),Cd]
    have e0:ss[b]?=some ss[b]:=List.getElem?_eq_getElem hb
    have hsd:atI (shD ss) (b:Int)=some ss[b].d:=CP (by rw [FZ,e0];rfl)
    have h2:=hc b hb w (a + 1) hal
    walk_at "y"
    refine HV hsd ?_
    walk_at "y"
    rw [show ((a:Int) + 1)=((a + 1:Nat):Int) by lia]
    refine h2.use ?_
    cases e2:(p b).run w (a + 1) with
    | short=>rw [rrD];walk_at "y";exact ⟨rfl,rfl⟩
    | broken k=>rw [rrD];walk_at "y";exact ⟨rfl,rfl⟩
    | told u a2=>rw [rrD];walk_at "y";exact ⟨rfl,rfl,rfl⟩
   ·rw [if_neg (show ¬(b:Int)≤(ss.length:Int) - 1 by lia),if_neg (by rw [decide_eq_true_eq];exact hb)]
    walk_at "y"
    exact ⟨rfl,rfl⟩
def Ib (f:Fn) (n:Nat):Prop:=∀s:Sh,s.depth≤n→wf s=true→RX f s (pSh n s)
theorem Pv {cc cp cl ct cn:Fn} {n:Nat} (hn:∀lo hi,wf (.number lo hi)=true→RX cn (.number lo hi) (pSh (n + 1) (.number lo hi))) (ht:∀q,wf (.text q)=true→RX ct (.text q) (pSh (n + 1) (.text q)))
 (hl:∀s q,q≤250→s.depth≤n→wf s=true→RX cl (.list s q) (pSh (n + 1) (.list s q))) (hp:∀s r,s.depth≤n→r.depth≤n→wf s=true→wf r=true→RX cp (.pair s r) (pSh (n + 1) (.pair s r)))
 (hc:∀ss:List Sh,(∀(k:Nat) (h:k < ss.length),ss[k].depth≤n∧wf ss[k]=true)→RX cc (.choice ss) (pSh (n + 1) (.choice ss))):Ib (fnOf 3 4 (CI cc cp cl ct cn)) (n + 1):=by
 intro s hs hwf w a ha S
 refine Bh rfl ?_
 unfold CI
 cases s with
 | nothing=>
   rw [Sh.d,pSh,Rd.run,rrD]
   walk_at "y"
   exact ⟨rfl,rfl,rfl⟩
 | number lo hi=>
   have h:=hn lo hi hwf w a ha
   rw [Sh.d] at h ⊢
   walk_at "y"
   exact h.use ⟨rfl,rfl⟩
 | text q=>
   have h:=ht q hwf w a ha
   rw [Sh.d] at h ⊢
   walk_at "y"
   exact h.use ⟨rfl,rfl⟩
 | list s q=>
   simp only [wf,Bool.and_eq_true,decide_eq_true_eq] at hwf
   rw [Sh.depth] at hs
   have h:=hl s q hwf.1.2 (by lia) hwf.2 w a ha
   rw [Sh.d] at h ⊢
   walk_at "y"
   exact h.use ⟨rfl,rfl⟩
 | pair s r=>
   simp only [wf,Bool.and_eq_true] at hwf
   rw [Sh.depth] at hs
   have h:=hp s r (by lia) (by lia) hwf.1 hwf.2 w a ha
   rw [Sh.d] at h ⊢
   walk_at "y"
   exact h.use ⟨rfl,rfl⟩
 | choice ss=>
   simp only [wf,Bool.and_eq_true,decide_eq_true_eq] at hwf
   rw [Sh.depth] at hs
   have h:=hc ss (fun k hk=>⟨Nat.le_trans (Cl ss _ _ (List.getElem?_eq_getElem hk)) (by lia),C5 hwf.2 _ (List.getElem_mem hk)⟩) w a ha
   rw [Sh.d] at h ⊢
   walk_at "y"
   exact h.use ⟨rfl,rfl⟩
theorem Os {cn:Fn} {n:Nat} {c cu ca cl' cb cw cc cp cl ct:Fn} (e1:cc=fnOf 3 5 (Cr c cu)) (e2:cp=fnOf 3 5 (CY c)) (e3:cl=fnOf 3 8 (CW c cu)) (e4:ct=fnOf 3 7 (CZ ca cu)) (e5:cn=fnOf 3 7 (Cs cl' cb cw))
 (hu:UX cu) (ha:SX ca) (hl':H0 cl') (hb:BX cb) (hw:Fv cw) (hc:Ib c n):Ib (fnOf 3 4 (CI cc cp cl ct cn)) (n + 1):=by
 subst e1 e2 e3 e4 e5
 refine Pv (fun lo hi h w a _=>?_) (fun q h w a _=>Ty ha hu h n w a) (fun s q h2 hd h w a _=>?_) (fun s r d1 d2 w1 w2 w a ha=>?_) fun ss h w a _=>?_
 ·rw [pSh];exact Uy hl' hb hw h w a
 ·rw [pSh];exact Tv hu h2 (hc s hd h) w a
 ·rw [pSh];exact Tx (hc s d1 w1) (hc r d2 w2) w a ha
 ·rw [pSh]
  refine Pu hu (p:=fun b=>pSh n (ss.getD b .nothing)) (fun k hk=>?_) w a
  show RX c ss[k] (pSh n (ss.getD k .nothing))
  rw [List.getD_eq_getElem?_getD,List.getElem?_eq_getElem hk,Option.getD_some]
  exact hc _ (h k hk).1 (h k hk).2
def seg (w:List Nat) (a b:Nat):List Nat:=(w.drop a).take (b - a)
theorem D4 (w:List Nat) (a:Nat):seg w a a=[]:=by unfold seg;rw [Nat.sub_self,List.take_zero]
theorem EI {w:List Nat} {a b x:Nat} (h:w[a]?=some x) (hb:a + 1≤b):seg w a b=x :: seg w (a + 1) b:=by
 obtain ⟨hl,e⟩:=List.getElem?_eq_some_iff.mp h
 unfold seg
 rw [List.drop_eq_getElem_cons hl,e,show b - a=(b - (a + 1)) + 1 by lia,List.take_succ_cons]
theorem Jw {w:List Nat} {a c b:Nat} (h1:a≤c) (h2:c≤b):seg w a b=seg w a c++seg w c b:=by
 unfold seg
 rw [show b - a=(c - a) + (b - c) by lia,List.take_add,List.drop_drop,show a + (c - a)=c by lia]
theorem Dh (x y:List Nat):wD (x++y)=wD x++wD y:=by unfold wD;rw [List.map_append]
theorem Hj (x:Nat) (y:List Nat):wD (x :: y) = .int (x:Int) :: wD y:=rfl
theorem Mu:∀(r y:Nat),nb (r + 1) y = .int ((y / 256 ^ r % 256:Nat):Int) :: nb r y
 | 0,y=>by rw [nb,nb,nb,Nat.pow_zero,Nat.div_one];rfl
 | r + 1,y=>by
   rw [show nb (r + 1 + 1) y=nb (r + 1) (y / 256)++[.int ((y % 256:Nat):Int)] from rfl,Mu r (y / 256),List.cons_append,show nb (r + 1) y=nb r (y / 256)++[.int ((y % 256:Nat):Int)] from rfl,Nat.div_div_eq_div_mul,show 256 * 256 ^ r=256 ^ (r + 1) by rw [Nat.pow_succ,Nat.mul_comm]]
theorem Li {lo:Int} {M:Nat} {w:List Nat} (hw:∀x∈w,x < 256) {v:D} {b:Nat}:∀(r x a:Nat),(Cj lo M r x).run w a = .told v b→∃y:Nat,v = .int (lo + y)∧y / 256 ^ r=x∧(x≤M / 2 ^ (8 * r)→y≤M)∧nb r y=wD (seg w a b)∧b=a + r
 | 0,x,a,h=>by
   rw [Cj,Rd.run] at h
   cases h
   exact ⟨x,rfl,by rw [Nat.pow_zero,Nat.div_one],(fun h=>by rw [Nat.mul_zero,Nat.pow_zero,Nat.div_one] at h;exact h),by rw [D4,nb];rfl,rfl⟩
 | r + 1,x,a,h=>by
   rw [Cj] at h
   cases e:w[a]? with
   | none=>rw [BD e] at h;cases h
   | some c=>
     rw [BE e] at h
     have hc:=hw c (List.mem_of_getElem? e)
     by_cases q:x * 256 + c≤M / 2 ^ (8 * r)
     ·rw [if_pos (decide_eq_true q)] at h
      obtain ⟨y,h1,h2,h3,h4,h5⟩:=Li hw r _ _ h
      refine ⟨y,h1,?_,fun _=>h3 q,?_,by lia⟩
      ·rw [Nat.pow_succ,←Nat.div_div_eq_div_mul,h2];lia
      ·rw [Mu,h2,EI e (by lia),Hj,h4]
       congr 3
       lia
     ·rw [if_neg (by rw [decide_eq_true_eq];exact q)] at h;cases h
theorem LF {w:List Nat} {v:D} {b:Nat}:∀(n:Nat) (cs:List Nat) (a:Nat),(DA n cs).run w a = .told v b→v = .str ⟨(cs++seg w a b).toArray⟩∧(seg w a b).length=n∧(∀c∈seg w a b,BI c=true)∧b=a + n
 | 0,cs,a,h=>by
   rw [DA,Rd.run] at h
   cases h
   rw [D4,List.append_nil]
   exact ⟨rfl,rfl,(fun c z=>nomatch z),rfl⟩
 | n + 1,cs,a,h=>by
   rw [DA] at h
   cases e:w[a]? with
   | none=>rw [BD e] at h;cases h
   | some c=>
     rw [BE e] at h
     by_cases q:BI c=true
     ·rw [if_pos q] at h
      obtain ⟨h1,h2,h3,h4⟩:=LF n _ _ h
      rw [EI e (by lia)]
      refine ⟨by rw [h1,List.append_assoc];rfl,by rw [List.length_cons,h2],fun x hx=>?_,by lia⟩
      rcases List.mem_cons.mp hx with rfl | hx
      ·exact q
      ·exact h3 x hx
     ·rw [if_neg q] at h;cases h
theorem Ld {w:List Nat} {s:Sh} {p:Rd} (hp:∀(a b:Nat) (v:D),a≤w.length→p.run w a = .told v b→Be s v=true∧By s v=wD (seg w a b)) {v:D} {b:Nat}:∀(n:Nat) (ds:List D) (a:Nat),a≤w.length→(EY p n ds).run w a = .told v b→∃es,v = .lst (ds++es)∧es.length=n∧(∀e∈es,Be s e=true)∧(es.map fun d=>By s d).flatten=wD (seg w a b)∧a≤b
 | 0,ds,a,_,h=>by
   rw [EY,Rd.run] at h
   cases h
   exact ⟨[],by rw [List.append_nil],rfl,(fun e z=>nomatch z),by rw [D4];rfl,Nat.le_refl _⟩
 | n + 1,ds,a,ha,h=>by
   rw [EY,Cd] at h
   cases e:p.run w a with
   | short=>rw [e] at h;cases h
   | broken k=>rw [e] at h;cases h
   | told u a'=>
     rw [e,RR.thn] at h
     have hle:=EK p a ha e
     have hu:=hp a a' u ha e
     obtain ⟨es,h1,h2,h3,h4,h5⟩:=Ld hp n _ _ hle.2 h
     refine ⟨u :: es,by rw [h1,List.append_assoc];rfl,by rw [List.length_cons,h2],fun x hx=>?_,?_,by lia⟩
     ·rcases List.mem_cons.mp hx with rfl | hx
      ·exact hu.1
      ·exact h3 x hx
     ·rw [List.map_cons,List.flatten_cons,h4,hu.2,Jw hle.1 h5,Dh]
theorem Ju:∀(n:Nat) (s:Sh),s.depth≤n→wf s=true→∀(w:List Nat),(∀x∈w,x < 256)→∀(a b:Nat) (v:D),a≤w.length→(pSh n s).run w a = .told v b→Be s v=true∧By s v=wD (seg w a b)
 | 0,s,hs,_,_,_,_,_,_,_,_=>absurd s.depth_pos (by lia)
 | n + 1,s,hs,hwf,w,hw,a,b,v,ha,h=>by
   cases s with
   | nothing=>
     rw [pSh,Rd.run] at h
     cases h
     rw [D4,By]
     exact ⟨by simp [Be,G8],rfl⟩
   | number lo hi=>
     rw [pSh] at h
     obtain ⟨y,rfl,_,h3,h4,_⟩:=Li hw _ _ _ h
     have hy:=h3 (Nat.zero_le _)
     simp only [wf,Bool.and_eq_true,decide_eq_true_eq] at hwf
     refine ⟨?_,?_⟩
     ·simp only [Be,Bool.and_eq_true,decide_eq_true_eq];lia
     ·rw [By,←h4,show (lo + (y:Int) - lo).toNat=y by lia]
   | text q=>
     rw [pSh] at h
     cases e:w[a]? with
     | none=>rw [BD e] at h;cases h
     | some c=>
       rw [BE e] at h
       by_cases hc:(c:Int)≤q
       ·rw [if_pos (decide_eq_true hc)] at h
        obtain ⟨rfl,h2,h3,h4⟩:=LF _ _ _ h
        rw [List.nil_append]
        have hl:(⟨(seg w (a + 1) b).toArray⟩:Str).length=c:=by rw [Fz];exact h2
        refine ⟨?_,?_⟩
        ·simp only [Be,Bool.and_eq_true,decide_eq_true_eq,List.all_eq_true]
         exact ⟨by rw [hl];exact hc,h3⟩
        ·rw [By,hl,EI e (by lia),Hj]
         rfl
       ·rw [if_neg (by rw [decide_eq_true_eq];exact hc)] at h;cases h
   | list s q=>
     simp only [wf,Bool.and_eq_true,decide_eq_true_eq] at hwf
     rw [Sh.depth] at hs
     rw [pSh] at h
     cases e:w[a]? with
     | none=>rw [BD e] at h;cases h
     | some c=>
       have hal:=(List.getElem?_eq_some_iff.mp e).1
       rw [BE e] at h
       by_cases hc:(c:Int)≤q
       ·rw [if_pos (decide_eq_true hc)] at h
        obtain ⟨es,rfl,h2,h3,h4,h5⟩:=Ld (fun a b v=>Ju n s (by lia) hwf.2 w hw a b v) _ _ _ hal h
        rw [List.nil_append]
        refine ⟨?_,?_⟩
        ·rw [Be,Bool.and_eq_true,decide_eq_true_eq,List.all_eq_true]
         exact ⟨by rw [h2];exact hc,h3⟩
        ·rw [By,h4,h2,EI e h5,Hj]
       ·rw [if_neg (by rw [decide_eq_true_eq];exact hc)] at h;cases h
   | pair s r=>
     simp only [wf,Bool.and_eq_true] at hwf
     rw [Sh.depth] at hs
     rw [pSh,Cd] at h
     cases e:(pSh n s).run w a with
     | short=>rw [e] at h;cases h
     | broken k=>rw [e] at h;cases h
     | told u a'=>
       rw [e,RR.thn,Cd] at h
       have l1:=EK _ a ha e
       have i1:=Ju n s (by lia) hwf.1 w hw a a' u ha e
       cases e2:(pSh n r).run w a' with
       | short=>rw [e2] at h;cases h
       | broken k=>rw [e2] at h;cases h
       | told u2 a2=>
         rw [e2] at h
         have l2:=EK _ a' l1.2 e2
         have i2:=Ju n r (by lia) hwf.2 w hw a' a2 u2 l1.2 e2
         cases h
         refine ⟨?_,?_⟩
         ·simp only [Be,Bool.and_eq_true];exact ⟨i1.1,i2.1⟩
         ·rw [By,i1.2,i2.2,Jw l1.1 l2.1,Dh]
   | choice ss=>
     simp only [wf,Bool.and_eq_true,decide_eq_true_eq] at hwf
     rw [Sh.depth] at hs
     rw [pSh] at h
     cases e:w[a]? with
     | none=>rw [BD e] at h;cases h
     | some c=>
       have hal:=(List.getElem?_eq_some_iff.mp e).1
       rw [BE e] at h
       by_cases hc:c < ss.length
       ·rw [if_pos (decide_eq_true hc),Cd] at h
        have e0:ss[c]?=some ss[c]:=List.getElem?_eq_getElem hc
        rw [List.getD_eq_getElem?_getD,e0,Option.getD_some] at h
        cases e2:(pSh n ss[c]).run w (a + 1) with
        | short=>rw [e2] at h;cases h
        | broken k=>rw [e2] at h;cases h
        | told u a2=>
          rw [e2] at h
          have l1:=EK _ (a + 1) hal e2
          have i1:=Ju n ss[c] (Nat.le_trans (Cl ss _ _ e0) (by lia)) (C5 hwf.2 _ (List.getElem_mem hc)) w hw (a + 1) a2 u hal e2
          cases h
          refine ⟨?_,?_⟩
          ·simp only [Be,Bool.and_eq_true,decide_eq_true_eq]
           refine ⟨⟨rfl,by lia,by lia⟩,?_⟩
           rw [Int.toNat_natCast,Dx ss _ _ _ e0]
           exact i1.1
          ·rw [By,Int.toNat_natCast,ES ss _ _ _ e0,i1.2,EI e l1.1,Hj]
       ·rw [if_neg (by rw [decide_eq_true_eq];exact hc)] at h;cases h
theorem Cb {i:Nat} {g:M D} {xs0:List D} {t:T} {P:D→T→Prop} (e:t.env[i]?=some (some (.own xs0))) (h:W g t fun j t1=>∃n xs d,j = .int n∧t1.env[i]?=some (some (.own xs))∧atI xs n=some d∧P d t1):W (CQ i g) t P:=by
 obtain ⟨j,t1,e1,n,xs,d,rfl,e2,e3,p⟩:=h
 refine ⟨d,t1,?_,p⟩
 unfold CQ
 simp only [e]
 show bnd g _ t=_
 unfold bnd
 simp only [e1,e2,e3]
 rfl
theorem LR {i:Nat} {g:M D} {d:D} {xs0:List D} {t:T} {U:Unit→T→Prop} (e:t.env[i]?=some (some (.own xs0))) (h:W g t fun j t1=>∃n xs k,j = .int n∧t1.env[i]?=some (some (.own xs))∧ixN xs.length n=some k∧U () { t1 with env:=t1.env.set i (some (.own (xs.set k d))) }):W (Gp i g d) t U:=by
 obtain ⟨j,t1,e1,n,xs,k,rfl,e2,e3,p⟩:=h
 refine ⟨(),_,?_,p⟩
 unfold Gp
 simp only [e]
 show bnd g _ t=_
 unfold bnd
 simp only [e1,e2,e3]
 rfl
structure St where
 rest:Int
 mixed:Bool
 turn:Int
def St.ob (s:St):Ob:=.dct [(.inr (Str.ofString "rest"),.int s.rest),(.inr (Str.ofString "mixed"),.bl s.mixed),(.inr (Str.ofString "turn"),.int s.turn)]
def take (s:St) (m:Int):Int×St:=
 if s.mixed=false then (s.rest % m,⟨s.rest / m,s.mixed,s.turn⟩)
 else
  let stir:=(s.rest % 2147483579 + 70001 * (s.turn + 1)) % 2147483579
  let rest:=(stir * stir % 2147483563 * 50021 + 7) % 2147483579
  (rest / 5 % m,⟨rest,s.mixed,s.turn + 1⟩)
def lr9:RR→List D
 | .told v b=>[.str "told",v,.int (b:Int)]
 | .short=>[.str "short"]
 | .broken k=>[.str "broken",.int (k:Int)]
theorem Qs {m:Str} {ns:List Str} {ds:List D} {t:T} {P:D→T→Prop} (e:m∈BF) (q:P (.bl (ns.any fun n=>D5 m n)) t):W (ID ns (.exc m ds)) t P:=⟨_,_,by unfold ID;dsimp only;rw [if_pos e];rfl,q⟩
def LR9 (f:Fn) (n:Nat):Prop:=∀s:Sh,s.depth≤n→wf s=true→∀(w:List Nat) (a:Nat),a≤w.length→Pure1 f [s.d,.lst (wD w),.int (a:Int)] (.lst (lr9 ((pSh n s).run w a)))
theorem N8 {c:Fn} {n:Nat} (hc:Ib c n):LR9 (fnOf 3 6 (Et c)) n:=by
 intro s hs hw w a ha S
 refine Bh rfl ?_
 unfold Et
 have h:=hc s hs hw w a ha
 cases e:(pSh n s).run w a with
 | told v b=>
   rw [e,rrD] at h
   walk_at "y"
   refine h.use ?_
   walk_at "y"
   exact ⟨rfl,rfl⟩
 | short=>
   rw [e,rrD] at h
   walk_at "y"
   refine h.use ?_
   walk_at "y"
   refine Qs (by decide) ?_
   walk_at "y"
   exact ⟨rfl,rfl⟩
 | broken k=>
   rw [e,rrD] at h
   walk_at "y"
   refine h.use ?_
   walk_at "y"
   refine Qs (by decide) ?_
   walk_at "y"
   exact ⟨rfl,rfl⟩
theorem QH (M k:Nat):M / 2 ^ (8 * k)=M / 256 ^ k:=by rw [show (256:Nat)=2 ^ 8 by decide,←Nat.pow_mul]
def R9 (f:Fn):Prop:=∀(M:Nat),M < 256 ^ 9→∀(w:List Nat) (a:Nat),Pure1 f [.int (M:Int),.lst (wD w),.int (a:Int)] (.lst (lr9 ((Cj 0 M (wid M) 0).run w a)))
theorem Pe {cm:Fn} (hm:Fv cm):R9 (fnOf 3 8 (CN cm)):=by
 intro M hM w a S
 have hL:LIM=100000:=rfl
 have hwd:=F3 9 _ hM
 refine Bh rfl ?_
 unfold CN
 walk_at "w"
 refine (hm M hM).use ?_
 generalize wid M=n at hwd ⊢
 have hwl:=Bg w
 walk_at "w"
 refine EL (BR (by lia) (by lia)) ?_
 refine Dn (fun r t=>∃(j x:Nat) (e5 e6 e7:Option Sl),j≤n∧r=(BT 0 ((n:Nat):Int).toNat).drop j∧(Cj 0 M n 0).run w a=(Cj 0 M (n - j) x).run w (a + j)∧t=⟨[some (.val (.int M)),some (.val (.lst (wD w))),some (.val (.int a)),some (.val (.int x)),some (.val (.int n)),e5,e6,e7],S⟩) _ _ ⟨0,0,none,none,none,Nat.zero_le _,rfl,rfl,rfl⟩ ?_ ?_
 ·rintro d r t ⟨j,x,e5,e6,e7,hj,hr,hrun,rfl⟩ _
  obtain ⟨rfl,hr',hjn⟩:=E6 hr
  rw [Int.toNat_natCast] at hjn
  rw [Int.zero_add]
  obtain ⟨e,he⟩:∃e,n - j=e + 1:=⟨n - j - 1,by lia⟩
  rw [he,Cj] at hrun
  walk_at "w"
  cases h:w[a + j]? with
  | none=>
    have:=List.getElem?_eq_none_iff.mp h
    rw [BD h] at hrun
    refine DK (decide_eq_true (by lia)) ?_
    walk_at "w"
    refine Cu ?_
    walk_at "w"
    exact ⟨by rw [hrun];rfl,rfl⟩
  | some b=>
    have hlt:=(List.getElem?_eq_some_iff.mp h).1
    rw [BE h] at hrun
    refine CL (decide_eq_false (by lia)) ?_
    walk_at "w"
    refine DI (D8 (by decide) (by decide)) ?_
    walk_at "w"
    rw [show ((a:Int) + (j:Int))=((a + j:Nat):Int) by lia]
    refine B8 (CP (F0 h)) ?_
    walk_at "w"
    rw [show ((n:Int) - 1 - (j:Int))=((e:Nat):Int) by lia,show ((x:Int) * 256 + (b:Int))=((x * 256 + b:Nat):Int) by lia]
    refine EL (BR (by lia) (by lia)) ?_
    refine Dn (fun r t=>∃(i:Nat) (e7:Option Sl),i≤e∧r=(BT 0 ((e:Nat):Int).toNat).drop i∧t=⟨[some (.val (.int M)),some (.val (.lst (wD w))),some (.val (.int a)),some (.val (.int ((x * 256 + b:Nat):Int))),some (.val (.int n)),some (.val (.int j)),some (.val (.int ((M / 256 ^ i:Nat):Int))),e7],S⟩) _ _ ⟨0,e7,Nat.zero_le _,rfl,by rw [Nat.pow_zero,Nat.div_one];rfl⟩ ?_ ?_
    ·rintro d r t ⟨i,e7,hi,hr2,rfl⟩ _
     obtain ⟨rfl,hr3,hin⟩:=E6 hr2
     rw [Int.toNat_natCast] at hin
     walk_at "w"
     exact ⟨i + 1,some (.val (.int (0 + (i:Int)))),hin,hr3,by rw [Nat.pow_succ,←Nat.div_div_eq_div_mul];rfl⟩
    ·rintro t ⟨i,e7,hi,hr2,rfl⟩
     have hi':i=e:=by
      have:=congrArg List.length hr2
      rw [List.length_nil,List.length_drop,DR,Int.toNat_natCast] at this
      lia
     subst hi'
     rw [←QH]
     walk_at "w"
     by_cases q:x * 256 + b≤M / 2 ^ (8 * i)
     ·rw [if_pos (decide_eq_true q)] at hrun
      refine CL (decide_eq_false (by lia)) ?_
      walk_at "w"
      exact ⟨j + 1,x * 256 + b,_,_,_,hjn,hr',by rw [show n - (j + 1)=i by lia,hrun,Nat.add_assoc],rfl⟩
     ·rw [if_neg (by rw [decide_eq_true_eq];exact q)] at hrun
      refine DK (decide_eq_true (by lia)) ?_
      walk_at "w"
      refine Cu ?_
      walk_at "w"
      exact ⟨by rw [hrun];rfl,rfl⟩
 ·rintro t ⟨j,x,e5,e6,e7,hj,hr,hrun,rfl⟩
  have hj':j=n:=by
   have:=congrArg List.length hr
   rw [List.length_nil,List.length_drop,DR,Int.toNat_natCast] at this
   lia
  subst hj'
  rw [Nat.sub_self,Cj,Rd.run] at hrun
  walk_at "w"
  refine Cu ?_
  walk_at "w"
  exact ⟨by rw [hrun,lr9,Int.zero_add];rfl,rfl⟩
def sg94:Str:=" !\"#$&'()*+,-./0123456789:;<=>?@ABCDEFGHIJKLMNOPQRSTUVWXYZ[\\]^_`abcdefghijklmnopqrstuvwxyz{|}~"
theorem RB {c:Nat} (h:BI c=true):atI sg94.cps.toList ((c:Int) - 32 - (if decide ((37:Int) < (c:Int))=true then 1 else 0))=some c:=by
 have hl:sg94.cps.toList.length=94:=by decide +kernel
 have hall:(List.range 127).all (fun c=>!BI c || decide (sg94.cps.toList[c - 32 - (if 37 < c then 1 else 0)]?=some c))=true:=by decide +kernel
 have h':=h
 simp only [BI,Bool.and_eq_true,decide_eq_true_eq] at h'
 have:=List.all_eq_true.mp hall c (List.mem_range.mpr (by lia))
 rw [h,Bool.not_true,Bool.false_or,decide_eq_true_eq] at this
 by_cases q:37 < c
 ·rw [if_pos (decide_eq_true (by lia)),show ((c:Int) - 32 - 1)=((c - 32 - 1:Nat):Int) by lia]
  rw [if_pos q] at this
  exact CP this
 ·rw [if_neg (by rw [decide_eq_true_eq];lia),show ((c:Int) - 32 - 0)=((c - 32 - 0:Nat):Int) by lia]
  rw [if_neg q] at this
  exact CP this
theorem Mh (w:List Nat) {a b:Nat} (h1:a≤b) (h2:b≤w.length):BG (wD w) (some (a:Int)) (some (b:Int))=wD (seg w a b):=by
 have e1:HT.sIx (wD w).length 0 (some (a:Int))=a:=by simp only [HT.sIx];rw [if_neg (by lia),Bg];lia
 have e2:HT.sIx (wD w).length (wD w).length (some (b:Int))=b:=by simp only [HT.sIx];rw [if_neg (by lia),Bg];lia
 unfold BG seg
 rw [e1,e2]
 unfold wD
 rw [List.map_take,List.map_drop]
theorem Lz {w:List Nat} {a b x:Nat} (h:w[b]?=some x) (hb:a≤b):seg w a (b + 1)=seg w a b++[x]:=by
 rw [Jw hb (Nat.le_succ b),EI h (Nat.le_refl _),D4]
theorem Me {α:Type} {l:List α} {ι f:α→D} {fr:List (Option Sl)} {S:List Ob} {elt:M D} {z:Option Sl} (h:∀a∈l,W elt ⟨some (.val (ι a)) :: fr,S⟩ fun x t'=>x=f a∧t'=⟨some (.val (ι a)) :: fr,S⟩) :
 W (BW (BL 0) Dc elt (l.map ι)) ⟨z :: fr,S⟩ fun xs t'=>xs=l.map f∧t'.S=S:=by
 induction l generalizing z with
 | nil=>exact W_compL_nil.mpr ⟨rfl,rfl⟩
 | cons a r ih=>
   rw [List.map_cons,Ec]
   refine GX (GY ?_)
   rw [if_pos rfl]
   refine (h a List.mem_cons_self).mono fun x t' ⟨e1,e2⟩=>?_
   subst e1 e2
   refine (ih (z:=some (.val (ι a))) fun b hb=>h b (List.mem_cons_of_mem _ hb)).mono fun xs t' ⟨e1,e2⟩=>?_
   subst e1
   exact ⟨rfl,e2⟩
def P5 (f:Fn):Prop:=∀(q:Int),q≤250→∀(w:List Nat) (a:Nat),w.length≤90000→Pure1 f [.int q,.lst (wD w),.int (a:Int)] (.lst (lr9 ((Rd.need (fun b=>decide ((b:Int)≤q)) fun b=>DA b []).run w a)))
theorem OD:P5 (fnOf 3 6 Ds):=by
 intro q hq w a hlen S
 have hL:LIM=100000:=rfl
 have hwl:=Bg w
 refine Bh rfl ?_
 unfold Ds
 walk_at "w"
 cases h:w[a]? with
 | none=>
   have:=List.getElem?_eq_none_iff.mp h
   rw [BD h]
   refine DK (decide_eq_true (by lia)) ?_
   walk_at "w"
   refine Cu ?_
   walk_at "w"
   exact ⟨rfl,rfl⟩
 | some b=>
   have hal:=(List.getElem?_eq_some_iff.mp h).1
   have hix:=CP (F0 h)
   rw [BE h]
   refine CL (decide_eq_false (by lia)) ?_
   walk_at "w"
   refine B8 hix ?_
   walk_at "w"
   by_cases hb:(b:Int)≤q
   ·rw [if_pos (decide_eq_true hb)]
    refine CL (decide_eq_false (by lia)) ?_
    walk_at "w"
    refine B8 hix ?_
    walk_at "w"
    rw [show ((a:Int) + 1)=((a + 1:Nat):Int) by lia,show (((a + 1:Nat):Int) + (b:Int))=((a + 1 + b:Nat):Int) by lia]
    refine T1 (by rw [BR (by lia) (by lia),BR (by lia) (by lia)];rfl) ?_
    rw [show (((a + 1 + b:Nat):Int) - ((a + 1:Nat):Int)).toNat=b by lia]
    refine Dn (fun r t=>∃(j:Nat) (e3:Option Sl),j≤b∧r=(BT ((a + 1:Nat):Int) b).drop j∧a + 1 + j≤w.length∧(∀c∈seg w (a + 1) (a + 1 + j),BI c=true)∧(DA b []).run w (a + 1)=(DA (b - j) (seg w (a + 1) (a + 1 + j))).run w (a + 1 + j)∧t=⟨[some (.val (.int q)),some (.val (.lst (wD w))),some (.val (.int a)),e3,none,none],S⟩) _ _ ⟨0,none,Nat.zero_le _,rfl,by lia,(by rw [Nat.add_zero,D4];exact fun c z=>nomatch z),by rw [Nat.add_zero,D4,Nat.sub_zero],rfl⟩ ?_ ?_
    ·rintro d r t ⟨j,e3,hj,hr,hjl,hsg,hrun,rfl⟩ _
     obtain ⟨rfl,hr',hjn⟩:=E6 hr
     rw [show (((a + 1:Nat):Int) + (j:Int))=((a + 1 + j:Nat):Int) by lia]
     obtain ⟨e,he⟩:∃e,b - j=e + 1:=⟨b - j - 1,by lia⟩
     rw [he,DA] at hrun
     walk_at "w"
     cases h2:w[a + 1 + j]? with
     | none=>
       have:=List.getElem?_eq_none_iff.mp h2
       rw [BD h2] at hrun
       refine DK (decide_eq_true (by lia)) ?_
       walk_at "w"
       refine Cu ?_
       walk_at "w"
       exact ⟨by rw [hrun];rfl,rfl⟩
     | some c=>
       have hlt:=(List.getElem?_eq_some_iff.mp h2).1
       have hi2:=CP (F0 h2)
       rw [BE h2] at hrun
       refine CL (decide_eq_false (by lia)) ?_
       walk_at "w"
       refine B8 hi2 ?_
       walk_at "w"
       have bad:BI c=false→(DA b []).run w (a + 1) = .broken (a + 1 + j):=fun z=>by rw [hrun,if_neg (by rw [z];decide)]
       have good:BI c=true→∃(j':Nat) (e3':Option Sl),j'≤b∧r=(BT ((a + 1:Nat):Int) b).drop j'∧a + 1 + j'≤w.length∧(∀c∈seg w (a + 1) (a + 1 + j'),BI c=true)∧(DA b []).run w (a + 1)=(DA (b - j') (seg w (a + 1) (a + 1 + j'))).run w (a + 1 + j')∧(⟨[some (.val (.int q)),some (.val (.lst (wD w))),some (.val (.int a)),some (.val (.int ((a + 1 + j:Nat):Int))),none,none],S⟩:T)=⟨[some (.val (.int q)),some (.val (.lst (wD w))),some (.val (.int a)),e3',none,none],S⟩:=fun z=>by
        refine ⟨j + 1,_,hjn,hr',hlt,?_,?_,rfl⟩
        ·rw [←Nat.add_assoc,Lz h2 (by lia)]
         intro x hx
         rcases List.mem_append.mp hx with hx | hx
         ·exact hsg x hx
         ·rw [List.mem_singleton] at hx;subst hx;exact z
        ·rw [hrun,if_pos z,←Nat.add_assoc,Lz h2 (by lia),show b - (j + 1)=e by lia]
       by_cases q1:(c:Int) < 32
       ·refine DK (decide_eq_true q1) ?_
        walk_at "w"
        refine Cu ?_
        walk_at "w"
        exact ⟨by rw [bad (by simp only [BI];rw [decide_eq_false (by lia)];rfl)];rfl,rfl⟩
       ·refine CL (decide_eq_false q1) ?_
        walk_at "w"
        refine B8 hi2 ?_
        walk_at "w"
        by_cases q2:(126:Int) < c
        ·refine DK (decide_eq_true q2) ?_
         walk_at "w"
         refine Cu ?_
         walk_at "w"
         exact ⟨by rw [bad (by simp only [BI];rw [decide_eq_false (show ¬c≤126 by lia),Bool.and_false];rfl)];rfl,rfl⟩
        ·refine CL (decide_eq_false q2) ?_
         walk_at "w"
         refine B8 hi2 ?_
         walk_at "w"
         by_cases q3:c=37
         ·subst q3
          walk_at "w"
          refine Cu ?_
          walk_at "w"
          exact ⟨by rw [bad (by decide)];rfl,rfl⟩
         ·refine CL (by simp;lia) ?_
          walk_at "w"
          exact good (by simp only [BI,Bool.and_eq_true,decide_eq_true_eq];lia)
    ·rintro t ⟨j,e3,hj,hr,hjl,hsg,hrun,rfl⟩
     have hj':j=b:=by
      have:=congrArg List.length hr
      rw [List.length_nil,List.length_drop,DR] at this
      lia
     subst hj'
     rw [Nat.sub_self,DA,Rd.run] at hrun
     walk_at "w"
     refine B8 hix ?_
     walk_at "w"
     rw [show ((a:Int) + 1)=((a + 1:Nat):Int) by lia,show (((a + 1:Nat):Int) + (j:Int))=((a + 1 + j:Nat):Int) by lia,Mh w (by lia) hjl]
     refine (Me (l:=seg w (a + 1) (a + 1 + j)) (ι:=fun n=>D.int (n:Int)) (f:=fun c=>D.str ⟨#[c]⟩) (fr:=[some (.val (.str sg94))]) ?_).mono ?_
     ·intro c hc
      walk_at "w"
      refine W_ix_str.mpr ⟨by decide +kernel,c,RB (hsg c hc),?_⟩
      exact ⟨rfl,rfl⟩
     ·rintro xs t' ⟨rfl,hSc⟩
      have hsl:(seg w (a + 1) (a + 1 + j)).length=j:=by unfold seg;rw [List.length_take,List.length_drop];lia
      refine BQ (by rw [List.length_map,hsl,hL];lia) ?_
      walk_at "w"
      refine Cu ?_
      walk_at "w"
      refine Qt ?_
      walk_at "w"
      refine ⟨_,_,_,rfl,rfl,Fr _,⟨by decide +kernel,by rw [List.length_map,hsl];lia⟩,?_⟩
      walk_at "w"
      refine B8 hix ?_
      walk_at "w"
      refine ⟨?_,hSc⟩
      have ej:Txt.join (Str.ofString "") ((seg w (a + 1) (a + 1 + j)).map fun n=>(⟨#[n]⟩:Str))=⟨(seg w (a + 1) (a + 1 + j)).toArray⟩:=MI (by rw [Gi])
      rw [hrun,ej,lr9,show ((a:Int) + 1 + (j:Int))=((a + 1 + j:Nat):Int) by lia]
   ·rw [if_neg (by rw [decide_eq_true_eq];exact hb)]
    refine DK (decide_eq_true (by lia)) ?_
    walk_at "w"
    refine Cu ?_
    walk_at "w"
    exact ⟨rfl,rfl⟩
def Ez (p:Sh→Rd):List Sh→List D→Rd
 | [],ds=>.done (.lst ds)
 | s :: r,ds=>(p s).bnd fun v=>Ez p r (ds++[v])
def IN9 (f:Fn) (s:Sh) (p:Rd):Prop:=∀(w:List Nat) (a:Nat),a≤w.length→w.length≤90000→Pure1 f [s.d,.lst (wD w),.int (a:Int)] (.lst (lr9 (p.run w a)))
theorem Pw {c:Fn} {p:Sh→Rd} {ss:List Sh} (hc:∀s∈ss,IN9 c s (p s)) (hl:ss.length≤1000) (w:List Nat) (a:Nat) (ha:a≤w.length) (hlen:w.length≤90000):Pure1 (fnOf 3 6 (CU c)) [.lst (ss.map Sh.d),.lst (wD w),.int (a:Int)] (.lst (lr9 ((Ez p ss []).run w a))):=by
 intro S
 have hL:LIM=100000:=rfl
 refine Bh rfl ?_
 unfold CU
 walk_at "w"
 refine Dn (fun r t=>∃(ss':List Sh) (a':Nat) (ds:List D) (e4 e5:Option Sl),r=ss'.map Sh.d∧(∀s∈ss',s∈ss)∧ds.length + ss'.length=ss.length∧a'≤w.length∧(Ez p ss []).run w a=(Ez p ss' ds).run w a'∧t=⟨[some (.val (.lst (ss.map Sh.d))),some (.val (.lst (wD w))),some (.val (.int a')),some (.own ds),e4,e5],S⟩) _ _ ⟨ss,a,[],none,none,rfl,fun _ z=>z,by simp,ha,rfl,rfl⟩ ?_ ?_
 ·rintro d r t ⟨ss',a',ds,e4,e5,hr,hin,hdl,ha',hrun,rfl⟩ _
  match ss',hr,hin,hdl,hrun with
  | s :: r2,hr,hin,hdl,hrun=>
    rw [List.map_cons] at hr
    injection hr with q1 q2
    subst q1 q2
    rw [List.length_cons] at hdl
    rw [Ez,Cd] at hrun
    have h:=hc s (hin s List.mem_cons_self) w a' ha' hlen
    walk_at "w"
    refine Fs ?_
    walk_at "w"
    refine h.use ⟨_,rfl,?_⟩
    cases e:(p s).run w a' with
    | short=>
      rw [e] at hrun
      rw [lr9]
      walk_at "w"
      refine Cb rfl ?_
      walk_at "w"
      refine ⟨_,_,_,rfl,rfl,rfl,?_⟩
      walk_at "w"
      refine C4 rfl ?_
      exact ⟨by rw [hrun];rfl,rfl⟩
    | broken k=>
      rw [e] at hrun
      rw [lr9]
      walk_at "w"
      refine Cb rfl ?_
      walk_at "w"
      refine ⟨_,_,_,rfl,rfl,rfl,?_⟩
      walk_at "w"
      refine C4 rfl ?_
      exact ⟨by rw [hrun];rfl,rfl⟩
    | told v a2=>
      have hle:=EK _ a' ha' e
      rw [e,RR.thn] at hrun
      rw [lr9]
      walk_at "w"
      refine Cb rfl ?_
      walk_at "w"
      refine ⟨_,_,_,rfl,rfl,rfl,?_⟩
      walk_at "w"
      refine Cb rfl ?_
      walk_at "w"
      refine ⟨_,_,_,rfl,rfl,rfl,?_⟩
      walk_at "w"
      refine BQ (by rw [hL];lia) ?_
      walk_at "w"
      refine Cb rfl ?_
      walk_at "w"
      refine ⟨_,_,_,rfl,rfl,rfl,?_⟩
      walk_at "w"
      exact ⟨r2,a2,ds++[v],_,_,rfl,fun s hs=>hin s (List.mem_cons_of_mem _ hs),by rw [List.length_append];show ds.length + 1 + _=_;lia,hle.2,hrun,rfl⟩
 ·rintro t ⟨ss',a',ds,e4,e5,hr,hin,hdl,ha',hrun,rfl⟩
  match ss',hr,hrun with
  | [],_,hrun=>
    rw [Ez,Rd.run] at hrun
    walk_at "w"
    refine Cu ?_
    walk_at "w"
    exact ⟨by rw [hrun];rfl,rfl⟩
theorem J0 {lo:Int} {M:Nat} {w:List Nat}:∀(r x a:Nat),(∃(y:Int) (b:Nat),(Cj 0 M r x).run w a = .told (.int y) b∧(Cj lo M r x).run w a = .told (.int (y + lo)) b)∨((Cj 0 M r x).run w a = .short∧(Cj lo M r x).run w a = .short)∨∃k,(Cj 0 M r x).run w a = .broken k∧(Cj lo M r x).run w a = .broken k
 | 0,x,a=>.inl ⟨0 + x,a,rfl,by rw [Cj,Rd.run];congr 2;lia⟩
 | r + 1,x,a=>by
   rw [Cj,Cj]
   cases e:w[a]? with
   | none=>rw [BD e,BD e];exact .inr (.inl ⟨rfl,rfl⟩)
   | some c=>
     rw [BE e,BE e]
     by_cases q:x * 256 + c≤M / 2 ^ (8 * r)
     ·rw [if_pos (decide_eq_true q),if_pos (decide_eq_true q)];exact J0 r _ _
     ·rw [if_neg (by rw [decide_eq_true_eq];exact q),if_neg (by rw [decide_eq_true_eq];exact q)];exact .inr (.inr ⟨a,rfl,rfl⟩)
theorem MD {p:Sh→Rd} {s:Sh}:∀(b:Nat) (ds:List D),Ez p (List.replicate b s) ds=EY (p s) b ds
 | 0,ds=>rfl
 | b + 1,ds=>by
   rw [List.replicate_succ,Ez,EY]
   congr 1
   funext v
   exact MD b _
theorem Rs {p:Sh→Rd} {s r:Sh} {w:List Nat} {a:Nat}:(∃v u b,(Ez p [s,r] []).run w a = .told (.lst [v,u]) b∧((p s).bnd fun v=>(p r).bnd fun u=>.done (.tup [v,u])).run w a = .told (.tup [v,u]) b)∨((Ez p [s,r] []).run w a = .short∧((p s).bnd fun v=>(p r).bnd fun u=>.done (.tup [v,u])).run w a = .short)∨∃k,(Ez p [s,r] []).run w a = .broken k∧((p s).bnd fun v=>(p r).bnd fun u=>.done (.tup [v,u])).run w a = .broken k:=by
 rw [Ez,Cd,Cd]
 cases (p s).run w a with
 | short=>exact .inr (.inl ⟨rfl,rfl⟩)
 | broken k=>exact .inr (.inr ⟨k,rfl,rfl⟩)
 | told v a2=>
   rw [RR.thn,RR.thn,Ez,Cd,Cd]
   cases (p r).run w a2 with
   | short=>exact .inr (.inl ⟨rfl,rfl⟩)
   | broken k=>exact .inr (.inr ⟨k,rfl,rfl⟩)
   | told u a3=>exact .inl ⟨v,u,a3,rfl,rfl⟩
def P4 (f:Fn) (n:Nat):Prop:=∀ss:List Sh,(∀s∈ss,s.depth≤n∧wf s=true)→ss.length≤1000→∀(w:List Nat) (a:Nat),a≤w.length→w.length≤90000→Pure1 f [.lst (ss.map Sh.d),.lst (wD w),.int (a:Int)] (.lst (lr9 ((Ez (pSh n) ss []).run w a)))
def Kz (f:Fn) (n:Nat):Prop:=∀s:Sh,s.depth≤n→wf s=true→IN9 f s (pSh n s)
theorem Tw {c:Fn} {n:Nat} (hc:Kz c n):P4 (fnOf 3 6 (CU c)) n:=fun ss h hl w a ha hlen=>Pw (p:=pSh n) (fun s hs=>hc s (h s hs).1 (h s hs).2) hl w a ha hlen
theorem Ul {ci cr ct cn:Fn} {n:Nat} (hn:R9 cn) (ht:P5 ct) (hr:P4 cr n) (hi:Kz ci n):Kz (fnOf 3 4 (E1 ci cr ct cn)) (n + 1):=by
 intro s hs hwf w a ha hlen S
 have hL:LIM=100000:=rfl
 have hwl:=Bg w
 refine Bh rfl ?_
 unfold E1
 cases s with
 | nothing=>
   rw [Sh.d,pSh,Rd.run]
   walk_at "w"
   refine Cu ?_
   walk_at "w"
   exact ⟨rfl,rfl⟩
 | number lo hi=>
   have hsp:=JB hwf
   have em:hi - lo=(((hi - lo).toNat:Nat):Int):=by
    simp only [wf,Bool.and_eq_true,decide_eq_true_eq] at hwf
    lia
   rw [Sh.d,pSh]
   have h:=hn _ hsp w a
   rw [←em] at h
   walk_at "w"
   refine Fs ?_
   walk_at "w"
   refine h.use ⟨_,rfl,?_⟩
   rcases J0 (lo:=lo) (M:=(hi - lo).toNat) (w:=w) (wid (hi - lo).toNat) 0 a with ⟨y,b,e1,e2⟩ | ⟨e1,e2⟩ | ⟨k,e1,e2⟩
   ·rw [e1,e2,lr9,lr9]
    walk_at "w"
    refine Cb rfl ?_
    walk_at "w"
    refine ⟨_,_,_,rfl,rfl,rfl,?_⟩
    walk_at "w"
    refine Cb rfl ?_
    walk_at "w"
    refine ⟨_,_,_,rfl,rfl,rfl,?_⟩
    walk_at "w"
    refine LR rfl ?_
    walk_at "w"
    refine ⟨_,_,_,rfl,rfl,rfl,?_⟩
    walk_at "w"
    refine C4 rfl ?_
    exact ⟨rfl,rfl⟩
   ·rw [e1,e2,lr9]
    walk_at "w"
    refine Cb rfl ?_
    walk_at "w"
    refine ⟨_,_,_,rfl,rfl,rfl,?_⟩
    walk_at "w"
    refine C4 rfl ?_
    exact ⟨rfl,rfl⟩
   ·rw [e1,e2,lr9]
    walk_at "w"
    refine Cb rfl ?_
    walk_at "w"
    refine ⟨_,_,_,rfl,rfl,rfl,?_⟩
    walk_at "w"
    refine C4 rfl ?_
    exact ⟨rfl,rfl⟩
 | text q=>
   simp only [wf,Bool.and_eq_true,decide_eq_true_eq] at hwf
   have h:=ht q hwf.2 w a hlen
   rw [Sh.d,pSh]
   walk_at "w"
   refine Cu ?_
   refine Fs ?_
   walk_at "w"
   exact h.use ⟨_,rfl,rfl,rfl⟩
 | pair s r=>
   simp only [wf,Bool.and_eq_true] at hwf
   rw [Sh.depth] at hs
   have h:=hr [s,r] (fun x hx=>by
    rcases List.mem_cons.mp hx with rfl | hx
    ·exact ⟨by lia,hwf.1⟩
    ·rw [List.mem_singleton] at hx;subst hx;exact ⟨by lia,hwf.2⟩) (by show 2≤1000;decide) w a ha hlen
   rw [Sh.d,pSh]
   walk_at "w"
   refine Fs ?_
   walk_at "w"
   refine h.use ⟨_,rfl,?_⟩
   rcases Rs (p:=pSh n) (s:=s) (r:=r) (w:=w) (a:=a) with ⟨v,u,b,e1,e2⟩ | ⟨e1,e2⟩ | ⟨k,e1,e2⟩
   ·rw [e1,e2,lr9,lr9]
    walk_at "w"
    refine Cb rfl ?_
    walk_at "w"
    refine ⟨_,_,_,rfl,rfl,rfl,?_⟩
    walk_at "w"
    refine Cb rfl ?_
    walk_at "w"
    refine ⟨_,_,_,rfl,rfl,rfl,?_⟩
    walk_at "w"
    refine LR rfl ?_
    walk_at "w"
    refine ⟨_,_,_,rfl,rfl,rfl,?_⟩
    walk_at "w"
    refine C4 rfl ?_
    exact ⟨rfl,rfl⟩
   ·rw [e1,e2,lr9]
    walk_at "w"
    refine Cb rfl ?_
    walk_at "w"
    refine ⟨_,_,_,rfl,rfl,rfl,?_⟩
    walk_at "w"
    refine C4 rfl ?_
    exact ⟨rfl,rfl⟩
   ·rw [e1,e2,lr9]
    walk_at "w"
    refine Cb rfl ?_
    walk_at "w"
    refine ⟨_,_,_,rfl,rfl,rfl,?_⟩
    walk_at "w"
    refine C4 rfl ?_
    exact ⟨rfl,rfl⟩
 | list s q=>
   simp only [wf,Bool.and_eq_true,decide_eq_true_eq] at hwf
   rw [Sh.depth] at hs
   rw [Sh.d,pSh]
   walk_at "w"
   cases h:w[a]? with
   | none=>
     have:=List.getElem?_eq_none_iff.mp h
     rw [BD h]
     refine DK (decide_eq_true (by lia)) ?_
     walk_at "w"
     refine Cu ?_
     walk_at "w"
     exact ⟨rfl,rfl⟩
   | some b=>
     have hal:=(List.getElem?_eq_some_iff.mp h).1
     have hix:=CP (F0 h)
     rw [BE h]
     refine CL (decide_eq_false (by lia)) ?_
     walk_at "w"
     refine B8 hix ?_
     walk_at "w"
     by_cases hb:(b:Int)≤q
     ·rw [if_pos (decide_eq_true hb)]
      have hrow:=hr (List.replicate b s) (fun x hx=>by rw [List.mem_replicate] at hx;obtain ⟨_,rfl⟩:=hx;exact ⟨by lia,hwf.2⟩) (by rw [List.length_replicate];lia) w (a + 1) hal hlen
      rw [MD,List.map_replicate] at hrow
      refine CL (decide_eq_false (by lia)) ?_
      walk_at "w"
      refine Cu ?_
      refine Fs ?_
      walk_at "w"
      refine B8 hix ?_
      walk_at "w"
      refine U2 ⟨BR (by lia) (by lia),by rw [hL,Int.toNat_natCast];show 1 * _≤_;lia⟩ ?_
      walk_at "w"
      rw [Int.toNat_natCast,show (List.replicate b [s.d]).flatten=List.replicate b s.d by simp,show ((a:Int) + 1)=((a + 1:Nat):Int) by lia]
      exact hrow.use ⟨_,rfl,rfl,rfl⟩
     ·rw [if_neg (by rw [decide_eq_true_eq];exact hb)]
      refine DK (decide_eq_true (by lia)) ?_
      walk_at "w"
      refine Cu ?_
      walk_at "w"
      exact ⟨rfl,rfl⟩
 | choice ss=>
   simp only [wf,Bool.and_eq_true,decide_eq_true_eq] at hwf
   rw [Sh.depth] at hs
   rw [Sh.d,pSh]
   walk_at "w"
   cases h:w[a]? with
   | none=>
     have:=List.getElem?_eq_none_iff.mp h
     rw [BD h]
     refine DK (decide_eq_true (by lia)) ?_
     walk_at "w"
     refine Cu ?_
     walk_at "w"
     exact ⟨rfl,rfl⟩
   | some b=>
     have hal:=(List.getElem?_eq_some_iff.mp h).1
     have hix:=CP (F0 h)
     rw [BE h]
     refine CL (decide_eq_false (by lia)) ?_
     walk_at "w"
     refine B8 hix ?_
     walk_at "w"
     rw [EJ]
     by_cases hb:b < ss.length
     ·have e0:ss[b]?=some ss[b]:=List.getElem?_eq_getElem hb
      have hsd:atI (shD ss) (b:Int)=some ss[b].d:=CP (by rw [FZ,e0];rfl)
      have h2:=hi ss[b] (Nat.le_trans (Cl ss _ _ e0) (by lia)) (C5 hwf.2 _ (List.getElem_mem hb)) w (a + 1) hal hlen
      rw [if_pos (decide_eq_true hb),Cd,List.getD_eq_getElem?_getD,e0,Option.getD_some]
      refine CL (decide_eq_false (by lia)) ?_
      walk_at "w"
      refine Fs ?_
      walk_at "w"
      refine B8 hix ?_
      walk_at "w"
      refine HV hsd ?_
      walk_at "w"
      rw [show ((a:Int) + 1)=((a + 1:Nat):Int) by lia]
      refine h2.use ⟨_,rfl,?_⟩
      cases e:(pSh n ss[b]).run w (a + 1) with
      | short=>
        rw [lr9]
        walk_at "w"
        refine Cb rfl ?_
        walk_at "w"
        refine ⟨_,_,_,rfl,rfl,rfl,?_⟩
        walk_at "w"
        refine C4 rfl ?_
        exact ⟨rfl,rfl⟩
      | broken k=>
        rw [lr9]
        walk_at "w"
        refine Cb rfl ?_
        walk_at "w"
        refine ⟨_,_,_,rfl,rfl,rfl,?_⟩
        walk_at "w"
        refine C4 rfl ?_
        exact ⟨rfl,rfl⟩
      | told v a2=>
        rw [lr9]
        walk_at "w"
        refine Cb rfl ?_
        walk_at "w"
        refine ⟨_,_,_,rfl,rfl,rfl,?_⟩
        walk_at "w"
        refine B8 hix ?_
        walk_at "w"
        refine Cb rfl ?_
        walk_at "w"
        refine ⟨_,_,_,rfl,rfl,rfl,?_⟩
        walk_at "w"
        refine LR rfl ?_
        walk_at "w"
        refine ⟨_,_,_,rfl,rfl,rfl,?_⟩
        walk_at "w"
        refine C4 rfl ?_
        exact ⟨rfl,rfl⟩
     ·rw [if_neg (by rw [decide_eq_true_eq];exact hb)]
      refine DK (decide_eq_true (by lia)) ?_
      walk_at "w"
      refine Cu ?_
      walk_at "w"
      exact ⟨rfl,rfl⟩
def nvD:Nat→D→Bool
 | _,.non=>true
 | _,.int _=>true
 | _,.str _=>true
 | n + 1,.lst xs=>decide (xs.length≤1000) && xs.all (nvD n)
 | n + 1,.tup xs=>decide (xs.length≤1000) && xs.all (nvD n)
 | _,_=>false
theorem Qy {f:M (List D)} {t:T} {P:List D→T→Prop} (h:W f t fun ds t1=>W (IR ds) t1 P):W (MV f) t P:=W_bnd.mpr h
theorem T6 {xs ys:List D} {t:T} {P:List D→T→Prop} (h:P (Dm xs ys) t):W (IR [.lst xs,.lst ys]) t P:=⟨_,_,rfl,h⟩
theorem T7 {xs ys:List D} {t:T} {P:List D→T→Prop} (h:P (Dm xs ys) t):W (IR [.tup xs,.tup ys]) t P:=⟨_,_,rfl,h⟩
def G1 (f:Fn) (n:Nat):Prop:=∀d,nvD n d=true→Pure1 f [d,d] (.bl true)
theorem HY:∀(xs:List D),Dm xs xs=xs.map fun d=>D.tup [d,d]
 | []=>rfl
 | x :: xs=>by rw [Dm,HY xs];rfl
theorem KF {c:Fn} {S:List Ob}:∀{l:List D} {z0 z1:Option Sl},(∀d∈l,Pure1 c [d,d] (.bl true))→W (BW (unS 2 (DF (BL 0) (DF (BL 1) GU))) Dc (Av c (Ac (Ad 0) (Ac (Ad 1) Aj))) (l.map fun d=>D.tup [d,d])) ⟨[z0,z1],S⟩ fun xs t'=>xs=l.map (fun _=>D.bl true)∧t'.S=S
 | [],_,_,_=>W_compL_nil.mpr ⟨rfl,rfl⟩
 | d :: l,z0,z1,h=>by
   rw [List.map_cons,Ec]
   walk_at "w"
   rw [if_pos rfl]
   walk_at "w"
   refine (h d List.mem_cons_self).use ?_
   exact (KF (l:=l) (z0:=some (.val d)) (z1:=some (.val d)) fun x hx=>h x (List.mem_cons_of_mem _ hx)).mono fun xs t' ⟨e1,e2⟩=>⟨by rw [e1];rfl,e2⟩
theorem N2 {l:List D} {t:T} {P:D→T→Prop} (h:P (.bl true) t):W (inD true (.bl false) (.lst (l.map fun _=>D.bl true))) t P:=by
 refine ⟨_,_,?_,h⟩
 have h1:(l.map fun _=>D.bl true).all Gc=true:=by rw [List.all_eq_true];intro d hd;obtain ⟨y,_,rfl⟩:=List.mem_map.mp hd;rfl
 have h2:inV (toV (.bl false)) ((l.map fun _=>D.bl true).map toV)=false:=by
  unfold inV
  rw [List.map_map,List.any_map,List.any_eq_false]
  intro x _
  show ¬(eqV (.bl true) (.bl false)=true)
  decide
 show (if Gc (.bl false)=true∧(l.map fun _=>D.bl true).all Gc=true then _ else _)=_
 rw [if_pos ⟨rfl,h1⟩,h2]
 rfl
theorem Lx {c:Fn} {n:Nat} (hc:n=0∨G1 c (n - 1)):G1 (fnOf 2 2 (Dr c)) n:=by
 intro d hd S
 have hL:LIM=100000:=rfl
 refine Bh rfl ?_
 unfold Dr
 cases d <;> first | (cases n <;> (simp [nvD] at hd;done)) | skip
 ·walk_at "w"
  refine F1 rfl (by decide +kernel) ?_
  exact ⟨rfl,rfl⟩
 ·walk_at "w"
  exact ⟨congrArg D.bl (by simp),rfl⟩
 ·walk_at "w"
  exact ⟨congrArg D.bl (by simp),rfl⟩
 ·rename_i ds
  obtain ⟨m,rfl⟩:∃m,n=m + 1:=by cases n with | zero=>simp [nvD] at hd | succ m=>exact ⟨m,rfl⟩
  rw [nvD,Bool.and_eq_true,decide_eq_true_eq,List.all_eq_true] at hd
  have hcc:G1 c m:=by rcases hc with h | h;cases h;exact h
  walk_at "w"
  refine CL (by simp) ?_
  walk_at "w"
  refine Qy ?_
  walk_at "w"
  refine T7 ?_
  rw [HY]
  refine (KF fun d hd'=>hcc d (hd.2 d hd')).mono ?_
  rintro xs t' ⟨rfl,hS⟩
  refine BQ (by rw [List.length_map,hL];lia) ?_
  walk_at "w"
  refine N2 ?_
  exact ⟨rfl,hS⟩
 ·rename_i ds
  obtain ⟨m,rfl⟩:∃m,n=m + 1:=by cases n with | zero=>simp [nvD] at hd | succ m=>exact ⟨m,rfl⟩
  rw [nvD,Bool.and_eq_true,decide_eq_true_eq,List.all_eq_true] at hd
  have hcc:G1 c m:=by rcases hc with h | h;cases h;exact h
  walk_at "w"
  refine CL (by simp) ?_
  walk_at "w"
  refine Qy ?_
  walk_at "w"
  refine T6 ?_
  rw [HY]
  refine (KF fun d hd'=>hcc d (hd.2 d hd')).mono ?_
  rintro xs t' ⟨rfl,hS⟩
  refine BQ (by rw [List.length_map,hL];lia) ?_
  walk_at "w"
  refine N2 ?_
  exact ⟨rfl,hS⟩
def HZ (f:Fn):Prop:=∀(k c:Nat) (S:List Ob),DeckAt k c S→Wf f [.obj k] S fun r S'=>(∃x:Nat,r = .int (x:Int)∧x < 256)∧DeckAt k c S'∧Keep k c S S'
theorem OR {cd:Fn} (hd:DrawOk cd):HZ (fnOf 1 1 (En cd)):=by
 intro k c S dk
 refine Bh rfl ?_
 unfold En
 walk_at "w"
 refine hd.use 4 dk (fun x1 S4 x10 x11 d4 k4=>?_)
 walk_at "w"
 refine hd.use 95 d4 (fun x2 S5 x20 x21 d5 k5=>?_)
 walk_at "w"
 refine hd.use 256 d5 (fun x3 S6 x30 x31 d6 k6=>?_)
 walk_at "w"
 refine hd.use 5 d6 (fun i S7 i0 i1 d7 k7=>?_)
 obtain ⟨dd,ed,hm,_⟩:=FL (xs:=[D.int 0,.int x1,.int (32 + x2),.int x3,.int 255]) (i:=i) (by lia) (by show i < 5;lia)
 obtain ⟨x,rfl,hx⟩:∃x:Nat,dd = .int (x:Int)∧x < 256:=by
  simp only [List.mem_cons,List.not_mem_nil,or_false] at hm
  rcases hm with rfl | rfl | rfl | rfl | rfl
  ·exact ⟨0,rfl,by lia⟩
  ·exact ⟨x1.toNat,by rw [Int.toNat_of_nonneg x10],by lia⟩
  ·exact ⟨(32 + x2).toNat,by rw [Int.toNat_of_nonneg (by lia)],by lia⟩
  ·exact ⟨x3.toNat,by rw [Int.toNat_of_nonneg x30],by lia⟩
  ·exact ⟨255,rfl,by lia⟩
 refine B8 ed ?_
 exact ⟨⟨x,rfl,hx⟩,d7,k4.trans (k5.trans (k6.trans k7))⟩
theorem Sn (w:List Nat) (k:Nat):BG (wD w) none (some (k:Int))=wD (w.take k):=by
 by_cases h:k≤w.length
 ·rw [OW (by lia) (by rw [Bg];lia),Int.toNat_natCast];unfold wD;rw [List.map_take]
 ·have:HT.sIx (wD w).length (wD w).length (some (k:Int))=(wD w).length:=by simp only [HT.sIx];rw [if_neg (by lia),Bg];lia
  unfold BG
  rw [this,List.take_of_length_le (show w.length≤k by lia)]
  have z:HT.sIx (wD w).length 0 none=0:=rfl
  rw [z,Nat.sub_zero,List.drop_zero,List.take_length]
theorem Qa (w:List Nat) (k:Nat):BG (wD w) (some (k:Int)) none=wD (w.drop k):=by
 by_cases h:k≤w.length
 ·rw [OV (by lia) (by rw [Bg];lia),Int.toNat_natCast];unfold wD;rw [List.map_drop]
 ·have:HT.sIx (wD w).length 0 (some (k:Int))=(wD w).length:=by simp only [HT.sIx];rw [if_neg (by lia),Bg];lia
  unfold BG
  rw [this,List.drop_eq_nil_of_le (show w.length≤k by lia),List.drop_eq_nil_of_le (Nat.le_refl _),List.take_nil]
  rfl
def B256 (w:List Nat):Prop:=∀x∈w,x < 256
theorem B256.take {w:List Nat} (h:B256 w) (m:Nat):B256 (w.take m):=fun x hx=>h x (List.mem_of_mem_take hx)
theorem B256.drop {w:List Nat} (h:B256 w) (m:Nat):B256 (w.drop m):=fun x hx=>h x (List.mem_of_mem_drop hx)
theorem B256.app {w w':List Nat} (h:B256 w) (h':B256 w'):B256 (w++w'):=fun x hx=>(List.mem_append.mp hx).elim (h x) (h' x)
theorem B256.one {x:Nat} (h:x < 256):B256 [x]:=fun y hy=>by rw [List.mem_singleton] at hy;subst hy;exact h
theorem Sk (w:List Nat) (i:Int):∃m,BG (wD w) none (some i)=wD (w.take m):=by
 refine ⟨HT.sIx (wD w).length (wD w).length (some i),?_⟩
 unfold BG
 have z:HT.sIx (wD w).length 0 none=0:=rfl
 rw [z,Nat.sub_zero,List.drop_zero]
 unfold wD
 rw [List.map_take]
theorem Sm (w:List Nat) {p:Nat} (h:p≤w.length):BG (wD w) (some (p:Int)) (some ((p:Int) + 1))=wD ((w.drop p).take 1):=by
 by_cases q:p + 1≤w.length
 ·have:=Mh w (a:=p) (b:=p + 1) (by lia) q
  rw [show ((p + 1:Nat):Int)=(p:Int) + 1 by lia] at this
  rw [this]
  unfold seg
  rw [show p + 1 - p=1 by lia]
 ·have e1:HT.sIx (wD w).length 0 (some (p:Int))=(wD w).length:=by simp only [HT.sIx];rw [if_neg (by lia),Bg];lia
  unfold BG
  rw [e1,List.drop_eq_nil_of_le (Nat.le_refl _),List.take_nil,List.drop_eq_nil_of_le (show w.length≤p by lia),List.take_nil]
  rfl
def IS (f:Fn):Prop:=∀(w:List Nat) (k c:Nat) (S:List Ob),B256 w→w.length≤80000→DeckAt k c S→Wf f [.lst (wD w),.obj k] S fun r S'=>(∃w',r = .lst (wD w')∧B256 w'∧w'.length≤80003)∧DeckAt k c S'∧Keep k c S S'
theorem NJ {cd cb:Fn} (hd:DrawOk cd) (hb:HZ cb):IS (fnOf 2 6 (Dq cd cb)):=by
 intro w k c S hw hlen dk
 have hL:LIM=100000:=rfl
 refine Bh rfl ?_
 unfold Dq
 walk_at "w"
 refine hd.use 3 dk (fun m S1 m0 m1 d1 k1=>?_)
 walk_at "w"
 refine EL (BR (by lia) (by lia)) ?_
 refine Dn (fun r t=>∃(w':List Nat) (S':List Ob) (e2 e3 e4 e5:Option Sl),B256 w'∧w'.length + r.length≤w.length + 3∧t=⟨[some (.val (.lst (wD w'))),some (.val (.obj k)),e2,e3,e4,e5],S'⟩∧DeckAt k c S'∧Keep k c S S') _ _ ⟨w,S1,none,none,none,none,hw,by rw [DR];lia,rfl,d1,k1⟩ ?_ ?_
 ·rintro d r t ⟨w',S',e2,e3,e4,e5,hw',hl',rfl,dk',kp'⟩ _
  rw [List.length_cons] at hl'
  walk_at "w"
  refine hd.use ((w'.length:Int) + 1) dk' (fun at_ S2 t0 t1 d2 k2=>?_) (by rw [Bg]) (by lia) (by lia)
  obtain ⟨p,rfl⟩:=Int.eq_ofNat_of_zero_le t0
  walk_at "w"
  refine (hb k c S2 d2).mono fun r1 S3 ⟨⟨x,e,hx⟩,d3,k3⟩=>?_
  subst e
  walk_at "w"
  refine hd.use 5 d3 (fun y S4 y0 y1 d4 k4=>?_)
  have kk:=kp'.trans (k2.trans (k3.trans k4))
  have c1:BG (wD w') none (some (p:Int))=wD (w'.take p):=Sn w' p
  have c2:BG (wD w') (some ((p:Int) + 1)) none=wD (w'.drop (p + 1)):=Qa w' (p + 1)
  have c3:BG (wD w') (some (p:Int)) none=wD (w'.drop p):=Qa w' p
  have l1:(w'.take p).length≤p∧(w'.take p).length≤w'.length:=by rw [List.length_take];lia
  have l2:(w'.drop (p + 1)).length≤w'.length - p:=by rw [List.length_drop];lia
  have l3:(w'.drop p).length=w'.length - p:=by rw [List.length_drop]
  have fin:∀(w2:List Nat) (e2 e3 e4 e5:Option Sl),B256 w2→w2.length≤w'.length + 1→∃(w3:List Nat) (S':List Ob) (e2' e3' e4' e5':Option Sl),B256 w3∧w3.length + r.length≤w.length + 3∧(⟨[some (.val (.lst (wD w2))),some (.val (.obj k)),e2,e3,e4,e5],S4⟩:T)=⟨[some (.val (.lst (wD w3))),some (.val (.obj k)),e2',e3',e4',e5'],S'⟩∧DeckAt k c S'∧Keep k c S S':=fun w2 e2 e3 e4 e5 h1 h2=>⟨w2,S4,e2,e3,e4,e5,h1,by lia,rfl,d4,kk⟩
  have hp:p≤w'.length:=by lia
  have hwl:w'.length≤80003:=by lia
  walk_at "w"
  refine EG (fun q=>?_) fun q=>?_
  ·walk_at "w"
   rw [c1]
   refine BQ (by rw [Bg,hL];show _ + 1≤_;lia) ?_
   walk_at "w"
   rw [c2]
   refine BQ (by rw [List.length_append,Bg,Bg,hL];show _ + 1 + _≤_;lia) ?_
   rw [show wD (w'.take p)++[D.int (x:Int)]++wD (w'.drop (p + 1))=wD (w'.take p++[x]++w'.drop (p + 1)) by rw [Dh,Dh];rfl]
   exact fin _ _ _ _ _ (((hw'.take p).app (.one hx)).app (hw'.drop _)) (by rw [List.length_append,List.length_append];show _ + 1 + _≤_;lia)
  ·walk_at "w"
   by_cases q2:y=2
   ·subst q2
    walk_at "w"
    rw [c1,c2]
    refine BQ (by rw [Bg,Bg,hL];lia) ?_
    rw [←Dh]
    exact fin _ _ _ _ _ ((hw'.take p).app (hw'.drop _)) (by rw [List.length_append];lia)
   ·refine CL (by simpa using q2) ?_
    walk_at "w"
    by_cases q3:y=3
    ·subst q3
     walk_at "w"
     rw [c1]
     refine BQ (by rw [Bg,hL];show _ + 1≤_;lia) ?_
     walk_at "w"
     rw [c3]
     refine BQ (by rw [List.length_append,Bg,Bg,hL];show _ + 1 + _≤_;lia) ?_
     rw [show wD (w'.take p)++[D.int (x:Int)]++wD (w'.drop p)=wD (w'.take p++[x]++w'.drop p) by rw [Dh,Dh];rfl]
     exact fin _ _ _ _ _ (((hw'.take p).app (.one hx)).app (hw'.drop _)) (by rw [List.length_append,List.length_append];show _ + 1 + _≤_;lia)
    ·refine CL (by simpa using q3) ?_
     walk_at "w"
     rw [c1]
     rw [Sm w' hp]
     obtain ⟨z,hz⟩:∃z:Nat,atI [D.int 1,D.int 255] ((x:Int) % 2)=some (.int (z:Int)):=by
      rcases (show (x:Int) % 2=0∨(x:Int) % 2=1 by lia) with h | h
      ·rw [h];exact ⟨1,rfl⟩
      ·rw [h];exact ⟨255,rfl⟩
     refine (Me (l:=(w'.drop p).take 1) (ι:=fun n=>D.int (n:Int)) (f:=fun n=>D.int (((n + z) % 256:Nat):Int)) (fr:=[some (.val (.int (x:Int)))]) ?_).mono ?_
     ·intro n hn
      walk_at "w"
      refine B8 hz ?_
      walk_at "w"
      exact ⟨congrArg D.int (by push_cast;rfl),rfl⟩
     ·rintro xs t' ⟨rfl,hSc⟩
      have l4:((w'.drop p).take 1).length≤1:=by rw [List.length_take];lia
      refine BQ (by rw [List.length_map,hL];lia) ?_
      walk_at "w"
      have em:((w'.drop p).take 1).map (fun n=>D.int (((n + z) % 256:Nat):Int))=wD (((w'.drop p).take 1).map fun n=>(n + z) % 256):=by unfold wD;rw [List.map_map];rfl
      rw [em]
      refine BQ (by rw [Bg,Bg,List.length_map,hL];lia) ?_
      walk_at "w"
      rw [c2]
      refine BQ (by rw [List.length_append,Bg,Bg,Bg,List.length_map,hL];lia) ?_
      rw [←Dh,←Dh,hSc]
      refine fin _ _ _ _ _ (((hw'.take p).app fun y hy=>?_).app (hw'.drop _)) (by rw [List.length_append,List.length_append,List.length_map];lia)
      obtain ⟨n,_,rfl⟩:=List.mem_map.mp hy
      exact Nat.mod_lt _ (by decide)
 ·rintro t ⟨w',S',e2,e3,e4,e5,hw',hl',rfl,dk',kp'⟩
  walk_at "w"
  refine hd.use 9 dk' (fun y S2 y0 y1 d2 k2=>?_)
  walk_at "w"
  refine hd.use 3 d2 (fun i S3 i0 i1 d3 k3=>?_)
  obtain ⟨dd,ed,hm,_⟩:=FL (xs:=[D.int 0,.int 0,.int y]) (i:=i) (by lia) (by show i < 3;lia)
  obtain ⟨v,rfl⟩:∃v:Int,dd = .int v:=by
   simp only [List.mem_cons,List.not_mem_nil,or_false] at hm
   rcases hm with rfl | rfl | rfl <;> exact ⟨_,rfl⟩
  refine B8 ed ?_
  walk_at "w"
  obtain ⟨m2,em⟩:=Sk w' (((wD w').length:Int) - v)
  rw [em]
  refine ⟨⟨w'.take m2,rfl,hw'.take m2,?_⟩,d3,kp'.trans (k2.trans k3)⟩
  rw [List.length_take]
  have:w'.length≤80003:=by simp only [List.length_nil] at hl';lia
  lia
theorem FP:∀(n:Nat) (s:Sh),s.depth≤n→wf s=true→∀v,Be s v=true→nvD n v=true
 | 0,s,h,_,_,_=>absurd s.depth_pos (by lia)
 | n + 1,s,hs,hw,v,hf=>by
   cases s with
   | nothing=>cases v <;> simp [Be,G8] at hf;rfl
   | number lo hi=>cases v <;> simp [Be] at hf;rfl
   | text q=>cases v <;> simp only [Be,Bool.false_eq_true] at hf;rfl
   | list s q=>
     simp only [wf,Bool.and_eq_true,decide_eq_true_eq] at hw
     rw [Sh.depth] at hs
     cases v <;> simp only [Be,Bool.false_eq_true] at hf
     rename_i ds
     simp only [Bool.and_eq_true,decide_eq_true_eq,List.all_eq_true] at hf
     rw [nvD,Bool.and_eq_true,decide_eq_true_eq,List.all_eq_true]
     exact ⟨by lia,fun d hd=>FP n s (by lia) hw.2 d (hf.2 d hd)⟩
   | pair s r=>
     simp only [wf,Bool.and_eq_true] at hw
     rw [Sh.depth] at hs
     unfold Be at hf
     split at hf
     ·rw [Bool.and_eq_true] at hf
      have h1:=FP n s (by lia) hw.1 _ hf.1
      have h2:=FP n r (by lia) hw.2 _ hf.2
      simp [nvD,h1,h2]
     ·cases hf
   | choice ss=>
     simp only [wf,Bool.and_eq_true,decide_eq_true_eq] at hw
     rw [Sh.depth] at hs
     unfold Be at hf
     split at hf
     ·next o k x=>
      simp only [Bool.and_eq_true,decide_eq_true_eq] at hf
      obtain ⟨j,rfl⟩:=Int.eq_ofNat_of_zero_le hf.1.2.1
      have hj:j < ss.length:=by have:=hf.1.2.2;lia
      have e1:ss[j]?=some ss[j]:=List.getElem?_eq_getElem hj
      have h2:=hf.2
      rw [Int.toNat_natCast,Dx ss _ _ _ e1] at h2
      have h3:=FP n _ (Nat.le_trans (Cl ss _ _ e1) (by lia)) (C5 hw.2 _ (List.getElem_mem hj)) x h2
      have g1:∀o:Str,nvD n (.str o)=true:=fun o=>by cases n <;> rfl
      have g2:∀i:Int,nvD n (.int i)=true:=fun o=>by cases n <;> rfl
      simp [nvD,h3,g1,g2]
     ·cases hf
theorem IU {cb:Fn} (hb:HZ cb) {k c:Nat}:∀(ds:List D) {S:List Ob} {z:Option Sl},DeckAt k c S→W (BW (BL 0) Dc (Av cb (Ac (Ad 1) Aj)) ds) ⟨[z,some (.val (.obj k))],S⟩ fun xs t'=>∃ws,xs=wD ws∧B256 ws∧ws.length=ds.length∧DeckAt k c t'.S∧Keep k c S t'.S
 | [],S,z,dk=>W_compL_nil.mpr ⟨[],rfl,(fun x h=>nomatch h),rfl,dk,⟨rfl,fun _ _ _=>rfl⟩⟩
 | d :: r,S,z,dk=>by
   rw [Ec]
   refine GX (GY ?_)
   rw [if_pos rfl]
   walk_at "w"
   refine (hb k c S dk).mono fun r1 S1 ⟨⟨x,e,hx⟩,d1,k1⟩=>?_
   subst e
   refine (IU hb r (z:=some (.val d)) d1).mono fun xs t' ⟨ws,e,h1,h2,h3,h4⟩=>?_
   subst e
   exact ⟨x :: ws,rfl,fun y hy=>by
    rcases List.mem_cons.mp hy with rfl | hy
    ·exact hx
    ·exact h1 y hy,by rw [List.length_cons,h2];rfl,h3,k1.trans h4⟩
def isB (l:List D):Prop:=∀d∈l,∃x:Nat,d = .int (x:Int)∧x < 256
theorem N4:∀{l:List D},isB l→∃w:List Nat,l=wD w∧∀x∈w,x < 256
 | [],_=>⟨[],rfl,fun x z=>nomatch z⟩
 | d :: r,h=>by
   obtain ⟨x,rfl,hx⟩:=h d List.mem_cons_self
   obtain ⟨w,rfl,hw⟩:=N4 fun d m=>h d (List.mem_cons_of_mem _ m)
   refine ⟨x :: w,rfl,fun y hy=>?_⟩
   rcases List.mem_cons.mp hy with rfl | hy
   ·exact hx
   ·exact hw y hy
theorem Mn {a b:List D} (ha:isB a) (hb:isB b):isB (a++b):=fun d h=>(List.mem_append.mp h).elim (ha d) (hb d)
theorem Gh {x:Nat} {b:List D} (hx:x < 256) (hb:isB b):isB (.int (x:Int) :: b):=fun d h=>by
 rcases List.mem_cons.mp h with rfl | h
 ·exact ⟨x,rfl,hx⟩
 ·exact hb d h
theorem Oe:∀(w n:Nat),isB (nb w n)
 | 0,n=>fun d h=>nomatch h
 | w + 1,n=>Mn (Oe w _) (Gh (Nat.mod_lt _ (by decide)) fun d h=>nomatch h)
theorem Fb:∀(n:Nat) (s:Sh),s.depth≤n→wf s=true→∀v,Be s v=true→isB (By s v)
 | 0,s,h,_,_,_=>absurd s.depth_pos (by lia)
 | n + 1,s,hs,hw,v,hf=>by
   cases s with
   | nothing=>rw [By];exact fun d h=>nomatch h
   | number lo hi=>
     cases v <;> simp [Be] at hf
     rw [By];exact Oe _ _
   | text q=>
     simp only [wf,Bool.and_eq_true,decide_eq_true_eq] at hw
     cases v <;> simp only [Be,Bool.false_eq_true] at hf
     rename_i x
     simp only [Bool.and_eq_true,decide_eq_true_eq,List.all_eq_true] at hf
     rw [By]
     refine Gh (by lia) fun d h=>?_
     obtain ⟨c,hc,rfl⟩:=List.mem_map.mp h
     have:=hf.2 c hc
     simp only [BI,Bool.and_eq_true,decide_eq_true_eq] at this
     exact ⟨c,rfl,by lia⟩
   | list s q=>
     simp only [wf,Bool.and_eq_true,decide_eq_true_eq] at hw
     rw [Sh.depth] at hs
     cases v <;> simp only [Be,Bool.false_eq_true] at hf
     rename_i ds
     simp only [Bool.and_eq_true,decide_eq_true_eq,List.all_eq_true] at hf
     rw [By]
     refine Gh (by lia) fun d h=>?_
     obtain ⟨l,hl,hd⟩:=List.mem_flatten.mp h
     obtain ⟨e,he,rfl⟩:=List.mem_map.mp hl
     exact Fb n s (by lia) hw.2 e (hf.2 e he) d hd
   | pair s r=>
     simp only [wf,Bool.and_eq_true] at hw
     rw [Sh.depth] at hs
     unfold Be at hf
     split at hf
     ·rw [Bool.and_eq_true] at hf
      rw [By]
      exact Mn (Fb n s (by lia) hw.1 _ hf.1) (Fb n r (by lia) hw.2 _ hf.2)
     ·cases hf
   | choice ss=>
     simp only [wf,Bool.and_eq_true,decide_eq_true_eq] at hw
     rw [Sh.depth] at hs
     unfold Be at hf
     split at hf
     ·next o k x=>
      simp only [Bool.and_eq_true,decide_eq_true_eq] at hf
      obtain ⟨j,rfl⟩:=Int.eq_ofNat_of_zero_le hf.1.2.1
      have hj:j < ss.length:=by have:=hf.1.2.2;lia
      have e1:ss[j]?=some ss[j]:=List.getElem?_eq_getElem hj
      have h2:=hf.2
      rw [Int.toNat_natCast,Dx ss _ _ _ e1] at h2
      rw [By,Int.toNat_natCast,ES ss _ _ _ e1]
      exact Gh (by lia) (Fb n _ (Nat.le_trans (Cl ss _ _ e1) (by lia)) (C5 hw.2 _ (List.getElem_mem hj)) x h2)
     ·cases hf
theorem JW {f:D→D→Option Bool}:∀{xs:List D},(∀x∈xs,f x x=some true)→C7 f xs xs=some true
 | [],_=>by simp [C7]
 | x :: xs,h=>by
   rw [C7,h x List.mem_cons_self,JW fun y m=>h y (List.mem_cons_of_mem _ m)]
   rfl
theorem Io (w:List Nat):eqN EQD (.lst (wD w)) (.lst (wD w))=some true:=by
 show eqN (39 + 1) _ _=_
 rw [eqN,if_pos rfl]
 refine JW fun d hd=>?_
 obtain ⟨x,_,rfl⟩:=List.mem_map.mp hd
 simp [eqN,eq0]
theorem Mv:∀(n:Nat) (v:D),nvD n v=true→nvD (n + 1) v=true
 | 0,v,h=>by cases v <;> first | rfl | (simp [nvD] at h;done)
 | n + 1,v,h=>by
   cases v <;> first | rfl | (simp [nvD] at h;done) | skip
   all_goals
    rw [nvD,Bool.and_eq_true,List.all_eq_true] at h
    rw [nvD,Bool.and_eq_true,List.all_eq_true]
    exact ⟨h.1,fun d hd=>Mv n d (h.2 d hd)⟩
def IsWire (d:D):Prop:=∃w:List Nat,d = .lst (wD w)∧B256 w∧w.length≤80050
theorem SE {cch cr csa cz ci cv clb cd cb csh cdk:Fn} (hch:IS cch) (hr:LR9 cr 6) (hsa:G1 csa 8) (hz:Gy cz 7) (hi:Kz ci 6) (hv:F5 cv 6) (hlb:GZ clb 6) (hd:DrawOk cd) (hb:HZ cb) (hsh:FK csh 6) {ns:List Int} (hdk:Wf cdk [.scr ns] [] fun r S'=>∃(k c:Nat) (ex:List Ob),r = .obj k∧DeckAt k c S'∧S'=[]++ex∧([]:List Ob).length≤k∧([]:List Ob).length≤c∧k < S'.length∧c < S'.length) :
 Wf (fnOf 1 11 (FC cch cr csa cz ci cv clb cd cb csh cdk)) [.scr ns] [] fun r _=>r = .bl true:=by
 have hL:LIM=100000:=rfl
 refine Bh rfl ?_
 unfold FC
 walk_at "w"
 refine hdk.mono fun r0 S0 ⟨k,c,ex,e,dk,_,_,_,hk,hcl⟩=>?_
 subst e
 walk_at "w"
 refine Dn (fun r t=>∃(S:List Ob) (e2 e3 e4 e5 e6 e7 e8 e9 e10:Option Sl),t=⟨[some (.val (.scr ns)),some (.val (.obj k)),e2,e3,e4,e5,e6,e7,e8,e9,e10],S⟩∧DeckAt k c S∧k < S.length∧c < S.length) _ _ ⟨_,_,_,_,_,_,_,_,_,_,rfl,dk,hk,hcl⟩ ?_ ?_
 ·rintro d r t ⟨S,e2,e3,e4,e5,e6,e7,e8,e9,e10,rfl,dk,hk,hcl⟩ _
  walk_at "w"
  refine hd.use 6 dk (fun a S1 a0 a1 d1 k1=>?_)
  walk_at "w"
  refine (hsh k c S1.length (S1++[.lst [.int 12]]) (1 + a) 12 (by lia) (by have:=k1.1;lia) (by have:=k1.1;lia) d1.more (by simp)).mono fun v S2 ⟨s,e,R⟩=>?_
  subst e
  have f1:=R.few
  have f2:=R.dep
  have hdp6:s.depth≤6:=by lia
  have hcn:cnt s≤28:=by
   have:CJ (1 + a)≤16:=by unfold CJ;split <;> lia
   lia
  have hw:=R.w
  have hlen2:S2.length=S1.length + 1:=by have:=R.kp.1;simpa using this
  have hk2:k < S2.length∧c < S2.length:=by have:=k1.1;constructor <;> lia
  have d2:=R.deck
  clear R f1 f2 d1 dk k1 hlen2
  refine C6 ?_
  change W _ ⟨[some (.val (.scr ns)),some (.val (.obj k)),some (.val d),some (.val s.d),e4,e5,e6,e7,e8,e9,e10],S2⟩ _
  walk_at "w"
  refine hd.use 7 d2 (fun m S3 m0 m1 d3 k3=>?_)
  walk_at "w"
  refine EL (BR (by lia) (by lia)) ?_
  refine (IU hb _ d3).mono fun xs t' ⟨ah,e,hah,lah,d4,k4⟩=>?_
  subst e
  rw [DR] at lah
  refine BQ (by rw [Bg,hL];lia) ?_
  generalize t'.S=S4 at d4 k4 ⊢
  walk_at "w"
  refine hd.use 41 d4 (fun m' S5 m0' m1' d5 k5=>?_)
  walk_at "w"
  refine EL (BR (by lia) (by lia)) ?_
  refine (IU hb _ d5).mono fun xs t' ⟨dr,e,hdr,ldr,d6,k6⟩=>?_
  subst e
  rw [DR] at ldr
  refine BQ (by rw [Bg,hL];lia) ?_
  generalize t'.S=S6 at d6 k6 ⊢
  have q3:=k3.1;have q4:=k4.1;have q5:=k5.1;have q6:=k6.1
  walk_at "w"
  refine (hv s hdp6 hw hcn k c S6.length (S6++[.lst [.int 100,.int 400]]) 100 400 (by lia) (by lia) d6.more (by simp)).mono fun v S7 R=>?_
  have hfit:=R.fit
  have d7:=R.deck
  have hlen7:S7.length=S6.length + 1:=by have:=R.kp.1;simpa using this
  obtain ⟨a',b',_,z1,z2,z3,z4⟩:=R.lft
  have hlen:(By s v).length≤80000:=by
   have q1:pos 100=100:=by decide
   have q2:pos 400=400:=by decide
   have q3:=GR b'
   rw [q1] at z4
   rw [q2] at z1
   lia
  clear R z1 z2 z3 z4
  have hvv:=hlb s hdp6 hw v hfit (by rw [hL];lia)
  obtain ⟨ws,ews,hws⟩:=N4 (Fb 6 s hdp6 hw v hfit)
  have hws:B256 ws:=hws
  rw [ews] at hvv hlen
  rw [Bg] at hlen
  walk_at "w"
  refine hvv.use ?_
  refine C6 ?_
  change W _ ⟨[some (.val (.scr ns)),some (.val (.obj k)),some (.val d),some (.val s.d),some (.val (.lst (wD ah))),some (.val (.lst (wD dr))),some (.val (.lst (wD ws))),e7,e8,e9,e10],S7⟩ _
  walk_at "w"
  refine (hch ws k c S7 hws hlen d7).mono fun r1 S8 ⟨⟨w1,e,hw1,lw1⟩,d8,k8⟩=>?_
  subst e
  walk_at "w"
  refine BQ (by rw [Bg,Bg,hL];lia) ?_
  walk_at "w"
  rw [Bg,show ((ws.length:Int) / 2)=((ws.length / 2:Nat):Int) by lia,Sn]
  refine BQ (by rw [Bg,Bg,List.length_take,hL];lia) ?_
  walk_at "w"
  have hall:∀z∈[D.lst (wD dr),.lst (wD w1),.lst (wD ws++wD dr),.lst (wD (ws.take (ws.length / 2))++wD dr)],IsWire z:=by
   simp only [List.forall_mem_cons]
   refine ⟨⟨dr,rfl,hdr,by lia⟩,⟨w1,rfl,hw1,by lia⟩,⟨ws++dr,by rw [Dh],hws.app hdr,by rw [List.length_append];lia⟩,⟨ws.take (ws.length / 2)++dr,by rw [Dh],(hws.take _).app hdr,by rw [List.length_append,List.length_take];lia⟩,fun _ z=>nomatch z⟩
  have q8:=k8.1
  refine Dn (fun r t=>∃(e7 e8 e9 e10:Option Sl),t=⟨[some (.val (.scr ns)),some (.val (.obj k)),some (.val d),some (.val s.d),some (.val (.lst (wD ah))),some (.val (.lst (wD dr))),some (.val (.lst (wD ws))),e7,e8,e9,e10],S8⟩) _ _ ⟨_,_,_,_,rfl⟩ ?_ ?_
  ·rintro z r' t ⟨e7,e8,e9,e10,rfl⟩ hz'
   obtain ⟨w,rfl,hwb,hwl⟩:=hall z hz'
   have hlw:(ah++w).length≤90000:=by rw [List.length_append];lia
   have hla:ah.length≤(ah++w).length:=by rw [List.length_append];lia
   have hin:=hi s hdp6 hw (ah++w) ah.length hla hlw
   have hrd:=hr s hdp6 hw (ah++w) ah.length hla
   have hbb:B256 (ah++w):=hah.app hwb
   have nv:∀x:RR,(∀v b,x = .told v b→nvD 6 v=true)→nvD 8 (.lst (lr9 x))=true:=fun x h=>by
    cases x with
    | told v b=>
      have hm:∀v,nvD 6 v=true→nvD 7 v=true:=fun v=>Mv 6 v
      simp [nvD,lr9,hm v (h v b rfl)]
    | short=>simp [nvD,lr9]
    | broken k=>simp [nvD,lr9]
   have nvx:=nv ((pSh 6 s).run (ah++w) ah.length) fun v b e=>FP 6 s hdp6 hw v (Ju 6 s hdp6 hw (ah++w) hbb ah.length b v hla e).1
   have hs9:=hsa _ nvx
   have fin:∀{e8' e9' e10':Option Sl} {e7':Option Sl},∃(e7 e8 e9 e10:Option Sl),(⟨[some (.val (.scr ns)),some (.val (.obj k)),some (.val d),some (.val s.d),some (.val (.lst (wD ah))),some (.val (.lst (wD dr))),some (.val (.lst (wD ws))),e7',e8',e9',e10'],S8⟩:T)=⟨[some (.val (.scr ns)),some (.val (.obj k)),some (.val d),some (.val s.d),some (.val (.lst (wD ah))),some (.val (.lst (wD dr))),some (.val (.lst (wD ws))),e7,e8,e9,e10],S8⟩:=⟨_,_,_,_,rfl⟩
   walk_at "w"
   refine BQ (by rw [Bg,Bg,hL];lia) ?_
   rw [←Dh]
   walk_at "w"
   refine Fs ?_
   walk_at "w"
   rw [Bg]
   refine hin.use ⟨_,rfl,?_⟩
   cases e:(pSh 6 s).run (ah++w) ah.length with
   | told v b=>
     have fit:=(Ju 6 s hdp6 hw (ah++w) hbb ah.length b v hla e).1
     obtain ⟨sm,hdv,_⟩:=FQ 6 s hdp6 hw v fit
     rw [e] at hrd hs9
     rw [lr9] at hrd hs9 ⊢
     walk_at "w"
     refine (hz v (LJ 7 v sm (by lia))).use ?_
     walk_at "w"
     refine EG (fun q=>?_) fun q=>?_
     ·walk_at "w"
      rw [Bg]
      refine hrd.use ?_
      walk_at "w"
      rw [Bg]
      refine hrd.use ?_
      walk_at "w"
      refine hs9.use ?_
      walk_at "w"
      refine F1 rfl (Io _) ?_
      walk_at "w"
      exact fin
     ·walk_at "w"
      rw [Bg]
      refine hrd.use ?_
      walk_at "w"
      refine hs9.use ?_
      walk_at "w"
      refine F1 rfl (Io _) ?_
      walk_at "w"
      exact fin
   | short=>
     rw [e] at hrd hs9
     rw [lr9] at hrd hs9 ⊢
     walk_at "w"
     rw [Bg]
     refine hrd.use ?_
     walk_at "w"
     refine hs9.use ?_
     walk_at "w"
     refine F1 rfl (Io _) ?_
     walk_at "w"
     exact fin
   | broken j=>
     rw [e] at hrd hs9
     rw [lr9] at hrd hs9 ⊢
     walk_at "w"
     rw [Bg]
     refine hrd.use ?_
     walk_at "w"
     refine hs9.use ?_
     walk_at "w"
     refine F1 rfl (Io _) ?_
     walk_at "w"
     exact fin
  ·rintro t ⟨e7,e8,e9,e10,rfl⟩
   exact ⟨S8,_,_,_,_,_,_,_,_,_,rfl,d8,by lia,by lia⟩
 ·rintro t ⟨S,e2,e3,e4,e5,e6,e7,e8,e9,e10,rfl,dk,hk,hcl⟩
  walk_at "w"
  rfl
end LW
set_option maxHeartbeats 4000000
namespace F2
open PySem L2 PySem.Spec PySem.W
theorem Pf {k:Kd} {P:Program} {w:World} {K:PySem.W.Frag} {mg:Str→Option Value} {base:Heap} {n:Nat} {fa:Addr} {fd:FuncData} {ps:List Str}:okK k P w K mg base n fa fd ps (fun _ _=>none):=by
 cases k <;> exact ⟨fun vs H Q E h=>(by obtain ⟨c,ds,S,_,_,r,S',e,_⟩:=h;cases e),fun A' outer s H args us vs Q E _ _ _ _ h=>(by obtain ⟨c,ds,S,_,_,r,S',e,_⟩:=h;cases e)⟩
theorem us0 {n:Nat}:∀{us:List Value},us.length=n + 1→∃a vs,us=a :: vs∧vs.length=n
 | _ :: _,h=>⟨_,_,rfl,Nat.succ.inj h⟩
theorem us1 {us:List Value} (h:us.length=1):∃a,us=[a]:=by
 obtain ⟨a,vs,rfl,q⟩:=us0 h
 exact ⟨a,by rw [List.eq_nil_of_length_eq_zero q]⟩
theorem us2 {us:List Value} (h:us.length=2):∃a b,us=[a,b]:=by
 obtain ⟨_,vs,rfl,q⟩:=us0 h
 obtain ⟨_,rfl⟩:=us1 q
 exact ⟨_,_,rfl⟩
theorem us3 {us:List Value} (h:us.length=3):∃a b c,us=[a,b,c]:=by
 obtain ⟨_,vs,rfl,q⟩:=us0 h
 obtain ⟨_,_,rfl⟩:=us2 q
 exact ⟨_,_,_,rfl⟩
theorem us4 {us:List Value} (h:us.length=4):∃a b c d,us=[a,b,c,d]:=by
 obtain ⟨_,vs,rfl,q⟩:=us0 h
 obtain ⟨_,_,_,rfl⟩:=us3 q
 exact ⟨_,_,_,_,rfl⟩
theorem us5 {us:List Value} (h:us.length=5):∃a b c d e,us=[a,b,c,d,e]:=by
 obtain ⟨_,vs,rfl,q⟩:=us0 h
 obtain ⟨_,_,_,_,rfl⟩:=us4 q
 exact ⟨_,_,_,_,_,rfl⟩
theorem us6 {us:List Value} (h:us.length=6):∃a b c d e f,us=[a,b,c,d,e,f]:=by
 obtain ⟨_,vs,rfl,q⟩:=us0 h
 obtain ⟨_,_,_,_,_,rfl⟩:=us5 q
 exact ⟨_,_,_,_,_,_,rfl⟩
theorem us7 {us:List Value} (h:us.length=7):∃a b c d e f g,us=[a,b,c,d,e,f,g]:=by
 obtain ⟨_,vs,rfl,q⟩:=us0 h
 obtain ⟨_,_,_,_,_,_,rfl⟩:=us6 q
 exact ⟨_,_,_,_,_,_,_,rfl⟩
end F2
namespace K09
open PySem L2 F2 LW
inductive Fx where
 | Bv | A9 | Bw | Ay | A7 | AH | Bd | Br | Bx | Bp | Bq | Bc | Bo | Af | AY | Bk | AC | Bl | AB | AD | A0 | AZ | AA | AN | A5 | AT | A8 | Ba | A1 | AM | AX | law_
def top (i:Nat):Stmt:=PySem.Challenge.pw_wireparley_k09_any_bytes_read.main.body.getD i (.Pass ⟨0,0,0,0⟩)
abbrev nm:Fx→Str
 | .Bv=>"is_sign"
 | .A9=>"width_up_to"
 | .Bw=>"leading"
 | .Ay=>"read_value"
 | .A7=>"byte_at"
 | .AH=>"byte_up_to"
 | .Bd=>"read_number"
 | .Br=>"read_text"
 | .Bx=>"sign_at"
 | .Bp=>"read_list"
 | .Bq=>"read_pair"
 | .Bc=>"read_choice"
 | .Bo=>"_law_deck"
 | .Af=>"_law_draw"
 | .AY=>"_law_far"
 | .Bk=>"_law_leaf"
 | .AC=>"_law_shape"
 | .Bl=>"_law_sign"
 | .AB=>"_law_count"
 | .AD=>"_law_value"
 | .A0=>"_law_same"
 | .AZ=>"_law_many"
 | .AA=>"_law_bytes"
 | .AN=>"_law_number_in"
 | .A5=>"_law_text_in"
 | .AT=>"_law_row_in"
 | .A8=>"_law_in"
 | .Ba=>"_law_read"
 | .A1=>"_law_size"
 | .AM=>"_law_byte"
 | .AX=>"_law_changed"
 | .law_=>"law"
abbrev st:Fx→Stmt
 | .Bv=>top 13
 | .A9=>top 16
 | .Bw=>top 17
 | .Ay=>top 18
 | .A7=>top 19
 | .AH=>top 20
 | .Bd=>top 21
 | .Br=>top 22
 | .Bx=>top 23
 | .Bp=>top 24
 | .Bq=>top 25
 | .Bc=>top 26
 | .Bo=>top 28
 | .Af=>top 29
 | .AY=>top 30
 | .Bk=>top 31
 | .AC=>top 32
 | .Bl=>top 33
 | .AB=>top 34
 | .AD=>top 35
 | .A0=>top 36
 | .AZ=>top 37
 | .AA=>top 38
 | .AN=>top 39
 | .A5=>top 40
 | .AT=>top 41
 | .A8=>top 42
 | .Ba=>top 43
 | .A1=>top 44
 | .AM=>top 45
 | .AX=>top 46
 | .law_=>top 47
abbrev ps:Fx→List Str
 | .Bv=>["number"]
 | .A9=>["most"]
 | .Bw=>["number", "cut"]
 | .Ay=>["s", "wire", "at"]
 | .A7=>["wire", "at"]
 | .AH=>["most", "wire", "at"]
 | .Bd=>["s", "wire", "at"]
 | .Br=>["s", "wire", "at"]
 | .Bx=>["wire", "at"]
 | .Bp=>["s", "wire", "at"]
 | .Bq=>["s", "wire", "at"]
 | .Bc=>["s", "wire", "at"]
 | .Bo=>["script"]
 | .Af=>["deck", "many"]
 | .AY=>["deck"]
 | .Bk=>["deck"]
 | .AC=>["deck", "deep", "left"]
 | .Bl=>["deck"]
 | .AB=>["s"]
 | .AD=>["deck", "s", "left"]
 | .A0=>["found", "due"]
 | .AZ=>["span"]
 | .AA=>["s", "value"]
 | .AN=>["span", "wire", "at"]
 | .A5=>["most", "wire", "at"]
 | .AT=>["shapes", "wire", "at"]
 | .A8=>["s", "wire", "at"]
 | .Ba=>["s", "wire", "at"]
 | .A1=>["thing"]
 | .AM=>["deck"]
 | .AX=>["wire", "deck"]
 | .law_=>["script"]
abbrev ns:Fx→List Str
 | .Bv=>["number"]
 | .A9=>["most"]
 | .Bw=>["number", "cut"]
 | .Ay=>["s", "wire", "at", "kind"]
 | .A7=>["wire", "at"]
 | .AH=>["most", "wire", "at", "byte"]
 | .Bd=>["s", "wire", "at", "most", "width", "number", "k"]
 | .Br=>["s", "wire", "at", "length", "place", "text", "k"]
 | .Bx=>["wire", "at", "number"]
 | .Bp=>["s", "wire", "at", "length", "place", "things", "k", "part"]
 | .Bq=>["s", "wire", "at", "first", "second"]
 | .Bc=>["s", "wire", "at", "k", "part"]
 | .Bo=>["script", "cells"]
 | .Af=>["deck", "many", "at", "found", "number"]
 | .AY=>["deck", "found"]
 | .Bk=>["deck", "kind", "low", "great", "some"]
 | .AC=>["deck", "deep", "left", "kind", "most", "one", "some"]
 | .Bl=>["deck", "signs"]
 | .AB=>["s"]
 | .AD=>["deck", "s", "left", "span", "some", "many", "one", "k"]
 | .A0=>["found", "due"]
 | .AZ=>["span", "many"]
 | .AA=>["s", "value", "number", "found", "k", "one"]
 | .AN=>["span", "wire", "at", "found", "many", "k", "top", "left"]
 | .A5=>["most", "wire", "at", "k", "signs", "row"]
 | .AT=>["shapes", "wire", "at", "found", "s", "told"]
 | .A8=>["s", "wire", "at", "told"]
 | .Ba=>["s", "wire", "at", "caught", "found", "e"]
 | .A1=>["thing"]
 | .AM=>["deck"]
 | .AX=>["wire", "deck", "turn", "at", "byte", "way"]
 | .law_=>["script", "deck", "k", "s", "ahead", "drawn", "row_of", "rest", "wire", "handed", "due"]
def body (Φ:Fx→Fn):Fx→Fn
 | .Bv=>fnOf 1 1 (FB)
 | .A9=>fnOf 1 1 (DY)
 | .Bw=>fnOf 2 2 (FD)
 | .Ay=>fnOf 3 4 (CI (Φ .Bc) (Φ .Bq) (Φ .Bp) (Φ .Br) (Φ .Bd))
 | .A7=>fnOf 2 2 (Em)
 | .AH=>fnOf 3 4 (Dp (Φ .A7))
 | .Bd=>fnOf 3 7 (Cs (Φ .Bw) (Φ .A7) (Φ .A9))
 | .Br=>fnOf 3 7 (CZ (Φ .Bx) (Φ .AH))
 | .Bx=>fnOf 2 3 (Ev (Φ .Bv) (Φ .A7))
 | .Bp=>fnOf 3 8 (CW (Φ .Ay) (Φ .AH))
 | .Bq=>fnOf 3 5 (CY (Φ .Ay))
 | .Bc=>fnOf 3 5 (Cr (Φ .Ay) (Φ .AH))
 | .Bo=>fnOf 1 2 (Eo)
 | .Af=>fnOf 2 5 (Dz)
 | .AY=>fnOf 1 2 (EQ (Φ .Af))
 | .Bk=>fnOf 1 5 (Ep (Φ .Af) (Φ .AY))
 | .AC=>fnOf 3 7 (DW (Φ .Af) (Φ .AC) (Φ .Bk))
 | .Bl=>fnOf 1 2 (Eu (Φ .Af))
 | .AB=>fnOf 1 1 (DV (Φ .AB))
 | .AD=>fnOf 3 8 (DX (Φ .AD) (Φ .Af) (Φ .AB) (Φ .Bl) (Φ .AY))
 | .A0=>fnOf 2 2 (Dr (Φ .A0))
 | .AZ=>fnOf 1 2 (Es)
 | .AA=>fnOf 2 6 (DU (Φ .AA) (Φ .AZ))
 | .AN=>fnOf 3 8 (CN (Φ .AZ))
 | .A5=>fnOf 3 6 (Ds)
 | .AT=>fnOf 3 6 (CU (Φ .A8))
 | .A8=>fnOf 3 4 (E1 (Φ .A8) (Φ .AT) (Φ .A5) (Φ .AN))
 | .Ba=>fnOf 3 6 (Et (Φ .Ay))
 | .A1=>fnOf 1 1 (CV (Φ .A1))
 | .AM=>fnOf 1 1 (En (Φ .Af))
 | .AX=>fnOf 2 6 (Dq (Φ .Af) (Φ .AM))
 | .law_=>fnOf 1 11 (FC (Φ .AX) (Φ .Ba) (Φ .A0) (Φ .A1) (Φ .A8) (Φ .AD) (Φ .AA) (Φ .Af) (Φ .AM) (Φ .AC) (Φ .Bo))
def run:Nat→Fx→Fn
 | 0=>fun _ _ _=>none
 | n + 1=>body (run n)
structure Md (K:PySem.W.Frag) (mg:Str→Option Value) (A:Fx→Addr) (fd:Fx→FuncData):Prop where
 fn:∀x,Fun K (nm x) (nm x) (st x) (A x) (fd x)
 mgs:∀x,mg (nm x)=some (.ref (A x))
 bd:∀x,Binds K (fd x) (ps x) []
 z_ValueError:mg "ValueError" = none
 z_abs:mg "abs" = none
 z_bool:mg "bool" = none
 z_int:mg "int" = none
 z_isinstance:mg "isinstance" = none
 z_len:mg "len" = none
 z_list:mg "list" = none
 z_max:mg "max" = none
 z_min:mg "min" = none
 z_ord:mg "ord" = none
 z_range:mg "range" = none
 z_str:mg "str" = none
 z_sum:mg "sum" = none
 z_tuple:mg "tuple" = none
 z_zip:mg "zip" = none
 g_FIRST_SIGN:∃tk,mg "FIRST_SIGN" = some (.int 32 tk)
 g_LAST_SIGN:∃tk,mg "LAST_SIGN" = some (.int 126 tk)
 g_PERCENT_SIGN:∃tk,mg "PERCENT_SIGN" = some (.int 37 tk)
 g_SIGNS:∃tk,mg "SIGNS" = some (.str " !\"#$ &'()*+,-./0123456789:;<=>?@ABCDEFGHIJKLMNOPQRSTUVWXYZ[\\]^_`abcdefghijklmnopqrstuvwxyz{|}~" tk)
 xm:∃(P:Addr) (ca:Str→Addr),XM K mg P ca∧XF2 K (ca "Broken") P "Broken.__init__" (ET (top 4) 0)∧∀n∈(["Short"]:List Str),XN0 K (ca n)
abbrev kd:Fx→Kd
 | .Bv=>.pl
 | .A9=>.pl
 | .Bw=>.pl
 | .Ay=>.ex
 | .A7=>.ex
 | .AH=>.ex
 | .Bd=>.ex
 | .Br=>.ex
 | .Bx=>.ex
 | .Bp=>.ex
 | .Bq=>.ex
 | .Bc=>.ex
 | .Bo=>.pl
 | .Af=>.pl
 | .AY=>.pl
 | .Bk=>.pl
 | .AC=>.pl
 | .Bl=>.pl
 | .AB=>.pl
 | .AD=>.pl
 | .A0=>.pl
 | .AZ=>.pl
 | .AA=>.pl
 | .AN=>.fr
 | .A5=>.fr
 | .AT=>.fr
 | .A8=>.fr
 | .Ba=>.pl
 | .A1=>.pl
 | .AM=>.pl
 | .AX=>.pl
 | .law_=>.pl
theorem Nk:FnScope ["self", "at", "side"] ["self", "at", "side"] (As (ET (top 4) 0)):=⟨rfl,rfl,rfl,by decide +kernel,rfl,by decide +kernel,by decide +kernel⟩
section
variable {P:Program} {w:World} {K:PySem.W.Frag} {mg:Str→Option Value} {base:Heap} {A:Fx→Addr} {fd:Fx→FuncData} {n:Nat}
theorem L6:FnScope (ns .Bv) (ps .Bv) (As (st .Bv)):=⟨rfl,rfl,rfl,by decide +kernel,rfl,by decide +kernel,by decide +kernel⟩
theorem LZ (M:Md K mg A fd) (ih:∀x,okK (kd x) P w K mg base (n + 2) (A x) (fd x) (ps x) (run n x)):okK .pl P w K mg base (n + 2 + 1) (A .Bv) (fd .Bv) (ps .Bv) (run (n + 1) .Bv):=by
 obtain ⟨_,g_FIRST_SIGN⟩:=M.g_FIRST_SIGN
 obtain ⟨_,g_LAST_SIGN⟩:=M.g_LAST_SIGN
 obtain ⟨_,g_PERCENT_SIGN⟩:=M.g_PERCENT_SIGN
 refine BZ (g:=fnOf 1 1 (FB)) rfl (BY rfl rfl (M.fn .Bv) L6 (fun cdv A' outer s H E hr=>?_))
 refine @Am _ _ _ _ ?_
 refine @AW _ _ _ _ ?_
 refine @K2 _ _ _ _ _ _ _ ?_ ?_
 refine OY Oi Oi MF MF ?_ ?_ ?_
 exact (G4 rfl g_FIRST_SIGN)
 exact (Ab 0)
 exact (G4 rfl g_LAST_SIGN)
 refine @NT _ _ _ _ _ ?_
 refine @FO _ _ _ _ _ _ _ _ _ (Fm hr.units) (AV (g:=fun b=>!b)) ?_ ?_ (AF _)
 exact (Ab 0)
 exact (G4 rfl g_PERCENT_SIGN)
theorem IN:FnScope (ns .A9) (ps .A9) (As (st .A9)):=⟨rfl,rfl,rfl,by decide +kernel,rfl,by decide +kernel,by decide +kernel⟩
theorem IK (M:Md K mg A fd) (ih:∀x,okK (kd x) P w K mg base (n + 2) (A x) (fd x) (ps x) (run n x)):okK .pl P w K mg base (n + 2 + 1) (A .A9) (fd .A9) (ps .A9) (run (n + 1) .A9):=by
 refine BZ (g:=fnOf 1 1 (DY)) rfl (BY rfl rfl (M.fn .A9) IN (fun cdv A' outer s H E hr=>?_))
 refine @Am _ _ _ _ ?_
 refine @AW _ _ _ _ ?_
 refine @An _ _ _ _ _ _ _ _ _ Dj CM ?_ Ae
 refine @An _ _ _ _ _ _ _ _ _ Az Aw ?_ Ae
 refine NR ?_
 exact (Ab 0)
theorem L7:FnScope (ns .Bw) (ps .Bw) (As (st .Bw)):=⟨rfl,rfl,rfl,by decide +kernel,rfl,by decide +kernel,by decide +kernel⟩
theorem L3 (M:Md K mg A fd) (ih:∀x,okK (kd x) P w K mg base (n + 2) (A x) (fd x) (ps x) (run n x)):okK .pl P w K mg base (n + 2 + 1) (A .Bw) (fd .Bw) (ps .Bw) (run (n + 1) .Bw):=by
 refine BZ (g:=fnOf 2 2 (FD)) rfl (BY rfl rfl (M.fn .Bw) L7 (fun cdv A' outer s H E hr=>?_))
 refine @Am _ _ _ _ ?_
 refine @AW _ _ _ _ ?_
 refine @An _ _ _ _ _ _ _ _ _ SR Ry ?_ ?_
 exact (Ab 0)
 refine @An _ _ _ _ _ _ _ _ _ Cm B7 Ae ?_
 exact (Ab 1)
theorem sc_read_value_:FnScope (ns .Ay) (ps .Ay) (As (st .Ay)):=⟨rfl,rfl,rfl,by decide +kernel,rfl,by decide +kernel,by decide +kernel⟩
theorem Jp (M:Md K mg A fd) (ih:∀x,okK (kd x) P w K mg base (n + 2) (A x) (fd x) (ps x) (run n x)):okK .ex P w K mg base (n + 2 + 1) (A .Ay) (fd .Ay) (ps .Ay) (run (n + 1) .Ay):=by
 refine DG (g:=fnOf 3 4 (CI (run n .Bc) (run n .Bq) (run n .Bp) (run n .Br) (run n .Bd))) rfl (DC rfl rfl (M.fn .Ay) sc_read_value_ (fun cdv A' outer s H E hr hp hq ho=>?_))
 refine @Ai _ _ _ _ _ _ ?_ ?_
 refine @AL _ _ _ _ 3 _ _ _ sc_read_value_.nd rfl (.inl rfl) ?_ (by rfl) (by first | exact .inl rfl | exact .inr rfl | assumption)
 refine @Ao _ _ _ _ _ _ _ _ Ak Al ?_ Ae (fun _ _=>rfl)
 exact (Ab 0)
 refine @Ai _ _ _ _ _ _ ?_ ?_
 refine @AS _ _ _ _ _ _ _ _ _ ?_ ?_ AE
 refine @AG _ _ _ _ _ _ _ _ _ (Bn hr.units) (AV (g:=id)) ?_ AI (AF _)
 exact (Ab 3)
 refine @Am _ _ _ _ ?_
 refine DE ?_
 refine @Ca _ _ _ _ _ ?_
 refine @Aa _ _ _ _ _ Dw ?_ rfl
 refine @Aa _ _ _ _ _ ?_ Ag rfl
 exact (Ab 2)
 refine @Ai _ _ _ _ _ _ ?_ ?_
 refine @AS _ _ _ _ _ _ _ _ _ ?_ ?_ AE
 refine @AG _ _ _ _ _ _ _ _ _ (Bn hr.units) (AV (g:=id)) ?_ AI (AF _)
 exact (Ab 3)
 refine @Am _ _ _ _ ?_
 refine Cc ?_
 refine FR ?_
 refine BS (ih .Bd) hr rfl (M.mgs .Bd) (Fun.kp (M.fn .Bd)) (M.bd .Bd) hp ?_
 refine @Aa _ _ _ _ _ ?_ ?_ rfl
 exact (Ab 0)
 refine @Aa _ _ _ _ _ ?_ ?_ rfl
 exact (Ab 1)
 refine @Aa _ _ _ _ _ ?_ Ag rfl
 exact (Ab 2)
 refine @Ai _ _ _ _ _ _ ?_ ?_
 refine @AS _ _ _ _ _ _ _ _ _ ?_ ?_ AE
 refine @AG _ _ _ _ _ _ _ _ _ (Bn hr.units) (AV (g:=id)) ?_ AI (AF _)
 exact (Ab 3)
 refine @Am _ _ _ _ ?_
 refine Cc ?_
 refine FR ?_
 refine BS (ih .Br) hr rfl (M.mgs .Br) (Fun.kp (M.fn .Br)) (M.bd .Br) hp ?_
 refine @Aa _ _ _ _ _ ?_ ?_ rfl
 exact (Ab 0)
 refine @Aa _ _ _ _ _ ?_ ?_ rfl
 exact (Ab 1)
 refine @Aa _ _ _ _ _ ?_ Ag rfl
 exact (Ab 2)
 refine @Ai _ _ _ _ _ _ ?_ ?_
 refine @AS _ _ _ _ _ _ _ _ _ ?_ ?_ AE
 refine @AG _ _ _ _ _ _ _ _ _ (Bn hr.units) (AV (g:=id)) ?_ AI (AF _)
 exact (Ab 3)
 refine @Am _ _ _ _ ?_
 refine Cc ?_
 refine FR ?_
 refine BS (ih .Bp) hr rfl (M.mgs .Bp) (Fun.kp (M.fn .Bp)) (M.bd .Bp) hp ?_
 refine @Aa _ _ _ _ _ ?_ ?_ rfl
 exact (Ab 0)
 refine @Aa _ _ _ _ _ ?_ ?_ rfl
 exact (Ab 1)
 refine @Aa _ _ _ _ _ ?_ Ag rfl
 exact (Ab 2)
 refine @Ai _ _ _ _ _ _ ?_ ?_
 refine @AS _ _ _ _ _ _ _ _ _ ?_ ?_ AE
 refine @AG _ _ _ _ _ _ _ _ _ (Bn hr.units) (AV (g:=id)) ?_ AI (AF _)
 exact (Ab 3)
 refine @Am _ _ _ _ ?_
 refine Cc ?_
 refine FR ?_
 refine BS (ih .Bq) hr rfl (M.mgs .Bq) (Fun.kp (M.fn .Bq)) (M.bd .Bq) hp ?_
 refine @Aa _ _ _ _ _ ?_ ?_ rfl
 exact (Ab 0)
 refine @Aa _ _ _ _ _ ?_ ?_ rfl
 exact (Ab 1)
 refine @Aa _ _ _ _ _ ?_ Ag rfl
 exact (Ab 2)
 refine @Am _ _ _ _ ?_
 refine Cc ?_
 refine FR ?_
 refine BS (ih .Bc) hr rfl (M.mgs .Bc) (Fun.kp (M.fn .Bc)) (M.bd .Bc) hp ?_
 refine @Aa _ _ _ _ _ ?_ ?_ rfl
 exact (Ab 0)
 refine @Aa _ _ _ _ _ ?_ ?_ rfl
 exact (Ab 1)
 refine @Aa _ _ _ _ _ ?_ Ag rfl
 exact (Ab 2)
theorem L5:FnScope (ns .A7) (ps .A7) (As (st .A7)):=⟨rfl,rfl,rfl,by decide +kernel,rfl,by decide +kernel,by decide +kernel⟩
theorem LX (M:Md K mg A fd) (ih:∀x,okK (kd x) P w K mg base (n + 2) (A x) (fd x) (ps x) (run n x)):okK .ex P w K mg base (n + 2 + 1) (A .A7) (fd .A7) (ps .A7) (run (n + 1) .A7):=by
 obtain ⟨P',ca,x,xt,x0⟩:=M.xm
 refine DG (g:=fnOf 2 2 (Em)) rfl (DC rfl rfl (M.fn .A7) L5 (fun cdv A' outer s H E hr hp hq ho=>?_))
 refine @Ai _ _ _ _ _ _ ?_ ?_
 refine @AS _ _ _ _ _ _ _ _ _ ?_ ?_ AE
 refine @AG _ _ _ _ _ _ _ _ _ FU E9 ?_ ?_ (AF _)
 exact (Ab 1)
 refine @Bm _ _ _ _ _ _ _ _ _ _ Bz BJ rfl M.z_len BP ?_ (by decide) (by decide) (by rfl) (by rfl)
 refine @Aa _ _ _ _ _ ?_ Ag rfl
 exact (Ab 0)
 refine @Am _ _ _ _ ?_
 refine Cc ?_
 refine NY (n:="Short") x (by decide) rfl (x0 "Short" (by decide)) rfl hq rfl ?_
 exact (@Aa _ _ _ _ _ AI Ag rfl)
 refine @Am _ _ _ _ ?_
 refine DE ?_
 refine @Ao _ _ _ _ _ _ _ _ Ak Al ?_ ?_ (fun _ _=>rfl)
 exact (Ab 0)
 exact (Ab 1)
theorem sc_byte_up_to_:FnScope (ns .AH) (ps .AH) (As (st .AH)):=⟨rfl,rfl,rfl,by decide +kernel,rfl,by decide +kernel,by decide +kernel⟩
theorem Jk (M:Md K mg A fd) (ih:∀x,okK (kd x) P w K mg base (n + 2) (A x) (fd x) (ps x) (run n x)):okK .ex P w K mg base (n + 2 + 1) (A .AH) (fd .AH) (ps .AH) (run (n + 1) .AH):=by
 obtain ⟨P',ca,x,xt,x0⟩:=M.xm
 have xb:XN2 P w K mg base (ca "Broken") P':=Hy rfl Nk rfl rfl rfl xt
 refine DG (g:=fnOf 3 4 (Dp (run n .A7))) rfl (DC rfl rfl (M.fn .AH) sc_byte_up_to_ (fun cdv A' outer s H E hr hp hq ho=>?_))
 refine @Ai _ _ _ _ _ _ ?_ ?_
 refine Cc ?_
 refine CD (i:=3) sc_byte_up_to_.nd rfl (.inl rfl) ?_
 refine BS (ih .A7) hr rfl (M.mgs .A7) (Fun.kp (M.fn .A7)) (M.bd .A7) hp ?_
 refine @Aa _ _ _ _ _ ?_ ?_ rfl
 exact (Ab 1)
 refine @Aa _ _ _ _ _ ?_ Ag rfl
 exact (Ab 2)
 refine @Ai _ _ _ _ _ _ ?_ ?_
 refine @AS _ _ _ _ _ _ _ _ _ ?_ ?_ AE
 refine @AG _ _ _ _ _ _ _ _ _ Ex DH ?_ ?_ (AF _)
 exact (Ab 3)
 exact (Ab 0)
 refine @Am _ _ _ _ ?_
 refine Cc ?_
 refine GI x xb (hr.mono (by lia)) rfl hq rfl ?_
 refine @Aa _ _ _ _ _ ?_ ?_ rfl
 exact (Ab 2)
 exact (@Aa _ _ _ _ _ Dw Ag rfl)
 refine @Am _ _ _ _ ?_
 refine DE ?_
 exact (Ab 3)
theorem sc_read_number_:FnScope (ns .Bd) (ps .Bd) (As (st .Bd)):=⟨rfl,rfl,rfl,by decide +kernel,rfl,by decide +kernel,by decide +kernel⟩
theorem IJ (M:Md K mg A fd) (ih:∀x,okK (kd x) P w K mg base (n + 2) (A x) (fd x) (ps x) (run n x)):okK .ex P w K mg base (n + 2 + 1) (A .Bd) (fd .Bd) (ps .Bd) (run (n + 1) .Bd):=by
 obtain ⟨P',ca,x,xt,x0⟩:=M.xm
 have xb:XN2 P w K mg base (ca "Broken") P':=Hy rfl Nk rfl rfl rfl xt
 refine DG (g:=fnOf 3 7 (Cs (run n .Bw) (run n .A7) (run n .A9))) rfl (DC rfl rfl (M.fn .Bd) sc_read_number_ (fun cdv A' outer s H E hr hp hq ho=>?_))
 refine @Ai _ _ _ _ _ _ ?_ ?_
 refine @AL _ _ _ _ 3 _ _ _ sc_read_number_.nd rfl (.inl rfl) ?_ (by rfl) (by first | exact .inl rfl | exact .inr rfl | assumption)
 refine @An _ _ _ _ _ _ _ _ _ BC Bt ?_ ?_
 refine @Ao _ _ _ _ _ _ _ _ Ak Al ?_ Ae (fun _ _=>rfl)
 exact (Ab 0)
 refine @Ao _ _ _ _ _ _ _ _ Ak Al ?_ Ae (fun _ _=>rfl)
 exact (Ab 0)
 refine @Ai _ _ _ _ _ _ ?_ ?_
 refine @AL _ _ _ _ 4 _ _ _ sc_read_number_.nd rfl (.inl rfl) ?_ (by rfl) (by first | exact .inl rfl | exact .inr rfl | assumption)
 refine @Aq _ _ _ _ _ _ _ _ _ _ _ _ (ih .A9) hr rfl (M.mgs .A9) (Fun.kp (M.fn .A9)) (M.bd .A9) ?_ (by decide) (by rfl) (by rfl)
 refine @Aa _ _ _ _ _ ?_ Ag rfl
 exact (Ab 3)
 refine @Ai _ _ _ _ _ _ ?_ ?_
 exact (AL (i:=5) sc_read_number_.nd rfl (.inl rfl) Ae)
 refine @Ai _ _ _ _ _ _ ?_ ?_
 refine @Df _ _ _ _ _ _ _ _ _ ho rfl ?_ ?_ ?_ (by intro _;rfl)
 refine BM rfl M.z_range ?_
 refine @Aa _ _ _ _ _ ?_ Ag rfl
 exact (Ab 4)
 exact (BB sc_read_number_.nd rfl (.inl rfl))
 refine @Ai _ _ _ _ _ _ ?_ ?_
 refine Cc ?_
 refine CD (i:=5) sc_read_number_.nd rfl (.inl rfl) ?_
 refine Qd Az Aw ?_ ?_
 refine @An _ _ _ _ _ _ _ _ _ Cm B7 ?_ Ae
 exact (Ab 5)
 refine BS (ih .A7) hr rfl (M.mgs .A7) (Fun.kp (M.fn .A7)) (M.bd .A7) hp ?_
 refine @Aa _ _ _ _ _ ?_ ?_ rfl
 exact (Ab 1)
 refine @Aa _ _ _ _ _ ?_ Ag rfl
 refine @An _ _ _ _ _ _ _ _ _ Az Aw ?_ ?_
 exact (Ab 2)
 exact (Ab 6)
 refine @Am _ _ _ _ ?_
 refine @AS _ _ _ _ _ _ _ _ _ ?_ ?_ AE
 refine @AG _ _ _ _ _ _ _ _ _ Ex DH ?_ ?_ (AF _)
 exact (Ab 5)
 refine @Aq _ _ _ _ _ _ _ _ _ _ _ _ (ih .Bw) hr rfl (M.mgs .Bw) (Fun.kp (M.fn .Bw)) (M.bd .Bw) ?_ (by decide) (by rfl) (by rfl)
 refine @Aa _ _ _ _ _ ?_ ?_ rfl
 exact (Ab 3)
 refine @Aa _ _ _ _ _ ?_ Ag rfl
 refine @An _ _ _ _ _ _ _ _ _ BC Bt ?_ ?_
 refine @An _ _ _ _ _ _ _ _ _ BC Bt ?_ Ae
 exact (Ab 4)
 exact (Ab 6)
 refine @Am _ _ _ _ ?_
 refine Cc ?_
 refine GI x xb (hr.mono (by lia)) rfl hq rfl ?_
 refine @Aa _ _ _ _ _ ?_ ?_ rfl
 refine @An _ _ _ _ _ _ _ _ _ Az Aw ?_ ?_
 exact (Ab 2)
 exact (Ab 6)
 exact (@Aa _ _ _ _ _ Dw Ag rfl)
 refine @Am _ _ _ _ ?_
 refine DE ?_
 refine @Ca _ _ _ _ _ ?_
 refine @Aa _ _ _ _ _ ?_ ?_ rfl
 refine @An _ _ _ _ _ _ _ _ _ Az Aw ?_ ?_
 refine @Ao _ _ _ _ _ _ _ _ Ak Al ?_ Ae (fun _ _=>rfl)
 exact (Ab 0)
 exact (Ab 5)
 refine @Aa _ _ _ _ _ ?_ Ag rfl
 refine @An _ _ _ _ _ _ _ _ _ Az Aw ?_ ?_
 exact (Ab 2)
 exact (Ab 4)
theorem sc_read_text_:FnScope (ns .Br) (ps .Br) (As (st .Br)):=⟨rfl,rfl,rfl,by decide +kernel,rfl,by decide +kernel,by decide +kernel⟩
theorem Kl (M:Md K mg A fd) (ih:∀x,okK (kd x) P w K mg base (n + 2) (A x) (fd x) (ps x) (run n x)):okK .ex P w K mg base (n + 2 + 1) (A .Br) (fd .Br) (ps .Br) (run (n + 1) .Br):=by
 refine DG (g:=fnOf 3 7 (CZ (run n .Bx) (run n .AH))) rfl (DC rfl rfl (M.fn .Br) sc_read_text_ (fun cdv A' outer s H E hr hp hq ho=>?_))
 refine @Ai _ _ _ _ _ _ ?_ ?_
 refine Cc ?_
 refine CD (i:=3) sc_read_text_.nd rfl (.inl rfl) ?_
 refine BS (ih .AH) hr rfl (M.mgs .AH) (Fun.kp (M.fn .AH)) (M.bd .AH) hp ?_
 refine @Aa _ _ _ _ _ ?_ ?_ rfl
 refine @Ao _ _ _ _ _ _ _ _ Ak Al ?_ Ae (fun _ _=>rfl)
 exact (Ab 0)
 refine @Aa _ _ _ _ _ ?_ ?_ rfl
 exact (Ab 1)
 refine @Aa _ _ _ _ _ ?_ Ag rfl
 exact (Ab 2)
 refine @Ai _ _ _ _ _ _ ?_ ?_
 refine @AL _ _ _ _ 4 _ _ _ sc_read_text_.nd rfl (.inl rfl) ?_ (by rfl) (by first | exact .inl rfl | exact .inr rfl | assumption)
 refine @An _ _ _ _ _ _ _ _ _ Az Aw ?_ Ae
 exact (Ab 2)
 refine @Ai _ _ _ _ _ _ ?_ ?_
 exact (AL (i:=5) sc_read_text_.nd rfl (.inl rfl) AI)
 refine @Ai _ _ _ _ _ _ ?_ ?_
 refine @Df _ _ _ _ _ _ _ _ _ ho rfl ?_ ?_ ?_ (by intro _;rfl)
 refine BM rfl M.z_range ?_
 refine @Aa _ _ _ _ _ ?_ Ag rfl
 exact (Ab 3)
 exact (BB sc_read_text_.nd rfl (.inl rfl))
 refine @Am _ _ _ _ ?_
 refine Cc ?_
 refine CD (i:=5) sc_read_text_.nd rfl (.inl rfl) ?_
 refine Qd Az Aw ?_ ?_
 exact (Ab 5)
 refine BS (ih .Bx) hr rfl (M.mgs .Bx) (Fun.kp (M.fn .Bx)) (M.bd .Bx) hp ?_
 refine @Aa _ _ _ _ _ ?_ ?_ rfl
 exact (Ab 1)
 refine @Aa _ _ _ _ _ ?_ Ag rfl
 refine @An _ _ _ _ _ _ _ _ _ Az Aw ?_ ?_
 exact (Ab 4)
 exact (Ab 6)
 refine @Am _ _ _ _ ?_
 refine DE ?_
 refine @Ca _ _ _ _ _ ?_
 refine @Aa _ _ _ _ _ ?_ ?_ rfl
 exact (Ab 5)
 refine @Aa _ _ _ _ _ ?_ Ag rfl
 refine @An _ _ _ _ _ _ _ _ _ Az Aw ?_ ?_
 exact (Ab 4)
 exact (Ab 3)
theorem sc_sign_at_:FnScope (ns .Bx) (ps .Bx) (As (st .Bx)):=⟨rfl,rfl,rfl,by decide +kernel,rfl,by decide +kernel,by decide +kernel⟩
theorem L4 (M:Md K mg A fd) (ih:∀x,okK (kd x) P w K mg base (n + 2) (A x) (fd x) (ps x) (run n x)):okK .ex P w K mg base (n + 2 + 1) (A .Bx) (fd .Bx) (ps .Bx) (run (n + 1) .Bx):=by
 obtain ⟨_,g_FIRST_SIGN⟩:=M.g_FIRST_SIGN
 obtain ⟨_,g_SIGNS⟩:=M.g_SIGNS
 obtain ⟨P',ca,x,xt,x0⟩:=M.xm
 have xb:XN2 P w K mg base (ca "Broken") P':=Hy rfl Nk rfl rfl rfl xt
 refine DG (g:=fnOf 2 3 (Ev (run n .Bv) (run n .A7))) rfl (DC rfl rfl (M.fn .Bx) sc_sign_at_ (fun cdv A' outer s H E hr hp hq ho=>?_))
 refine @Ai _ _ _ _ _ _ ?_ ?_
 refine Cc ?_
 refine CD (i:=2) sc_sign_at_.nd rfl (.inl rfl) ?_
 refine BS (ih .A7) hr rfl (M.mgs .A7) (Fun.kp (M.fn .A7)) (M.bd .A7) hp ?_
 refine @Aa _ _ _ _ _ ?_ ?_ rfl
 exact (Ab 0)
 refine @Aa _ _ _ _ _ ?_ Ag rfl
 exact (Ab 1)
 refine @Ai _ _ _ _ _ _ ?_ ?_
 refine @AS _ _ _ _ _ _ _ _ _ ?_ ?_ AE
 refine @GJ _ _ _ _ ?_
 refine @Dg _ _ _ ?_ (by intro _;rfl)
 refine @Aq _ _ _ _ _ _ _ _ _ _ _ _ (ih .Bv) hr rfl (M.mgs .Bv) (Fun.kp (M.fn .Bv)) (M.bd .Bv) ?_ (by decide) (by rfl) (by rfl)
 refine @Aa _ _ _ _ _ ?_ Ag rfl
 exact (Ab 2)
 refine @Am _ _ _ _ ?_
 refine Cc ?_
 refine GI x xb (hr.mono (by lia)) rfl hq rfl ?_
 refine @Aa _ _ _ _ _ ?_ ?_ rfl
 exact (Ab 1)
 exact (@Aa _ _ _ _ _ Dw Ag rfl)
 refine @Am _ _ _ _ ?_
 refine DE ?_
 refine @Ao _ _ _ _ _ _ _ _ Ak Al ?_ ?_ (fun _ _=>rfl)
 exact (OZ rfl g_SIGNS)
 refine @An _ _ _ _ _ _ _ _ _ BC Bt ?_ ?_
 exact (Ab 2)
 exact (G4 rfl g_FIRST_SIGN)
theorem sc_read_list_:FnScope (ns .Bp) (ps .Bp) (As (st .Bp)):=⟨rfl,rfl,rfl,by decide +kernel,rfl,by decide +kernel,by decide +kernel⟩
theorem Kj (M:Md K mg A fd) (ih:∀x,okK (kd x) P w K mg base (n + 2) (A x) (fd x) (ps x) (run n x)):okK .ex P w K mg base (n + 2 + 1) (A .Bp) (fd .Bp) (ps .Bp) (run (n + 1) .Bp):=by
 refine DG (g:=fnOf 3 8 (CW (run n .Ay) (run n .AH))) rfl (DC rfl rfl (M.fn .Bp) sc_read_list_ (fun cdv A' outer s H E hr hp hq ho=>?_))
 refine @Ai _ _ _ _ _ _ ?_ ?_
 refine Cc ?_
 refine CD (i:=3) sc_read_list_.nd rfl (.inl rfl) ?_
 refine BS (ih .AH) hr rfl (M.mgs .AH) (Fun.kp (M.fn .AH)) (M.bd .AH) hp ?_
 refine @Aa _ _ _ _ _ ?_ ?_ rfl
 refine @Ao _ _ _ _ _ _ _ _ Ak Al ?_ Ae (fun _ _=>rfl)
 exact (Ab 0)
 refine @Aa _ _ _ _ _ ?_ ?_ rfl
 exact (Ab 1)
 refine @Aa _ _ _ _ _ ?_ Ag rfl
 exact (Ab 2)
 refine @Ai _ _ _ _ _ _ ?_ ?_
 refine @AL _ _ _ _ 4 _ _ _ sc_read_list_.nd rfl (.inl rfl) ?_ (by rfl) (by first | exact .inl rfl | exact .inr rfl | assumption)
 refine @An _ _ _ _ _ _ _ _ _ Az Aw ?_ Ae
 exact (Ab 2)
 refine @Ai _ _ _ _ _ _ ?_ ?_
 refine @Ej _ _ _ _ 5 _ _ _ sc_read_list_.nd rfl (.inl rfl) ?_ (by rfl) (by first | exact .inl rfl | exact .inr rfl | assumption)
 exact (AU Ag)
 refine @Ai _ _ _ _ _ _ ?_ ?_
 refine @Df _ _ _ _ _ _ _ _ _ ho rfl ?_ ?_ ?_ (by intro _;rfl)
 refine BM rfl M.z_range ?_
 refine @Aa _ _ _ _ _ ?_ Ag rfl
 exact (Ab 3)
 exact (BB sc_read_list_.nd rfl (.inl rfl))
 refine @Ai _ _ _ _ _ _ ?_ ?_
 refine Cc ?_
 refine CD (i:=7) sc_read_list_.nd rfl (.inl rfl) ?_
 refine BS (ih .Ay) hr rfl (M.mgs .Ay) (Fun.kp (M.fn .Ay)) (M.bd .Ay) hp ?_
 refine @Aa _ _ _ _ _ ?_ ?_ rfl
 refine @Ao _ _ _ _ _ _ _ _ Ak Al ?_ Ae (fun _ _=>rfl)
 exact (Ab 0)
 refine @Aa _ _ _ _ _ ?_ ?_ rfl
 exact (Ab 1)
 refine @Aa _ _ _ _ _ ?_ Ag rfl
 exact (Ab 4)
 refine @Ai _ _ _ _ _ _ ?_ ?_
 refine Ix 5 ?_
 refine @Aa _ _ _ _ _ ?_ Ag rfl
 refine @Ao _ _ _ _ _ _ _ _ Ak Al ?_ Ae (fun _ _=>rfl)
 exact (Ab 7)
 refine @Am _ _ _ _ ?_
 refine @AL _ _ _ _ 4 _ _ _ sc_read_list_.nd rfl (.inl rfl) ?_ (by rfl) (by first | exact .inl rfl | exact .inr rfl | assumption)
 refine @Ao _ _ _ _ _ _ _ _ Ak Al ?_ Ae (fun _ _=>rfl)
 exact (Ab 7)
 refine @Am _ _ _ _ ?_
 refine DE ?_
 refine @Ca _ _ _ _ _ ?_
 refine @Aa _ _ _ _ _ ?_ ?_ rfl
 exact (Ab 5)
 refine @Aa _ _ _ _ _ ?_ Ag rfl
 exact (Ab 4)
theorem sc_read_pair_:FnScope (ns .Bq) (ps .Bq) (As (st .Bq)):=⟨rfl,rfl,rfl,by decide +kernel,rfl,by decide +kernel,by decide +kernel⟩
theorem Kk (M:Md K mg A fd) (ih:∀x,okK (kd x) P w K mg base (n + 2) (A x) (fd x) (ps x) (run n x)):okK .ex P w K mg base (n + 2 + 1) (A .Bq) (fd .Bq) (ps .Bq) (run (n + 1) .Bq):=by
 refine DG (g:=fnOf 3 5 (CY (run n .Ay))) rfl (DC rfl rfl (M.fn .Bq) sc_read_pair_ (fun cdv A' outer s H E hr hp hq ho=>?_))
 refine @Ai _ _ _ _ _ _ ?_ ?_
 refine Cc ?_
 refine CD (i:=3) sc_read_pair_.nd rfl (.inl rfl) ?_
 refine BS (ih .Ay) hr rfl (M.mgs .Ay) (Fun.kp (M.fn .Ay)) (M.bd .Ay) hp ?_
 refine @Aa _ _ _ _ _ ?_ ?_ rfl
 refine @Ao _ _ _ _ _ _ _ _ Ak Al ?_ Ae (fun _ _=>rfl)
 exact (Ab 0)
 refine @Aa _ _ _ _ _ ?_ ?_ rfl
 exact (Ab 1)
 refine @Aa _ _ _ _ _ ?_ Ag rfl
 exact (Ab 2)
 refine @Ai _ _ _ _ _ _ ?_ ?_
 refine Cc ?_
 refine CD (i:=4) sc_read_pair_.nd rfl (.inl rfl) ?_
 refine BS (ih .Ay) hr rfl (M.mgs .Ay) (Fun.kp (M.fn .Ay)) (M.bd .Ay) hp ?_
 refine @Aa _ _ _ _ _ ?_ ?_ rfl
 refine @Ao _ _ _ _ _ _ _ _ Ak Al ?_ Ae (fun _ _=>rfl)
 exact (Ab 0)
 refine @Aa _ _ _ _ _ ?_ ?_ rfl
 exact (Ab 1)
 refine @Aa _ _ _ _ _ ?_ Ag rfl
 refine @Ao _ _ _ _ _ _ _ _ Ak Al ?_ Ae (fun _ _=>rfl)
 exact (Ab 3)
 refine @Am _ _ _ _ ?_
 refine DE ?_
 refine @Ca _ _ _ _ _ ?_
 refine @Aa _ _ _ _ _ ?_ ?_ rfl
 refine @Ca _ _ _ _ _ ?_
 refine @Aa _ _ _ _ _ ?_ ?_ rfl
 refine @Ao _ _ _ _ _ _ _ _ Ak Al ?_ Ae (fun _ _=>rfl)
 exact (Ab 3)
 refine @Aa _ _ _ _ _ ?_ Ag rfl
 refine @Ao _ _ _ _ _ _ _ _ Ak Al ?_ Ae (fun _ _=>rfl)
 exact (Ab 4)
 refine @Aa _ _ _ _ _ ?_ Ag rfl
 refine @Ao _ _ _ _ _ _ _ _ Ak Al ?_ Ae (fun _ _=>rfl)
 exact (Ab 4)
theorem sc_read_choice_:FnScope (ns .Bc) (ps .Bc) (As (st .Bc)):=⟨rfl,rfl,rfl,by decide +kernel,rfl,by decide +kernel,by decide +kernel⟩
theorem II (M:Md K mg A fd) (ih:∀x,okK (kd x) P w K mg base (n + 2) (A x) (fd x) (ps x) (run n x)):okK .ex P w K mg base (n + 2 + 1) (A .Bc) (fd .Bc) (ps .Bc) (run (n + 1) .Bc):=by
 refine DG (g:=fnOf 3 5 (Cr (run n .Ay) (run n .AH))) rfl (DC rfl rfl (M.fn .Bc) sc_read_choice_ (fun cdv A' outer s H E hr hp hq ho=>?_))
 refine @Ai _ _ _ _ _ _ ?_ ?_
 refine Cc ?_
 refine CD (i:=3) sc_read_choice_.nd rfl (.inl rfl) ?_
 refine BS (ih .AH) hr rfl (M.mgs .AH) (Fun.kp (M.fn .AH)) (M.bd .AH) hp ?_
 refine @Aa _ _ _ _ _ ?_ ?_ rfl
 refine @An _ _ _ _ _ _ _ _ _ BC Bt ?_ Ae
 refine @Bm _ _ _ _ _ _ _ _ _ _ Bz BJ rfl M.z_len BP ?_ (by decide) (by decide) (by rfl) (by rfl)
 refine @Aa _ _ _ _ _ ?_ Ag rfl
 refine @Ao _ _ _ _ _ _ _ _ Ak Al ?_ Ae (fun _ _=>rfl)
 exact (Ab 0)
 refine @Aa _ _ _ _ _ ?_ ?_ rfl
 exact (Ab 1)
 refine @Aa _ _ _ _ _ ?_ Ag rfl
 exact (Ab 2)
 refine @Ai _ _ _ _ _ _ ?_ ?_
 refine Cc ?_
 refine CD (i:=4) sc_read_choice_.nd rfl (.inl rfl) ?_
 refine BS (ih .Ay) hr rfl (M.mgs .Ay) (Fun.kp (M.fn .Ay)) (M.bd .Ay) hp ?_
 refine @Aa _ _ _ _ _ ?_ ?_ rfl
 refine @Ao _ _ _ _ _ _ _ _ Ak Al ?_ ?_ (fun _ _=>rfl)
 refine @Ao _ _ _ _ _ _ _ _ Ak Al ?_ Ae (fun _ _=>rfl)
 exact (Ab 0)
 exact (Ab 3)
 refine @Aa _ _ _ _ _ ?_ ?_ rfl
 exact (Ab 1)
 refine @Aa _ _ _ _ _ ?_ Ag rfl
 refine @An _ _ _ _ _ _ _ _ _ Az Aw ?_ Ae
 exact (Ab 2)
 refine @Am _ _ _ _ ?_
 refine DE ?_
 refine @Ca _ _ _ _ _ ?_
 refine @Aa _ _ _ _ _ ?_ ?_ rfl
 refine @Ca _ _ _ _ _ ?_
 refine @Aa _ _ _ _ _ AI ?_ rfl
 refine @Aa _ _ _ _ _ ?_ ?_ rfl
 exact (Ab 3)
 refine @Aa _ _ _ _ _ ?_ Ag rfl
 refine @Ao _ _ _ _ _ _ _ _ Ak Al ?_ Ae (fun _ _=>rfl)
 exact (Ab 4)
 refine @Aa _ _ _ _ _ ?_ Ag rfl
 refine @Ao _ _ _ _ _ _ _ _ Ak Al ?_ Ae (fun _ _=>rfl)
 exact (Ab 4)
theorem sc_f_law_deck:FnScope (ns .Bo) (ps .Bo) (As (st .Bo)):=⟨rfl,rfl,rfl,by decide +kernel,rfl,by decide +kernel,by decide +kernel⟩
theorem Ka (M:Md K mg A fd) (ih:∀x,okK (kd x) P w K mg base (n + 2) (A x) (fd x) (ps x) (run n x)):okK .pl P w K mg base (n + 2 + 1) (A .Bo) (fd .Bo) (ps .Bo) (run (n + 1) .Bo):=by
 refine BZ (g:=fnOf 1 2 (Eo)) rfl (BY rfl rfl (M.fn .Bo) sc_f_law_deck (fun cdv A' outer s H E hr=>?_))
 refine @Ai _ _ _ _ _ _ ?_ ?_
 refine @AL _ _ _ _ 1 _ _ _ sc_f_law_deck.nd rfl (.inl rfl) ?_ (by rfl) (by first | exact .inl rfl | exact .inr rfl | assumption)
 refine @GF _ _ _ ?_
 refine @MW _ _ _ _ _ _ _ _ _ _ Ff Jy rfl M.z_list ED ?_ (by decide) (by decide) (by rfl) (by rfl)
 refine @Aa _ _ _ _ _ ?_ Ag rfl
 refine @B4 _ _ _ _ _ _ _ _ _ _ _ sl3 Cp ?_ CT ?_
 exact (Ab 0)
 exact (B5 Ae)
 refine @Ai _ _ _ _ _ _ ?_ ?_
 refine @AS _ _ _ _ _ _ _ _ _ ?_ ?_ AE
 refine @AG _ _ _ _ _ _ _ _ _ (Bn hr.units) (AV (g:=id)) ?_ ?_ (AF _)
 exact (Ab 1)
 refine @A4 _ _ _ ?_
 exact (AU Ag)
 refine @Am _ _ _ _ ?_
 refine @AL _ _ _ _ 1 _ _ _ sc_f_law_deck.nd rfl (.inl rfl) ?_ (by rfl) (by first | exact .inl rfl | exact .inr rfl | assumption)
 refine @GF _ _ _ ?_
 refine @AU _ _ _ _ ?_
 exact (@Aa _ _ _ _ _ Ae Ag rfl)
 refine @Am _ _ _ _ ?_
 refine @AW _ _ _ _ ?_
 refine @GF _ _ _ ?_
 refine @AU _ _ _ _ ?_
 refine @Aa _ _ _ _ _ ?_ ?_ rfl
 exact (Ab 1)
 refine @Aa _ _ _ _ _ ?_ ?_ rfl
 refine @An _ _ _ _ _ _ _ _ _ C2 Cn ?_ Ae
 refine @Bm _ _ _ _ _ _ _ _ _ _ Bz BJ rfl M.z_len BP ?_ (by decide) (by decide) (by rfl) (by rfl)
 refine @Aa _ _ _ _ _ ?_ Ag rfl
 exact (Ab 0)
 exact (@Aa _ _ _ _ _ Ae Ag rfl)
theorem sc_f_law_draw:FnScope (ns .Af) (ps .Af) (As (st .Af)):=⟨rfl,rfl,rfl,by decide +kernel,rfl,by decide +kernel,by decide +kernel⟩
theorem Kb (M:Md K mg A fd) (ih:∀x,okK (kd x) P w K mg base (n + 2) (A x) (fd x) (ps x) (run n x)):okK .pl P w K mg base (n + 2 + 1) (A .Af) (fd .Af) (ps .Af) (run (n + 1) .Af):=by
 refine BZ (g:=fnOf 2 5 (Dz)) rfl (BY rfl rfl (M.fn .Af) sc_f_law_draw (fun cdv A' outer s H E hr=>?_))
 refine @Ai _ _ _ _ _ _ ?_ ?_
 refine @AL _ _ _ _ 2 _ _ _ sc_f_law_draw.nd rfl (.inl rfl) ?_ (by rfl) (by first | exact .inl rfl | exact .inr rfl | assumption)
 refine @An _ _ _ _ _ _ _ _ _ C2 Cn ?_ ?_
 refine @Ao _ _ _ _ _ _ _ _ Ak Al ?_ Ae (fun _ _=>rfl)
 exact (Ab 0)
 refine @Bm _ _ _ _ _ _ _ _ _ _ Bz BJ rfl M.z_len BP ?_ (by decide) (by decide) (by rfl) (by rfl)
 refine @Aa _ _ _ _ _ ?_ Ag rfl
 refine @Ao _ _ _ _ _ _ _ _ Ak Al ?_ Ae (fun _ _=>rfl)
 exact (Ab 0)
 refine @Ai _ _ _ _ _ _ ?_ ?_
 refine DN ?_ ?_
 refine @An _ _ _ _ _ _ _ _ _ Az Aw ?_ Ae
 refine @Ao _ _ _ _ _ _ _ _ Ak Al ?_ Ae (fun _ _=>rfl)
 exact (Ab 0)
 refine Fl ?_ Ae
 exact (Ab 0)
 refine @Ai _ _ _ _ _ _ ?_ ?_
 refine @AS _ _ _ _ _ _ _ _ _ ?_ ?_ AE
 refine @AG _ _ _ _ _ _ _ _ _ (Bn hr.units) (AV (g:=id)) ?_ Ae (AF _)
 refine @Ao _ _ _ _ _ _ _ _ Ak Al ?_ Ae (fun _ _=>rfl)
 exact (Ab 0)
 refine @Ai _ _ _ _ _ _ ?_ ?_
 refine @AL _ _ _ _ 3 _ _ _ sc_f_law_draw.nd rfl (.inl rfl) ?_ (by rfl) (by first | exact .inl rfl | exact .inr rfl | assumption)
 refine @An _ _ _ _ _ _ _ _ _ C2 Cn ?_ ?_
 refine @Ao _ _ _ _ _ _ _ _ Ak Al ?_ ?_ (fun _ _=>rfl)
 refine @Ao _ _ _ _ _ _ _ _ Ak Al ?_ Ae (fun _ _=>rfl)
 exact (Ab 0)
 exact (Ab 2)
 exact (Ab 1)
 refine @Ai _ _ _ _ _ _ ?_ ?_
 refine DN ?_ ?_
 refine @An _ _ _ _ _ _ _ _ _ Dj CM ?_ ?_
 refine @Ao _ _ _ _ _ _ _ _ Ak Al ?_ ?_ (fun _ _=>rfl)
 refine @Ao _ _ _ _ _ _ _ _ Ak Al ?_ Ae (fun _ _=>rfl)
 exact (Ab 0)
 exact (Ab 2)
 exact (Ab 1)
 refine Fl ?_ ?_
 refine @Ao _ _ _ _ _ _ _ _ Ak Al ?_ Ae (fun _ _=>rfl)
 exact (Ab 0)
 exact (Ab 2)
 refine @Am _ _ _ _ ?_
 refine @AW _ _ _ _ ?_
 exact (Ab 3)
 refine @Ai _ _ _ _ _ _ ?_ ?_
 refine @AL _ _ _ _ 4 _ _ _ sc_f_law_draw.nd rfl (.inl rfl) ?_ (by rfl) (by first | exact .inl rfl | exact .inr rfl | assumption)
 refine @An _ _ _ _ _ _ _ _ _ C2 Cn ?_ Ae
 refine @An _ _ _ _ _ _ _ _ _ Az Aw ?_ ?_
 refine @An _ _ _ _ _ _ _ _ _ Cm B7 ?_ Ae
 refine @An _ _ _ _ _ _ _ _ _ C2 Cn ?_ Ae
 refine @Ao _ _ _ _ _ _ _ _ Ak Al ?_ ?_ (fun _ _=>rfl)
 refine @Ao _ _ _ _ _ _ _ _ Ak Al ?_ Ae (fun _ _=>rfl)
 exact (Ab 0)
 exact (Ab 2)
 refine @An _ _ _ _ _ _ _ _ _ Cm B7 ?_ Ae
 refine @Ao _ _ _ _ _ _ _ _ Ak Al ?_ Ae (fun _ _=>rfl)
 exact (Ab 0)
 refine @Ai _ _ _ _ _ _ ?_ ?_
 refine @AL _ _ _ _ 4 _ _ _ sc_f_law_draw.nd rfl (.inl rfl) ?_ (by rfl) (by first | exact .inl rfl | exact .inr rfl | assumption)
 refine @An _ _ _ _ _ _ _ _ _ C2 Cn ?_ Ae
 refine @An _ _ _ _ _ _ _ _ _ Cm B7 ?_ ?_
 exact (Ab 4)
 exact (Ab 4)
 refine @Am _ _ _ _ ?_
 refine @AW _ _ _ _ ?_
 refine @An _ _ _ _ _ _ _ _ _ C2 Cn ?_ ?_
 refine @An _ _ _ _ _ _ _ _ _ Dj CM ?_ Ae
 refine @An _ _ _ _ _ _ _ _ _ C2 Cn ?_ Ae
 refine @An _ _ _ _ _ _ _ _ _ Az Aw ?_ ?_
 refine @An _ _ _ _ _ _ _ _ _ Cm B7 ?_ Ae
 exact (Ab 4)
 refine @Ao _ _ _ _ _ _ _ _ Ak Al ?_ Ae (fun _ _=>rfl)
 exact (Ab 0)
 exact (Ab 1)
theorem sc_f_law_far:FnScope (ns .AY) (ps .AY) (As (st .AY)):=⟨rfl,rfl,rfl,by decide +kernel,rfl,by decide +kernel,by decide +kernel⟩
theorem Lk (M:Md K mg A fd) (ih:∀x,okK (kd x) P w K mg base (n + 2) (A x) (fd x) (ps x) (run n x)):okK .pl P w K mg base (n + 2 + 1) (A .AY) (fd .AY) (ps .AY) (run (n + 1) .AY):=by
 refine BZ (g:=fnOf 1 2 (EQ (run n .Af))) rfl (BY rfl rfl (M.fn .AY) sc_f_law_far (fun cdv A' outer s H E hr=>?_))
 refine @Ai _ _ _ _ _ _ ?_ ?_
 refine @AL _ _ _ _ 1 _ _ _ sc_f_law_far.nd rfl (.inl rfl) ?_ (by rfl) (by first | exact .inl rfl | exact .inr rfl | assumption)
 refine @An _ _ _ _ _ _ _ _ _ Az Aw ?_ ?_
 refine @An _ _ _ _ _ _ _ _ _ Az Aw ?_ ?_
 refine @An _ _ _ _ _ _ _ _ _ Cm B7 ?_ ?_
 refine @Aq _ _ _ _ _ _ _ _ _ _ _ _ (ih .Af) hr rfl (M.mgs .Af) (Fun.kp (M.fn .Af)) (M.bd .Af) ?_ (by decide) (by rfl) (by rfl)
 refine @Aa _ _ _ _ _ ?_ ?_ rfl
 exact (Ab 0)
 refine @Aa _ _ _ _ _ ?_ Ag rfl
 exact (An C3 Co Ae Ae)
 exact (An C3 Co Ae Ae)
 refine @An _ _ _ _ _ _ _ _ _ Cm B7 ?_ ?_
 refine @Aq _ _ _ _ _ _ _ _ _ _ _ _ (ih .Af) hr rfl (M.mgs .Af) (Fun.kp (M.fn .Af)) (M.bd .Af) ?_ (by decide) (by rfl) (by rfl)
 refine @Aa _ _ _ _ _ ?_ ?_ rfl
 exact (Ab 0)
 refine @Aa _ _ _ _ _ ?_ Ag rfl
 exact (An C3 Co Ae Ae)
 exact (An C3 Co Ae Ae)
 refine @Aq _ _ _ _ _ _ _ _ _ _ _ _ (ih .Af) hr rfl (M.mgs .Af) (Fun.kp (M.fn .Af)) (M.bd .Af) ?_ (by decide) (by rfl) (by rfl)
 refine @Aa _ _ _ _ _ ?_ ?_ rfl
 exact (Ab 0)
 refine @Aa _ _ _ _ _ ?_ Ag rfl
 exact (An C3 Co Ae Ae)
 refine @Am _ _ _ _ ?_
 refine @AW _ _ _ _ ?_
 refine @An _ _ _ _ _ _ _ _ _ Cm B7 ?_ ?_
 exact (Ab 1)
 refine @Ao _ _ _ _ _ _ _ _ Ak Al ?_ ?_ (fun _ _=>rfl)
 refine @A4 _ _ _ ?_
 refine @AU _ _ _ _ ?_
 refine @Aa _ _ _ _ _ Ae ?_ rfl
 refine @Aa _ _ _ _ _ ?_ Ag rfl
 exact (Ud TV Rw Ae)
 refine @Aq _ _ _ _ _ _ _ _ _ _ _ _ (ih .Af) hr rfl (M.mgs .Af) (Fun.kp (M.fn .Af)) (M.bd .Af) ?_ (by decide) (by rfl) (by rfl)
 refine @Aa _ _ _ _ _ ?_ ?_ rfl
 exact (Ab 0)
 exact (@Aa _ _ _ _ _ Ae Ag rfl)
theorem sc_f_law_leaf:FnScope (ns .Bk) (ps .Bk) (As (st .Bk)):=⟨rfl,rfl,rfl,by decide +kernel,rfl,by decide +kernel,by decide +kernel⟩
theorem Kc (M:Md K mg A fd) (ih:∀x,okK (kd x) P w K mg base (n + 2) (A x) (fd x) (ps x) (run n x)):okK .pl P w K mg base (n + 2 + 1) (A .Bk) (fd .Bk) (ps .Bk) (run (n + 1) .Bk):=by
 refine BZ (g:=fnOf 1 5 (Ep (run n .Af) (run n .AY))) rfl (BY rfl rfl (M.fn .Bk) sc_f_law_leaf (fun cdv A' outer s H E hr=>?_))
 refine @Ai _ _ _ _ _ _ ?_ ?_
 refine @AL _ _ _ _ 1 _ _ _ sc_f_law_leaf.nd rfl (.inl rfl) ?_ (by rfl) (by first | exact .inl rfl | exact .inr rfl | assumption)
 refine @Aq _ _ _ _ _ _ _ _ _ _ _ _ (ih .Af) hr rfl (M.mgs .Af) (Fun.kp (M.fn .Af)) (M.bd .Af) ?_ (by decide) (by rfl) (by rfl)
 refine @Aa _ _ _ _ _ ?_ ?_ rfl
 exact (Ab 0)
 exact (@Aa _ _ _ _ _ Ae Ag rfl)
 refine @Ai _ _ _ _ _ _ ?_ ?_
 refine @AS _ _ _ _ _ _ _ _ _ ?_ ?_ AE
 refine @AG _ _ _ _ _ _ _ _ _ (Bn hr.units) (AV (g:=id)) ?_ Ae (AF _)
 exact (Ab 1)
 refine @Am _ _ _ _ ?_
 refine @AW _ _ _ _ ?_
 refine @Ca _ _ _ _ _ ?_
 exact (@Aa _ _ _ _ _ AI Ag rfl)
 refine @Ai _ _ _ _ _ _ ?_ ?_
 refine @AS _ _ _ _ _ _ _ _ _ ?_ ?_ AE
 refine @AG _ _ _ _ _ _ _ _ _ EV Ea ?_ Ae (AF _)
 exact (Ab 1)
 refine @Am _ _ _ _ ?_
 refine @AW _ _ _ _ ?_
 refine @Ca _ _ _ _ _ ?_
 refine @Aa _ _ _ _ _ AI ?_ rfl
 refine @Aa _ _ _ _ _ ?_ Ag rfl
 refine @Ao _ _ _ _ _ _ _ _ Ak Al ?_ ?_ (fun _ _=>rfl)
 refine @A4 _ _ _ ?_
 refine @AU _ _ _ _ ?_
 refine @Aa _ _ _ _ _ Ae ?_ rfl
 refine @Aa _ _ _ _ _ Ae ?_ rfl
 refine @Aa _ _ _ _ _ Ae ?_ rfl
 refine @Aa _ _ _ _ _ Ae ?_ rfl
 refine @Aa _ _ _ _ _ ?_ Ag rfl
 refine @Aq _ _ _ _ _ _ _ _ _ _ _ _ (ih .Af) hr rfl (M.mgs .Af) (Fun.kp (M.fn .Af)) (M.bd .Af) ?_ (by decide) (by rfl) (by rfl)
 refine @Aa _ _ _ _ _ ?_ ?_ rfl
 exact (Ab 0)
 exact (@Aa _ _ _ _ _ Ae Ag rfl)
 refine @Aq _ _ _ _ _ _ _ _ _ _ _ _ (ih .Af) hr rfl (M.mgs .Af) (Fun.kp (M.fn .Af)) (M.bd .Af) ?_ (by decide) (by rfl) (by rfl)
 refine @Aa _ _ _ _ _ ?_ ?_ rfl
 exact (Ab 0)
 exact (@Aa _ _ _ _ _ Ae Ag rfl)
 refine @Ai _ _ _ _ _ _ ?_ ?_
 refine @AL _ _ _ _ 2 _ _ _ sc_f_law_leaf.nd rfl (.inl rfl) ?_ (by rfl) (by first | exact .inl rfl | exact .inr rfl | assumption)
 refine @Ao _ _ _ _ _ _ _ _ Ak Al ?_ ?_ (fun _ _=>rfl)
 refine @A4 _ _ _ ?_
 refine @AU _ _ _ _ ?_
 refine @Aa _ _ _ _ _ Ae ?_ rfl
 refine @Aa _ _ _ _ _ ?_ ?_ rfl
 refine @An _ _ _ _ _ _ _ _ _ BC Bt ?_ Ae
 refine @Aq _ _ _ _ _ _ _ _ _ _ _ _ (ih .Af) hr rfl (M.mgs .Af) (Fun.kp (M.fn .Af)) (M.bd .Af) ?_ (by decide) (by rfl) (by rfl)
 refine @Aa _ _ _ _ _ ?_ ?_ rfl
 exact (Ab 0)
 exact (@Aa _ _ _ _ _ Ae Ag rfl)
 refine @Aa _ _ _ _ _ ?_ ?_ rfl
 refine @Aq _ _ _ _ _ _ _ _ _ _ _ _ (ih .AY) hr rfl (M.mgs .AY) (Fun.kp (M.fn .AY)) (M.bd .AY) ?_ (by decide) (by rfl) (by rfl)
 refine @Aa _ _ _ _ _ ?_ Ag rfl
 exact (Ab 0)
 refine @Aa _ _ _ _ _ ?_ Ag rfl
 refine @An _ _ _ _ _ _ _ _ _ BC Bt Ae ?_
 exact (An C3 Co Ae Ae)
 refine @Aq _ _ _ _ _ _ _ _ _ _ _ _ (ih .Af) hr rfl (M.mgs .Af) (Fun.kp (M.fn .Af)) (M.bd .Af) ?_ (by decide) (by rfl) (by rfl)
 refine @Aa _ _ _ _ _ ?_ ?_ rfl
 exact (Ab 0)
 exact (@Aa _ _ _ _ _ Ae Ag rfl)
 refine @Ai _ _ _ _ _ _ ?_ ?_
 refine @AL _ _ _ _ 3 _ _ _ sc_f_law_leaf.nd rfl (.inl rfl) ?_ (by rfl) (by first | exact .inl rfl | exact .inr rfl | assumption)
 refine @An _ _ _ _ _ _ _ _ _ BC Bt ?_ ?_
 refine @Ao _ _ _ _ _ _ _ _ Ak Al ?_ ?_ (fun _ _=>rfl)
 refine @A4 _ _ _ ?_
 refine @AU _ _ _ _ ?_
 refine @Aa _ _ _ _ _ ?_ ?_ rfl
 exact (An C3 Co Ae Ae)
 refine @Aa _ _ _ _ _ ?_ ?_ rfl
 exact (An C3 Co Ae Ae)
 refine @Aa _ _ _ _ _ ?_ ?_ rfl
 exact (An C3 Co Ae Ae)
 refine @Aa _ _ _ _ _ ?_ ?_ rfl
 exact (An C3 Co Ae Ae)
 refine @Aa _ _ _ _ _ ?_ Ag rfl
 exact (An C3 Co Ae Ae)
 refine @Aq _ _ _ _ _ _ _ _ _ _ _ _ (ih .Af) hr rfl (M.mgs .Af) (Fun.kp (M.fn .Af)) (M.bd .Af) ?_ (by decide) (by rfl) (by rfl)
 refine @Aa _ _ _ _ _ ?_ ?_ rfl
 exact (Ab 0)
 exact (@Aa _ _ _ _ _ Ae Ag rfl)
 refine @Aq _ _ _ _ _ _ _ _ _ _ _ _ (ih .Af) hr rfl (M.mgs .Af) (Fun.kp (M.fn .Af)) (M.bd .Af) ?_ (by decide) (by rfl) (by rfl)
 refine @Aa _ _ _ _ _ ?_ ?_ rfl
 exact (Ab 0)
 exact (@Aa _ _ _ _ _ Ae Ag rfl)
 refine @Ai _ _ _ _ _ _ ?_ ?_
 refine @AL _ _ _ _ 4 _ _ _ sc_f_law_leaf.nd rfl (.inl rfl) ?_ (by rfl) (by first | exact .inl rfl | exact .inr rfl | assumption)
 refine @A4 _ _ _ ?_
 refine @AU _ _ _ _ ?_
 refine @Aa _ _ _ _ _ Ae ?_ rfl
 refine @Aa _ _ _ _ _ Ae ?_ rfl
 refine @Aa _ _ _ _ _ Ae ?_ rfl
 refine @Aa _ _ _ _ _ Ae ?_ rfl
 refine @Aa _ _ _ _ _ Ae ?_ rfl
 refine @Aa _ _ _ _ _ Ae ?_ rfl
 refine @Aa _ _ _ _ _ Ae ?_ rfl
 refine @Aa _ _ _ _ _ ?_ ?_ rfl
 refine @Aq _ _ _ _ _ _ _ _ _ _ _ _ (ih .Af) hr rfl (M.mgs .Af) (Fun.kp (M.fn .Af)) (M.bd .Af) ?_ (by decide) (by rfl) (by rfl)
 refine @Aa _ _ _ _ _ ?_ ?_ rfl
 exact (Ab 0)
 exact (@Aa _ _ _ _ _ Ae Ag rfl)
 refine @Aa _ _ _ _ _ ?_ ?_ rfl
 refine @Bm _ _ _ _ _ _ _ _ _ _ KR ME rfl M.z_abs NE ?_ (by decide) (by decide) (by rfl) (by rfl)
 refine @Aa _ _ _ _ _ ?_ Ag rfl
 refine @Aq _ _ _ _ _ _ _ _ _ _ _ _ (ih .AY) hr rfl (M.mgs .AY) (Fun.kp (M.fn .AY)) (M.bd .AY) ?_ (by decide) (by rfl) (by rfl)
 refine @Aa _ _ _ _ _ ?_ Ag rfl
 exact (Ab 0)
 refine @Aa _ _ _ _ _ ?_ ?_ rfl
 exact (Ab 3)
 refine @Aa _ _ _ _ _ ?_ Ag rfl
 refine @An _ _ _ _ _ _ _ _ _ Cm B7 Ae ?_
 exact (An C3 Co Ae Ae)
 refine @Am _ _ _ _ ?_
 refine @AW _ _ _ _ ?_
 refine @Ca _ _ _ _ _ ?_
 refine @Aa _ _ _ _ _ AI ?_ rfl
 refine @Aa _ _ _ _ _ ?_ ?_ rfl
 exact (Ab 2)
 refine @Aa _ _ _ _ _ ?_ Ag rfl
 refine @Bm _ _ _ _ _ _ _ _ _ _ (JP rfl) MG rfl M.z_min Ig ?_ (by decide) (by decide) (by rfl) (by rfl)
 refine @Aa _ _ _ _ _ ?_ ?_ rfl
 refine @An _ _ _ _ _ _ _ _ _ BC Bt ?_ Ae
 exact (An C3 Co Ae Ae)
 refine @Aa _ _ _ _ _ ?_ Ag rfl
 refine @An _ _ _ _ _ _ _ _ _ Az Aw ?_ ?_
 exact (Ab 2)
 refine @Ao _ _ _ _ _ _ _ _ Ak Al ?_ ?_ (fun _ _=>rfl)
 exact (Ab 4)
 refine @Aq _ _ _ _ _ _ _ _ _ _ _ _ (ih .Af) hr rfl (M.mgs .Af) (Fun.kp (M.fn .Af)) (M.bd .Af) ?_ (by decide) (by rfl) (by rfl)
 refine @Aa _ _ _ _ _ ?_ ?_ rfl
 exact (Ab 0)
 exact (@Aa _ _ _ _ _ Ae Ag rfl)
theorem sc_f_law_shape:FnScope (ns .AC) (ps .AC) (As (st .AC)):=⟨rfl,rfl,rfl,by decide +kernel,rfl,by decide +kernel,by decide +kernel⟩
theorem Jn (M:Md K mg A fd) (ih:∀x,okK (kd x) P w K mg base (n + 2) (A x) (fd x) (ps x) (run n x)):okK .pl P w K mg base (n + 2 + 1) (A .AC) (fd .AC) (ps .AC) (run (n + 1) .AC):=by
 refine BZ (g:=fnOf 3 7 (DW (run n .Af) (run n .AC) (run n .Bk))) rfl (BY rfl rfl (M.fn .AC) sc_f_law_shape (fun cdv A' outer s H E hr=>?_))
 refine @Ai _ _ _ _ _ _ ?_ ?_
 refine DN ?_ ?_
 refine @An _ _ _ _ _ _ _ _ _ BC Bt ?_ Ae
 refine @Ao _ _ _ _ _ _ _ _ Ak Al ?_ Ae (fun _ _=>rfl)
 exact (Ab 2)
 refine Fl ?_ Ae
 exact (Ab 2)
 refine @Ai _ _ _ _ _ _ ?_ ?_
 refine @AL _ _ _ _ 3 _ _ _ sc_f_law_shape.nd rfl (.inl rfl) ?_ (by rfl) (by first | exact .inl rfl | exact .inr rfl | assumption)
 refine @Aq _ _ _ _ _ _ _ _ _ _ _ _ (ih .Af) hr rfl (M.mgs .Af) (Fun.kp (M.fn .Af)) (M.bd .Af) ?_ (by decide) (by rfl) (by rfl)
 refine @Aa _ _ _ _ _ ?_ ?_ rfl
 exact (Ab 0)
 exact (@Aa _ _ _ _ _ Ae Ag rfl)
 refine @Ai _ _ _ _ _ _ ?_ ?_
 refine @AS _ _ _ _ _ _ _ _ _ ?_ ?_ AE
 refine @Ek _ _ _ ?_
 refine @DT _ _ _ _ _ _ _ ?_ ?_
 refine @AG _ _ _ _ _ _ _ _ _ EV Ea ?_ Ae (AF _)
 exact (Ab 1)
 refine @DT _ _ _ _ _ _ _ ?_ ?_
 refine @AG _ _ _ _ _ _ _ _ _ EV Ea ?_ Ae (AF _)
 refine @Ao _ _ _ _ _ _ _ _ Ak Al ?_ Ae (fun _ _=>rfl)
 exact (Ab 2)
 refine @DO _ _ _ _ ?_
 refine @AG _ _ _ _ _ _ _ _ _ EV Ea ?_ Ae (AF _)
 exact (Ab 3)
 refine @Am _ _ _ _ ?_
 refine @AW _ _ _ _ ?_
 refine @Aq _ _ _ _ _ _ _ _ _ _ _ _ (ih .Bk) hr rfl (M.mgs .Bk) (Fun.kp (M.fn .Bk)) (M.bd .Bk) ?_ (by decide) (by rfl) (by rfl)
 refine @Aa _ _ _ _ _ ?_ Ag rfl
 exact (Ab 0)
 refine @Ai _ _ _ _ _ _ ?_ ?_
 refine @AS _ _ _ _ _ _ _ _ _ ?_ ?_ AE
 refine @AG _ _ _ _ _ _ _ _ _ EV Ea ?_ Ae (AF _)
 exact (Ab 3)
 refine @Ai _ _ _ _ _ _ ?_ ?_
 refine @AL _ _ _ _ 4 _ _ _ sc_f_law_shape.nd rfl (.inl rfl) ?_ (by rfl) (by first | exact .inl rfl | exact .inr rfl | assumption)
 refine @Ao _ _ _ _ _ _ _ _ Ak Al ?_ ?_ (fun _ _=>rfl)
 refine @A4 _ _ _ ?_
 refine @AU _ _ _ _ ?_
 refine @Aa _ _ _ _ _ Ae ?_ rfl
 refine @Aa _ _ _ _ _ Ae ?_ rfl
 refine @Aa _ _ _ _ _ Ae ?_ rfl
 refine @Aa _ _ _ _ _ Ae ?_ rfl
 refine @Aa _ _ _ _ _ ?_ Ag rfl
 refine @Aq _ _ _ _ _ _ _ _ _ _ _ _ (ih .Af) hr rfl (M.mgs .Af) (Fun.kp (M.fn .Af)) (M.bd .Af) ?_ (by decide) (by rfl) (by rfl)
 refine @Aa _ _ _ _ _ ?_ ?_ rfl
 exact (Ab 0)
 exact (@Aa _ _ _ _ _ Ae Ag rfl)
 refine @Aq _ _ _ _ _ _ _ _ _ _ _ _ (ih .Af) hr rfl (M.mgs .Af) (Fun.kp (M.fn .Af)) (M.bd .Af) ?_ (by decide) (by rfl) (by rfl)
 refine @Aa _ _ _ _ _ ?_ ?_ rfl
 exact (Ab 0)
 exact (@Aa _ _ _ _ _ Ae Ag rfl)
 refine @Am _ _ _ _ ?_
 refine @AW _ _ _ _ ?_
 refine @Ca _ _ _ _ _ ?_
 refine @Aa _ _ _ _ _ AI ?_ rfl
 refine @Aa _ _ _ _ _ ?_ ?_ rfl
 refine @Aq _ _ _ _ _ _ _ _ _ _ _ _ (ih .AC) hr rfl (M.mgs .AC) (Fun.kp (M.fn .AC)) (M.bd .AC) ?_ (by decide) (by rfl) (by rfl)
 refine @Aa _ _ _ _ _ ?_ ?_ rfl
 exact (Ab 0)
 refine @Aa _ _ _ _ _ ?_ ?_ rfl
 refine @An _ _ _ _ _ _ _ _ _ BC Bt ?_ Ae
 exact (Ab 1)
 refine @Aa _ _ _ _ _ ?_ Ag rfl
 exact (Ab 2)
 refine @Aa _ _ _ _ _ ?_ Ag rfl
 exact (Ab 4)
 refine @Ai _ _ _ _ _ _ ?_ ?_
 refine @AS _ _ _ _ _ _ _ _ _ ?_ ?_ AE
 refine @AG _ _ _ _ _ _ _ _ _ EV Ea ?_ Ae (AF _)
 exact (Ab 3)
 refine @Ai _ _ _ _ _ _ ?_ ?_
 refine @AL _ _ _ _ 5 _ _ _ sc_f_law_shape.nd rfl (.inl rfl) ?_ (by rfl) (by first | exact .inl rfl | exact .inr rfl | assumption)
 refine @Aq _ _ _ _ _ _ _ _ _ _ _ _ (ih .AC) hr rfl (M.mgs .AC) (Fun.kp (M.fn .AC)) (M.bd .AC) ?_ (by decide) (by rfl) (by rfl)
 refine @Aa _ _ _ _ _ ?_ ?_ rfl
 exact (Ab 0)
 refine @Aa _ _ _ _ _ ?_ ?_ rfl
 refine @An _ _ _ _ _ _ _ _ _ BC Bt ?_ Ae
 exact (Ab 1)
 refine @Aa _ _ _ _ _ ?_ Ag rfl
 exact (Ab 2)
 refine @Am _ _ _ _ ?_
 refine @AW _ _ _ _ ?_
 refine @Ca _ _ _ _ _ ?_
 refine @Aa _ _ _ _ _ AI ?_ rfl
 refine @Aa _ _ _ _ _ ?_ ?_ rfl
 exact (Ab 5)
 refine @Aa _ _ _ _ _ ?_ Ag rfl
 refine @Aq _ _ _ _ _ _ _ _ _ _ _ _ (ih .AC) hr rfl (M.mgs .AC) (Fun.kp (M.fn .AC)) (M.bd .AC) ?_ (by decide) (by rfl) (by rfl)
 refine @Aa _ _ _ _ _ ?_ ?_ rfl
 exact (Ab 0)
 refine @Aa _ _ _ _ _ ?_ ?_ rfl
 refine @An _ _ _ _ _ _ _ _ _ BC Bt ?_ Ae
 exact (Ab 1)
 refine @Aa _ _ _ _ _ ?_ Ag rfl
 exact (Ab 2)
 refine @Ai _ _ _ _ _ _ ?_ ?_
 refine G6 (i:=6) (Du ["k"] [(0 , "deck") ,(2 , "left") ,(1 , "deep")] rfl rfl rfl rfl rfl) rfl sc_f_law_shape.nd rfl rfl ?_ ?_ ?_ ?_
 refine BM rfl M.z_range ?_
 refine @Aa _ _ _ _ _ ?_ Ag rfl
 refine @An _ _ _ _ _ _ _ _ _ Az Aw Ae ?_
 refine @Aq _ _ _ _ _ _ _ _ _ _ _ _ (ih .Af) hr rfl (M.mgs .Af) (Fun.kp (M.fn .Af)) (M.bd .Af) ?_ (by decide) (by rfl) (by rfl)
 refine @Aa _ _ _ _ _ ?_ ?_ rfl
 exact (Ab 0)
 refine @Aa _ _ _ _ _ ?_ Ag rfl
 refine @Ao _ _ _ _ _ _ _ _ Ak Al ?_ ?_ (fun _ _=>rfl)
 refine @A4 _ _ _ ?_
 refine @AU _ _ _ _ ?_
 refine @Aa _ _ _ _ _ Ae ?_ rfl
 exact (@Aa _ _ _ _ _ Ae Ag rfl)
 refine @Ir _ _ _ _ _ _ _ _ _ _ GA Jx rfl M.z_int Id ?_ (by decide) (by decide) (by rfl) (by rfl)
 refine @Aa _ _ _ _ _ ?_ Ag rfl
 refine @FO _ _ _ _ _ _ _ _ _ (Bn hr.units) (AV (g:=id)) ?_ Ae (AF _)
 exact (Ab 1)
 intro _ _ _ _ _
 exact (BB (by show List.Nodup [("k" : Str) ,("deck" : Str) ,("left" : Str) ,("deep" : Str)] ;decide +kernel) rfl (.inl rfl))
 intro _ _ _ _ _
 exact CS
 intro _ _ _ _ _
 refine @Aq _ _ _ _ _ _ _ _ _ _ _ _ (ih .AC) hr rfl (M.mgs .AC) (Fun.kp (M.fn .AC)) (M.bd .AC) ?_ (by decide) (by rfl) (by rfl)
 refine @Aa _ _ _ _ _ ?_ ?_ rfl
 exact (Ab 1)
 refine @Aa _ _ _ _ _ ?_ ?_ rfl
 refine @An _ _ _ _ _ _ _ _ _ BC Bt ?_ Ae
 exact (Ab 3)
 refine @Aa _ _ _ _ _ ?_ Ag rfl
 exact (Ab 2)
 refine @Am _ _ _ _ ?_
 refine @AW _ _ _ _ ?_
 refine @Ca _ _ _ _ _ ?_
 refine @Aa _ _ _ _ _ AI ?_ rfl
 refine @Aa _ _ _ _ _ ?_ Ag rfl
 refine @Ir _ _ _ _ _ _ _ _ _ _ Gv MH rfl M.z_tuple D1 ?_ (by decide) (by decide) (by rfl) (by rfl)
 refine @Aa _ _ _ _ _ ?_ Ag rfl
 exact (Ab 6)
theorem sc_f_law_sign:FnScope (ns .Bl) (ps .Bl) (As (st .Bl)):=⟨rfl,rfl,rfl,by decide +kernel,rfl,by decide +kernel,by decide +kernel⟩
theorem Kh (M:Md K mg A fd) (ih:∀x,okK (kd x) P w K mg base (n + 2) (A x) (fd x) (ps x) (run n x)):okK .pl P w K mg base (n + 2 + 1) (A .Bl) (fd .Bl) (ps .Bl) (run (n + 1) .Bl):=by
 refine BZ (g:=fnOf 1 2 (Eu (run n .Af))) rfl (BY rfl rfl (M.fn .Bl) sc_f_law_sign (fun cdv A' outer s H E hr=>?_))
 refine @Ai _ _ _ _ _ _ ?_ ?_
 exact (AL (i:=1) sc_f_law_sign.nd rfl (.inl rfl) AI)
 refine @Am _ _ _ _ ?_
 refine @AW _ _ _ _ ?_
 refine @Ao _ _ _ _ _ _ _ _ Ak Al ?_ ?_ (fun _ _=>rfl)
 exact (Ab 1)
 refine @Aq _ _ _ _ _ _ _ _ _ _ _ _ (ih .Af) hr rfl (M.mgs .Af) (Fun.kp (M.fn .Af)) (M.bd .Af) ?_ (by decide) (by rfl) (by rfl)
 refine @Aa _ _ _ _ _ ?_ ?_ rfl
 exact (Ab 0)
 exact (@Aa _ _ _ _ _ Ae Ag rfl)
theorem Jv:FnScope (ns .AB) (ps .AB) (As (st .AB)):=⟨rfl,rfl,rfl,by decide +kernel,rfl,by decide +kernel,by decide +kernel⟩
theorem Jm (M:Md K mg A fd) (ih:∀x,okK (kd x) P w K mg base (n + 2) (A x) (fd x) (ps x) (run n x)):okK .pl P w K mg base (n + 2 + 1) (A .AB) (fd .AB) (ps .AB) (run (n + 1) .AB):=by
 refine BZ (g:=fnOf 1 1 (DV (run n .AB))) rfl (BY rfl rfl (M.fn .AB) Jv (fun cdv A' outer s H E hr=>?_))
 refine @Ai _ _ _ _ _ _ ?_ ?_
 refine @AS _ _ _ _ _ _ _ _ _ ?_ ?_ AE
 refine @AG _ _ _ _ _ _ _ _ _ (Bn hr.units) (AV (g:=id)) ?_ AI (AF _)
 refine @Ao _ _ _ _ _ _ _ _ Ak Al ?_ Ae (fun _ _=>rfl)
 exact (Ab 0)
 refine @Am _ _ _ _ ?_
 refine @AW _ _ _ _ ?_
 refine @An _ _ _ _ _ _ _ _ _ Az Aw Ae ?_
 refine @Aq _ _ _ _ _ _ _ _ _ _ _ _ (ih .AB) hr rfl (M.mgs .AB) (Fun.kp (M.fn .AB)) (M.bd .AB) ?_ (by decide) (by rfl) (by rfl)
 refine @Aa _ _ _ _ _ ?_ Ag rfl
 refine @Ao _ _ _ _ _ _ _ _ Ak Al ?_ Ae (fun _ _=>rfl)
 exact (Ab 0)
 refine @Ai _ _ _ _ _ _ ?_ ?_
 refine @AS _ _ _ _ _ _ _ _ _ ?_ ?_ AE
 refine @AG _ _ _ _ _ _ _ _ _ (Bn hr.units) (AV (g:=id)) ?_ AI (AF _)
 refine @Ao _ _ _ _ _ _ _ _ Ak Al ?_ Ae (fun _ _=>rfl)
 exact (Ab 0)
 refine @Am _ _ _ _ ?_
 refine @AW _ _ _ _ ?_
 refine @An _ _ _ _ _ _ _ _ _ Az Aw ?_ ?_
 refine @An _ _ _ _ _ _ _ _ _ Az Aw Ae ?_
 refine @Aq _ _ _ _ _ _ _ _ _ _ _ _ (ih .AB) hr rfl (M.mgs .AB) (Fun.kp (M.fn .AB)) (M.bd .AB) ?_ (by decide) (by rfl) (by rfl)
 refine @Aa _ _ _ _ _ ?_ Ag rfl
 refine @Ao _ _ _ _ _ _ _ _ Ak Al ?_ Ae (fun _ _=>rfl)
 exact (Ab 0)
 refine @Aq _ _ _ _ _ _ _ _ _ _ _ _ (ih .AB) hr rfl (M.mgs .AB) (Fun.kp (M.fn .AB)) (M.bd .AB) ?_ (by decide) (by rfl) (by rfl)
 refine @Aa _ _ _ _ _ ?_ Ag rfl
 refine @Ao _ _ _ _ _ _ _ _ Ak Al ?_ Ae (fun _ _=>rfl)
 exact (Ab 0)
 refine @Ai _ _ _ _ _ _ ?_ ?_
 refine @AS _ _ _ _ _ _ _ _ _ ?_ ?_ AE
 refine @AG _ _ _ _ _ _ _ _ _ (Bn hr.units) (AV (g:=id)) ?_ AI (AF _)
 refine @Ao _ _ _ _ _ _ _ _ Ak Al ?_ Ae (fun _ _=>rfl)
 exact (Ab 0)
 refine @Am _ _ _ _ ?_
 refine @AW _ _ _ _ ?_
 refine @An _ _ _ _ _ _ _ _ _ Az Aw Ae ?_
 refine @Bm _ _ _ _ _ _ _ _ _ _ (NG rfl) Pz rfl M.z_max Ie ?_ (by decide) (by decide) (by rfl) (by rfl)
 refine @Aa _ _ _ _ _ ?_ Ag rfl
 refine @A4 _ _ _ ?_
 refine E4 (Du ["one"] [] rfl rfl rfl rfl rfl) rfl ?_ ?_ ?_ ?_
 refine @EU _ _ _ _ ?_
 refine @Ao _ _ _ _ _ _ _ _ Ak Al ?_ Ae (fun _ _=>rfl)
 exact (Ab 0)
 intro _ _ _ _ _
 exact (BB (by show List.Nodup [("one" : Str)] ;decide +kernel) rfl (.inl rfl))
 intro _ _ _ _ _
 exact CS
 intro _ _ _ _ _
 refine @Aq _ _ _ _ _ _ _ _ _ _ _ _ (ih .AB) hr rfl (M.mgs .AB) (Fun.kp (M.fn .AB)) (M.bd .AB) ?_ (by decide) (by rfl) (by rfl)
 refine @Aa _ _ _ _ _ ?_ Ag rfl
 exact (Ab 0)
 refine @Am _ _ _ _ ?_
 exact (AW Ae)
theorem sc_f_law_value:FnScope (ns .AD) (ps .AD) (As (st .AD)):=⟨rfl,rfl,rfl,by decide +kernel,rfl,by decide +kernel,by decide +kernel⟩
theorem Jo (M:Md K mg A fd) (ih:∀x,okK (kd x) P w K mg base (n + 2) (A x) (fd x) (ps x) (run n x)):okK .pl P w K mg base (n + 2 + 1) (A .AD) (fd .AD) (ps .AD) (run (n + 1) .AD):=by
 refine BZ (g:=fnOf 3 8 (DX (run n .AD) (run n .Af) (run n .AB) (run n .Bl) (run n .AY))) rfl (BY rfl rfl (M.fn .AD) sc_f_law_value (fun cdv A' outer s H E hr=>?_))
 refine @Ai _ _ _ _ _ _ ?_ ?_
 refine DN ?_ ?_
 refine @An _ _ _ _ _ _ _ _ _ BC Bt ?_ Ae
 refine @Ao _ _ _ _ _ _ _ _ Ak Al ?_ Ae (fun _ _=>rfl)
 exact (Ab 2)
 refine Fl ?_ Ae
 exact (Ab 2)
 refine @Ai _ _ _ _ _ _ ?_ ?_
 refine DN ?_ ?_
 refine @An _ _ _ _ _ _ _ _ _ BC Bt ?_ Ae
 refine @Ao _ _ _ _ _ _ _ _ Ak Al ?_ Ae (fun _ _=>rfl)
 exact (Ab 2)
 refine Fl ?_ Ae
 exact (Ab 2)
 refine @Ai _ _ _ _ _ _ ?_ ?_
 refine @AS _ _ _ _ _ _ _ _ _ ?_ ?_ AE
 refine @AG _ _ _ _ _ _ _ _ _ (Bn hr.units) (AV (g:=id)) ?_ AI (AF _)
 refine @Ao _ _ _ _ _ _ _ _ Ak Al ?_ Ae (fun _ _=>rfl)
 exact (Ab 1)
 refine @Am _ _ _ _ ?_
 exact (AW Dw)
 refine @Ai _ _ _ _ _ _ ?_ ?_
 refine @AS _ _ _ _ _ _ _ _ _ ?_ ?_ AE
 refine @AG _ _ _ _ _ _ _ _ _ (Bn hr.units) (AV (g:=id)) ?_ AI (AF _)
 refine @Ao _ _ _ _ _ _ _ _ Ak Al ?_ Ae (fun _ _=>rfl)
 exact (Ab 1)
 refine @Ai _ _ _ _ _ _ ?_ ?_
 refine DN ?_ ?_
 refine @An _ _ _ _ _ _ _ _ _ BC Bt ?_ Ae
 refine @Ao _ _ _ _ _ _ _ _ Ak Al ?_ Ae (fun _ _=>rfl)
 exact (Ab 2)
 refine Fl ?_ Ae
 exact (Ab 2)
 refine @Ai _ _ _ _ _ _ ?_ ?_
 refine @AL _ _ _ _ 3 _ _ _ sc_f_law_value.nd rfl (.inl rfl) ?_ (by rfl) (by first | exact .inl rfl | exact .inr rfl | assumption)
 refine @An _ _ _ _ _ _ _ _ _ BC Bt ?_ ?_
 refine @Ao _ _ _ _ _ _ _ _ Ak Al ?_ Ae (fun _ _=>rfl)
 exact (Ab 1)
 refine @Ao _ _ _ _ _ _ _ _ Ak Al ?_ Ae (fun _ _=>rfl)
 exact (Ab 1)
 refine @Ai _ _ _ _ _ _ ?_ ?_
 refine @AL _ _ _ _ 4 _ _ _ sc_f_law_value.nd rfl (.inl rfl) ?_ (by rfl) (by first | exact .inl rfl | exact .inr rfl | assumption)
 refine @A4 _ _ _ ?_
 refine @AU _ _ _ _ ?_
 refine @Aa _ _ _ _ _ Ae ?_ rfl
 refine @Aa _ _ _ _ _ ?_ ?_ rfl
 exact (Ab 3)
 refine @Aa _ _ _ _ _ ?_ ?_ rfl
 refine @An _ _ _ _ _ _ _ _ _ C2 Cn ?_ ?_
 refine @Bm _ _ _ _ _ _ _ _ _ _ KR ME rfl M.z_abs NE ?_ (by decide) (by decide) (by rfl) (by rfl)
 refine @Aa _ _ _ _ _ ?_ Ag rfl
 refine @Aq _ _ _ _ _ _ _ _ _ _ _ _ (ih .AY) hr rfl (M.mgs .AY) (Fun.kp (M.fn .AY)) (M.bd .AY) ?_ (by decide) (by rfl) (by rfl)
 refine @Aa _ _ _ _ _ ?_ Ag rfl
 exact (Ab 0)
 refine @An _ _ _ _ _ _ _ _ _ Az Aw ?_ Ae
 exact (Ab 3)
 refine @Aa _ _ _ _ _ ?_ Ag rfl
 refine @An _ _ _ _ _ _ _ _ _ C2 Cn ?_ ?_
 refine @Aq _ _ _ _ _ _ _ _ _ _ _ _ (ih .Af) hr rfl (M.mgs .Af) (Fun.kp (M.fn .Af)) (M.bd .Af) ?_ (by decide) (by rfl) (by rfl)
 refine @Aa _ _ _ _ _ ?_ ?_ rfl
 exact (Ab 0)
 exact (@Aa _ _ _ _ _ Ae Ag rfl)
 refine @An _ _ _ _ _ _ _ _ _ Az Aw ?_ Ae
 exact (Ab 3)
 refine @Am _ _ _ _ ?_
 refine @AW _ _ _ _ ?_
 refine @An _ _ _ _ _ _ _ _ _ Az Aw ?_ ?_
 refine @Ao _ _ _ _ _ _ _ _ Ak Al ?_ Ae (fun _ _=>rfl)
 exact (Ab 1)
 refine @Ao _ _ _ _ _ _ _ _ Ak Al ?_ ?_ (fun _ _=>rfl)
 exact (Ab 4)
 refine @Aq _ _ _ _ _ _ _ _ _ _ _ _ (ih .Af) hr rfl (M.mgs .Af) (Fun.kp (M.fn .Af)) (M.bd .Af) ?_ (by decide) (by rfl) (by rfl)
 refine @Aa _ _ _ _ _ ?_ ?_ rfl
 exact (Ab 0)
 exact (@Aa _ _ _ _ _ Ae Ag rfl)
 refine @Ai _ _ _ _ _ _ ?_ ?_
 refine @AS _ _ _ _ _ _ _ _ _ ?_ ?_ AE
 refine @AG _ _ _ _ _ _ _ _ _ (Bn hr.units) (AV (g:=id)) ?_ AI (AF _)
 refine @Ao _ _ _ _ _ _ _ _ Ak Al ?_ Ae (fun _ _=>rfl)
 exact (Ab 1)
 refine @Ai _ _ _ _ _ _ ?_ ?_
 refine @AL _ _ _ _ 5 _ _ _ sc_f_law_value.nd rfl (.inl rfl) ?_ (by rfl) (by first | exact .inl rfl | exact .inr rfl | assumption)
 refine @Bm _ _ _ _ _ _ _ _ _ _ (JQ rfl) LA rfl M.z_min Ig ?_ (by decide) (by decide) (by rfl) (by rfl)
 refine @Aa _ _ _ _ _ ?_ ?_ rfl
 refine @Ao _ _ _ _ _ _ _ _ Ak Al ?_ Ae (fun _ _=>rfl)
 exact (Ab 1)
 refine @Aa _ _ _ _ _ ?_ ?_ rfl
 refine @Bm _ _ _ _ _ _ _ _ _ _ (GB rfl) Jz rfl M.z_max Ie ?_ (by decide) (by decide) (by rfl) (by rfl)
 refine @Aa _ _ _ _ _ Ae ?_ rfl
 refine @Aa _ _ _ _ _ ?_ Ag rfl
 refine @An _ _ _ _ _ _ _ _ _ Dj CM ?_ Ae
 refine @Ao _ _ _ _ _ _ _ _ Ak Al ?_ Ae (fun _ _=>rfl)
 exact (Ab 2)
 refine @Aa _ _ _ _ _ ?_ Ag rfl
 refine @Ao _ _ _ _ _ _ _ _ Ak Al ?_ ?_ (fun _ _=>rfl)
 refine @A4 _ _ _ ?_
 refine @AU _ _ _ _ ?_
 refine @Aa _ _ _ _ _ Ae ?_ rfl
 refine @Aa _ _ _ _ _ Ae ?_ rfl
 refine @Aa _ _ _ _ _ ?_ ?_ rfl
 refine @Aq _ _ _ _ _ _ _ _ _ _ _ _ (ih .Af) hr rfl (M.mgs .Af) (Fun.kp (M.fn .Af)) (M.bd .Af) ?_ (by decide) (by rfl) (by rfl)
 refine @Aa _ _ _ _ _ ?_ ?_ rfl
 exact (Ab 0)
 exact (@Aa _ _ _ _ _ Ae Ag rfl)
 exact (@Aa _ _ _ _ _ Ae Ag rfl)
 refine @Aq _ _ _ _ _ _ _ _ _ _ _ _ (ih .Af) hr rfl (M.mgs .Af) (Fun.kp (M.fn .Af)) (M.bd .Af) ?_ (by decide) (by rfl) (by rfl)
 refine @Aa _ _ _ _ _ ?_ ?_ rfl
 exact (Ab 0)
 exact (@Aa _ _ _ _ _ Ae Ag rfl)
 refine @Ai _ _ _ _ _ _ ?_ ?_
 refine DN ?_ ?_
 refine @An _ _ _ _ _ _ _ _ _ BC Bt ?_ ?_
 refine @Ao _ _ _ _ _ _ _ _ Ak Al ?_ Ae (fun _ _=>rfl)
 exact (Ab 2)
 exact (Ab 5)
 refine Fl ?_ Ae
 exact (Ab 2)
 refine @Am _ _ _ _ ?_
 refine @AW _ _ _ _ ?_
 refine Mm AI ?_
 refine @Aa _ _ _ _ _ ?_ Ag rfl
 refine @A4 _ _ _ ?_
 refine E4 (Du ["k"] [(0 , "deck")] rfl rfl rfl rfl rfl) rfl ?_ ?_ ?_ ?_
 refine BM rfl M.z_range ?_
 refine @Aa _ _ _ _ _ ?_ Ag rfl
 exact (Ab 5)
 intro _ _ _ _ _
 exact (BB (by show List.Nodup [("k" : Str) ,("deck" : Str)] ;decide +kernel) rfl (.inl rfl))
 intro _ _ _ _ _
 exact CS
 intro _ _ _ _ _
 refine @Aq _ _ _ _ _ _ _ _ _ _ _ _ (ih .Bl) hr rfl (M.mgs .Bl) (Fun.kp (M.fn .Bl)) (M.bd .Bl) ?_ (by decide) (by rfl) (by rfl)
 refine @Aa _ _ _ _ _ ?_ Ag rfl
 exact (Ab 1)
 refine @Ai _ _ _ _ _ _ ?_ ?_
 refine @AS _ _ _ _ _ _ _ _ _ ?_ ?_ AE
 refine @AG _ _ _ _ _ _ _ _ _ (Bn hr.units) (AV (g:=id)) ?_ AI (AF _)
 refine @Ao _ _ _ _ _ _ _ _ Ak Al ?_ Ae (fun _ _=>rfl)
 exact (Ab 1)
 refine @Ai _ _ _ _ _ _ ?_ ?_
 refine @AL _ _ _ _ 5 _ _ _ sc_f_law_value.nd rfl (.inl rfl) ?_ (by rfl) (by first | exact .inl rfl | exact .inr rfl | assumption)
 refine @Bm _ _ _ _ _ _ _ _ _ _ (JQ rfl) LA rfl M.z_min Ig ?_ (by decide) (by decide) (by rfl) (by rfl)
 refine @Aa _ _ _ _ _ ?_ ?_ rfl
 refine @Ao _ _ _ _ _ _ _ _ Ak Al ?_ Ae (fun _ _=>rfl)
 exact (Ab 1)
 refine @Aa _ _ _ _ _ ?_ ?_ rfl
 refine @Bm _ _ _ _ _ _ _ _ _ _ (GB rfl) Jz rfl M.z_max Ie ?_ (by decide) (by decide) (by rfl) (by rfl)
 refine @Aa _ _ _ _ _ Ae ?_ rfl
 refine @Aa _ _ _ _ _ ?_ Ag rfl
 refine @An _ _ _ _ _ _ _ _ _ Dj CM ?_ ?_
 refine @Ao _ _ _ _ _ _ _ _ Ak Al ?_ Ae (fun _ _=>rfl)
 exact (Ab 2)
 refine @An _ _ _ _ _ _ _ _ _ Cm B7 Ae ?_
 refine @Aq _ _ _ _ _ _ _ _ _ _ _ _ (ih .AB) hr rfl (M.mgs .AB) (Fun.kp (M.fn .AB)) (M.bd .AB) ?_ (by decide) (by rfl) (by rfl)
 refine @Aa _ _ _ _ _ ?_ Ag rfl
 refine @Ao _ _ _ _ _ _ _ _ Ak Al ?_ Ae (fun _ _=>rfl)
 exact (Ab 1)
 refine @Aa _ _ _ _ _ ?_ Ag rfl
 refine @Bm _ _ _ _ _ _ _ _ _ _ (GB rfl) Jz rfl M.z_max Ie ?_ (by decide) (by decide) (by rfl) (by rfl)
 refine @Aa _ _ _ _ _ Ae ?_ rfl
 refine @Aa _ _ _ _ _ ?_ Ag rfl
 refine @An _ _ _ _ _ _ _ _ _ Dj CM ?_ Ae
 refine @Ao _ _ _ _ _ _ _ _ Ak Al ?_ Ae (fun _ _=>rfl)
 exact (Ab 2)
 refine @Ai _ _ _ _ _ _ ?_ ?_
 refine @AL _ _ _ _ 5 _ _ _ sc_f_law_value.nd rfl (.inl rfl) ?_ (by rfl) (by first | exact .inl rfl | exact .inr rfl | assumption)
 refine @Bm _ _ _ _ _ _ _ _ _ _ (JP rfl) MG rfl M.z_min Ig ?_ (by decide) (by decide) (by rfl) (by rfl)
 refine @Aa _ _ _ _ _ ?_ ?_ rfl
 exact (Ab 5)
 refine @Aa _ _ _ _ _ ?_ Ag rfl
 refine @Ao _ _ _ _ _ _ _ _ Ak Al ?_ ?_ (fun _ _=>rfl)
 refine @A4 _ _ _ ?_
 refine @AU _ _ _ _ ?_
 refine @Aa _ _ _ _ _ Ae ?_ rfl
 refine @Aa _ _ _ _ _ Ae ?_ rfl
 refine @Aa _ _ _ _ _ ?_ ?_ rfl
 refine @Aq _ _ _ _ _ _ _ _ _ _ _ _ (ih .Af) hr rfl (M.mgs .Af) (Fun.kp (M.fn .Af)) (M.bd .Af) ?_ (by decide) (by rfl) (by rfl)
 refine @Aa _ _ _ _ _ ?_ ?_ rfl
 exact (Ab 0)
 exact (@Aa _ _ _ _ _ Ae Ag rfl)
 exact (@Aa _ _ _ _ _ Ae Ag rfl)
 refine @Aq _ _ _ _ _ _ _ _ _ _ _ _ (ih .Af) hr rfl (M.mgs .Af) (Fun.kp (M.fn .Af)) (M.bd .Af) ?_ (by decide) (by rfl) (by rfl)
 refine @Aa _ _ _ _ _ ?_ ?_ rfl
 exact (Ab 0)
 exact (@Aa _ _ _ _ _ Ae Ag rfl)
 refine @Am _ _ _ _ ?_
 refine @AW _ _ _ _ ?_
 refine @A4 _ _ _ ?_
 refine E4 (Du ["k"] [(0 , "deck") ,(2 , "left") ,(1 , "s")] rfl rfl rfl rfl rfl) rfl ?_ ?_ ?_ ?_
 refine BM rfl M.z_range ?_
 refine @Aa _ _ _ _ _ ?_ Ag rfl
 exact (Ab 5)
 intro _ _ _ _ _
 exact (BB (by show List.Nodup [("k" : Str) ,("deck" : Str) ,("left" : Str) ,("s" : Str)] ;decide +kernel) rfl (.inl rfl))
 intro _ _ _ _ _
 exact CS
 intro _ _ _ _ _
 refine @Aq _ _ _ _ _ _ _ _ _ _ _ _ (ih .AD) hr rfl (M.mgs .AD) (Fun.kp (M.fn .AD)) (M.bd .AD) ?_ (by decide) (by rfl) (by rfl)
 refine @Aa _ _ _ _ _ ?_ ?_ rfl
 exact (Ab 1)
 refine @Aa _ _ _ _ _ ?_ ?_ rfl
 refine @Ao _ _ _ _ _ _ _ _ Ak Al ?_ Ae (fun _ _=>rfl)
 exact (Ab 3)
 refine @Aa _ _ _ _ _ ?_ Ag rfl
 exact (Ab 2)
 refine @Ai _ _ _ _ _ _ ?_ ?_
 refine @AS _ _ _ _ _ _ _ _ _ ?_ ?_ AE
 refine @AG _ _ _ _ _ _ _ _ _ (Bn hr.units) (AV (g:=id)) ?_ AI (AF _)
 refine @Ao _ _ _ _ _ _ _ _ Ak Al ?_ Ae (fun _ _=>rfl)
 exact (Ab 1)
 refine @Ai _ _ _ _ _ _ ?_ ?_
 refine @AL _ _ _ _ 6 _ _ _ sc_f_law_value.nd rfl (.inl rfl) ?_ (by rfl) (by first | exact .inl rfl | exact .inr rfl | assumption)
 refine @Aq _ _ _ _ _ _ _ _ _ _ _ _ (ih .AD) hr rfl (M.mgs .AD) (Fun.kp (M.fn .AD)) (M.bd .AD) ?_ (by decide) (by rfl) (by rfl)
 refine @Aa _ _ _ _ _ ?_ ?_ rfl
 exact (Ab 0)
 refine @Aa _ _ _ _ _ ?_ ?_ rfl
 refine @Ao _ _ _ _ _ _ _ _ Ak Al ?_ Ae (fun _ _=>rfl)
 exact (Ab 1)
 refine @Aa _ _ _ _ _ ?_ Ag rfl
 exact (Ab 2)
 refine @Am _ _ _ _ ?_
 refine @AW _ _ _ _ ?_
 refine @Ca _ _ _ _ _ ?_
 refine @Aa _ _ _ _ _ ?_ ?_ rfl
 exact (Ab 6)
 refine @Aa _ _ _ _ _ ?_ Ag rfl
 refine @Aq _ _ _ _ _ _ _ _ _ _ _ _ (ih .AD) hr rfl (M.mgs .AD) (Fun.kp (M.fn .AD)) (M.bd .AD) ?_ (by decide) (by rfl) (by rfl)
 refine @Aa _ _ _ _ _ ?_ ?_ rfl
 exact (Ab 0)
 refine @Aa _ _ _ _ _ ?_ ?_ rfl
 refine @Ao _ _ _ _ _ _ _ _ Ak Al ?_ Ae (fun _ _=>rfl)
 exact (Ab 1)
 refine @Aa _ _ _ _ _ ?_ Ag rfl
 exact (Ab 2)
 refine @Ai _ _ _ _ _ _ ?_ ?_
 refine @AL _ _ _ _ 7 _ _ _ sc_f_law_value.nd rfl (.inl rfl) ?_ (by rfl) (by first | exact .inl rfl | exact .inr rfl | assumption)
 refine @Aq _ _ _ _ _ _ _ _ _ _ _ _ (ih .Af) hr rfl (M.mgs .Af) (Fun.kp (M.fn .Af)) (M.bd .Af) ?_ (by decide) (by rfl) (by rfl)
 refine @Aa _ _ _ _ _ ?_ ?_ rfl
 exact (Ab 0)
 refine @Aa _ _ _ _ _ ?_ Ag rfl
 refine @Bm _ _ _ _ _ _ _ _ _ _ Bz BJ rfl M.z_len BP ?_ (by decide) (by decide) (by rfl) (by rfl)
 refine @Aa _ _ _ _ _ ?_ Ag rfl
 refine @Ao _ _ _ _ _ _ _ _ Ak Al ?_ Ae (fun _ _=>rfl)
 exact (Ab 1)
 refine @Am _ _ _ _ ?_
 refine @AW _ _ _ _ ?_
 refine @Ca _ _ _ _ _ ?_
 refine @Aa _ _ _ _ _ AI ?_ rfl
 refine @Aa _ _ _ _ _ ?_ ?_ rfl
 exact (Ab 7)
 refine @Aa _ _ _ _ _ ?_ Ag rfl
 refine @Aq _ _ _ _ _ _ _ _ _ _ _ _ (ih .AD) hr rfl (M.mgs .AD) (Fun.kp (M.fn .AD)) (M.bd .AD) ?_ (by decide) (by rfl) (by rfl)
 refine @Aa _ _ _ _ _ ?_ ?_ rfl
 exact (Ab 0)
 refine @Aa _ _ _ _ _ ?_ ?_ rfl
 refine @Ao _ _ _ _ _ _ _ _ Ak Al ?_ ?_ (fun _ _=>rfl)
 refine @Ao _ _ _ _ _ _ _ _ Ak Al ?_ Ae (fun _ _=>rfl)
 exact (Ab 1)
 exact (Ab 7)
 refine @Aa _ _ _ _ _ ?_ Ag rfl
 exact (Ab 2)
theorem Kn:FnScope (ns .A0) (ps .A0) (As (st .A0)):=⟨rfl,rfl,rfl,by decide +kernel,rfl,by decide +kernel,by decide +kernel⟩
theorem Kg (M:Md K mg A fd) (ih:∀x,okK (kd x) P w K mg base (n + 2) (A x) (fd x) (ps x) (run n x)):okK .pl P w K mg base (n + 2 + 1) (A .A0) (fd .A0) (ps .A0) (run (n + 1) .A0):=by
 refine BZ (g:=fnOf 2 2 (Dr (run n .A0))) rfl (BY rfl rfl (M.fn .A0) Kn (fun cdv A' outer s H E hr=>?_))
 refine @Ai _ _ _ _ _ _ ?_ ?_
 refine @AS _ _ _ _ _ _ _ _ _ ?_ ?_ AE
 refine @Ek _ _ _ ?_
 refine @DT _ _ _ _ _ _ _ ?_ ?_
 refine @Dg _ _ _ ?_ (by intro _;rfl)
 refine @Bm _ _ _ _ _ _ _ _ _ _ Ce CH rfl M.z_isinstance Bj ?_ (by decide) (by decide) (by rfl) (by rfl)
 refine @Aa _ _ _ _ _ ?_ ?_ rfl
 exact (Ab 1)
 refine @Aa _ _ _ _ _ ?_ Ag rfl
 exact (DS rfl M.z_list ED)
 refine @DO _ _ _ _ ?_
 refine @Dg _ _ _ ?_ (by intro _;rfl)
 refine @Bm _ _ _ _ _ _ _ _ _ _ Ce CH rfl M.z_isinstance Bj ?_ (by decide) (by decide) (by rfl) (by rfl)
 refine @Aa _ _ _ _ _ ?_ ?_ rfl
 exact (Ab 1)
 refine @Aa _ _ _ _ _ ?_ Ag rfl
 exact (DS rfl M.z_tuple D1)
 refine @Ai _ _ _ _ _ _ ?_ ?_
 refine @AS _ _ _ _ _ _ _ _ _ ?_ ?_ AE
 refine @Ek _ _ _ ?_
 refine @DT _ _ _ _ _ _ _ ?_ ?_
 refine @AG _ _ _ _ _ _ _ _ _ (Fm hr.units) (AV (g:=fun b=>!b)) ?_ ?_ (AF _)
 refine @Bm _ _ _ _ _ _ _ _ _ _ Ce CH rfl M.z_isinstance Bj ?_ (by decide) (by decide) (by rfl) (by rfl)
 refine @Aa _ _ _ _ _ ?_ ?_ rfl
 exact (Ab 1)
 refine @Aa _ _ _ _ _ ?_ Ag rfl
 exact (DS rfl M.z_list ED)
 refine @Bm _ _ _ _ _ _ _ _ _ _ Ce CH rfl M.z_isinstance Bj ?_ (by decide) (by decide) (by rfl) (by rfl)
 refine @Aa _ _ _ _ _ ?_ ?_ rfl
 exact (Ab 0)
 refine @Aa _ _ _ _ _ ?_ Ag rfl
 exact (DS rfl M.z_list ED)
 refine @DO _ _ _ _ ?_
 refine @AG _ _ _ _ _ _ _ _ _ (Fm hr.units) (AV (g:=fun b=>!b)) ?_ ?_ (AF _)
 refine @Bm _ _ _ _ _ _ _ _ _ _ Ce CH rfl M.z_isinstance Bj ?_ (by decide) (by decide) (by rfl) (by rfl)
 refine @Aa _ _ _ _ _ ?_ ?_ rfl
 exact (Ab 1)
 refine @Aa _ _ _ _ _ ?_ Ag rfl
 exact (DS rfl M.z_tuple D1)
 refine @Bm _ _ _ _ _ _ _ _ _ _ Ce CH rfl M.z_isinstance Bj ?_ (by decide) (by decide) (by rfl) (by rfl)
 refine @Aa _ _ _ _ _ ?_ ?_ rfl
 exact (Ab 0)
 refine @Aa _ _ _ _ _ ?_ Ag rfl
 exact (DS rfl M.z_tuple D1)
 refine @Am _ _ _ _ ?_
 exact (AW Iu)
 refine @Ai _ _ _ _ _ _ ?_ ?_
 refine @AS _ _ _ _ _ _ _ _ _ ?_ ?_ AE
 refine @AG _ _ _ _ _ _ _ _ _ (Fm hr.units) (AV (g:=fun b=>!b)) ?_ ?_ (AF _)
 refine @Bm _ _ _ _ _ _ _ _ _ _ Bz BJ rfl M.z_len BP ?_ (by decide) (by decide) (by rfl) (by rfl)
 refine @Aa _ _ _ _ _ ?_ Ag rfl
 exact (Ab 0)
 refine @Bm _ _ _ _ _ _ _ _ _ _ Bz BJ rfl M.z_len BP ?_ (by decide) (by decide) (by rfl) (by rfl)
 refine @Aa _ _ _ _ _ ?_ Ag rfl
 exact (Ab 1)
 refine @Am _ _ _ _ ?_
 exact (AW Iu)
 refine @Am _ _ _ _ ?_
 refine @AW _ _ _ _ ?_
 refine @FO _ _ _ _ _ _ _ _ _ Ll TD Iu ?_ (by with_unfolding_all rfl)
 refine @A4 _ _ _ ?_
 refine O0 (Du ["one" , "other"] [] rfl rfl rfl rfl rfl) rfl ?_ ?_ ?_ ?_
 refine QQ rfl M.z_zip ?_
 refine @Aa _ _ _ _ _ ?_ ?_ rfl
 exact (Ab 0)
 refine @Aa _ _ _ _ _ ?_ Ag rfl
 exact (Ab 1)
 intro _ _ _ _ _
 refine Uf rfl ?_
 refine K3 ?_ ?_
 exact (BB (by show List.Nodup [("one" : Str) ,("other" : Str)] ;decide +kernel) rfl (.inl rfl))
 refine K3 ?_ QP
 exact (BB (by show List.Nodup [("one" : Str) ,("other" : Str)] ;decide +kernel) rfl (.inl rfl))
 intro _ _ _ _ _
 exact CS
 intro _ _ _ _ _
 refine @Aq _ _ _ _ _ _ _ _ _ _ _ _ (ih .A0) hr rfl (M.mgs .A0) (Fun.kp (M.fn .A0)) (M.bd .A0) ?_ (by decide) (by rfl) (by rfl)
 refine @Aa _ _ _ _ _ ?_ ?_ rfl
 exact (Ab 0)
 refine @Aa _ _ _ _ _ ?_ Ag rfl
 exact (Ab 1)
 refine @Ai _ _ _ _ _ _ ?_ ?_
 refine @AS _ _ _ _ _ _ _ _ _ ?_ ?_ AE
 refine @Ek _ _ _ ?_
 refine @DT _ _ _ _ _ _ _ ?_ ?_
 refine @AG _ _ _ _ _ _ _ _ _ Og Ov ?_ Dw (AF _)
 exact (Ab 1)
 refine @DO _ _ _ _ ?_
 refine @Dg _ _ _ ?_ (by intro _;rfl)
 refine @Bm _ _ _ _ _ _ _ _ _ _ Ce CH rfl M.z_isinstance Bj ?_ (by decide) (by decide) (by rfl) (by rfl)
 refine @Aa _ _ _ _ _ ?_ ?_ rfl
 exact (Ab 1)
 refine @Aa _ _ _ _ _ ?_ Ag rfl
 exact (DS rfl M.z_str Sf)
 refine @Am _ _ _ _ ?_
 refine @AW _ _ _ _ ?_
 refine @FO _ _ _ _ _ _ _ _ _ (Bn hr.units) (AV (g:=id)) ?_ ?_ (AF _)
 exact (Ab 0)
 exact (Ab 1)
 refine @Am _ _ _ _ ?_
 refine @AW _ _ _ _ ?_
 refine @K2 _ _ _ _ _ _ _ ?_ ?_
 refine @Bm _ _ _ _ _ _ _ _ _ _ Ce CH rfl M.z_isinstance Bj ?_ (by decide) (by decide) (by rfl) (by rfl)
 refine @Aa _ _ _ _ _ ?_ ?_ rfl
 exact (Ab 0)
 refine @Aa _ _ _ _ _ ?_ Ag rfl
 exact (DS rfl M.z_int Id)
 refine @K2 _ _ _ _ _ _ _ ?_ ?_
 refine @Sv _ _ _ _ ?_
 refine @Bm _ _ _ _ _ _ _ _ _ _ Ce CH rfl M.z_isinstance Bj ?_ (by decide) (by decide) (by rfl) (by rfl)
 refine @Aa _ _ _ _ _ ?_ ?_ rfl
 exact (Ab 0)
 refine @Aa _ _ _ _ _ ?_ Ag rfl
 exact (DS rfl M.z_bool QD)
 refine @NT _ _ _ _ _ ?_
 refine @FO _ _ _ _ _ _ _ _ _ (Bn hr.units) (AV (g:=id)) ?_ ?_ (AF _)
 exact (Ab 0)
 exact (Ab 1)
theorem sc_f_law_many:FnScope (ns .AZ) (ps .AZ) (As (st .AZ)):=⟨rfl,rfl,rfl,by decide +kernel,rfl,by decide +kernel,by decide +kernel⟩
theorem Ke (M:Md K mg A fd) (ih:∀x,okK (kd x) P w K mg base (n + 2) (A x) (fd x) (ps x) (run n x)):okK .pl P w K mg base (n + 2 + 1) (A .AZ) (fd .AZ) (ps .AZ) (run (n + 1) .AZ):=by
 refine BZ (g:=fnOf 1 2 (Es)) rfl (BY rfl rfl (M.fn .AZ) sc_f_law_many (fun cdv A' outer s H E hr=>?_))
 refine @Ai _ _ _ _ _ _ ?_ ?_
 exact (AL (i:=1) sc_f_law_many.nd rfl (.inl rfl) Ae)
 refine @Ai _ _ _ _ _ _ ?_ ?_
 refine O1 PassesOwn.never ?_ ?_
 refine @AG _ _ _ _ _ _ _ _ _ Ex DH ?_ Ae (AF _)
 exact (Ab 0)
 refine @Ai _ _ _ _ _ _ ?_ ?_
 refine @AL _ _ _ _ 0 _ _ _ sc_f_law_many.nd rfl (.inl rfl) ?_ (by rfl) (by first | exact .inl rfl | exact .inr rfl | assumption)
 refine @An _ _ _ _ _ _ _ _ _ Dj CM ?_ Ae
 exact (Ab 0)
 refine @Am _ _ _ _ ?_
 refine @AL _ _ _ _ 1 _ _ _ sc_f_law_many.nd rfl (.inl rfl) ?_ (by rfl) (by first | exact .inl rfl | exact .inr rfl | assumption)
 refine @An _ _ _ _ _ _ _ _ _ Az Aw ?_ Ae
 exact (Ab 1)
 refine @Am _ _ _ _ ?_
 refine @AW _ _ _ _ ?_
 exact (Ab 1)
theorem sc_f_law_bytes:FnScope (ns .AA) (ps .AA) (As (st .AA)):=⟨rfl,rfl,rfl,by decide +kernel,rfl,by decide +kernel,by decide +kernel⟩
theorem Jl (M:Md K mg A fd) (ih:∀x,okK (kd x) P w K mg base (n + 2) (A x) (fd x) (ps x) (run n x)):okK .pl P w K mg base (n + 2 + 1) (A .AA) (fd .AA) (ps .AA) (run (n + 1) .AA):=by
 refine BZ (g:=fnOf 2 6 (DU (run n .AA) (run n .AZ))) rfl (BY rfl rfl (M.fn .AA) sc_f_law_bytes (fun cdv A' outer s H E hr=>?_))
 refine @Ai _ _ _ _ _ _ ?_ ?_
 refine @AS _ _ _ _ _ _ _ _ _ ?_ ?_ AE
 refine @AG _ _ _ _ _ _ _ _ _ (Bn hr.units) (AV (g:=id)) ?_ AI (AF _)
 refine @Ao _ _ _ _ _ _ _ _ Ak Al ?_ Ae (fun _ _=>rfl)
 exact (Ab 0)
 refine @Am _ _ _ _ ?_
 refine @AW _ _ _ _ ?_
 refine @A4 _ _ _ ?_
 exact (AU Ag)
 refine @Ai _ _ _ _ _ _ ?_ ?_
 refine @AS _ _ _ _ _ _ _ _ _ ?_ ?_ AE
 refine @AG _ _ _ _ _ _ _ _ _ (Bn hr.units) (AV (g:=id)) ?_ AI (AF _)
 refine @Ao _ _ _ _ _ _ _ _ Ak Al ?_ Ae (fun _ _=>rfl)
 exact (Ab 0)
 refine @Ai _ _ _ _ _ _ ?_ ?_
 refine @AL _ _ _ _ 2 _ _ _ sc_f_law_bytes.nd rfl (.inl rfl) ?_ (by rfl) (by first | exact .inl rfl | exact .inr rfl | assumption)
 refine @An _ _ _ _ _ _ _ _ _ BC Bt ?_ ?_
 exact (Ab 1)
 refine @Ao _ _ _ _ _ _ _ _ Ak Al ?_ Ae (fun _ _=>rfl)
 exact (Ab 0)
 refine @Ai _ _ _ _ _ _ ?_ ?_
 refine @Ej _ _ _ _ 3 _ _ _ sc_f_law_bytes.nd rfl (.inl rfl) ?_ (by rfl) (by first | exact .inl rfl | exact .inr rfl | assumption)
 exact (AU Ag)
 refine @Ai _ _ _ _ _ _ ?_ ?_
 refine @Df _ _ _ _ _ _ _ _ _ PassesOwn.never rfl ?_ ?_ ?_ (by intro _;rfl)
 refine BM rfl M.z_range ?_
 refine @Aa _ _ _ _ _ ?_ Ag rfl
 refine @Aq _ _ _ _ _ _ _ _ _ _ _ _ (ih .AZ) hr rfl (M.mgs .AZ) (Fun.kp (M.fn .AZ)) (M.bd .AZ) ?_ (by decide) (by rfl) (by rfl)
 refine @Aa _ _ _ _ _ ?_ Ag rfl
 refine @An _ _ _ _ _ _ _ _ _ BC Bt ?_ ?_
 refine @Ao _ _ _ _ _ _ _ _ Ak Al ?_ Ae (fun _ _=>rfl)
 exact (Ab 0)
 refine @Ao _ _ _ _ _ _ _ _ Ak Al ?_ Ae (fun _ _=>rfl)
 exact (Ab 0)
 exact (BB sc_f_law_bytes.nd rfl (.inl rfl))
 refine @Ai _ _ _ _ _ _ ?_ ?_
 refine MY 3 ?_
 refine @Aa _ _ _ _ _ Ae ?_ rfl
 refine @Aa _ _ _ _ _ ?_ Ag rfl
 refine @An _ _ _ _ _ _ _ _ _ C2 Cn ?_ Ae
 exact (Ab 2)
 refine @Am _ _ _ _ ?_
 refine @AL _ _ _ _ 2 _ _ _ sc_f_law_bytes.nd rfl (.inl rfl) ?_ (by rfl) (by first | exact .inl rfl | exact .inr rfl | assumption)
 refine @An _ _ _ _ _ _ _ _ _ Dj CM ?_ Ae
 exact (Ab 2)
 refine @Am _ _ _ _ ?_
 refine @AW _ _ _ _ ?_
 exact (Ab 3)
 refine @Ai _ _ _ _ _ _ ?_ ?_
 refine @AS _ _ _ _ _ _ _ _ _ ?_ ?_ AE
 refine @AG _ _ _ _ _ _ _ _ _ (Bn hr.units) (AV (g:=id)) ?_ AI (AF _)
 refine @Ao _ _ _ _ _ _ _ _ Ak Al ?_ Ae (fun _ _=>rfl)
 exact (Ab 0)
 refine @Am _ _ _ _ ?_
 refine @AW _ _ _ _ ?_
 refine @An _ _ _ _ _ _ _ _ _ Az Aw ?_ ?_
 refine @A4 _ _ _ ?_
 refine @AU _ _ _ _ ?_
 refine @Aa _ _ _ _ _ ?_ Ag rfl
 refine @Bm _ _ _ _ _ _ _ _ _ _ Bz BJ rfl M.z_len BP ?_ (by decide) (by decide) (by rfl) (by rfl)
 refine @Aa _ _ _ _ _ ?_ Ag rfl
 exact (Ab 1)
 refine @A4 _ _ _ ?_
 refine E4 (Du ["sign"] [] rfl rfl rfl rfl rfl) rfl ?_ ?_ ?_ ?_
 refine @EU _ _ _ _ ?_
 exact (Ab 1)
 intro _ _ _ _ _
 exact (BB (by show List.Nodup [("sign" : Str)] ;decide +kernel) rfl (.inl rfl))
 intro _ _ _ _ _
 exact CS
 intro _ _ _ _ _
 refine @Bm _ _ _ _ _ _ _ _ _ _ OS Rx rfl M.z_ord Se ?_ (by decide) (by decide) (by rfl) (by rfl)
 refine @Aa _ _ _ _ _ ?_ Ag rfl
 exact (Ab 0)
 refine @Ai _ _ _ _ _ _ ?_ ?_
 refine @AS _ _ _ _ _ _ _ _ _ ?_ ?_ AE
 refine @AG _ _ _ _ _ _ _ _ _ (Bn hr.units) (AV (g:=id)) ?_ AI (AF _)
 refine @Ao _ _ _ _ _ _ _ _ Ak Al ?_ Ae (fun _ _=>rfl)
 exact (Ab 0)
 refine @Am _ _ _ _ ?_
 refine @AW _ _ _ _ ?_
 refine @An _ _ _ _ _ _ _ _ _ Az Aw ?_ ?_
 refine @Aq _ _ _ _ _ _ _ _ _ _ _ _ (ih .AA) hr rfl (M.mgs .AA) (Fun.kp (M.fn .AA)) (M.bd .AA) ?_ (by decide) (by rfl) (by rfl)
 refine @Aa _ _ _ _ _ ?_ ?_ rfl
 refine @Ao _ _ _ _ _ _ _ _ Ak Al ?_ Ae (fun _ _=>rfl)
 exact (Ab 0)
 refine @Aa _ _ _ _ _ ?_ Ag rfl
 refine @Ao _ _ _ _ _ _ _ _ Ak Al ?_ Ae (fun _ _=>rfl)
 exact (Ab 1)
 refine @Aq _ _ _ _ _ _ _ _ _ _ _ _ (ih .AA) hr rfl (M.mgs .AA) (Fun.kp (M.fn .AA)) (M.bd .AA) ?_ (by decide) (by rfl) (by rfl)
 refine @Aa _ _ _ _ _ ?_ ?_ rfl
 refine @Ao _ _ _ _ _ _ _ _ Ak Al ?_ Ae (fun _ _=>rfl)
 exact (Ab 0)
 refine @Aa _ _ _ _ _ ?_ Ag rfl
 refine @Ao _ _ _ _ _ _ _ _ Ak Al ?_ Ae (fun _ _=>rfl)
 exact (Ab 1)
 refine @Ai _ _ _ _ _ _ ?_ ?_
 refine @AS _ _ _ _ _ _ _ _ _ ?_ ?_ AE
 refine @AG _ _ _ _ _ _ _ _ _ (Bn hr.units) (AV (g:=id)) ?_ AI (AF _)
 refine @Ao _ _ _ _ _ _ _ _ Ak Al ?_ Ae (fun _ _=>rfl)
 exact (Ab 0)
 refine @Am _ _ _ _ ?_
 refine @AW _ _ _ _ ?_
 refine @An _ _ _ _ _ _ _ _ _ Az Aw ?_ ?_
 refine @A4 _ _ _ ?_
 refine @AU _ _ _ _ ?_
 refine @Aa _ _ _ _ _ ?_ Ag rfl
 refine @Ao _ _ _ _ _ _ _ _ Ak Al ?_ Ae (fun _ _=>rfl)
 exact (Ab 1)
 refine @Aq _ _ _ _ _ _ _ _ _ _ _ _ (ih .AA) hr rfl (M.mgs .AA) (Fun.kp (M.fn .AA)) (M.bd .AA) ?_ (by decide) (by rfl) (by rfl)
 refine @Aa _ _ _ _ _ ?_ ?_ rfl
 refine @Ao _ _ _ _ _ _ _ _ Ak Al ?_ ?_ (fun _ _=>rfl)
 refine @Ao _ _ _ _ _ _ _ _ Ak Al ?_ Ae (fun _ _=>rfl)
 exact (Ab 0)
 refine @Ao _ _ _ _ _ _ _ _ Ak Al ?_ Ae (fun _ _=>rfl)
 exact (Ab 1)
 refine @Aa _ _ _ _ _ ?_ Ag rfl
 refine @Ao _ _ _ _ _ _ _ _ Ak Al ?_ Ae (fun _ _=>rfl)
 exact (Ab 1)
 refine @Ai _ _ _ _ _ _ ?_ ?_
 refine @Ej _ _ _ _ 3 _ _ _ sc_f_law_bytes.nd rfl (.inl rfl) ?_ (by rfl) (by first | exact .inl rfl | exact .inr rfl | assumption)
 refine @AU _ _ _ _ ?_
 refine @Aa _ _ _ _ _ ?_ Ag rfl
 refine @Bm _ _ _ _ _ _ _ _ _ _ Bz BJ rfl M.z_len BP ?_ (by decide) (by decide) (by rfl) (by rfl)
 refine @Aa _ _ _ _ _ ?_ Ag rfl
 exact (Ab 1)
 refine @Ai _ _ _ _ _ _ ?_ ?_
 refine @Df _ _ _ _ _ _ _ _ _ PassesOwn.never rfl ?_ ?_ ?_ (by intro _;rfl)
 refine @EU _ _ _ _ ?_
 exact (Ab 1)
 exact (BB sc_f_law_bytes.nd rfl (.inl rfl))
 refine @Am _ _ _ _ ?_
 refine @Ej _ _ _ _ 3 _ _ _ sc_f_law_bytes.nd rfl (.inl rfl) ?_ (by rfl) (by first | exact .inl rfl | exact .inr rfl | assumption)
 refine @Ue _ _ _ _ _ _ _ _ _ op_cat Px ?_ ?_
 exact (Ab 3)
 refine @Aq _ _ _ _ _ _ _ _ _ _ _ _ (ih .AA) hr rfl (M.mgs .AA) (Fun.kp (M.fn .AA)) (M.bd .AA) ?_ (by decide) (by rfl) (by rfl)
 refine @Aa _ _ _ _ _ ?_ ?_ rfl
 refine @Ao _ _ _ _ _ _ _ _ Ak Al ?_ Ae (fun _ _=>rfl)
 exact (Ab 0)
 refine @Aa _ _ _ _ _ ?_ Ag rfl
 exact (Ab 5)
 refine @Am _ _ _ _ ?_
 refine @AW _ _ _ _ ?_
 exact (Ab 3)
theorem sc_f_law_number_in:FnScope (ns .AN) (ps .AN) (As (st .AN)):=⟨rfl,rfl,rfl,by decide +kernel,rfl,by decide +kernel,by decide +kernel⟩
theorem GN (M:Md K mg A fd) (ih:∀x,okK (kd x) P w K mg base (n + 2) (A x) (fd x) (ps x) (run n x)):okK .fr P w K mg base (n + 2 + 1) (A .AN) (fd .AN) (ps .AN) (run (n + 1) .AN):=by
 refine Hc (g:=fnOf 3 8 (CN (run n .AZ))) rfl (G5 rfl rfl (M.fn .AN) sc_f_law_number_in (fun cdv A' outer s H E hr=>?_))
 refine @Ai _ _ _ _ _ _ ?_ ?_
 exact (AL (i:=3) sc_f_law_number_in.nd rfl (.inl rfl) Ae)
 refine @Ai _ _ _ _ _ _ ?_ ?_
 refine @AL _ _ _ _ 4 _ _ _ sc_f_law_number_in.nd rfl (.inl rfl) ?_ (by rfl) (by first | exact .inl rfl | exact .inr rfl | assumption)
 refine @Aq _ _ _ _ _ _ _ _ _ _ _ _ (ih .AZ) hr rfl (M.mgs .AZ) (Fun.kp (M.fn .AZ)) (M.bd .AZ) ?_ (by decide) (by rfl) (by rfl)
 refine @Aa _ _ _ _ _ ?_ Ag rfl
 exact (Ab 0)
 refine @Ai _ _ _ _ _ _ ?_ ?_
 refine @Df _ _ _ _ _ _ _ _ _ PassesOwn.never rfl ?_ ?_ ?_ (by intro _;rfl)
 refine BM rfl M.z_range ?_
 refine @Aa _ _ _ _ _ ?_ Ag rfl
 exact (Ab 4)
 exact (BB sc_f_law_number_in.nd rfl (.inl rfl))
 refine @Ai _ _ _ _ _ _ ?_ ?_
 refine @AS _ _ _ _ _ _ _ _ _ ?_ ?_ AE
 refine @AG _ _ _ _ _ _ _ _ _ FU E9 ?_ ?_ (AF _)
 refine @An _ _ _ _ _ _ _ _ _ Az Aw ?_ ?_
 exact (Ab 2)
 exact (Ab 5)
 refine @Bm _ _ _ _ _ _ _ _ _ _ Bz BJ rfl M.z_len BP ?_ (by decide) (by decide) (by rfl) (by rfl)
 refine @Aa _ _ _ _ _ ?_ Ag rfl
 exact (Ab 1)
 refine @Am _ _ _ _ ?_
 refine B6 ?_
 refine @AU _ _ _ _ ?_
 exact (@Aa _ _ _ _ _ AI Ag rfl)
 refine @Ai _ _ _ _ _ _ ?_ ?_
 refine @AL _ _ _ _ 3 _ _ _ sc_f_law_number_in.nd rfl (.inl rfl) ?_ (by rfl) (by first | exact .inl rfl | exact .inr rfl | assumption)
 refine @An _ _ _ _ _ _ _ _ _ Az Aw ?_ ?_
 refine @An _ _ _ _ _ _ _ _ _ Cm B7 ?_ Ae
 exact (Ab 3)
 refine @Ao _ _ _ _ _ _ _ _ Ak Al ?_ ?_ (fun _ _=>rfl)
 exact (Ab 1)
 refine @An _ _ _ _ _ _ _ _ _ Az Aw ?_ ?_
 exact (Ab 2)
 exact (Ab 5)
 refine @Ai _ _ _ _ _ _ ?_ ?_
 refine @AL _ _ _ _ 6 _ _ _ sc_f_law_number_in.nd rfl (.inl rfl) ?_ (by rfl) (by first | exact .inl rfl | exact .inr rfl | assumption)
 exact (Ab 0)
 refine @Ai _ _ _ _ _ _ ?_ ?_
 refine @Df _ _ _ _ _ _ _ _ _ PassesOwn.never rfl ?_ ?_ ?_ (by intro _;rfl)
 refine BM rfl M.z_range ?_
 refine @Aa _ _ _ _ _ ?_ Ag rfl
 refine @An _ _ _ _ _ _ _ _ _ BC Bt ?_ ?_
 refine @An _ _ _ _ _ _ _ _ _ BC Bt ?_ Ae
 exact (Ab 4)
 exact (Ab 5)
 exact (BB sc_f_law_number_in.nd rfl (.inl rfl))
 refine @Am _ _ _ _ ?_
 refine @AL _ _ _ _ 6 _ _ _ sc_f_law_number_in.nd rfl (.inl rfl) ?_ (by rfl) (by first | exact .inl rfl | exact .inr rfl | assumption)
 refine @An _ _ _ _ _ _ _ _ _ Dj CM ?_ Ae
 exact (Ab 6)
 refine @Am _ _ _ _ ?_
 refine @AS _ _ _ _ _ _ _ _ _ ?_ ?_ AE
 refine @AG _ _ _ _ _ _ _ _ _ Ex DH ?_ ?_ (AF _)
 exact (Ab 3)
 exact (Ab 6)
 refine @Am _ _ _ _ ?_
 refine B6 ?_
 refine @AU _ _ _ _ ?_
 refine @Aa _ _ _ _ _ AI ?_ rfl
 refine @Aa _ _ _ _ _ ?_ Ag rfl
 refine @An _ _ _ _ _ _ _ _ _ Az Aw ?_ ?_
 exact (Ab 2)
 exact (Ab 5)
 refine @Am _ _ _ _ ?_
 refine B6 ?_
 refine @AU _ _ _ _ ?_
 refine @Aa _ _ _ _ _ AI ?_ rfl
 refine @Aa _ _ _ _ _ ?_ ?_ rfl
 exact (Ab 3)
 refine @Aa _ _ _ _ _ ?_ Ag rfl
 refine @An _ _ _ _ _ _ _ _ _ Az Aw ?_ ?_
 exact (Ab 2)
 exact (Ab 4)
theorem sc_f_law_text_in:FnScope (ns .A5) (ps .A5) (As (st .A5)):=⟨rfl,rfl,rfl,by decide +kernel,rfl,by decide +kernel,by decide +kernel⟩
theorem HK (M:Md K mg A fd) (ih:∀x,okK (kd x) P w K mg base (n + 2) (A x) (fd x) (ps x) (run n x)):okK .fr P w K mg base (n + 2 + 1) (A .A5) (fd .A5) (ps .A5) (run (n + 1) .A5):=by
 refine Hc (g:=fnOf 3 6 (Ds)) rfl (G5 rfl rfl (M.fn .A5) sc_f_law_text_in (fun cdv A' outer s H E hr=>?_))
 refine @Ai _ _ _ _ _ _ ?_ ?_
 refine @AS _ _ _ _ _ _ _ _ _ ?_ ?_ AE
 refine @AG _ _ _ _ _ _ _ _ _ FU E9 ?_ ?_ (AF _)
 exact (Ab 2)
 refine @Bm _ _ _ _ _ _ _ _ _ _ Bz BJ rfl M.z_len BP ?_ (by decide) (by decide) (by rfl) (by rfl)
 refine @Aa _ _ _ _ _ ?_ Ag rfl
 exact (Ab 1)
 refine @Am _ _ _ _ ?_
 refine B6 ?_
 refine @AU _ _ _ _ ?_
 exact (@Aa _ _ _ _ _ AI Ag rfl)
 refine @Ai _ _ _ _ _ _ ?_ ?_
 refine @AS _ _ _ _ _ _ _ _ _ ?_ ?_ AE
 refine @AG _ _ _ _ _ _ _ _ _ Ex DH ?_ ?_ (AF _)
 refine @Ao _ _ _ _ _ _ _ _ Ak Al ?_ ?_ (fun _ _=>rfl)
 exact (Ab 1)
 exact (Ab 2)
 exact (Ab 0)
 refine @Am _ _ _ _ ?_
 refine B6 ?_
 refine @AU _ _ _ _ ?_
 refine @Aa _ _ _ _ _ AI ?_ rfl
 refine @Aa _ _ _ _ _ ?_ Ag rfl
 exact (Ab 2)
 refine @Ai _ _ _ _ _ _ ?_ ?_
 refine @Df _ _ _ _ _ _ _ _ _ PassesOwn.never rfl ?_ ?_ ?_ (by intro _;rfl)
 refine MX rfl M.z_range ?_
 refine @Aa _ _ _ _ _ ?_ ?_ rfl
 refine @An _ _ _ _ _ _ _ _ _ Az Aw ?_ Ae
 exact (Ab 2)
 refine @Aa _ _ _ _ _ ?_ Ag rfl
 refine @An _ _ _ _ _ _ _ _ _ Az Aw ?_ ?_
 refine @An _ _ _ _ _ _ _ _ _ Az Aw ?_ Ae
 exact (Ab 2)
 refine @Ao _ _ _ _ _ _ _ _ Ak Al ?_ ?_ (fun _ _=>rfl)
 exact (Ab 1)
 exact (Ab 2)
 exact (BB sc_f_law_text_in.nd rfl (.inl rfl))
 refine @Ai _ _ _ _ _ _ ?_ ?_
 refine @AS _ _ _ _ _ _ _ _ _ ?_ ?_ AE
 refine @AG _ _ _ _ _ _ _ _ _ FU E9 ?_ ?_ (AF _)
 exact (Ab 3)
 refine @Bm _ _ _ _ _ _ _ _ _ _ Bz BJ rfl M.z_len BP ?_ (by decide) (by decide) (by rfl) (by rfl)
 refine @Aa _ _ _ _ _ ?_ Ag rfl
 exact (Ab 1)
 refine @Am _ _ _ _ ?_
 refine B6 ?_
 refine @AU _ _ _ _ ?_
 exact (@Aa _ _ _ _ _ AI Ag rfl)
 refine @Am _ _ _ _ ?_
 refine @AS _ _ _ _ _ _ _ _ _ ?_ ?_ AE
 refine @Ek _ _ _ ?_
 refine @DT _ _ _ _ _ _ _ ?_ ?_
 refine @AG _ _ _ _ _ _ _ _ _ EV Ea ?_ Ae (AF _)
 refine @Ao _ _ _ _ _ _ _ _ Ak Al ?_ ?_ (fun _ _=>rfl)
 exact (Ab 1)
 exact (Ab 3)
 refine @DT _ _ _ _ _ _ _ ?_ ?_
 refine @AG _ _ _ _ _ _ _ _ _ Ex DH ?_ Ae (AF _)
 refine @Ao _ _ _ _ _ _ _ _ Ak Al ?_ ?_ (fun _ _=>rfl)
 exact (Ab 1)
 exact (Ab 3)
 refine @DO _ _ _ _ ?_
 refine @AG _ _ _ _ _ _ _ _ _ (Bn hr.units) (AV (g:=id)) ?_ Ae (AF _)
 refine @Ao _ _ _ _ _ _ _ _ Ak Al ?_ ?_ (fun _ _=>rfl)
 exact (Ab 1)
 exact (Ab 3)
 refine @Am _ _ _ _ ?_
 refine B6 ?_
 refine @AU _ _ _ _ ?_
 refine @Aa _ _ _ _ _ AI ?_ rfl
 refine @Aa _ _ _ _ _ ?_ Ag rfl
 exact (Ab 3)
 refine @Ai _ _ _ _ _ _ ?_ ?_
 exact (AL (i:=4) sc_f_law_text_in.nd rfl (.inr rfl) AI)
 refine @Ai _ _ _ _ _ _ ?_ ?_
 refine G6 (i:=5) (Du ["byte"] [(4 , "signs")] rfl rfl rfl rfl rfl) rfl sc_f_law_text_in.nd rfl rfl ?_ ?_ ?_ ?_
 refine @EU _ _ _ _ ?_
 refine @B4 _ _ _ _ _ _ _ _ _ _ _ sl3 Cp ?_ ?_ ?_
 exact (Ab 1)
 refine B5 ?_
 refine @An _ _ _ _ _ _ _ _ _ Az Aw ?_ Ae
 exact (Ab 2)
 refine B5 ?_
 refine @An _ _ _ _ _ _ _ _ _ Az Aw ?_ ?_
 refine @An _ _ _ _ _ _ _ _ _ Az Aw ?_ Ae
 exact (Ab 2)
 refine @Ao _ _ _ _ _ _ _ _ Ak Al ?_ ?_ (fun _ _=>rfl)
 exact (Ab 1)
 exact (Ab 2)
 intro _ _ _ _ _
 exact (BB (by show List.Nodup [("byte" : Str) ,("signs" : Str)] ;decide +kernel) rfl (.inl rfl))
 intro _ _ _ _ _
 exact CS
 intro _ _ _ _ _
 refine @Ao _ _ _ _ _ _ _ _ Ak Al ?_ ?_ (fun _ _=>rfl)
 exact (Ab 1)
 refine @An _ _ _ _ _ _ _ _ _ BC Bt ?_ ?_
 refine @An _ _ _ _ _ _ _ _ _ BC Bt ?_ Ae
 exact (Ab 0)
 refine @Ir _ _ _ _ _ _ _ _ _ _ GA Jx rfl M.z_int Id ?_ (by decide) (by decide) (by rfl) (by rfl)
 refine @Aa _ _ _ _ _ ?_ Ag rfl
 refine @FO _ _ _ _ _ _ _ _ _ Ex DH ?_ Ae (AF _)
 exact (Ab 0)
 refine @Am _ _ _ _ ?_
 refine B6 ?_
 refine @AU _ _ _ _ ?_
 refine @Aa _ _ _ _ _ AI ?_ rfl
 refine @Aa _ _ _ _ _ ?_ ?_ rfl
 refine Mm AI ?_
 refine @Aa _ _ _ _ _ ?_ Ag rfl
 exact (Ab 5)
 refine @Aa _ _ _ _ _ ?_ Ag rfl
 refine @An _ _ _ _ _ _ _ _ _ Az Aw ?_ ?_
 refine @An _ _ _ _ _ _ _ _ _ Az Aw ?_ Ae
 exact (Ab 2)
 refine @Ao _ _ _ _ _ _ _ _ Ak Al ?_ ?_ (fun _ _=>rfl)
 exact (Ab 1)
 exact (Ab 2)
theorem sc_f_law_row_in:FnScope (ns .AT) (ps .AT) (As (st .AT)):=⟨rfl,rfl,rfl,by decide +kernel,rfl,by decide +kernel,by decide +kernel⟩
theorem IH (M:Md K mg A fd) (ih:∀x,okK (kd x) P w K mg base (n + 2) (A x) (fd x) (ps x) (run n x)):okK .fr P w K mg base (n + 2 + 1) (A .AT) (fd .AT) (ps .AT) (run (n + 1) .AT):=by
 refine Hc (g:=fnOf 3 6 (CU (run n .A8))) rfl (G5 rfl rfl (M.fn .AT) sc_f_law_row_in (fun cdv A' outer s H E hr=>?_))
 refine @Ai _ _ _ _ _ _ ?_ ?_
 refine @Ej _ _ _ _ 3 _ _ _ sc_f_law_row_in.nd rfl (.inl rfl) ?_ (by rfl) (by first | exact .inl rfl | exact .inr rfl | assumption)
 exact (AU Ag)
 refine @Ai _ _ _ _ _ _ ?_ ?_
 refine @Df _ _ _ _ _ _ _ _ _ PassesOwn.never rfl ?_ ?_ ?_ (by intro _;rfl)
 refine @EU _ _ _ _ ?_
 exact (Ab 0)
 exact (BB sc_f_law_row_in.nd rfl (.inl rfl))
 refine @Ai _ _ _ _ _ _ ?_ ?_
 refine @Ej _ _ _ _ 5 _ _ _ sc_f_law_row_in.nd rfl (.inl rfl) ?_ (by rfl) (by first | exact .inl rfl | exact .inr rfl | assumption)
 refine D2 (ih .A8) hr rfl (M.mgs .A8) (Fun.kp (M.fn .A8)) (M.bd .A8) ?_
 refine @Aa _ _ _ _ _ ?_ ?_ rfl
 exact (Ab 4)
 refine @Aa _ _ _ _ _ ?_ ?_ rfl
 exact (Ab 1)
 refine @Aa _ _ _ _ _ ?_ Ag rfl
 exact (Ab 2)
 refine @Ai _ _ _ _ _ _ ?_ ?_
 refine @AS _ _ _ _ _ _ _ _ _ ?_ ?_ AE
 refine @AG _ _ _ _ _ _ _ _ _ (Fm hr.units) (AV (g:=fun b=>!b)) ?_ AI (AF _)
 exact (C8 5 Ae (fun _ _=>rfl))
 refine @Am _ _ _ _ ?_
 exact (Fy 5)
 refine @Ai _ _ _ _ _ _ ?_ ?_
 refine Ix 3 ?_
 refine @Aa _ _ _ _ _ ?_ Ag rfl
 exact (C8 5 Ae (fun _ _=>rfl))
 refine @Am _ _ _ _ ?_
 refine @AL _ _ _ _ 2 _ _ _ sc_f_law_row_in.nd rfl (.inl rfl) ?_ (by rfl) (by first | exact .inl rfl | exact .inr rfl | assumption)
 exact (C8 5 Ae (fun _ _=>rfl))
 refine @Am _ _ _ _ ?_
 refine B6 ?_
 refine @AU _ _ _ _ ?_
 refine @Aa _ _ _ _ _ AI ?_ rfl
 refine @Aa _ _ _ _ _ ?_ ?_ rfl
 exact (Ab 3)
 refine @Aa _ _ _ _ _ ?_ Ag rfl
 exact (Ab 2)
theorem sc_f_law_in:FnScope (ns .A8) (ps .A8) (As (st .A8)):=⟨rfl,rfl,rfl,by decide +kernel,rfl,by decide +kernel,by decide +kernel⟩
theorem LY (M:Md K mg A fd) (ih:∀x,okK (kd x) P w K mg base (n + 2) (A x) (fd x) (ps x) (run n x)):okK .fr P w K mg base (n + 2 + 1) (A .A8) (fd .A8) (ps .A8) (run (n + 1) .A8):=by
 refine Hc (g:=fnOf 3 4 (E1 (run n .A8) (run n .AT) (run n .A5) (run n .AN))) rfl (G5 rfl rfl (M.fn .A8) sc_f_law_in (fun cdv A' outer s H E hr=>?_))
 refine @Ai _ _ _ _ _ _ ?_ ?_
 refine @AS _ _ _ _ _ _ _ _ _ ?_ ?_ AE
 refine @AG _ _ _ _ _ _ _ _ _ (Bn hr.units) (AV (g:=id)) ?_ AI (AF _)
 refine @Ao _ _ _ _ _ _ _ _ Ak Al ?_ Ae (fun _ _=>rfl)
 exact (Ab 0)
 refine @Am _ _ _ _ ?_
 refine B6 ?_
 refine @AU _ _ _ _ ?_
 refine @Aa _ _ _ _ _ AI ?_ rfl
 refine @Aa _ _ _ _ _ Dw ?_ rfl
 refine @Aa _ _ _ _ _ ?_ Ag rfl
 exact (Ab 2)
 refine @Ai _ _ _ _ _ _ ?_ ?_
 refine @AS _ _ _ _ _ _ _ _ _ ?_ ?_ AE
 refine @AG _ _ _ _ _ _ _ _ _ (Bn hr.units) (AV (g:=id)) ?_ AI (AF _)
 refine @Ao _ _ _ _ _ _ _ _ Ak Al ?_ Ae (fun _ _=>rfl)
 exact (Ab 0)
 refine @Ai _ _ _ _ _ _ ?_ ?_
 refine @Ej _ _ _ _ 3 _ _ _ sc_f_law_in.nd rfl (.inl rfl) ?_ (by rfl) (by first | exact .inl rfl | exact .inr rfl | assumption)
 refine D2 (ih .AN) hr rfl (M.mgs .AN) (Fun.kp (M.fn .AN)) (M.bd .AN) ?_
 refine @Aa _ _ _ _ _ ?_ ?_ rfl
 refine @An _ _ _ _ _ _ _ _ _ BC Bt ?_ ?_
 refine @Ao _ _ _ _ _ _ _ _ Ak Al ?_ Ae (fun _ _=>rfl)
 exact (Ab 0)
 refine @Ao _ _ _ _ _ _ _ _ Ak Al ?_ Ae (fun _ _=>rfl)
 exact (Ab 0)
 refine @Aa _ _ _ _ _ ?_ ?_ rfl
 exact (Ab 1)
 refine @Aa _ _ _ _ _ ?_ Ag rfl
 exact (Ab 2)
 refine @Ai _ _ _ _ _ _ ?_ ?_
 refine @AS _ _ _ _ _ _ _ _ _ ?_ ?_ AE
 refine @AG _ _ _ _ _ _ _ _ _ (Bn hr.units) (AV (g:=id)) ?_ AI (AF _)
 exact (C8 3 Ae (fun _ _=>rfl))
 refine @Am _ _ _ _ ?_
 refine DN ?_ ?_
 refine @An _ _ _ _ _ _ _ _ _ Az Aw ?_ ?_
 exact (C8 3 Ae (fun _ _=>rfl))
 refine @Ao _ _ _ _ _ _ _ _ Ak Al ?_ Ae (fun _ _=>rfl)
 exact (Ab 0)
 exact (GG 3 Ae)
 refine @Am _ _ _ _ ?_
 exact (Fy 3)
 refine @Ai _ _ _ _ _ _ ?_ ?_
 refine @AS _ _ _ _ _ _ _ _ _ ?_ ?_ AE
 refine @AG _ _ _ _ _ _ _ _ _ (Bn hr.units) (AV (g:=id)) ?_ AI (AF _)
 refine @Ao _ _ _ _ _ _ _ _ Ak Al ?_ Ae (fun _ _=>rfl)
 exact (Ab 0)
 refine @Am _ _ _ _ ?_
 refine B6 ?_
 refine D2 (ih .A5) hr rfl (M.mgs .A5) (Fun.kp (M.fn .A5)) (M.bd .A5) ?_
 refine @Aa _ _ _ _ _ ?_ ?_ rfl
 refine @Ao _ _ _ _ _ _ _ _ Ak Al ?_ Ae (fun _ _=>rfl)
 exact (Ab 0)
 refine @Aa _ _ _ _ _ ?_ ?_ rfl
 exact (Ab 1)
 refine @Aa _ _ _ _ _ ?_ Ag rfl
 exact (Ab 2)
 refine @Ai _ _ _ _ _ _ ?_ ?_
 refine @AS _ _ _ _ _ _ _ _ _ ?_ ?_ AE
 refine @AG _ _ _ _ _ _ _ _ _ (Bn hr.units) (AV (g:=id)) ?_ AI (AF _)
 refine @Ao _ _ _ _ _ _ _ _ Ak Al ?_ Ae (fun _ _=>rfl)
 exact (Ab 0)
 refine @Ai _ _ _ _ _ _ ?_ ?_
 refine @Ej _ _ _ _ 3 _ _ _ sc_f_law_in.nd rfl (.inl rfl) ?_ (by rfl) (by first | exact .inl rfl | exact .inr rfl | assumption)
 refine D2 (ih .AT) hr rfl (M.mgs .AT) (Fun.kp (M.fn .AT)) (M.bd .AT) ?_
 refine @Aa _ _ _ _ _ ?_ ?_ rfl
 refine @A4 _ _ _ ?_
 refine @AU _ _ _ _ ?_
 refine @Aa _ _ _ _ _ ?_ ?_ rfl
 refine @Ao _ _ _ _ _ _ _ _ Ak Al ?_ Ae (fun _ _=>rfl)
 exact (Ab 0)
 refine @Aa _ _ _ _ _ ?_ Ag rfl
 refine @Ao _ _ _ _ _ _ _ _ Ak Al ?_ Ae (fun _ _=>rfl)
 exact (Ab 0)
 refine @Aa _ _ _ _ _ ?_ ?_ rfl
 exact (Ab 1)
 refine @Aa _ _ _ _ _ ?_ Ag rfl
 exact (Ab 2)
 refine @Ai _ _ _ _ _ _ ?_ ?_
 refine @AS _ _ _ _ _ _ _ _ _ ?_ ?_ AE
 refine @AG _ _ _ _ _ _ _ _ _ (Bn hr.units) (AV (g:=id)) ?_ AI (AF _)
 exact (C8 3 Ae (fun _ _=>rfl))
 refine @Am _ _ _ _ ?_
 refine DN ?_ ?_
 refine @Ir _ _ _ _ _ _ _ _ _ _ Gv MH rfl M.z_tuple D1 ?_ (by decide) (by decide) (by rfl) (by rfl)
 refine @Aa _ _ _ _ _ ?_ Ag rfl
 exact (C8 3 Ae (fun _ _=>rfl))
 exact (GG 3 Ae)
 refine @Am _ _ _ _ ?_
 exact (Fy 3)
 refine @Ai _ _ _ _ _ _ ?_ ?_
 refine @AS _ _ _ _ _ _ _ _ _ ?_ ?_ AE
 refine @AG _ _ _ _ _ _ _ _ _ FU E9 ?_ ?_ (AF _)
 exact (Ab 2)
 refine @Bm _ _ _ _ _ _ _ _ _ _ Bz BJ rfl M.z_len BP ?_ (by decide) (by decide) (by rfl) (by rfl)
 refine @Aa _ _ _ _ _ ?_ Ag rfl
 exact (Ab 1)
 refine @Am _ _ _ _ ?_
 refine B6 ?_
 refine @AU _ _ _ _ ?_
 exact (@Aa _ _ _ _ _ AI Ag rfl)
 refine @Ai _ _ _ _ _ _ ?_ ?_
 refine @AS _ _ _ _ _ _ _ _ _ ?_ ?_ AE
 refine @AG _ _ _ _ _ _ _ _ _ (Bn hr.units) (AV (g:=id)) ?_ AI (AF _)
 refine @Ao _ _ _ _ _ _ _ _ Ak Al ?_ Ae (fun _ _=>rfl)
 exact (Ab 0)
 refine @Ai _ _ _ _ _ _ ?_ ?_
 refine @AS _ _ _ _ _ _ _ _ _ ?_ ?_ AE
 refine @AG _ _ _ _ _ _ _ _ _ Ex DH ?_ ?_ (AF _)
 refine @Ao _ _ _ _ _ _ _ _ Ak Al ?_ ?_ (fun _ _=>rfl)
 exact (Ab 1)
 exact (Ab 2)
 refine @Ao _ _ _ _ _ _ _ _ Ak Al ?_ Ae (fun _ _=>rfl)
 exact (Ab 0)
 refine @Am _ _ _ _ ?_
 refine B6 ?_
 refine @AU _ _ _ _ ?_
 refine @Aa _ _ _ _ _ AI ?_ rfl
 refine @Aa _ _ _ _ _ ?_ Ag rfl
 exact (Ab 2)
 refine @Am _ _ _ _ ?_
 refine B6 ?_
 refine D2 (ih .AT) hr rfl (M.mgs .AT) (Fun.kp (M.fn .AT)) (M.bd .AT) ?_
 refine @Aa _ _ _ _ _ ?_ ?_ rfl
 refine @An _ _ _ _ _ _ _ _ _ Cm B7 ?_ ?_
 refine @A4 _ _ _ ?_
 refine @AU _ _ _ _ ?_
 refine @Aa _ _ _ _ _ ?_ Ag rfl
 refine @Ao _ _ _ _ _ _ _ _ Ak Al ?_ Ae (fun _ _=>rfl)
 exact (Ab 0)
 refine @Ao _ _ _ _ _ _ _ _ Ak Al ?_ ?_ (fun _ _=>rfl)
 exact (Ab 1)
 exact (Ab 2)
 refine @Aa _ _ _ _ _ ?_ ?_ rfl
 exact (Ab 1)
 refine @Aa _ _ _ _ _ ?_ Ag rfl
 refine @An _ _ _ _ _ _ _ _ _ Az Aw ?_ Ae
 exact (Ab 2)
 refine @Ai _ _ _ _ _ _ ?_ ?_
 refine @AS _ _ _ _ _ _ _ _ _ ?_ ?_ AE
 refine @AG _ _ _ _ _ _ _ _ _ FU E9 ?_ ?_ (AF _)
 refine @Ao _ _ _ _ _ _ _ _ Ak Al ?_ ?_ (fun _ _=>rfl)
 exact (Ab 1)
 exact (Ab 2)
 refine @Bm _ _ _ _ _ _ _ _ _ _ Bz BJ rfl M.z_len BP ?_ (by decide) (by decide) (by rfl) (by rfl)
 refine @Aa _ _ _ _ _ ?_ Ag rfl
 refine @Ao _ _ _ _ _ _ _ _ Ak Al ?_ Ae (fun _ _=>rfl)
 exact (Ab 0)
 refine @Am _ _ _ _ ?_
 refine B6 ?_
 refine @AU _ _ _ _ ?_
 refine @Aa _ _ _ _ _ AI ?_ rfl
 refine @Aa _ _ _ _ _ ?_ Ag rfl
 exact (Ab 2)
 refine @Ai _ _ _ _ _ _ ?_ ?_
 refine @Ej _ _ _ _ 3 _ _ _ sc_f_law_in.nd rfl (.inl rfl) ?_ (by rfl) (by first | exact .inl rfl | exact .inr rfl | assumption)
 refine D2 (ih .A8) hr rfl (M.mgs .A8) (Fun.kp (M.fn .A8)) (M.bd .A8) ?_
 refine @Aa _ _ _ _ _ ?_ ?_ rfl
 refine @Ao _ _ _ _ _ _ _ _ Ak Al ?_ ?_ (fun _ _=>rfl)
 refine @Ao _ _ _ _ _ _ _ _ Ak Al ?_ Ae (fun _ _=>rfl)
 exact (Ab 0)
 refine @Ao _ _ _ _ _ _ _ _ Ak Al ?_ ?_ (fun _ _=>rfl)
 exact (Ab 1)
 exact (Ab 2)
 refine @Aa _ _ _ _ _ ?_ ?_ rfl
 exact (Ab 1)
 refine @Aa _ _ _ _ _ ?_ Ag rfl
 refine @An _ _ _ _ _ _ _ _ _ Az Aw ?_ Ae
 exact (Ab 2)
 refine @Ai _ _ _ _ _ _ ?_ ?_
 refine @AS _ _ _ _ _ _ _ _ _ ?_ ?_ AE
 refine @AG _ _ _ _ _ _ _ _ _ (Bn hr.units) (AV (g:=id)) ?_ AI (AF _)
 exact (C8 3 Ae (fun _ _=>rfl))
 refine @Am _ _ _ _ ?_
 refine DN ?_ ?_
 refine @Ca _ _ _ _ _ ?_
 refine @Aa _ _ _ _ _ AI ?_ rfl
 refine @Aa _ _ _ _ _ ?_ ?_ rfl
 refine @Ao _ _ _ _ _ _ _ _ Ak Al ?_ ?_ (fun _ _=>rfl)
 exact (Ab 1)
 exact (Ab 2)
 refine @Aa _ _ _ _ _ ?_ Ag rfl
 exact (C8 3 Ae (fun _ _=>rfl))
 exact (GG 3 Ae)
 refine @Am _ _ _ _ ?_
 exact (Fy 3)
theorem sc_f_law_read:FnScope (ns .Ba) (ps .Ba) (As (st .Ba)):=⟨rfl,rfl,rfl,by decide +kernel,rfl,by decide +kernel,by decide +kernel⟩
theorem Kf (M:Md K mg A fd) (ih:∀x,okK (kd x) P w K mg base (n + 2) (A x) (fd x) (ps x) (run n x)):okK .pl P w K mg base (n + 2 + 1) (A .Ba) (fd .Ba) (ps .Ba) (run (n + 1) .Ba):=by
 obtain ⟨P',ca,x,xt,x0⟩:=M.xm
 refine BZ (g:=fnOf 3 6 (Et (run n .Ay))) rfl (BY rfl rfl (M.fn .Ba) sc_f_law_read (fun cdv A' outer s H E hr=>?_))
 refine @Ai _ _ _ _ _ _ ?_ ?_
 exact (AL (i:=3) sc_f_law_read.nd rfl (.inl rfl) Dw)
 refine @Ai _ _ _ _ _ _ ?_ ?_
 exact (AL (i:=4) sc_f_law_read.nd rfl (.inl rfl) Dw)
 refine @Ai _ _ _ _ _ _ ?_ ?_
 refine Sx x SM rfl rfl ?_ ?_
 intro pn E hp
 refine O2 ?_
 refine CD (i:=4) sc_f_law_read.nd rfl (.inl rfl) ?_
 refine BS (ih .Ay) hr rfl (M.mgs .Ay) (Fun.kp (M.fn .Ay)) (M.bd .Ay) hp ?_
 refine @Aa _ _ _ _ _ ?_ ?_ rfl
 exact (Ab 0)
 refine @Aa _ _ _ _ _ ?_ ?_ rfl
 exact (Ab 1)
 refine @Aa _ _ _ _ _ ?_ Ag rfl
 exact (Ab 2)
 refine Ug (i:=5) x rfl x.pm x.pc (fun _ hn=>x.subP hn) sc_f_law_read.nd rfl rfl ?_ Sw
 intro y
 refine @Am _ _ _ _ ?_
 refine @AL _ _ _ _ 3 _ _ _ sc_f_law_read.nd rfl (.inl rfl) ?_ (by rfl) (by first | exact .inl rfl | exact .inr rfl | assumption)
 exact (Ab 5)
 refine @Ai _ _ _ _ _ _ ?_ ?_
 refine @AS _ _ _ _ _ _ _ _ _ ?_ ?_ AE
 refine @AG _ _ _ _ _ _ _ _ _ Og Ov ?_ Dw (AF _)
 exact (Ab 3)
 refine @Ai _ _ _ _ _ _ ?_ ?_
 refine @AS _ _ _ _ _ _ _ _ _ ?_ ?_ AE
 refine @Ek _ _ _ ?_
 refine @DT _ _ _ _ _ _ _ ?_ ?_
 refine @GJ _ _ _ _ ?_
 refine @Dg _ _ _ ?_ (by intro _;rfl)
 refine @Bm _ _ _ _ _ _ _ _ _ _ Ce CH rfl M.z_isinstance Bj ?_ (by decide) (by decide) (by rfl) (by rfl)
 refine @Aa _ _ _ _ _ ?_ ?_ rfl
 exact (Ab 4)
 refine @Aa _ _ _ _ _ ?_ Ag rfl
 exact (DS rfl M.z_tuple D1)
 refine @DO _ _ _ _ ?_
 refine @AG _ _ _ _ _ _ _ _ _ (Fm hr.units) (AV (g:=fun b=>!b)) ?_ Ae (AF _)
 refine @Bm _ _ _ _ _ _ _ _ _ _ Bz BJ rfl M.z_len BP ?_ (by decide) (by decide) (by rfl) (by rfl)
 refine @Aa _ _ _ _ _ ?_ Ag rfl
 exact (Ab 4)
 refine @Am _ _ _ _ ?_
 refine @AW _ _ _ _ ?_
 refine @A4 _ _ _ ?_
 refine @AU _ _ _ _ ?_
 exact (@Aa _ _ _ _ _ AI Ag rfl)
 refine @Am _ _ _ _ ?_
 refine @AW _ _ _ _ ?_
 refine @An _ _ _ _ _ _ _ _ _ Az Aw ?_ ?_
 refine @A4 _ _ _ ?_
 refine @AU _ _ _ _ ?_
 exact (@Aa _ _ _ _ _ AI Ag rfl)
 refine @A4 _ _ _ ?_
 refine @MW _ _ _ _ _ _ _ _ _ _ Ff Jy rfl M.z_list ED ?_ (by decide) (by decide) (by rfl) (by rfl)
 refine @Aa _ _ _ _ _ ?_ Ag rfl
 exact (Ab 4)
 refine @Ai _ _ _ _ _ _ ?_ ?_
 refine @AS _ _ _ _ _ _ _ _ _ ?_ ?_ AE
 refine @Ek _ _ _ ?_
 refine @DT _ _ _ _ _ _ _ ?_ ?_
 refine @GJ _ _ _ _ ?_
 refine @Dg _ _ _ ?_ (by intro _;rfl)
 refine QO x rfl M.z_isinstance Bj rfl M.z_ValueError J8 ?_
 exact (Ab 3)
 refine @DO _ _ _ _ ?_
 refine @Dg _ _ _ ?_ (by intro _;rfl)
 refine QN x rfl M.z_isinstance Bj (Fk (n:="NoName") x (by decide) rfl (Fk (n:="NoRow") x (by decide) rfl (Fk (n:="NoTalk") x (by decide) rfl (Fk (n:="NoText") x (by decide) rfl (Fk (n:="NoValue") x (by decide) rfl QL))))) ?_
 exact (Ab 3)
 refine @Am _ _ _ _ ?_
 refine @AW _ _ _ _ ?_
 refine @A4 _ _ _ ?_
 refine @AU _ _ _ _ ?_
 exact (@Aa _ _ _ _ _ AI Ag rfl)
 refine @Ai _ _ _ _ _ _ ?_ ?_
 refine @AS _ _ _ _ _ _ _ _ _ ?_ ?_ AE
 refine @Dg _ _ _ ?_ (by intro _;rfl)
 refine Jd (n:="Short") x (by decide) rfl M.z_isinstance Bj rfl ?_
 exact (Ab 3)
 refine @Am _ _ _ _ ?_
 refine @AW _ _ _ _ ?_
 refine @Ao _ _ _ _ _ _ _ _ Ak Al ?_ ?_ (fun _ _=>rfl)
 refine @A4 _ _ _ ?_
 refine @AU _ _ _ _ ?_
 refine @Aa _ _ _ _ _ ?_ ?_ rfl
 refine @A4 _ _ _ ?_
 refine @AU _ _ _ _ ?_
 exact (@Aa _ _ _ _ _ AI Ag rfl)
 refine @Aa _ _ _ _ _ ?_ Ag rfl
 refine @A4 _ _ _ ?_
 refine @AU _ _ _ _ ?_
 exact (@Aa _ _ _ _ _ AI Ag rfl)
 refine @Ir _ _ _ _ _ _ _ _ _ _ GA Jx rfl M.z_int Id ?_ (by decide) (by decide) (by rfl) (by rfl)
 refine @Aa _ _ _ _ _ ?_ Ag rfl
 refine Jd (n:="Broken") x (by decide) rfl M.z_isinstance Bj rfl ?_
 exact (Ab 3)
 refine @Ai _ _ _ _ _ _ ?_ ?_
 refine @AS _ _ _ _ _ _ _ _ _ ?_ ?_ AE
 refine @Ek _ _ _ ?_
 refine @DT _ _ _ _ _ _ _ ?_ ?_
 refine @GJ _ _ _ _ ?_
 refine @Dg _ _ _ ?_ (by intro _;rfl)
 refine Jd (n:="Broken") x (by decide) rfl M.z_isinstance Bj rfl ?_
 exact (Ab 3)
 refine @DO _ _ _ _ ?_
 refine @AG _ _ _ _ _ _ _ _ _ Oh Ow ?_ Dw (AF _)
 refine NQ x x.nd ?_ rfl
 exact (Ab 3)
 refine @Am _ _ _ _ ?_
 refine @AW _ _ _ _ ?_
 refine @A4 _ _ _ ?_
 refine @AU _ _ _ _ ?_
 exact (@Aa _ _ _ _ _ AI Ag rfl)
 refine @Am _ _ _ _ ?_
 refine @AW _ _ _ _ ?_
 refine @A4 _ _ _ ?_
 refine @AU _ _ _ _ ?_
 refine @Aa _ _ _ _ _ AI ?_ rfl
 refine @Aa _ _ _ _ _ ?_ Ag rfl
 refine NQ x x.na ?_ rfl
 exact (Ab 3)
theorem Ko:FnScope (ns .A1) (ps .A1) (As (st .A1)):=⟨rfl,rfl,rfl,by decide +kernel,rfl,by decide +kernel,by decide +kernel⟩
theorem Ki (M:Md K mg A fd) (ih:∀x,okK (kd x) P w K mg base (n + 2) (A x) (fd x) (ps x) (run n x)):okK .pl P w K mg base (n + 2 + 1) (A .A1) (fd .A1) (ps .A1) (run (n + 1) .A1):=by
 refine BZ (g:=fnOf 1 1 (CV (run n .A1))) rfl (BY rfl rfl (M.fn .A1) Ko (fun cdv A' outer s H E hr=>?_))
 refine @Ai _ _ _ _ _ _ ?_ ?_
 refine @AS _ _ _ _ _ _ _ _ _ ?_ ?_ AE
 refine @Ek _ _ _ ?_
 refine @DT _ _ _ _ _ _ _ ?_ ?_
 refine @Dg _ _ _ ?_ (by intro _;rfl)
 refine @Bm _ _ _ _ _ _ _ _ _ _ Ce CH rfl M.z_isinstance Bj ?_ (by decide) (by decide) (by rfl) (by rfl)
 refine @Aa _ _ _ _ _ ?_ ?_ rfl
 exact (Ab 0)
 refine @Aa _ _ _ _ _ ?_ Ag rfl
 exact (DS rfl M.z_list ED)
 refine @DO _ _ _ _ ?_
 refine @Dg _ _ _ ?_ (by intro _;rfl)
 refine @Bm _ _ _ _ _ _ _ _ _ _ Ce CH rfl M.z_isinstance Bj ?_ (by decide) (by decide) (by rfl) (by rfl)
 refine @Aa _ _ _ _ _ ?_ ?_ rfl
 exact (Ab 0)
 refine @Aa _ _ _ _ _ ?_ Ag rfl
 exact (DS rfl M.z_tuple D1)
 refine @Am _ _ _ _ ?_
 refine @AW _ _ _ _ ?_
 refine @An _ _ _ _ _ _ _ _ _ Az Aw Ae ?_
 refine @Bm _ _ _ _ _ _ _ _ _ _ (NH rfl) PB rfl M.z_sum Sg ?_ (by decide) (by decide) (by rfl) (by rfl)
 refine @Aa _ _ _ _ _ ?_ Ag rfl
 refine @A4 _ _ _ ?_
 refine E4 (Du ["one"] [] rfl rfl rfl rfl rfl) rfl ?_ ?_ ?_ ?_
 refine @EU _ _ _ _ ?_
 exact (Ab 0)
 intro _ _ _ _ _
 exact (BB (by show List.Nodup [("one" : Str)] ;decide +kernel) rfl (.inl rfl))
 intro _ _ _ _ _
 exact CS
 intro _ _ _ _ _
 refine @Aq _ _ _ _ _ _ _ _ _ _ _ _ (ih .A1) hr rfl (M.mgs .A1) (Fun.kp (M.fn .A1)) (M.bd .A1) ?_ (by decide) (by rfl) (by rfl)
 refine @Aa _ _ _ _ _ ?_ Ag rfl
 exact (Ab 0)
 refine @Am _ _ _ _ ?_
 exact (AW Ae)
theorem Km:FnScope (ns .AM) (ps .AM) (As (st .AM)):=⟨rfl,rfl,rfl,by decide +kernel,rfl,by decide +kernel,by decide +kernel⟩
theorem J9 (M:Md K mg A fd) (ih:∀x,okK (kd x) P w K mg base (n + 2) (A x) (fd x) (ps x) (run n x)):okK .pl P w K mg base (n + 2 + 1) (A .AM) (fd .AM) (ps .AM) (run (n + 1) .AM):=by
 refine BZ (g:=fnOf 1 1 (En (run n .Af))) rfl (BY rfl rfl (M.fn .AM) Km (fun cdv A' outer s H E hr=>?_))
 refine @Am _ _ _ _ ?_
 refine @AW _ _ _ _ ?_
 refine @Ao _ _ _ _ _ _ _ _ Ak Al ?_ ?_ (fun _ _=>rfl)
 refine @A4 _ _ _ ?_
 refine @AU _ _ _ _ ?_
 refine @Aa _ _ _ _ _ Ae ?_ rfl
 refine @Aa _ _ _ _ _ ?_ ?_ rfl
 refine @Aq _ _ _ _ _ _ _ _ _ _ _ _ (ih .Af) hr rfl (M.mgs .Af) (Fun.kp (M.fn .Af)) (M.bd .Af) ?_ (by decide) (by rfl) (by rfl)
 refine @Aa _ _ _ _ _ ?_ ?_ rfl
 exact (Ab 0)
 exact (@Aa _ _ _ _ _ Ae Ag rfl)
 refine @Aa _ _ _ _ _ ?_ ?_ rfl
 refine @An _ _ _ _ _ _ _ _ _ Az Aw Ae ?_
 refine @Aq _ _ _ _ _ _ _ _ _ _ _ _ (ih .Af) hr rfl (M.mgs .Af) (Fun.kp (M.fn .Af)) (M.bd .Af) ?_ (by decide) (by rfl) (by rfl)
 refine @Aa _ _ _ _ _ ?_ ?_ rfl
 exact (Ab 0)
 exact (@Aa _ _ _ _ _ Ae Ag rfl)
 refine @Aa _ _ _ _ _ ?_ ?_ rfl
 refine @Aq _ _ _ _ _ _ _ _ _ _ _ _ (ih .Af) hr rfl (M.mgs .Af) (Fun.kp (M.fn .Af)) (M.bd .Af) ?_ (by decide) (by rfl) (by rfl)
 refine @Aa _ _ _ _ _ ?_ ?_ rfl
 exact (Ab 0)
 exact (@Aa _ _ _ _ _ Ae Ag rfl)
 exact (@Aa _ _ _ _ _ Ae Ag rfl)
 refine @Aq _ _ _ _ _ _ _ _ _ _ _ _ (ih .Af) hr rfl (M.mgs .Af) (Fun.kp (M.fn .Af)) (M.bd .Af) ?_ (by decide) (by rfl) (by rfl)
 refine @Aa _ _ _ _ _ ?_ ?_ rfl
 exact (Ab 0)
 exact (@Aa _ _ _ _ _ Ae Ag rfl)
theorem sc_f_law_changed:FnScope (ns .AX) (ps .AX) (As (st .AX)):=⟨rfl,rfl,rfl,by decide +kernel,rfl,by decide +kernel,by decide +kernel⟩
theorem HJ (M:Md K mg A fd) (ih:∀x,okK (kd x) P w K mg base (n + 2) (A x) (fd x) (ps x) (run n x)):okK .pl P w K mg base (n + 2 + 1) (A .AX) (fd .AX) (ps .AX) (run (n + 1) .AX):=by
 refine BZ (g:=fnOf 2 6 (Dq (run n .Af) (run n .AM))) rfl (BY rfl rfl (M.fn .AX) sc_f_law_changed (fun cdv A' outer s H E hr=>?_))
 refine @Ai _ _ _ _ _ _ ?_ ?_
 refine @Df _ _ _ _ _ _ _ _ _ PassesOwn.never rfl ?_ ?_ ?_ (by intro _;rfl)
 refine BM rfl M.z_range ?_
 refine @Aa _ _ _ _ _ ?_ Ag rfl
 refine @An _ _ _ _ _ _ _ _ _ Az Aw Ae ?_
 refine @Aq _ _ _ _ _ _ _ _ _ _ _ _ (ih .Af) hr rfl (M.mgs .Af) (Fun.kp (M.fn .Af)) (M.bd .Af) ?_ (by decide) (by rfl) (by rfl)
 refine @Aa _ _ _ _ _ ?_ ?_ rfl
 exact (Ab 1)
 exact (@Aa _ _ _ _ _ Ae Ag rfl)
 exact (BB sc_f_law_changed.nd rfl (.inl rfl))
 refine @Ai _ _ _ _ _ _ ?_ ?_
 refine @AL _ _ _ _ 3 _ _ _ sc_f_law_changed.nd rfl (.inl rfl) ?_ (by rfl) (by first | exact .inl rfl | exact .inr rfl | assumption)
 refine @Aq _ _ _ _ _ _ _ _ _ _ _ _ (ih .Af) hr rfl (M.mgs .Af) (Fun.kp (M.fn .Af)) (M.bd .Af) ?_ (by decide) (by rfl) (by rfl)
 refine @Aa _ _ _ _ _ ?_ ?_ rfl
 exact (Ab 1)
 refine @Aa _ _ _ _ _ ?_ Ag rfl
 refine @An _ _ _ _ _ _ _ _ _ Az Aw ?_ Ae
 refine @Bm _ _ _ _ _ _ _ _ _ _ Bz BJ rfl M.z_len BP ?_ (by decide) (by decide) (by rfl) (by rfl)
 refine @Aa _ _ _ _ _ ?_ Ag rfl
 exact (Ab 0)
 refine @Ai _ _ _ _ _ _ ?_ ?_
 refine @AL _ _ _ _ 4 _ _ _ sc_f_law_changed.nd rfl (.inr rfl) ?_ (by rfl) (by first | exact .inl rfl | exact .inr rfl | assumption)
 refine @Aq _ _ _ _ _ _ _ _ _ _ _ _ (ih .AM) hr rfl (M.mgs .AM) (Fun.kp (M.fn .AM)) (M.bd .AM) ?_ (by decide) (by rfl) (by rfl)
 refine @Aa _ _ _ _ _ ?_ Ag rfl
 exact (Ab 1)
 refine @Ai _ _ _ _ _ _ ?_ ?_
 refine @AL _ _ _ _ 5 _ _ _ sc_f_law_changed.nd rfl (.inl rfl) ?_ (by rfl) (by first | exact .inl rfl | exact .inr rfl | assumption)
 refine @Aq _ _ _ _ _ _ _ _ _ _ _ _ (ih .Af) hr rfl (M.mgs .Af) (Fun.kp (M.fn .Af)) (M.bd .Af) ?_ (by decide) (by rfl) (by rfl)
 refine @Aa _ _ _ _ _ ?_ ?_ rfl
 exact (Ab 1)
 exact (@Aa _ _ _ _ _ Ae Ag rfl)
 refine @Am _ _ _ _ ?_
 refine @AS _ _ _ _ _ _ _ _ _ ?_ ?_ ?_
 refine @AG _ _ _ _ _ _ _ _ _ EV Ea ?_ Ae (AF _)
 exact (Ab 5)
 refine @Am _ _ _ _ ?_
 refine @AL _ _ _ _ 0 _ _ _ sc_f_law_changed.nd rfl (.inl rfl) ?_ (by rfl) (by first | exact .inl rfl | exact .inr rfl | assumption)
 refine @An _ _ _ _ _ _ _ _ _ Az Aw ?_ ?_
 refine @An _ _ _ _ _ _ _ _ _ Az Aw ?_ ?_
 refine @B4 _ _ _ _ _ _ _ _ _ _ _ sl3 Cp ?_ CT ?_
 exact (Ab 0)
 refine B5 ?_
 exact (Ab 3)
 refine @A4 _ _ _ ?_
 refine @AU _ _ _ _ ?_
 refine @Aa _ _ _ _ _ ?_ Ag rfl
 exact (Ab 4)
 refine @B4 _ _ _ _ _ _ _ _ _ _ _ sl3 Cp ?_ ?_ CT
 exact (Ab 0)
 refine B5 ?_
 refine @An _ _ _ _ _ _ _ _ _ Az Aw ?_ Ae
 exact (Ab 3)
 refine @Am _ _ _ _ ?_
 refine @AS _ _ _ _ _ _ _ _ _ ?_ ?_ ?_
 refine @AG _ _ _ _ _ _ _ _ _ (Bn hr.units) (AV (g:=id)) ?_ Ae (AF _)
 exact (Ab 5)
 refine @Am _ _ _ _ ?_
 refine @AL _ _ _ _ 0 _ _ _ sc_f_law_changed.nd rfl (.inl rfl) ?_ (by rfl) (by first | exact .inl rfl | exact .inr rfl | assumption)
 refine @An _ _ _ _ _ _ _ _ _ Az Aw ?_ ?_
 refine @B4 _ _ _ _ _ _ _ _ _ _ _ sl3 Cp ?_ CT ?_
 exact (Ab 0)
 refine B5 ?_
 exact (Ab 3)
 refine @B4 _ _ _ _ _ _ _ _ _ _ _ sl3 Cp ?_ ?_ CT
 exact (Ab 0)
 refine B5 ?_
 refine @An _ _ _ _ _ _ _ _ _ Az Aw ?_ Ae
 exact (Ab 3)
 refine @Am _ _ _ _ ?_
 refine @AS _ _ _ _ _ _ _ _ _ ?_ ?_ ?_
 refine @AG _ _ _ _ _ _ _ _ _ (Bn hr.units) (AV (g:=id)) ?_ Ae (AF _)
 exact (Ab 5)
 refine @Am _ _ _ _ ?_
 refine @AL _ _ _ _ 0 _ _ _ sc_f_law_changed.nd rfl (.inl rfl) ?_ (by rfl) (by first | exact .inl rfl | exact .inr rfl | assumption)
 refine @An _ _ _ _ _ _ _ _ _ Az Aw ?_ ?_
 refine @An _ _ _ _ _ _ _ _ _ Az Aw ?_ ?_
 refine @B4 _ _ _ _ _ _ _ _ _ _ _ sl3 Cp ?_ CT ?_
 exact (Ab 0)
 refine B5 ?_
 exact (Ab 3)
 refine @A4 _ _ _ ?_
 refine @AU _ _ _ _ ?_
 refine @Aa _ _ _ _ _ ?_ Ag rfl
 exact (Ab 4)
 refine @B4 _ _ _ _ _ _ _ _ _ _ _ sl3 Cp ?_ ?_ CT
 exact (Ab 0)
 refine B5 ?_
 exact (Ab 3)
 refine @Am _ _ _ _ ?_
 refine @AL _ _ _ _ 0 _ _ _ sc_f_law_changed.nd rfl (.inl rfl) ?_ (by rfl) (by first | exact .inl rfl | exact .inr rfl | assumption)
 refine @An _ _ _ _ _ _ _ _ _ Az Aw ?_ ?_
 refine @An _ _ _ _ _ _ _ _ _ Az Aw ?_ ?_
 refine @B4 _ _ _ _ _ _ _ _ _ _ _ sl3 Cp ?_ CT ?_
 exact (Ab 0)
 refine B5 ?_
 exact (Ab 3)
 refine @A4 _ _ _ ?_
 refine E4 (Du ["one"] [(4 , "byte")] rfl rfl rfl rfl rfl) rfl ?_ ?_ ?_ ?_
 refine @EU _ _ _ _ ?_
 refine @B4 _ _ _ _ _ _ _ _ _ _ _ sl3 Cp ?_ ?_ ?_
 exact (Ab 0)
 refine B5 ?_
 exact (Ab 3)
 refine B5 ?_
 refine @An _ _ _ _ _ _ _ _ _ Az Aw ?_ Ae
 exact (Ab 3)
 intro _ _ _ _ _
 exact (BB (by show List.Nodup [("one" : Str) ,("byte" : Str)] ;decide +kernel) rfl (.inl rfl))
 intro _ _ _ _ _
 exact CS
 intro _ _ _ _ _
 refine @An _ _ _ _ _ _ _ _ _ C2 Cn ?_ Ae
 refine @An _ _ _ _ _ _ _ _ _ Az Aw ?_ ?_
 exact (Ab 0)
 refine @Ao _ _ _ _ _ _ _ _ Ak Al ?_ ?_ (fun _ _=>rfl)
 refine @A4 _ _ _ ?_
 refine @AU _ _ _ _ ?_
 refine @Aa _ _ _ _ _ Ae ?_ rfl
 exact (@Aa _ _ _ _ _ Ae Ag rfl)
 refine @An _ _ _ _ _ _ _ _ _ C2 Cn ?_ Ae
 exact (Ab 1)
 refine @B4 _ _ _ _ _ _ _ _ _ _ _ sl3 Cp ?_ ?_ CT
 exact (Ab 0)
 refine B5 ?_
 refine @An _ _ _ _ _ _ _ _ _ Az Aw ?_ Ae
 exact (Ab 3)
 refine @Am _ _ _ _ ?_
 refine @AW _ _ _ _ ?_
 refine @B4 _ _ _ _ _ _ _ _ _ _ _ sl3 Cp ?_ CT ?_
 exact (Ab 0)
 refine B5 ?_
 refine @An _ _ _ _ _ _ _ _ _ BC Bt ?_ ?_
 refine @Bm _ _ _ _ _ _ _ _ _ _ Bz BJ rfl M.z_len BP ?_ (by decide) (by decide) (by rfl) (by rfl)
 refine @Aa _ _ _ _ _ ?_ Ag rfl
 exact (Ab 0)
 refine @Ao _ _ _ _ _ _ _ _ Ak Al ?_ ?_ (fun _ _=>rfl)
 refine @A4 _ _ _ ?_
 refine @AU _ _ _ _ ?_
 refine @Aa _ _ _ _ _ Ae ?_ rfl
 refine @Aa _ _ _ _ _ Ae ?_ rfl
 refine @Aa _ _ _ _ _ ?_ Ag rfl
 refine @Aq _ _ _ _ _ _ _ _ _ _ _ _ (ih .Af) hr rfl (M.mgs .Af) (Fun.kp (M.fn .Af)) (M.bd .Af) ?_ (by decide) (by rfl) (by rfl)
 refine @Aa _ _ _ _ _ ?_ ?_ rfl
 exact (Ab 1)
 exact (@Aa _ _ _ _ _ Ae Ag rfl)
 refine @Aq _ _ _ _ _ _ _ _ _ _ _ _ (ih .Af) hr rfl (M.mgs .Af) (Fun.kp (M.fn .Af)) (M.bd .Af) ?_ (by decide) (by rfl) (by rfl)
 refine @Aa _ _ _ _ _ ?_ ?_ rfl
 exact (Ab 1)
 exact (@Aa _ _ _ _ _ Ae Ag rfl)
theorem sc_law_:FnScope (ns .law_) (ps .law_) (As (st .law_)):=⟨rfl,rfl,rfl,by decide +kernel,rfl,by decide +kernel,by decide +kernel⟩
theorem Q8 (M:Md K mg A fd) (ih:∀x,okK (kd x) P w K mg base (n + 2) (A x) (fd x) (ps x) (run n x)):okK .pl P w K mg base (n + 2 + 1) (A .law_) (fd .law_) (ps .law_) (run (n + 1) .law_):=by
 refine BZ (g:=fnOf 1 11 (FC (run n .AX) (run n .Ba) (run n .A0) (run n .A1) (run n .A8) (run n .AD) (run n .AA) (run n .Af) (run n .AM) (run n .AC) (run n .Bo))) rfl (BY rfl rfl (M.fn .law_) sc_law_ (fun cdv A' outer s H E hr=>?_))
 refine @Ai _ _ _ _ _ _ ?_ ?_
 refine @AL _ _ _ _ 1 _ _ _ sc_law_.nd rfl (.inr rfl) ?_ (by rfl) (by first | exact .inl rfl | exact .inr rfl | assumption)
 refine @Aq _ _ _ _ _ _ _ _ _ _ _ _ (ih .Bo) hr rfl (M.mgs .Bo) (Fun.kp (M.fn .Bo)) (M.bd .Bo) ?_ (by decide) (by rfl) (by rfl)
 refine @Aa _ _ _ _ _ ?_ Ag rfl
 exact (Ab 0)
 refine @Ai _ _ _ _ _ _ ?_ ?_
 refine @Df _ _ _ _ _ _ _ _ _ PassesOwn.never rfl ?_ ?_ ?_ (by intro _;rfl)
 refine BM rfl M.z_range ?_
 exact (@Aa _ _ _ _ _ Ae Ag rfl)
 exact (BB sc_law_.nd rfl (.inl rfl))
 refine @Ai _ _ _ _ _ _ ?_ ?_
 refine @AL _ _ _ _ 3 _ _ _ sc_law_.nd rfl (.inl rfl) ?_ (by rfl) (by first | exact .inl rfl | exact .inr rfl | assumption)
 refine @Aq _ _ _ _ _ _ _ _ _ _ _ _ (ih .AC) hr rfl (M.mgs .AC) (Fun.kp (M.fn .AC)) (M.bd .AC) ?_ (by decide) (by rfl) (by rfl)
 refine @Aa _ _ _ _ _ ?_ ?_ rfl
 exact (Ab 1)
 refine @Aa _ _ _ _ _ ?_ ?_ rfl
 refine @An _ _ _ _ _ _ _ _ _ Az Aw Ae ?_
 refine @Aq _ _ _ _ _ _ _ _ _ _ _ _ (ih .Af) hr rfl (M.mgs .Af) (Fun.kp (M.fn .Af)) (M.bd .Af) ?_ (by decide) (by rfl) (by rfl)
 refine @Aa _ _ _ _ _ ?_ ?_ rfl
 exact (Ab 1)
 exact (@Aa _ _ _ _ _ Ae Ag rfl)
 refine @Aa _ _ _ _ _ ?_ Ag rfl
 refine @GF _ _ _ ?_
 refine @AU _ _ _ _ ?_
 exact (@Aa _ _ _ _ _ Ae Ag rfl)
 refine @Ai _ _ _ _ _ _ ?_ ?_
 refine G6 (i:=4) (Du ["place"] [(1 , "deck")] rfl rfl rfl rfl rfl) rfl sc_law_.nd rfl rfl ?_ ?_ ?_ ?_
 refine BM rfl M.z_range ?_
 refine @Aa _ _ _ _ _ ?_ Ag rfl
 refine @Aq _ _ _ _ _ _ _ _ _ _ _ _ (ih .Af) hr rfl (M.mgs .Af) (Fun.kp (M.fn .Af)) (M.bd .Af) ?_ (by decide) (by rfl) (by rfl)
 refine @Aa _ _ _ _ _ ?_ ?_ rfl
 exact (Ab 1)
 exact (@Aa _ _ _ _ _ Ae Ag rfl)
 intro _ _ _ _ _
 exact (BB (by show List.Nodup [("place" : Str) ,("deck" : Str)] ;decide +kernel) rfl (.inl rfl))
 intro _ _ _ _ _
 exact CS
 intro _ _ _ _ _
 refine @Aq _ _ _ _ _ _ _ _ _ _ _ _ (ih .AM) hr rfl (M.mgs .AM) (Fun.kp (M.fn .AM)) (M.bd .AM) ?_ (by decide) (by rfl) (by rfl)
 refine @Aa _ _ _ _ _ ?_ Ag rfl
 exact (Ab 1)
 refine @Ai _ _ _ _ _ _ ?_ ?_
 refine G6 (i:=5) (Du ["place"] [(1 , "deck")] rfl rfl rfl rfl rfl) rfl sc_law_.nd rfl rfl ?_ ?_ ?_ ?_
 refine BM rfl M.z_range ?_
 refine @Aa _ _ _ _ _ ?_ Ag rfl
 refine @Aq _ _ _ _ _ _ _ _ _ _ _ _ (ih .Af) hr rfl (M.mgs .Af) (Fun.kp (M.fn .Af)) (M.bd .Af) ?_ (by decide) (by rfl) (by rfl)
 refine @Aa _ _ _ _ _ ?_ ?_ rfl
 exact (Ab 1)
 exact (@Aa _ _ _ _ _ Ae Ag rfl)
 intro _ _ _ _ _
 exact (BB (by show List.Nodup [("place" : Str) ,("deck" : Str)] ;decide +kernel) rfl (.inl rfl))
 intro _ _ _ _ _
 exact CS
 intro _ _ _ _ _
 refine @Aq _ _ _ _ _ _ _ _ _ _ _ _ (ih .AM) hr rfl (M.mgs .AM) (Fun.kp (M.fn .AM)) (M.bd .AM) ?_ (by decide) (by rfl) (by rfl)
 refine @Aa _ _ _ _ _ ?_ Ag rfl
 exact (Ab 1)
 refine @Ai _ _ _ _ _ _ ?_ ?_
 refine @AL _ _ _ _ 6 _ _ _ sc_law_.nd rfl (.inl rfl) ?_ (by rfl) (by first | exact .inl rfl | exact .inr rfl | assumption)
 refine @Aq _ _ _ _ _ _ _ _ _ _ _ _ (ih .AA) hr rfl (M.mgs .AA) (Fun.kp (M.fn .AA)) (M.bd .AA) ?_ (by decide) (by rfl) (by rfl)
 refine @Aa _ _ _ _ _ ?_ ?_ rfl
 exact (Ab 3)
 refine @Aa _ _ _ _ _ ?_ Ag rfl
 refine @Aq _ _ _ _ _ _ _ _ _ _ _ _ (ih .AD) hr rfl (M.mgs .AD) (Fun.kp (M.fn .AD)) (M.bd .AD) ?_ (by decide) (by rfl) (by rfl)
 refine @Aa _ _ _ _ _ ?_ ?_ rfl
 exact (Ab 1)
 refine @Aa _ _ _ _ _ ?_ ?_ rfl
 exact (Ab 3)
 refine @Aa _ _ _ _ _ ?_ Ag rfl
 refine @GF _ _ _ ?_
 refine @AU _ _ _ _ ?_
 refine @Aa _ _ _ _ _ Ae ?_ rfl
 exact (@Aa _ _ _ _ _ Ae Ag rfl)
 refine @Am _ _ _ _ ?_
 refine @Df _ _ _ _ _ _ _ _ _ PassesOwn.never rfl ?_ ?_ ?_ (by intro _;rfl)
 refine @EU _ _ _ _ ?_
 refine @A4 _ _ _ ?_
 refine @AU _ _ _ _ ?_
 refine @Aa _ _ _ _ _ ?_ ?_ rfl
 exact (Ab 5)
 refine @Aa _ _ _ _ _ ?_ ?_ rfl
 refine @Aq _ _ _ _ _ _ _ _ _ _ _ _ (ih .AX) hr rfl (M.mgs .AX) (Fun.kp (M.fn .AX)) (M.bd .AX) ?_ (by decide) (by rfl) (by rfl)
 refine @Aa _ _ _ _ _ ?_ ?_ rfl
 exact (Ab 6)
 refine @Aa _ _ _ _ _ ?_ Ag rfl
 exact (Ab 1)
 refine @Aa _ _ _ _ _ ?_ ?_ rfl
 refine @An _ _ _ _ _ _ _ _ _ Az Aw ?_ ?_
 exact (Ab 6)
 exact (Ab 5)
 refine @Aa _ _ _ _ _ ?_ Ag rfl
 refine @An _ _ _ _ _ _ _ _ _ Az Aw ?_ ?_
 refine @B4 _ _ _ _ _ _ _ _ _ _ _ sl3 Cp ?_ CT ?_
 exact (Ab 6)
 refine B5 ?_
 refine @An _ _ _ _ _ _ _ _ _ Dj CM ?_ Ae
 refine @Bm _ _ _ _ _ _ _ _ _ _ Bz BJ rfl M.z_len BP ?_ (by decide) (by decide) (by rfl) (by rfl)
 refine @Aa _ _ _ _ _ ?_ Ag rfl
 exact (Ab 6)
 exact (Ab 5)
 exact (BB sc_law_.nd rfl (.inl rfl))
 refine @Ai _ _ _ _ _ _ ?_ ?_
 refine @AL _ _ _ _ 8 _ _ _ sc_law_.nd rfl (.inl rfl) ?_ (by rfl) (by first | exact .inl rfl | exact .inr rfl | assumption)
 refine @An _ _ _ _ _ _ _ _ _ Az Aw ?_ ?_
 exact (Ab 4)
 exact (Ab 7)
 refine @Ai _ _ _ _ _ _ ?_ ?_
 refine @AL _ _ _ _ 9 _ _ _ sc_law_.nd rfl (.inl rfl) ?_ (by rfl) (by first | exact .inl rfl | exact .inr rfl | assumption)
 refine @A4 _ _ _ ?_
 refine @MW _ _ _ _ _ _ _ _ _ _ Ff Jy rfl M.z_list ED ?_ (by decide) (by decide) (by rfl) (by rfl)
 refine @Aa _ _ _ _ _ ?_ Ag rfl
 exact (Ab 8)
 refine @Ai _ _ _ _ _ _ ?_ ?_
 refine @AL _ _ _ _ 10 _ _ _ sc_law_.nd rfl (.inl rfl) ?_ (by rfl) (by first | exact .inl rfl | exact .inr rfl | assumption)
 refine NS (ih .A8) hr rfl (M.mgs .A8) (Fun.kp (M.fn .A8)) (M.bd .A8) ?_
 refine @Aa _ _ _ _ _ ?_ ?_ rfl
 exact (Ab 3)
 refine @Aa _ _ _ _ _ ?_ ?_ rfl
 exact (Ab 8)
 refine @Aa _ _ _ _ _ ?_ Ag rfl
 refine @Bm _ _ _ _ _ _ _ _ _ _ Bz BJ rfl M.z_len BP ?_ (by decide) (by decide) (by rfl) (by rfl)
 refine @Aa _ _ _ _ _ ?_ Ag rfl
 exact (Ab 4)
 refine @Ai _ _ _ _ _ _ ?_ ?_
 refine @AS _ _ _ _ _ _ _ _ _ ?_ ?_ AE
 refine @Ek _ _ _ ?_
 refine @Sy _ _ _ _ _ _ _ ?_ ?_
 refine @AG _ _ _ _ _ _ _ _ _ (Bn hr.units) (AV (g:=id)) ?_ AI (AF _)
 refine @Ao _ _ _ _ _ _ _ _ Ak Al ?_ Ae (fun _ _=>rfl)
 exact (Ab 10)
 refine @QR _ _ _ _ ?_
 refine @AG _ _ _ _ _ _ _ _ _ Ex DH ?_ Ae (AF _)
 refine @Aq _ _ _ _ _ _ _ _ _ _ _ _ (ih .A1) hr rfl (M.mgs .A1) (Fun.kp (M.fn .A1)) (M.bd .A1) ?_ (by decide) (by rfl) (by rfl)
 refine @Aa _ _ _ _ _ ?_ Ag rfl
 refine @Ao _ _ _ _ _ _ _ _ Ak Al ?_ Ae (fun _ _=>rfl)
 exact (Ab 10)
 refine @Am _ _ _ _ ?_
 refine @AL _ _ _ _ 10 _ _ _ sc_law_.nd rfl (.inl rfl) ?_ (by rfl) (by first | exact .inl rfl | exact .inr rfl | assumption)
 refine @Aq _ _ _ _ _ _ _ _ _ _ _ _ (ih .Ba) hr rfl (M.mgs .Ba) (Fun.kp (M.fn .Ba)) (M.bd .Ba) ?_ (by decide) (by rfl) (by rfl)
 refine @Aa _ _ _ _ _ ?_ ?_ rfl
 exact (Ab 3)
 refine @Aa _ _ _ _ _ ?_ ?_ rfl
 exact (Ab 9)
 refine @Aa _ _ _ _ _ ?_ Ag rfl
 refine @Bm _ _ _ _ _ _ _ _ _ _ Bz BJ rfl M.z_len BP ?_ (by decide) (by decide) (by rfl) (by rfl)
 refine @Aa _ _ _ _ _ ?_ Ag rfl
 exact (Ab 4)
 refine @Am _ _ _ _ ?_
 refine @AS _ _ _ _ _ _ _ _ _ ?_ ?_ AE
 refine @Ek _ _ _ ?_
 refine @DT _ _ _ _ _ _ _ ?_ ?_
 refine @GJ _ _ _ _ ?_
 refine @Dg _ _ _ ?_ (by intro _;rfl)
 refine @Aq _ _ _ _ _ _ _ _ _ _ _ _ (ih .A0) hr rfl (M.mgs .A0) (Fun.kp (M.fn .A0)) (M.bd .A0) ?_ (by decide) (by rfl) (by rfl)
 refine @Aa _ _ _ _ _ ?_ ?_ rfl
 refine @Aq _ _ _ _ _ _ _ _ _ _ _ _ (ih .Ba) hr rfl (M.mgs .Ba) (Fun.kp (M.fn .Ba)) (M.bd .Ba) ?_ (by decide) (by rfl) (by rfl)
 refine @Aa _ _ _ _ _ ?_ ?_ rfl
 exact (Ab 3)
 refine @Aa _ _ _ _ _ ?_ ?_ rfl
 exact (Ab 9)
 refine @Aa _ _ _ _ _ ?_ Ag rfl
 refine @Bm _ _ _ _ _ _ _ _ _ _ Bz BJ rfl M.z_len BP ?_ (by decide) (by decide) (by rfl) (by rfl)
 refine @Aa _ _ _ _ _ ?_ Ag rfl
 exact (Ab 4)
 refine @Aa _ _ _ _ _ ?_ Ag rfl
 exact (Ab 10)
 refine @DO _ _ _ _ ?_
 refine @AG _ _ _ _ _ _ _ _ _ (Fm hr.units) (AV (g:=fun b=>!b)) ?_ ?_ (AF _)
 exact (Ab 9)
 exact (Ab 8)
 refine @Am _ _ _ _ ?_
 exact (AW Iu)
 refine @Am _ _ _ _ ?_
 exact (AW Iu)
theorem all_ok (M:Md K mg A fd):∀(n:Nat) (x:Fx),okK (kd x) P w K mg base (n + 2) (A x) (fd x) (ps x) (run n x)
 | 0,x=>Pf
 | n + 1,x=>by
   have ih:=all_ok M n
   cases x with
   | Bv=>exact LZ M ih
   | A9=>exact IK M ih
   | Bw=>exact L3 M ih
   | Ay=>exact Jp M ih
   | A7=>exact LX M ih
   | AH=>exact Jk M ih
   | Bd=>exact IJ M ih
   | Br=>exact Kl M ih
   | Bx=>exact L4 M ih
   | Bp=>exact Kj M ih
   | Bq=>exact Kk M ih
   | Bc=>exact II M ih
   | Bo=>exact Ka M ih
   | Af=>exact Kb M ih
   | AY=>exact Lk M ih
   | Bk=>exact Kc M ih
   | AC=>exact Jn M ih
   | Bl=>exact Kh M ih
   | AB=>exact Jm M ih
   | AD=>exact Jo M ih
   | A0=>exact Kg M ih
   | AZ=>exact Ke M ih
   | AA=>exact Jl M ih
   | AN=>exact GN M ih
   | A5=>exact HK M ih
   | AT=>exact IH M ih
   | A8=>exact LY M ih
   | Ba=>exact Kf M ih
   | A1=>exact Ki M ih
   | AM=>exact J9 M ih
   | AX=>exact HJ M ih
   | law_=>exact Q8 M ih
end
abbrev fno (x:Fx) (kV dc pm:Value) (an:Option Addr) (cd ct:Value):FuncData:=PySem.W.fnOf (nm x) (nm x) (D7 (st x)) (B3 (st x)) (As (st x)) .none kV dc pm an cd ct
structure At (K:PySem.W.Frag) (x:Fx) (f:Addr) (fd:FuncData):Prop where
 a:PySem.W.nsIn K mainGlobals (nm x)=some (some (.ref f))
 fn:Fun K (nm x) (nm x) (st x) f fd
 bd:Binds K fd (ps x) []
 eq:∃kV dc pm an cd ct,fd=fno x kV dc pm an cd ct
theorem at_mk {K:PySem.W.Frag} {x:Fx} {f:Addr} {od an:Option Addr} {sl:Array (Option Value)} {oc kV dc pm cd ct:Value} (a:PySem.W.nsIn K mainGlobals (nm x)=some (some (.ref f))) (l:K.lookup f=some ⟨oc,od,.func (fno x kV dc pm an cd ct),sl⟩) (c:PySem.W.codeIn K cd (nm x)=true) (k:PySem.W.keepIn K (.ref f)=true):∃p:Addr×FuncData,At K x p.1 p.2:=by
 refine ⟨(f,fno x kV dc pm an cd ct),a,Iy (st:=st x) l c k,(Iy (st:=st x) l c k).binds (ps:=ps x) fun _ _ _ _ _ _ us hl=>?_,_,_,_,_,_,_,rfl⟩
 cases x <;> first | (obtain ⟨_,rfl⟩:=us1 hl;rfl) | (obtain ⟨_,_,rfl⟩:=us2 hl;rfl) | (obtain ⟨_,_,_,rfl⟩:=us3 hl;rfl) | (obtain ⟨_,_,_,_,rfl⟩:=us4 hl;rfl) | (obtain ⟨_,_,_,_,_,rfl⟩:=us5 hl;rfl) | (obtain ⟨_,_,_,_,_,_,rfl⟩:=us6 hl;rfl) | (obtain ⟨_,_,_,_,_,_,_,rfl⟩:=us7 hl;rfl)
theorem xm_all {K:PySem.W.Frag} {h:Heap} {mg:Str→Option Value} {P c1 c2 c3 c4 c5 c6 c7:Addr} {f2:Addr} {od2 an2:Option Addr} {sl2:Array (Option Value)} {oc2 kV2 dc2 pm2 cd2 ct2:Value} (X:K.In h) (G:h.Ns mainGlobals mg) (p:PySem.W.nsIn K mainGlobals "ParleyError" = some (some (.ref P))) (a1:PySem.W.nsIn K mainGlobals "NoValue" = some (some (.ref c1))) (a2:PySem.W.nsIn K mainGlobals "Short" = some (some (.ref c2))) (a3:PySem.W.nsIn K mainGlobals "Broken" = some (some (.ref c3))) (a4:PySem.W.nsIn K mainGlobals "NoTalk" = some (some (.ref c4))) (a5:PySem.W.nsIn K mainGlobals "NoName" = some (some (.ref c5))) (a6:PySem.W.nsIn K mainGlobals "NoText" = some (some (.ref c6))) (a7:PySem.W.nsIn K mainGlobals "NoRow" = some (some (.ref c7))) (q:Nw K P [c1,c2,c3,c4,c5,c6,c7]=true) (nd:[P,c1,c2,c3,c4,c5,c6,c7].Nodup) (fi2:PySem.W.findIn K (.ref c3) "__init__" = some (some (.ref f2))) (l2:K.lookup f2=some ⟨oc2,od2,.func (PySem.W.fnOf "__init__" "Broken.__init__" (D7 (ET (top 4) 0)) (B3 (ET (top 4) 0)) (As (ET (top 4) 0)) .none kV2 dc2 pm2 an2 cd2 ct2),sl2⟩) (ii2:K8 K c3 f2=true) (hf2:PySem.W.isFn K (.ref f2)=true) (hs2:PySem.W.findIn K (.ref c3) "__setattr__" = some (some (.builtin "object.__setattr__"))) (cc2:PySem.W.codeIn K cd2 "Broken.__init__" = true) (k2:PySem.W.keepIn K (.ref f2)=true) (n2:Lh K c2=true):∃(P:Addr) (ca:Str→Addr),XM K mg P ca∧XF2 K (ca "Broken") P "Broken.__init__" (ET (top 4) 0)∧∀n∈(["Short"]:List Str),XN0 K (ca n):=by
 have x:=Vg X G p a1 a2 a3 a4 a5 a6 a7 q nd
 refine ⟨P,_,x,T8 (C:=c3) (st:=(ET (top 4) 0)) ⟨x.cl "Broken" (by decide),x.kp "Broken" (by decide),x.gt "Broken" (by decide),x.gc "Broken" (by decide),x.na "Broken" (by decide),x.nd "Broken" (by decide)⟩ ii2 hf2 hs2 l2 cc2 k2 (fun _ _ _ _ _ _ us hl=>by match us,hl with | [_,_,_],_=>rfl),?_⟩
 intro n hn
 simp only [List.mem_cons,List.not_mem_nil,or_false] at hn
 rcases hn with rfl
 ·exact T9 n2
theorem fin_mk {K:PySem.W.Frag} {h:Heap} {mg:Str→Option Value} {fa:Addr} (X:K.In h) (G:h.Ns mainGlobals mg) (hmg:mg "law" = some (.ref fa)) (H:∀x:Fx,∃p:Addr×FuncData,At K x p.1 p.2) (z_ValueError:PySem.W.nsIn K mainGlobals "ValueError" = some none) (z_abs:PySem.W.nsIn K mainGlobals "abs" = some none) (z_bool:PySem.W.nsIn K mainGlobals "bool" = some none) (z_int:PySem.W.nsIn K mainGlobals "int" = some none) (z_isinstance:PySem.W.nsIn K mainGlobals "isinstance" = some none) (z_len:PySem.W.nsIn K mainGlobals "len" = some none) (z_list:PySem.W.nsIn K mainGlobals "list" = some none) (z_max:PySem.W.nsIn K mainGlobals "max" = some none) (z_min:PySem.W.nsIn K mainGlobals "min" = some none) (z_ord:PySem.W.nsIn K mainGlobals "ord" = some none) (z_range:PySem.W.nsIn K mainGlobals "range" = some none) (z_str:PySem.W.nsIn K mainGlobals "str" = some none) (z_sum:PySem.W.nsIn K mainGlobals "sum" = some none) (z_tuple:PySem.W.nsIn K mainGlobals "tuple" = some none) (z_zip:PySem.W.nsIn K mainGlobals "zip" = some none) {tk_FIRST_SIGN:Tok} (g_FIRST_SIGN:PySem.W.nsIn K mainGlobals "FIRST_SIGN" = some (some (.int 32 tk_FIRST_SIGN))) {tk_LAST_SIGN:Tok} (g_LAST_SIGN:PySem.W.nsIn K mainGlobals "LAST_SIGN" = some (some (.int 126 tk_LAST_SIGN))) {tk_PERCENT_SIGN:Tok} (g_PERCENT_SIGN:PySem.W.nsIn K mainGlobals "PERCENT_SIGN" = some (some (.int 37 tk_PERCENT_SIGN))) {tk_SIGNS:Tok} (g_SIGNS:PySem.W.nsIn K mainGlobals "SIGNS" = some (some (.str " !\"#$ &'()*+,-./0123456789:;<=>?@ABCDEFGHIJKLMNOPQRSTUVWXYZ[\\]^_`abcdefghijklmnopqrstuvwxyz{|}~" tk_SIGNS))) (xm:∃(P:Addr) (ca:Str→Addr),XM K mg P ca∧XF2 K (ca "Broken") P "Broken.__init__" (ET (top 4) 0)∧∀n∈(["Short"]:List Str),XN0 K (ca n)):∃(A:Fx→Addr) (fd:Fx→FuncData),Md K mg A fd∧A .law_=fa∧∀(s:Shared) (u:Value),BindsTo s (fd .law_) ⟨[u],[]⟩ [("script",u)]:=by
 obtain ⟨F,hF⟩:=Classical.axiomOfChoice H
 refine ⟨fun x=>(F x).1,fun x=>(F x).2,{ fn:=fun x=>(hF x).fn,mgs:=fun x=>PySem.W.mg_of X G (hF x).a,bd:=fun x=>(hF x).bd,xm:=xm,z_ValueError:=PySem.W.mg_none_of X G z_ValueError,z_abs:=PySem.W.mg_none_of X G z_abs,z_bool:=PySem.W.mg_none_of X G z_bool,z_int:=PySem.W.mg_none_of X G z_int,z_isinstance:=PySem.W.mg_none_of X G z_isinstance,z_len:=PySem.W.mg_none_of X G z_len,z_list:=PySem.W.mg_none_of X G z_list,z_max:=PySem.W.mg_none_of X G z_max,z_min:=PySem.W.mg_none_of X G z_min,z_ord:=PySem.W.mg_none_of X G z_ord,z_range:=PySem.W.mg_none_of X G z_range,z_str:=PySem.W.mg_none_of X G z_str,z_sum:=PySem.W.mg_none_of X G z_sum,z_tuple:=PySem.W.mg_none_of X G z_tuple,z_zip:=PySem.W.mg_none_of X G z_zip,g_FIRST_SIGN:=⟨tk_FIRST_SIGN,PySem.W.mg_of X G g_FIRST_SIGN⟩,g_LAST_SIGN:=⟨tk_LAST_SIGN,PySem.W.mg_of X G g_LAST_SIGN⟩,g_PERCENT_SIGN:=⟨tk_PERCENT_SIGN,PySem.W.mg_of X G g_PERCENT_SIGN⟩,g_SIGNS:=⟨tk_SIGNS,PySem.W.mg_of X G g_SIGNS⟩ },?_,fun s u=>?_⟩
 ·have e:=hmg.symm.trans (PySem.W.mg_of X G (hF .law_).a)
  cases e
  rfl
 ·obtain ⟨_,_,_,_,_,_,e⟩:=(hF .law_).eq
  show BindsTo s (F .law_).2 _ _
  rw [e]
  exact .of_eq rfl
theorem walk {l:PySem.W.OpenLaw} {q:Program} {loose:List Str} {XP:(Str→Option Value)→Heap→Prop} {YP:World→Heap→Prop} {d:DefRec} {K:Params→PySem.W.Frag} (m:Nat) (hm:Room (m + 2) callerA) (hn:l.most=some 63) (hdf:d.params.defaults=[])
 (hY:∀(w:World) (h:Heap),YP w h→(K w.params).In h) (lt:∀ns:List Int,ns.length≤63→∃S',run m .law_ [.scr ns] []=some (.bl true,S'))
 (F:∀(w:World) (mg:Str→Option Value) (fa:Addr) (h:Heap),(K w.params).In h→h.Ns mainGlobals mg→mg d.name=some (.ref fa)→
   ∃(A:Fx→Addr) (fd:Fx→FuncData),Md (K w.params) mg A fd∧A .law_=fa∧∀(s:Shared) (u:Value),BindsTo s (fd .law_) ⟨[u],[]⟩ [("script",u)]) :
 PySem.W.WalkO q loose XP YP l.row.toRowW d [] (fun f vs=>PySem.call f vs):=
 L2.R0 (n:=63) (k:=m + 2) (x:="script") (CX:=fun _=>CX0) (sp:=fun w=>spF (K w.params) (run m .law_)) hn (by decide) hdf hm hY
  (fun w mg fa h KX G hmg=>by obtain ⟨A,fd,M,e,b⟩:=F w mg fa h KX G hmg;subst e;exact ⟨fd .law_,b,fun base _ _=>all_ok M m .law_⟩)
  (fun w H a ns hl hO hS=>by obtain ⟨S',e⟩:=lt ns hl;exact N5 hO hS e) fun _ _ _ _ _ z=>z
theorem PJ (k:Nat):KC (run (k + 1) .Bv):=M1
theorem Ei (k:Nat):DrawOk (run (k + 1) .Af):=OX
theorem Ml (k:Nat):FarOk (run (k + 2) .AY):=Su (Ei k)
theorem La (k:Nat):LeafOk (run (k + 3) .Bk):=QZ (Ei (k + 1)) (Ml k)
theorem JU:∀(n k:Nat),n + 4≤k→FK (run k .AC) n
 | 0,k,h=>by
   obtain ⟨j,rfl⟩:∃j,k=j + 4:=⟨k - 4,by lia⟩
   exact fun a b c S deep x hd=>LE (Ei (j + 2)) (La j) (.inl rfl) a b c S deep x (by lia)
 | n + 1,k,h=>by
   obtain ⟨j,rfl⟩:∃j,k=j + 4:=⟨k - 4,by lia⟩
   exact LE (Ei (j + 2)) (La j) (.inr (JU n (j + 3) (by lia)))
theorem RC (k:Nat):F4 (run (k + 2) .Bl):=LG (Ei k)
theorem JT:∀(n k:Nat),n + 1≤k→G0 (run k .AB) n
 | 0,k,_=>fun s hs=>absurd s.depth_pos (by lia)
 | n + 1,k,h=>by
   obtain ⟨j,rfl⟩:∃j,k=j + 1:=⟨k - 1,by lia⟩
   exact OT (.inr (JT n j (by lia)))
theorem J7:∀(n k:Nat),n + 4≤k→F5 (run k .AD) n
 | 0,k,_=>fun s hs=>absurd s.depth_pos (by lia)
 | n + 1,k,h=>by
   obtain ⟨j,rfl⟩:∃j,k=j + 4:=⟨k - 4,by lia⟩
   exact OH (Ei (j + 2)) (JT n (j + 3) (by lia)) (RC (j + 1)) (Ml (j + 1)) (.inr (J7 n (j + 3) (by lia)))
theorem O7 (k:Nat):H0 (run (k + 1) .Bw):=QY
theorem R1 (k:Nat):Fv (run (k + 1) .A9):=P3
theorem JZ (k:Nat):Fv (run (k + 1) .AZ):=Q0
theorem IE:∀(n k:Nat),n + 2≤k→GZ (run k .AA) n
 | 0,k,_=>fun s hs=>absurd s.depth_pos (by lia)
 | n + 1,k,h=>by
   obtain ⟨j,rfl⟩:∃j,k=j + 2:=⟨k - 2,by lia⟩
   exact N6 (IE n (j + 1) (by lia)) (JZ j)
theorem LH:∀(n k:Nat),n + 1≤k→Gy (run k .A1) n
 | 0,k,h=>by
   obtain ⟨j,rfl⟩:∃j,k=j + 1:=⟨k - 1,by lia⟩
   exact Ox
 | n + 1,k,h=>by
   obtain ⟨j,rfl⟩:∃j,k=j + 1:=⟨k - 1,by lia⟩
   exact RD (LH n j (by lia))
theorem KJ (k:Nat):BX (run (k + 1) .A7):=Uc
theorem TW (k:Nat):UX (run (k + 2) .AH):=UH (KJ k)
theorem TL (k:Nat):SX (run (k + 2) .Bx):=Uz (PJ k) (KJ k)
theorem Ls:∀(n k:Nat),2 * n + 4≤k→Ib (run k .Ay) n
 | 0,k,_=>fun s hs=>absurd s.depth_pos (by lia)
 | n + 1,k,h=>by
   obtain ⟨j,rfl⟩:∃j,k=j + 5:=⟨k - 5,by lia⟩
   exact Os rfl rfl rfl rfl rfl (TW (j + 1)) (TL (j + 1)) (O7 (j + 2)) (KJ (j + 2)) (R1 (j + 2)) (Ls n (j + 3) (by lia))
theorem N9:LR9 (run 99 .Ba) 6:=N8 (Ls 6 98 (by decide))
theorem K7:∀(n k:Nat),2 * n + 3≤k→Kz (run k .A8) n
 | 0,k,_=>fun s hs=>absurd s.depth_pos (by lia)
 | n + 1,k,h=>by
   obtain ⟨j,rfl⟩:∃j,k=j + 3:=⟨k - 3,by lia⟩
   exact Ul (Pe (JZ j)) OD (Tw (K7 n (j + 1) (by lia))) (K7 n (j + 2) (by lia))
theorem Ly:∀(n k:Nat),n + 1≤k→G1 (run k .A0) n
 | 0,k,h=>by
   obtain ⟨j,rfl⟩:∃j,k=j + 1:=⟨k - 1,by lia⟩
   exact Lx (.inl rfl)
 | n + 1,k,h=>by
   obtain ⟨j,rfl⟩:∃j,k=j + 1:=⟨k - 1,by lia⟩
   exact Lx (.inr (Ly n j (by lia)))
theorem JN (k:Nat):HZ (run (k + 2) .AM):=OR (Ei k)
theorem MS:IS (run 99 .AX):=NJ (Ei 97) (JN 96)
theorem law_true (ns:List Int) (h:ns.length≤63):∃S',run 100 .law_ [.scr ns] []=some (.bl true,S'):=by
 obtain ⟨r,S',e,p⟩:=SE MS N9 (Ly 8 99 (by decide)) (LH 7 99 (by decide)) (K7 6 99 (by decide)) (J7 6 99 (by decide)) (IE 6 99 (by decide)) (Ei 98) (JN 97) (JU 6 99 (by decide)) (QG (ns:=ns) (.inl rfl))
 subst p
 exact ⟨S',e⟩
end K09
namespace PySem.W.Fast
def tw10011470652195541351:=0
def tw10029497886902103047:=0
def tw1006441048674622502:=0
def tw10165990637286851453:=0
def tw1017422349966623330:=0
def tw10234675403545308254:=0
def tw10409809417497285841:=0
def tw10419019582520587157:=0
def tw1046984013917668513:=0
def tw10508508267430432373:=0
def tw10566909382876565677:=0
def tw10609228798474856877:=0
def tw10724085046484090988:=0
def tw10832902409100367954:=0
def tw10859261042642009710:=0
def tw10909668754703924964:=0
def tw10910566609631438639:=0
def tw1103552341977724485:=0
def tw11042738187864969585:=0
def tw11118477047888053093:=0
def tw11141963041950027225:=0
def tw11168034405582984362:=0
def tw11255158603966095393:=0
def tw11389380182055883547:=0
def tw11392800817042361545:=0
def tw11395115058384278581:=0
def tw11510099042725126941:=0
def tw11543913652649120435:=0
def tw11571059449046316536:=0
def tw11588787454225558845:=0
def tw11602044390310534071:=0
def tw11629163543276583915:=0
def tw11647895918406379759:=0
def tw1165193597133072873:=0
def tw11729013671619020818:=0
def tw11781583718307787414:=0
def tw11815731955074297950:=0
def tw11840198159834987752:=0
def tw11849548162551122989:=0
def tw11860608341220933988:=0
def tw11905408039337875477:=0
def tw11938085181959632951:=0
def tw11991841253902428669:=0
def tw12030176211321225421:=0
def tw12429018349963304954:=0
def tw12429451383753128307:=0
def tw1243248929095585875:=0
def tw12543748736587260830:=0
def tw1258954532184562725:=0
def tw12619713244089146653:=0
def tw12627243184444009832:=0
def tw12664813954661418240:=0
def tw12845028000237128187:=0
def tw12900523903180258904:=0
def tw13030820475981390929:=0
def tw13062543932840667663:=0
def tw13084425261431104089:=0
def tw13113689500580043704:=0
def tw1315439256317228120:=0
def tw13263021521467098962:=0
def tw13318414142961247103:=0
def tw13418627365417019062:=0
def tw13603068056275430116:=0
def tw13640168618255890428:=0
def tw13677617047441245750:=0
def tw13704078197158722700:=0
def tw13707790674427801677:=0
def tw13708948657147457993:=0
def tw13775818807848181226:=0
def tw13802855210075017674:=0
def tw13855387033063339380:=0
def tw13954771889116847431:=0
def tw1398871124531048601:=0
def tw14007915534555385100:=0
def tw14012997336390045293:=0
def tw14210711372912439160:=0
def tw14371778142622987923:=0
def tw14401119430449887107:=0
def tw14627399750618472812:=0
def tw14644171758715480945:=0
def tw14645347814937218086:=0
def tw14685290702227233601:=0
def tw14724954960446208486:=0
def tw1475501155967123240:=0
def tw14759527088122561044:=0
def tw14767461091856475836:=0
def tw14818887762843698327:=0
def tw14846138787090745036:=0
def tw14888340068849641975:=0
def tw14917604738632388263:=0
def tw14926437156897338066:=0
def tw14933929002924429044:=0
def tw1495026081189984654:=0
def tw15075935470373808760:=0
def tw15134911919398049034:=0
def tw1514589838911277301:=0
def tw15323420879350507087:=0
def tw15395267280197771790:=0
def tw15445441639137598703:=0
def tw15544223233307393283:=0
def tw15553071079728679724:=0
def tw15868107009157485690:=0
def tw159325913529715661:=0
def tw15933271568227633034:=0
def tw16141407915740193248:=0
def tw16171759789379149718:=0
def tw16238446993817575726:=0
def tw16322746801024694795:=0
def tw16352350726643372612:=0
def tw16358289495275242537:=0
def tw16403990540384039436:=0
def tw16418631060964221583:=0
def tw16418983145453648113:=0
def tw16451590441416221170:=0
def tw16458756802221979554:=0
def tw16547867539295124576:=0
def tw1659121819303423573:=0
def tw16638602066048863253:=0
def tw16660258031859421457:=0
def tw16710299446946857961:=0
def tw16729349995705795180:=0
def tw16869497717848340919:=0
def tw16910574550480844449:=0
def tw16936947017913543601:=0
def tw17046352053942359319:=0
def tw17052243937996062996:=0
def tw17080484659063109881:=0
def tw17081956333139241077:=0
def tw17165523747815611292:=0
def tw17185805038803229852:=0
def tw17220847577947642269:=0
def tw17268800183390056735:=0
def tw17312471570142900979:=0
def tw17312776966771791610:=0
def tw17338391629493444550:=0
def tw17407776070661555810:=0
def tw1742572041803252652:=0
def tw17439858983505819455:=0
def tw17441598959293450222:=0
def tw17595394397234021638:=0
def tw17604401590199399090:=0
def tw17644743501101119505:=0
def tw17647941498291873623:=0
def tw17677376959233360126:=0
def tw1770646494585171757:=0
def tw17775704529015371650:=0
def tw17876879418573265164:=0
def tw1789212386217615464:=0
def tw17926565588976273595:=0
def tw17933022711043181685:=0
def tw18008273348565169457:=0
def tw18078662349538935186:=0
def tw18269180199626967018:=0
def tw18333854806150890399:=0
def tw18334420912381413900:=0
def tw18391383153482628004:=0
def tw18399942030572836183:=0
def tw18402561853583671304:=0
def tw1848539994895702906:=0
def tw1918165446072425624:=0
def tw1923372724798238729:=0
def tw1950587855617462839:=0
def tw1964374951537158433:=0
def tw1974597940666208878:=0
def tw202635920061172496:=0
def tw2028270796800561015:=0
def tw2037759936740395012:=0
def tw2068239087532359286:=0
def tw2068803825401365750:=0
def tw21142871214816057:=0
def tw2185559441490235201:=0
def tw2224898174594976215:=0
def tw2420009173701777417:=0
def tw2497061875977361212:=0
def tw2577738026710333932:=0
def tw2628772153390756303:=0
def tw2640403983542397860:=0
def tw2752981890845883072:=0
def tw2845577025250892003:=0
def tw2860899247894527953:=0
def tw2861997784600468455:=0
def tw2904178137147073505:=0
def tw2934667282619307699:=0
def tw2963176062347090043:=0
def tw3069631345361046046:=0
def tw3086835302435956704:=0
def tw3127400717887842444:=0
def tw3138782027836559092:=0
def tw3257376178866799998:=0
def tw3259763505854714026:=0
def tw3272432822150861698:=0
def tw3324234120648086996:=0
def tw3416648594756613677:=0
def tw3461687896917819381:=0
def tw3492141772325742940:=0
def tw3585772744410523962:=0
def tw368116290408494222:=0
def tw3689062126000367156:=0
def tw3702160458139446766:=0
def tw3717379675434100537:=0
def tw3759617057001012542:=0
def tw3831547815875290591:=0
def tw3847264110330365590:=0
def tw3860279973795560788:=0
def tw3939346048178758583:=0
def tw3942558096780201796:=0
def tw395625665319599234:=0
def tw3989174705865963867:=0
def tw3998268547816499429:=0
def tw4097674323823833100:=0
def tw4137276909187680262:=0
def tw4153462451462551852:=0
def tw4251813892368378850:=0
def tw4272288367748843415:=0
def tw4318593988774815774:=0
def tw432747370648980091:=0
def tw4367600511597708917:=0
def tw445016575267491738:=0
def tw4500440186819344597:=0
def tw4507734513598667282:=0
def tw4515027853319203960:=0
def tw4527045463110869428:=0
def tw4530886064656664435:=0
def tw4540694008505799064:=0
def tw4618228939509642360:=0
def tw4627809256091051356:=0
def tw4648132596439273625:=0
def tw4688909259610398693:=0
def tw4701674302767786844:=0
def tw4820453633685205368:=0
def tw4827445062396008579:=0
def tw4905076319011877887:=0
def tw4935804261882548879:=0
def tw4940215146467787705:=0
def tw5021942880562886767:=0
def tw5094816548064892877:=0
def tw5107610170940165619:=0
def tw5174710034173542170:=0
def tw5238471948712755082:=0
def tw5341640894908298600:=0
def tw5431941016483526898:=0
def tw5443419046372846543:=0
def tw5455816645679876193:=0
def tw5479534141565926982:=0
def tw5489877351127634898:=0
def tw5576069581338405456:=0
def tw5762188100328913250:=0
def tw5782784802793380866:=0
def tw5842355148066811828:=0
def tw5901981166041237361:=0
def tw5910161953702225341:=0
def tw5954995732550678981:=0
def tw6094635504966798213:=0
def tw6202191234991748229:=0
def tw6223553460323529728:=0
def tw6237416529160315390:=0
def tw6282230632524231333:=0
def tw6315047649609219377:=0
def tw6316875777436805262:=0
def tw6437089929641319946:=0
def tw6559912477378101956:=0
def tw6580066465850117539:=0
def tw662841900337763647:=0
def tw6724661739127651878:=0
def tw6764432858082083376:=0
def tw6831180413357389162:=0
def tw6864740395479304573:=0
def tw6895609532232893684:=0
def tw6954607745467382424:=0
def tw6959801670291297907:=0
def tw7054006913669672115:=0
def tw7142544882668976528:=0
def tw7160757893667881223:=0
def tw7402994183395767691:=0
def tw7420075353976044589:=0
def tw7517679356811280888:=0
def tw7536268985163645476:=0
def tw7577276752242189932:=0
def tw7719866655788958285:=0
def tw7735254214973322844:=0
def tw7736025794801501093:=0
def tw7768370124136767553:=0
def tw7851888662392126630:=0
def tw7893679568180928171:=0
def tw7918199976658333316:=0
def tw8017915482244984311:=0
def tw8027499647911442854:=0
def tw8032672331848202860:=0
def tw8102713438221593499:=0
def tw8108633762571968637:=0
def tw8120706835475242845:=0
def tw8143609455335777083:=0
def tw8158667692878573353:=0
def tw8312301415069484697:=0
def tw8430843447111430923:=0
def tw8445775933991031681:=0
def tw8483434780829480900:=0
def tw8488159819767461057:=0
def tw8654988242937019245:=0
def tw871841726928251520:=0
def tw8792995772276581292:=0
def tw8899706460386624740:=0
def tw8979733626704412097:=0
def tw9014772648556923753:=0
def tw9034535432355189885:=0
def tw9149641552997523346:=0
def tw9178263296119805266:=0
def tw9355485421772572522:=0
def tw9399586540847686098:=0
def tw9456368368782041389:=0
def tw9481681822275277093:=0
def tw9496812107352373390:=0
def tw9515541141062118080:=0
def tw9541104113370325493:=0
def tw9550160868976327690:=0
def tw9559220570305796293:=0
def tw9627819235343709014:=0
def tw966641885110889186:=0
def tw9667993344440134773:=0
def tw9714958688588159064:=0
def tw977784972536731109:=0
def tw9791819366264312760:=0
def tw9873508472123914360:=0
def tw9919738396496430787:=0
def tw9944629654573299102:=0
def tw9986148633644339644:=0
end PySem.W.Fast
open PySem PySem.W PyProof.Rows
set_option maxRecDepth 100000 in
set_option maxHeartbeats 0 in
theorem PySem.Challenge.cw_wireparley_k09_any_bytes_read_holds : PySem.Challenge.rw_wireparley_k09_any_bytes_read.Holds := by
 w_on;o_law;k_head;(case hw=>w_witness2)
 k_fill
 refine K09.walk (l:=PySem.Challenge.rw_wireparley_k09_any_bytes_read) 100 ⟨rfl,by decide,by decide⟩ rfl rfl (fun w h Y=>PySem.W.kIn_of Y) K09.law_true ?F
 case F=>
  intro w mg fa h KX G hmg
  refine' K09.fin_mk KX G hmg ?H ?z_ValueError ?z_abs ?z_bool ?z_int ?z_isinstance ?z_len ?z_list ?z_max ?z_min ?z_ord ?z_range ?z_str ?z_sum ?z_tuple ?z_zip ?g_FIRST_SIGN ?g_LAST_SIGN ?g_PERCENT_SIGN ?g_SIGNS ?xm
  (case H=>intro x;cases x <;> (refine' K09.at_mk ?a ?l ?c ?k;(case a=>k_is);(case l=>k_is);(case c=>k_is);(case k=>k_is)))
  (case z_ValueError=>k_is)
  (case z_abs=>k_is)
  (case z_bool=>k_is)
  (case z_int=>k_is)
  (case z_isinstance=>k_is)
  (case z_len=>k_is)
  (case z_list=>k_is)
  (case z_max=>k_is)
  (case z_min=>k_is)
  (case z_ord=>k_is)
  (case z_range=>k_is)
  (case z_str=>k_is)
  (case z_sum=>k_is)
  (case z_tuple=>k_is)
  (case z_zip=>k_is)
  (case g_FIRST_SIGN=>k_is)
  (case g_LAST_SIGN=>k_is)
  (case g_PERCENT_SIGN=>k_is)
  (case g_SIGNS=>k_is)
  (case xm=>refine' K09.xm_all KX G ?x_p ?x_a1 ?x_a2 ?x_a3 ?x_a4 ?x_a5 ?x_a6 ?x_a7 ?x_q ?x_nd ?y_fi ?y_l ?y_ii ?y_hf ?y_hs ?y_cc ?y_k ?x_n2;(case x_p=>k_is);(case x_a1=>k_is);(case x_a2=>k_is);(case x_a3=>k_is);(case x_a4=>k_is);(case x_a5=>k_is);(case x_a6=>k_is);(case x_a7=>k_is);(case x_q=>kernel_rfl);(case x_nd=>decide);(case y_fi=>k_is);(case y_l=>k_is);(case y_ii=>kernel_rfl);(case y_hf=>k_is);(case y_hs=>k_is);(case y_cc=>k_is);(case y_k=>k_is);(case x_n2=>kernel_rfl))
