import PyProof.Rows.All
import Wide.All
import OpenK.AllK
import Wide.FinOn
import Lean
import PyProof.EqAt
import PyProof.EqKinds
import PyProof.TupleCall
import PyProof.NeKinds
import PyProof.ListMulRoad
import PyProof.MaxThree
import PyProof.Rows.StrJoinMade
import PyProof.ListStr
import PyProof.Rows.MinMaxN
import PyProof.Rows.Range3
import PyProof.ListRange
import PyProof.Rows.SetFrom
import PyProof.Rows.StrCase
import PyProof.SumAny
import PyProof.AutoIntG2
import PyProof.AutoListH
import PyProof.EnumStmt
import PyProof.EnumFor
import PyProof.EnumMake
import PyProof.Rows.EnumRows
import PyProof.ConsumeS
import PyProof.Rows.SortWalk
import KE.KDictSum
import PyProof.ZipIter
import KE.KEqDict
import PyProof.ExcClass2
import PyProof.RaisesMany
import PyProof.ExcBaseAll.ValueError
import PyProof.RulesDel
import PyProof.RulesAs
import PyProof.ExcArgs
import PyProof.StrReplace2
import PyProof.StrOps
import PyProof.StrCalls2
import PyProof.StrLawsReplace
import PyProof.Rows.StrWeight2
import PyProof.Rows.StrSplitJoin
import PyProof.Rows.StrItems
import PySem.Challenge.RW_wireparley_k66_values_that_do_not_fit
noncomputable section
set_option Elab.async false
set_option linter.all false
set_option maxRecDepth 100000
namespace L2
open PySem PySem.Spec PyProof.Rows
abbrev Key:=Sum Int Str
def keyIs:Key→Value→Bool
 | .inl k,v=>Value.isInt k v
 | .inr x,v=>Value.isStrOf x v
def keyH (w:World):Key→Int
 | .inl k=>hashInt k
 | .inr x=>hashStr w x
theorem keyIs_shape:∀{k:Key} {v:Value},keyIs k v=true→(∃i t,k=Sum.inl i∧v=Value.int i t)∨(∃x t,k=Sum.inr x∧v=Value.str x t)
 | .inl i,v,h=>by
   obtain ⟨t,e⟩:=Value.isInt_shape (k:=i) (v:=v) h
   exact .inl ⟨i,t,rfl,e⟩
 | .inr x,v,h=>by
   obtain ⟨t,e⟩:=Value.isStrOf_shape (x:=x) (v:=v) h
   exact .inr ⟨x,t,rfl,e⟩
theorem keyIs_int (i:Int) (t:Tok):keyIs (.inl i) (.int i t)=true:=by simp [keyIs,Value.isInt]
theorem keyIs_str (x:Str) (t:Tok):keyIs (.inr x) (.str x t)=true:=by simp [keyIs,Value.isStrOf]
theorem key_ll (a b:Int):decide ((Sum.inl a:Key)=Sum.inl b)=(a == b):=by
 by_cases e:a=b
 ·subst e;simp
 ·have h:¬(Sum.inl a:Key)=Sum.inl b:=fun q=>e (Sum.inl.inj q)
  rw [decide_eq_false h]
  exact (beq_eq_false_iff_ne.mpr e).symm
theorem key_rr (a b:Str):decide ((Sum.inr a:Key)=Sum.inr b)=decide (a=b):=by
 by_cases e:a=b
 ·subst e;simp
 ·have h:¬(Sum.inr a:Key)=Sum.inr b:=fun q=>e (Sum.inr.inj q)
  rw [decide_eq_false h,decide_eq_false e]
theorem key_lr (a:Int) (b:Str):decide ((Sum.inl a:Key)=Sum.inr b)=false:=decide_eq_false (fun q=>nomatch q)
theorem key_rl (a:Str) (b:Int):decide ((Sum.inr a:Key)=Sum.inl b)=false:=decide_eq_false (fun q=>nomatch q)
def mixKind (prog:Program) (w:World):PySem.KeyKind prog w Key where
 is:=keyIs
 hash:=keyH w
 inj:=fun v a b ha hb=>by
  rcases keyIs_shape ha with ⟨i,t,rfl,rfl⟩ | ⟨x,t,rfl,rfl⟩
  ·rcases keyIs_shape hb with ⟨j,u,rfl,e⟩ | ⟨y,u,rfl,e⟩
   ·injection e with e1 _;rw [e1]
   ·exact nomatch e
  ·rcases keyIs_shape hb with ⟨j,u,rfl,e⟩ | ⟨y,u,rfl,e⟩
   ·exact nomatch e
   ·injection e with e1 _;rw [e1]
 byValue:=fun k v h=>by
  rcases keyIs_shape h with ⟨i,t,rfl,rfl⟩ | ⟨x,t,rfl,rfl⟩ <;> rfl
 pyHash:=fun hv h=>by
  rcases keyIs_shape hv with ⟨i,t,rfl,rfl⟩ | ⟨x,t,rfl,rfl⟩
  ·exact wpAny_pyHash_int h
  ·exact wpAny_pyHash_str h
 eqBool:=fun hu hv h=>by
  rcases keyIs_shape hu with ⟨i,t,rfl,rfl⟩ | ⟨x,t,rfl,rfl⟩
  ·rcases keyIs_shape hv with ⟨j,u,rfl,rfl⟩ | ⟨y,u,rfl,rfl⟩
   ·rw [key_ll] at h;exact wpAny_eqBool_int h
   ·rw [key_lr] at h;exact SeqAt.EqAt.int_str i t y u _ _ _ _ h
  ·rcases keyIs_shape hv with ⟨j,u,rfl,rfl⟩ | ⟨y,u,rfl,rfl⟩
   ·rw [key_rl] at h;exact SeqAt.EqAt.str_int x t j u _ _ _ _ h
   ·rw [key_rr] at h;exact wpAny_eqBool_str h
 «strs»:=fun k x t v h=>by
  rcases keyIs_shape h with ⟨i,u,rfl,e⟩ | ⟨y,u,rfl,e⟩
  ·exact nomatch e
  ·injection e with e1 _
   subst e1
   cases v <;> rfl
theorem mixKind_int (prog:Program) (w:World) (i:Int) (t:Tok):(mixKind prog w).is (.inl i) (.int i t)=true:=keyIs_int i t
theorem mixKind_str (prog:Program) (w:World) (x:Str) (t:Tok):(mixKind prog w).is (.inr x) (.str x t)=true:=keyIs_str x t
end L2
namespace L2
open PySem PySem.Spec PyProof.Rows
inductive V where
 | non | bl (b:Bool) | int (i:Int) | str (x:Str) | byt (b:Array UInt8) | flt (b:UInt64) | ref (a:Addr) | ty (n:String)
 deriving DecidableEq
def RelV:V→Value→Prop
 | .non,u=>u=Value.none
 | .bl b,u=>u=Value.bool b
 | .int i,u=>∃t,u=Value.int i t
 | .str x,u=>∃t,u=Value.str x t
 | .byt b,u=>∃t,u=Value.bytes b t
 | .flt b,u=>∃t,u=Value.float b t
 | .ref a,u=>u=Value.ref a
 | .ty n,u=>u=Value.type n
abbrev Vals:List V→List Value→Prop:=Paired RelV
theorem Vals.length {xs:List V} {us:List Value} (r:Vals xs us):xs.length=us.length:=Paired.length r
theorem Vals.get:∀{xs:List V} {us:List Value} {i:Nat} {x:V},Vals xs us→xs[i]?=some x→∃u,us[i]?=some u∧RelV x u
 | _,_,_,_,.nil,e=>by simp at e
 | _,_,0,_,.cons r _,e=>by simp at e;subst e;exact ⟨_,rfl,r⟩
 | _,_,i + 1,x,.cons _ t,e=>by
   obtain ⟨u,h1,h2⟩:=Vals.get (i:=i) (x:=x) t (by simpa using e)
   exact ⟨u,by simpa using h1,h2⟩
theorem Vals.set {x:V} {u:Value} (r:RelV x u):∀{xs:List V} {us:List Value} (i:Nat),Vals xs us→Vals (xs.set i x) (us.set i u)
 | _,_,_,.nil=>.nil
 | _,_,0,.cons _ t=>.cons r t
 | _,_,i + 1,.cons q t=>.cons q (Vals.set r i t)
theorem Vals.append:∀{xs ys:List V} {us ws:List Value},Vals xs us→Vals ys ws→Vals (xs++ys) (us++ws)
 | _,_,_,_,.nil,s=>s
 | _,_,_,_,.cons r t,s=>.cons r (Vals.append t s)
theorem Vals.take:∀{xs:List V} {us:List Value} (n:Nat),Vals xs us→Vals (xs.take n) (us.take n)
 | _,_,0,_=>.nil
 | _,_,_ + 1,.nil=>.nil
 | _,_,n + 1,.cons r t=>.cons r (Vals.take n t)
theorem Vals.drop:∀{xs:List V} {us:List Value} (n:Nat),Vals xs us→Vals (xs.drop n) (us.drop n)
 | _,_,0,r=>r
 | _,_,_ + 1,.nil=>.nil
 | _,_,n + 1,.cons _ t=>Vals.drop n t
def RelO:Option V→Option Value→Prop
 | some v,some u=>RelV v u
 | none,none=>True
 | _,_=>False
def KV {κ:Type}:List (κ×V)→List (κ×Value)→Prop:=Paired fun (p:κ×V) (q:κ×Value)=>p.1=q.1∧RelV p.2 q.2
def kV:Key→V
 | .inl i=>.int i
 | .inr x=>.str x
inductive HO where
 /-- a list -/
 | lst (xs:List V)
 /-- a tuple (never changes) -/
 | tup (xs:List V)
 /-- a dict whose keys are ints and texts;one whose keys are tuples of ints and texts (the empty one is both) -/
 | dK (kvs:List (Key×V)) | dT (kvs:List (List Key×V))
 /-- a set of ints: its members,its size -/
 | set (S:Int→Bool) (n:Nat)
 /-- an instance of the class at C,its dict at dx,its attributes -/
 | ins (C dx:Addr) (fs:List (Str×V))
 /-- the dict of the instance at x -/
 | own (x:Addr)
 /-- the dict of an exception -/
 | xd (fs:List (Str×V))
 /-- a bound method,f of x -/
 | met (f x:Addr)
 /-- a range object lo,lo + 1,.. below hi -/
 | rng (lo hi:Int)
 /-- a thing that is known to the object (the script;a dict while a loop walks it): read,never written while it is so -/
 | frz (o:Obj) (u:HO)
 /-- a code object's table -/
 | tbl (ps:Array Value)
 /-- any other thing,by what is true of its one object (a def of one's own: SetO a S n:=HO.ext fun h=>..) -/
 | ext (φ:Heap→Prop)
abbrev Hp:=Addr→Option HO
def upd (H:Hp) (a:Addr) (o:HO):Hp:=fun b=>if b=a then some o else H b
theorem upd_same {H:Hp} {a:Addr} {o:HO}:upd H a o a=some o:=by unfold upd;rw [if_pos rfl]
theorem upd_ne {H:Hp} {a b:Addr} {o:HO} (h:b≠a):upd H a o b=H b:=by unfold upd;rw [if_neg h]
theorem ne_of_none {H:Hp} {a b:Addr} {o:HO} (h:H a=some o) (h':H b=none):a≠b:=by
 intro e;subst e;rw [h] at h';cases h'
section
variable (P:Program) (w:World)
def ObjOk (H:Hp) (h:Heap) (a:Addr):HO→Prop
 | .lst xs=>xs.length≤sizeLine∧∃(its:List Value) (n:Nat),Vals xs its∧h.get? a=some { cls:=.type "list",data:=.seq its.toArray n }
 | .tup xs=>xs.length≤sizeLine∧∃its:List Value,Vals xs its∧IsTup h a its.toArray
 | .dK kvs=>kvs.length≤sizeLine∧(a == sysModules)=false∧∃vs,KV kvs vs∧h.DictOf (mixKind P w) a vs
 | .dT kvs=>kvs.length≤sizeLine∧(a == sysModules)=false∧∃xs:List (List Key×Addr×Value),
    Paired (fun (p:List Key×V) (q:List Key×Addr×Value)=>p.1=q.1∧H q.2.1=some (.tup (p.1.map kV))∧RelV p.2 q.2.2) kvs xs∧
    ∃o es ep,h.get? a=some o∧o.ExactDict∧o.data = .dict es ep∧es.toList=xs.map (entryOfKey (tupleKind (mixKind P w)))∧(xs.map (·.1)).Nodup
 | .set S n=>h.SetOf (intKind P w) a S n
 | .ins C dx fs=>H dx=some (.own a)∧fs.length≤1000∧dx≠a∧h.get? a=some (PySem.W.instObj C dx)∧
    ∃mA,h.Ns1 dx mA∧(∀f,RelO (fs.lookup f) (mA f))∧PySem.Within mA (fs.map (·.1))
 | .own _=>∃o,h.get? a=some o
 | .xd fs=>∃mA,h.Ns1 a mA∧∀f,RelO (fs.lookup f) (mA f)
 | .rng lo hi=>∃t u v,h.get? a=some { cls:=.type "range",data:=.fields #[.int lo t,.int hi u,.int 1 v] }
 | .frz o u=>h.get? a=some o∧ObjOk H h a u
 | .tbl ps=>h.get? a=some { cls:=.none,data:=.fields ps }
 | .met f x=>h.get? a=some (PySem.W.methodObj (.ref f) (.ref x))
 | .ext φ=>φ h∧(∃o,h.get? a=some o)∧∀h1 h2:Heap,φ h1→(∀o,h1.get? a=some o→h2.get? a=some o)→φ h2
def HOk (H:Hp) (h:Heap):Prop:=∀a o,H a=some o→ObjOk P w H h a o
end
section
variable {P:Program} {w:World} {H H':Hp} {h h':Heap} {a:Addr} {o:HO}
theorem ObjOk.lt (x:ObjOk P w H h a o):a < h.objs.size:=by
 cases o with
 | lst xs=>obtain ⟨_,_,_,_,e⟩:=x;exact Heap.lt_size e
 | tup xs=>obtain ⟨_,_,_,p⟩:=x;exact p.lt
 | dK kvs=>obtain ⟨_,_,_,_,o,_,_,e,_⟩:=x;exact Heap.lt_size e
 | dT kvs=>obtain ⟨_,_,_,_,o,_,_,e,_⟩:=x;exact Heap.lt_size e
 | set S n=>obtain ⟨o,_,_,_,e,_⟩:=x;exact Heap.lt_size e
 | ins C dx fs=>obtain ⟨_,_,_,e,_⟩:=x;exact Heap.lt_size e
 | own y=>obtain ⟨_,e⟩:=x;exact Heap.lt_size e
 | xd fs=>obtain ⟨_,⟨_,_,_,e,_⟩,_⟩:=x;exact Heap.lt_size e
 | rng lo hi=>obtain ⟨_,_,_,e⟩:=x;exact Heap.lt_size e
 | frz ob u=>obtain ⟨e,_⟩:=x;exact Heap.lt_size e
 | tbl ps=>exact Heap.lt_size (show h.get? a=some _ from x)
 | met f y=>exact Heap.lt_size (show h.get? a=some _ from x)
 | ext φ=>obtain ⟨_,⟨_,e⟩,_⟩:=x;exact Heap.lt_size e
theorem Paired.mapP {α β:Type} {F G:α→β→Prop}:∀{l₁:List α} {l₂:List β},Paired F l₁ l₂→(∀a b,F a b→G a b)→Paired G l₁ l₂
 | _,_,.nil,_=>.nil
 | _,_,.cons r t,f=>.cons (f _ _ r) (Paired.mapP t f)
theorem ObjOk.stay (x:ObjOk P w H h a o) (k:∀b u,(b=a∨H b=some (.own a))→h.get? b=some u→h'.get? b=some u)
 (ho:∀b,H b=some (.own a)→H' b=some (.own a)) (ht:∀b xs,H b=some (.tup xs)→H' b=some (.tup xs)):ObjOk P w H' h' a o:=by
 induction o with
 | lst xs=>obtain ⟨z,its,n,r,e⟩:=x;exact ⟨z,its,n,r,k _ _ (.inl rfl) e⟩
 | tup xs=>obtain ⟨z,its,r,ob,e,c⟩:=x;exact ⟨z,its,r,ob,k _ _ (.inl rfl) e,c⟩
 | dK kvs=>obtain ⟨z,y,vs,r,ob,es,ep,e,c⟩:=x;exact ⟨z,y,vs,r,ob,es,ep,k _ _ (.inl rfl) e,c⟩
 | dT kvs=>
   obtain ⟨z,y,xs,r,ob,es,ep,e,c⟩:=x
   exact ⟨z,y,xs,Paired.mapP r fun p q z=>⟨z.1,ht _ _ z.2.1,z.2.2⟩,ob,es,ep,k _ _ (.inl rfl) e,c⟩
 | set S n=>obtain ⟨ob,es,ep,t,e,c⟩:=x;exact ⟨ob,es,ep,t,k _ _ (.inl rfl) e,c⟩
 | ins C dx fs=>
   obtain ⟨d,z,ne,e,mA,⟨od,es,ep,e2,c⟩,r⟩:=x
   exact ⟨ho _ d,z,ne,k _ _ (.inl rfl) e,mA,⟨od,es,ep,k _ _ (.inr d) e2,c⟩,r⟩
 | own y=>obtain ⟨ob,e⟩:=x;exact ⟨ob,k _ _ (.inl rfl) e⟩
 | xd fs=>obtain ⟨mA,⟨od,es,ep,e,c⟩,r⟩:=x;exact ⟨mA,⟨od,es,ep,k _ _ (.inl rfl) e,c⟩,r⟩
 | rng lo hi=>obtain ⟨t,u,v,e⟩:=x;exact ⟨t,u,v,k _ _ (.inl rfl) e⟩
 | frz ob u ih=>obtain ⟨e,q⟩:=x;exact ⟨k _ _ (.inl rfl) e,ih q⟩
 | tbl ps=>
   have e:h.get? a=some { cls:=.none,data:=.fields ps }:=x
   show h'.get? a=some { cls:=.none,data:=.fields ps }
   exact k a _ (.inl rfl) e
 | met f y=>
   have e:h.get? a=some (PySem.W.methodObj (.ref f) (.ref y)):=x
   show h'.get? a=some (PySem.W.methodObj (.ref f) (.ref y))
   exact k a _ (.inl rfl) e
 | ext φ=>obtain ⟨p,⟨o,e⟩,st⟩:=x;exact ⟨st _ _ p fun o q=>k _ _ (.inl rfl) q,⟨o,k _ _ (.inl rfl) e⟩,st⟩
theorem HOk.lt (x:HOk P w H h) (e:H a=some o):a < h.objs.size:=(x a o e).lt
theorem HOk.fresh (x:HOk P w H h) (e:h.objs.size≤a):H a=none:=by
 cases q:H a with
 | none=>rfl
 | some u=>exact absurd (Nat.lt_of_lt_of_le (x.lt q) e) (Nat.lt_irrefl _)
theorem HOk.kept (x:HOk P w H h) (k:∀b u,h.get? b=some u→h'.get? b=some u):HOk P w H h':=fun a o e=>
 (x a o e).stay (fun b u _ q=>k b u q) (fun _ q=>q) fun _ _ q=>q
theorem HOk.laid (x:HOk P w H h) (k:∀b u,h.get? b=some u→h'.get? b=some u) (hp:h.objs.size≤a) (new:ObjOk P w (upd H a o) h' a o):HOk P w (upd H a o) h':=fun b u e=>by
 have hn:=x.fresh hp
 by_cases hb:b=a
 ·subst hb;rw [upd_same] at e;cases e;exact new
 ·rw [upd_ne hb] at e
  exact (x b u e).stay (fun c v _ q=>k c v q) (fun c q=>by rw [upd_ne (ne_of_none q hn)];exact q) fun c xs q=>by rw [upd_ne (ne_of_none q hn)];exact q
end
def Rd (H:Hp) (a:Addr) (u:HO):Prop:=H a=some u∨∃o,H a=some (.frz o u)
theorem Rd.of {H:Hp} {a:Addr} {u:HO} (h:H a=some u):Rd H a u:=.inl h
theorem Rd.ok {P:Program} {w:World} {H:Hp} {h:Heap} {a:Addr} {u:HO} (r:Rd H a u) (x:HOk P w H h):ObjOk P w H h a u:=by
 rcases r with r | ⟨o,r⟩
 ·exact x a u r
 ·obtain ⟨_,q⟩:=x a _ r
  exact q
def Mut:Option HO→Prop
 | some (.lst _)=>True
 | some (.dK _)=>True
 | some (.dT _)=>True
 | some (.set _ _)=>True
 | some (.ins _ _ _)=>True
 | some (.ext _)=>True
 | _=>False
section
variable {P:Program} {w:World} {H:Hp} {h h':Heap} {x e:Addr} {o':HO}
theorem HOk.write (ok:HOk P w H h) (mu:Mut (H x)) (he:e=x∨H e=some (.own x)) (k:∀b u,b≠e→h.get? b=some u→h'.get? b=some u) (heo:∃u,h'.get? e=some u)
 (new:ObjOk P w (upd H x o') h' x o'):HOk P w (upd H x o') h':=fun b u q=>by
 have nown:∀c y,H c=some (.own y)→c≠x:=fun c y r z=>by subst z;rw [r] at mu;exact mu
 have ntup:∀c xs,H c=some (.tup xs)→c≠x:=fun c xs r z=>by subst z;rw [r] at mu;exact mu
 by_cases hb:b=x
 ·subst hb;rw [upd_same] at q;cases q;exact new
 ·rw [upd_ne hb] at q
  by_cases hbe:b=e
  ·have q':H b=some (.own x):=by
    rcases he with z | z
    ·exact absurd (hbe.trans z) hb
    ·rw [hbe];exact z
   rw [q] at q';cases q'
   obtain ⟨v,hv⟩:=heo
   exact ⟨v,by rw [hbe];exact hv⟩
  ·refine (ok b u q).stay (fun c v hc r=>k c v ?_ r) (fun c r=>by rw [upd_ne (nown c b r)];exact r) fun c xs r=>by rw [upd_ne (ntup c xs r)];exact r
   rcases hc with rfl | hc
   ·exact hbe
   ·rintro rfl
    rcases he with z | z
    ·exact nown c b hc z
    ·rw [hc] at z;cases z;exact hb rfl
end
structure Un (fs ex:List Addr) (H H':Hp) (h h':Heap):Prop where
 keep:∀b o,h.get? b=some o→H b=none→b∉fs→b∉ex→h'.get? b=some o
 slot:∀b o,h.get? b=some o→H b=none→b∈fs→b∉ex→∃sl,h'.get? b=some { o with slots:=sl }
 free:∀b o,h.get? b=some o→H b=none→b∉ex→H' b=none
 there:∀b o,h.get? b=some o→b∉ex→∃o',h'.get? b=some o'
 tups:∀b xs,H b=some (.tup xs)→H' b=some (.tup xs)
 frzs:∀b o u,H b=some (.frz o u)→H' b=some (.frz o u)
 tbls:∀b ps,H b=some (.tbl ps)→∃more,H' b=some (.tbl (ps++more))
section
variable {fs fs' ex ex':List Addr} {H H1 H2:Hp} {h h1 h2 h':Heap} {a x e:Addr} {o:HO}
theorem Un.any (u:Un fs ex H H1 h h1) {b:Addr} {ob:Obj} (q:h.get? b=some ob) (n:H b=none) (hx:b∉ex):∃sl,h1.get? b=some { ob with slots:=sl }:=by
 by_cases hb:b∈fs
 ·exact u.slot b ob q n hb hx
 ·exact ⟨ob.slots,u.keep b ob q n hb hx⟩
theorem Un.trans (a:Un fs ex H H1 h h1) (b:Un fs ex H1 H2 h1 h2):Un fs ex H H2 h h2 where
 keep:=fun c ob q n hc hx=>b.keep c ob (a.keep c ob q n hc hx) (a.free c ob q n hx) hc hx
 slot:=fun c ob q n hc hx=>by
  obtain ⟨sl,e1⟩:=a.slot c ob q n hc hx
  obtain ⟨sl',e2⟩:=b.slot c _ e1 (a.free c ob q n hx) hc hx
  exact ⟨sl',e2⟩
 free:=fun c ob q n hx=>by
  obtain ⟨o',e1⟩:=a.there c ob q hx
  exact b.free c o' e1 (a.free c ob q n hx) hx
 there:=fun c ob q hx=>by
  obtain ⟨o',e1⟩:=a.there c ob q hx
  exact b.there c o' e1 hx
 tups:=fun c xs q=>b.tups c xs (a.tups c xs q)
 frzs:=fun c ob xs q=>b.frzs c ob xs (a.frzs c ob xs q)
 tbls:=fun c ps q=>by
  obtain ⟨m1,e1⟩:=a.tbls c ps q
  obtain ⟨m2,e2⟩:=b.tbls c _ e1
  exact ⟨m1++m2,by rw [e2,Array.append_assoc]⟩
theorem Un.kept (k:∀b u,h.get? b=some u→h'.get? b=some u):Un fs ex H H h h':=
 ⟨fun b ob q _ _ _=>k b ob q,fun b ob q _ _ _=>⟨ob.slots,k b ob q⟩,fun _ _ _ n _=>n,fun b ob q _=>⟨ob,k b ob q⟩,fun _ _ q=>q,fun _ _ _ q=>q,fun _ ps q=>⟨#[],by rw [q];simp⟩⟩
theorem Un.refl:Un fs ex H H h h:=Un.kept fun _ _ q=>q
theorem Un.laid (k:∀b u,h.get? b=some u→h'.get? b=some u) (hp:h.objs.size≤a) (hn:H a=none):Un fs ex H (upd H a o) h h' where
 keep:=fun b u q _ _ _=>k b u q
 slot:=fun b u q _ _ _=>⟨u.slots,k b u q⟩
 free:=fun b u q n _=>by rw [upd_ne (Nat.ne_of_lt (Nat.lt_of_lt_of_le (Heap.lt_size q) hp))];exact n
 there:=fun b u q _=>⟨u,k b u q⟩
 tups:=fun b xs q=>by rw [upd_ne (ne_of_none q hn)];exact q
 frzs:=fun b u xs q=>by rw [upd_ne (ne_of_none q hn)];exact q
 tbls:=fun b ps q=>⟨#[],by rw [upd_ne (ne_of_none q hn),q];simp⟩
theorem Un.write (mu:Mut (H x)) (he:e=x∨H e=some (.own x)) (k:∀b u,b≠e→h.get? b=some u→h'.get? b=some u) (heo:∃u,h'.get? e=some u):Un fs ex H (upd H x o) h h':=by
 have hx:∀b,H b=none→b≠x:=fun b n z=>by subst z;rw [n] at mu;exact mu
 have hb:∀b,H b=none→b≠e:=fun b n z=>by
  subst z
  rcases he with r | r
  ·exact hx b n r
  ·rw [n] at r;cases r
 have hm:∀b u,H b=some u→¬Mut (some u)→b≠x:=fun b u q nm z=>by subst z;rw [q] at mu;exact nm mu
 refine ⟨fun b u q n _ _=>k b u (hb b n) q,fun b u q n _ _=>⟨u.slots,k b u (hb b n) q⟩,fun b u q n _=>by rw [upd_ne (hx b n)];exact n,fun b u q _=>?_,
  fun b xs q=>by rw [upd_ne (hm b _ q fun z=>z)];exact q,fun b u xs q=>by rw [upd_ne (hm b _ q fun z=>z)];exact q,fun b ps q=>⟨#[],by rw [upd_ne (hm b _ q fun z=>z),q];simp⟩⟩
 by_cases hbe:b=e
 ·subst hbe;exact heo
 ·exact ⟨u,k b u hbe q⟩
end
def trk (h:Heap) (H:Hp):List Addr:=(List.range h.objs.size).filter fun a=>(H a).isSome
def hidT (h:Heap) (H:Hp):Heap:=PySem.W.hideAll h (trk h H)
theorem hidT_size (h:Heap) (H:Hp):(hidT h H).objs.size=h.objs.size:=PySem.W.hideAll_size _ _
theorem hidT_get {h:Heap} {H:Hp} {b:Addr} {o:Obj} (e:h.get? b=some o) (n:H b=none):(hidT h H).get? b=some o:=
 PySem.W.hideAll_get _ e fun hm=>by
  have q:(H b).isSome=true:=(List.mem_filter.mp hm).2
  rw [n] at q;simp at q
theorem of_hidT {h:Heap} {H:Hp} {b:Addr} {o:Obj} (e:(hidT h H).get? b=some o):h.get? b=some o∧H b=none:=by
 have e':h.get? b=some o:=PySem.W.of_hideAll (trk h H) e
 refine ⟨e',?_⟩
 cases q:H b with
 | none=>rfl
 | some x=>
   have hm:b∈trk h H:=List.mem_filter.mpr ⟨List.mem_range.mpr (Heap.lt_size e'),by simp [q]⟩
   have z:(hidT h H).get? b=none:=PySem.W.hideAll_none (trk h H) hm
   rw [z] at e;cases e
def allNews (g h:Heap) (L:Addr):List (Addr×Obj):=(List.range h.objs.size).filterMap fun a=>if a=L∨(g.get? a).isSome=true then none else (h.get? a).map fun o=>(a,o)
def rest (g h:Heap) (L d:Addr):List (Addr×Obj):=(allNews g h L).filter fun p=>decide (p.1≠d)
end L2
namespace L2
open PySem PySem.Spec PyProof.Rows
structure Mod (K:PySem.W.Frag) (mg:Str→Option Value) (base:Heap):Prop where
 kin:K.In base
 glob:base.Ns mainGlobals mg
 blt:∃mb,base.Ns builtinsNs mb∧∀x:Str,x≠"__name__"→mb x=bootBuiltins x
 nolimit:base.NoLimit
structure Cx where
 prog:Program
 w:World
 K:PySem.W.Frag
 mg:Str→Option Value
 base:Heap
 A:Around
 N:List Str
 s₀:Shared
 H₀:Hp
 env:Env
 outer:List Env
 stack:List Env
 ex:List Addr
 fn:Str→Bool
 calm:Bool
 pn:List (Addr×Obj)
 xe:Value→Shared→Prop
def frs (l:List Env):List Addr:=l.filterMap (·.frame)
abbrev Cx.fs (X:Cx):List Addr:=frs X.outer
def Vis (sc:Scope) (x:Str):Prop:=sc.names.lookup x=some .local∨sc.names.lookup x=some .cell∨sc.names.lookup x=some .free
def Loc (sc:Scope) (x:Str):Prop:=sc.names.lookup x=some .local∨sc.names.lookup x=some .cell
def Look (env:Env) (h:Heap) (m:Str→Option Value) (x:Str) (u:Value):Prop:=
 (env.kindOf x=some .local∧m x=some u)∨((env.kindOf x=some .cell∨env.kindOf x=some .free)∧∃c,env.cells.lookup x=some c∧h.IsCell c (some u))
structure Cx.Ok (X:Cx):Prop where
 mod:Mod X.K X.mg X.base
 kind:X.env.scope.kind = .function
 glob:X.env.globals=mainGlobals
 blt:X.env.builtins=builtinsNs
 above:X.s₀.heap.objs.size≤X.env.locals
 inj:∀x y c,X.env.cells.lookup x=some c→X.env.cells.lookup y=some c→x=y
 has:∀x,(X.env.kindOf x=some .cell∨X.env.kindOf x=some .free)→∃c,X.env.cells.lookup x=some c
 cab:∀x c,X.fn x=true→X.env.cells.lookup x=some c→X.s₀.heap.objs.size≤c
 hd:X.calm=true→X.A.handled=none
 frames:X.A.frames=some X.stack
 stk:X.stack=X.outer∨(X.stack=X.env :: X.outer∧X.env.frame=some X.env.locals)
 exf:∀b∈X.ex,b≠X.env.locals∧∀x c,X.env.cells.lookup x=some c→c≠b
 bs:∀b o,X.base.get? b=some o→X.s₀.heap.get? b=some o∧X.H₀ b=none
 bsz:X.base.objs.size≤X.s₀.heap.objs.size
 noex:∀b o,X.base.get? b=some o→b∉X.ex
 exfs:∀b∈X.ex,b∉X.fs
 funs:X.s₀.heap.FunFrames X.base X.outer
 frf:∀b∈X.fs,X.H₀ b=none
def TKof (K:PySem.W.Frag):Nat:=match PySem.W.nsIn K mainGlobals "QUOTE" with
 | some (some (.str _ t))=>t + 1
 | _=>0
structure Inv (X:Cx) (pins:List (Addr×Obj)) (σ:List (Option V)) (H:Hp) (s:Shared):Prop where
 ok:X.Ok
 os:s.os=X.s₀.os
 bare:AllBare s.gens
 base:Un X.fs X.ex X.H₀ H X.s₀.heap s.heap
 loc:∃m,s.heap.Ns X.env.locals m∧∀(i:Nat) (x:Str) (v:V),X.N[i]?=some x→σ[i]?=some (some v)→Vis X.env.scope x→∃u,RelV v u∧Look X.env s.heap m x u
 cell:∀x c,X.env.cells.lookup x=some c→∃v,s.heap.IsCell c v
 free:H X.env.locals=none
 freeC:∀x c,X.env.cells.lookup x=some c→H c=none
 pin:∀p∈X.pn++pins,s.heap.get? p.1=some p.2∧H p.1=none∧p.1≠X.env.locals∧p.1∉X.fs∧∀v,p.2.data≠.cell v
 hok:HOk X.prog X.w H s.heap
 len:σ.length=X.N.length
 tk:TKof X.K≤s.toks
section
variable {X:Cx} {pins:List (Addr×Obj)} {σ:List (Option V)} {H H':Hp} {s:Shared} {h':Heap}
theorem Cx.Ok.nofr (ok:X.Ok) {b:Addr} {o:Obj} (e:X.base.get? b=some o):b∉X.fs:=fun hb=>by
 have:=(ok.funs.mem hb).1
 rw [e] at this;cases this
theorem Inv.bs (I:Inv X pins σ H s):∀b o,X.base.get? b=some o→s.heap.get? b=some o∧H b=none:=fun b o e=>
 ⟨I.base.keep b o (I.ok.bs b o e).1 (I.ok.bs b o e).2 (I.ok.nofr e) (I.ok.noex b o e),I.base.free b o (I.ok.bs b o e).1 (I.ok.bs b o e).2 (I.ok.noex b o e)⟩
theorem Inv.bk (I:Inv X pins σ H s):∀b o,X.base.get? b=some o→s.heap.get? b=some o:=fun b o e=>(I.bs b o e).1
theorem Inv.mod (I:Inv X pins σ H s):Mod X.K X.mg X.base:=I.ok.mod
theorem Inv.kIn (I:Inv X pins σ H s):X.K.In s.heap:=I.ok.mod.kin.keeps I.bk
theorem Inv.nolimit (I:Inv X pins σ H s):s.heap.NoLimit:=I.ok.mod.nolimit.keeps I.bk
theorem Inv.fr (I:Inv X pins σ H s):∃m,Fr X.base X.env.locals s.heap m:=
 let ⟨m,hn,_⟩:=I.loc
 ⟨m,hn,I.bk,Nat.le_trans I.ok.bsz I.ok.above⟩
theorem Inv.lt (I:Inv X pins σ H s):X.env.locals < s.heap.objs.size:=let ⟨_,hn,_⟩:=I.loc;hn.lt
theorem Inv.sz (I:Inv X pins σ H s):X.s₀.heap.objs.size≤s.heap.objs.size:=Nat.le_trans I.ok.above (Nat.le_of_lt I.lt)
theorem Inv.nofs (I:Inv X pins σ H s) {a:Addr} (h:s.heap.objs.size≤a):a∉X.fs:=fun hb=>by
 obtain ⟨_,o,ho,_⟩:=I.ok.funs.mem hb
 exact absurd (Nat.lt_of_lt_of_le (Heap.lt_size ho) (Nat.le_trans I.sz h)) (Nat.lt_irrefl _)
theorem Inv.cne (I:Inv X pins σ H s):∀x c,X.env.cells.lookup x=some c→c≠X.env.locals:=fun x c e z=>by
 obtain ⟨v,o,ho,hd⟩:=I.cell x c e
 obtain ⟨m,⟨o',es,ep,ho',hd',_⟩,_⟩:=I.loc
 rw [z,ho'] at ho;cases ho;rw [hd'] at hd;cases hd
theorem Inv.funs (I:Inv X pins σ H s):s.heap.FunFrames X.base X.outer:=by
 have all:∀(l:List Env),(∀b∈frs l,b∈X.fs)→X.s₀.heap.FunFrames X.base l→s.heap.FunFrames X.base l:=by
  intro l
  induction l with
  | nil=>intro _ _;trivial
  | cons env r ih=>
    intro hs hl
    obtain ⟨hk,⟨L,o,hf,hn,ho,hd⟩,hr⟩:=hl
    have hL:L∈X.fs:=hs L (by unfold frs;rw [List.filterMap_cons,hf];exact List.mem_cons_self)
    obtain ⟨sl,e⟩:=I.base.slot L o ho (I.ok.frf L hL) hL fun z=>I.ok.exfs L z hL
    exact ⟨hk,⟨L,_,hf,hn,e,hd⟩,ih (fun b hb=>hs b (by unfold frs;rw [List.filterMap_cons,hf];exact List.mem_cons_of_mem _ hb)) hr⟩
 exact all X.outer (fun _ hb=>hb) I.ok.funs
theorem Inv.stack (I:Inv X pins σ H s):s.heap.FunFrames X.base X.stack:=by
 rcases I.ok.stk with e | ⟨e,hf⟩
 ·rw [e];exact I.funs
 ·rw [e]
  obtain ⟨m,hn,_⟩:=I.loc
  refine .cons (by rw [I.ok.kind];decide) hf hn ?_ I.funs
  exact Heap.get?_none_of_le (Nat.le_trans I.ok.bsz I.ok.above)
theorem Inv.stkSub (I:Inv X pins σ H s):∀b∈frs X.stack,b∈X.env.locals :: X.fs:=fun b hb=>by
 rcases I.ok.stk with e | ⟨e,hf⟩
 ·rw [e] at hb;exact List.mem_cons_of_mem _ hb
 ·rw [e] at hb
  unfold frs at hb
  rw [List.filterMap_cons,hf] at hb
  exact hb
theorem Inv.stkFree (I:Inv X pins σ H s):∀b∈frs X.stack,H b=none:=fun b hb=>by
 rcases List.mem_cons.mp (I.stkSub b hb) with e | hb
 ·rw [e];exact I.free
 ·obtain ⟨_,o,ho,_⟩:=I.ok.funs.mem hb
  exact I.base.free b o ho (I.ok.frf b hb) fun z=>I.ok.exfs b z hb
theorem Inv.step {g':Array GenState} {t':Nat} {d':Drawn} {ch:List Addr} (I:Inv X pins σ H s)
 (hch:∀b∈ch,(b∈X.ex∨X.s₀.heap.objs.size≤b)∧b≠X.env.locals∧(∀x c,X.env.cells.lookup x=some c→c≠b)∧∀p∈X.pn++pins,p.1≠b)
 (keep:∀b o,b≠X.env.locals→b∉X.fs→b∉ch→s.heap.get? b=some o→H b=none→h'.get? b=some o)
 (slot:∀b o,b≠X.env.locals→b∈X.fs→b∉ch→s.heap.get? b=some o→H b=none→∃sl,h'.get? b=some { o with slots:=sl }) (free:∀b o,b∉ch→s.heap.get? b=some o→H b=none→H' b=none)
 (there:∀b o,b∉ch→s.heap.get? b=some o→∃o',h'.get? b=some o')
 (tups:∀b xs,H b=some (.tup xs)→H' b=some (.tup xs)) (frzs:∀b o u,H b=some (.frz o u)→H' b=some (.frz o u)) (tbls:∀b ps,H b=some (.tbl ps)→∃more,H' b=some (.tbl (ps++more)))
 (ns:∀m,s.heap.Ns X.env.locals m→h'.Ns X.env.locals m) (hok:HOk X.prog X.w H' h') (hg:AllBare g') (ht:s.toks≤t':=by first | exact Nat.le_refl _ | assumption | omega | (dsimp only;omega)) :
 Inv X pins σ H' { s with heap:=h',gens:=g',drawn:=d',toks:=t' }:=by
 have neL:∀b o,X.s₀.heap.get? b=some o→b≠X.env.locals:=fun b o e=>Nat.ne_of_lt (Nat.lt_of_lt_of_le (Heap.lt_size e) I.ok.above)
 have neC:∀b o,X.s₀.heap.get? b=some o→b∉X.ex→b∉ch:=fun b o e hx hb=>by
  rcases (hch b hb).1 with z | z
  ·exact hx z
  ·exact absurd (Nat.lt_of_lt_of_le (Heap.lt_size e) z) (Nat.lt_irrefl _)
 have cellK:∀x c,X.env.cells.lookup x=some c→∀v,s.heap.IsCell c v→h'.IsCell c v:=fun x c e v ⟨o,ho,hd⟩=>by
  have nch:c∉ch:=fun z=>(hch c z).2.2.1 x c e rfl
  by_cases hc:c∈X.fs
  ·obtain ⟨sl,q⟩:=slot c o (I.cne x c e) hc nch ho (I.freeC x c e)
   exact ⟨_,q,hd⟩
  ·exact ⟨o,keep c o (I.cne x c e) hc nch ho (I.freeC x c e),hd⟩
 refine ⟨I.ok,I.os,hg,⟨fun b o e n hb hx=>?_,fun b o e n hb hx=>?_,fun b o e n hx=>?_,fun b o e hx=>?_,fun b xs e=>tups b xs (I.base.tups b xs e),fun b o xs e=>frzs b o xs (I.base.frzs b o xs e),fun b ps e=>?_⟩,?_,fun x c e=>?_,?_,fun x c e=>?_,fun p hp=>?_,hok,I.len,Nat.le_trans I.tk ht⟩
 ·exact keep b o (neL b o e) hb (neC b o e hx) (I.base.keep b o e n hb hx) (I.base.free b o e n hx)
 ·obtain ⟨sl,e1⟩:=I.base.slot b o e n hb hx
  obtain ⟨sl',e2⟩:=slot b _ (neL b o e) hb (neC b o e hx) e1 (I.base.free b o e n hx)
  exact ⟨sl',e2⟩
 ·obtain ⟨o',e1⟩:=I.base.there b o e hx
  exact free b o' (neC b o e hx) e1 (I.base.free b o e n hx)
 ·obtain ⟨o',e1⟩:=I.base.there b o e hx
  exact there b o' (neC b o e hx) e1
 ·obtain ⟨m1,e1⟩:=I.base.tbls b ps e
  obtain ⟨m2,e2⟩:=tbls b _ e1
  exact ⟨m1++m2,by rw [e2,Array.append_assoc]⟩
 ·obtain ⟨m,hn,hl⟩:=I.loc
  refine ⟨m,ns m hn,fun i x v e1 e2 e3=>?_⟩
  obtain ⟨u,r,l⟩:=hl i x v e1 e2 e3
  refine ⟨u,r,?_⟩
  rcases l with l | ⟨k,c,e,z⟩
  ·exact .inl l
  ·exact .inr ⟨k,c,e,cellK x c e _ z⟩
 ·obtain ⟨v,z⟩:=I.cell x c e
  exact ⟨v,cellK x c e v z⟩
 ·obtain ⟨m,⟨o,_,_,ho,_⟩,_⟩:=I.loc
  exact free _ o (fun z=>(hch _ z).2.1 rfl) ho I.free
 ·obtain ⟨v,o,ho,hd⟩:=I.cell x c e
  exact free c o (fun z=>(hch c z).2.2.1 x c e rfl) ho (I.freeC x c e)
 ·obtain ⟨e,n,ne,nf,d⟩:=I.pin p hp
  have nch:p.1∉ch:=fun z=>(hch p.1 z).2.2.2 p hp rfl
  exact ⟨keep p.1 p.2 ne nf nch e n,free p.1 p.2 nch e n,ne,nf,d⟩
theorem Inv.un {t':Nat} (I:Inv X pins σ H s) (u:Un X.fs [] H H' s.heap h') (hok:HOk X.prog X.w H' h') (ht:s.toks≤t':=by first | exact Nat.le_refl _ | assumption | omega | (dsimp only;omega)):Inv X pins σ H' { s with heap:=h',toks:=t' }:=by
 obtain ⟨m,⟨o,es,ep,ho,r⟩,_⟩:=id I.loc
 obtain ⟨sl,hL⟩:=u.any ho I.free (by simp)
 exact I.step (g':=s.gens) (d':=s.drawn) (ch:=[]) (fun _ z=>nomatch z) (fun b o _ hb _ e n=>u.keep b o e n hb (by simp)) (fun b o _ hb _ e n=>u.slot b o e n hb (by simp)) (fun b o _ e n=>u.free b o e n (by simp)) (fun b o _ e=>u.there b o e (by simp)) u.tups u.frzs u.tbls (fun m' hm=>by
  obtain ⟨o',es',ep',ho',r'⟩:=hm
  rw [ho] at ho';cases ho'
  exact ⟨_,es',ep',hL,r'⟩) hok I.bare
theorem Inv.call {g':Array GenState} {t':Nat} {d':Drawn} {ch:List Addr} (I:Inv X pins σ H s) (u:Un (frs X.stack) ch H H' s.heap h') (hok:HOk X.prog X.w H' h') (hg:AllBare g')
 (hch:∀b∈ch,(b∈X.ex∨X.s₀.heap.objs.size≤b)∧b≠X.env.locals∧(∀x c,X.env.cells.lookup x=some c→c≠b)∧∀p∈X.pn++pins,p.1≠b) (ht:s.toks≤t':=by first | exact Nat.le_refl _ | assumption | omega | (dsimp only;omega)) :
 Inv X pins σ H' { s with heap:=h',gens:=g',drawn:=d',toks:=t' }:=by
 obtain ⟨m,⟨o,es,ep,ho,r⟩,_⟩:=id I.loc
 obtain ⟨sl,hL⟩:=u.any ho I.free fun z=>(hch _ z).2.1 rfl
 exact I.step (ch:=ch) hch (fun b o hL hb hc e n=>u.keep b o e n (fun z=>(List.mem_cons.mp (I.stkSub b z)).elim hL hb) hc) (fun b o _ _ hc e n=>u.any e n hc) (fun b o hc e n=>u.free b o e n hc) (fun b o hc e=>u.there b o e hc) u.tups u.frzs u.tbls (fun m' hm=>by
  obtain ⟨o',es',ep',ho',r'⟩:=hm
  rw [ho] at ho';cases ho'
  exact ⟨_,es',ep',hL,r'⟩) hok hg
theorem Inv.turned {t':Nat} {it:Addr} (I:Inv X pins σ H s) (k:∀b o,b≠it→s.heap.get? b=some o→h'.get? b=some o) (hn:H it=none) (hL:it≠X.env.locals)
 (h1:it∈X.ex∨X.s₀.heap.objs.size≤it) (h2:∀x c,X.env.cells.lookup x=some c→c≠it) (h3:∀p∈X.pn++pins,p.1≠it) (ht:s.toks≤t':=by first | exact Nat.le_refl _ | assumption | omega | (dsimp only;omega)):Inv X pins σ H { s with heap:=h',toks:=t' }:=by
 have nit:∀b u,H b=some u→b≠it:=fun b u e z=>by rw [z,hn] at e;cases e
 refine I.step (g':=s.gens) (d':=s.drawn) (ch:=[it]) (fun b hb=>?_) (fun b o _ _ hc e _=>k b o (fun z=>hc (by simp [z])) e) (fun b o _ _ hc e _=>⟨o.slots,k b o (fun z=>hc (by simp [z])) e⟩) (fun _ _ _ _ n=>n)
  (fun b o hc e=>⟨o,k b o (fun z=>hc (by simp [z])) e⟩) (fun _ _ e=>e) (fun _ _ _ e=>e) (fun b ps e=>⟨#[],by rw [e];simp⟩) (fun m hm=>?_) (fun b u e=>?_) I.bare
 ·have e:b=it:=by simpa using hb
  subst e
  exact ⟨h1,hL,h2,h3⟩
 ·obtain ⟨o,es,ep,ho,r⟩:=hm
  exact ⟨o,es,ep,k _ o (Ne.symm hL) ho,r⟩
 ·refine (I.hok b u e).stay (fun c v hc q=>k c v ?_ q) (fun _ q=>q) fun _ _ q=>q
  rcases hc with z | z
  ·rw [z];exact nit b u e
  ·exact nit c _ z
theorem Inv.tok (I:Inv X pins σ H s) (t:Nat) (ht:s.toks≤t:=by first | exact Nat.le_refl _ | assumption | omega | (dsimp only;omega)):Inv X pins σ H { s with toks:=t }:=I.un (h':=s.heap) (t':=t) Un.refl I.hok
theorem Inv.kept {t':Nat} (I:Inv X pins σ H s) (k:∀b u,s.heap.get? b=some u→h'.get? b=some u) (ht:s.toks≤t':=by first | exact Nat.le_refl _ | assumption | omega | (dsimp only;omega)):Inv X pins σ H { s with heap:=h',toks:=t' }:=I.un (Un.kept k) (I.hok.kept k)
theorem Inv.laid {a:Addr} {o:HO} {t':Nat} (I:Inv X pins σ H s) (k:∀b u,s.heap.get? b=some u→h'.get? b=some u) (hp:s.heap.objs.size≤a) (new:ObjOk X.prog X.w (upd H a o) h' a o) (ht:s.toks≤t':=by first | exact Nat.le_refl _ | assumption | omega | (dsimp only;omega)) :
 Inv X pins σ (upd H a o) { s with heap:=h',toks:=t' }:=I.un (Un.laid k hp (I.hok.fresh hp)) (I.hok.laid k hp new)
theorem Inv.write {x e:Addr} {o:HO} {t':Nat} (I:Inv X pins σ H s) (mu:Mut (H x)) (he:e=x∨H e=some (.own x)) (k:∀b u,b≠e→s.heap.get? b=some u→h'.get? b=some u) (heo:∃u,h'.get? e=some u)
 (new:ObjOk X.prog X.w (upd H x o) h' x o) (ht:s.toks≤t':=by first | exact Nat.le_refl _ | assumption | omega | (dsimp only;omega)):Inv X pins σ (upd H x o) { s with heap:=h',toks:=t' }:=I.un (Un.write mu he k heo) (I.hok.write mu he k heo new)
theorem Inv.pins_of {pins':List (Addr×Obj)} (I:Inv X pins σ H s) (h:∀p∈pins',s.heap.get? p.1=some p.2∧H p.1=none∧p.1≠X.env.locals∧p.1∉X.fs∧∀v,p.2.data≠.cell v):Inv X pins' σ H s:=
 ⟨I.ok,I.os,I.bare,I.base,I.loc,I.cell,I.free,I.freeC,fun p hp=>(List.mem_append.mp hp).elim (fun z=>I.pin p (List.mem_append_left _ z)) (h p),I.hok,I.len,I.tk⟩
theorem nodup_ix {N:List Str} (hN:N.Nodup) {i j:Nat} {x:Str} (a:N[i]?=some x) (b:N[j]?=some x):i=j:=by
 obtain ⟨h1,e1⟩:=List.getElem?_eq_some_iff.mp a
 obtain ⟨h2,e2⟩:=List.getElem?_eq_some_iff.mp b
 exact (List.getElem_inj hN).mp (e1.trans e2.symm)
theorem store_ok2 {M:Model} {A:Around} {E:Value→Shared→Prop} {i:Nat} {x:Str} {v:V} {u:Value} {Q:Unit→Shared→Prop} (I:Inv X pins σ H s) (hN:X.N.Nodup) (hi:X.N[i]?=some x) (hx:Loc X.env.scope x) (r:RelV v u)
 (h:∀s',Inv X pins (σ.set i (some v)) H s'→(∃a,Heap.SameBut a s.heap s'.heap∧(a=X.env.locals∨X.env.cells.lookup x=some a))→Q () s') (hf:X.fn x=true∨X.env.scope.names.lookup x=some .local:=by first | exact .inl rfl | exact .inr rfl | assumption):wpAny M A (storeName X.env x u) Q E s:=by
 obtain ⟨m,hn,hl⟩:=id I.loc
 have hcls:(X.env.scope.kind == .class || (X.env.scope.kind == .module && X.env.locals != X.env.globals))=false:=by rw [I.ok.kind];rfl
 have hiσ:i < σ.length:=by rw [I.len];exact (List.getElem?_eq_some_iff.mp hi).1
 have cne:=I.cne
 have tracked:∀{a:Addr} {h':Heap},(∃o,s.heap.get? a=some o∧H a=none)→Heap.SameBut a s.heap h'→HOk X.prog X.w H h':=fun {a h'} ha hs b ob e=>by
  obtain ⟨_,_,hfree⟩:=ha
  refine (I.hok b ob e).stay (fun c w' hc q=>(hs.2 c ?_).trans q) (fun _ q=>q) fun _ _ q=>q
  rintro rfl
  rcases hc with rfl | hc
  ·rw [hfree] at e;cases e
  ·rw [hfree] at hc;cases hc
 rcases hx with hk | hk
 ·refine wpAny_storeName_local hk hn (fun h' hn' hs=>?_) hcls
  obtain ⟨oL,_,_,hoL,_⟩:=id hn
  refine h _ ⟨I.ok,I.os,I.bare,⟨fun b o e n hb hx=>?_,fun b o e n hb hx=>?_,I.base.free,fun b o e hx=>?_,I.base.tups,I.base.frzs,I.base.tbls⟩,⟨_,hn',fun j y v' e1 e2 e3=>?_⟩,fun y c e=>?_,I.free,I.freeC,fun p hp=>?_,tracked ⟨oL,hoL,I.free⟩ hs,by simpa using I.len,(by have:=I.tk;first | exact this | (dsimp only;omega))⟩ ⟨_,hs,.inl rfl⟩
  ·exact (hs.2 b (Nat.ne_of_lt (Nat.lt_of_lt_of_le (Heap.lt_size e) I.ok.above))).trans (I.base.keep b o e n hb hx)
  ·obtain ⟨sl,e1⟩:=I.base.slot b o e n hb hx
   exact ⟨sl,(hs.2 b (Nat.ne_of_lt (Nat.lt_of_lt_of_le (Heap.lt_size e) I.ok.above))).trans e1⟩
  ·obtain ⟨o',e1⟩:=I.base.there b o e hx
   exact ⟨o',(hs.2 b (Nat.ne_of_lt (Nat.lt_of_lt_of_le (Heap.lt_size e) I.ok.above))).trans e1⟩
  ·by_cases hj:j=i
   ·subst hj
    rw [hi] at e1;cases e1
    rw [List.getElem?_set_self hiσ] at e2
    cases e2
    exact ⟨u,r,.inl ⟨hk,by simp⟩⟩
   ·rw [List.getElem?_set_ne (Ne.symm hj)] at e2
    obtain ⟨u',r',q⟩:=hl j y v' e1 e2 e3
    refine ⟨u',r',?_⟩
    rcases q with ⟨k,e⟩ | ⟨k,c,e,z⟩
    ·refine .inl ⟨k,?_⟩
     have:y≠x:=fun e=>hj (nodup_ix hN e1 (e ▸ hi))
     simp [this,e]
    ·exact .inr ⟨k,c,e,z.sameBut hs (cne y c e)⟩
  ·obtain ⟨w',z⟩:=I.cell y c e
   exact ⟨w',z.sameBut hs (cne y c e)⟩
  ·obtain ⟨e,n,ne,nf,d⟩:=I.pin p hp
   exact ⟨(hs.2 p.1 ne).trans e,n,ne,nf,d⟩
 ·have hfn:X.fn x=true:=by
   rcases hf with z | z
   ·exact z
   ·rw [z] at hk;cases hk
  obtain ⟨c,hc⟩:=I.ok.has x (.inl hk)
  obtain ⟨w',z⟩:=I.cell x c hc
  refine wpAny_storeName_cell I.ok.kind hk hc z (fun h' hc' hs=>?_)
  obtain ⟨oc,hoc,hocd⟩:=id z
  refine h { s with heap:=h' } ⟨I.ok,I.os,I.bare,⟨fun b o e n hb hx=>?_,fun b o e n hb hx=>?_,I.base.free,fun b o e hx=>?_,I.base.tups,I.base.frzs,I.base.tbls⟩,⟨m,hn.sameBut hs (Ne.symm (cne x c hc)),fun j y v' e1 e2 e3=>?_⟩,fun y c' e=>?_,I.free,I.freeC,fun p hp=>?_,tracked ⟨oc,hoc,I.freeC x c hc⟩ hs,by simpa using I.len,(by have:=I.tk;first | exact this | (dsimp only;omega))⟩ ⟨c,hs,.inr hc⟩
  ·exact (hs.2 b (Nat.ne_of_lt (Nat.lt_of_lt_of_le (Heap.lt_size e) (I.ok.cab x c hfn hc)))).trans (I.base.keep b o e n hb hx)
  ·obtain ⟨sl,e1⟩:=I.base.slot b o e n hb hx
   exact ⟨sl,(hs.2 b (Nat.ne_of_lt (Nat.lt_of_lt_of_le (Heap.lt_size e) (I.ok.cab x c hfn hc)))).trans e1⟩
  ·obtain ⟨o',e1⟩:=I.base.there b o e hx
   exact ⟨o',(hs.2 b (Nat.ne_of_lt (Nat.lt_of_lt_of_le (Heap.lt_size e) (I.ok.cab x c hfn hc)))).trans e1⟩
  ·by_cases hj:j=i
   ·subst hj
    rw [hi] at e1;cases e1
    rw [List.getElem?_set_self hiσ] at e2
    cases e2
    exact ⟨u,r,.inr ⟨.inl hk,c,hc,hc'⟩⟩
   ·rw [List.getElem?_set_ne (Ne.symm hj)] at e2
    obtain ⟨u',r',q⟩:=hl j y v' e1 e2 e3
    refine ⟨u',r',?_⟩
    rcases q with q | ⟨k,c',e,z'⟩
    ·exact .inl q
    ·refine .inr ⟨k,c',e,z'.sameBut hs ?_⟩
     rintro rfl
     exact hj (nodup_ix hN e1 (I.ok.inj _ _ _ e hc ▸ hi))
  ·by_cases hcc:c'=c
   ·subst hcc;exact ⟨_,hc'⟩
   ·obtain ⟨w2,z2⟩:=I.cell y c' e
    exact ⟨w2,z2.sameBut hs hcc⟩
  ·obtain ⟨e,n,ne,nf,d⟩:=I.pin p hp
   refine ⟨(hs.2 p.1 ?_).trans e,n,ne,nf,d⟩
   intro q
   rw [q,hoc] at e
   have q':oc=p.2:=Option.some.inj e
   exact d w' (by rw [←q'];exact hocd)
theorem store_ok {M:Model} {A:Around} {E:Value→Shared→Prop} {i:Nat} {x:Str} {v:V} {u:Value} {Q:Unit→Shared→Prop} (I:Inv X pins σ H s) (hN:X.N.Nodup) (hi:X.N[i]?=some x) (hx:Loc X.env.scope x) (r:RelV v u)
 (h:∀s',Inv X pins (σ.set i (some v)) H s'→Q () s') (hf:X.fn x=true∨X.env.scope.names.lookup x=some .local:=by first | exact .inl rfl | exact .inr rfl | assumption):wpAny M A (storeName X.env x u) Q E s:=
 store_ok2 I hN hi hx r (fun s' I' _=>h s' I') hf
theorem Inv.call' {s':Shared} {ch:List Addr} (I:Inv X pins σ H s) (ho:s'.os=s.os) (u:Un (frs X.stack) ch H H' s.heap s'.heap) (hok:HOk X.prog X.w H' s'.heap) (hg:AllBare s'.gens)
 (hch:∀b∈ch,(b∈X.ex∨X.s₀.heap.objs.size≤b)∧b≠X.env.locals∧(∀x c,X.env.cells.lookup x=some c→c≠b)∧∀p∈X.pn++pins,p.1≠b) (ht:TKof X.K≤s'.toks):Inv X pins σ H' s':=by
 obtain ⟨h',g',d',t',o'⟩:=s'
 have e:o'=s.os:=ho
 subst e
 have J:=I.call (g':=g') (t':=s.toks) (d':=d') u hok hg hch
 exact ⟨J.ok,J.os,J.bare,J.base,J.loc,J.cell,J.free,J.freeC,J.pin,J.hok,J.len,ht⟩
end
abbrev XK:=Value→Option Addr→Hp→Prop
abbrev St:=List (Option V)
abbrev VK:=V→Hp→Prop
abbrev TE:=St→Hp→VK→Prop
abbrev TT:=St→Hp→(Bool→Hp→Prop)→Prop
abbrev TA:=St→Hp→(List V→Hp→Prop)→Prop
structure Ends where
 nx:St→Hp→Prop
 rt:VK
 bk:St→Hp→Prop:=fun _ _=>False
 ct:St→Hp→Prop:=fun _ _=>False
abbrev TS:=Ends→St→Hp→Prop
inductive EP (X:Cx) (pins:List (Addr×Obj)) (σ:St) (Q:VK) (u:Value) (s':Shared):Prop where
 | mk (v:V) (H':Hp) (i:Inv X pins σ H' s') (r:RelV v u) (q:Q v H'):EP X pins σ Q u s'
inductive TP (X:Cx) (pins:List (Addr×Obj)) (σ:St) (Q:Bool→Hp→Prop) (b:Bool) (s':Shared):Prop where
 | mk (H':Hp) (i:Inv X pins σ H' s') (q:Q b H'):TP X pins σ Q b s'
inductive AP (X:Cx) (pins:List (Addr×Obj)) (σ:St) (Q:List V→Hp→Prop) (us:List Value) (s':Shared):Prop where
 | mk (vs:List V) (H':Hp) (i:Inv X pins σ H' s') (r:Vals vs us) (q:Q vs H'):AP X pins σ Q us s'
def SP (X:Cx) (pins:List (Addr×Obj)) (D:Ends) (f:Flow) (s':Shared):Prop:=
 match f with
 | .next=>∃σ' H',Inv X pins σ' H' s'∧D.nx σ' H'
 | .brk=>∃σ' H',Inv X pins σ' H' s'∧D.bk σ' H'
 | .cont=>∃σ' H',Inv X pins σ' H' s'∧D.ct σ' H'
 | .ret u=>∃v σ' H',Inv X pins σ' H' s'∧RelV v u∧D.rt v H'
def PE (X:Cx) (e:Expr) (t:TE):Prop:=
 ∀(pins:List (Addr×Obj)) (s:Shared) (σ:St) (H:Hp) (Q:VK),Inv X pins σ H s→t σ H Q→wpAny (model X.prog X.w) X.A (eval e X.env) (EP X pins σ Q) X.xe s
def PT (X:Cx) (e:Expr) (t:TT):Prop:=
 ∀(pins:List (Addr×Obj)) (s:Shared) (σ:St) (H:Hp) (Q:Bool→Hp→Prop),Inv X pins σ H s→t σ H Q→wpAny (model X.prog X.w) X.A (isTrue e X.env (eval e X.env)) (TP X pins σ Q) X.xe s
def PW (X:Cx) (e:Expr) (t:TT):Prop:=
 ∀(whole:Sem Value) (pins:List (Addr×Obj)) (s:Shared) (σ:St) (H:Hp) (Q:Bool→Hp→Prop),Inv X pins σ H s→t σ H Q→wpAny (model X.prog X.w) X.A (isTrue e X.env whole) (TP X pins σ Q) X.xe s
theorem PW.pt {X:Cx} {e:Expr} {t:TT} (h:PW X e t):PT X e t:=h _
def PA (X:Cx) (es:List Expr) (t:TA):Prop:=
 ∀(pos:Pos) (pins:List (Addr×Obj)) (s:Shared) (σ:St) (H:Hp) (Q:List V→Hp→Prop),Inv X pins σ H s→t σ H Q→wpAny (model X.prog X.w) X.A (spliced (backTo pos (starEach es X.env))) (AP X pins σ Q) X.xe s
def PS (X:Cx) (st:Stmt) (t:TS):Prop:=
 ∀(pins:List (Addr×Obj)) (s:Shared) (σ:St) (H:Hp) (D:Ends),Inv X pins σ H s→t D σ H→wpAny (model X.prog X.w) X.A (exec st X.env) (SP X pins D) X.xe s
def PSs (X:Cx) (st:List Stmt) (t:TS):Prop:=
 ∀(pins:List (Addr×Obj)) (s:Shared) (σ:St) (H:Hp) (D:Ends),Inv X pins σ H s→t D σ H→wpAny (model X.prog X.w) X.A (execs st X.env) (SP X pins D) X.xe s
theorem thn {α:Type} {t:Sem α} {Q Q':α→Shared→Prop} {M:Model} {A:Around} {E:Value→Shared→Prop} {s:Shared} (h:wpAny M A t Q E s) (hQ:∀a s,Q a s→Q' a s):wpAny M A t Q' E s:=wpAny_mono h hQ fun _ _ x=>x
end L2
namespace L2
open PySem PySem.Spec PyProof.Rows
section
variable {X:Cx}
def tVar (i:Nat):TE:=fun σ H Q=>∃v,σ[i]?=some (some v)∧Q v H
def tC (v:V):TE:=fun _ H Q=>Q v H
theorem pe_var {i:Nat} {x:Str} {pos:Pos} (hN:X.N[i]?=some x) (hv:Vis X.env.scope x) (hd:(x == ("__debug__" : Str))=false:=by decide) (hcd:(x == ("__classdict__" : Str))=false:=by decide):PE X (.Name x pos) (tVar i):=by
 intro pins s σ H Q I h
 obtain ⟨v,e,h⟩:=h
 obtain ⟨m,hn,hl⟩:=I.loc
 obtain ⟨u,r,l⟩:=hl i x v hN e hv
 have fin:EP X pins σ Q u s:=⟨v,H,I,r,h⟩
 rcases l with ⟨hk,hm⟩ | ⟨hk,c,hc,hcell⟩
 ·exact wpAny_Name (wpAny_loadName_local I.ok.kind hk hn hm fin) hd
 ·rcases hk with hk | hk
  ·exact wpAny_Name (wpAny_loadName_cell I.ok.kind hk hc hcell fin) hd
  ·exact wpAny_Name (wpAny_loadName_free I.ok.kind hk hc hcell fin hcd) hd
theorem pe_int {i j pos}:PE X (.Constant (.int i) j pos) (tC (.int i)):=fun _ _ _ H _ I h=>wpAny_Constant_int ⟨.int i,H,I.tok _,⟨_,rfl⟩,h⟩
theorem pe_bl {b j pos}:PE X (.Constant (.bool b) j pos) (tC (.bl b)):=fun _ _ _ H _ I h=>Constant_bool ⟨.bl b,H,I,rfl,h⟩
theorem pe_non {j pos}:PE X (.Constant .none j pos) (tC .non):=fun _ _ _ H _ I h=>Constant_none ⟨.non,H,I,rfl,h⟩
theorem pe_str {x j pos}:PE X (.Constant (.str x) j pos) (tC (.str x)):=fun _ _ _ H _ I h=>Calls.Constant_str ⟨.str x,H,I.tok _,⟨_,rfl⟩,h⟩
def Gl (X:Cx) (x:Str):Prop:=X.env.kindOf x=some .globalImplicit
theorem ld_glob {E:Value→Shared→Prop} {pins:List (Addr×Obj)} {s:Shared} {σ:St} {H:Hp} {x:Str} {u:Value} {pos:Pos} {Q:Value→Shared→Prop} (I:Inv X pins σ H s) (hg:Gl X x) (hm:X.mg x=some u) (h:Q u s)
 (hd:(x == ("__debug__" : Str))=false:=by decide):wpAny (model X.prog X.w) X.A (eval (.Name x pos) X.env) Q E s:=
 Calls.Name_function_global I.ok.kind hg (Calls.loadGlobal_global (by rw [I.ok.glob];exact I.mod.glob.keeps I.bk) hm h) hd
theorem ld_blt {E:Value→Shared→Prop} {pins:List (Addr×Obj)} {s:Shared} {σ:St} {H:Hp} {x:Str} {u:Value} {pos:Pos} {Q:Value→Shared→Prop} (I:Inv X pins σ H s) (hg:Gl X x) (hm:X.mg x=none) (hv:bootBuiltins x=some u) (h:Q u s)
 (hn:x≠"__name__":=by decide) (hd:(x == ("__debug__" : Str))=false:=by decide):wpAny (model X.prog X.w) X.A (eval (.Name x pos) X.env) Q E s:=by
 obtain ⟨mb,h1,h2⟩:=I.mod.blt
 exact Calls.Name_function_global I.ok.kind hg (Calls.loadGlobal_builtin (by rw [I.ok.glob];exact I.mod.glob.keeps I.bk) hm (by rw [I.ok.blt];exact h1.keeps I.bk) ((h2 x hn).trans hv) h) hd
theorem pe_glob {x:Str} {v:V} {u:Value} {pos:Pos} (hg:Gl X x) (hm:X.mg x=some u) (r:RelV v u) (hd:(x == ("__debug__" : Str))=false:=by decide):PE X (.Name x pos) (tC v):=
 fun _ _ _ H _ I h=>ld_glob I hg hm ⟨v,H,I,r,h⟩ hd
theorem pe_bltn {x:Str} {v:V} {u:Value} {pos:Pos} (hg:Gl X x) (hm:X.mg x=none) (hv:bootBuiltins x=some u) (r:RelV v u) (hn:x≠"__name__":=by decide) (hd:(x == ("__debug__" : Str))=false:=by decide):PE X (.Name x pos) (tC v):=
 fun _ _ _ H _ I h=>ld_blt I hg hm hv ⟨v,H,I,r,h⟩ hn hd
variable {a b:Expr} {ta tb:TE} {pos:Pos}
def tB (t:TE):TT:=fun σ H Q=>t σ H fun x H1=>∃c,x = .bl c∧Q c H1
theorem pt_val {e:Expr} {t:TE} (h:PE X e t) (he:∀whole,isTrue e X.env whole=(do let v ←whole;standAt e.pos;holding [v] (truthy v)):=by intro _;rfl):PT X e (tB t):=by
 intro pins s σ H Q I hw
 refine isTrue_plain (thn (h pins s σ H _ I hw) fun v s1 ⟨x,H1,I1,r1,q1⟩=>?_) (he _)
 obtain ⟨d,rfl,q⟩:=q1
 cases r1
 exact wpAny_truthy_bool ⟨H1,I1,q⟩
variable {tA tB':TT} {rest:List Expr}
def tAnd (t u:TT):TT:=fun σ H Q=>t σ H fun c H1=>if c=true then u σ H1 Q else Q false H1
def tOr (t u:TT):TT:=fun σ H Q=>t σ H fun c H1=>if c=true then Q true H1 else u σ H1 Q
def tNot (t:TT):TT:=fun σ H Q=>t σ H fun c H1=>Q (!c) H1
theorem pw_and1 (ha:PT X a tA):PW X (.BoolOp .And [a] pos) tA:=by
 intro wh pins s σ H Q I h
 refine isTrue_and (thn (ha pins s σ H Q I h) fun c s1 e=>?_)
 cases c with
 | true=>exact isTrue_and_nil e
 | false=>exact e
theorem pw_or1 (ha:PT X a tA):PW X (.BoolOp .Or [a] pos) tA:=by
 intro wh pins s σ H Q I h
 refine isTrue_or (thn (ha pins s σ H Q I h) fun c s1 e=>?_)
 cases c with
 | false=>exact isTrue_or_nil e
 | true=>exact e
theorem pw_and (ha:PT X a tA) (hb:PW X (.BoolOp .And (b :: rest) pos) tB'):PW X (.BoolOp .And (a :: b :: rest) pos) (tAnd tA tB'):=by
 intro wh pins s σ H Q I h
 refine isTrue_and (thn (ha pins s σ H _ I h) fun c s1 ⟨H1,I1,q1⟩=>?_)
 cases c with
 | true=>exact hb wh pins s1 σ H1 Q I1 q1
 | false=>exact ⟨H1,I1,q1⟩
theorem pw_or (ha:PT X a tA) (hb:PW X (.BoolOp .Or (b :: rest) pos) tB'):PW X (.BoolOp .Or (a :: b :: rest) pos) (tOr tA tB'):=by
 intro wh pins s σ H Q I h
 refine isTrue_or (thn (ha pins s σ H _ I h) fun c s1 ⟨H1,I1,q1⟩=>?_)
 cases c with
 | true=>exact ⟨H1,I1,q1⟩
 | false=>exact hb wh pins s1 σ H1 Q I1 q1
theorem pt_not (ha:PT X a tA):PT X (.UnaryOp .Not a pos) (tNot tA):=by
 intro pins s σ H Q I h
 refine isTrue_not (thn (ha pins s σ H (fun c H1=>Q (!c) H1) I h) fun c s1 z=>?_)
 obtain ⟨H1,I1,q1⟩:=z
 exact ⟨H1,I1,q1⟩
def tAndV (ta tb:TE):TE:=fun σ H Q=>ta σ H fun x H1=>∃c,x = .bl c∧if c=true then tb σ H1 Q else Q (.bl false) H1
def tNotV (ta:TE):TE:=fun σ H Q=>ta σ H fun x H1=>∃c,x = .bl c∧Q (.bl (!c)) H1
theorem pe_one {op} {t:TE} (h:PE X a t):PE X (.BoolOp op [a] pos) t:=fun pins s σ H Q I hw=>BoolOp_one (h pins s σ H Q I hw)
theorem pe_and (ha:PE X a ta) (hb:PE X (.BoolOp .And (b :: rest) pos) tb):PE X (.BoolOp .And (a :: b :: rest) pos) (tAndV ta tb):=by
 intro pins s σ H Q I h
 refine BoolOp_and (thn (ha pins s σ H _ I h) fun v s1 ⟨x,H1,I1,r1,q1⟩=>?_)
 obtain ⟨c,rfl,q1⟩:=q1
 cases r1
 refine wpAny_truthy_bool ?_
 cases c with
 | true=>exact hb pins s1 σ H1 Q I1 q1
 | false=>exact ⟨.bl false,H1,I1,rfl,q1⟩
theorem pe_not (ha:PE X a ta):PE X (.UnaryOp .Not a pos) (tNotV ta):=by
 intro pins s σ H Q I h
 refine UnaryOp_ (thn (ha pins s σ H _ I h) fun v s1 ⟨x,H1,I1,r1,q1⟩=>?_)
 obtain ⟨c,rfl,q1⟩:=q1
 cases r1
 exact not_of (wpAny_truthy_bool ⟨.bl (!c),H1,I1,rfl,q1⟩)
end
end L2
namespace L2
open PySem PySem.Spec PyProof.Rows
def SqL (K:PySem.W.Frag) (H:Hp) (a:Addr) (xs:List V):Prop:=
 Rd H a (.lst xs)∨
  ∃(o:Obj) (its:Array Value) (n:Nat),K.lookup a=some o∧o.cls = .type "list"∧o.dict=none∧o.data = .seq its n∧its.size≤sizeLine∧Vals xs its.toList
def SqT (K:PySem.W.Frag) (H:Hp) (a:Addr) (xs:List V):Prop:=
 Rd H a (.tup xs)∨
  ∃(o:Obj) (its:Array Value) (n:Nat),K.lookup a=some o∧o.cls = .type "tuple"∧o.data = .seq its n∧its.size≤sizeLine∧Vals xs its.toList
def absV:Value→Option V
 | .none=>some .non
 | .bool b=>some (.bl b)
 | .int i _=>some (.int i)
 | .str x _=>some (.str x)
 | .bytes b _=>some (.byt b)
 | .float b _=>some (.flt b)
 | .ref a=>some (.ref a)
 | .type n=>some (.ty n)
 | _=>none
theorem RelV.abs {x:V} {u:Value} (r:RelV x u):absV u=some x:=by
 cases x with
 | non=>cases r;rfl
 | bl _=>cases r;rfl
 | int _=>obtain ⟨t,rfl⟩:=r;rfl
 | str _=>obtain ⟨t,rfl⟩:=r;rfl
 | byt _=>obtain ⟨t,rfl⟩:=r;rfl
 | flt _=>obtain ⟨t,rfl⟩:=r;rfl
 | ref _=>cases r;rfl
 | ty _=>cases r;rfl
theorem RelV.inj {x y:V} {u:Value} (r:RelV x u) (q:RelV y u):x=y:=Option.some.inj (r.abs.symm.trans q.abs)
theorem Vals.inj:∀{xs ys:List V} {us:List Value},Vals xs us→Vals ys us→xs=ys
 | _,_,_,.nil,.nil=>rfl
 | _,_,_,.cons r t,.cons r' t'=>by rw [r.inj r',Vals.inj t t']
section
variable {X:Cx} {pins:List (Addr×Obj)} {σ:St} {H:Hp} {s:Shared} {a:Addr} {xs ys:List V}
theorem SqL.of {K:PySem.W.Frag} (h:H a=some (.lst xs)):SqL K H a xs:=.inl (.inl h)
theorem SqT.of {K:PySem.W.Frag} (h:H a=some (.tup xs)):SqT K H a xs:=.inl (.inl h)
theorem Inv.list (I:Inv X pins σ H s) (h:SqL X.K H a xs):∃its:List Value,Vals xs its∧PlainL s.heap a its.toArray∧xs.length≤sizeLine:=by
 rcases h with h | ⟨o,its,n,hk,hc,hd,hs,hz,r⟩
 ·obtain ⟨z,its,n,r,e⟩:=h.ok I.hok
  exact ⟨its,r,⟨_,n,e,rfl,rfl,rfl⟩,z⟩
 ·refine ⟨its.toList,r,⟨o,n,I.kIn a o hk,hc,hd,by simpa using hs⟩,?_⟩
  have e:=r.length
  simp only [Array.length_toList] at e
  omega
theorem Inv.tuple (I:Inv X pins σ H s) (h:SqT X.K H a xs):∃its:List Value,Vals xs its∧IsTup s.heap a its.toArray∧xs.length≤sizeLine:=by
 rcases h with h | ⟨o,its,n,hk,hc,hs,hz,r⟩
 ·obtain ⟨z,its,r,p⟩:=h.ok I.hok
  exact ⟨its,r,p,z⟩
 ·refine ⟨its.toList,r,⟨o,I.kIn a o hk,hc,n,by simpa using hs⟩,?_⟩
  have e:=r.length
  simp only [Array.length_toList] at e
  omega
theorem Inv.list_inj (I:Inv X pins σ H s) (h:SqL X.K H a xs) (h':SqL X.K H a ys):xs=ys:=by
 obtain ⟨its,r,⟨o,n,e,_,_,d⟩,_⟩:=I.list h
 obtain ⟨its',r',⟨o',n',e',_,_,d'⟩,_⟩:=I.list h'
 rw [e] at e';cases e'
 rw [d] at d'
 injection d' with d1 _
 have:its=its':=by simpa using congrArg Array.toList d1
 subst this
 exact r.inj r'
theorem Inv.tuple_inj (I:Inv X pins σ H s) (h:SqT X.K H a xs) (h':SqT X.K H a ys):xs=ys:=by
 obtain ⟨its,r,⟨o,e,_,n,d⟩,_⟩:=I.tuple h
 obtain ⟨its',r',⟨o',e',_,n',d'⟩,_⟩:=I.tuple h'
 rw [e] at e';cases e'
 rw [d] at d'
 injection d' with d1 _
 have:its=its':=by simpa using congrArg Array.toList d1
 subst this
 exact r.inj r'
end
abbrev Cx.wish (X:Cx) (E:Value→Shared→Prop):Cx:={ X with xe:=E }
abbrev Cx.nox (X:Cx):Cx:=X.wish fun _ _=>False
theorem Cx.Ok.wish {X:Cx} (ok:X.Ok) (E:Value→Shared→Prop):(X.wish E).Ok:=
 ⟨ok.mod,ok.kind,ok.glob,ok.blt,ok.above,ok.inj,ok.has,ok.cab,ok.hd,ok.frames,ok.stk,ok.exf,ok.bs,ok.bsz,ok.noex,ok.exfs,ok.funs,ok.frf⟩
theorem Cx.Ok.unwish {X:Cx} {E:Value→Shared→Prop} (ok:(X.wish E).Ok):X.Ok:=
 ⟨ok.mod,ok.kind,ok.glob,ok.blt,ok.above,ok.inj,ok.has,ok.cab,ok.hd,ok.frames,ok.stk,ok.exf,ok.bs,ok.bsz,ok.noex,ok.exfs,ok.funs,ok.frf⟩
section
variable {X:Cx} {pins:List (Addr×Obj)} {σ:St} {H:Hp} {s:Shared} {E:Value→Shared→Prop}
theorem Inv.wish (I:Inv X pins σ H s) (E:Value→Shared→Prop):Inv (X.wish E) pins σ H s:=⟨I.ok.wish E,I.os,I.bare,I.base,I.loc,I.cell,I.free,I.freeC,I.pin,I.hok,I.len,I.tk⟩
theorem Inv.unwish (I:Inv (X.wish E) pins σ H s):Inv X pins σ H s:=⟨I.ok.unwish,I.os,I.bare,I.base,I.loc,I.cell,I.free,I.freeC,I.pin,I.hok,I.len,I.tk⟩
theorem SP.unwish {D:Ends} {f:Flow} {s':Shared} (h:SP (X.wish E) pins D f s'):SP X pins D f s':=by
 cases f with
 | next=>obtain ⟨σ',H',I,q⟩:=h;exact ⟨σ',H',I.unwish,q⟩
 | brk=>obtain ⟨σ',H',I,q⟩:=h;exact ⟨σ',H',I.unwish,q⟩
 | cont=>obtain ⟨σ',H',I,q⟩:=h;exact ⟨σ',H',I.unwish,q⟩
 | ret u=>obtain ⟨v,σ',H',I,r,q⟩:=h;exact ⟨v,σ',H',I.unwish,r,q⟩
theorem PSs.nox {st:List Stmt} {t:TS} (h:PSs X.nox st t):PSs X st t:=fun pins s σ H D I hw=>
 wpAny_mono (h pins s σ H D (I.wish _) hw) (fun _ _ q=>q.unwish) fun _ _ z=>False.elim z
end
section
variable {X:Cx} {st:Stmt} {rest:List Stmt} {t u:TS} {e:Expr} {te:TE} {pos:Pos}
def tNext:TS:=fun D σ H=>D.nx σ H
def tSeq (t u:TS):TS:=fun D σ H=>t { D with nx:=u D } σ H
theorem pss_nil:PSs X [] tNext:=fun _ _ σ H _ I h=>wpAny_execs_nil ⟨σ,H,I,h⟩
theorem pss_cons (h1:PS X st t) (h2:PSs X rest u):PSs X (st :: rest) (tSeq t u):=by
 intro pins s σ H D I h
 refine wpAny_execs_cons (thn (h1 pins s σ H { D with nx:=u D } I h) fun f s1 q=>?_)
 cases f with
 | next=>
   obtain ⟨σ',H',I',q⟩:=q
   exact h2 pins s1 σ' H' D I' q
 | ret v=>exact q
 | brk=>exact q
 | cont=>exact q
theorem pss_one (h1:PS X st t):PSs X [st] t:=by
 intro pins s σ H D I h
 refine wpAny_execs_cons (thn (h1 pins s σ H D I h) fun f s1 q=>?_)
 cases f with
 | next=>exact wpAny_execs_nil q
 | ret v=>exact q
 | brk=>exact q
 | cont=>exact q
theorem Inv.quiet {pins:List (Addr×Obj)} {σ:St} {H:Hp} {s:Shared} (I:Inv X pins σ H s):interactive X.env=false:=by simp [interactive,I.ok.kind]
def tDrop (te:TE):TS:=fun D σ H=>te σ H fun _ H1=>D.nx σ H1
theorem ps_expr (he:PE X e te) (hs:swapsWith e none pos.line X.env=pure false:=by rfl):PS X (.Expr e pos) (tDrop te):=by
 intro pins s σ H D I h
 exact wpAny_Expr_any (thn (he pins s σ H _ I h) fun v s1 ⟨x,H1,I1,r1,q1⟩=>⟨σ,H1,I1,q1⟩) I.quiet hs
def tRet (te:TE):TS:=fun D σ H=>te σ H D.rt
theorem ps_ret (he:PE X e te):PS X (.Return (some e) pos) (tRet te):=by
 intro pins s σ H D I h
 exact wpAny_Return_some (thn (he pins s σ H _ I h) fun v s1 ⟨x,H1,I1,r1,q1⟩=>⟨x,σ,H1,I1,r1,q1⟩)
def tIfS (c:TT) (t u:TS):TS:=fun D σ H=>c σ H fun b H1=>if b=true then t D σ H1 else u D σ H1
theorem ps_if {c:Expr} {a b:List Stmt} {tc:TT} (hc:PT X c tc) (ha:PSs X a t) (hb:PSs X b u):PS X (.If c a b pos) (tIfS tc t u):=by
 intro pins s σ H D I h
 refine wpAny_If (thn (hc pins s σ H _ I h) fun d s1 ⟨H1,I1,q1⟩=>?_)
 cases d with
 | true=>exact ha pins s1 σ H1 D I1 q1
 | false=>exact hb pins s1 σ H1 D I1 q1
end
abbrev TG:=V→St→Hp→(St→Hp→Prop)→Prop
abbrev TGs:=List V→St→Hp→(St→Hp→Prop)→Prop
def PG (X:Cx) (target:Expr) (t:TG):Prop:=
 ∀(pins:List (Addr×Obj)) (s:Shared) (σ:St) (H:Hp) (v:V) (u:Value) (Q:St→Hp→Prop),Inv X pins σ H s→RelV v u→t v σ H Q→
  wpAny (model X.prog X.w) X.A (assign target X.env u) (fun _ s'=>∃σ' H',Inv X pins σ' H' s'∧Q σ' H') X.xe s
abbrev TSet:=V→V→V→Hp→(Hp→Prop)→Prop
def PSet (X:Cx) (t:TSet):Prop:=
 ∀(pins:List (Addr×Obj)) (s:Shared) (σ:St) (H:Hp) (o i v:V) (ov iv u:Value) (Q:Hp→Prop),Inv X pins σ H s→RelV o ov→RelV i iv→RelV v u→t o i v H Q→
  wpAny (model X.prog X.w) X.A (setItem ov iv u) (fun _ s'=>∃H',Inv X pins σ H' s'∧Q H') X.xe s
section
variable {X:Cx} {pos:Pos}
def gName (i:Nat):TG:=fun v σ H Q=>Q (σ.set i (some v)) H
theorem pg_name {i:Nat} {x:Str} (hN:X.N.Nodup) (hi:X.N[i]?=some x) (hx:Loc X.env.scope x) (hf:X.fn x=true∨X.env.scope.names.lookup x=some .local:=by first | exact .inl rfl | exact .inr rfl | assumption):PG X (.Name x pos) (gName i):=by
 intro pins s σ H v u Q I r h
 exact wpAny_assign_Name (store_ok I hN hi hx r (fun s' I'=>⟨_,H,I',h⟩) hf)
def gCons (t:TG) (u:TGs):TGs:=fun vs σ H Q=>∃v r,vs=v :: r∧t v σ H fun σ' H'=>u r σ' H' Q
def gTup (K:PySem.W.Frag) (n:Nat) (t:TGs):TG:=fun v σ H Q=>∃a xs,v = .ref a∧SqT K H a xs∧xs.length=n∧t xs σ H Q
def gSub (to ti:TE) (t:TSet):TG:=fun v σ H Q=>to σ H fun o H1=>ti σ H1 fun i H2=>t o i v H2 fun H3=>Q σ H3
theorem pg_sub {o i:Expr} {to ti:TE} {t:TSet} (ho:PE X o to) (hi:PE X i ti) (hs:PSet X t)
 (ha:∀v,assign (.Subscript o i pos) X.env v=(do
   let ov ←holding [v] (eval o X.env)
   let iv ←holding [v,ov] (eval i X.env)
   standAt pos
   holding [v,ov,iv] (setItem ov iv v)
   release [v,ov,iv] []):=by intro _;rfl):PG X (.Subscript o i pos) (gSub to ti t):=by
 intro pins s σ H v u Q I r h
 rw [ha]
 refine wpAny_bind (wpAny_holding (thn (ho pins s σ H _ I h) fun ov s1 ⟨x,H1,I1,r1,q1⟩=>?_))
 refine wpAny_bind (wpAny_holding (thn (hi pins s1 σ H1 _ I1 q1) fun iv s2 ⟨y,H2,I2,r2,q2⟩=>?_))
 refine wpAny_bind (wpAny_standAt (wpAny_bind (wpAny_holding (thn (hs pins s2 σ H2 x y v ov iv u _ I2 r1 r2 r q2) fun _ s3 ⟨H3,I3,q3⟩=>?_))))
 exact wpAny_release ⟨σ,H3,I3,q3⟩
def tAsg (te:TE) (g:TG):TS:=fun D σ H=>te σ H fun x H1=>g x σ H1 D.nx
theorem ps_asg {tg e:Expr} {te:TE} {g:TG} (he:PE X e te) (hg:PG X tg g) (hs:swapsWithSole [tg] e pos.line X.env=pure false:=by rfl) (hw:swappedStores [tg] e X.env=pure none:=by rfl)
 (h1:(assignEach [tg] X.env).map (·.2)=[assign tg X.env]:=by rfl):PS X (.Assign [tg] e pos) (tAsg te g):=by
 intro pins s σ H D I h
 refine wpAny_Assign_stores (thn (he pins s σ H _ I h) fun v s1 ⟨x,H1,I1,r1,q1⟩=>?_) hs hw
 rw [h1]
 exact thn (hg pins s1 σ H1 x v _ I1 r1 q1) fun _ s2 q=>q
theorem ps_set {i:Nat} {x:Str} {e:Expr} {te:TE} {pos':Pos} (hN:X.N.Nodup) (hi:X.N[i]?=some x) (hx:Loc X.env.scope x) (he:PE X e te) (hs:swapsWith e (some (.Name x pos')) pos.line X.env=pure false:=by rfl) (hf:X.fn x=true∨X.env.scope.names.lookup x=some .local:=by first | exact .inl rfl | exact .inr rfl | assumption) :
 PS X (.Assign [.Name x pos'] e pos) (tAsg te (gName i)):=by
 intro pins s σ H D I h
 refine wpAny_Assign_Name (thn (he pins s σ H _ I h) fun v s1 ⟨y,H1,I1,r1,q1⟩=>?_) hs
 exact store_ok I1 hN hi hx r1 (fun s2 I2=>⟨_,H1,I2,q1⟩) hf
end
section
variable {X:Cx} {pos:Pos}
def tWhile (c:TT) (tb:TS):TS:=fun D σ H=>∃W:Nat→St→Hp→Prop,(∃m,W m σ H)∧∀m σ H,W m σ H→
 c σ H fun b H1=>if b=true then ∃N:St→Hp→Prop,(∀σ' H',N σ' H'→∃m',m' < m∧W m' σ' H')∧tb { D with nx:=N,ct:=N,bk:=D.nx } σ H1 else D.nx σ H1
end
structure It where
 go:Nat→Hp→Prop
 yld:Nat→Hp→V→Hp→Prop
 stop:Nat→Hp→Prop
def FpOk (X:Cx) (pins:List (Addr×Obj)) (H:Hp) (b:Addr):Prop:=
 H b=none∧b≠X.env.locals∧b∉X.fs∧(b∈X.ex∨X.s₀.heap.objs.size≤b)∧(∀x c,X.env.cells.lookup x=some c→c≠b)∧∀p∈X.pn++pins,p.1≠b
theorem Inv.fpOk {X:Cx} {pins:List (Addr×Obj)} {σ:St} {H H':Hp} {s:Shared} {b:Addr} (I:Inv X pins σ H s) (hb:s.heap.objs.size≤b) (hn:H' b=none):FpOk X pins H' b:=by
 refine ⟨hn,Nat.ne_of_gt (Nat.lt_of_lt_of_le I.lt hb),I.nofs hb,.inr (Nat.le_trans I.sz hb),fun x c e z=>?_,fun p hp z=>?_⟩
 ·obtain ⟨v,q⟩:=I.cell x c e
  exact absurd (Nat.lt_of_lt_of_le q.lt (by rw [z];exact hb)) (Nat.lt_irrefl _)
 ·exact absurd (Nat.lt_of_lt_of_le (Heap.lt_size (I.pin p hp).1) (by rw [z];exact hb)) (Nat.lt_irrefl _)
structure Turn (P:Program) (w:World) (K:PySem.W.Frag) (tg:Expr) (J:It) (fp:List Addr) (it:Addr) (tn:Nat→Heap→Prop):Prop where
 mem:it∈fp
 obj:∀i h,tn i h→∀b∈fp,∃o,h.get? b=some o∧∀v,o.data≠.cell v
 keep:∀i h h',tn i h→(∀b∈fp,∀o,h.get? b=some o→h'.get? b=some o)→tn i h'
 item:∀(X:Cx),X.prog=P→X.w=w→X.K=K→X.calm=true→∀(i:Nat) (pins:List (Addr×Obj)) (s:Shared) (σ:St) (H:Hp) (E:Value→Shared→Prop),Inv X pins σ H s→(∀b∈fp,FpOk X pins H b)→tn i s.heap→J.go i H→
  wpAny (model P w) X.A (pyNext (.ref it)) (fun r s1=>∃u,r=some u∧
   wpAny (model P w) X.A (letOwnedTupleGo tg (.ref it) u) (fun _ s2=>∃x H',Inv X pins σ H' s2∧RelV x u∧J.yld i H x H'∧tn (i + 1) s2.heap∧∀b∈fp,H' b=none) E s1) E s
 done:∀(X:Cx),X.prog=P→X.w=w→X.K=K→X.calm=true→∀(i:Nat) (pins:List (Addr×Obj)) (s:Shared) (σ:St) (H:Hp) (E:Value→Shared→Prop),Inv X pins σ H s→(∀b∈fp,FpOk X pins H b)→tn i s.heap→J.stop i H→
  wpAny (model P w) X.A (pyNext (.ref it)) (fun r s1=>r=none∧Inv X pins σ H s1) E s
 self:∀(A:Around) (i:Nat) (s:Shared) (Q:Value→Shared→Prop) (E:Value→Shared→Prop),tn i s.heap→Q (.ref it) s→wpAny (model P w) A (pyIter (.ref it)) Q E s
abbrev TI:=St→Hp→(It→Hp→Prop)→Prop
def PIE (X:Cx) (pins:List (Addr×Obj)) (σ:St) (tg:Expr) (R:It→Hp→Prop) (itv:Value) (s2:Shared):Prop:=
 ∃(it:Addr) (fp:List Addr) (tn:Nat→Heap→Prop) (J:It) (H':Hp),itv = .ref it∧Inv X pins σ H' s2∧Turn X.prog X.w X.K tg J fp it tn∧tn 0 s2.heap∧(∀b∈fp,FpOk X pins H' b)∧R J H'
def PI (X:Cx) (tg iter:Expr) (wi:TI):Prop:=
 ∀(pins:List (Addr×Obj)) (s:Shared) (σ:St) (H:Hp) (R:It→Hp→Prop),Inv X pins σ H s→wi σ H R→
  wpAny (model X.prog X.w) X.A (eval iter X.env) (fun v s1=>wpAny (model X.prog X.w) X.A (pyIter v) (PIE X pins σ tg R) X.xe s1) X.xe s
theorem go_of {M:Model} {A:Around} {E:Value→Shared→Prop} {s:Shared} {tg:Expr} {it:Addr} {u:Value} {o:Obj} {n:String} {vs:Array Value} {Q:Unit→Shared→Prop} (ho:s.heap.get? it=some o) (hc:o.cls = .type n) (hd:o.data = .fields vs)
 (hn:["enumerate", "zip", "dict_itemiterator", "dict_reverseitemiterator", "odict_iterator", "itertools.zip_longest", "itertools.pairwise"].contains n=false) (hQ:Q () s):wpAny M A (letOwnedTupleGo tg (.ref it) u) Q E s:=by
 unfold letOwnedTupleGo
 cases tg <;> first
  | exact wpAny_pure hQ
  | (cases u <;> first
      | exact wpAny_pure hQ
      | (refine wpAny_bind (wpAny_load ho ?_)
         rw [hc,hd]
         show wpAny M A (if (["enumerate", "zip", "dict_itemiterator", "dict_reverseitemiterator", "odict_iterator", "itertools.zip_longest", "itertools.pairwise"].contains n && vs[0]? == some (rawInt _))=true then _ else _) Q E s
         rw [if_neg (by intro h;rw [hn,Bool.false_and] at h;cases h)]
         exact wpAny_pure hQ))
def Itl (K:PySem.W.Frag) (a:Addr):It:=
 ⟨fun i H=>∃xs x,SqL K H a xs∧xs[i]?=some x,fun i H x H'=>H'=H∧∀xs,SqL K H a xs→xs[i]?=some x,fun i H=>∃xs,SqL K H a xs∧xs.length≤i⟩
def Itt (K:PySem.W.Frag) (a:Addr):It:=
 ⟨fun i H=>∃xs x,SqT K H a xs∧xs[i]?=some x,fun i H x H'=>H'=H∧∀xs,SqT K H a xs→xs[i]?=some x,fun i H=>∃xs,SqT K H a xs∧xs.length≤i⟩
def Itr (lo:Int) (n:Nat):It:=⟨fun i _=>i < n,fun i H x H'=>H'=H∧x = .int (lo + i),fun i _=>n≤i⟩
theorem turn_list {P:Program} {w:World} {K:PySem.W.Frag} {tg:Expr} (a it:Addr):Turn P w K tg (Itl K a) [it] it (fun i h=>h.IsListIter it a i) where
 mem:=by simp
 obj:=fun i h st b hb=>by
  have e:b=it:=by simpa using hb
  subst e
  obtain ⟨o,e,c,d⟩:=st
  exact ⟨o,e,fun v z=>by rw [d] at z;cases z⟩
 keep:=fun i h h' st k=>st.at fun o e=>k it (by simp) o e
 item:=by
  intro X hP hw hK hc i pins s σ H E I hf st hg
  subst hP hw hK
  obtain ⟨xs,x,hq,hx⟩:=hg
  obtain ⟨its,rv,p,hz⟩:=I.list hq
  obtain ⟨u,hu,ru⟩:=rv.get hx
  obtain ⟨f0,f1,f2,f3,f4,f5⟩:=hf it (by simp)
  refine wpAny_pyNext_list_item st p.isList (x:=u) (by simpa using hu) fun h' st' sb=>?_
  have I1:Inv X pins σ H { s with heap:=h' }:=I.turned (t':=s.toks) (fun b o hb e=>(sb.2 b hb).trans e) f0 f1 f3 f4 f5
  obtain ⟨o,e,c,d⟩:=id st'
  exact ⟨u,rfl,go_of (s:={ s with heap:=h' }) e c d (by decide) ⟨x,H,I1,ru,⟨rfl,fun ys hy=>by rw [I.list_inj hy hq];exact hx⟩,st',fun b hb=>(hf b hb).1⟩⟩
 done:=by
  intro X hP hw hK hc i pins s σ H E I hf st hg
  subst hP hw hK
  obtain ⟨xs,hq,hx⟩:=hg
  obtain ⟨its,rv,p,hz⟩:=I.list hq
  obtain ⟨f0,f1,f2,f3,f4,f5⟩:=hf it (by simp)
  have hl:=rv.length
  exact wpAny_pyNext_list_end (I.ok.hd hc) st p.isList (by simp;omega) fun h' eb=>⟨rfl,I.turned (t':=s.toks) (fun b o hb e=>eb b o hb e) f0 f1 f3 f4 f5⟩
 self:=fun _ _ _ _ _ st h=>wpAny_pyIter_listiter st h
theorem turn_tuple {P:Program} {w:World} {K:PySem.W.Frag} {tg:Expr} (a it:Addr):Turn P w K tg (Itt K a) [it] it (fun i h=>h.IsTupleIter it a i) where
 mem:=by simp
 obj:=fun i h st b hb=>by
  have e:b=it:=by simpa using hb
  subst e
  obtain ⟨o,e,c,d⟩:=st
  exact ⟨o,e,fun v z=>by rw [d] at z;cases z⟩
 keep:=fun i h h' st k=>st.at fun o e=>k it (by simp) o e
 item:=by
  intro X hP hw hK hc i pins s σ H E I hf st hg
  subst hP hw hK
  obtain ⟨xs,x,hq,hx⟩:=hg
  obtain ⟨its,rv,p,hz⟩:=I.tuple hq
  obtain ⟨u,hu,ru⟩:=rv.get hx
  obtain ⟨f0,f1,f2,f3,f4,f5⟩:=hf it (by simp)
  refine wpAny_pyNext_tuple_item st (show s.heap.IsTuple a its.toArray from p) (x:=u) (by simpa using hu) fun h' st' sb=>?_
  have I1:Inv X pins σ H { s with heap:=h' }:=I.turned (t':=s.toks) (fun b o hb e=>(sb.2 b hb).trans e) f0 f1 f3 f4 f5
  obtain ⟨o,e,c,d⟩:=id st'
  exact ⟨u,rfl,go_of (s:={ s with heap:=h' }) e c d (by decide) ⟨x,H,I1,ru,⟨rfl,fun ys hy=>by rw [I.tuple_inj hy hq];exact hx⟩,st',fun b hb=>(hf b hb).1⟩⟩
 done:=by
  intro X hP hw hK hc i pins s σ H E I hf st hg
  subst hP hw hK
  obtain ⟨xs,hq,hx⟩:=hg
  obtain ⟨its,rv,p,hz⟩:=I.tuple hq
  obtain ⟨f0,f1,f2,f3,f4,f5⟩:=hf it (by simp)
  have hl:=rv.length
  exact wpAny_pyNext_tuple_end (I.ok.hd hc) st (show s.heap.IsTuple a its.toArray from p) (by simp;omega) fun h' eb=>⟨rfl,I.turned (t':=s.toks) (fun b o hb e=>eb b o hb e) f0 f1 f3 f4 f5⟩
 self:=fun _ _ _ _ _ st h=>wpAny_pyIter_tupleiter st h
theorem turn_range {P:Program} {w:World} {K:PySem.W.Frag} {tg:Expr} (it:Addr) (lo:Int) (n:Nat):Turn P w K tg (Itr lo n) [it] it (fun i h=>IsRangeIter h it (lo + (i:Nat) * 1) ((n:Int) - (i:Nat)) 1) where
 mem:=by simp
 obj:=fun i h st b hb=>by
  have e:b=it:=by simpa using hb
  subst e
  exact ⟨_,st,fun v z=>by
   have z':Data.fields _=Data.cell v:=z
   cases z'⟩
 keep:=fun i h h' st k=>k it (by simp) _ st
 item:=by
  intro X hP hw hK hc i pins s σ H E I hf st hg
  subst hP hw hK
  obtain ⟨f0,f1,f2,f3,f4,f5⟩:=hf it (by simp)
  have W:=Walks.range (prog:=X.prog) (w:=X.w) (I.ok.hd hc) it lo 1 n
  refine wpAny_with_toks (Nat.le_refl s.toks) (W.item i s _ _ hg st fun v h' tk hv st' kk htk=>?_)
  obtain ⟨t,rfl⟩:=hv
  have I1:Inv X pins σ H { s with heap:=h',toks:=tk }:=I.turned (fun b o hb e=>kk b o (by simpa using hb) e) f0 f1 f3 f4 f5
  refine ⟨_,rfl,go_of (s:={ s with heap:=h',toks:=tk }) (n:="range_iterator") st' rfl rfl (by decide) ⟨.int (lo + i),H,I1,⟨t,?_⟩,⟨rfl,rfl⟩,st',fun b hb=>(hf b hb).1⟩⟩
  rw [Int.mul_one]
 done:=by
  intro X hP hw hK hc i pins s σ H E I hf st hg
  subst hP hw hK
  obtain ⟨f0,f1,f2,f3,f4,f5⟩:=hf it (by simp)
  exact wpAny_pyNext_range_end (I.ok.hd hc) st (by have:n≤i:=hg;omega) fun h' eb=>⟨rfl,I.turned (t':=s.toks) (fun b o hb e=>eb b o hb e) f0 f1 f3 f4 f5⟩
 self:=fun _ _ _ _ _ st h=>wpAny_pyIter_rangeiter st h
end L2
namespace L2
open PySem PySem.Spec PyProof.Rows
section
variable {X:Cx} {tg:Expr}
theorem range_it {pins:List (Addr×Obj)} {σ:St} {H:Hp} {s:Shared} {R:It→Hp→Prop} {E:Value→Shared→Prop} {lo hi:Int} {t u v:Tok} {tk:Nat} (I:Inv X pins σ H s) (h1 : -(2 ^ 62)≤lo) (h2:lo < 2 ^ 62) (h3 : -(2 ^ 62)≤hi) (h4:hi < 2 ^ 62)
 (q:R (Itr lo (hi - lo).toNat) H) (ht:s.toks≤tk:=by first | exact Nat.le_refl _ | assumption | omega | (dsimp only;omega)):wpAny (model X.prog X.w) X.A (pyIter (.ref s.heap.objs.size)) (PIE X pins σ tg R) E { s with heap:=s.heap.push { cls:=.type "range",data:=.fields #[.int lo t,.int hi u,.int 1 v] },toks:=tk }:=by
 refine wpAny_pyIter_range (IsRange.new ..) (small_one h1 h2 h3 h4) ?_
 have I1:Inv X pins σ H { s with heap:=s.heap.push { cls:=.type "range",data:=.fields #[.int lo t,.int hi u,.int 1 v] },toks:=tk }:=I.kept fun b o e=>Heap.get?_push_of_some _ e
 refine ⟨(s.heap.push { cls:=.type "range",data:=.fields #[.int lo t,.int hi u,.int 1 v] }).objs.size,[(s.heap.push { cls:=.type "range",data:=.fields #[.int lo t,.int hi u,.int 1 v] }).objs.size],_,_,H,rfl,
  I1.kept (t':=tk) fun b o e=>Heap.get?_push_of_some _ e,turn_range _ lo (hi - lo).toNat,?_,fun b hb=>?_,q⟩
 ·have e1:lo + ((0:Nat):Int) * 1=lo:=by simp
  have e2:(((hi - lo).toNat:Nat):Int) - ((0:Nat):Int)=Builtin.Range.rangeSize lo hi 1:=by rw [rangeSize_one];split <;> omega
  show IsRangeIter _ _ (lo + ((0:Nat):Int) * 1) ((((hi - lo).toNat:Nat):Int) - ((0:Nat):Int)) 1
  rw [e1,e2]
  exact Heap.get?_push_size _ rfl
 ·have e:b=(s.heap.push { cls:=.type "range",data:=.fields #[.int lo t,.int hi u,.int 1 v] }).objs.size:=by simpa using hb
  subst e
  exact I1.fpOk (Nat.le_refl _) (I1.hok.fresh (Nat.le_refl _))
def iRng1 (ta:TA):TI:=fun σ H R=>ta σ H fun vs H1=>∃j:Int,vs=[.int j]∧-(2 ^ 62)≤j∧j < 2 ^ 62∧R (Itr 0 j.toNat) H1
theorem pi_range1 {a:Expr} {ta:TA} {p pos:Pos} (hg:Gl X "range") (hm:X.mg "range" = none) (ha:PA X [a] ta) (hs:starEach [a] X.env=[(false,eval a X.env)]:=by rfl):PI X tg (.Call (.Name "range" p) [a] [] pos) (iRng1 ta):=by
 intro pins s σ H R I h
 refine Call_ (ld_blt I hg hm boot_range (PyProof.Rows.callWith_type1 (thn (ha pos pins s σ H _ I h) fun us s1 ⟨vs,H1,I1,r1,q1⟩=>?_) hs rfl))
 obtain ⟨j,e,q1,q2,q⟩:=q1
 subst e
 cases r1 with
 | cons r rr=>
   cases rr
   obtain ⟨t,rfl⟩:=r
   exact call_range_1 (range_it I1 (by omega) (by omega) q1 q2 (by simpa using q))
def tFor (wi:TI) (g:TG) (tb:TS):TS:=fun D σ H=>wi σ H fun J H1=>∃W:Nat→Nat→St→Hp→Prop,(∃m,W 0 m σ H1)∧∀i m σ H,W i m σ H→
 (J.stop i H∧D.nx σ H)∨(J.go i H∧∃N:St→Hp→Prop,(∀σ' H',N σ' H'→∃m',m' < m∧W (i + 1) m' σ' H')∧∀x H',J.yld i H x H'→g x σ H' fun σ2 H2=>tb { D with nx:=N,ct:=N,bk:=D.nx } σ2 H2)
def pinsAt (fp:List Addr) (h:Heap):List (Addr×Obj):=fp.filterMap fun b=>(h.get? b).map fun o=>(b,o)
theorem mem_pinsAt {fp:List Addr} {h:Heap} {b:Addr} {o:Obj} (hb:b∈fp) (e:h.get? b=some o):(b,o)∈pinsAt fp h:=List.mem_filterMap.mpr ⟨b,hb,by rw [e];rfl⟩
theorem of_pinsAt {fp:List Addr} {h:Heap} {p:Addr×Obj} (hp:p∈pinsAt fp h):p.1∈fp∧h.get? p.1=some p.2:=by
 obtain ⟨b,hb,e⟩:=List.mem_filterMap.mp hp
 cases q:h.get? b with
 | none=>rw [q] at e;cases e
 | some o=>
   rw [q] at e
   have e':(b,o)=p:=Option.some.inj e
   subst e'
   exact ⟨hb,q⟩
theorem Inv.pinned {pins:List (Addr×Obj)} {σ:St} {H:Hp} {s:Shared} {fp:List Addr} (I:Inv X pins σ H s) (hf:∀b∈fp,FpOk X pins H b) (ho:∀b∈fp,∃o,s.heap.get? b=some o∧∀v,o.data≠.cell v):Inv X (pins++pinsAt fp s.heap) σ H s:=
 I.pins_of fun p hp=>(List.mem_append.mp hp).elim (fun z=>I.pin p (List.mem_append_right _ z)) fun z=>by
  obtain ⟨hb,e⟩:=of_pinsAt z
  obtain ⟨f0,f1,f2,_⟩:=hf p.1 hb
  obtain ⟨o,e',d⟩:=ho p.1 hb
  rw [e] at e';cases e'
  exact ⟨e,f0,f1,f2,d⟩
theorem Inv.unpinned {pins pl:List (Addr×Obj)} {σ:St} {H:Hp} {s:Shared} (I:Inv X (pins++pl) σ H s):Inv X pins σ H s:=I.pins_of fun p hp=>I.pin p (List.mem_append_right _ (List.mem_append_left _ hp))
theorem ps_for {iter:Expr} {body:List Stmt} {wi:TI} {g:TG} {tb:TS} {pos:Pos} (hp:PassesOwn (model X.prog X.w) X.A X.env X.xe) (hc:X.calm=true) (hi:PI X tg iter wi) (hg:PG X tg g) (hb:PSs X body tb)
 (hs:∀x,foldedSetIterable iter X.env x=pure x:=by intro _;rfl):PS X (.For tg iter body [] pos) (tFor wi g tb):=by
 intro pins s σ H D I h
 refine wpAny_For (thn (hi pins s σ H _ I h) fun v s1 h1=>thn h1 fun itv s2 h2=>?_) hs
 obtain ⟨it,fp,tn,J,H2,e,I2,T,st2,f2,W,⟨m0,w0⟩,turn⟩:=h2
 subst e
 -- what stays true of the iterator's objects through the loop
 have stat:∀{H':Hp},(∀b∈fp,H' b=none)→∀b∈fp,FpOk X pins H' b:=fun hn b hb=>⟨hn b hb,(f2 b hb).2⟩
 refine codeAny_forLoop_any (fun n s'=>∃i σ' H',Inv X pins σ' H' s'∧tn i s'.heap∧(∀b∈fp,H' b=none)∧W i n σ' H') ?_ m0 ⟨0,σ,H2,I2,st2,fun b hb=>(f2 b hb).1,w0⟩
 rintro n s3 ⟨i,σ3,H3,I3,st3,fr3,w3⟩
 rcases turn i n σ3 H3 w3 with ⟨stop,qn⟩ | ⟨go,N,hN,step⟩
 ·refine wpAny_passesOwn hp (thn (T.done X rfl rfl rfl hc i pins s3 σ3 H3 X.xe I3 (stat fr3) st3 stop) fun r s4 ⟨hr,I4⟩=>?_)
  subst hr
  exact wpAny_execs_nil ⟨σ3,H3,I4,qn⟩
 ·refine wpAny_passesOwn hp (thn (T.item X rfl rfl rfl hc i pins s3 σ3 H3 X.xe I3 (stat fr3) st3 go) fun r s4 ⟨u,hr,h4⟩=>?_)
  subst hr
  refine wpAny_passesOwn hp (thn h4 fun _ s5 ⟨x,H5,I5,r5,y5,st5,fr5⟩=>?_)
  have I5':=I5.pinned (stat fr5) (T.obj _ _ st5)
  refine wpAny_passesOwn hp (thn (hg _ s5 σ3 H5 x u _ I5' r5 (step x H5 y5)) fun _ s6 ⟨σ6,H6,I6,q6⟩=>?_)
  refine wpAny_passesOwn hp (thn (hb _ s6 σ6 H6 _ I6 q6) fun f s7 q7=>?_)
  have again:∀{σ7:St} {H7:Hp},Inv X (pins++pinsAt fp s5.heap) σ7 H7 s7→N σ7 H7→∃m,m < n∧∃i σ' H',Inv X pins σ' H' s7∧tn i s7.heap∧(∀b∈fp,H' b=none)∧W i m σ' H':=fun {σ7 H7} I7 n7=>by
   obtain ⟨m',hm,w7⟩:=hN σ7 H7 n7
   refine ⟨m',hm,i + 1,σ7,H7,I7.unpinned,T.keep _ _ _ st5 fun b hb o e=>(I7.pin (b,o) (List.mem_append_right _ (List.mem_append_right _ (mem_pinsAt hb e)))).1,fun b hb=>?_,w7⟩
   obtain ⟨o,e,d⟩:=T.obj _ _ st5 b hb
   exact (I7.pin (b,o) (List.mem_append_right _ (List.mem_append_right _ (mem_pinsAt hb e)))).2.1
  cases f with
  | next=>obtain ⟨σ7,H7,I7,n7⟩:=q7;exact again I7 n7
  | cont=>obtain ⟨σ7,H7,I7,n7⟩:=q7;exact again I7 n7
  | brk=>obtain ⟨σ7,H7,I7,q7⟩:=q7;exact ⟨σ7,H7,I7.unpinned,q7⟩
  | ret v=>obtain ⟨x7,σ7,H7,I7,r7,q7⟩:=q7;exact ⟨x7,σ7,H7,I7.unpinned,r7,q7⟩
end
end L2
namespace L2
open PySem PySem.Spec PyProof.Rows
abbrev R2:=V→V→Hp→VK→Prop
def OpR (X:Cx) (f:Value→Value→Sem Value) (r:R2):Prop:=
 ∀(pins:List (Addr×Obj)) (s:Shared) (σ:St) (H:Hp) (x y:V) (v u:Value) (Q:VK),Inv X pins σ H s→RelV x v→RelV y u→r x y H Q→
  wpAny (model X.prog X.w) X.A (f v u) (EP X pins σ Q) X.xe s
def UnR (X:Cx) (f:Value→Sem Value) (r:V→Hp→VK→Prop):Prop:=
 ∀(pins:List (Addr×Obj)) (s:Shared) (σ:St) (H:Hp) (x:V) (v:Value) (Q:VK),Inv X pins σ H s→RelV x v→r x H Q→
  wpAny (model X.prog X.w) X.A (f v) (EP X pins σ Q) X.xe s
def CallR (X:Cx) (f:Value) (r:List V→Hp→VK→Prop):Prop:=
 ∀(pins:List (Addr×Obj)) (s:Shared) (σ:St) (H:Hp) (xs:List V) (us:List Value) (Q:VK),Inv X pins σ H s→Vals xs us→r xs H Q→
  wpAny (model X.prog X.w) X.A (call f us) (EP X pins σ Q) X.xe s
def tOp (r:R2) (ta tb:TE):TE:=fun σ H Q=>ta σ H fun x H1=>tb σ H1 fun y H2=>r x y H2 Q
def tUn (r:V→Hp→VK→Prop) (ta:TE):TE:=fun σ H Q=>ta σ H fun x H1=>r x H1 Q
def rI (C:Int→Int→Prop) (g:Int→Int→V):R2:=fun x y H Q=>∃i j,x = .int i∧y = .int j∧C i j∧Q (g i j) H
def rI0 (g:Int→Int→V):R2:=fun x y H Q=>∃i j,x = .int i∧y = .int j∧Q (g i j) H
def rU (g:Int→V):V→Hp→VK→Prop:=fun x H Q=>∃i,x = .int i∧Q (g i) H
section
variable {X:Cx} {a b c:Expr} {ta tb tc:TE} {pos:Pos}
theorem binT (ha:PE X a ta) (hb:PE X b tb) {pins:List (Addr×Obj)} {s:Shared} {σ:St} {H:Hp} {R:V→V→Hp→Prop} (I:Inv X pins σ H s)
 (h:ta σ H fun x H1=>tb σ H1 fun y H2=>R x y H2) {Q:Value→Shared→Prop} {f:Value→Value→Sem Value}
 (hf:∀v u s2 x y H2,Inv X pins σ H2 s2→RelV x v→RelV y u→R x y H2→wpAny (model X.prog X.w) X.A (f v u) Q X.xe s2) :
 wpAny (model X.prog X.w) X.A (eval a X.env) (fun v s₁=>wpAny (model X.prog X.w) X.A (eval b X.env) (fun u s₂=>wpAny (model X.prog X.w) X.A (f v u) Q X.xe s₂) X.xe s₁) X.xe s:=by
 refine thn (ha pins s σ H _ I h) fun v s1 ⟨x,H1,I1,r1,q1⟩=>?_
 refine thn (hb pins s1 σ H1 _ I1 q1) fun u s2 ⟨y,H2,I2,r2,q2⟩=>?_
 exact hf v u s2 x y H2 I2 r1 r2 q2
theorem pe_op {op:Operator} {r:R2} (ho:OpR X (binaryOp op) r) (ha:PE X a ta) (hb:PE X b tb):PE X (.BinOp a op b pos) (tOp r ta tb):=by
 intro pins s σ H Q I h
 exact wpAny_BinOp (binT ha hb I h fun v u s2 x y H2 I2 rx ry q=>ho pins s2 σ H2 x y v u Q I2 rx ry q)
theorem pe_un {op:UnaryOp} {r:V→Hp→VK→Prop} (ho:UnR X (unaryOp op) r) (ha:PE X a ta):PE X (.UnaryOp op a pos) (tUn r ta):=by
 intro pins s σ H Q I h
 exact UnaryOp_ (thn (ha pins s σ H _ I h) fun v s1 ⟨x,H1,I1,r1,q1⟩=>ho pins s1 σ H1 x v Q I1 r1 q1)
theorem opI {f:Value→Value→Sem Value} {C:Int→Int→Prop} {g:Int→Int→Int}
 (rule:∀(i j:Int) (t u:Tok) (s:Shared) (Q:Value→Shared→Prop) (E:Value→Shared→Prop),C i j→Q (.int (g i j) s.toks) { s with toks:=s.toks + 1 }→wpAny (model X.prog X.w) X.A (f (.int i t) (.int j u)) Q E s) :
 OpR X f (rI C fun i j=>.int (g i j)):=by
 intro pins s σ H x y v u Q I rx ry h
 obtain ⟨i,j,rfl,rfl,hc,q⟩:=h
 obtain ⟨t,rfl⟩:=rx
 obtain ⟨t',rfl⟩:=ry
 exact rule i j t t' s _ _ hc ⟨.int (g i j),H,I.tok _,⟨_,rfl⟩,q⟩
theorem opI0 {f:Value→Value→Sem Value} {g:Int→Int→Int}
 (rule:∀(i j:Int) (t u:Tok) (s:Shared) (Q:Value→Shared→Prop) (E:Value→Shared→Prop),Q (.int (g i j) s.toks) { s with toks:=s.toks + 1 }→wpAny (model X.prog X.w) X.A (f (.int i t) (.int j u)) Q E s) :
 OpR X f (rI0 fun i j=>.int (g i j)):=by
 intro pins s σ H x y v u Q I rx ry h
 obtain ⟨i,j,rfl,rfl,q⟩:=h
 obtain ⟨t,rfl⟩:=rx
 obtain ⟨t',rfl⟩:=ry
 exact rule i j t t' s _ _ ⟨.int (g i j),H,I.tok _,⟨_,rfl⟩,q⟩
theorem opB0 {f:Value→Value→Sem Value} {g:Int→Int→Bool}
 (rule:∀(i j:Int) (t u:Tok) (s:Shared) (Q:Value→Shared→Prop) (E:Value→Shared→Prop),Q (.bool (g i j)) s→wpAny (model X.prog X.w) X.A (f (.int i t) (.int j u)) Q E s) :
 OpR X f (rI0 fun i j=>.bl (g i j)):=by
 intro pins s σ H x y v u Q I rx ry h
 obtain ⟨i,j,rfl,rfl,q⟩:=h
 obtain ⟨t,rfl⟩:=rx
 obtain ⟨t',rfl⟩:=ry
 exact rule i j t t' s _ _ ⟨.bl (g i j),H,I,rfl,q⟩
def CPow (i j:Int):Prop:=0≤j∧j≤1000000∧i.natAbs < 2 ^ 64
def CMul (i j:Int):Prop:=(-(2 ^ 64) < i∧i < 2 ^ 64)∨(-(2 ^ 64) < j∧j < 2 ^ 64)
theorem CMul.ok {i j:Int} (h:CMul i j):IntMulOk i j:=by
 rcases h with ⟨h1,h2⟩ | ⟨h1,h2⟩
 ·exact .of_left (intBits_le_64 h1 h2)
 ·exact .of_right (intBits_le_64 h1 h2)
theorem op_add:OpR X (binaryOp .Add) (rI0 fun i j=>.int (i + j)):=opI0 fun _ _ _ _ _ _ _ q=>add_int q
theorem op_sub:OpR X (binaryOp .Sub) (rI0 fun i j=>.int (i - j)):=opI0 fun _ _ _ _ _ _ _ q=>sub_int q
theorem op_mul:OpR X (binaryOp .Mult) (rI CMul fun i j=>.int (i * j)):=opI fun _ _ _ _ _ _ _ hc q=>mul_int q hc.ok
theorem op_mod:OpR X (binaryOp .Mod) (rI (fun _ j=>0 < j) fun i j=>.int (i % j)):=opI fun i j _ _ _ _ _ hc q=>by
 have h1:(0:Int) < j:=hc
 exact mod_int' (by omega) (by rw [Int.fmod_eq_emod_of_nonneg i (by omega)];exact q)
theorem op_pow:OpR X (binaryOp .Pow) (rI CPow fun i j=>.int (i ^ j.toNat)):=opI fun _ _ _ _ _ _ _ hc q=>pow_int_small hc.1 hc.2.1 hc.2.2 q
theorem unI {f:Value→Sem Value} {g:Int→Int}
 (rule:∀(i:Int) (t:Tok) (s:Shared) (Q:Value→Shared→Prop) (E:Value→Shared→Prop),Q (.int (g i) s.toks) { s with toks:=s.toks + 1 }→wpAny (model X.prog X.w) X.A (f (.int i t)) Q E s) :
 UnR X f (rU fun i=>.int (g i)):=by
 intro pins s σ H x v Q I rx h
 obtain ⟨i,rfl,q⟩:=h
 obtain ⟨t,rfl⟩:=rx
 exact rule i t s _ _ ⟨.int (g i),H,I.tok _,⟨_,rfl⟩,q⟩
theorem un_neg:UnR X (unaryOp .USub) (rU fun i=>.int (-i)):=unI fun _ _ _ _ _ q=>neg_int q
end
section
variable {X:Cx} {a b c:Expr} {ta tb tc:TE} {pos:Pos}
theorem op_lt:OpR X (compareOp .Lt) (rI0 fun i j=>.bl (decide (i < j))):=opB0 fun _ _ _ _ _ _ _ q=>lt_int q
theorem op_le:OpR X (compareOp .LtE) (rI0 fun i j=>.bl (decide (i≤j))):=opB0 fun _ _ _ _ _ _ _ q=>le_int q
theorem op_gt:OpR X (compareOp .Gt) (rI0 fun i j=>.bl (decide (j < i))):=opB0 fun _ _ _ _ _ _ _ q=>gt_int q
theorem OpR.or {f:Value→Value→Sem Value} {r r':R2} (h:OpR X f r) (h':OpR X f r'):OpR X f (fun x y H Q=>r x y H Q∨r' x y H Q):=by
 intro pins s σ H x y v u Q I rx ry q
 rcases q with q | q
 ·exact h pins s σ H x y v u Q I rx ry q
 ·exact h' pins s σ H x y v u Q I rx ry q
theorem nomark (b:Expr) {op:CmpOp} (h:op≠.In:=by decide) (h2:op≠.NotIn:=by decide):behindInMarks op b=false:=by
 have e1:(op == CmpOp.In)=false:=by cases op <;> first | rfl | exact absurd rfl h
 have e2:(op == CmpOp.NotIn)=false:=by cases op <;> first | rfl | exact absurd rfl h2
 cases b <;> simp [behindInMarks,e1,e2]
theorem pe_cmpR {op:CmpOp} {r:R2} (ho:OpR X (compareOp op) r) (ha:PE X a ta) (hb:PE X b tb) (hm:behindInMarks op b=false):PE X (.Compare a [op] [b] pos) (tOp r ta tb):=by
 intro pins s σ H Q I h
 exact wpAny_Compare1 (binT ha hb I h fun v u s2 x y H2 I2 rx ry q=>ho pins s2 σ H2 x y v u Q I2 rx ry q) hm
def tTest (t:TE):TT:=fun σ H Q=>t σ H fun x H'=>∃k,x = .bl k∧Q k H'
theorem pt_cmpR {op:CmpOp} {r:R2} (ho:OpR X (compareOp op) r) (ha:PE X a ta) (hb:PE X b tb) (hm:behindInMarks op b=false):PT X (.Compare a [op] [b] pos) (tTest (tOp r ta tb)):=by
 intro pins s σ H Q I h
 refine wpAny_isTrue_Compare1 (thn (ha pins s σ H _ I h) fun v s1 ⟨x,H1,I1,r1,q1⟩=>thn (hb pins s1 σ H1 _ I1 q1) fun u s2 ⟨y,H2,I2,r2,q2⟩=>
  thn (ho pins s2 σ H2 x y v u _ I2 r1 r2 q2) fun c s3 ⟨z,H3,I3,r3,k,e,q3⟩=>?_) hm
 subst e
 cases r3
 exact wpAny_truthy_bool ⟨H3,I3,q3⟩
def tChain (r r':R2) (ta tb tc:TE):TE:=fun σ H Q=>ta σ H fun x H1=>tb σ H1 fun y H2=>r x y H2 fun z H3=>∃k,z = .bl k∧
 (if k=true then tc σ H3 fun w' H4=>r' y w' H4 Q else Q (.bl false) H3)
theorem pe_chain {op op':CmpOp} {r r':R2} (ho:OpR X (compareOp op) r) (ho':OpR X (compareOp op') r') (ha:PE X a ta) (hb:PE X b tb) (hc:PE X c tc)
 (hm:lastMarks [op,op'] [b,c]=false:=by with_unfolding_all rfl):PE X (.Compare a [op,op'] [b,c] pos) (tChain r r' ta tb tc):=by
 intro pins s σ H Q I h
 refine Compare_chain (thn (ha pins s σ H _ I h) fun v s1 ⟨x,H1,I1,r1,q1⟩=>chain_link (thn (hb pins s1 σ H1 _ I1 q1) fun u s2 ⟨y,H2,I2,r2,q2⟩=>
  thn (ho pins s2 σ H2 x y v u _ I2 r1 r2 q2) fun d s3 ⟨z,H3,I3,r3,k,e,q3⟩=>?_)) hm
 subst e
 cases r3
 refine wpAny_truthy_bool ?_
 cases k with
 | false=>exact ite_ff ⟨.bl false,H3,I3,rfl,q3⟩
 | true=>exact ite_tt (chain_last (thn (hc pins s3 σ H3 _ I3 q3) fun w' s4 ⟨z',H4,I4,r4,q4⟩=>ho' pins s4 σ H4 y z' u w' Q I4 r2 r4 q4))
theorem line63:(sizeLine:Nat) < 2 ^ 63:=by rw [sizeLine_eq];decide
theorem op_add_str:OpR X (binaryOp .Add) (fun x y H Q=>∃i j,x = .str i∧y = .str j∧i.length + j.length≤sizeLine∧Q (.str (i++j)) H):=by
 intro pins s σ H x y v u Q I rx ry h
 obtain ⟨i,j,rfl,rfl,hz,q⟩:=h
 obtain ⟨t,rfl⟩:=rx
 obtain ⟨t',rfl⟩:=ry
 exact wpAny_with_toks (Nat.le_refl s.toks) (add_str (fun t' tk ht=>⟨.str (i++j),H,I.tok _,⟨_,rfl⟩,q⟩) hz)
theorem vals1 {x:V} {us:List Value} (r:Vals [x] us):∃u,us=[u]∧RelV x u:=by
 cases r with
 | cons r1 r2=>cases r2;exact ⟨_,rfl,r1⟩
theorem vals2 {x y:V} {us:List Value} (r:Vals [x,y] us):∃u w',us=[u,w']∧RelV x u∧RelV y w':=by
 cases r with
 | cons r1 r2=>
   cases r2 with
   | cons r3 r4=>cases r4;exact ⟨_,_,rfl,r1,r3⟩
theorem call_max2 (hc:X.calm=true):CallR X (.builtin "max") (fun xs H Q=>∃i j,xs=[.int i,.int j]∧Q (.int (if j > i then j else i)) H):=by
 intro pins s σ H xs us Q I r h
 obtain ⟨i,j,rfl,q⟩:=h
 obtain ⟨u,w',rfl,⟨t,rfl⟩,⟨t',rfl⟩⟩:=vals2 r
 refine wpAny_with_toks (Nat.le_refl s.toks) (max_two_ints (I.ok.hd hc) fun h' tk k ht=>⟨_,H,I.kept k,?_,q⟩)
 by_cases hj:j > i
 ·rw [if_pos hj,if_pos hj];exact ⟨_,rfl⟩
 ·rw [if_neg hj,if_neg hj];exact ⟨_,rfl⟩
theorem call_min2 (hc:X.calm=true):CallR X (.builtin "min") (fun xs H Q=>∃i j,xs=[.int i,.int j]∧Q (.int (if j < i then j else i)) H):=by
 intro pins s σ H xs us Q I r h
 obtain ⟨i,j,rfl,q⟩:=h
 obtain ⟨u,w',rfl,⟨t,rfl⟩,⟨t',rfl⟩⟩:=vals2 r
 refine wpAny_with_toks (Nat.le_refl s.toks) (min_two_ints (I.ok.hd hc) fun h' tk k ht=>⟨_,H,I.kept k,?_,q⟩)
 by_cases hj:j < i
 ·rw [if_pos hj,if_pos hj];exact ⟨_,rfl⟩
 ·rw [if_neg hj,if_neg hj];exact ⟨_,rfl⟩
theorem call_int1:CallR X (.type "int") (fun xs H Q=>(∃i,xs=[.int i]∧Q (.int i) H)∨∃k,xs=[.bl k]∧Q (.int (if k then 1 else 0)) H):=by
 intro pins s σ H xs us Q I r h
 rcases h with ⟨i,rfl,q⟩ | ⟨k,rfl,q⟩
 ·obtain ⟨u,rfl,t,rfl⟩:=vals1 r
  exact call_int_int ⟨.int i,H,I,⟨_,rfl⟩,q⟩
 ·obtain ⟨u,rfl,r1⟩:=vals1 r
  cases r1
  exact call_int_bool ⟨.int (if k then 1 else 0),H,I.tok _,⟨_,rfl⟩,q⟩
theorem call_str_int:CallR X (.type "str") (fun xs H Q=>∃i,xs=[.int i]∧i.natAbs.log2 < 1920∧Q (.str (toString i)) H):=by
 intro pins s σ H xs us Q I r h
 obtain ⟨i,rfl,hz,q⟩:=h
 obtain ⟨u,rfl,t,rfl⟩:=vals1 r
 exact PySem.P.str_of_int hz ⟨.str _,H,I.tok _,⟨_,rfl⟩,q⟩
theorem call_ord:CallR X (.builtin "ord") (fun xs H Q=>∃x,xs=[.str x]∧x.length=1∧Q (.int (x.cps.getD 0 0:Nat)) H):=by
 intro pins s σ H xs us Q I r h
 obtain ⟨x,rfl,hz,q⟩:=h
 obtain ⟨u,rfl,t,rfl⟩:=vals1 r
 exact ord_of_one hz ⟨.int _,H,I.tok _,⟨_,rfl⟩,q⟩
def LenV (K:PySem.W.Frag) (x:V) (H:Hp) (n:Nat):Prop:=
 match x with
 | .str y=>y.length≤sizeLine∧n=y.length
 | .byt y=>y.size≤sizeLine∧n=y.size
 | .ref p=>(∃xs,SqL K H p xs∧n=xs.length)∨∃xs,SqT K H p xs∧n=xs.length
 | _=>False
theorem call_len:CallR X (.builtin "len") (fun xs H Q=>∃x n,xs=[x]∧LenV X.K x H n∧Q (.int n) H):=by
 intro pins s σ H xs us Q I r h
 obtain ⟨x,n,rfl,e,q⟩:=h
 obtain ⟨u,rfl,rx⟩:=vals1 r
 have hl:=line63
 have hs:sizeLine=16777216:=sizeLine_eq
 cases x with
 | str y=>
   obtain ⟨t,rfl⟩:=rx
   obtain ⟨hy,e'⟩:y.length≤sizeLine∧n=y.length:=e
   subst e'
   exact len_str (by omega) ⟨.int _,H,I.tok _,⟨_,rfl⟩,q⟩
 | byt y=>
   obtain ⟨t,rfl⟩:=rx
   obtain ⟨hy,e'⟩:y.size≤sizeLine∧n=y.size:=e
   subst e'
   exact PySem.W.len_bytes (by omega) ⟨.int _,H,I.tok _,⟨_,rfl⟩,q⟩
 | ref p=>
   cases rx
   have e':(∃xs,SqL X.K H p xs∧n=xs.length)∨∃xs,SqT X.K H p xs∧n=xs.length:=e
   rcases e' with ⟨xs,hx,e'⟩ | ⟨xs,hx,e'⟩
   ·subst e'
    obtain ⟨its,r',pl,hz⟩:=I.list hx
    have hlen:=r'.length
    exact Calls.call_len_list pl.isList (by simp only [List.size_toArray];omega) ⟨.int xs.length,H,I.tok _,⟨_,by simp only [List.size_toArray];rw [hlen]⟩,q⟩
   ·subst e'
    obtain ⟨its,r',pl,hz⟩:=I.tuple hx
    have hlen:=r'.length
    exact len_tuple pl (by simp only [List.size_toArray];omega) ⟨.int xs.length,H,I.tok _,⟨_,by simp only [List.size_toArray];rw [hlen]⟩,q⟩
 | _=>exact (show False from e).elim
end
end L2
namespace L2
open PySem PySem.Spec PyProof.Rows
structure ObjM (h:Heap) (x dx C:Addr) (mA:Str→Option Value):Prop where
 obj:h.get? x=some (PySem.W.instObj C dx)
 ns:h.Ns1 dx mA
 ne:dx≠x
theorem lookIn_ns {h:Heap} {dx:Addr} {mA:Str→Option Value} (n:h.Ns1 dx mA):∃od,h.get? dx=some od∧∀name,PySem.W.lookIn name od=some (mA name):=by
 obtain ⟨o,es,ep,ho,hd,hk,_,hm⟩:=n
 refine ⟨o,ho,fun name=>?_⟩
 have e:=hm name
 unfold nsFind findBy at e
 rw [←Array.find?_toList] at e
 unfold PySem.W.lookIn
 rw [hd]
 dsimp only
 split
 ·rename_i y q
  rw [q] at e
  exact congrArg some e
 ·rename_i q
  rw [q] at e
  have a:es.toList.any (·.refKey)=false:=by
   rw [List.any_eq_false]
   intro y hy
   obtain ⟨z,t,hkey⟩:=hk y (Array.mem_toList_iff.mp hy)
   simp [DictEntry.refKey,hkey]
  have a':¬es.toList.any (·.refKey)=true:=by rw [a];exact Bool.false_ne_true
  rw [if_neg a']
  exact congrArg some e
theorem ObjM.look {h:Heap} {x dx C:Addr} {mA:Str→Option Value} (I:ObjM h x dx C mA):∃od,PySem.W.InstAt h x (PySem.W.instObj C dx) C (some od)∧∀name,PySem.W.lookIn name od=some (mA name):=
 let ⟨od,ho,hl⟩:=lookIn_ns I.ns
 ⟨od,⟨I.obj,rfl,rfl,ho⟩,hl⟩
section
variable {prog:Program} {w:World} {A:Around} {E:Value→Shared→Prop} {s:Shared} {K:PySem.W.Frag} {x dx C f:Addr} {mA:Str→Option Value} {name:Str} {v:Value}
end
theorem RelO.some_of {v:V} {o:Option Value} (r:RelO (some v) o):∃u,o=some u∧RelV v u:=by
 cases o with
 | none=>exact (show False from r).elim
 | some u=>exact ⟨u,rfl,r⟩
section
variable {P:Program} {w:World} {H H':Hp} {h h':Heap} {a C dx:Addr} {fs fs':List (Str×V)}
theorem ins_get (hok:HOk P w H h) (e:H a=some (.ins C dx fs)):∃mA,ObjM h a dx C mA∧(∀f,RelO (fs.lookup f) (mA f))∧PySem.Within mA (fs.map (·.1))∧fs.length≤1000∧H dx=some (.own a):=by
 obtain ⟨d,z,ne,ob,mA,n,r,q⟩:=(show ObjOk P w H h a (.ins C dx fs) from hok a _ e)
 exact ⟨mA,⟨ob,n,ne⟩,r,q,z,d⟩
end
structure Cls (K:PySem.W.Frag) (C:Addr):Prop where
 pg:PySem.W.plainGet K C Str.empty=true
 hd:PySem.W.hasDictIn K C=true
 po:PySem.W.plainOver K C=true
 sa:PySem.W.findIn K (.ref C) "__setattr__" = some (some (.builtin "object.__setattr__"))
theorem Cls.get {K:PySem.W.Frag} {C:Addr} (c:Cls K C) (f:Str):PySem.W.plainGet K C f=true:=c.pg
structure Con (K:PySem.W.Frag) (C:Addr) (f:Str) (v:V) (u:Value):Prop where
 at_:PySem.W.findIn K (.ref C) f=some (some u)
 rel:RelV v u
 get:PySem.W.specialIn K u "__get__" = some none
 cp:PySem.W.copiedNames.contains f=false
structure Meth (K:PySem.W.Frag) (C:Addr) (m:Str) (f:Addr):Prop where
 at_:PySem.W.findIn K (.ref C) m=some (some (.ref f))
 fn:PySem.W.isFn K (.ref f)=true
 kp:PySem.W.keepIn K (.ref f)=true
section
variable {X:Cx} {pins:List (Addr×Obj)} {σ:St} {H:Hp} {s:Shared} {a C dx:Addr} {fs:List (Str×V)} {f:Str} {v:V} {A:Around} {E:Value→Shared→Prop}
theorem Inv.made (I:Inv X pins σ H s):Inv X pins σ (upd (upd H s.heap.objs.size (.own (s.heap.objs.size + 1))) (s.heap.objs.size + 1) (.ins C s.heap.objs.size []))
 { s with heap:=(s.heap.push PySem.W.emptyDict).push (PySem.W.instObj C s.heap.objs.size) }:=by
 have e1:(s.heap.push PySem.W.emptyDict).get? s.heap.objs.size=some PySem.W.emptyDict:=Heap.get?_push_size s.heap rfl
 have e2:((s.heap.push PySem.W.emptyDict).push (PySem.W.instObj C s.heap.objs.size)).get? (s.heap.objs.size + 1)=some (PySem.W.instObj C s.heap.objs.size):=by
  have:=Heap.get?_push_size (s.heap.push PySem.W.emptyDict) (o:=PySem.W.instObj C s.heap.objs.size) rfl
  rwa [Heap.size_push] at this
 have e3:(s.heap.push PySem.W.emptyDict).Ns s.heap.objs.size (fun _=>none):=⟨PySem.W.emptyDict,#[],_,e1,rfl,(fun e he=>absurd he (by simp)),fun _=>rfl⟩
 have I1:=I.laid (a:=s.heap.objs.size) (o:=.own (s.heap.objs.size + 1)) (h':=s.heap.push PySem.W.emptyDict) (t':=s.toks) (fun b u q=>Heap.get?_push_of_some _ q) (Nat.le_refl _) ⟨_,e1⟩
 refine I1.laid (a:=s.heap.objs.size + 1) (o:=.ins C s.heap.objs.size []) (t':=s.toks) (fun b u q=>Heap.get?_push_of_some _ q) (Nat.le_of_eq (Heap.size_push _ _)) ?_
 have ne:s.heap.objs.size≠s.heap.objs.size + 1:=Nat.ne_of_lt (Nat.lt_succ_self _)
 refine ⟨by rw [upd_ne ne,upd_same],Nat.zero_le _,ne,e2,fun _=>none,(Heap.Ns1.of_empty e3).at fun o q=>Heap.get?_push_of_some _ q,fun _=>True.intro,fun y hy=>absurd rfl hy⟩
end
section
variable {X:Cx} {o e value:Expr} {f:Str} {pos pos' tpos:Pos} {ta tv:TE}
end
section
variable {X:Cx} {pins:List (Addr×Obj)} {σ:St} {H:Hp} {s:Shared} {A:Around} {E:Value→Shared→Prop} {Q:Value→Shared→Prop} {c:Value} {b:Bool}
inductive TyOf (K:PySem.W.Frag) (H:Hp):V→Value→Prop where
 | non:TyOf K H .non (.type "NoneType")
 | bl (x:Bool):TyOf K H (.bl x) (.type "bool")
 | int (i:Int):TyOf K H (.int i) (.type "int")
 | str (x:Str):TyOf K H (.str x) (.type "str")
 | flt (x:UInt64):TyOf K H (.flt x) (.type "float")
 | lst {a:Addr} {xs:List V} (e:H a=some (.lst xs)):TyOf K H (.ref a) (.type "list")
 | frz {a:Addr} {o:Obj} {xs:List V} (e:H a=some (.frz o (.lst xs))):TyOf K H (.ref a) (.type "list")
 | tup {a:Addr} {xs:List V} (e:H a=some (.tup xs)):TyOf K H (.ref a) (.type "tuple")
 | dK {a:Addr} {kvs:List (Key×V)} (e:H a=some (.dK kvs)):TyOf K H (.ref a) (.type "dict")
 | dT {a:Addr} {kvs:List (List Key×V)} (e:H a=some (.dT kvs)):TyOf K H (.ref a) (.type "dict")
 | ins {a C dx:Addr} {fs:List (Str×V)} (e:H a=some (.ins C dx fs)) (cl:Cls K C) (ha:PySem.W.findIn K (.ref C) "__class__" = some (some (.builtin "object.__class__")))
    (hn:PySem.W.specialIn K (.builtin "object.__class__") "__get__" = some (some (.builtin "getset_descriptor.__get__"))) (htk:PySem.W.takesIn K (.builtin "object.__class__")=some true)
    (hm:PySem.W.mroIn K C (.type "object")=some true):TyOf K H (.ref a) (.ref C)
theorem isinst_ok {x:V} {u t:Value} (I:Inv X pins σ H s) (rx:RelV x u) (ty:TyOf X.K H x t) (e:PySem.W.kitOne X.K t c=some b) (h:∀tk,Q (.bool b) { s with toks:=tk }) :
 wpAny (model X.prog X.w) A (call (.builtin "isinstance") [u,c]) Q E s:=by
 cases ty with
 | non=>cases (show u=Value.none from rx);exact PySem.W.kia_one PySem.W.kitx_none I.kIn True.intro e (fun z=>nomatch z) h
 | bl y=>cases (show u=Value.bool y from rx);exact PySem.W.kia_one PySem.W.kitx_bool I.kIn True.intro e (fun z=>nomatch z) h
 | int i=>obtain ⟨t,q⟩:=(show ∃t,u=Value.int i t from rx);cases q;exact PySem.W.kia_one PySem.W.kitx_int I.kIn True.intro e (fun z=>nomatch z) h
 | str y=>obtain ⟨t,q⟩:=(show ∃t,u=Value.str y t from rx);cases q;exact PySem.W.kia_one PySem.W.kitx_str I.kIn True.intro e (fun z=>nomatch z) h
 | flt y=>obtain ⟨t,q⟩:=(show ∃t,u=Value.float y t from rx);cases q;exact PySem.W.kia_one PySem.W.kitx_float I.kIn True.intro e (fun z=>nomatch z) h
 | @lst a xs ea=>
   cases (show u=Value.ref a from rx)
   obtain ⟨_,_,n,_,h1⟩:=(show ObjOk X.prog X.w H s.heap a (.lst xs) from I.hok a _ ea)
   exact PySem.W.kia_one PySem.W.kitx_list I.kIn ⟨_,h1,rfl⟩ e (fun z=>nomatch z) h
 | @frz a ob xs ea=>
   cases (show u=Value.ref a from rx)
   obtain ⟨_,_,_,n,_,h1⟩:=(show ObjOk X.prog X.w H s.heap a (.frz ob (.lst xs)) from I.hok a _ ea)
   exact PySem.W.kia_one PySem.W.kitx_list I.kIn ⟨_,h1,rfl⟩ e (fun z=>nomatch z) h
 | @tup a xs ea=>
   cases (show u=Value.ref a from rx)
   obtain ⟨_,_,_,p⟩:=(show ObjOk X.prog X.w H s.heap a (.tup xs) from I.hok a _ ea)
   obtain ⟨o,h1,h2,_⟩:=p
   exact PySem.W.kia_one PySem.W.kitx_tuple I.kIn ⟨o,h1,h2⟩ e (fun z=>nomatch z) h
 | @dK a kvs ea=>
   cases (show u=Value.ref a from rx)
   obtain ⟨_,_,vs,_,p⟩:=(show ObjOk X.prog X.w H s.heap a (.dK kvs) from I.hok a _ ea)
   obtain ⟨o,es,ep,h1,h2,_⟩:=p
   exact PySem.W.kia_one PySem.W.kitx_dict I.kIn ⟨o,h1,h2.1⟩ e (fun z=>nomatch z) h
 | @dT a kvs ea=>
   cases (show u=Value.ref a from rx)
   obtain ⟨_,_,xs,_,o,es,ep,h1,h2,_⟩:=(show ObjOk X.prog X.w H s.heap a (.dT kvs) from I.hok a _ ea)
   exact PySem.W.kia_one PySem.W.kitx_dict I.kIn ⟨o,h1,h2.1⟩ e (fun z=>nomatch z) h
 | @ins a C dx fs ea cl ha hn htk hm=>
   cases (show u=Value.ref a from rx)
   obtain ⟨mA,O,_⟩:=ins_get I.hok ea
   obtain ⟨od,J,_⟩:=O.look
   exact PySem.W.kia_one (PySem.W.kitx_own (cl.get _) cl.hd ha hn htk hm) I.kIn J e (fun z=>nomatch z) h
end
end L2
namespace L2
open PySem PySem.Spec PyProof.Rows
structure Room (k:Nat) (A:Around):Prop where
 hd:A.handled=none
 dp:A.depth + 3 * k + 5 < recursionLimit
 un:A.units + 16 * k + 200 < cLine
theorem Room.deeper {k:Nat} {A:Around} (r:Room (k + 1) A) (env:Env):Room k (A.deeper env):=
 ⟨r.hd,by have:=r.dp;show A.depth + 1 + 3 * k + 5 < _;omega,by have:=r.un;show A.units + 3 + 16 * k + 200 < _;omega⟩
theorem Room.depth {k:Nat} {A:Around} (r:Room k A):A.depth < recursionLimit:=by have:=r.dp;omega
theorem Room.units {k:Nat} {A:Around} (r:Room k A):A.units + 64 < cLine:=by have:=r.un;omega
def tNil:TA:=fun _ H Q=>Q [] H
def tCons (ta:TE) (tr:TA):TA:=fun σ H Q=>ta σ H fun x H1=>tr σ H1 fun xs H2=>Q (x :: xs) H2
section
variable {X:Cx} {e:Expr} {es:List Expr} {te:TE} {t:TA} {pos:Pos}
theorem pa_nil:PA X [] tNil:=fun _ _ _ _ H Q I h=>Calls.spliced_nil ⟨[],H,I,.nil,h⟩
theorem pa_cons (ha:PE X e te) (hr:PA X es t) (hs:starEach (e :: es) X.env=(false,eval e X.env) :: starEach es X.env:=by rfl):PA X (e :: es) (tCons te t):=by
 intro pos pins s σ H Q I h
 rw [hs]
 show wpAny _ _ (spliced ((false,eval e X.env) :: backTo pos (starEach es X.env))) _ _ s
 refine Calls.spliced_cons (thn (ha pins s σ H _ I h) fun u s1 ⟨x,H1,I1,r1,q1⟩=>?_)
 exact thn (hr pos pins s1 σ H1 _ I1 q1) fun us s2 ⟨xs,H2,I2,r2,q2⟩=>⟨x :: xs,H2,I2,.cons r1 r2,q2⟩
def tTup (t:TA):TE:=fun σ H Q=>t σ H fun xs H1=>xs.length≤sizeLine∧∀p,H1 p=none→Q (.ref p) (upd H1 p (.tup xs))
def tLst (t:TA):TE:=fun σ H Q=>t σ H fun xs H1=>xs.length≤sizeLine∧∀p,H1 p=none→Q (.ref p) (upd H1 p (.lst xs))
theorem pe_tup {x1} (h:PA X es t):PE X (.Tuple es x1 pos) (tTup t):=by
 intro pins s σ H Q I hq
 refine wpAny_Tuple_spliced (thn (h pos pins s σ H _ I hq) fun us s1 ⟨xs,H1,I1,r,z,q⟩=>⟨by rw [←r.length];exact z,?_⟩)
 have hf:H1 s1.heap.objs.size=none:=I1.hok.fresh (Nat.le_refl _)
 refine ⟨.ref s1.heap.objs.size,upd H1 s1.heap.objs.size (.tup xs),I1.laid (t':=s1.toks) (fun b u e=>Heap.get?_push_of_some _ e) (Nat.le_refl _) ?_,rfl,q _ hf⟩
 exact ⟨z,us,r,⟨_,Heap.get?_push_size _ rfl,rfl,_,rfl⟩⟩
theorem pe_lst (h:PA X es t):PE X (.List es pos) (tLst t):=by
 intro pins s σ H Q I hq
 refine wpAny_List_spliced (thn (h pos pins s σ H _ I hq) fun us s1 ⟨xs,H1,I1,r,z,q⟩=>⟨by rw [←r.length];exact z,?_⟩)
 have hf:H1 s1.heap.objs.size=none:=I1.hok.fresh (Nat.le_refl _)
 refine ⟨.ref s1.heap.objs.size,upd H1 s1.heap.objs.size (.lst xs),I1.laid (t':=s1.toks) (fun b u e=>Heap.get?_push_of_some _ e) (Nat.le_refl _) ?_,rfl,q _ hf⟩
 exact ⟨z,us,0,r,Heap.get?_push_size _ rfl⟩
end
abbrev Sp:=List V→Hp→VK→XK→Prop
abbrev CXT:=List Env→Hp→Shared→XK→Value→Shared→Prop
structure Env0 (P:Program) (w:World) (K:PySem.W.Frag) (mg:Str→Option Value) (base:Heap) (A:Around) (outer:List Env) (s:Shared) (H:Hp):Prop where
 frames:A.frames=some outer
 mod:Mod K mg base
 bs:∀b o,base.get? b=some o→s.heap.get? b=some o∧H b=none
 bsz:base.objs.size≤s.heap.objs.size
 funs:s.heap.FunFrames base outer
 frf:∀b∈frs outer,H b=none
 hok:HOk P w H s.heap
 bare:AllBare s.gens
 tk:TKof K≤s.toks
def CE (outer:List Env) (P:Program) (w:World) (H:Hp) (s:Shared) (Q:VK) (u:Value) (s':Shared):Prop:=
 ∃v H',s'.os=s.os∧AllBare s'.gens∧Un (frs outer) [] H H' s.heap s'.heap∧HOk P w H' s'.heap∧RelV v u∧Q v H'
def CR (CX:CXT) (outer:List Env) (P:Program) (w:World) (H:Hp) (s:Shared) (Q:VK) (E:XK) (r:Result) (s':Shared):Prop:=
 match r with
 | .ok (.ret u)=>CE outer P w H s Q u s'
 | .ok _=>False
 | .error e=>CX outer H s E e s'
structure FnOk (P:Program) (w:World) (K:PySem.W.Frag) (mg:Str→Option Value) (base:Heap) (CX:CXT) (k:Nat) (f:Addr) (fd:FuncData) (ps:List Str) (sp:Sp):Prop where
 len:∀vs H Q E,sp vs H Q E→vs.length=ps.length
 run:∀(A:Around) (outer:List Env) (s:Shared) (H:Hp) (args:Args) (us:List Value) (vs:List V) (Q:VK) (E:XK),Room k A→Env0 P w K mg base A outer s H→BindsTo s fd args (ps.zip us)→Vals vs us→sp vs H Q E→
  codeAny (model P w) A (.call (.ref f) args) (CR CX outer P w H s Q E) s
section
variable {X:Cx} {pins:List (Addr×Obj)} {σ:St} {H:Hp} {s s':Shared}
theorem Inv.env0 (I:Inv X pins σ H s):Env0 X.prog X.w X.K X.mg X.base X.A X.stack s H:=
 ⟨I.ok.frames,I.ok.mod,I.bs,Nat.le_trans I.ok.bsz I.sz,I.stack,I.stkFree,I.hok,I.bare,I.tk⟩
theorem Inv.after {Q:VK} {u:Value} (I:Inv X pins σ H s) (h:CE X.stack X.prog X.w H s Q u s') (ht:s.toks≤s'.toks):EP X pins σ Q u s':=by
 obtain ⟨v,H',os,bare,un,hok,r,q⟩:=h
 obtain ⟨hh,g,d,t,os'⟩:=s'
 obtain rfl:os'=s.os:=os
 exact ⟨v,H',I.call (h':=hh) (g':=g) (d':=d) (t':=t) (ch:=[]) un hok bare (fun b z=>absurd z (by simp)),r,q⟩
end
def tCall (sp:Sp) (dvs:List V) (E:XK) (t:TA):TE:=fun σ H Q=>t σ H fun vs H1=>sp (vs++dvs) H1 Q E
def Binds (K:PySem.W.Frag) (fd:FuncData) (ps:List Str) (ds:List Value):Prop:=
 ∀(s:Shared) (us:List Value),K.In s.heap→(us++ds).length=ps.length→BindsTo s fd ⟨us,[]⟩ (ps.zip (us++ds))
theorem Binds.all {K:PySem.W.Frag} {fd:FuncData} {ps:List Str} (h:∀us:List Value,us.length=ps.length→bindArgs fd ⟨us,[]⟩=pure (ps.zip us)):Binds K fd ps []:=fun s us _ hl=>by
 rw [List.append_nil] at hl ⊢
 exact .of_eq (h us hl)
def Passes (CX:CXT) (X:Cx) (E:XK):Prop:=∀(pins:List (Addr×Obj)) (σ:St) (H:Hp) (s:Shared) (e:Value) (s':Shared),Inv X pins σ H s→s.toks≤s'.toks→CX X.stack H s E e s'→X.xe e s'
section
variable {X:Cx} {CX:CXT} {k:Nat} {f C:Addr} {fd:FuncData} {ps:List Str} {sp:Sp} {dvs:List V} {ds:List Value} {E:XK} {x m:Str} {p pos apos:Pos} {e o:Expr} {es:List Expr} {ta:TE} {t:TA}
theorem run_fn {pins:List (Addr×Obj)} {σ:St} {H:Hp} {s:Shared} {Q:VK} {us:List Value} {vs:List V} (F:FnOk X.prog X.w X.K X.mg X.base CX k f fd ps sp) (hr:Room k X.A) (hb:Binds X.K fd ps ds) (hd:Vals dvs ds) (hx:Passes CX X E)
 (I:Inv X pins σ H s) (r:Vals vs us) (h:sp (vs++dvs) H Q E):wpAny (model X.prog X.w) X.A (call (.ref f) us) (EP X pins σ Q) X.xe s:=by
 have r2:Vals (vs++dvs) (us++ds):=r.append hd
 have hl:(us++ds).length=ps.length:=by rw [←r2.length];exact F.len _ _ _ _ h
 refine wpAny_call (codeAny_mono (codeAny_toks_of (Nat.le_refl s.toks) (F.run X.A X.stack s H ⟨us,[]⟩ (us++ds) (vs++dvs) Q E hr I.env0 (hb s us I.kIn hl) r2 h)) fun r s' ⟨ht,hq⟩=>?_)
 cases r with
 | error e=>exact hx pins σ H s e s' I ht hq
 | ok fl=>
   cases fl with
   | ret u=>exact I.after hq ht
   | next=>exact False.elim hq
   | brk=>exact False.elim hq
   | cont=>exact False.elim hq
theorem pe_call (F:FnOk X.prog X.w X.K X.mg X.base CX k f fd ps sp) (hr:Room k X.A) (hg:Gl X x) (hm:X.mg x=some (.ref f)) (hk:PySem.W.keepIn X.K (.ref f)=true) (hb:Binds X.K fd ps ds) (hd:Vals dvs ds) (hx:Passes CX X E)
 (ha:PA X (e :: es) t) (hdb:(x == ("__debug__" : Str))=false:=by decide) (he:starEach (e :: es) X.env=(false,eval e X.env) :: starEach es X.env:=by rfl) (hpl:(backTo pos (starEach es X.env)).any (·.1)=false:=by rfl) :
 PE X (.Call (.Name x p) (e :: es) [] pos) (tCall sp dvs E t):=by
 intro pins s σ H Q I h
 refine wpAny_Call_Name_kw (ld_glob I hg hm ?_ hdb)
 refine PySem.W.callWith_K (h₀:=X.base) I.ok.mod.kin hk (thn (ha pos pins s σ H _ I h) fun us s1 ⟨vs,H1,I1,r,q⟩=>⟨I1.kIn,?_⟩) he hpl
 exact run_fn F hr hb hd hx I1 r q
theorem pe_call0 (F:FnOk X.prog X.w X.K X.mg X.base CX k f fd ps sp) (hr:Room k X.A) (hg:Gl X x) (hm:X.mg x=some (.ref f)) (hk:PySem.W.keepIn X.K (.ref f)=true) (hb:Binds X.K fd ps ds) (hd:Vals dvs ds) (hx:Passes CX X E)
 (hdb:(x == ("__debug__" : Str))=false:=by decide):PE X (.Call (.Name x p) [] [] pos) (tCall sp dvs E tNil):=by
 intro pins s σ H Q I h
 refine wpAny_Call_Name_kw (ld_glob I hg hm ?_ hdb)
 exact PySem.W.callWith_K0 I.kIn hk (run_fn (us:=[]) F hr hb hd hx I .nil h)
structure Mk (K:PySem.W.Frag) (C f:Addr):Prop where
 makes:PySem.W.makesIn K C=true
 init:PySem.W.findIn K (.ref C) "__init__" = some (some (.ref f))
 fn:PySem.W.isFn K (.ref f)=true
 kp:PySem.W.keepIn K (.ref C)=true
end
section
variable {X:Cx} {CX:CXT} {k:Nat} {f C:Addr} {fd:FuncData} {ps ks:List Str} {sp:Sp} {E:XK} {x m:Str} {p pos apos kpos:Pos} {e o:Expr} {es:List Expr} {kws:List Keyword} {te ta:TE} {t tk:TA} {nm:Option Str}
structure KBinds (K:PySem.W.Frag) (fd:FuncData) (ps ks:List Str) (g:List Value→List Value→List Value) (gV:List V→List V→List V):Prop where
 to:∀(s:Shared) (us ws:List Value),K.In s.heap→(g us ws).length=ps.length→BindsTo s fd ⟨us,ks.zip ws⟩ (ps.zip (g us ws))
 rel:∀{vs:List V} {us:List Value} {zs:List V} {ws:List Value},Vals vs us→Vals zs ws→Vals (gV vs zs) (g us ws)
variable {g:List Value→List Value→List Value} {gV:List V→List V→List V}
end
structure FnScope (N P:List Str) (sc:Scope):Prop where
 kind:sc.kind = .function
 co:sc.isCoroutine=false
 gen:sc.isGenerator=false
 nd:N.Nodup
 pre:N.take P.length=P
 par:∀x∈P,sc.names.lookup x=some .local∨sc.names.lookup x=some .cell
 nofree:∀y∈sc.names,y.2≠.free
theorem bindL_out {kindOf:Str→Option NameKind} {x:Str}:∀{binds:List (Str×Value)} {m:Str→Option Value},(∀v,(x,v)∉binds)→bindL kindOf binds m x=m x
 | [],_,_=>rfl
 | (n,v) :: r,m,h=>by
   unfold bindL
   rw [bindL_out fun w hw=>h w (List.mem_cons_of_mem _ hw)]
   split
   ·have:x≠n:=by rintro rfl;exact h v List.mem_cons_self
    simp [this]
   ·rfl
theorem bindC_out {kindOf:Str→Option NameKind} {x:Str}:∀{binds:List (Str×Value)} {m:Str→Option Value},(∀v,(x,v)∉binds)→bindC kindOf binds m x=m x
 | [],_,_=>rfl
 | (n,v) :: r,m,h=>by
   unfold bindC
   rw [bindC_out fun w hw=>h w (List.mem_cons_of_mem _ hw)]
   split
   ·rfl
   ·have:x≠n:=by rintro rfl;exact h v List.mem_cons_self
    simp [this]
theorem bindL_get {kindOf:Str→Option NameKind} {x:Str} {v:Value}:∀{P:List Str} {vs:List Value} {i:Nat} {m:Str→Option Value},P.Nodup→P[i]?=some x→vs[i]?=some v→kindOf x=some .local→
 bindL kindOf (P.zip vs) m x=some v
 | [],_,_,_,_,h,_,_=>by simp at h
 | _ :: _,[],_,_,_,_,h,_=>by simp at h
 | p :: P,w :: vs,0,m,nd,h1,h2,hk=>by
   simp at h1 h2;subst h1;subst h2
   show bindL kindOf ((p,w) :: P.zip vs) m p=_
   unfold bindL
   rw [bindL_out fun v hv=>(List.nodup_cons.mp nd).1 (List.of_mem_zip hv).1,if_pos hk]
   simp
 | p :: P,w :: vs,i + 1,m,nd,h1,h2,hk=>by
   show bindL kindOf ((p,w) :: P.zip vs) m x=_
   unfold bindL
   exact bindL_get (i:=i) (List.nodup_cons.mp nd).2 (by simpa using h1) (by simpa using h2) hk
theorem bindC_get {kindOf:Str→Option NameKind} {x:Str} {v:Value}:∀{P:List Str} {vs:List Value} {i:Nat} {m:Str→Option Value},P.Nodup→P[i]?=some x→vs[i]?=some v→kindOf x≠some .local→
 bindC kindOf (P.zip vs) m x=some v
 | [],_,_,_,_,h,_,_=>by simp at h
 | _ :: _,[],_,_,_,_,h,_=>by simp at h
 | p :: P,w :: vs,0,m,nd,h1,h2,hk=>by
   simp at h1 h2;subst h1;subst h2
   show bindC kindOf ((p,w) :: P.zip vs) m p=_
   unfold bindC
   rw [bindC_out fun v hv=>(List.nodup_cons.mp nd).1 (List.of_mem_zip hv).1,if_neg hk]
   simp
 | p :: P,w :: vs,i + 1,m,nd,h1,h2,hk=>by
   show bindC kindOf ((p,w) :: P.zip vs) m x=_
   unfold bindC
   exact bindC_get (i:=i) (List.nodup_cons.mp nd).2 (by simpa using h1) (by simpa using h2) hk
def start (N:List Str) (vs:List V):St:=vs.map some++List.replicate (N.length - vs.length) none
def cxOf (CX:CXT) (P:Program) (w:World) (K:PySem.W.Frag) (mg:Str→Option Value) (base:Heap) (N:List Str) (qual:Str) (scope:Scope) (f:Addr) (cd:Value) (A:Around) (outer:List Env) (s:Shared) (H:Hp) (E:XK):Cx where
 prog:=P
 w:=w
 K:=K
 mg:=mg
 base:=base
 A:=A.deeper (envOfC qual scope s.heap.objs.size f cd)
 N:=N
 s₀:=s
 H₀:=H
 env:=envOfC qual scope s.heap.objs.size f cd
 outer:=outer
 stack:=envOfC qual scope s.heap.objs.size f cd :: outer
 ex:=[]
 calm:=true
 fn:=fun _=>true
 pn:=[]
 xe:=fun e s'=>wpAny (model P w) (A.deeper (envOfC qual scope s.heap.objs.size f cd)) (leaving (envOfC qual scope s.heap.objs.size f cd) e) (fun _ s''=>CX outer H s E e s'') (fun e' s''=>CX outer H s E e' s'') s'
theorem cell_has {sc:Scope} {n:Nat} {x:Str} (h:sc.names.lookup x=some .cell):∃c,(cellsFrom n sc.names []).lookup x=some c:=by
 have q:=PySem.W.cellsFrom_some sc.names n [] (.inl h)
 exact Option.isSome_iff_exists.mp q
theorem inv_start {CX:CXT} {P:Program} {w:World} {K:PySem.W.Frag} {mg:Str→Option Value} {base:Heap} {N ps:List Str} {qual:Str} {scope:Scope} {f:Addr} {cd:Value} {A:Around} {outer:List Env} {s s1:Shared} {H:Hp} {E:XK} {us:List Value} {vs:List V}
 (S:FnScope N ps scope) (hd:A.handled=none) (e0:Env0 P w K mg base A outer s H) (hl:vs.length=ps.length) (r:Vals vs us)
 (x:InCallC s s.heap.objs.size (bindL (envOfC qual scope s.heap.objs.size f cd).kindOf (ps.zip us) fun _=>none) (cellsFrom (s.heap.objs.size + 1) scope.names []) (bindC (envOfC qual scope s.heap.objs.size f cd).kindOf (ps.zip us) fun _=>none) s1) (ht:s.toks≤s1.toks) :
 Inv (cxOf CX P w K mg base N qual scope f cd A outer s H E) [] (start N vs) H s1:=by
 have hpl:ps.length≤N.length:=by have:=congrArg List.length S.pre;rw [List.length_take] at this;omega
 obtain ⟨h1,tk,rfl,hk⟩:=x.done
 have noA:∀b:Addr,b∉(cxOf CX P w K mg base N qual scope f cd A outer s H E).ex:=fun b z=>absurd (show b∈([]:List Addr) from z) (by simp)
 refine ⟨⟨e0.mod,S.kind,rfl,rfl,Nat.le_refl _,fun y z c h1 h2=>?_,fun y hy=>?_,fun y c _ h=>?_,fun _=>hd,Around.frames_deeper e0.frames,.inr ⟨rfl,rfl⟩,fun b z=>absurd z (noA b),e0.bs,e0.bsz,fun b _ _=>noA b,fun b z=>absurd z (noA b),e0.funs,e0.frf⟩,
  rfl,e0.bare,Un.kept hk,⟨_,x.toInCall.ns,fun i y v h1 h2 h3=>?_⟩,fun y c h=>⟨_,x.cell y c h⟩,e0.hok.fresh (Nat.le_refl _),fun y c h=>?_,fun p hp=>absurd (show p∈([]:List (Addr×Obj)) from hp) (by simp),e0.hok.kept hk,?_,Nat.le_trans e0.tk ht⟩
 ·exact name_of_addr x.apart (PySem.mem_of_lookup h1) (PySem.mem_of_lookup h2)
 ·have hy:scope.names.lookup y=some .cell∨scope.names.lookup y=some .free:=hy
  rcases hy with hy | hy
  ·exact cell_has hy
  ·exact absurd rfl (S.nofree _ (PySem.mem_of_lookup hy))
 ·exact Nat.le_of_lt (x.above y c (PySem.mem_of_lookup h))
 ·have hi:i < vs.length:=by
   unfold start at h2
   by_cases hi:i < vs.length
   ·exact hi
   ·rw [List.getElem?_append_right (by simpa using hi)] at h2
    rw [List.getElem?_replicate] at h2
    split at h2 <;> cases h2
  have ha:vs[i]?=some v:=by
   unfold start at h2
   rw [List.getElem?_append_left (by simpa using hi),List.getElem?_map] at h2
   cases e:vs[i]? with
   | none=>rw [e] at h2;cases h2
   | some a=>rw [e] at h2;cases h2;rfl
  obtain ⟨u,hu,rv⟩:=r.get ha
  have hp:ps[i]?=some y:=by
   rw [←S.pre,List.getElem?_take_of_lt (by omega)];exact h1
  have ndP:ps.Nodup:=by rw [←S.pre];exact S.nd.sublist (List.take_sublist _ _)
  refine ⟨u,rv,?_⟩
  rcases S.par y (List.mem_of_getElem? hp) with k | k
  ·exact .inl ⟨k,bindL_get ndP hp hu k⟩
  ·obtain ⟨c,e⟩:=cell_has (n:=s.heap.objs.size + 1) k
   refine .inr ⟨.inl k,c,e,?_⟩
   have q:=x.cell y c e
   rw [bindC_get ndP hp hu (by show scope.names.lookup y≠_;rw [k];decide)] at q
   exact q
 ·exact e0.hok.fresh (Nat.le_of_lt (x.above y c (PySem.mem_of_lookup h)))
 ·unfold start
  show _=N.length
  rw [List.length_append,List.length_map,List.length_replicate]
  omega
theorem fn_of {CX:CXT} {P:Program} {w:World} {K:PySem.W.Frag} {mg:Str→Option Value} {base:Heap} {k:Nat} {f:Addr} {name qual:Str} {params:Arguments} {body:List Stmt} {scope:Scope} {dV kV doc pm cdv ct oc:Value} {an od:Option Addr}
 {osl:Array (Option Value)} {N ps:List Str} {sp:Sp} (lk:K.lookup f=some ⟨oc,od,.func (PySem.W.fnOf name qual params body scope dV kV doc pm an cdv ct),osl⟩) (hcd:PySem.W.codeIn K cdv qual=true) (S:FnScope N ps scope)
 (len:∀vs H Q E,sp vs H Q E→vs.length=ps.length)
 (hbody:∀(A:Around) (outer:List Env) (s:Shared) (H:Hp) (vs:List V) (Q:VK) (E:XK),Room k (A.deeper (envOfC qual scope s.heap.objs.size f cdv))→sp vs H Q E→
   ∃t,PSs (cxOf CX P w K mg base N qual scope f cdv A outer s H E) body t∧t { nx:=fun _ H'=>Q .non H',rt:=Q } (start N vs) H) :
 FnOk P w K mg base CX (k + 1) f (PySem.W.fnOf name qual params body scope dV kV doc pm an cdv ct) ps sp:=by
 refine ⟨len,fun A outer s H args us vs Q E hr e0 hb r hsp=>?_⟩
 have hl:=len _ _ _ _ hsp
 have KX:K.In s.heap:=e0.mod.kin.keeps fun b o e=>(e0.bs b o e).1
 have lim:s.heap.NoLimit:=e0.mod.nolimit.keeps fun b o e=>(e0.bs b o e).1
 have hkind:∀y∈ps.zip us,scope.names.lookup y.1=some .local∨(scope.names.lookup y.1=some .cell∧((cellsFrom (s.heap.objs.size + 1) scope.names []).lookup y.1).isSome=true):=fun ⟨n,v⟩ hy=>by
  rcases S.par n (List.of_mem_zip hy).1 with q | q
  ·exact .inl q
  ·exact .inr ⟨q,PySem.W.cellsFrom_some _ _ _ (.inl q)⟩
 refine codeAny_call_function hr.depth (KX _ _ lk) rfl S.co S.gen rfl (PySem.W.codeRec_of KX hcd) (hb _ _ _ _ ?_)
 refine wpAny_with_toks (Nat.le_refl s.toks) (wpAny_newFunctionEnv_cells S.kind hkind fun env he s1 x htk=>?_)
 subst he
 refine ⟨lim.keeps x.toInCall.keep,codeAny_func ?_⟩
 obtain ⟨t,ht,hq⟩:=hbody A outer s H vs Q E (hr.deeper _) hsp
 have I:Inv (cxOf CX P w K mg base N qual scope f cdv A outer s H E) [] (start N vs) H s1:=inv_start S hr.hd e0 hl r x htk
 refine wpAny_mono (ht [] s1 (start N vs) H _ I hq) (fun fl s' hs=>?_) fun e s' hs=>hs
 have fin:∀{σ':St} {H':Hp} {v:V} {u:Value},Inv (cxOf CX P w K mg base N qual scope f cdv A outer s H E) [] σ' H' s'→RelV v u→Q v H'→CE outer P w H s Q u s':=
  fun {σ' H' v u} J rv q=>⟨v,H',J.os,J.bare,J.base,J.hok,rv,q⟩
 cases fl with
 | ret u=>
   obtain ⟨v,σ',H',J,rv,q⟩:=hs
   exact fin J rv q
 | next=>
   obtain ⟨σ',H',J,q⟩:=hs
   exact fin (v:=V.non) (u:=Value.none) J rfl q
 | brk=>
   obtain ⟨_,_,_,q⟩:=hs
   exact False.elim q
 | cont=>
   obtain ⟨_,_,_,q⟩:=hs
   exact False.elim q
end L2
namespace L2
open PySem PySem.Spec PyProof.Rows
section
variable {X:Cx} {x:Str} {p pos:Pos} {e:Expr} {es:List Expr} {t:TA} {id T:String} {r:List V→Hp→VK→Prop}
def tCB (r:List V→Hp→VK→Prop) (t:TA):TE:=fun σ H Q=>t σ H fun vs H1=>r vs H1 Q
theorem pe_callB (hc:CallR X (.builtin id) r) (hg:Gl X x) (hm:X.mg x=none) (hv:bootBuiltins x=some (.builtin id)) (ha:PA X (e :: es) t) (hn:x≠"__name__":=by decide) (hdb:(x == ("__debug__" : Str))=false:=by decide)
 (he:starEach (e :: es) X.env=(false,eval e X.env) :: starEach es X.env:=by rfl) (hpl:(backTo pos (starEach es X.env)).any (·.1)=false:=by rfl):PE X (.Call (.Name x p) (e :: es) [] pos) (tCB r t):=by
 intro pins s σ H Q I h
 refine wpAny_Call_Name_kw (ld_blt I hg hm hv ?_ hn hdb)
 exact PyProof.Rows.callWith_builtin1 (thn (ha pos pins s σ H _ I h) fun us s1 ⟨vs,H1,I1,r1,q1⟩=>hc pins s1 σ H1 vs us Q I1 r1 q1) he hpl
theorem pe_callTy (hc:CallR X (.type T) r) (hg:Gl X x) (hm:X.mg x=none) (hv:bootBuiltins x=some (.type T)) (ha:PA X (e :: es) t) (hn:x≠"__name__":=by decide) (hdb:(x == ("__debug__" : Str))=false:=by decide)
 (he:starEach (e :: es) X.env=(false,eval e X.env) :: starEach es X.env:=by rfl) (hpl:(backTo pos (starEach es X.env)).any (·.1)=false:=by rfl):PE X (.Call (.Name x p) (e :: es) [] pos) (tCB r t):=by
 intro pins s σ H Q I h
 refine wpAny_Call_Name_kw (ld_blt I hg hm hv ?_ hn hdb)
 exact PyProof.Rows.callWith_type1 (thn (ha pos pins s σ H _ I h) fun us s1 ⟨vs,H1,I1,r1,q1⟩=>hc pins s1 σ H1 vs us Q I1 r1 q1) he hpl
end
end L2
namespace HT
open PySem PyProof.Rows
section
open PySem.SeqAt
open PySem.AutoSeq1 (wpAny_loadPart')
open PySem.MeetsSeq PySem.MeetsSeq2 PySem.MeetsSeq3
end
section
variable {prog:Program} {w:World} {A:Around} {E:Value→Shared→Prop} {s:Shared}
theorem cat_tup {t b:Addr} {vs ws:List Value} {Q:Value→Shared→Prop} (ht:IsTup s.heap t vs.toArray) (hb:IsTup s.heap b ws.toArray) (hv:vs≠[])
 (h1:ws=[]→Q (.ref t) s) (h2:ws≠[]→Q (.ref s.heap.objs.size) { s with heap:=s.heap.push { cls:=.type "tuple",data:=.seq (vs++ws).toArray } })
 (hsz:vs.length + ws.length≤sizeLine):wpAny (model prog w) A (binaryOp .Add (.ref t) (.ref b)) Q E s:=by
 obtain ⟨⟨cls,dd,data,sl⟩,ho,hc,n,hd⟩:=id ht
 obtain ⟨⟨cls2,dd2,data2,sl2⟩,ho2,hc2,n2,hd2⟩:=id hb
 simp only at hc hd hc2 hd2
 subst hc hd hc2 hd2
 have e:vs.toArray++ws.toArray=(vs++ws).toArray:=by simp
 by_cases hw:ws=[]
 ·exact concat_meets ⟨_,ho,rfl⟩ ⟨_,ho2,rfl⟩ noFill_tuple_add seq_tuple_add PySem.F.slot_tuple_add PySem.F.entry_tuple_add (PySem.F.args_tuple_add_2 _ _)
   (tuple_addW1 t b vs.toArray ws.toArray n n2 dd dd2 sl sl2 (by simpa using hv) (by simp [hw])) ⟨ho,ho2,h1 hw⟩
 ·refine concat_meets ⟨_,ho,rfl⟩ ⟨_,ho2,rfl⟩ noFill_tuple_add seq_tuple_add PySem.F.slot_tuple_add PySem.F.entry_tuple_add (PySem.F.args_tuple_add_2 _ _)
   (tuple_addW2 t b vs.toArray ws.toArray n n2 dd dd2 sl sl2 (by simpa using hv) (by simpa using hw) (by rw [List.size_toArray,List.size_toArray];exact hsz)) ⟨ho,ho2,?_⟩
  rw [e]
  exact h2 hw
def sIx (n d:Nat):Option Int→Nat
 | none=>d
 | some v=>if v < 0 then (v + (n:Int)).toNat else min v.toNat n
theorem sIx_le (n d:Nat) (hd:d≤n) (o:Option Int):sIx n d o≤n:=by
 cases o with
 | none=>exact hd
 | some v=>
   show (if v < 0 then (v + (n:Int)).toNat else min v.toNat n)≤n
   by_cases hv:v < 0
   ·rw [if_pos hv];omega
   ·rw [if_neg hv];exact Nat.min_le_right _ _
theorem clip_eq (v:Int) (n d:Nat):(if v < 0 then max (v + (n:Int)) 0 else min v (n:Int))=((sIx n d (some v):Nat):Int):=by
 show (if v < 0 then max (v + (n:Int)) 0 else min v (n:Int))=(((if v < 0 then (v + (n:Int)).toNat else min v.toNat n):Nat):Int)
 by_cases hv:v < 0
 ·simp only [if_pos hv];omega
 ·simp only [if_neg hv];omega
theorem adjust_gen (lo hi:Option Int) (n:Nat):Builtin.Slice.sliceAdjust lo hi 1 (n:Int)=(((sIx n 0 lo:Nat):Int),((sIx n n hi:Nat):Int)):=by
 have h1:¬((1:Int) < 0):=by omega
 unfold Builtin.Slice.sliceAdjust
 simp only [h1,if_false]
 refine Prod.ext ?_ ?_
 ·cases lo with
  | none=>rfl
  | some v=>exact clip_eq v n 0
 ·cases hi with
  | none=>rfl
  | some v=>exact clip_eq v n n
theorem places_gen (i j:Nat):Builtin.Slice.slicePlaces (i:Int) (j:Int) 1=j - i:=by
 unfold Builtin.Slice.slicePlaces
 have h1:(1:Int) > 0:=by omega
 simp only [h1,if_true,Int.ediv_one]
 split <;> omega
theorem slicePart_ {v:Value} {o:Option Int} {Q:Option Int→Shared→Prop} (p:IsPart v o) (h:Q o s):wpAny (model prog w) A (Builtin.Slice.slicePartIndex v) Q E s:=by
 cases p with
 | none=>exact slicePart_none h
 | int i t=>exact slicePart_int h
theorem sliceApplied_gen {sl:Addr} {vl vu:Value} {lo hi:Option Int} {n:Nat} {Q:Int×Int×Nat→Shared→Prop} (hs:s.heap.IsSliceOf sl vl vu .none) (pl:IsPart vl lo) (pu:IsPart vu hi)
 (h:Q (((sIx n 0 lo:Nat):Int),1,sIx n n hi - sIx n 0 lo) s):wpAny (model prog w) A (Builtin.Slice.sliceApplied (.ref sl) (pure (n:Int))) Q E s:=by
 obtain ⟨os,hos,hcs,hds⟩:=id hs
 unfold Builtin.Slice.sliceApplied Builtin.Slice.sliceFields
 refine wpAny_bind (wpAny_bind (wpAny_field hos hds (x:=vl) rfl (wpAny_bind (wpAny_field hos hds (x:=vu) rfl (wpAny_bind (wpAny_field hos hds (x:=.none) rfl (wpAny_pure ?_)))))))
 refine wpAny_bind (slicePart_none ?_)
 show wpAny _ _ (if ((1:Int) == 0)=true then _ else _) _ _ s
 rw [if_neg (by decide)]
 refine wpAny_bind (slicePart_ pl (wpAny_bind (slicePart_ pu (wpAny_bind (wpAny_pure ?_)))))
 show wpAny _ _ (match Builtin.Slice.sliceAdjust lo hi 1 (n:Int) with | (lo,hi)=>pure (lo,(1:Int),Builtin.Slice.slicePlaces lo hi 1)) _ _ s
 rw [adjust_gen lo hi n]
 show wpAny _ _ (pure (((sIx n 0 lo:Nat):Int),(1:Int),Builtin.Slice.slicePlaces ((sIx n 0 lo:Nat):Int) ((sIx n n hi:Nat):Int) 1)) _ _ s
 rw [places_gen]
 exact wpAny_pure h
theorem pick_gen (xs:Array Value) (i k:Nat):((List.range k).filterMap fun (m:Nat)=>xs[((i:Int) + (m:Int) * 1).toNat]?).toArray=((xs.toList.drop i).take k).toArray:=by
 have e:(fun (m:Nat)=>xs[((i:Int) + (m:Int) * 1).toNat]?)=fun m=>xs[i + m]?:=by
  funext m
  have:((i:Int) + (m:Int) * 1).toNat=i + m:=by omega
  rw [this]
 rw [e]
 have:=pick_run xs i k
 rw [List.filterMap_map] at this
 have e2:((fun x=>xs[x]?) ∘ fun x=>i + x)=fun m=>xs[i + m]?:=rfl
 rw [e2] at this
 rw [this]
theorem getItem_tuple_cut {t sl:Addr} {items:Array Value} {vl vu:Value} {lo hi:Option Int} {Q:Value→Shared→Prop} (ht:IsTup s.heap t items) (hs:s.heap.IsSliceOf sl vl vu .none) (pl:IsPart vl lo) (pu:IsPart vu hi)
 (hw:¬(sIx items.size 0 lo=0∧sIx items.size items.size hi=items.size))
 (h:Q (.ref s.heap.objs.size) { s with heap:=s.heap.push { cls:=.type "tuple",data:=.seq ((items.toList.drop (sIx items.size 0 lo)).take (sIx items.size items.size hi - sIx items.size 0 lo)).toArray } })
 (hsz:items.size≤sizeLine):wpAny (model prog w) A (getItem (.ref t) (.ref sl)) Q E s:=by
 have htake:sizeOk (.seq ((items.toList.drop (sIx items.size 0 lo)).take (sIx items.size items.size hi - sIx items.size 0 lo)).toArray):=by
  show ((items.toList.drop (sIx items.size 0 lo)).take (sIx items.size items.size hi - sIx items.size 0 lo)).toArray.size≤sizeLine
  rw [List.size_toArray,List.length_take,List.length_drop,Array.length_toList]
  omega
 have hj:sIx items.size items.size hi≤items.size:=sIx_le _ _ (Nat.le_refl _) hi
 obtain ⟨os,hos,hcs,hds⟩:=id hs
 have hTs:s.TypeIs (.ref sl) "slice":=⟨os,hos,hcs⟩
 unfold getItem
 try with_reducible refine wpAny_holding ?_
 first | refine wpAny_bind (wpAny_pure ?_) | skip
 refine wpAny_bind (wpAny_sequenceKey ht.typeIs (by decide) ?_)
 refine wpAny_bind (wpAny_callSpecial?_slot (name:=Str.ofString "__getitem__") ht.typeIs PyProof.Rows.slot_tuple_getitem
  (wpAny_call_entry PyProof.Rows.slot_tuple_getitem ht.typeIs entry_tuple_getitem ?_ (args_tuple_getitem _ _)))
 show wpAny _ _ (Builtin.Tuple.tupleItemsOf (.ref t) >>= _) _ _ s
 refine wpAny_bind (tupleItemsOf_ ht ?_)
 refine wpAny_bind (wpAny_typeOf hTs ?_)
 rw [if_pos (by decide)]
 refine wpAny_bind (sliceApplied_gen hs pl pu ?_)
 have hno:¬((((sIx items.size 0 lo:Nat):Int) == 0 && (1:Int) == 1 && (sIx items.size items.size hi - sIx items.size 0 lo) == items.size)=true):=by
  intro q
  rw [Bool.and_eq_true,Bool.and_eq_true] at q
  have q1:((sIx items.size 0 lo:Nat):Int)=0:=eq_of_beq q.1.1
  have q2:sIx items.size items.size hi - sIx items.size 0 lo=items.size:=eq_of_beq q.2
  exact hw ⟨by omega,by omega⟩
 show wpAny _ _ (if (((sIx items.size 0 lo:Nat):Int) == 0 && (1:Int) == 1 && (sIx items.size items.size hi - sIx items.size 0 lo) == items.size)=true then _ else _) _ _ s
 rw [if_neg hno,pick_gen]
 first
  | exact wpAny_bind (m:=Builtin.Tuple.tupleExact _) (wpAny_newObj_type (wpAny_pure ⟨_,rfl,wpAny_pure h⟩) htake)
  | exact wpAny_bind (m:=Builtin.Tuple.tupleExact _) (wpAny_newObj_type (wpAny_bind (wpAny_pure (wpAny_pure ⟨_,rfl,wpAny_pure h⟩))) htake)
  | exact wpAny_bind (wpAny_bind (m:=Builtin.Tuple.tupleExact _) (wpAny_newObj_type (wpAny_pure (wpAny_pure ⟨_,rfl,wpAny_pure h⟩)) htake))
  | exact wpAny_bind (wpAny_bind (m:=Builtin.Tuple.tupleExact _) (wpAny_newObj_type (wpAny_pure ⟨_,rfl,wpAny_pure h⟩) htake))
end
end HT
namespace L2
open PySem PySem.Spec PyProof.Rows
abbrev TO:=St→Hp→(Option Int→Hp→Prop)→Prop
def PO (X:Cx) (e:Option Expr) (t:TO):Prop:=
 ∀(pins:List (Addr×Obj)) (s:Shared) (σ:St) (H:Hp) (Q:Option Int→Hp→Prop),Inv X pins σ H s→t σ H Q→
  wpAny (model X.prog X.w) X.A (evalPart e X.env) (fun u s'=>∃o H',Inv X pins σ H' s'∧IsPart u o∧Q o H') X.xe s
def tNoPart:TO:=fun _ H Q=>Q none H
def tPart (t:TE):TO:=fun σ H Q=>t σ H fun x H1=>∃i,x = .int i∧Q (some i) H1
section
variable {X:Cx} {e:Expr} {te:TE} {lo hi:Option Expr} {tl th:TO} {pos p2:Pos}
theorem po_none:PO X none tNoPart:=by
 intro pins s σ H Q I h
 rw [evalPart_none]
 exact wpAny_pure ⟨none,H,I,.none,h⟩
theorem po_some (h:PE X e te):PO X (some e) (tPart te):=by
 intro pins s σ H Q I hw
 rw [evalPart_some]
 refine thn (h pins s σ H _ I hw) fun u s1 ⟨x,H1,I1,r1,q1⟩=>?_
 obtain ⟨i,rfl,q⟩:=q1
 obtain ⟨t,rfl⟩:=r1
 exact ⟨some i,H1,I1,.int i t,q⟩
def SlR (X:Cx) (r:V→Option Int→Option Int→Hp→VK→Prop):Prop:=
 ∀(pins:List (Addr×Obj)) (s:Shared) (σ:St) (H:Hp) (x:V) (v vl vu:Value) (lo hi:Option Int) (sl:Addr) (Q:VK),Inv X pins σ H s→RelV x v→s.heap.IsSliceOf sl vl vu .none→IsPart vl lo→IsPart vu hi→r x lo hi H Q→
  ∃T id,typeLookup (.type T) "__getitem__" = pure (some (.builtin id))∧s.TypeIs v T∧wpAny (model X.prog X.w) X.A (getItem v (.ref sl)) (EP X pins σ Q) X.xe s
theorem SlR.or {r r':V→Option Int→Option Int→Hp→VK→Prop} (h:SlR X r) (h':SlR X r'):SlR X (fun x lo hi H Q=>r x lo hi H Q∨r' x lo hi H Q):=by
 intro pins s σ H x v vl vu lo hi sl Q I rx hs pl pu q
 rcases q with q | q
 ·exact h pins s σ H x v vl vu lo hi sl Q I rx hs pl pu q
 ·exact h' pins s σ H x v vl vu lo hi sl Q I rx hs pl pu q
def tSl (r:V→Option Int→Option Int→Hp→VK→Prop) (te:TE) (tl th:TO):TE:=fun σ H Q=>te σ H fun x H1=>tl σ H1 fun l H2=>th σ H2 fun u H3=>r x l u H3 Q
theorem pe_slice {r:V→Option Int→Option Int→Hp→VK→Prop} (hr:SlR X r) (he:PE X e te) (hl:PO X lo tl) (hu:PO X hi th):PE X (.Subscript e (.Slice lo hi none p2) pos) (tSl r te tl th):=by
 intro pins s σ H Q I h
 refine Subscript_ (thn (he pins s σ H _ I h) fun v s1 ⟨x,H1,I1,r1,q1⟩=>?_)
 refine wpAny_Slice (thn (hl pins s1 σ H1 _ I1 q1) fun vl s2 ⟨l,H2,I2,pl,q2⟩=>thn (hu pins s2 σ H2 _ I2 q2) fun vu s3 ⟨u,H3,I3,pu,q3⟩=>?_)
 rw [evalPart_none]
 refine wpAny_pure ?_
 have I4:Inv X pins σ H3 { s3 with heap:=s3.heap.push { cls:=.type "slice",data:=.fields #[vl,vu,.none] } }:=I3.kept (t':=s3.toks) fun b ob q=>Heap.get?_push_of_some _ q
 obtain ⟨T,id,hT,ht,hg⟩:=hr pins { s3 with heap:=s3.heap.push { cls:=.type "slice",data:=.fields #[vl,vu,.none] } } σ H3 x v vl vu l u s3.heap.objs.size Q I4 r1 (Heap.IsSliceOf.new ..) pl pu q3
 show wpAny (model X.prog X.w) X.A (subscriptTail e (.Slice lo hi none p2) v (.ref s3.heap.objs.size)) (EP X pins σ Q) X.xe { s3 with heap:=s3.heap.push { cls:=.type "slice",data:=.fields #[vl,vu,.none] } }
 exact tail_any (ops:=[.ref s3.heap.objs.size,v]) ht hT hg (by with_unfolding_all rfl)
def cutV (xs:List V) (lo hi:Option Int):List V:=(xs.drop (HT.sIx xs.length 0 lo)).take (HT.sIx xs.length xs.length hi - HT.sIx xs.length 0 lo)
theorem cutV_length (xs:List V) (lo hi:Option Int):(cutV xs lo hi).length≤xs.length:=by
 unfold cutV
 rw [List.length_take,List.length_drop]
 omega
def rSlT (K:PySem.W.Frag):V→Option Int→Option Int→Hp→VK→Prop:=fun x lo hi H Q=>∃a xs,x = .ref a∧SqT K H a xs∧
 ¬(HT.sIx xs.length 0 lo=0∧HT.sIx xs.length xs.length hi=xs.length)∧∀p,H p=none→Q (.ref p) (upd H p (.tup (cutV xs lo hi)))
theorem sl_tup:SlR X (rSlT X.K):=by
 intro pins s σ H x v vl vu lo hi sl Q I rx hs pl pu h
 obtain ⟨a,xs,rfl,hx,hw,q⟩:=h
 cases rx
 obtain ⟨its,r,ht,hz⟩:=I.tuple hx
 have hlen:its.toArray.size=xs.length:=by rw [List.size_toArray];exact r.length.symm
 refine ⟨"tuple",_,PyProof.Rows.slot_tuple_getitem.lookup,ht.typeIs,?_⟩
 refine HT.getItem_tuple_cut ht hs pl pu (by rw [hlen];exact hw) ?_ (by rw [hlen];exact hz)
 rw [hlen]
 refine ⟨.ref s.heap.objs.size,_,I.laid (t':=s.toks) (o:=.tup (cutV xs lo hi)) (fun b ob q=>Heap.get?_push_of_some _ q) (Nat.le_refl _) ?_,rfl,q _ (I.hok.fresh (Nat.le_refl _))⟩
 exact ⟨Nat.le_trans (cutV_length xs lo hi) hz,_,(r.drop (HT.sIx xs.length 0 lo)).take (HT.sIx xs.length xs.length hi - HT.sIx xs.length 0 lo),IsTup.new _ _⟩
def rCatT (K:PySem.W.Frag):R2:=fun x y H Q=>∃a b xs ys,x = .ref a∧y = .ref b∧SqT K H a xs∧SqT K H b ys∧xs≠[]∧xs.length + ys.length≤sizeLine∧
 (ys=[]→Q (.ref a) H)∧(ys≠[]→∀p,H p=none→Q (.ref p) (upd H p (.tup (xs++ys))))
theorem Vals.nil_iff {xs:List V} {us:List Value} (r:Vals xs us):us=[]↔xs=[]:=by
 cases r with
 | nil=>simp
 | cons _ _=>simp
theorem op_catT:OpR X (binaryOp .Add) (rCatT X.K):=by
 intro pins s σ H x y v u Q I rx ry h
 obtain ⟨a,b,xs,ys,rfl,rfl,ha,hb,hx,hz,q1,q2⟩:=h
 cases rx
 cases ry
 obtain ⟨its,r1,p1,_⟩:=I.tuple ha
 obtain ⟨its2,r2,p2,_⟩:=I.tuple hb
 refine HT.cat_tup p1 p2 (fun z=>hx (r1.nil_iff.mp z)) (fun z=>⟨.ref a,H,I,rfl,q1 (r2.nil_iff.mp z)⟩) (fun z=>?_) (by rw [←r1.length,←r2.length];exact hz)
 refine ⟨.ref s.heap.objs.size,_,I.laid (t':=s.toks) (o:=.tup (xs++ys)) (fun b ob q=>Heap.get?_push_of_some _ q) (Nat.le_refl _) ?_,rfl,q2 (fun w=>z (r2.nil_iff.mpr w)) _ (I.hok.fresh (Nat.le_refl _))⟩
 exact ⟨by rw [List.length_append];exact hz,_,r1.append r2,IsTup.new _ _⟩
end
end L2
namespace L2
open PySem PySem.Spec PyProof.Rows
def ixN (n:Nat) (i:Int):Option Nat:=if 0≤i then (if i < n then some i.toNat else none) else if -(n:Int)≤i then some (i + n).toNat else none
def atI {α:Type} (xs:List α) (i:Int):Option α:=(ixN xs.length i).bind fun j=>xs[j]?
theorem ixN_seq {n:Nat} {i:Int} {j:Nat} (h:ixN n i=some j):seqIndex? i n=some j∧j < n∧-(n:Int)≤i∧i < n:=by
 unfold ixN at h
 by_cases h0:0≤i
 ·rw [if_pos h0] at h
  by_cases h1:i < n
  ·rw [if_pos h1] at h
   have e:i.toNat=j:=Option.some.inj h
   exact ⟨by rw [seqIndex_of h0 h1,e],by omega,by omega,h1⟩
  ·rw [if_neg h1] at h;cases h
 ·rw [if_neg h0] at h
  by_cases h1 : -(n:Int)≤i
  ·rw [if_pos h1] at h
   have e:(i + n).toNat=j:=Option.some.inj h
   exact ⟨by rw [seqIndex_neg (by omega) h1,e],by omega,h1,by omega⟩
  ·rw [if_neg h1] at h;cases h
theorem atI_get {α:Type} {xs:List α} {i:Int} {v:α} (h:atI xs i=some v):∃j,seqIndex? i xs.length=some j∧xs[j]?=some v∧j < xs.length∧-(xs.length:Int)≤i∧i < xs.length:=by
 unfold atI at h
 cases e:ixN xs.length i with
 | none=>rw [e] at h;cases h
 | some j=>
   rw [e] at h
   obtain ⟨h1,h2,h3,h4⟩:=ixN_seq e
   exact ⟨j,h1,h,h2,h3,h4⟩
def PlainIx (b:Expr):Prop:=∀o i,subscripted b false o i=operate [o,i] (getItem o i)
def IxR (X:Cx) (r:R2):Prop:=
 ∀(value slice:Expr) (pins:List (Addr×Obj)) (s:Shared) (σ:St) (H:Hp) (x y:V) (v u:Value) (Q:VK),Inv X pins σ H s→RelV x v→RelV y u→r x y H Q→
  subscripted slice false v u=operate [v,u] (getItem v u)→wpAny (model X.prog X.w) X.A (subscriptTail value slice v u) (EP X pins σ Q) X.xe s
def MtR (X:Cx) (id:String) (r:V→List V→Hp→VK→Prop):Prop:=
 ∀(pins:List (Addr×Obj)) (s:Shared) (σ:St) (H:Hp) (x:V) (xs:List V) (v:Value) (us:List Value) (Q:VK),Inv X pins σ H s→RelV x v→Vals xs us→r x xs H Q→
  wpAny (model X.prog X.w) X.A (call (.builtin id) (v :: us)) (EP X pins σ Q) X.xe s
section
variable {X:Cx} {a b:Expr} {ta tb:TE} {pos:Pos}
theorem IxR.or {r r':R2} (h:IxR X r) (h':IxR X r'):IxR X (fun x y H Q=>r x y H Q∨r' x y H Q):=by
 intro value slice pins s σ H x y v u Q I rx ry q hs
 rcases q with q | q
 ·exact h value slice pins s σ H x y v u Q I rx ry q hs
 ·exact h' value slice pins s σ H x y v u Q I rx ry q hs
theorem MtR.or {id:String} {r r':V→List V→Hp→VK→Prop} (h:MtR X id r) (h':MtR X id r'):MtR X id (fun x xs H Q=>r x xs H Q∨r' x xs H Q):=by
 intro pins s σ H x xs v us Q I rx rs q
 rcases q with q | q
 ·exact h pins s σ H x xs v us Q I rx rs q
 ·exact h' pins s σ H x xs v us Q I rx rs q
theorem pe_ix {r:R2} (hr:IxR X r) (ha:PE X a ta) (hb:PE X b tb) (hs:PlainIx b):PE X (.Subscript a b pos) (tOp r ta tb):=by
 intro pins s σ H Q I h
 exact Subscript_ (binT ha hb I h fun v u s2 x y H2 I2 rx ry q=>hr a b pins s2 σ H2 x y v u Q I2 rx ry q (hs _ _))
def rIxL (K:PySem.W.Frag):R2:=fun x y H Q=>∃p xs i v,x = .ref p∧y = .int i∧SqL K H p xs∧atI xs i=some v∧Q v H
def rIxT (K:PySem.W.Frag):R2:=fun x y H Q=>∃p xs i v,x = .ref p∧y = .int i∧SqT K H p xs∧atI xs i=some v∧Q v H
def rIxS:R2:=fun x y H Q=>∃z i c,x = .str z∧y = .int i∧z.length≤sizeLine∧atI z.cps.toList i=some c∧Q (.str ⟨#[c]⟩) H
theorem ix_list:IxR X (rIxL X.K):=by
 intro value slice pins s σ H x y v u Q I rx ry h hs
 obtain ⟨p,xs,i,z,rfl,rfl,hq,he,q⟩:=h
 cases rx
 obtain ⟨t,rfl⟩:=ry
 obtain ⟨its,r,pl,hz⟩:=I.list hq
 obtain ⟨j,h1,h2,h3,h4,h5⟩:=atI_get he
 obtain ⟨w,ew,rw'⟩:=r.get h2
 have hl:=r.length
 have hn:=line63
 have fin:EP X pins σ Q w s:=⟨z,H,I,rw',q⟩
 by_cases h0:0≤i
 ·have hj:i.toNat=j:=by
   rw [seqIndex_of h0 h5] at h1
   exact Option.some.inj h1
  exact item_listR pl.isList h0 (by omega) (by rw [hj];simpa using ew) fin hs
 ·have hj:(i + (its.toArray.size:Int)).toNat=j:=by
   rw [seqIndex_neg (by omega) h4] at h1
   rw [List.size_toArray,←hl]
   exact Option.some.inj h1
  exact subscriptTail_builtinR (x:=w) pl.isList.typeIs slot_list_getitem.lookup
   (wpAny_getItem_list_neg (Q:=fun r s'=>r=w∧EP X pins σ Q r s') pl.isList (by omega) (by rw [List.size_toArray] <;> omega) (by omega) (by rw [hj];simpa using ew) ⟨rfl,fin⟩) hs
theorem ix_tup:IxR X (rIxT X.K):=by
 intro value slice pins s σ H x y v u Q I rx ry h hs
 obtain ⟨p,xs,i,z,rfl,rfl,hq,he,q⟩:=h
 cases rx
 obtain ⟨t,rfl⟩:=ry
 obtain ⟨its,r,pl,hz⟩:=I.tuple hq
 obtain ⟨j,h1,h2,h3,h4,h5⟩:=atI_get he
 obtain ⟨w,ew,rw'⟩:=r.get h2
 have hl:=r.length
 have hn:=line63
 have fin:EP X pins σ Q w s:=⟨z,H,I,rw',q⟩
 exact subscriptTail_builtinR (x:=w) pl.typeIs slot_tuple_getitem.lookup
  (getItem_tuple (j:=j) (Q:=fun r s'=>r=w∧EP X pins σ Q r s') pl (by omega) (by omega) (by rw [List.size_toArray,←hl];exact h1) (by simpa using ew) ⟨rfl,fin⟩) hs
theorem ix_str:IxR X rIxS:=by
 intro value slice pins s σ H x y v u Q I rx ry h hs
 obtain ⟨z,i,c,rfl,rfl,hz,he,q⟩:=h
 obtain ⟨t,rfl⟩:=rx
 obtain ⟨t',rfl⟩:=ry
 obtain ⟨j,h1,h2,h3,h4,h5⟩:=atI_get he
 have hl:z.cps.toList.length=z.length:=by simp [Str.length]
 rw [hl] at h1 h4 h5
 have hn:=line63
 exact tail_any (typeIs_str s z t) slot_str_getitem.lookup (getItem_str (c:=c) (by
  have e1:decide (i < -(2 ^ 63:Int))=false:=decide_eq_false (by omega)
  have e2:decide (i ≥ 2 ^ 63)=false:=decide_eq_false (by omega)
  rw [e1,e2,Bool.or_false]) (by rw [h1];simpa using h2) ⟨.str ⟨#[c]⟩,H,I.tok _,⟨_,rfl⟩,q⟩) hs
def rIx (K:PySem.W.Frag):R2:=fun x y H Q=>rIxL K x y H Q∨rIxT K x y H Q∨rIxS x y H Q
theorem ix_seq:IxR X (rIx X.K):=ix_list.or (ix_tup.or ix_str)
theorem Inv.lst {pins:List (Addr×Obj)} {σ:St} {H:Hp} {s:Shared} {p:Addr} {xs:List V} (I:Inv X pins σ H s) (h:H p=some (.lst xs)) :
 ∃(its:List Value) (n:Nat),Vals xs its∧s.heap.get? p=some { cls:=.type "list",data:=.seq its.toArray n }∧xs.length≤sizeLine:=by
 obtain ⟨z,its,n,r,e⟩:=I.hok p _ h
 exact ⟨its,n,r,e,z⟩
theorem slice_bounds (lo hi:Option Int) (n:Nat):(sliceBounds lo hi none n).1=((HT.sIx n 0 lo:Nat):Int)∧(sliceBounds lo hi none n).2.1=((HT.sIx n n hi:Nat):Int)∧(sliceBounds lo hi none n).2.2=1:=by
 refine ⟨?_,?_,rfl⟩
 ·cases lo with
  | none=>simp [sliceBounds,HT.sIx]
  | some i=>
    simp only [sliceBounds,HT.sIx,Option.getD_none,show (1:Int) > 0 by decide,if_true]
    by_cases h:i < 0
    ·simp only [h,if_true] <;> omega
    ·simp only [h,if_false] <;> omega
 ·cases hi with
  | none=>simp [sliceBounds,HT.sIx]
  | some i=>
    simp only [sliceBounds,HT.sIx,Option.getD_none,show (1:Int) > 0 by decide,if_true]
    by_cases h:i < 0
    ·simp only [h,if_true] <;> omega
    ·simp only [h,if_false] <;> omega
theorem slicePick_cut (its:List Value) (lo hi:Option Int):slicePick its.toArray lo hi none=((its.drop (HT.sIx its.length 0 lo)).take (HT.sIx its.length its.length hi - HT.sIx its.length 0 lo)).toArray:=by
 obtain ⟨h1,h2,h3⟩:=slice_bounds lo hi its.toArray.size
 unfold slicePick
 rw [h1,h2,h3]
 simp only [sliceRange_one,pick_run,List.size_toArray] <;> rfl
def rSlL (K:PySem.W.Frag):V→Option Int→Option Int→Hp→VK→Prop:=fun x lo hi H Q=>∃a xs,x = .ref a∧SqL K H a xs∧∀p,H p=none→Q (.ref p) (upd H p (.lst (cutV xs lo hi)))
theorem sl_list:SlR X (rSlL X.K):=by
 intro pins s σ H x v vl vu lo hi sl Q I rx hs pl pu h
 obtain ⟨a,xs,rfl,hx,q⟩:=h
 cases rx
 obtain ⟨its,r,ht,hz⟩:=I.list hx
 have hlen:=r.length
 refine ⟨"list",_,slot_list_getitem.lookup,ht.isList.typeIs,?_⟩
 refine wpAny_getItem_list_slice ht.isList hs pl pu .none (by simp) ?_ (by rw [List.size_toArray] <;> omega)
 rw [slicePick_cut,←hlen]
 refine ⟨.ref s.heap.objs.size,_,I.laid (t':=s.toks) (o:=.lst (cutV xs lo hi)) (fun b ob q=>Heap.get?_push_of_some _ q) (Nat.le_refl _) ?_,rfl,q _ (I.hok.fresh (Nat.le_refl _))⟩
 exact ⟨Nat.le_trans (cutV_length xs lo hi) hz,_,0,(r.drop (HT.sIx xs.length 0 lo)).take (HT.sIx xs.length xs.length hi - HT.sIx xs.length 0 lo),Heap.get?_push_size _ rfl⟩
def flatV:V→Bool
 | .non=>true
 | .bl _=>true
 | .int _=>true
 | .str _=>true
 | _=>false
def eqV:V→V→Bool
 | .non,.non=>true
 | .bl a,.bl b=>a == b
 | .bl a,.int b=>(if a then 1 else 0) == b
 | .int a,.bl b=>a == (if b then 1 else 0)
 | .int a,.int b=>a == b
 | .str a,.str b=>a == b
 | _,_=>false
theorem eqAt_V {A:Around} {s:Shared} {y x:V} {u v:Value} (ry:RelV y u) (rx:RelV x v) (fy:flatV y=true) (fx:flatV x=true):SeqAt.EqAt A s u v (eqV y x):=by
 cases y with
 | non=>
   cases ry
   cases x with
   | non=>cases rx;exact SeqAt.EqAt.same _
   | bl b=>cases rx;exact SeqAt.EqAt.none_bool b
   | int b=>obtain ⟨t,rfl⟩:=rx;exact SeqAt.EqAt.none_int b t
   | str b=>obtain ⟨t,rfl⟩:=rx;exact SeqAt.EqAt.none_str b t
   | _=>exact absurd (show false=true from fx) Bool.false_ne_true
 | bl a=>
   cases ry
   cases x with
   | non=>cases rx;exact SeqAt.EqAt.bool_none a
   | bl b=>cases rx;exact SeqAt.EqAt.bool_bool a b
   | int b=>obtain ⟨t,rfl⟩:=rx;exact SeqAt.EqAt.bool_int a b t
   | str b=>obtain ⟨t,rfl⟩:=rx;exact SeqAt.EqAt.bool_str a b t
   | _=>exact absurd (show false=true from fx) Bool.false_ne_true
 | int a=>
   obtain ⟨t',rfl⟩:=ry
   cases x with
   | non=>cases rx;exact SeqAt.EqAt.int_none a t'
   | bl b=>cases rx;exact SeqAt.EqAt.int_bool a t' b
   | int b=>obtain ⟨t,rfl⟩:=rx;exact SeqAt.EqAt.int_int a t' b t
   | str b=>obtain ⟨t,rfl⟩:=rx;exact SeqAt.EqAt.int_str a t' b t
   | _=>exact absurd (show false=true from fx) Bool.false_ne_true
 | str a=>
   obtain ⟨t',rfl⟩:=ry
   cases x with
   | non=>cases rx;exact SeqAt.EqAt.str_none a t'
   | bl b=>cases rx;exact SeqAt.EqAt.str_bool a t' b
   | int b=>obtain ⟨t,rfl⟩:=rx;exact SeqAt.EqAt.str_int a t' b t
   | str b=>obtain ⟨t,rfl⟩:=rx;exact SeqAt.EqAt.str_str a t' b t
   | _=>exact absurd (show false=true from fx) Bool.false_ne_true
 | _=>exact absurd (show false=true from fy) Bool.false_ne_true
def eqU (x:V) (u:Value):Bool:=match u with
 | .none=>eqV .non x
 | .bool b=>eqV (.bl b) x
 | .int i _=>eqV (.int i) x
 | .str z _=>eqV (.str z) x
 | _=>false
theorem eqU_of {x y:V} {u:Value} (r:RelV y u) (f:flatV y=true):eqU x u=eqV y x:=by
 cases y with
 | non=>cases r;rfl
 | bl b=>cases r;rfl
 | int i=>obtain ⟨t,rfl⟩:=r;rfl
 | str z=>obtain ⟨t,rfl⟩:=r;rfl
 | _=>exact absurd (show false=true from f) Bool.false_ne_true
theorem any_eqU {x:V}:∀{xs:List V} {us:List Value},Vals xs us→xs.all flatV=true→us.any (eqU x)=xs.any fun y=>eqV y x
 | _,_,.nil,_=>rfl
 | y :: xs,u :: us,.cons r t,f=>by
   rw [List.all_cons,Bool.and_eq_true] at f
   rw [List.any_cons,List.any_cons,eqU_of r f.1,any_eqU t f.2]
theorem mem_eqAt {A:Around} {s:Shared} {x:V} {v:Value} (rx:RelV x v) (fx:flatV x=true):∀{xs:List V} {us:List Value},Vals xs us→xs.all flatV=true→∀u∈us,SeqAt.EqAt A s u v (eqU x u)
 | _,_,.nil,_=>fun u hu=>by cases hu
 | y :: xs,u :: us,.cons r t,f=>fun u' hu=>by
   rw [List.all_cons,Bool.and_eq_true] at f
   rcases List.mem_cons.mp hu with rfl | hu
   ·rw [eqU_of r f.1];exact eqAt_V r rx f.1 fx
   ·exact mem_eqAt rx fx t f.2 u' hu
def inV (x:V) (xs:List V):Bool:=xs.any fun y=>eqV y x
def rIn (K:PySem.W.Frag) (neg:Bool):R2:=fun x y H Q=>∃p xs,y = .ref p∧(SqL K H p xs∨SqT K H p xs)∧flatV x=true∧xs.all flatV=true∧Q (.bl (if neg then !inV x xs else inV x xs)) H
theorem op_in_seq:OpR X (compareOp .In) (rIn X.K false):=by
 intro pins s σ H x y v u Q I rx ry h
 obtain ⟨p,xs,rfl,hq,fx,fs,q⟩:=h
 cases ry
 rcases hq with hq | hq
 ·obtain ⟨its,r,pl,hz⟩:=I.list hq
  refine SeqAt.in_listAt (eqU x) pl.isList (fun w hw=>mem_eqAt rx fx r fs w (by simpa using hw)) ⟨.bl _,H,I,rfl,?_⟩
  rw [show its.toArray.any (eqU x)=its.any (eqU x) by simp,any_eqU r fs]
  exact q
 ·obtain ⟨its,r,pl,hz⟩:=I.tuple hq
  refine SeqAt.in_tupleAt (eqU x) pl (fun w hw=>mem_eqAt rx fx r fs w (by simpa using hw)) ⟨.bl _,H,I,rfl,?_⟩
  rw [show its.toArray.any (eqU x)=its.any (eqU x) by simp,any_eqU r fs]
  exact q
theorem CallR.or {f:Value} {r r':List V→Hp→VK→Prop} (h:CallR X f r) (h':CallR X f r'):CallR X f (fun xs H Q=>r xs H Q∨r' xs H Q):=by
 intro pins s σ H xs us Q I rs q
 rcases q with q | q
 ·exact h pins s σ H xs us Q I rs q
 ·exact h' pins s σ H xs us Q I rs q
theorem call_list_of:CallR X (.type "list") (fun xs H Q=>∃p ys,xs=[.ref p]∧(SqL X.K H p ys∨SqT X.K H p ys)∧∀l,H l=none→Q (.ref l) (upd H l (.lst ys))):=by
 intro pins s σ H xs us Q I r h
 obtain ⟨p,ys,rfl,hq,q⟩:=h
 obtain ⟨u,rfl,rx⟩:=vals1 r
 cases rx
 have fin:∀(its:List Value),Vals ys its→ys.length≤sizeLine→∀(h':Heap) (c':Nat),(∀b o',s.heap.get? b=some o'→h'.get? b=some o')→
  h'.get? s.heap.objs.size=some { cls:=.type "list",dict:=none,data:=.seq its.toArray c',slots:=#[] }→EP X pins σ Q (.ref s.heap.objs.size) { s with heap:=h' }:=fun its r' hz h' c' kp e=>
  ⟨.ref s.heap.objs.size,_,I.laid (t':=s.toks) kp (Nat.le_refl _) (show ObjOk X.prog X.w _ h' _ (.lst ys) from ⟨hz,its,c',r',e⟩),rfl,q _ (I.hok.fresh (Nat.le_refl _))⟩
 rcases hq with hq | hq
 ·obtain ⟨its,r',pl,hz⟩:=I.list hq
  have hlen:=r'.length
  obtain ⟨o,ho,hc,n,hd⟩:=pl.isList
  exact call_list_seq p (.inl rfl) ho hc hd (fun h' c' kp e=>fin its r' hz h' c' kp e) (by simp only [List.size_toArray] <;> omega)
 ·obtain ⟨its,r',pl,hz⟩:=I.tuple hq
  have hlen:=r'.length
  obtain ⟨o,ho,hc,n,hd⟩:=pl
  exact call_list_seq p (.inr rfl) ho hc hd (fun h' c' kp e=>fin its r' hz h' c' kp e) (by simp only [List.size_toArray] <;> omega)
theorem call_tuple_of:CallR X (.type "tuple") (fun xs H Q=>∃p ys,xs=[.ref p]∧((SqL X.K H p ys∧∀l,H l=none→Q (.ref l) (upd H l (.tup ys)))∨(SqT X.K H p ys∧Q (.ref p) H))):=by
 intro pins s σ H xs us Q I r h
 obtain ⟨p,ys,rfl,h⟩:=h
 obtain ⟨u,rfl,rx⟩:=vals1 r
 cases rx
 rcases h with ⟨hq,q⟩ | ⟨hq,q⟩
 ·obtain ⟨its,r',pl,hz⟩:=I.list hq
  have hlen:=r'.length
  refine call_tuple_list pl.isList (fun h' kp=>?_) (by simp only [List.size_toArray] <;> omega)
  have I1:Inv X pins σ H { s with heap:=h' }:=I.kept (t':=s.toks) kp
  have I2:Inv X pins σ (upd H h'.objs.size (.tup ys)) { s with heap:=h'.push { cls:=.type "tuple",data:=.seq its.toArray } }:=
   I1.laid (t':=s.toks) (fun b o e=>Heap.get?_push_of_some _ e) (Nat.le_refl _) (show ObjOk X.prog X.w _ _ _ (.tup ys) from ⟨hz,its,r',IsTup.new _ _⟩)
  exact ⟨.ref h'.objs.size,_,I2,rfl,q _ (I1.hok.fresh (Nat.le_refl _))⟩
 ·obtain ⟨its,r',pl,hz⟩:=I.tuple hq
  exact call_tuple_same pl ⟨.ref p,H,I,rfl,q⟩
def tyV (K:PySem.W.Frag) (T:String) (x:V) (H:Hp):Prop:=match x with
 | .str _=>T = "str"
 | .int _=>T = "int"
 | .ref p=>(T = "list"∧∃xs,SqL K H p xs)∨(T = "tuple"∧∃o,K.lookup p=some o∧o.cls = .type "tuple"∧o.dict=none)∨
    (T = "dict"∧((∃kvs,H p=some (.dK kvs))∨∃kvs,H p=some (.dT kvs)))∨(T = "set"∧∃S n,H p=some (.set S n))
 | _=>False
theorem tyV_is {pins:List (Addr×Obj)} {σ:St} {H:Hp} {s:Shared} {T:String} {x:V} {v:Value} (I:Inv X pins σ H s) (r:RelV x v) (ty:tyV X.K T x H) :
 s.TypeIs v T∧∀a,v = .ref a→∃ob,s.heap.get? a=some ob∧ob.dict=none:=by
 cases x with
 | str z=>
   obtain ⟨t,rfl⟩:=r
   cases (show T = "str" from ty)
   exact ⟨typeIs_str s z t,fun _ e=>nomatch e⟩
 | int i=>
   obtain ⟨t,rfl⟩:=r
   cases (show T = "int" from ty)
   exact ⟨typeIs_int s i t,fun _ e=>nomatch e⟩
 | ref p=>
   cases r
   rcases ty with ⟨rfl,xs,hq⟩ | ⟨rfl,o,hk,hc,hd⟩ | ⟨rfl,hk⟩ | ⟨rfl,S,n,hk⟩
   ·obtain ⟨its,_,pl,_⟩:=I.list hq
    refine ⟨pl.isList.typeIs,fun a e=>?_⟩
    cases e
    obtain ⟨o,n,e,c,hd,_⟩:=pl
    exact ⟨o,e,hd⟩
   ·refine ⟨⟨o,I.kIn p o hk,hc⟩,fun a e=>?_⟩
    cases e
    exact ⟨o,I.kIn _ o hk,hd⟩
   ·have z:∃o,s.heap.get? p=some o∧o.ExactDict:=by
     rcases hk with ⟨kvs,hk⟩ | ⟨kvs,hk⟩
     ·obtain ⟨_,_,_,_,o,_,_,e,ex,_⟩:=I.hok p _ hk
      exact ⟨o,e,ex⟩
     ·obtain ⟨_,_,_,_,o,_,_,e,ex,_⟩:=I.hok p _ hk
      exact ⟨o,e,ex⟩
    obtain ⟨o,e,ex⟩:=z
    refine ⟨⟨o,e,ex.1⟩,fun a e2=>?_⟩
    cases e2
    exact ⟨o,e,ex.2.1⟩
   ·obtain ⟨o,_,_,_,e,ex,_⟩:=I.hok p _ hk
    refine ⟨⟨o,e,ex.1⟩,fun a e2=>?_⟩
    cases e2
    exact ⟨o,e,ex.2.1⟩
 | _=>exact False.elim ty
def tBM (K:PySem.W.Frag) (T:String) (r:V→List V→Hp→VK→Prop) (to:TE) (t:TA):TE:=fun σ H Q=>to σ H fun x H1=>tyV K T x H1∧t σ H1 fun xs H2=>r x xs H2 Q
variable {o e:Expr} {es:List Expr} {to:TE} {t:TA} {name:Str} {apos cpos:Pos} {T id:String} {r:V→List V→Hp→VK→Prop}
theorem pe_bm (pa:PlainAttrs T) (slot:Slot T name id) (hty:typeOf (.builtin id)=pure (.type "method_descriptor")) (hm:MtR X id r) (ho:PE X o to) (ha:PA X (e :: es) t)
 (hbase:attributeBase o name X.env (eval o X.env)=eval o X.env:=by rfl)
 (hfew:((backTo cpos (starEach (e :: es) X.env)).all (fun x=>!x.1) && (backToKw cpos (keywordEach [] X.env)).all (fun x=>x.1.isSome)
   && decide ((e :: es).length + ([]:List Keyword).length + (if ([]:List Keyword).isEmpty then 0 else 1) < 30))=true:=by rfl)
 (hline:(apos.endLine == cpos.line)=true:=by rfl) (hs:starEach (e :: es) X.env=(false,eval e X.env) :: starEach es X.env:=by rfl) (hplain:(backTo cpos (starEach es X.env)).any (·.1)=false:=by rfl) :
 PE X (.Call (.Attribute o name apos) (e :: es) [] cpos) (tBM X.K T r to t):=by
 intro pins s σ H Q I h
 refine wpAny_Call_method_late hbase hfew hline rfl (thn (ho pins s σ H _ I h) fun v s1 ⟨x,H1,I1,r1,ty,q1⟩=>?_)
 obtain ⟨h1,h2⟩:=tyV_is I1 r1 ty
 refine ⟨T,id,pa,slot,hty,h1,h2,?_⟩
 have hA:=ha cpos pins s1 σ H1 _ I1 q1
 rw [hs] at hA ⊢
 refine Calls.callWith_builtin (by show (false || (backTo cpos (starEach es X.env)).any (·.1))=false;rw [hplain] <;> rfl) (Calls.evalArgs_plain ?_)
 exact thn hA fun us s2 ⟨vs,H2,I2,r2,q2⟩=>hm pins s2 σ H2 x vs v us Q I2 r1 r2 q2
/- xs.append(e),list.index on a module's tuple .. are MtR facts of 06m -/
end
end L2
namespace L2
open PySem PySem.Spec PyProof.Rows
def MtM (X:Cx) (id:String) (r:V→List V→Hp→VK→Prop):Prop:=
 ∀(pins:List (Addr×Obj)) (s:Shared) (σ:St) (H:Hp) (x:V) (xs:List V) (v:Value) (us:List Value) (Q:VK),Inv X pins σ H s→RelV x v→Vals xs us→r x xs H Q→
  wpAny (model X.prog X.w) X.A (call (.builtin id) (v :: us)) (EP X pins σ Q) X.xe s
theorem Vals.one:∀{x:V} {us:List Value},Vals [x] us→∃u,us=[u]∧RelV x u
 | _,_,.cons r .nil=>⟨_,rfl,r⟩
theorem Vals.two:∀{x y:V} {us:List Value},Vals [x,y] us→∃u v,us=[u,v]∧RelV x u∧RelV y v
 | _,_,_,.cons r (.cons q .nil)=>⟨_,_,rfl,r,q⟩
theorem Vals.zero:∀{us:List Value},Vals [] us→us=[]
 | _,.nil=>rfl
theorem Vals.rep {xs:List V} {us:List Value} (h:Vals xs us):∀k:Nat,Vals (List.replicate k xs).flatten (List.replicate k us).flatten
 | 0=>.nil
 | k + 1=>by
   rw [List.replicate_succ,List.replicate_succ,List.flatten_cons,List.flatten_cons]
   exact Vals.append h (Vals.rep h k)
theorem foldl_rep (its:List Value):∀(k:Nat) (acc:List Value),
 List.foldl (fun x1 x2=>x1++x2) acc.toArray (List.replicate k its.toArray)=(acc++(List.replicate k its).flatten).toArray
 | 0,acc=>by simp
 | k + 1,acc=>by
   have e:acc.toArray++its.toArray=(acc++its).toArray:=by simp
   have e2:(acc++its)++(List.replicate k its).flatten=acc++(List.replicate (k + 1) its).flatten:=by
    rw [List.replicate_succ,List.flatten_cons,List.append_assoc]
   rw [←e2,←foldl_rep its k (acc++its),←e,List.replicate_succ,List.foldl_cons]
section
variable {X:Cx} {pins:List (Addr×Obj)} {σ:St} {H:Hp} {s:Shared} {l b:Addr} {xs ys zs:List V}
theorem Inv.lset {its its':List Value} {n:Nat} {f:Array Value→Array Value} {t':Nat} (I:Inv X pins σ H s) (hH:H l=some (.lst xs))
 (e:s.heap.get? l=some { cls:=.type "list",data:=.seq its.toArray n }) (hf:f its.toArray=its'.toArray) (hv:Vals ys its') (hz:ys.length≤sizeLine) (ht:s.toks≤t':=by first | exact Nat.le_refl _ | assumption | omega | (dsimp only;omega)) :
 Inv X pins σ (upd H l (.lst ys)) { s with heap:=s.heap.update l (Obj.mapSeq f),toks:=t' }:=by
 have q:=PySem.IsL.update e f
 rw [hf] at q
 refine I.write (x:=l) (e:=l) (by rw [hH];exact trivial) (.inl rfl) (fun b' u hb hu=>(Heap.get?_update_other s.heap (Obj.mapSeq f) (Ne.symm hb)).trans hu) ⟨_,q⟩ ?_
 exact ⟨hz,its',_,hv,q⟩
theorem Inv.lnew {its:List Value} {t':Nat} (I:Inv X pins σ H s) (hv:Vals ys its) (hz:ys.length≤sizeLine) (ht:s.toks≤t':=by first | exact Nat.le_refl _ | assumption | omega | (dsimp only;omega)) :
 Inv X pins σ (upd H s.heap.objs.size (.lst ys)) { s with heap:=s.heap.push { cls:=.type "list",data:=.seq its.toArray },toks:=t' }:=
 I.laid (fun _ _ q=>Heap.get?_push_of_some _ q) (Nat.le_refl _) ⟨hz,its,0,hv,Heap.get?_push_size _ rfl⟩
theorem Inv.fresh (I:Inv X pins σ H s):H s.heap.objs.size=none:=I.hok.fresh (Nat.le_refl _)
theorem Inv.lstM (I:Inv X pins σ H s) (hH:H l=some (.lst xs)):xs.length≤sizeLine∧∃(its:List Value) (n:Nat),Vals xs its∧xs.length=its.length∧s.heap.get? l=some { cls:=.type "list",data:=.seq its.toArray n }:=by
 obtain ⟨z,its,n,r,e⟩:=I.hok l _ hH
 exact ⟨z,its,n,r,r.length,e⟩
theorem notLongL {n:Nat} (h:n≤sizeLine):Builtin.List.listTooLong n=false:=by
 unfold Builtin.List.listTooLong
 exact decide_eq_false (by omega)
end
section
variable {X:Cx}
def rAppend:V→List V→Hp→VK→Prop:=fun x vs H Q=>∃l xs y,x = .ref l∧vs=[y]∧H l=some (.lst xs)∧xs.length < sizeLine∧Q .non (upd H l (.lst (xs++[y])))
theorem mt_append:MtM X "list.append" rAppend:=by
 intro pins s σ H x vs v us Q I rx rv h
 obtain ⟨l,xs,y,rfl,rfl,hH,hz,q⟩:=h
 cases rx
 obtain ⟨u,rfl,ru⟩:=rv.one
 obtain ⟨z,its,n,r,hl,e⟩:=I.lstM hH
 refine call_meets F.slot_list_append ⟨_,e,rfl⟩ F.entry_list_append (F.args_list_append_2 _ _) (PySem.list_append l its.toArray n u (by rw [List.size_toArray];omega)) ⟨e,?_⟩
 refine ⟨.non,_,I.lset (its':=its++[u]) hH e (by simp) (r.append (.cons ru .nil)) ?_,rfl,q⟩
 rw [List.length_append,List.length_singleton]
 omega
def rCat:R2:=fun x y H Q=>∃l b xs zs,x = .ref l∧y = .ref b∧H l=some (.lst xs)∧H b=some (.lst zs)∧xs.length + zs.length≤sizeLine∧∀p,H p=none→Q (.ref p) (upd H p (.lst (xs++zs)))
theorem op_cat:OpR X (binaryOp .Add) rCat:=by
 intro pins s σ H x y v u Q I rx ry h
 obtain ⟨l,b,xs,zs,rfl,rfl,hH,hB,hz,q⟩:=h
 cases rx
 cases ry
 obtain ⟨z,its,n,r,hl,e⟩:=I.lstM hH
 obtain ⟨z2,its2,n2,r2,hl2,e2⟩:=I.lstM hB
 refine PySem.P.add_list e e2 ?_ (by rw [List.size_toArray,List.size_toArray];omega)
 have ea:its.toArray++its2.toArray=(its++its2).toArray:=by simp
 rw [ea]
 exact ⟨.ref _,_,I.lnew (t':=s.toks) (r.append r2) (by rw [List.length_append];omega),rfl,q _ I.fresh⟩
def rRep:R2:=fun x y H Q=>∃l k xs,x = .ref l∧y = .int k∧H l=some (.lst xs)∧-(2 ^ 63)≤k∧k < 2 ^ 63∧xs.length * k.toNat≤sizeLine∧
 ∀p,H p=none→Q (.ref p) (upd H p (.lst (List.replicate k.toNat xs).flatten))
theorem len_rep {α:Type} (xs:List α) (k:Nat):(List.replicate k xs).flatten.length=k * xs.length:=by
 induction k with
 | zero=>simp
 | succ k ih=>rw [List.replicate_succ,List.flatten_cons,List.length_append,ih,Nat.succ_mul,Nat.add_comm]
theorem op_rep:OpR X (binaryOp .Mult) rRep:=by
 intro pins s σ H x y v u Q I rx ry h
 obtain ⟨l,k,xs,rfl,rfl,hH,h1,h2,hz,q⟩:=h
 cases rx
 obtain ⟨t,rfl⟩:=ry
 obtain ⟨z,its,n,r,hl,e⟩:=I.lstM hH
 have hlen:its.toArray.size * k.toNat≤sizeLine:=by rw [List.size_toArray,←hl];exact hz
 have hcap:¬its.toArray.size * k.toNat > (2 ^ 63 - 1) / 8:=by
  have:(sizeLine:Nat)≤(2 ^ 63 - 1) / 8:=by decide
  omega
 have hfit:¬(!Builtin.List.listFitsIndex k)=true:=by
  rw [fitsIndex_both h1 h2]
  exact Bool.false_ne_true
 have hlong:¬Builtin.List.listTooLong (its.toArray.size * k.toNat)=true:=by
  rw [notLongL hlen]
  exact Bool.false_ne_true
 have hnew:List.foldl (fun x1 x2=>x1++x2) #[] (List.replicate (if its.toArray.isEmpty=true then 0 else k.toNat) its.toArray)=(List.replicate k.toNat its).flatten.toArray:=by
  have f0:∀m:Nat,List.foldl (fun x1 x2=>x1++x2) #[] (List.replicate m its.toArray)=(List.replicate m its).flatten.toArray:=fun m=>by
   have:=foldl_rep its m []
   rw [List.nil_append] at this
   exact this
  rw [f0]
  cases its with
  | nil=>simp
  | cons a r'=>rw [if_neg (by simp)]
 refine wpAny_binaryOp_repeat_ref (T:="list") (U:="int") (by decide) ⟨_,e,rfl⟩ (fun s'=>typeIs_int s' k t) noFill_list_mul F.fills_int_mul F.slot_int_rmul repeat_list F.slot_int_index.lookup
  (call_meets F.slot_int_rmul (typeIs_int s k t) F.entry_int_rmul (F.args_int_rmul_2 _ _) (int___rmul___int_list k t l its.toArray n)
    ⟨e,rfl,⟨_,e,rfl⟩,call_meets F.slot_list_mul ⟨_,e,rfl⟩ F.entry_list_mul (F.args_list_mul_2 _ _) (AutoListH.list___mul___list_int_3 l its.toArray n k t hfit hcap hlong) ⟨e,?_⟩⟩)
 rw [hnew]
 exact ⟨.ref _,_,I.lnew (t':=s.toks) (r.rep k.toNat) (by rw [len_rep,Nat.mul_comm];exact hz),rfl,q _ I.fresh⟩
end
section
variable {prog:Program} {w:World} {A:Around} {E:Value→Shared→Prop} {s:Shared}
end
section
variable {X:Cx}
end
end L2
namespace Att
open PySem PySem.W PySem.Calls PyProof.Rows
theorem ints_of_wellAll {P:Params} {h:Heap}:∀(ns:List Int) (vs:List Value),WellAll P h vs (ns.map WData.int)→IntsAre vs ns:=by
 intro ns
 induction ns with
 | nil=>
   intro vs w
   rw [List.map_nil] at w
   cases w
   exact .nil
 | cons n ns ih=>
   intro vs w
   rw [List.map_cons] at w
   cases w with
   | cons a b=>
     cases a
     exact .cons _ _ (ih _ b)
theorem script_of {l:OpenLaw} {n:Nat} (hn:l.most=some n) {P:Params} {h:Heap} {args:List WData} {vals:List Value}
 (hpre:l.row.toRowW.claim.pre args=true) (hwl:WellAll P h vals args) :
 ∃a vs ns,vals=[Value.ref a]∧args=[WData.list (ns.map WData.int)]∧h.get? a=some { cls:=.type "list",data:=.seq vs.toArray }∧IntsAre vs ns∧ns.length≤n:=by
 have hsh:WShape.hasAll [] args [.list .int]=true:=(pre_splitW hpre).1
 have hc:l.pre.holds [] { args:=args }=true:=(pre_splitW hpre).2
 obtain ⟨d,r,rfl,h1,h2⟩:=hasAllW_cons hsh
 obtain rfl:=hasAllW_nil h2
 obtain ⟨xs,rfl,h3⟩:=hasW_list h1
 obtain ⟨ns,rfl⟩:=items_int h3
 have hlen:ns.length≤n:=by
  unfold OpenLaw.pre at hc
  have h4:(WTm.not (.lt (.lit (.int (n:Int))) (.len (.arg 0)))).holds [] { args:=[.list (ns.map .int)] }=true:=by
   have h4:=(holds_andW hc).1
   rw [hn] at h4
   exact h4
  have h5:=condW_of h4 (w_not (w_lt w_lit (w_len_list (w_arg rfl))))
  rw [List.length_map] at h5
  refine Nat.le_of_not_lt fun q=>?_
  have q':(n:Int) < ((ns.length:Nat):Int):=by omega
  first
   | (rw [decide_eq_true q'] at h5;exact absurd h5 (by decide))
   | (simp at h5;omega)
 cases hwl with
 | cons w1 w2=>
   cases w2
   cases w1 with
   | list ho hall=>exact ⟨_,_,ns,rfl,rfl,ho,ints_of_wellAll ns _ hall,hlen⟩
theorem post_true (l:OpenLaw) (args:List WData):l.row.toRowW.claim.post args (.bool true) args=true:=
 postW_of (r:=l.row.toRowW) (X:=(true == true))
  (show WShape.has [] (.bool true) .bool=true by first | rfl | decide | simp [WShape.has,WShape.arms,WShape.armsAll])
  (show (WTm.eq .res (.lit (.bool true))).value [] { args:=args,res:=some (.bool true),after:=args }=some (.bool (true == true)) from w_eq_bool (w_res rfl) w_lit) rfl
section
variable {prog:Program} {w:World} {A:Around} {E:Value→Shared→Prop} {s:Shared} {K:Frag}
def ledger (h:Heap) (L d:Addr):List (Addr×Obj):=(List.range h.objs.size).filterMap fun a=>if a=L∨a=d then none else (h.get? a).map fun o=>(a,o)
end
end Att
namespace L2
open PySem PySem.Spec PyProof.Rows
theorem vals_ints:∀{vs:List Value} {ns:List Int},IntsAre vs ns→Vals (ns.map V.int) vs
 | _,_,.nil=>.nil
 | _,_,.cons n t h=>.cons ⟨t,rfl⟩ (vals_ints h)
def Only (H:Hp):Prop:=∀b,H b=none∨∃o xs,H b=some (.frz o (.lst xs))
theorem law_call {P:Program} {w:World} {K:PySem.W.Frag} {mg mb:Str→Option Value} {CX:CXT} {k:Nat} {fa a:Addr} {fd:FuncData} {x:Str} {sp:Sp} {s₁:Shared} {vs:List Value} {ns:List Int}
 (KX:K.In s₁.heap) (hns:s₁.heap.Ns mainGlobals mg) (hb:s₁.heap.Ns builtinsNs mb) (hbb:∀x:Str,x≠"__name__"→mb x=bootBuiltins x) (hlim:s₁.heap.NoLimit) (hg:s₁.gens=#[])
 (ha:s₁.heap.get? a=some { cls:=.type "list",data:=.seq vs.toArray }) (hi:IntsAre vs ns) (hl:ns.length≤sizeLine) (hr:Room k callerA)
 (F:∀base:Heap,K.In base→base.Ns mainGlobals mg→FnOk P w K mg base CX k fa fd [x] sp) (hbind:∀(s:Shared) (u:Value),BindsTo s fd ⟨[u],[]⟩ [(x,u)])
 (hsp:∀H:Hp,Only H→SqL K H a (ns.map V.int)→sp [.ref a] H (fun v _=>v = .bl true) fun _ _ _=>False)
 (hCX:∀H e s',CX [] H s₁ (fun _ _ _=>False) e s'→False) (htk:TKof K≤s₁.toks) :
 codeAny (model P w) callerA (.call (.ref fa) ⟨[.ref a],[]⟩) (fun r s'=>r = .ok (.ret (.bool true))∧OldK s₁.heap s'.heap∧s'.os=s₁.os∧AllBare s'.gens) s₁:=by
 have rv:=vals_ints hi
 have lenV:=hi.length
 -- from an abstract heap in which nothing but the script may be tracked
 have core:∀H:Hp,Only H→SqL K H a (ns.map V.int)→HOk P w H s₁.heap→(∀b,H b≠none→b=a)→(H a≠none→K.lookup a=none)→
  codeAny (model P w) callerA (.call (.ref fa) ⟨[.ref a],[]⟩) (fun r s'=>r = .ok (.ret (.bool true))∧OldK s₁.heap s'.heap∧s'.os=s₁.os∧AllBare s'.gens) s₁:=by
  intro H hO hS hok hA hK
  have base_of:∀{b:Addr} {o:Obj},s₁.heap.get? b=some o→H b=none→(hidT s₁.heap H).get? b=some o:=fun e n=>hidT_get e n
  have noA:∀{b:Addr} {o:Obj} {es:Array DictEntry} {ep:Nat},s₁.heap.get? b=some o→o.data = .dict es ep→H b=none:=fun {b o es ep} e d=>by
   cases q:H b with
   | none=>rfl
   | some u=>
     have e':b=a:=hA b (by rw [q];simp)
     subst e'
     rw [ha] at e;cases e
     have d':Data.seq vs.toArray _=Data.dict es ep:=d
     cases d'
  have nsK:∀{b:Addr} {m:Str→Option Value},s₁.heap.Ns b m→(hidT s₁.heap H).Ns b m:=fun {b m} ⟨o,es,ep,e,d,r⟩=>⟨o,es,ep,base_of e (noA e d),d,r⟩
  have hKb:K.In (hidT s₁.heap H):=fun b o e=>base_of (KX b o e) (by
   cases q:H b with
   | none=>rfl
   | some u=>
     have e':b=a:=hA b (by rw [q];simp)
     subst e'
     rw [hK (by rw [q];simp)] at e;cases e)
  have hM:Mod K mg (hidT s₁.heap H):=⟨hKb,nsK hns,⟨mb,nsK hb,hbb⟩,let ⟨mc,h1,h2⟩:=hlim;⟨mc,nsK h1,h2⟩⟩
  have e0:Env0 P w K mg (hidT s₁.heap H) callerA [] s₁ H:=⟨rfl,hM,fun b o e=>of_hidT e,Nat.le_of_eq (hidT_size _ _),trivial,fun b hb=>absurd (show b∈([]:List Addr) from hb) (by simp),hok,.of_eq hg,htk⟩
  refine codeAny_mono ((F _ hKb (nsK hns)).run callerA [] s₁ H ⟨[.ref a],[]⟩ [.ref a] [.ref a] _ _ hr e0 (hbind s₁ (.ref a)) (.cons rfl .nil) (hsp H hO hS)) fun r s' h=>?_
  cases r with
  | error e=>exact (hCX H e s' h).elim
  | ok fl=>
    cases fl with
    | next=>exact False.elim h
    | brk=>exact False.elim h
    | cont=>exact False.elim h
    | ret u=>
      obtain ⟨v,H',os,bare,un,hok',r',q⟩:=h
      have q':v = .bl true:=q
      subst q'
      obtain rfl:u=Value.bool true:=r'
      refine ⟨rfl,OldK.of_keep fun b o e=>?_,os,bare⟩
      cases q:H b with
      | none=>exact un.keep b o e q (by intro z;exact absurd (show b∈([]:List Addr) from z) (by simp)) (by simp)
      | some u=>
        rcases hO b with z | ⟨ob,xs,z⟩
        ·rw [q] at z;cases z
        ·have z2:=un.frzs b ob _ z
         obtain ⟨e1,_⟩:=hok b _ z
         obtain ⟨e2,_⟩:=hok' b _ z2
         rw [e] at e1;cases e1
         exact e2
 cases hk:K.lookup a with
 | some o=>
   -- the script is one of the module's own objects
   have e:=KX a o hk
   rw [ha] at e
   cases e
   refine core (fun _=>none) (fun _=>.inl rfl) (.inr ⟨_,vs.toArray,_,hk,rfl,rfl,rfl,by rw [List.size_toArray,lenV];exact hl,by simpa using rv⟩) (fun b u z=>by have z':(none:Option HO)=some u:=z;cases z') (fun b z=>absurd rfl z) fun z=>absurd rfl z
 | none=>
   refine core (fun b=>if b=a then some (.frz { cls:=.type "list",data:=.seq vs.toArray } (.lst (ns.map V.int))) else none) (fun b=>?_) (.inl (.inr ⟨{ cls:=.type "list",data:=.seq vs.toArray },if_pos rfl⟩)) (fun b u z=>?_) (fun b z=>?_) fun _=>hk
   ·by_cases hb:b=a
    ·exact .inr ⟨_,_,if_pos hb⟩
    ·exact .inl (if_neg hb)
   ·by_cases hb:b=a
    ·have z':=(if_pos hb).symm.trans z
     cases z'
     subst hb
     exact ⟨ha,by rw [List.length_map];exact hl,vs,_,rv,ha⟩
    ·have z':=(if_neg hb).symm.trans z
     cases z'
   ·by_cases hb:b=a
    ·exact hb
    ·exact absurd (if_neg hb) z
end L2
namespace L2
open PySem PySem.Spec PyProof.Rows
theorem walk_ofX {l:PySem.W.OpenLaw} {n k:Nat} {q:Program} {loose:List Str} {XP:(Str→Option Value)→Heap→Prop} {α:Type} {Yf:Shared→α} {Ya:World→α} {d:DefRec} {K:Params→PySem.W.Frag} {CX:World→CXT} {sp:World→Sp} {x:Str}
 (hn:l.most=some n) (hn2:n≤sizeLine) (hdf:d.params.defaults=[]) (hr:Room k callerA)
 (hY:∀(w:World) (s:Shared),Yf s=Ya w→(K w.params).In s.heap∧TKof (K w.params)≤s.toks)
 (F:∀(w:World) (mg:Str→Option Value) (fa:Addr) (h:Heap),(K w.params).In h→h.Ns mainGlobals mg→mg d.name=some (.ref fa)→
   ∃fd:FuncData,(∀(s:Shared) (u:Value),BindsTo s fd ⟨[u],[]⟩ [(x,u)])∧
    ∀base:Heap,(K w.params).In base→base.Ns mainGlobals mg→FnOk l.prog w (K w.params) mg base (CX w) k fa fd [x] (sp w))
 (hsp:∀(w:World) (H:Hp) (a:Addr) (ns:List Int),ns.length≤n→Only H→SqL (K w.params) H a (ns.map V.int)→sp w [.ref a] H (fun v _=>v = .bl true) fun _ _ _=>False)
 (hCX:∀(w:World) (H:Hp) (s:Shared) (e:Value) (s':Shared),CX w [] H s (fun _ _ _=>False) e s'→False) :
 PySem.W.WalkX q loose XP Yf Ya l.row.toRowW d [] (fun f vs=>PySem.call f vs):=by
 intro w t₀ t₁ mg mb G Y fa o pm cd doc dV kV ho hd hcd hD hmg hg args vals as L hpre hlay hrd hwl hlo
 have e1:dV = .none:=PySem.W.Dflts.none hD hdf
 have e2:kV = .none:=PySem.W.Dflts.noKw hD
 subst e1;subst e2
 obtain ⟨a,us,ns,rfl,rfl,hobj,hints,hlen⟩:=Att.script_of hn hpre hwl
 have KX:=(hY w t₀ Y).1.keeps L.keeps
 have tt:TKof (K w.params)≤t₁.toks:=by
  obtain ⟨ord,_,z⟩:=L.laid
  exact Nat.le_trans (hY w t₀ Y).2 (PySem.W.layAllW_grows _ _ _ z).toks
 obtain ⟨fd,hb,hF⟩:=F w mg fa _ KX G.T.g hmg
 refine PySem.W.enter_call (codeAny_mono (law_call KX G.T.g G.T.b G.T.builtins G.T.nolimit hg hobj hints (Nat.le_trans hlen hn2) hr hF hb (fun H hO hS=>hsp w H a ns hlen hO hS) (fun H e s'=>hCX w H t₁ e s') tt) fun r s' hq=>?_)
 obtain ⟨rfl,h2,h3,h4⟩:=hq
 exact ⟨.inl ⟨.bool true,.bool true,[],rfl,fun _=>rfl,.bool true,Att.post_true l _,fun _=>⟨List.Pairwise.nil,fun _ hm=>(nomatch hm)⟩⟩,h2,h3,h4⟩
end L2
namespace L2
open PySem PySem.Spec PyProof.Rows
def defArgs (s:Stmt):Arguments:=match s with
 | .FunctionDef _ a _ _ _ _ _ _ _ _=>a
 | _=>{ posonlyargs:=[],args:=[],vararg:=none,kwonlyargs:=[],kw_defaults:=[],kwarg:=none,defaults:=[] }
def defBody (s:Stmt):List Stmt:=match s with
 | .FunctionDef _ _ b _ _ _ _ _ _ _=>b
 | _=>[]
def defScope (s:Stmt):Scope:=match s with
 | .FunctionDef _ _ _ _ _ _ sc _ _ _=>sc
 | _=>{ kind:=.function,names:=[],isGenerator:=false,isCoroutine:=false }
abbrev CX0:CXT:=fun _ _ _ _ _ _=>False
abbrev E0:XK:=fun _ _ _=>False
theorem pass0 {X:Cx}:Passes CX0 X E0:=fun _ _ _ _ _ _ _ _ h=>h.elim
structure Fun (K:PySem.W.Frag) (x qual:Str) (st:Stmt) (f:Addr) (fd:FuncData):Prop where
 ex:∃(oc:Value) (od:Option Addr) (kV doc pm:Value) (an:Option Addr) (cdv ct:Value) (osl:Array (Option Value)),
  fd=PySem.W.fnOf x qual (defArgs st) (defBody st) (defScope st) .none kV doc pm an cdv ct∧K.lookup f=some ⟨oc,od,.func fd,osl⟩∧PySem.W.codeIn K cdv qual=true
 kp:PySem.W.keepIn K (.ref f)=true
section
variable {P:Program} {w:World} {K:PySem.W.Frag} {mg:Str→Option Value} {base:Heap}
theorem Fun.ok {x qual:Str} {st:Stmt} {f:Addr} {fd:FuncData} {N ps:List Str} {k:Nat} {sp:Sp} (F:Fun K x qual st f fd) (S:FnScope N ps (defScope st)) (len:∀vs H Q E,sp vs H Q E→vs.length=ps.length)
 (hbody:∀(cdv:Value) (A:Around) (outer:List Env) (s:Shared) (H:Hp) (vs:List V) (Q:VK) (E:XK),Room k (A.deeper (envOfC qual (defScope st) s.heap.objs.size f cdv))→sp vs H Q E→
   ∃t,PSs (cxOf CX0 P w K mg base N qual (defScope st) f cdv A outer s H E).nox (defBody st) t∧t { nx:=fun _ H'=>Q .non H',rt:=Q } (start N vs) H):FnOk P w K mg base CX0 (k + 1) f fd ps sp:=by
 obtain ⟨oc,od,kV,doc,pm,an,cdv,ct,osl,rfl,lk,hcd⟩:=F.ex
 refine fn_of lk hcd S len fun A outer s H vs Q E hr hsp=>?_
 obtain ⟨t,h,q⟩:=hbody cdv A outer s H vs Q E hr hsp
 exact ⟨t,h.nox,q⟩
theorem Fun.binds {x qual:Str} {st:Stmt} {f:Addr} {fd:FuncData} {ps:List Str} (F:Fun K x qual st f fd)
 (h:∀(kV doc pm:Value) (an:Option Addr) (cdv ct:Value) (us:List Value),us.length=ps.length→bindArgs (PySem.W.fnOf x qual (defArgs st) (defBody st) (defScope st) .none kV doc pm an cdv ct) ⟨us,[]⟩=pure (ps.zip us)):Binds K fd ps []:=by
 obtain ⟨oc,od,kV,doc,pm,an,cdv,ct,osl,rfl,lk,hcd⟩:=F.ex
 exact .all (h kV doc pm an cdv ct)
theorem fun_mk {x qual:Str} {st:Stmt} {f:Addr} {oc:Value} {od an:Option Addr} {osl:Array (Option Value)} {kV doc pm cdv ct:Value} (l:K.lookup f=some ⟨oc,od,.func (PySem.W.fnOf x qual (defArgs st) (defBody st) (defScope st) .none kV doc pm an cdv ct),osl⟩)
 (c:PySem.W.codeIn K cdv qual=true) (k:PySem.W.keepIn K (.ref f)=true):Fun K x qual st f (PySem.W.fnOf x qual (defArgs st) (defBody st) (defScope st) .none kV doc pm an cdv ct):=⟨⟨oc,od,kV,doc,pm,an,cdv,ct,osl,rfl,l,c⟩,k⟩
end
section
variable {X:Cx}
end
def Same (H H':Hp):Prop:=∀b o,H b=some o→H' b=some o
theorem Same.refl (H:Hp):Same H H:=fun _ _ h=>h
theorem Same.trans {H H1 H2:Hp} (a:Same H H1) (b:Same H1 H2):Same H H2:=fun c o h=>b c o (a c o h)
theorem Same.free {H H':Hp} (e:Same H H') {l:Addr} (h:H' l=Option.none):H l=Option.none:=by
 cases q:H l with
 | none=>rfl
 | some o=>
   rw [e l o q] at h
   cases h
theorem Same.seq {K:PySem.W.Frag} {H H':Hp} {a:Addr} {xs:List V} (e:Same H H') (h:SqL K H a xs):SqL K H' a xs:=by
 rcases h with (h | ⟨o,h⟩) | h
 ·exact .inl (.inl (e _ _ h))
 ·exact .inl (.inr ⟨o,e _ _ h⟩)
 ·exact .inr h
end L2
set_option Elab.async false
set_option linter.all false
set_option maxRecDepth 100000
namespace L2
open PySem PySem.Spec PyProof.Rows
section
variable {κ:Type} [DecidableEq κ]
def valV (kvs:List (κ×V)) (k:κ):Option V:=(kvs.find? fun kv=>decide (kv.1=k)).map (·.2)
def putK (kvs:List (κ×V)) (k:κ) (v:V):List (κ×V):=
 if (kvs.any fun kv=>decide (kv.1=k))=true then kvs.map (fun kv=>if kv.1=k then (kv.1,v) else kv) else kvs++[(k,v)]
theorem valV_pos {p:κ×V} {r:List (κ×V)} {k:κ} (e:p.1=k):valV (p :: r) k=some p.2:=by simp [valV,List.find?_cons,e]
theorem valV_neg {p:κ×V} {r:List (κ×V)} {k:κ} (e:¬p.1=k):valV (p :: r) k=valV r k:=by simp [valV,List.find?_cons,e]
theorem length_putK (kvs:List (κ×V)) (k:κ) (v:V):(putK kvs k v).length≤kvs.length + 1:=by
 unfold putK
 split
 ·rw [List.length_map];omega
 ·rw [List.length_append,List.length_cons,List.length_nil];omega
theorem KV.val {kvs:List (κ×V)} {vs:List (κ×Value)} (r:KV kvs vs) (k:κ):RelO (valV kvs k) (valueAt vs k):=by
 unfold KV at r
 induction r with
 | nil=>exact True.intro
 | @cons p q ps qs h t ih=>
   obtain ⟨h1,h2⟩:=h
   by_cases e:p.1=k
   ·have e':q.1=k:=h1.symm.trans e
    have b:valueAt (q :: qs) k=some q.2:=by simp [valueAt,List.find?_cons,e']
    rw [valV_pos e,b];exact h2
   ·have e':¬q.1=k:=fun z=>e (h1.trans z)
    have b:valueAt (q :: qs) k=valueAt qs k:=by simp [valueAt,List.find?_cons,e']
    rw [valV_neg e,b];exact ih
theorem KV.any {kvs:List (κ×V)} {vs:List (κ×Value)} (r:KV kvs vs) (k:κ):(kvs.any fun kv=>decide (kv.1=k))=vs.any fun kv=>decide (kv.1=k):=by
 unfold KV at r
 induction r with
 | nil=>rfl
 | cons h t ih=>rw [List.any_cons,List.any_cons,ih,h.1]
theorem KV.repl {kvs:List (κ×V)} {vs:List (κ×Value)} (r:KV kvs vs) (k:κ) {y:V} {u:Value} (ry:RelV y u) :
 KV (kvs.map fun kv=>if kv.1=k then (kv.1,y) else kv) (vs.map fun kv=>if kv.1=k then (kv.1,u) else kv):=by
 unfold KV at r ⊢
 induction r with
 | nil=>exact .nil
 | @cons p q ps qs h t ih=>
   rw [List.map_cons,List.map_cons]
   refine .cons ?_ ih
   obtain ⟨h1,h2⟩:=h
   by_cases e:p.1=k
   ·rw [if_pos e,if_pos (h1.symm.trans e)];exact ⟨h1,ry⟩
   ·rw [if_neg e,if_neg (fun z=>e (h1.trans z))];exact ⟨h1,h2⟩
theorem KV.put {kvs:List (κ×V)} {vs:List (κ×Value)} (r:KV kvs vs) (k:κ) {y:V} {u:Value} (ry:RelV y u):KV (putK kvs k y) (stored vs k u):=by
 unfold putK stored
 rw [r.any k]
 by_cases e:(vs.any fun kv=>decide (kv.1=k))=true
 ·rw [if_pos e,if_pos e];exact r.repl k ry
 ·rw [if_neg e,if_neg e];exact Paired.snoc r ⟨rfl,ry⟩
theorem KV.keys {kvs:List (κ×V)} {vs:List (κ×Value)} (r:KV kvs vs):kvs.map (·.1)=vs.map (·.1):=by
 unfold KV at r
 induction r with
 | nil=>rfl
 | cons h t ih=>rw [List.map_cons,List.map_cons,ih,h.1]
theorem KV.length {kvs:List (κ×V)} {vs:List (κ×Value)} (r:KV kvs vs):kvs.length=vs.length:=Paired.length r
end
theorem kV_is {P:Program} {w:World} {k:Key} {u:Value} (r:RelV (kV k) u):(mixKind P w).is k u=true:=by
 cases k with
 | inl i=>obtain ⟨t,e⟩:=(show ∃t,u=Value.int i t from r);subst e;exact mixKind_int P w i t
 | inr x=>obtain ⟨t,e⟩:=(show ∃t,u=Value.str x t from r);subst e;exact mixKind_str P w x t
abbrev KT (H:Hp):List (List Key×V)→List (List Key×Addr×Value)→Prop:=Paired fun p q=>p.1=q.1∧H q.2.1=some (.tup (p.1.map kV))∧RelV p.2 q.2.2
theorem KT.val {H:Hp} {kvs:List (List Key×V)} {xs:List (List Key×Addr×Value)} (r:KT H kvs xs) (k:List Key):RelO (valV kvs k) ((atKey xs k).map (·.2)):=by
 induction r with
 | nil=>exact True.intro
 | @cons p q ps qs h t ih=>
   obtain ⟨h1,_,h2⟩:=h
   by_cases e:p.1=k
   ·have e':q.1=k:=h1.symm.trans e
    have b:atKey (q :: qs) k=some q.2:=by simp [atKey,List.find?_cons,e']
    rw [valV_pos e,b];exact h2
   ·have e':¬q.1=k:=fun z=>e (h1.trans z)
    have b:atKey (q :: qs) k=atKey qs k:=by simp [atKey,List.find?_cons,e']
    rw [valV_neg e,b];exact ih
theorem KT.keeps {H H':Hp} {kvs:List (List Key×V)} {xs:List (List Key×Addr×Value)} (r:KT H kvs xs) (ht:∀b ys,H b=some (.tup ys)→H' b=some (.tup ys)):KT H' kvs xs:=
 Paired.mapP r fun _ _ z=>⟨z.1,ht _ _ z.2.1,z.2.2⟩
section
variable {P:Program} {w:World} {H:Hp} {h:Heap} {a:Addr}
theorem rd_of {u:HO} (ok:HOk P w H h) (e:Rd H a u):ObjOk P w H h a u:=e.ok ok
theorem dk_rd {kvs:List (Key×V)} (ok:HOk P w H h) (e:Rd H a (.dK kvs)):kvs.length≤sizeLine∧(a == sysModules)=false∧∃vs,KV kvs vs∧h.DictOf (mixKind P w) a vs:=
 show ObjOk P w H h a (.dK kvs) from rd_of ok e
theorem dk_of {kvs:List (Key×V)} (ok:HOk P w H h) (e:H a=some (.dK kvs)):kvs.length≤sizeLine∧(a == sysModules)=false∧∃vs,KV kvs vs∧h.DictOf (mixKind P w) a vs:=dk_rd ok (.inl e)
end
def DGet (H:Hp) (a:Addr) (y:V) (r:Option V):Prop:=
 (∃kvs k,Rd H a (.dK kvs)∧y=kV k∧r=valV kvs k)∨∃kvs k b,Rd H a (.dT kvs)∧y = .ref b∧H b=some (.tup (k.map kV))∧r=valV kvs k
def DPut (H:Hp) (a:Addr) (y v:V) (H':Hp):Prop:=
 (∃kvs k,H a=some (.dK kvs)∧y=kV k∧kvs.length < sizeLine∧H'=upd H a (.dK (putK kvs k v)))∨
 ∃kvs k b,H a=some (.dT kvs)∧y = .ref b∧H b=some (.tup (k.map kV))∧kvs.length < sizeLine∧H'=upd H a (.dT (putK kvs k v))
theorem DGet.k {H:Hp} {a:Addr} {kvs:List (Key×V)} {k:Key} (e:H a=some (.dK kvs)):DGet H a (kV k) (valV kvs k):=.inl ⟨kvs,k,.inl e,rfl,rfl⟩
theorem DGet.t {H:Hp} {a b:Addr} {kvs:List (List Key×V)} {k:List Key} (e:H a=some (.dT kvs)) (eb:H b=some (.tup (k.map kV))):DGet H a (.ref b) (valV kvs k):=.inr ⟨kvs,k,b,.inl e,rfl,eb,rfl⟩
theorem DPut.k {H:Hp} {a:Addr} {kvs:List (Key×V)} {k:Key} {v:V} (e:H a=some (.dK kvs)) (hl:kvs.length < sizeLine):DPut H a (kV k) v (upd H a (.dK (putK kvs k v))):=.inl ⟨kvs,k,e,rfl,hl,rfl⟩
theorem DPut.t {H:Hp} {a b:Addr} {kvs:List (List Key×V)} {k:List Key} {v:V} (e:H a=some (.dT kvs)) (eb:H b=some (.tup (k.map kV))) (hl:kvs.length < sizeLine) :
 DPut H a (.ref b) v (upd H a (.dT (putK kvs k v))):=.inr ⟨kvs,k,b,e,rfl,eb,hl,rfl⟩
section
variable {X:Cx} {pins:List (Addr×Obj)} {σ:St} {H:Hp} {s:Shared} {a:Addr} {y v:V} {u r:Value} {o:Option V} {A:Around} {E:Value→Shared→Prop}
theorem Inv.big (I:Inv X pins σ H s):sysModules < s.heap.objs.size:=by
 have h:mainGlobals < s.heap.objs.size:=(I.mod.glob.keeps I.bk).lt
 exact Nat.lt_trans (by decide) h
theorem d_write {h':Heap} {t':Nat} {ob:HO} (I:Inv X pins σ H s) (mu:Mut (H a)) (hs:Heap.SameBut a s.heap h') (he:∃q,h'.get? a=some q) (new:ObjOk X.prog X.w (upd H a ob) h' a ob) (ht:s.toks≤t':=by first | exact Nat.le_refl _ | assumption | omega | (dsimp only;omega)) :
 Inv X pins σ (upd H a ob) { s with heap:=h',toks:=t' }:=
 I.write (x:=a) (e:=a) mu (.inl rfl) (fun b q hb z=>(hs.2 b hb).trans z) he new
theorem dk_new {P:Program} {w:World} {H':Hp} {h':Heap} {kvs:List (Key×V)} {vs:List (Key×Value)} (z:kvs.length≤sizeLine) (hd:(a == sysModules)=false) (rel:KV kvs vs) (dd:h'.DictOf (mixKind P w) a vs) :
 ObjOk P w H' h' a (.dK kvs):=⟨z,hd,vs,rel,dd⟩
end
section
variable {X:Cx} {pins:List (Addr×Obj)} {σ:St} {H:Hp} {s:Shared} {a:Addr} {kvs:List (Key×V)} {k:Key} {u:Value} {A:Around} {E:Value→Shared→Prop}
end
section
variable {X:Cx} {o i e value:Expr} {pos pos' tpos:Pos} {td ty tv:TE}
end
theorem dk_empty {P:Program} {w:World} {H:Hp} (h:Heap) (hb:sysModules < h.objs.size):ObjOk P w H (h.push { cls:=.type "dict",data:=.dict #[] }) h.objs.size (.dK []):=
 ⟨Nat.zero_le _,beq_eq_false_iff_ne.mpr (Ne.symm (Nat.ne_of_lt hb)),[],.nil,Heap.DictOf.new h⟩
section
variable {X:Cx} {pos:Pos}
end
def tPairs:List (TE×TE)→St→Hp→(List (V×V)→Hp→Prop)→Prop
 | [],_,H,Q=>Q [] H
 | (tk,tv) :: r,σ,H,Q=>tk σ H fun x H1=>tv σ H1 fun y H2=>tPairs r σ H2 fun ps H3=>Q ((x,y) :: ps) H3
abbrev VV:List (V×V)→List (Value×Value)→Prop:=Paired fun p q=>RelV p.1 q.1∧RelV p.2 q.2
def PPs (X:Cx) (pos:Pos) (keys:List (Option Expr)) (values:List Expr) (trs:List (TE×TE)):Prop:=
 ∀(pins:List (Addr×Obj)) (s:Shared) (σ:St) (H:Hp) (Q:List (V×V)→Hp→Prop),Inv X pins σ H s→tPairs trs σ H Q→
  wpAny (model X.prog X.w) X.A (evalPairs (pairTrees keys values X.env pos)) (fun vs s'=>∃ps H',Inv X pins σ H' s'∧VV ps vs∧Q ps H') X.xe s
theorem pps_nil {X:Cx} {pos:Pos}:PPs X pos [] [] []:=fun pins s σ H Q I h=>pairTrees_nil_walk ⟨[],H,I,.nil,h⟩
theorem pps_cons {X:Cx} {pos:Pos} {k v:Expr} {ks:List (Option Expr)} {vs:List Expr} {tk tv:TE} {trs:List (TE×TE)} (hk:PE X k tk) (hv:PE X v tv) (hr:PPs X pos ks vs trs) :
 PPs X pos (some k :: ks) (v :: vs) ((tk,tv) :: trs):=fun pins s σ H Q I h=>
 pairTrees_cons_walk (thn (hk pins s σ H _ I h) fun u s1 ⟨x,H1,I1,rx,q1⟩=>thn (hv pins s1 σ H1 _ I1 q1) fun w2 s2 ⟨y,H2,I2,ry,q2⟩=>
  thn (hr pins s2 σ H2 _ I2 q2) fun ws s3 ⟨ps,H3,I3,rel,q3⟩=>⟨(x,y) :: ps,H3,I3,.cons ⟨rx,ry⟩ rel,q3⟩)
def mergeK (kvs more:List (Key×V)):List (Key×V):=more.foldl (fun acc kv=>putK acc kv.1 kv.2) kvs
theorem KV.merge:∀{more:List (Key×V)} {rs:List (Key×Value)} {kvs:List (Key×V)} {vs:List (Key×Value)},KV more rs→KV kvs vs→KV (mergeK kvs more) (merged vs rs):=by
 intro more rs kvs vs r
 unfold KV at r
 induction r generalizing kvs vs with
 | nil=>intro q;exact q
 | @cons p q ps qs h t ih=>
   intro r0
   have e:KV (putK kvs p.1 p.2) (stored vs q.1 q.2):=by
    have:=r0.put p.1 h.2
    rw [←h.1];exact this
   exact ih e
theorem length_mergeK:∀(more kvs:List (Key×V)),(mergeK kvs more).length≤kvs.length + more.length
 | [],kvs=>by show kvs.length≤kvs.length + 0;omega
 | p :: r,kvs=>by
   have h1:=length_mergeK r (putK kvs p.1 p.2)
   have h2:=length_putK kvs p.1 p.2
   show (mergeK (putK kvs p.1 p.2) r).length≤_
   rw [List.length_cons];omega
theorem carries_of {P:Program} {w:World}:∀{kvs:List (Key×V)} {ws:List (Value×Value)},VV (kvs.map fun kv=>(kV kv.1,kv.2)) ws→∃rs,Carries (mixKind P w) ws rs∧KV kvs rs
 | [],_,r=>by rw [List.map_nil] at r;cases r;exact ⟨[],True.intro,.nil⟩
 | p :: kvs,_,r=>by
   rw [List.map_cons] at r
   cases r with
   | @cons a b as bs h t=>
     obtain ⟨rs,c,q⟩:=carries_of (P:=P) (w:=w) t
     obtain ⟨b1,b2⟩:=b
     exact ⟨(p.1,b2) :: rs,⟨kV_is h.1,rfl,c⟩,.cons ⟨rfl,h.2⟩ q⟩
def tDisp (trs:List (TE×TE)):TE:=fun σ H Q=>∀p,H p=none→tPairs trs σ (upd H p (.dK [])) fun ps H2=>H2 p=some (.dK [])∧∃kvs:List (Key×V),ps=kvs.map (fun kv=>(kV kv.1,kv.2))∧kvs.length≤15∧Q (.ref p) (upd H2 p (.dK (mergeK [] kvs)))
theorem pe_disp {X:Cx} {pos:Pos} {keys:List (Option Expr)} {values:List Expr} {trs:List (TE×TE)} (h:PPs X pos keys values trs) (hall:keys.all (·.isSome)=true) (hl:keys.length=values.length) (h0:keys≠[])
 (h15:keys.length≤15):PE X (.Dict keys values pos) (tDisp trs):=by
 intro pins s σ H Q I q
 have hn:=I.hok.fresh (Nat.le_refl s.heap.objs.size)
 have I1:=I.laid (a:=s.heap.objs.size) (o:=.dK []) (h':=s.heap.push { cls:=.type "dict",data:=.dict #[] }) (t':=s.toks) (fun _ _ q=>Heap.get?_push_of_some _ q) (Nat.le_refl _) (dk_empty s.heap I.big)
 refine wpAny_Dict_walk (knd:=mixKind X.prog X.w) hall hl h0 h15 (thn (h pins _ σ _ _ I1 (q _ hn)) fun ws s2 ⟨ps,H2,I2,rel,e,kvs,ep,lk,q2⟩=>?_)
 subst ep
 obtain ⟨rs,c,rk⟩:=carries_of (P:=X.prog) (w:=X.w) rel
 obtain ⟨z,hd,vs0,r0,dd⟩:=dk_of I2.hok e
 cases r0
 refine ⟨rs,c,dd,fun h' dd' hs=>⟨.ref s.heap.objs.size,_,?_,rfl,q2⟩⟩
 have hz:(mergeK [] kvs).length≤sizeLine:=by
  have h1:=length_mergeK kvs []
  rw [List.length_nil] at h1
  rw [sizeLine_eq];omega
 have he:∃q,h'.get? s.heap.objs.size=some q:=let ⟨q,_,_,hq,_⟩:=dd';⟨q,hq⟩
 exact d_write I2 (by rw [e];exact True.intro) hs he (dk_new hz hd (rk.merge .nil) dd')
end L2
set_option Elab.async false
set_option linter.all false
set_option maxRecDepth 100000
namespace L2
open PySem PySem.Spec PyProof.Rows
theorem closure_loop {env:Env}:∀(l:List (Str×NameKind)) (cs:List (Str×Addr)),(∀x c,cs.lookup x=some c→env.cells.lookup x=some c)→(∀y∈l,y.2 = .free→∃c,env.cells.lookup y.1=some c)→
 ∃cl,(forIn l cs fun (x:Str×NameKind) r=>(match x with | (name,kind)=>if (kind == NameKind.free)=true then do let c ←cellOf env name;pure (ForInStep.yield ((name,c) :: r)) else pure (ForInStep.yield r):Sem (ForInStep (List (Str×Addr)))))=pure cl∧
  (∀x c,cl.lookup x=some c→env.cells.lookup x=some c)∧(∀x c,cs.lookup x=some c→∃c',cl.lookup x=some c')∧∀y∈l,y.2 = .free→∃c,cl.lookup y.1=some c
 | [],cs,h,_=>⟨cs,rfl,h,fun _ c e=>⟨c,e⟩,fun _ z=>nomatch z⟩
 | (n,k) :: l,cs,h,hf=>by
   by_cases hk:k = .free
   ·subst hk
    obtain ⟨c,hc⟩:=hf (n,.free) List.mem_cons_self rfl
    have hc':env.cells.lookup n=some c:=hc
    have e:cellOf env n=pure c:=by unfold cellOf;rw [hc']
    obtain ⟨cl,e1,e2,e3,e4⟩:=closure_loop l ((n,c) :: cs) (fun x c' q=>by
     rw [List.lookup_cons] at q
     by_cases hx:(x == n)=true
     ·rw [hx] at q;cases q;rw [eq_of_beq hx];exact hc'
     ·rw [Bool.eq_false_iff.mpr hx] at q;exact h x c' q) (fun y hy=>hf y (List.mem_cons_of_mem _ hy))
    have self:((n,c) :: cs).lookup n=some c:=by rw [List.lookup_cons,beq_self_eq_true]
    refine ⟨cl,?_,e2,fun x c' q=>?_,fun y hy hyf=>?_⟩
    ·rw [List.forIn_cons]
     simp only [beq_self_eq_true,if_true,e]
     exact e1
    ·by_cases hx:(x == n)=true
     ·rw [eq_of_beq hx];exact e3 n c self
     ·exact e3 x c' (by rw [List.lookup_cons,Bool.eq_false_iff.mpr hx];exact q)
    ·rcases List.mem_cons.mp hy with z | z
     ·subst z;exact e3 n c self
     ·exact e4 y z hyf
   ·have hb:(k == NameKind.free)=false:=by simpa using hk
    obtain ⟨cl,e1,e2,e3,e4⟩:=closure_loop l cs h (fun y hy=>hf y (List.mem_cons_of_mem _ hy))
    refine ⟨cl,?_,e2,e3,fun y hy hyf=>?_⟩
    ·rw [List.forIn_cons]
     simp only [hb,Bool.false_eq_true,if_false]
     exact e1
    ·rcases List.mem_cons.mp hy with z | z
     ·subst z;exact absurd hyf hk
     ·exact e4 y z hyf
theorem closure_of {scope:Scope} {env:Env} (h:∀y∈scope.names,y.2 = .free→∃c,env.cells.lookup y.1=some c) :
 ∃cl,closureFor scope env=pure cl∧(∀x c,cl.lookup x=some c→env.cells.lookup x=some c)∧∀y∈scope.names,y.2 = .free→∃c,cl.lookup y.1=some c:=by
 obtain ⟨cl,e1,e2,_,e4⟩:=closure_loop (env:=env) scope.names [] (fun _ _ q=>nomatch q) h
 refine ⟨cl,?_,e2,e4⟩
 simp only [closureFor]
 first | (rw [e1];rfl) | (simp only [e1];rfl) | (trace_state;exact e1)
theorem compLoop_any {prog:Program} {w:World} {A:Around} {R:Result→Shared→Prop} {s:Shared} {elt target iter:Expr} {ifs:List Expr} {scope:Scope} {pos:Pos} {it acc:Value} {env:Env} (I:Nat→Shared→Prop)
 (turn:∀n s,I n s→wpAny (model prog w) A (pyNext it) (fun r s₁=>match r with
   | none=>R (.ok .next) s₁
   | some v=>wpAny (model prog w) A (letOwnedTupleGo target it v) (fun _ s₁'=>wpAny (model prog w) A (assign target env v) (fun _ s₂=>
      wpAny (model prog w) A (forIn ifs true fun c r=>if r=true then do let ok ←isTrue c env (eval c env);pure (ForInStep.yield ok) else pure (ForInStep.yield r)) (fun ok s₃=>
       if ok=true then wpAny (model prog w) A (eval elt env) (fun x s₄=>
        wpAny (model prog w) A (call (.builtin "list.append") [acc,x]) (fun _ s₅=>∃m,m < n∧I m s₅) (fun _ _=>False) s₄) (fun _ _=>False) s₃
       else ∃m,m < n∧I m s₃) (fun _ _=>False) s₂) (fun _ _=>False) s₁') (fun _ _=>False) s₁) (fun _ _=>False) s)
 (n:Nat) (h:I n s) :
 codeAny (model prog w) A (.compLoop (.ListComp elt [⟨target,iter,ifs,0⟩] scope pos) 0 it acc env) R s:=by
 refine codeAny_loop rfl I (fun n s hI=>?_) n h
 show wpAny _ A ((compTurn (.ListComp elt [⟨target,iter,ifs,0⟩] scope pos) 0 it acc env).onRaise (fun x=>do noteFrame x env;theTreesLotGoes x)) _ _ s
 refine wpAny_noted ?_
 rw [compTurn_list]
 refine wpAny_bind (wpAny_standAt (wpAny_bind (wpAny_mono (turn n s hI) (fun r s₁ h₁=>?_) fun _ _ h'=>h'.elim)))
 cases r with
 | none=>exact wpAny_pure h₁
 | some v=>
   refine wpAny_bind (wpAny_mono h₁ (fun _ s₁' h₁'=>?_) fun _ _ h'=>h'.elim)
   refine wpAny_bind (wpAny_mono h₁' (fun _ s₂ h₂=>wpAny_bind (wpAny_mono h₂ (fun ok s₃ h₃=>?_) fun _ _ h'=>h'.elim)) fun _ _ h'=>h'.elim)
   cases ok with
   | false=>exact wpAny_pure ⟨rfl,h₃⟩
   | true=>
     exact wpAny_bind (wpAny_bind (wpAny_mono h₃ (fun x s₄ h₄=>wpAny_bind (wpAny_mono h₄ (fun _ s₅ h₅=>wpAny_pure (wpAny_pure ⟨rfl,h₅⟩)) fun _ _ h'=>h'.elim)) fun _ _ h'=>h'.elim))
end L2
set_option Elab.async false
set_option linter.all false
set_option maxRecDepth 100000
set_option maxHeartbeats 2000000
namespace L2
open PySem PySem.Spec PyProof.Rows
def cmpX (X:Cx) (N':List Str) (scope:Scope) (cl:List (Str×Addr)) (C:Addr) (s2:Shared) (H2:Hp) (fp:List Addr):Cx where
 prog:=X.prog
 w:=X.w
 K:=X.K
 mg:=X.mg
 base:=X.base
 A:=X.A
 N:=N'
 s₀:=s2
 H₀:=H2
 env:=compEnvC scope cl C X.env
 outer:=X.stack
 stack:=X.stack
 ex:=fp
 fn:=fun _=>false
 calm:=X.calm
 pn:=[]
 xe:=fun _ _=>False
theorem lookup_mapK (h:Str→NameKind→NameKind) (x:Str):∀l:List (Str×NameKind),(l.map fun p=>(p.1,h p.1 p.2)).lookup x=(l.lookup x).map (h x)
 | []=>rfl
 | (n,k) :: l=>by
   show List.lookup x ((n,h n k) :: _)=_
   rw [List.lookup_cons,List.lookup_cons]
   by_cases hx:(x == n)=true
   ·rw [hx,eq_of_beq hx];rfl
   ·rw [Bool.eq_false_iff.mpr hx];exact lookup_mapK h x l
theorem relabel_lookup (scope:Scope) (env:Env) (x:Str):(relabel scope env).names.lookup x=(scope.names.lookup x).map fun k=>if (k == .free && env.scope.kind == .function && env.kindOf x == some .cell)=true then .cell else k:=by
 rw [←lookup_mapK (fun n k=>if (k == NameKind.free && env.scope.kind == .function && env.kindOf n == some .cell)=true then .cell else k) x scope.names]
 unfold relabel
 dsimp only
 congr 1
 apply List.map_congr_left
 intro p _
 obtain ⟨n,k⟩:=p
 dsimp only
 split <;> rfl
theorem mem_of_lookupK {x:Str} {k:NameKind}:∀{l:List (Str×NameKind)},l.lookup x=some k→(x,k)∈l
 | (n,k') :: l,h=>by
   rw [List.lookup_cons] at h
   by_cases hx:(x == n)=true
   ·rw [hx] at h;cases h;rw [eq_of_beq hx];exact List.mem_cons_self
   ·rw [Bool.eq_false_iff.mpr hx] at h;exact List.mem_cons_of_mem _ (mem_of_lookupK h)
theorem relabel_free {scope:Scope} {env:Env} {x:Str} (hcell:∀y∈scope.names,y.2≠.cell) (h:(relabel scope env).names.lookup x=some .cell∨(relabel scope env).names.lookup x=some .free):scope.names.lookup x=some .free:=by
 rw [relabel_lookup] at h
 cases e:scope.names.lookup x with
 | none=>rw [e] at h;rcases h with h | h <;> cases h
 | some k=>
   by_cases hk:k = .free
   ·rw [hk]
   ·have hb:(k == NameKind.free)=false:=by simpa using hk
    rw [e] at h
    simp only [Option.map_some,hb,Bool.false_and,Bool.false_eq_true,if_false] at h
    rcases h with h | h
    ·cases h;exact absurd rfl (hcell _ (mem_of_lookupK e))
    ·cases h;exact absurd rfl hk
def PIf (X:Cx) (ifs:List Expr) (t:TT):Prop:=
 ∀(pins:List (Addr×Obj)) (s:Shared) (σ:St) (H:Hp) (Q:Bool→Hp→Prop),Inv X pins σ H s→t σ H Q→
  wpAny (model X.prog X.w) X.A (forIn ifs true fun c r=>if r=true then do let ok ←isTrue c X.env (eval c X.env);pure (ForInStep.yield ok) else pure (ForInStep.yield r)) (TP X pins σ Q) X.xe s
def tTrue:TT:=fun _ H Q=>Q true H
theorem pif_nil {X:Cx}:PIf X [] tTrue:=fun _ _ _ H _ I h=>wpAny_tests_nil ⟨H,I,h⟩
def tBlock (J:It) (g:TG) (tt:TT) (te:TE) (σ₀:St) (H1:Hp) (Fin:List V→Hp→Prop):Prop:=
 ∃W:Nat→Nat→List V→St→Hp→Prop,(∃m,W 0 m [] σ₀ H1)∧∀i m acc σ' H',W i m acc σ' H'→acc.length≤sizeLine∧
  ((J.stop i H'∧Fin acc H')∨
    (J.go i H'∧∀x H2,J.yld i H' x H2→g x σ' H2 fun σ3 H3=>tt σ3 H3 fun b H4=>if b=true then te σ3 H4 fun v H5=>∃m',m' < m∧W (i + 1) m' (acc++[v]) σ3 H5 else ∃m',m' < m∧W (i + 1) m' acc σ3 H4))
def tComp (wi:TI) (g:TG) (tt:TT) (te:TE) (σf:St→St):TE:=fun σ H Q=>wi σ H fun J H1=>tBlock J g tt te (σf σ) H1 fun acc H'=>∀p,H' p=none→acc.length≤sizeLine→Q (.ref p) (upd H' p (.lst acc))
structure CmpOk (X:Cx) (scope:Scope) (N':List Str) (σf:St→St):Prop where
 kind:scope.kind = .function
 cell:∀y∈scope.names,y.2≠.cell
 loc:∀y∈scope.names,y.2 = .local→scope.names.lookup y.1=some .local
 free:∀y∈scope.names,y.2 = .free→X.env.kindOf y.1=some .cell∨X.env.kindOf y.1=some .free
 len:∀σ:St,σ.length=X.N.length→(σf σ).length=N'.length
 vals:∀(σ:St) (j:Nat) (x:Str) (v:V),N'[j]?=some x→(σf σ)[j]?=some (some v)→∃i:Nat,X.N[i]?=some x∧σ[i]?=some (some v)∧scope.names.lookup x=some .free
section
variable {X:Cx} {tg elt iter:Expr} {ifs:List Expr} {scope:Scope} {pos:Pos} {N':List Str} {wi:TI} {g:TG} {tt:TT} {te:TE} {σf:St→St}
theorem cmp_ok {pins:List (Addr×Obj)} {σ:St} {H2:Hp} {s2:Shared} {cl:List (Str×Addr)} {C:Addr} {fp:List Addr} (O:CmpOk X scope N' σf) (I2:Inv X pins σ H2 s2) (f2:∀b∈fp,FpOk X pins H2 b) (hC:s2.heap.objs.size≤C)
 (hlt:∀b∈fp,b < s2.heap.objs.size) (e2:∀x c,cl.lookup x=some c→X.env.cells.lookup x=some c) (e4:∀y∈scope.names,y.2 = .free→∃c,cl.lookup y.1=some c):(cmpX X N' scope cl C s2 H2 fp).Ok where
 mod:=I2.ok.mod
 kind:=O.kind
 glob:=I2.ok.glob
 blt:=I2.ok.blt
 above:=hC
 inj:=fun x y c h1 h2=>I2.ok.inj x y c (e2 x c h1) (e2 y c h2)
 has:=fun x h=>by
  have q:=relabel_free (env:=X.env) (x:=x) O.cell h
  exact e4 _ (mem_of_lookupK q) rfl
 cab:=fun x c h _=>nomatch h
 hd:=I2.ok.hd
 frames:=I2.ok.frames
 stk:=.inl rfl
 exf:=fun b hb=>⟨Nat.ne_of_lt (Nat.lt_of_lt_of_le (hlt b hb) hC),fun x c e=>(f2 b hb).2.2.2.2.1 x c (e2 x c e)⟩
 bs:=I2.bs
 bsz:=Nat.le_trans I2.ok.bsz I2.sz
 noex:=fun b o e hb=>by
  rcases (f2 b hb).2.2.2.1 with z | z
  ·exact I2.ok.noex b o e z
  ·exact absurd (Nat.lt_of_lt_of_le (Heap.lt_size (I2.ok.bs b o e).1) z) (Nat.lt_irrefl _)
 exfs:=fun b hb z=>by
  rcases List.mem_cons.mp (I2.stkSub b z) with q | q
  ·exact (f2 b hb).2.1 q
  ·exact (f2 b hb).2.2.1 q
 funs:=I2.stack
 frf:=I2.stkFree
theorem stk_lt {pins:List (Addr×Obj)} {σ:St} {H2:Hp} {s2:Shared} (I2:Inv X pins σ H2 s2) {a:Addr} (h:s2.heap.objs.size≤a):a∉frs X.stack:=fun hb=>by
 rcases List.mem_cons.mp (I2.stkSub a hb) with q | q
 ·exact absurd (Nat.lt_of_lt_of_le I2.lt h) (by rw [q];exact Nat.lt_irrefl _)
 ·exact I2.nofs h q
theorem block_ok {pins:List (Addr×Obj)} {σ:St} {H2:Hp} {s2:Shared} {cl:List (Str×Addr)} {fp:List Addr} {it:Addr} {tn:Nat→Heap→Prop} {J:It} {Fin:List V→Hp→Prop} {RR:Value→Addr→Result→Shared→Prop} {E:Value→Shared→Prop} (O:CmpOk X scope N' σf) (hc:X.calm=true)
 (I2:Inv X pins σ H2 s2) (T:Turn X.prog X.w X.K tg J fp it tn) (st2:tn 0 s2.heap) (f2:∀b∈fp,FpOk X pins H2 b)
 (e2:∀x c,cl.lookup x=some c→X.env.cells.lookup x=some c) (e4:∀y∈scope.names,y.2 = .free→∃c,cl.lookup y.1=some c)
 (hg:∀C,PG (cmpX X N' scope cl C s2 H2 fp) tg g) (ht:∀C,PIf (cmpX X N' scope cl C s2 H2 fp) ifs tt) (he:∀C,PE (cmpX X N' scope cl C s2 H2 fp) elt te)
 (B:tBlock J g tt te (σf σ) H2 Fin)
 (fin:∀C s' σ' H' acc m,s2.heap.objs.size≤C→C≠s2.heap.objs.size→Inv (cmpX X N' scope cl C s2 H2 fp) [] σ' H' s'→H' s2.heap.objs.size=none→acc.length≤sizeLine→(∃its n,Vals acc its∧s'.heap.get? s2.heap.objs.size=some { cls:=.type "list",data:=.seq its.toArray n })→Fin acc H'→s'.heap.Ns C m→
   RR (.ref s2.heap.objs.size) C (.ok .next) s') :
 wpAny (model X.prog X.w) X.A (newList []) (fun acc s₃=>wpAny (model X.prog X.w) X.A (newFunctionEnv scope X.env.globals cl [] X.env.qual none .none (some X.env)) (fun cenv s₄=>
  codeAny (model X.prog X.w) X.A (.compStart (.ListComp elt [⟨tg,iter,ifs,0⟩] scope pos) 0 (.ref it) acc { cenv with scope:=relabel scope X.env }) (RR acc cenv.locals) s₄) E s₃) E s2:=by
 refine wpAny_newObj_type (wpAny_newFunctionEnv O.cell (by intro y hy;simp at hy) (fun h₁ hns₁ hsb₁=>?_) O.kind)
 dsimp only at hns₁ hsb₁ ⊢
 generalize hH2:s2.heap.push { cls:=.type "list",dict:=none,data:=.seq ([]:List Value).toArray }=HP at hns₁ hsb₁ ⊢
 have hC:HP.objs.size=s2.heap.objs.size + 1:=by rw [←hH2,Heap.size_push]
 generalize hDD:s2.heap.objs.size=DD at *
 generalize hCC:HP.objs.size=CC at *
 have hDC:DD≠CC:=by rw [hC];exact Nat.ne_of_lt (Nat.lt_succ_self _)
 have hCle:s2.heap.objs.size≤CC:=by rw [hC,hDD];exact Nat.le_succ _
 have hlt:∀b∈fp,b < s2.heap.objs.size:=fun b hb=>by obtain ⟨o,e,_⟩:=T.obj _ _ st2 b hb;exact Heap.lt_size e
 have hlt':∀b∈fp,b < DD:=fun b hb=>by rw [←hDD];exact hlt b hb
 have below:∀b,b < DD→b≠CC∧b≠DD:=fun b hb=>⟨by rw [hC];exact Nat.ne_of_lt (Nat.lt_succ_of_lt hb),Nat.ne_of_lt hb⟩
 have old:∀b o,s2.heap.get? b=some o→h₁.get? b=some o:=fun b o e=>hsb₁.extBut b o (below b (by rw [←hDD];exact Heap.lt_size e)).1 (Heap.get?_push_of_some _ (hH2 ▸ Heap.get?_push_of_some _ e))
 have hacc:h₁.get? DD=some { cls:=.type "list",data:=.seq ([]:List Value).toArray }:=by
  refine hsb₁.extBut _ _ hDC (Heap.get?_push_of_some _ ?_)
  rw [←hH2,←hDD]
  exact Heap.get?_push_size _ rfl
 have ok:=cmp_ok (cl:=cl) (C:=CC) O I2 f2 hCle hlt e2 e4
 have hfs:DD∉frs X.stack:=stk_lt I2 (by rw [hDD];exact Nat.le_refl _)
 obtain ⟨W,⟨m0,w0⟩,turn⟩:=B
 let X':Cx:=cmpX X N' scope cl CC s2 H2 fp
 have I0:Inv X' [] (σf σ) H2 { s2 with heap:=h₁,toks:=s2.toks + ([]:List (Str×Value)).length }:=by
  refine ⟨ok,rfl,I2.bare,Un.kept old,⟨_,hns₁,fun j x v q1 q2 q3=>?_⟩,fun x c e=>?_,I2.hok.fresh hCle,fun x c e=>I2.freeC x c (e2 x c e),(fun p hp=>nomatch hp),I2.hok.kept old,O.len σ I2.len,Nat.le_trans I2.tk (Nat.le_add_right _ _)⟩
  ·obtain ⟨i,n1,n2,n3⟩:=O.vals σ j x v q1 q2
   obtain ⟨m,_,hl⟩:=I2.loc
   have hfr:=O.free _ (mem_of_lookupK n3) rfl
   obtain ⟨u,r,l⟩:=hl i x v n1 n2 (.inr hfr)
   refine ⟨u,r,?_⟩
   rcases l with ⟨k,_⟩ | ⟨_,c,ec,hcell⟩
   ·rcases hfr with z | z <;> (have z':=k.symm.trans z;cases z')
   ·obtain ⟨c',ec'⟩:=e4 _ (mem_of_lookupK n3) rfl
    have z:=e2 _ _ ec'
    have ez:X.env.cells.lookup x=some c':=z
    rw [ec] at ez
    cases ez
    refine .inr ⟨?_,c,ec',?_⟩
    ·show (relabel scope X.env).names.lookup x=some .cell∨(relabel scope X.env).names.lookup x=some .free
     rw [relabel_lookup,n3]
     simp only [Option.map_some]
     split
     ·exact .inl rfl
     ·exact .inr rfl
    ·obtain ⟨o,ho,hd⟩:=hcell
     exact ⟨o,old _ _ ho,hd⟩
  ·obtain ⟨v,o,ho,hd⟩:=I2.cell x c (e2 x c e)
   exact ⟨v,o,old _ _ ho,hd⟩
 have loop:∀s₃:Shared,s₃ = { s2 with heap:=h₁,toks:=s2.toks + ([]:List (Str×Value)).length }→
  codeAny (model X.prog X.w) X.A (.compLoop (.ListComp elt [⟨tg,iter,ifs,0⟩] scope pos) 0 (.ref it) (.ref DD) (compEnvC scope cl CC X.env)) (RR (.ref DD) CC) s₃:=by
  rintro s₃ rfl
  refine compLoop_any (fun n s'=>∃i acc its nn σ' H',Inv X' [] σ' H' s'∧tn i s'.heap∧(∀b∈fp,H' b=none)∧Vals acc its∧s'.heap.get? DD=some { cls:=.type "list",data:=.seq its.toArray nn }∧H' DD=none∧W i n acc σ' H') ?_ m0
   ⟨0,[],[],0,σf σ,H2,I0,T.keep _ _ _ st2 (fun b _ o e=>old b o e),fun b hb=>(f2 b hb).1,.nil,hacc,I2.hok.fresh (by rw [hDD];exact Nat.le_refl _),w0⟩
  rintro n s' ⟨i,acc,its,nn,σ3,H3,I3,st3,fr3,hv,hD,hDn,w3⟩
  have I3p:Inv X' [(DD,({ cls:=.type "list",data:=.seq its.toArray nn }:Obj))] σ3 H3 s':=I3.pins_of fun p hp=>by
   have e:p=(DD,({ cls:=.type "list",data:=.seq its.toArray nn }:Obj)):=by simpa using hp
   subst e
   exact ⟨hD,hDn,hDC,hfs,fun v z=>nomatch z⟩
  have stat:∀{pins':List (Addr×Obj)} {H':Hp},(∀p∈pins',p.1=DD)→(∀b∈fp,H' b=none)→∀b∈fp,FpOk X' pins' H' b:=fun {pins' H'} hp hn b hb=>
   ⟨hn b hb,(ok.exf b hb).1,ok.exfs b hb,.inl hb,(ok.exf b hb).2,fun p hp' z=>by
    have e:p.1=DD:=hp p (by simpa [X',cmpX] using hp')
    exact absurd (hlt' b hb) (by rw [←z,e];exact Nat.lt_irrefl _)⟩
  have one:∀p∈[(DD,({ cls:=.type "list",data:=.seq its.toArray nn }:Obj))],p.1=DD:=fun p hp=>by
   have e:p=(DD,({ cls:=.type "list",data:=.seq its.toArray nn }:Obj)):=by simpa using hp
   rw [e]
  obtain ⟨hz,tr⟩:=turn i n acc σ3 H3 w3
  rcases tr with ⟨stop,qf⟩ | ⟨go,step⟩
  ·refine thn (T.done X' rfl rfl rfl hc i _ s' σ3 H3 (fun _ _=>False) I3p (stat one fr3) st3 stop) fun r s4 ⟨hr,I4⟩=>?_
   subst hr
   obtain ⟨m4,hm4,_⟩:=I4.loc
   have pD:=(I4.pin (DD,({ cls:=.type "list",data:=.seq its.toArray nn }:Obj)) (by simp [X',cmpX])).1
   have I4':Inv X' [] σ3 H3 s4:=I4.pins_of fun p hp=>nomatch hp
   exact fin CC s4 σ3 H3 acc m4 (by rw [hDD] at hCle;exact hCle) (Ne.symm hDC) I4' hDn hz ⟨its,nn,hv,pD⟩ qf hm4
  ·refine thn (T.item X' rfl rfl rfl hc i _ s' σ3 H3 (fun _ _=>False) I3p (stat one fr3) st3 go) fun r s4 ⟨u,hr,h4⟩=>?_
   subst hr
   refine thn h4 fun _ s5 ⟨x,H5,I5,r5,y5,st5,fr5⟩=>?_
   have I5':=I5.pinned (stat one fr5) (T.obj _ _ st5)
   refine thn (hg CC _ s5 σ3 H5 x u _ I5' r5 (step x H5 y5)) fun _ s6 ⟨σ6,H6,I6,q6⟩=>?_
   refine thn (ht CC _ s6 σ6 H6 _ I6 q6) fun b s7 ⟨H7,I7,q7⟩=>?_
   have back:∀{H8:Hp} {s8:Shared},Inv X' ([(DD,({ cls:=.type "list",data:=.seq its.toArray nn }:Obj))]++pinsAt fp s5.heap) σ6 H8 s8→
    s8.heap.get? DD=some { cls:=.type "list",data:=.seq its.toArray nn }∧H8 DD=none∧tn (i + 1) s8.heap∧(∀b∈fp,H8 b=none)∧Inv X' [] σ6 H8 s8:=fun {H8 s8} I8=>by
    have p1:=I8.pin (DD,({ cls:=.type "list",data:=.seq its.toArray nn }:Obj)) (by simp [X',cmpX])
    refine ⟨p1.1,p1.2.1,T.keep _ _ _ st5 fun b hb o e=>(I8.pin (b,o) (List.mem_append_right _ (List.mem_append_right _ (mem_pinsAt hb e)))).1,fun b hb=>?_,I8.pins_of fun p hp=>nomatch hp⟩
    obtain ⟨o,e,_⟩:=T.obj _ _ st5 b hb
    exact (I8.pin (b,o) (List.mem_append_right _ (List.mem_append_right _ (mem_pinsAt hb e)))).2.1
   cases b with
   | false=>
     rw [if_neg Bool.false_ne_true] at q7 ⊢
     obtain ⟨m',hm,w7⟩:=q7
     obtain ⟨a1,a2,a3,a4,a5⟩:=back I7
     exact ⟨m',hm,i + 1,acc,its,nn,σ6,H7,a5,a3,a4,hv,a1,a2,w7⟩
   | true=>
     rw [if_pos rfl] at q7 ⊢
     refine thn (he CC _ s7 σ6 H7 _ I7 q7) fun y s8 ⟨v8,H8,I8,r8,m',hm,w8⟩=>?_
     obtain ⟨a1,a2,a3,a4,a5⟩:=back I8
     have hsz:its.toArray.size≤sizeLine:=by
      have e:=hv.length
      simpa [e] using hz
     refine wpAny_list_append_plain (hsz:=hsz) ⟨nn,a1⟩ fun h9 hl9 hs9=>?_
     obtain ⟨n9,e9⟩:=hl9
     have e9':h9.get? DD=some { cls:=.type "list",data:=.seq (its++[y]).toArray n9 }:=by simpa using e9
     refine ⟨m',hm,i + 1,acc++[v8],its++[y],n9,σ6,H8,a5.turned (t':=s8.toks) (h':=h9) (it:=DD) (fun b o hb e=>hs9.extBut b o hb e) a2 hDC (.inr (show s2.heap.objs.size≤DD by rw [hDD];exact Nat.le_refl _)) (fun x' c e z=>?_) (fun p hp=>nomatch hp),T.keep _ _ _ a3 fun b hb o e=>hs9.extBut b o (Nat.ne_of_lt (hlt' b hb)) e,a4,hv.append (.cons r8 .nil),e9',a2,w8⟩
     obtain ⟨v,o,ho,hd⟩:=I2.cell x' c (e2 x' c e)
     have:=Heap.lt_size ho
     rw [hDD,z] at this
     exact Nat.lt_irrefl _ this
 exact codeAny_compStart_list (loop _ rfl) (T.self _ 0 _ _ _ (T.keep _ _ _ st2 fun b _ o e=>old b o e) (loop _ rfl))
end
end L2
set_option Elab.async false
set_option linter.all false
set_option maxRecDepth 100000
set_option maxHeartbeats 2000000
namespace L2
open PySem PySem.Spec PyProof.Rows
section
variable {X:Cx} {tg elt iter:Expr} {ifs:List Expr} {scope:Scope} {pos:Pos} {N':List Str} {wi:TI} {g:TG} {tt:TT} {te:TE} {σf:St→St}
theorem comp_back {pins:List (Addr×Obj)} {σ σ':St} {H2 H':Hp} {s2 s':Shared} {cl:List (Str×Addr)} {fp:List Addr} {C:Addr} {acc:List V} {its:List Value} {n:Nat} {h':Heap} (I2:Inv X pins σ H2 s2) (f2:∀b∈fp,FpOk X pins H2 b)
 (hC:s2.heap.objs.size≤C) (hCD:C≠s2.heap.objs.size) (I':Inv (cmpX X N' scope cl C s2 H2 fp) [] σ' H' s') (hDn:H' s2.heap.objs.size=none) (hz:acc.length≤sizeLine) (hv:Vals acc its)
 (hD:s'.heap.get? s2.heap.objs.size=some { cls:=.type "list",data:=.seq its.toArray n }) (hs:Heap.SameBut C s'.heap h') :
 Inv X pins σ (upd H' s2.heap.objs.size (.lst acc)) { s' with heap:=h' }:=by
 have U:=I'.base
 have lt:∀b o,s2.heap.get? b=some o→b≠C∧b≠s2.heap.objs.size:=fun b o e=>⟨Nat.ne_of_lt (Nat.lt_of_lt_of_le (Heap.lt_size e) hC),Nat.ne_of_lt (Heap.lt_size e)⟩
 have neD:∀b u,H' b=some u→b≠s2.heap.objs.size:=fun b u e=>ne_of_none e hDn
 have neC:∀b u,H' b=some u→b≠C:=fun b u e=>ne_of_none e I'.free
 refine I2.call' (s':={ s' with heap:=h' }) (ch:=fp) I'.os ⟨fun b o e n hb hx=>?_,fun b o e n hb hx=>?_,fun b o e n hx=>?_,fun b o e hx=>?_,fun b xs e=>?_,fun b o u e=>?_,fun b ps e=>?_⟩ ?_ I'.bare (fun b hb=>⟨(f2 b hb).2.2.2.1,(f2 b hb).2.1,(f2 b hb).2.2.2.2.1,(f2 b hb).2.2.2.2.2⟩) I'.tk
 ·exact hs.extBut b o (lt b o e).1 (U.keep b o e n hb hx)
 ·obtain ⟨sl,q⟩:=U.slot b o e n hb hx
  exact ⟨sl,hs.extBut b _ (lt b o e).1 q⟩
 ·rw [upd_ne (lt b o e).2];exact U.free b o e n hx
 ·obtain ⟨o',q⟩:=U.there b o e hx
  exact ⟨o',hs.extBut b _ (lt b o e).1 q⟩
 ·have q:=U.tups b xs e;rw [upd_ne (neD b _ q)];exact q
 ·have q:=U.frzs b o u e;rw [upd_ne (neD b _ q)];exact q
 ·obtain ⟨m,q⟩:=U.tbls b ps e
  exact ⟨m,by rw [upd_ne (neD b _ q)];exact q⟩
 ·intro b u e
  by_cases hb:b=s2.heap.objs.size
  ·subst hb
   rw [upd_same] at e
   cases e
   exact ⟨hz,its,n,hv,hs.extBut _ _ (Ne.symm hCD) hD⟩
  ·rw [upd_ne hb] at e
   refine (I'.hok b u e).stay (fun c v hc q=>hs.extBut c v ?_ q) (fun c q=>by rw [upd_ne (neD c _ q)];exact q) fun c xs q=>by rw [upd_ne (neD c _ q)];exact q
   rcases hc with z | z
   ·rw [z];exact neC b u e
   ·exact neC c _ z
theorem pe_comp (O:CmpOk X scope N' σf) (hc:X.calm=true) (hi:PI X tg iter wi)
 (hg:∀cl C s2 H2 fp,PG (cmpX X N' scope cl C s2 H2 fp) tg g) (ht:∀cl C s2 H2 fp,PIf (cmpX X N' scope cl C s2 H2 fp) ifs tt) (he:∀cl C s2 H2 fp,PE (cmpX X N' scope cl C s2 H2 fp) elt te)
 (hs:∀x,foldedSetIterable iter X.env x=pure x:=by intro _;rfl):PE X (.ListComp elt [⟨tg,iter,ifs,0⟩] scope pos) (tComp wi g tt te σf):=by
 intro pins s σ H Q I h
 obtain ⟨cl,e1,e2,e4⟩:=closure_of (scope:=scope) (env:=X.env) fun y hy hf=>I.ok.has y.1 (O.free y hy hf)
 rw [eval_ListComp]
 refine wpAny_comprehension_free (use:=none) rfl hs e1 O.kind O.loc (thn (hi pins s σ H _ I h) fun v s1 h1=>thn h1 fun itv s2 h2=>?_)
 obtain ⟨it,fp,tn,J,H2,rfl,I2,T,st2,f2,B⟩:=h2
 refine block_ok (RR:=fun acc C=>compPost (model X.prog X.w) X.A X.xe none (EP X pins σ Q) acc C) O hc I2 T st2 f2 e2 e4 (fun C=>hg cl C s2 H2 fp) (fun C=>ht cl C s2 H2 fp) (fun C=>he cl C s2 H2 fp) B ?_
 intro C s' σ' H' acc m hC hCD I' hDn hz hL fin hn
 obtain ⟨its,n,hv,hD⟩:=hL
 refine ⟨m,hn,fun h' hs'=>?_⟩
 exact ⟨.ref s2.heap.objs.size,upd H' _ (.lst acc),comp_back I2 f2 hC hCD I' hDn hz hv hD hs',rfl,fin _ hDn hz⟩
theorem ps_setC {i:Nat} {y:Str} {py spos:Pos} (O:CmpOk X scope N' σf) (hc:X.calm=true) (hN:X.N.Nodup) (hiN:X.N[i]?=some y) (hx:X.env.scope.names.lookup y=some .local) (hi:PI X tg iter wi)
 (hg:∀cl C s2 H2 fp,PG (cmpX X N' scope cl C s2 H2 fp) tg g) (ht:∀cl C s2 H2 fp,PIf (cmpX X N' scope cl C s2 H2 fp) ifs tt) (he:∀cl C s2 H2 fp,PE (cmpX X N' scope cl C s2 H2 fp) elt te)
 (hsw:swapsWith (.ListComp elt [⟨tg,iter,ifs,0⟩] scope pos) (some (.Name y py)) spos.line X.env=pure true:=by rfl)
 (hs:∀x,foldedSetIterable iter X.env x=pure x:=by intro _;rfl):PS X (.Assign [.Name y py] (.ListComp elt [⟨tg,iter,ifs,0⟩] scope pos) spos) (tAsg (tComp wi g tt te σf) (gName i)):=by
 intro pins s σ H D I h
 obtain ⟨cl,e1,e2,e4⟩:=closure_of (scope:=scope) (env:=X.env) fun y hy hf=>I.ok.has y.1 (O.free y hy hf)
 rw [exec_Assign_Name_used _ _ _ _ hsw]
 refine wpAny_bind (wpAny_standAt (wpAny_bind ?_))
 show wpAny _ X.A (do let _ ←comprehension (.ListComp elt [⟨tg,iter,ifs,0⟩] scope pos) scope X.env _ (newList []) false (eval iter X.env) (some (assign (.Name y py) X.env))) _ _ s
 refine wpAny_bind (thn (wpAny_comprehension_free (use:=some (assign (.Name y py) X.env)) (Q:=fun _ s'=>SP X pins D .next s') rfl hs e1 O.kind O.loc (thn (hi pins s σ H _ I h) fun v s1 h1=>thn h1 fun itv s2 h2=>?_)) (fun _ s' hq=>wpAny_pure (wpAny_pure hq)))
 obtain ⟨it,fp,tn,J,H2,rfl,I2,T,st2,f2,B⟩:=h2
 refine block_ok (RR:=fun acc C=>compPost (model X.prog X.w) X.A X.xe (some (assign (.Name y py) X.env)) (fun _ s'=>SP X pins D .next s') acc C) O hc I2 T st2 f2 e2 e4 (fun C=>hg cl C s2 H2 fp) (fun C=>ht cl C s2 H2 fp) (fun C=>he cl C s2 H2 fp) B ?_
 intro C s' σ' H' acc m hC hCD I' hDn hz hL fin hn
 obtain ⟨its,n,hv,hD⟩:=hL
 show wpAny _ X.A (assign (.Name y py) X.env (.ref s2.heap.objs.size)) _ _ _
 have I3:=comp_back I2 f2 hC hCD I' hDn hz hv hD (Heap.SameBut.refl ..)
 refine wpAny_assign_Name (store_ok2 I3 hN hiN (.inl hx) (v:=.ref s2.heap.objs.size) rfl (fun s4 I4 ⟨a,hsb,ha⟩=>?_) (.inr hx))
 have hCL:C≠X.env.locals:=Nat.ne_of_gt (Nat.lt_of_lt_of_le I2.lt hC)
 have hCc:∀x c,X.env.cells.lookup x=some c→c≠C:=fun x c e z=>by
  obtain ⟨v,q⟩:=I2.cell x c e
  exact absurd (Nat.lt_of_lt_of_le q.lt (by rw [z];exact hC)) (Nat.lt_irrefl _)
 have hCa:C≠a:=by
  rcases ha with z | z
  ·rw [z];exact hCL
  ·exact fun q=>hCc _ _ z q.symm
 refine ⟨m,hn.sameBut hsb hCa,fun h' hs'=>?_⟩
 have hnC:(upd H' s2.heap.objs.size (.lst acc)) C=none:=by rw [upd_ne hCD];exact I'.free
 refine ⟨_,_,I4.turned (t':=s4.toks) (h':=h') (it:=C) (fun b o hb e=>hs'.extBut b o hb e) hnC hCL (.inr (Nat.le_trans I2.sz hC)) hCc (fun p hp z=>?_),fin _ hDn hz⟩
 exact absurd (Nat.lt_of_lt_of_le (Heap.lt_size (I2.pin p hp).1) (by rw [z];exact hC)) (Nat.lt_irrefl _)
end
end L2
set_option Elab.async false
set_option linter.all false
set_option maxRecDepth 100000
set_option maxHeartbeats 2000000
set_option autoImplicit false
namespace F2
open PySem L2 PySem.Spec
inductive D where
 | non | bl (b:Bool) | int (i:Int) | str (x:Str) | tup (xs:List D) | lst (xs:List D) | scr (ns:List Int) | dic | obj (k:Nat) | ty (n:String) | exc (n:Str) (xs:List D)
structure Cf where
 ι:List Addr
 O:Addr→Prop
def Cf.A (c:Cf) (a:Addr):Prop:=a∈c.ι∨c.O a
def Scr (K:PySem.W.Frag) (c:Cf) (H:Hp) (a:Addr) (vs:List V):Prop:=
 ((∃o,H a=some (.frz o (.lst vs)))∧¬c.A a)∨
   ∃(o:Obj) (its:Array Value) (n:Nat),K.lookup a=some o∧o.cls = .type "list"∧o.dict=none∧o.data = .seq its n∧its.size≤sizeLine∧Vals vs its.toList
def XIs (qx:Bool) (x C:Addr) (dx:Option Addr) (h:Heap):Prop:=∃(o:Obj) (vs:Array Value),h.get? x=some o∧o.cls = .ref C∧o.dict=dx∧o.data = .fields vs∧(qx=true→vs[2]?=some .none∧4 < vs.size)
def flds (n:Str):List Str:=if n = "NoTalk" then ["at"] else if n = "Broken" then ["at", "side"] else []
def XFld (c:Cf) (H:Hp) (dx:Option Addr) (ns:List Str) (vs:List V):Prop:=match dx with
 | none=>vs=[]
 | some d=>H d=some (.xd (ns.zip vs))∧¬c.A d
mutual
inductive Rep (K:PySem.W.Frag) (c:Cf) (H:Hp):V→D→Prop where
 | non:Rep K c H .non .non
 | bl (b:Bool):Rep K c H (.bl b) (.bl b)
 | int (i:Int):Rep K c H (.int i) (.int i)
 | str (x:Str):Rep K c H (.str x) (.str x)
 | ty (n:String):Rep K c H (.ty n) (.ty n)
 | tup {a:Addr} {vs:List V} {ds:List D}:H a=some (.tup vs)→¬c.A a→Reps K c H vs ds→Rep K c H (.ref a) (.tup ds)
 | lst {a:Addr} {vs:List V} {ds:List D}:H a=some (.lst vs)→¬c.A a→Reps K c H vs ds→Rep K c H (.ref a) (.lst ds)
 | scr {a:Addr} {ns:List Int}:Scr K c H a (ns.map V.int)→Rep K c H (.ref a) (.scr ns)
 | dic {a:Addr}:H a=some (.dK [])→¬c.A a→Rep K c H (.ref a) .dic
 | obj {a:Addr} {k:Nat}:c.ι[k]?=some a→Rep K c H (.ref a) (.obj k)
 | exc {qx:Bool} {x C:Addr} {dx:Option Addr} {n:Str} {vs:List V} {ds:List D}:PySem.W.nsIn K mainGlobals n=some (some (.ref C))→H x=some (.ext (XIs qx x C dx))→¬c.A x→XFld c H dx (flds n) vs→Reps K c H vs ds→Rep K c H (.ref x) (.exc n ds)
inductive Reps (K:PySem.W.Frag) (c:Cf) (H:Hp):List V→List D→Prop where
 | nil:Reps K c H [] []
 | cons {v:V} {d:D} {vs:List V} {ds:List D}:Rep K c H v d→Reps K c H vs ds→Reps K c H (v :: vs) (d :: ds)
end
structure Ext (c:Cf) (H:Hp) (c':Cf) (H':Hp):Prop where
 keep:∀b o,H b=some o→¬c.A b→H' b=some o
 av:∀b o,H b=some o→c'.A b→c.A b
 io:∀(k:Nat) (a:Addr),c.ι[k]?=some a→c'.ι[k]?=some a
theorem Ext.refl {c:Cf} {H:Hp}:Ext c H c H:=⟨fun _ _ h _=>h,fun _ _ _ h=>h,fun _ _ h=>h⟩
theorem Ext.trans {c c1 c2:Cf} {H H1 H2:Hp} (a:Ext c H c1 H1) (b:Ext c1 H1 c2 H2):Ext c H c2 H2:=by
 refine ⟨fun x o h n=>?_,fun x o h n=>?_,fun k x h=>b.io k x (a.io k x h)⟩
 ·exact b.keep x o (a.keep x o h n) fun z=>n (a.av x o h z)
 ·by_cases q:c.A x
  ·exact q
  ·exact a.av x o h (b.av x o (a.keep x o h q) n)
theorem Scr.mono {K:PySem.W.Frag} {c c':Cf} {H H':Hp} {a:Addr} {vs:List V} (e:Ext c H c' H') (h:Scr K c H a vs):Scr K c' H' a vs:=by
 rcases h with ⟨⟨o,h⟩,n⟩ | h
 ·exact .inl ⟨⟨o,e.keep _ _ h n⟩,fun z=>n (e.av _ _ h z)⟩
 ·exact .inr h
theorem Scr.sq {K:PySem.W.Frag} {c:Cf} {H:Hp} {a:Addr} {vs:List V} (h:Scr K c H a vs):SqL K H a vs:=by
 rcases h with ⟨h,_⟩ | h
 ·exact .inl (.inr h)
 ·exact .inr h
theorem XFld.mono {c c':Cf} {H H':Hp} {dx:Option Addr} {ns:List Str} {vs:List V} (e:Ext c H c' H') (h:XFld c H dx ns vs):XFld c' H' dx ns vs:=by
 cases dx with
 | none=>exact h
 | some d=>exact ⟨e.keep _ _ h.1 h.2,fun z=>h.2 (e.av _ _ h.1 z)⟩
mutual
theorem Rep.mono {K:PySem.W.Frag} {c c':Cf} {H H':Hp} (e:Ext c H c' H'):∀{v:V} {d:D},Rep K c H v d→Rep K c' H' v d
 | _,_,.non=>.non
 | _,_,.bl b=>.bl b
 | _,_,.int i=>.int i
 | _,_,.str x=>.str x
 | _,_,.ty n=>.ty n
 | _,_,.tup h n r=>.tup (e.keep _ _ h n) (fun z=>n (e.av _ _ h z)) (Reps.mono e r)
 | _,_,.lst h n r=>.lst (e.keep _ _ h n) (fun z=>n (e.av _ _ h z)) (Reps.mono e r)
 | _,_,.scr h=>.scr (h.mono e)
 | _,_,.dic h n=>.dic (e.keep _ _ h n) (fun z=>n (e.av _ _ h z))
 | _,_,.obj h=>.obj (e.io _ _ h)
 | _,_,.exc g h n f r=>.exc g (e.keep _ _ h n) (fun z=>n (e.av _ _ h z)) (f.mono e) (Reps.mono e r)
theorem Reps.mono {K:PySem.W.Frag} {c c':Cf} {H H':Hp} (e:Ext c H c' H'):∀{vs:List V} {ds:List D},Reps K c H vs ds→Reps K c' H' vs ds
 | _,_,.nil=>.nil
 | _,_,.cons h t=>.cons (Rep.mono e h) (Reps.mono e t)
end
section
variable {K:PySem.W.Frag} {c:Cf} {H:Hp}
theorem Reps.length:∀{vs:List V} {ds:List D},Reps K c H vs ds→vs.length=ds.length
 | _,_,.nil=>rfl
 | _,_,.cons _ t=>by simp [Reps.length t]
theorem Reps.get:∀{vs:List V} {ds:List D} {i:Nat} {v:V} {d:D},Reps K c H vs ds→vs[i]?=some v→ds[i]?=some d→Rep K c H v d
 | _,_,_,_,_,.nil,e,_=>by simp at e
 | _,_,0,_,_,.cons r _,e,e'=>by simp at e e';subst e e';exact r
 | _,_,i + 1,_,_,.cons _ t,e,e'=>Reps.get (i:=i) t (by simpa using e) (by simpa using e')
theorem Reps.at:∀{vs:List V} {ds:List D} {i:Nat} {d:D},Reps K c H vs ds→ds[i]?=some d→∃v,vs[i]?=some v∧Rep K c H v d
 | _,_,_,_,.nil,e=>by simp at e
 | _,_,0,_,.cons r _,e=>by simp at e;subst e;exact ⟨_,rfl,r⟩
 | _,_,i + 1,_,.cons _ t,e=>by
   obtain ⟨v,h1,h2⟩:=Reps.at (i:=i) t (by simpa using e)
   exact ⟨v,by simpa using h1,h2⟩
theorem Reps.append:∀{vs ws:List V} {ds es:List D},Reps K c H vs ds→Reps K c H ws es→Reps K c H (vs++ws) (ds++es)
 | _,_,_,_,.nil,s=>s
 | _,_,_,_,.cons r t,s=>.cons r (Reps.append t s)
theorem Reps.take:∀{vs:List V} {ds:List D} (n:Nat),Reps K c H vs ds→Reps K c H (vs.take n) (ds.take n)
 | _,_,0,_=>.nil
 | _,_,_ + 1,.nil=>.nil
 | _,_,n + 1,.cons r t=>.cons r (Reps.take n t)
theorem Reps.drop:∀{vs:List V} {ds:List D} (n:Nat),Reps K c H vs ds→Reps K c H (vs.drop n) (ds.drop n)
 | _,_,0,r=>r
 | _,_,_ + 1,.nil=>.nil
 | _,_,n + 1,.cons _ t=>Reps.drop n t
theorem Reps.set {v:V} {d:D} (r:Rep K c H v d):∀{vs:List V} {ds:List D} (i:Nat),Reps K c H vs ds→Reps K c H (vs.set i v) (ds.set i d)
 | _,_,_,.nil=>.nil
 | _,_,0,.cons _ t=>.cons r t
 | _,_,i + 1,.cons q t=>.cons q (Reps.set r i t)
theorem Reps.ints:∀ns:List Int,Reps K c H (ns.map V.int) (ns.map D.int)
 | []=>.nil
 | n :: r=>.cons (.int n) (Reps.ints r)
theorem Reps.rep {vs:List V} {ds:List D} (h:Reps K c H vs ds):∀k:Nat,Reps K c H (List.replicate k vs).flatten (List.replicate k ds).flatten
 | 0=>.nil
 | k + 1=>by
   rw [List.replicate_succ,List.replicate_succ,List.flatten_cons,List.flatten_cons]
   exact h.append (Reps.rep h k)
end
inductive Ob where
 | lst (xs:List D)
 | dct (kvs:List (Key×D))
 | ins (n:Str) (fs:List (Str×D))
inductive Sl where
 | val (d:D)
 | own (xs:List D)
structure T where
 env:List (Option Sl)
 S:List Ob
def KVR (K:PySem.W.Frag) (c:Cf) (H:Hp):List (Key×V)→List (Key×D)→Prop:=Paired fun p q=>p.1=q.1∧Rep K c H p.2 q.2
def clsN:List Str:=["Reader", "Side", "Lasting", "Parley", "Listener", "Relay", "Desk"]
def atN:List Str:=["grammar", "standing", "wires", "places", "side", "said", "taken", "handed", "left", "right", "under_way", "grammars", "standings", "heard", "left_grammar", "right_grammar", "rows", "pair", "broken", "parley"]
def FldR (K:PySem.W.Frag) (c:Cf) (H:Hp):List (Str×V)→List (Str×D)→Prop:=Paired fun p q=>p.1=q.1∧Rep K c H p.2 q.2
def ObR (K:PySem.W.Frag) (c:Cf) (H:Hp) (a:Addr):Ob→Prop
 | .lst ds=>∃vs,H a=some (.lst vs)∧Reps K c H vs ds
 | .dct kvs=>∃us,H a=some (.dK us)∧KVR K c H us kvs
 | .ins n fs=>(n∈clsN∧∀p∈fs,p.1∈atN)∧∃C dx us,PySem.W.nsIn K mainGlobals n=some (some (.ref C))∧H a=some (.ins C dx us)∧FldR K c H us fs
theorem ObR.mono {K:PySem.W.Frag} {c c':Cf} {H H':Hp} {a:Addr} {o:Ob} (e:Ext c H c' H') (h:ObR K c H a o) (ha:H' a=H a):ObR K c' H' a o:=by
 cases o with
 | lst ds=>obtain ⟨vs,h1,h2⟩:=h;exact ⟨vs,ha.trans h1,h2.mono e⟩
 | dct kvs=>obtain ⟨us,h1,h2⟩:=h;exact ⟨us,ha.trans h1,Paired.mapP h2 fun _ _ z=>⟨z.1,z.2.mono e⟩⟩
 | ins n fs=>obtain ⟨h0,C,dx,us,g,h1,h2⟩:=h;exact ⟨h0,C,dx,us,g,ha.trans h1,Paired.mapP h2 fun _ _ z=>⟨z.1,z.2.mono e⟩⟩
theorem ObR.some {K:PySem.W.Frag} {c:Cf} {H:Hp} {a:Addr} {o:Ob} (h:ObR K c H a o):∃u,H a=some u:=by
 cases o with
 | lst ds=>obtain ⟨vs,h1,_⟩:=h;exact ⟨_,h1⟩
 | dct kvs=>obtain ⟨us,h1,_⟩:=h;exact ⟨_,h1⟩
 | ins n fs=>obtain ⟨_,_,_,_,_,h1,_⟩:=h;exact ⟨_,h1⟩
structure SInv (K:PySem.W.Frag) (c:Cf) (S:List Ob) (H:Hp):Prop where
 len:c.ι.length=S.length
 nd:c.ι.Nodup
 obs:∀(k:Nat) (a:Addr) (o:Ob),c.ι[k]?=some a→S[k]?=some o→ObR K c H a o
 trk:∀b,c.O b→∃o,H b=some o
 dis:∀b,c.O b→b∉c.ι
theorem SInv.trkA {K:PySem.W.Frag} {c:Cf} {S:List Ob} {H:Hp} (s:SInv K c S H) {b:Addr} (h:c.A b):∃o,H b=some o:=by
 rcases h with h | h
 ·obtain ⟨k,hk,e⟩:=List.mem_iff_getElem.mp h
  have e1:c.ι[k]?=some b:=by rw [List.getElem?_eq_getElem hk,e]
  have hk':k < S.length:=by rw [←s.len];exact hk
  exact (s.obs k b _ e1 (List.getElem?_eq_getElem hk')).some
 ·exact s.trk b h
theorem SInv.free {K:PySem.W.Frag} {c:Cf} {S:List Ob} {H:Hp} (s:SInv K c S H) {b:Addr} (h:H b=none):¬c.A b:=fun z=>by
 obtain ⟨o,e⟩:=s.trkA z
 rw [h] at e;cases e
structure FInv (K:PySem.W.Frag) (Oo:Addr→Prop) (c:Cf) (t:T) (σ:St) (H:Hp):Prop where
 s:SInv K c t.S H
 len:t.env.length=σ.length
 sub:∀b,Oo b→c.O b
 val:∀(i:Nat) (d:D),t.env[i]?=some (some (.val d))→∃v,σ[i]?=some (some v)∧Rep K c H v d
 own:∀(i:Nat) (ds:List D),t.env[i]?=some (some (.own ds))→∃a vs,σ[i]?=some (some (.ref a))∧c.O a∧¬Oo a∧H a=some (.lst vs)∧Reps K c H vs ds
 inj:∀(i j:Nat) (ds es:List D) (a:Addr),t.env[i]?=some (some (.own ds))→t.env[j]?=some (some (.own es))→σ[i]?=some (some (.ref a))→σ[j]?=some (some (.ref a))→i=j
structure Stp (Oo:Addr→Prop) (c:Cf) (H:Hp) (c':Cf) (H':Hp):Prop where
 ext:Ext c H c' H'
 oo:∀b,Oo b→H' b=H b
theorem Stp.refl {Oo:Addr→Prop} {c:Cf} {H:Hp}:Stp Oo c H c H:=⟨.refl,fun _ _=>rfl⟩
theorem Stp.trans {Oo:Addr→Prop} {c c1 c2:Cf} {H H1 H2:Hp} (a:Stp Oo c H c1 H1) (b:Stp Oo c1 H1 c2 H2):Stp Oo c H c2 H2:=
 ⟨a.ext.trans b.ext,fun x h=>(b.oo x h).trans (a.oo x h)⟩
section
variable {K:PySem.W.Frag} {Oo:Addr→Prop} {c:Cf} {t:T} {σ:St} {H:Hp}
theorem Ext.laid {S:List Ob} (s:SInv K c S H) {p:Addr} {o:HO} (h:H p=none):Ext c H c (upd H p o):=
 ⟨fun b u e _=>by rw [upd_ne (ne_of_none e h)];exact e,fun _ _ _ z=>z,fun _ _ e=>e⟩
theorem SInv.laid {S:List Ob} (s:SInv K c S H) {p:Addr} {o:HO} (h:H p=none):SInv K c S (upd H p o):=
 ⟨s.len,s.nd,fun k a u e1 e2=>by
  have q:=s.obs k a u e1 e2
  obtain ⟨w,hw⟩:=q.some
  exact q.mono (Ext.laid s h) (upd_ne (ne_of_none hw h)),
  fun b z=>by obtain ⟨u,e⟩:=s.trk b z;exact ⟨u,by rw [upd_ne (ne_of_none e h)];exact e⟩,s.dis⟩
theorem FInv.laid (f:FInv K Oo c t σ H) {p:Addr} {o:HO} (h:H p=none):FInv K Oo c t σ (upd H p o):=by
 have e:=Ext.laid (o:=o) f.s h
 refine ⟨f.s.laid h,f.len,f.sub,fun i d q=>?_,fun i ds q=>?_,f.inj⟩
 ·obtain ⟨v,h1,h2⟩:=f.val i d q
  exact ⟨v,h1,h2.mono e⟩
 ·obtain ⟨a,vs,h1,h2,h3,h4,h5⟩:=f.own i ds q
  exact ⟨a,vs,h1,h2,h3,by rw [upd_ne (ne_of_none h4 h)];exact h4,h5.mono e⟩
theorem FInv.stp_laid (f:FInv K Oo c t σ H) {p:Addr} {o:HO} (h:H p=none):Stp Oo c H c (upd H p o):=
 ⟨Ext.laid f.s h,fun b z=>by obtain ⟨u,e⟩:=f.s.trk b (f.sub b z);exact upd_ne (ne_of_none e h)⟩
theorem FInv.set (f:FInv K Oo c t σ H) {i:Nat} {v:V} {d:D} (r:Rep K c H v d):FInv K Oo c { t with env:=t.env.set i (some (.val d)) } (σ.set i (some v)) H:=by
 have neq:∀{j:Nat} {x:Sl},(t.env.set i (some (.val d)))[j]?=some (some x)→(j=i∧x = .val d∧j < t.env.length)∨(j≠i∧t.env[j]?=some (some x)):=fun {j x} q=>by
  by_cases h:j=i
  ·subst h
   rw [List.getElem?_set] at q
   split at q
   ·split at q
    ·next h1=>injection q with q;injection q with q;exact .inl ⟨rfl,q.symm,h1⟩
    ·cases q
   ·next h1=>exact absurd rfl h1
  ·rw [List.getElem?_set_ne (Ne.symm h)] at q
   exact .inr ⟨h,q⟩
 refine ⟨f.s,by simp [f.len],f.sub,fun j e q=>?_,fun j ds q=>?_,fun j k ds es a q1 q2 q3 q4=>?_⟩
 ·rcases neq q with ⟨rfl,z,hl⟩ | ⟨h,q⟩
  ·cases z
   exact ⟨v,by rw [List.getElem?_set_self (by rw [←f.len];exact hl)],r⟩
  ·obtain ⟨u,h1,h2⟩:=f.val j e q
   exact ⟨u,by rw [List.getElem?_set_ne (Ne.symm h)];exact h1,h2⟩
 ·rcases neq q with ⟨rfl,z,_⟩ | ⟨h,q⟩
  ·cases z
  ·obtain ⟨a,vs,h1,h2⟩:=f.own j ds q
   exact ⟨a,vs,by rw [List.getElem?_set_ne (Ne.symm h)];exact h1,h2⟩
 ·rcases neq q1 with ⟨_,z,_⟩ | ⟨h,q1⟩
  ·cases z
  rcases neq q2 with ⟨_,z,_⟩ | ⟨h',q2⟩
  ·cases z
  rw [List.getElem?_set_ne (Ne.symm h)] at q3
  rw [List.getElem?_set_ne (Ne.symm h')] at q4
  exact f.inj j k ds es a q1 q2 q3 q4
theorem FInv.setOwn (f:FInv K Oo c t σ H) {i:Nat} {p:Addr} {vs:List V} {ds:List D} (h:H p=none) (r:Reps K c H vs ds) :
 ∃c',FInv K Oo c' { t with env:=t.env.set i (some (.own ds)) } (σ.set i (some (.ref p))) (upd H p (.lst vs))∧Stp Oo c H c' (upd H p (.lst vs)):=by
 let c':Cf:=⟨c.ι,fun b=>c.O b∨b=p⟩
 have nA:¬c.A p:=f.s.free h
 have ext:Ext c H c' (upd H p (.lst vs)):=by
  refine ⟨fun b u e _=>by rw [upd_ne (ne_of_none e h)];exact e,fun b u e z=>?_,fun _ _ e=>e⟩
  rcases z with z | z | z
  ·exact .inl z
  ·exact .inr z
  ·subst z;rw [h] at e;cases e
 have stp:Stp Oo c H c' (upd H p (.lst vs)):=⟨ext,fun b z=>by obtain ⟨u,e⟩:=f.s.trk b (f.sub b z);exact upd_ne (ne_of_none e h)⟩
 have sinv:SInv K c' t.S (upd H p (.lst vs)):=by
  refine ⟨f.s.len,f.s.nd,fun k a u e1 e2=>?_,fun b z=>?_,fun b z hb=>?_⟩
  ·have q:=f.s.obs k a u e1 e2
   obtain ⟨w,hw⟩:=q.some
   exact q.mono ext (upd_ne (ne_of_none hw h))
  ·rcases z with z | z
   ·obtain ⟨u,e⟩:=f.s.trk b z;exact ⟨u,by rw [upd_ne (ne_of_none e h)];exact e⟩
   ·subst z;exact ⟨_,upd_same⟩
  ·rcases z with z | z
   ·exact f.s.dis b z hb
   ·subst z;exact nA (.inl hb)
 have neq:∀{j:Nat} {x:Sl},(t.env.set i (some (.own ds)))[j]?=some (some x)→(j=i∧x = .own ds∧j < t.env.length)∨(j≠i∧t.env[j]?=some (some x)):=fun {j x} q=>by
  by_cases h:j=i
  ·subst h
   rw [List.getElem?_set] at q
   split at q
   ·split at q
    ·next h1=>injection q with q;injection q with q;exact .inl ⟨rfl,q.symm,h1⟩
    ·cases q
   ·next h1=>exact absurd rfl h1
  ·rw [List.getElem?_set_ne (Ne.symm h)] at q
   exact .inr ⟨h,q⟩
 have fresh:∀(j:Nat) (es:List D),t.env[j]?=some (some (.own es))→σ[j]?≠some (some (.ref p)):=fun j es q z=>by
  obtain ⟨a,vs',h1,_,_,h4,_⟩:=f.own j es q
  rw [h1] at z;injection z with z;injection z with z;injection z with z;subst z;rw [h] at h4;cases h4
 refine ⟨c',⟨sinv,by simp [f.len],fun b z=>.inl (f.sub b z),fun j e q=>?_,fun j es q=>?_,fun j k ds' es a q1 q2 q3 q4=>?_⟩,stp⟩
 ·rcases neq q with ⟨_,z,_⟩ | ⟨hn,q⟩
  ·cases z
  ·obtain ⟨u,h1,h2⟩:=f.val j e q
   exact ⟨u,by rw [List.getElem?_set_ne (Ne.symm hn)];exact h1,h2.mono ext⟩
 ·rcases neq q with ⟨rfl,z,hl⟩ | ⟨hn,q⟩
  ·cases z
   refine ⟨p,vs,by rw [List.getElem?_set_self (by rw [←f.len];exact hl)],.inr rfl,fun z=>?_,upd_same,r.mono ext⟩
   obtain ⟨u,e⟩:=f.s.trk p (f.sub p z)
   rw [h] at e;cases e
  ·obtain ⟨a,ws,h1,h2,h3,h4,h5⟩:=f.own j es q
   exact ⟨a,ws,by rw [List.getElem?_set_ne (Ne.symm hn)];exact h1,.inl h2,h3,by rw [upd_ne (ne_of_none h4 h)];exact h4,h5.mono ext⟩
 ·rcases neq q1 with ⟨z1,z2,l1⟩ | ⟨n1,r1⟩
  ·rcases neq q2 with ⟨y1,_,_⟩ | ⟨n2,r2⟩
   ·rw [z1,y1]
   ·subst z1
    rw [List.getElem?_set_self (by rw [←f.len];exact l1)] at q3
    injection q3 with q3;injection q3 with q3;injection q3 with q3;subst q3
    rw [List.getElem?_set_ne (Ne.symm n2)] at q4
    exact absurd q4 (fresh k es r2)
  ·rcases neq q2 with ⟨y1,y2,l2⟩ | ⟨n2,r2⟩
   ·subst y1
    rw [List.getElem?_set_self (by rw [←f.len];exact l2)] at q4
    injection q4 with q4;injection q4 with q4;injection q4 with q4;subst q4
    rw [List.getElem?_set_ne (Ne.symm n1)] at q3
    exact absurd q3 (fresh j ds' r1)
   ·rw [List.getElem?_set_ne (Ne.symm n1)] at q3
    rw [List.getElem?_set_ne (Ne.symm n2)] at q4
    exact f.inj j k ds' es a r1 r2 q3 q4
theorem FInv.frz (f:FInv K Oo c t σ H) {i:Nat} {ds:List D} (q:t.env[i]?=some (some (.own ds))) :
 ∃c' v,FInv K Oo c' { t with env:=t.env.set i (some (.val (.lst ds))) } σ H∧Stp Oo c H c' H∧σ[i]?=some (some v)∧Rep K c' H v (.lst ds):=by
 obtain ⟨a,vs,h1,h2,h3,h4,h5⟩:=f.own i ds q
 let c':Cf:=⟨c.ι,fun b=>c.O b∧b≠a⟩
 have ext:Ext c H c' H:=⟨fun _ _ e _=>e,fun b u e z=>z.elim .inl fun w=>.inr w.1,fun _ _ e=>e⟩
 have sinv:SInv K c' t.S H:=⟨f.s.len,f.s.nd,fun k b u e1 e2=>(f.s.obs k b u e1 e2).mono ext rfl,fun b z=>f.s.trk b z.1,fun b z=>f.s.dis b z.1⟩
 have nA:¬c'.A a:=fun z=>z.elim (fun w=>f.s.dis a h2 w) fun w=>w.2 rfl
 have hσ:σ.set i (some (.ref a))=σ:=by
  apply List.ext_getElem?
  intro j
  by_cases hj:j=i
  ·subst hj
   rw [List.getElem?_set_self (by have:=(List.getElem?_eq_some_iff.mp h1).1;exact this),h1]
  ·rw [List.getElem?_set_ne (Ne.symm hj)]
 have r:Rep K c' H (.ref a) (.lst ds):=.lst h4 nA (h5.mono ext)
 have f0:FInv K Oo c' { t with env:=t.env.set i (some (.val (.lst ds))) } σ H:=by
  have neq:∀{j:Nat} {x:Sl},(t.env.set i (some (.val (.lst ds))))[j]?=some (some x)→(j=i∧x = .val (.lst ds))∨(j≠i∧t.env[j]?=some (some x)):=fun {j x} q=>by
   by_cases h:j=i
   ·subst h
    rw [List.getElem?_set] at q
    split at q
    ·split at q
     ·injection q with q;injection q with q;exact .inl ⟨rfl,q.symm⟩
     ·cases q
    ·next h1=>exact absurd rfl h1
   ·rw [List.getElem?_set_ne (Ne.symm h)] at q
    exact .inr ⟨h,q⟩
  refine ⟨sinv,by simp [f.len],fun b z=>⟨f.sub b z,fun w=>h3 (w ▸ z)⟩,fun j e q'=>?_,fun j es q'=>?_,fun j k ds' es b q1 q2 q3 q4=>?_⟩
  ·rcases neq q' with ⟨rfl,z⟩ | ⟨hn,q'⟩
   ·cases z;exact ⟨_,h1,r⟩
   ·obtain ⟨u,w1,w2⟩:=f.val j e q'
    exact ⟨u,w1,w2.mono ext⟩
  ·rcases neq q' with ⟨_,z⟩ | ⟨hn,q'⟩
   ·cases z
   ·obtain ⟨b,ws,w1,w2,w3,w4,w5⟩:=f.own j es q'
    refine ⟨b,ws,w1,⟨w2,fun z=>?_⟩,w3,w4,w5.mono ext⟩
    subst z
    exact hn (f.inj j i es ds b q' q w1 h1)
  ·rcases neq q1 with ⟨_,z⟩ | ⟨_,q1⟩
   ·cases z
   rcases neq q2 with ⟨_,z⟩ | ⟨_,q2⟩
   ·cases z
   exact f.inj j k ds' es b q1 q2 q3 q4
 exact ⟨c',_,f0,⟨ext,fun _ _=>rfl⟩,h1,r⟩
theorem FInv.wrOwn (f:FInv K Oo c t σ H) {i:Nat} {ds ds':List D} {vs':List V} {a:Addr} (q:t.env[i]?=some (some (.own ds))) (h1:σ[i]?=some (some (.ref a))) (r:Reps K c H vs' ds') :
 FInv K Oo c { t with env:=t.env.set i (some (.own ds')) } σ (upd H a (.lst vs'))∧Stp Oo c H c (upd H a (.lst vs')):=by
 obtain ⟨a',vs,g1,h2,h3,h4,h5⟩:=f.own i ds q
 rw [h1] at g1;injection g1 with g1;injection g1 with g1;injection g1 with g1;subst g1
 have ext:Ext c H c (upd H a (.lst vs')):=⟨fun b u e n=>by rw [upd_ne (fun (z:b=a)=>n (.inr (by rw [z];exact h2)))];exact e,fun _ _ _ z=>z,fun _ _ e=>e⟩
 have stp:Stp Oo c H c (upd H a (.lst vs')):=⟨ext,fun b z=>upd_ne fun w=>h3 (w ▸ z)⟩
 have sinv:SInv K c t.S (upd H a (.lst vs')):=by
  refine ⟨f.s.len,f.s.nd,fun k b u e1 e2=>(f.s.obs k b u e1 e2).mono ext (upd_ne fun z=>f.s.dis a h2 (z ▸ List.mem_of_getElem? e1)),fun b z=>?_,f.s.dis⟩
  by_cases hb:b=a
  ·subst hb;exact ⟨_,upd_same⟩
  ·obtain ⟨u,e⟩:=f.s.trk b z;exact ⟨u,by rw [upd_ne hb];exact e⟩
 have neq:∀{j:Nat} {x:Sl},(t.env.set i (some (.own ds')))[j]?=some (some x)→(j=i∧x = .own ds')∨(j≠i∧t.env[j]?=some (some x)):=fun {j x} q=>by
  by_cases h:j=i
  ·subst h
   rw [List.getElem?_set] at q
   split at q
   ·split at q
    ·injection q with q;injection q with q;exact .inl ⟨rfl,q.symm⟩
    ·cases q
   ·next h1=>exact absurd rfl h1
  ·rw [List.getElem?_set_ne (Ne.symm h)] at q
   exact .inr ⟨h,q⟩
 refine ⟨⟨sinv,by simp [f.len],f.sub,fun j e q'=>?_,fun j es q'=>?_,fun j k es es' b q1 q2 q3 q4=>?_⟩,stp⟩
 ·rcases neq q' with ⟨_,z⟩ | ⟨_,q'⟩
  ·cases z
  ·obtain ⟨u,w1,w2⟩:=f.val j e q'
   exact ⟨u,w1,w2.mono ext⟩
 ·rcases neq q' with ⟨rfl,z⟩ | ⟨hn,q'⟩
  ·cases z;exact ⟨a,vs',h1,h2,h3,upd_same,r.mono ext⟩
  ·obtain ⟨b,ws,w1,w2,w3,w4,w5⟩:=f.own j es q'
   have hb:b≠a:=fun z=>by subst z;exact hn (f.inj j i es ds b q' q w1 h1)
   exact ⟨b,ws,w1,w2,w3,by rw [upd_ne hb];exact w4,w5.mono ext⟩
 ·have old:∀{j:Nat} {x:List D},(t.env.set i (some (.own ds')))[j]?=some (some (.own x))→∃y,t.env[j]?=some (some (.own y)):=fun {j x} q'=>by
   rcases neq q' with ⟨rfl,_⟩ | ⟨_,q'⟩
   ·exact ⟨ds,q⟩
   ·exact ⟨x,q'⟩
  obtain ⟨y1,z1⟩:=old q1
  obtain ⟨y2,z2⟩:=old q2
  exact f.inj j k y1 y2 b z1 z2 q3 q4
theorem FInv.wrObj (f:FInv K Oo c t σ H) {k:Nat} {a:Addr} {o:Ob} {u:HO} (e:c.ι[k]?=some a) (r:∀c' H',Ext c H c' H'→H' a=some u→ObR K c' H' a o) :
 FInv K Oo c { t with S:=t.S.set k o } σ (upd H a u)∧Stp Oo c H c (upd H a u):=by
 have hA:a∈c.ι:=List.mem_of_getElem? e
 have ext:Ext c H c (upd H a u):=⟨fun b w h n=>by rw [upd_ne (fun (z:b=a)=>n (.inl (by rw [z];exact hA)))];exact h,fun _ _ _ z=>z,fun _ _ e=>e⟩
 have neO:∀b,c.O b→b≠a:=fun b z w=>f.s.dis b z (w ▸ hA)
 have stp:Stp Oo c H c (upd H a u):=⟨ext,fun b z=>upd_ne (neO b (f.sub b z))⟩
 have sinv:SInv K c (t.S.set k o) (upd H a u):=by
  refine ⟨by simp [f.s.len],f.s.nd,fun j b o' e1 e2=>?_,fun b z=>?_,f.s.dis⟩
  ·by_cases hj:j=k
   ·subst hj
    rw [e] at e1;cases e1
    have hl:j < t.S.length:=by rw [←f.s.len];exact (List.getElem?_eq_some_iff.mp e).1
    rw [List.getElem?_set_self hl] at e2;cases e2
    exact r c _ ext upd_same
   ·rw [List.getElem?_set_ne (Ne.symm hj)] at e2
    refine (f.s.obs j b o' e1 e2).mono ext (upd_ne fun z=>?_)
    subst z
    obtain ⟨l1,g1⟩:=List.getElem?_eq_some_iff.mp e1
    obtain ⟨l2,g2⟩:=List.getElem?_eq_some_iff.mp e
    exact hj ((List.getElem_inj f.s.nd).mp (g1.trans g2.symm))
  ·obtain ⟨w,h⟩:=f.s.trk b z;exact ⟨w,by rw [upd_ne (neO b z)];exact h⟩
 refine ⟨⟨sinv,f.len,f.sub,fun i d q=>?_,fun i ds q=>?_,f.inj⟩,stp⟩
 ·obtain ⟨v,h1,h2⟩:=f.val i d q
  exact ⟨v,h1,h2.mono ext⟩
 ·obtain ⟨b,vs,h1,h2,h3,h4,h5⟩:=f.own i ds q
  exact ⟨b,vs,h1,h2,h3,by rw [upd_ne (neO b h2)];exact h4,h5.mono ext⟩
theorem FInv.newObj (f:FInv K Oo c t σ H) {p:Addr} {o:Ob} {u:HO} (h:H p=none) (r:∀c' H',Ext c H c' H'→H' p=some u→ObR K c' H' p o) :
 ∃c',FInv K Oo c' { t with S:=t.S++[o] } σ (upd H p u)∧Stp Oo c H c' (upd H p u)∧c'.ι[t.S.length]?=some p:=by
 let c':Cf:=⟨c.ι++[p],c.O⟩
 have nA:¬c.A p:=f.s.free h
 have ext:Ext c H c' (upd H p u):=by
  refine ⟨fun b w e _=>by rw [upd_ne (ne_of_none e h)];exact e,fun b w e z=>?_,fun k a e=>?_⟩
  ·rcases z with z | z
   ·rcases List.mem_append.mp z with z | z
    ·exact .inl z
    ·rw [List.mem_singleton] at z;subst z;rw [h] at e;cases e
   ·exact .inr z
  ·show (c.ι++[p])[k]?=some a
   rw [List.getElem?_append_left (List.getElem?_eq_some_iff.mp e).1];exact e
 have stp:Stp Oo c H c' (upd H p u):=⟨ext,fun b z=>by obtain ⟨w,e⟩:=f.s.trk b (f.sub b z);exact upd_ne (ne_of_none e h)⟩
 have at_:(c.ι++[p])[t.S.length]?=some p:=by rw [←f.s.len,List.getElem?_append_right (Nat.le_refl _)];simp
 have sinv:SInv K c' (t.S++[o]) (upd H p u):=by
  refine ⟨by simp [c',f.s.len],?_,fun j b o' e1 e2=>?_,fun b z=>?_,fun b z hb=>?_⟩
  ·show (c.ι++[p]).Nodup
   exact List.nodup_append.mpr ⟨f.s.nd,by simp,fun x hx y hy z=>by rw [List.mem_singleton] at hy;subst z;subst hy;exact nA (.inl hx)⟩
  ·have hlt:j < (t.S++[o]).length:=(List.getElem?_eq_some_iff.mp e2).1
   by_cases hj:j < t.S.length
   ·have e1':c.ι[j]?=some b:=by
     have q:(c.ι++[p])[j]?=some b:=e1
     rw [List.getElem?_append_left (by rw [f.s.len];exact hj)] at q;exact q
    rw [List.getElem?_append_left hj] at e2
    have q:=f.s.obs j b o' e1' e2
    obtain ⟨w,hw⟩:=q.some
    exact q.mono ext (upd_ne (ne_of_none hw h))
   ·have hj':j=t.S.length:=by simp at hlt;omega
    subst hj'
    rw [at_] at e1;cases e1
    rw [List.getElem?_append_right (Nat.le_refl _)] at e2
    simp at e2;subst e2
    exact r c' _ ext upd_same
  ·obtain ⟨w,e⟩:=f.s.trk b z;exact ⟨w,by rw [upd_ne (ne_of_none e h)];exact e⟩
  ·rcases List.mem_append.mp hb with w | w
   ·exact f.s.dis b z w
   ·rw [List.mem_singleton] at w;subst w;exact nA (.inr z)
 refine ⟨c',⟨sinv,f.len,f.sub,fun i d q=>?_,fun i ds q=>?_,f.inj⟩,stp,at_⟩
 ·obtain ⟨v,h1,h2⟩:=f.val i d q
  exact ⟨v,h1,h2.mono ext⟩
 ·obtain ⟨b,vs,h1,h2,h3,h4,h5⟩:=f.own i ds q
  exact ⟨b,vs,h1,h2,h3,by rw [upd_ne (ne_of_none h4 h)];exact h4,h5.mono ext⟩
theorem FInv.after (f:FInv K Oo c t σ H) {c':Cf} {S':List Ob} {H':Hp} (s:SInv K c' S' H') (st:Stp c.O c H c' H') (ho:∀b,c'.O b↔c.O b):FInv K Oo c' { t with S:=S' } σ H'∧Stp Oo c H c' H':=by
 refine ⟨⟨s,f.len,fun b z=>(ho b).mpr (f.sub b z),fun i d q=>?_,fun i ds q=>?_,f.inj⟩,st.ext,fun b z=>st.oo b (f.sub b z)⟩
 ·obtain ⟨v,h1,h2⟩:=f.val i d q
  exact ⟨v,h1,h2.mono st.ext⟩
 ·obtain ⟨b,vs,h1,h2,h3,h4,h5⟩:=f.own i ds q
  exact ⟨b,vs,h1,(ho b).mpr h2,h3,(st.oo b h2).trans h4,h5.mono st.ext⟩
end
end F2
set_option Elab.async false
set_option linter.all false
set_option maxRecDepth 100000
set_option maxHeartbeats 2000000
set_option autoImplicit false
namespace F2
open PySem L2 PySem.Spec
abbrev M (α:Type):=T→Option (α×T)
inductive Out where
 | next | brk | cont | ret (d:D)
def ret {α:Type} (a:α):M α:=fun t=>some (a,t)
def fail {α:Type}:M α:=fun _=>none
def bnd {α β:Type} (f:M α) (g:α→M β):M β:=fun t=>match f t with
 | some (a,t1)=>g a t1
 | none=>none
theorem bnd_some {α β:Type} {f:M α} {g:α→M β} {t:T} {z:β×T} (h:bnd f g t=some z):∃a t1,f t=some (a,t1)∧g a t1=some z:=by
 unfold bnd at h
 cases e:f t with
 | none=>rw [e] at h;cases h
 | some p=>obtain ⟨a,t1⟩:=p;rw [e] at h;exact ⟨a,t1,rfl,h⟩
def LIM:Nat:=100000
theorem LIM_le:LIM≤sizeLine:=by unfold LIM;decide
theorem LIM_lt:LIM < sizeLine:=by unfold LIM;decide
section
variable (K:PySem.W.Frag)
inductive RE (f:M D) (σ:L2.St) (H:Hp) (Q:VK):Prop where
 | mk (Oo:Addr→Prop) (c:Cf) (t:T) (fi:FInv K Oo c t σ H) (r:D) (t':T) (e:f t=some (r,t')) (k:∀v H' c',FInv K Oo c' t' σ H'→Stp Oo c H c' H'→Rep K c' H' v r→Q v H'):RE f σ H Q
inductive RT (f:M Bool) (σ:L2.St) (H:Hp) (Q:Bool→Hp→Prop):Prop where
 | mk (Oo:Addr→Prop) (c:Cf) (t:T) (fi:FInv K Oo c t σ H) (r:Bool) (t':T) (e:f t=some (r,t')) (k:∀H' c',FInv K Oo c' t' σ H'→Stp Oo c H c' H'→Q r H'):RT f σ H Q
inductive RA (f:M (List D)) (σ:L2.St) (H:Hp) (Q:List V→Hp→Prop):Prop where
 | mk (Oo:Addr→Prop) (c:Cf) (t:T) (fi:FInv K Oo c t σ H) (r:List D) (t':T) (e:f t=some (r,t')) (k:∀vs H' c',FInv K Oo c' t' σ H'→Stp Oo c H c' H'→Reps K c' H' vs r→Q vs H'):RA f σ H Q
inductive RF (f:M (List D)) (σ:L2.St) (H:Hp) (Q:VK):Prop where
 | mk (Oo:Addr→Prop) (c:Cf) (t:T) (fi:FInv K Oo c t σ H) (ds:List D) (t':T) (e:f t=some (ds,t')) (k:∀p vs H' c',FInv K Oo c' t' σ H'→Stp Oo c H c' H'→Reps K c' H' vs ds→H' p=none→Q (.ref p) (upd H' p (.lst vs))):RF f σ H Q
inductive RSg (μ:Cf→Hp→D→(V→Hp→Prop)→Prop) (f:M Out) (E:Ends) (σ:L2.St) (H:Hp):Prop where
 | mk (Oo:Addr→Prop) (c:Cf) (t:T) (fi:FInv K Oo c t σ H) (o:Out) (t':T) (e:f t=some (o,t')) (k:∀σ' H' c',FInv K Oo c' t' σ' H'→Stp Oo c H c' H'→
 match (generalizing:=false) o with
 | .next=>E.nx σ' H'
 | .brk=>E.bk σ' H'
 | .cont=>E.ct σ' H'
 | .ret r=>μ c' H' r E.rt):RSg μ f E σ H
def μR:Cf→Hp→D→(V→Hp→Prop)→Prop:=fun c H r rt=>∀v,Rep K c H v r→rt v H
abbrev RS (f:M Out):TS:=RSg K (μR K) f
inductive RG (f:D→M Unit) (v:V) (σ:L2.St) (H:Hp) (Q:L2.St→Hp→Prop):Prop where
 | mk (Oo:Addr→Prop) (c:Cf) (t:T) (d:D) (fi:FInv K Oo c t σ H) (r:Rep K c H v d) (t':T) (e:f d t=some ((),t')) (k:∀σ' H' c',FInv K Oo c' t' σ' H'→Stp Oo c H c' H'→Q σ' H'):RG f v σ H Q
structure ItOk (J:It) (c:Cf) (H:Hp) (ds:List D):Prop where
 go:∀c' H' (i:Nat),Ext c H c' H'→i < ds.length→J.go i H'
 yld:∀c' H' (i:Nat) x H'' d,Ext c H c' H'→ds[i]?=some d→J.yld i H' x H''→H''=H'∧Rep K c' H' x d
 stop:∀c' H',Ext c H c' H'→J.stop ds.length H'
inductive RI (f:M (List D)) (σ:L2.St) (H:Hp) (R:It→Hp→Prop):Prop where
 | mk (Oo:Addr→Prop) (c:Cf) (t:T) (fi:FInv K Oo c t σ H) (ds:List D) (t':T) (e:f t=some (ds,t')) (k:∀J H' c',FInv K Oo c' t' σ H'→Stp Oo c H c' H'→ItOk K J c' H' ds→R J H'):RI f σ H R
def Sem1 (R:V→Hp→VK→Prop) (h:D→M D):Prop:=∀{Oo:Addr→Prop} {c:Cf} {t:T} {σ:L2.St} {H:Hp} {x:V} {dx r:D} {t':T} {Q:VK},FInv K Oo c t σ H→Rep K c H x dx→h dx t=some (r,t')→
 (∀v H' c',FInv K Oo c' t' σ H'→Stp Oo c H c' H'→Rep K c' H' v r→Q v H')→R x H Q
def Sem2 (R:R2) (h:D→D→M D):Prop:=∀{Oo:Addr→Prop} {c:Cf} {t:T} {σ:L2.St} {H:Hp} {x y:V} {dx dy r:D} {t':T} {Q:VK},FInv K Oo c t σ H→Rep K c H x dx→Rep K c H y dy→h dx dy t=some (r,t')→
 (∀v H' c',FInv K Oo c' t' σ H'→Stp Oo c H c' H'→Rep K c' H' v r→Q v H')→R x y H Q
def SemN (R:List V→Hp→VK→Prop) (h:List D→M D):Prop:=∀{Oo:Addr→Prop} {c:Cf} {t:T} {σ:L2.St} {H:Hp} {xs:List V} {ds:List D} {r:D} {t':T} {Q:VK},FInv K Oo c t σ H→Reps K c H xs ds→h ds t=some (r,t')→
 (∀v H' c',FInv K Oo c' t' σ H'→Stp Oo c H c' H'→Rep K c' H' v r→Q v H')→R xs H Q
def Sem2F (R:R2) (h:D→D→M (List D)):Prop:=∀{Oo:Addr→Prop} {c:Cf} {t:T} {σ:L2.St} {H:Hp} {x y:V} {dx dy:D} {r:List D} {t':T} {Q:VK},FInv K Oo c t σ H→Rep K c H x dx→Rep K c H y dy→h dx dy t=some (r,t')→
 (∀p vs H' c',FInv K Oo c' t' σ H'→Stp Oo c H c' H'→Reps K c' H' vs r→H' p=none→Q (.ref p) (upd H' p (.lst vs)))→R x y H Q
def SemNF (R:List V→Hp→VK→Prop) (h:List D→M (List D)):Prop:=∀{Oo:Addr→Prop} {c:Cf} {t:T} {σ:L2.St} {H:Hp} {xs:List V} {ds r:List D} {t':T} {Q:VK},FInv K Oo c t σ H→Reps K c H xs ds→h ds t=some (r,t')→
 (∀p vs H' c',FInv K Oo c' t' σ H'→Stp Oo c H c' H'→Reps K c' H' vs r→H' p=none→Q (.ref p) (upd H' p (.lst vs)))→R xs H Q
end
section
variable {X:Cx} {e a b:Expr} {pos:Pos}
theorem PE_imp {t t':TE} (h:PE X e t) (i:∀σ H Q,t' σ H Q→t σ H Q):PE X e t':=fun pins s σ H Q I q=>h pins s σ H Q I (i σ H Q q)
theorem PT_imp {t t':TT} (h:PT X e t) (i:∀σ H Q,t' σ H Q→t σ H Q):PT X e t':=fun pins s σ H Q I q=>h pins s σ H Q I (i σ H Q q)
theorem PW_imp {t t':TT} (h:PW X e t) (i:∀σ H Q,t' σ H Q→t σ H Q):PW X e t':=fun w pins s σ H Q I q=>h w pins s σ H Q I (i σ H Q q)
theorem PA_imp {es:List Expr} {t t':TA} (h:PA X es t) (i:∀σ H Q,t' σ H Q→t σ H Q):PA X es t':=fun pos pins s σ H Q I q=>h pos pins s σ H Q I (i σ H Q q)
theorem PS_imp {st:Stmt} {t t':TS} (h:PS X st t) (i:∀E σ H,t' E σ H→t E σ H):PS X st t':=fun pins s σ H E I q=>h pins s σ H E I (i E σ H q)
theorem PSs_imp {st:List Stmt} {t t':TS} (h:PSs X st t) (i:∀E σ H,t' E σ H→t E σ H):PSs X st t':=fun pins s σ H E I q=>h pins s σ H E I (i E σ H q)
theorem PG_imp {t t':TG} (h:PG X e t) (i:∀v σ H Q,t' v σ H Q→t v σ H Q):PG X e t':=fun pins s σ H v u Q I r q=>h pins s σ H v u Q I r (i v σ H Q q)
theorem PI_imp {tg:Expr} {t t':TI} (h:PI X tg e t) (i:∀σ H R,t' σ H R→t σ H R):PI X tg e t':=fun pins s σ H R I q=>h pins s σ H R I (i σ H R q)
def fC (d:D):M D:=ret d
theorem fe_c {v:V} {d:D} (h:PE X e (tC v)) (r:∀c H,Rep X.K c H v d):PE X e (RE X.K (fC d)):=
 PE_imp h fun σ H Q ⟨Oo,c,t,f,r',t',eq,k⟩=>by
  cases eq
  exact k v H c f .refl (r c H)
theorem fe_int {i:Int} {j:Nat}:PE X (.Constant (.int i) j pos) (RE X.K (fC (.int i))):=fe_c pe_int fun _ _=>.int i
theorem fe_bl {i:Bool} {j:Nat}:PE X (.Constant (.bool i) j pos) (RE X.K (fC (.bl i))):=fe_c pe_bl fun _ _=>.bl i
theorem fe_str {i:Str} {j:Nat}:PE X (.Constant (.str i) j pos) (RE X.K (fC (.str i))):=fe_c pe_str fun _ _=>.str i
theorem fe_non {j:Nat}:PE X (.Constant .none j pos) (RE X.K (fC .non)):=fe_c pe_non fun _ _=>.non
theorem fe_glob {x:Str} {i:Int} {tk:Tok} (hg:Gl X x) (hm:X.mg x=some (.int i tk)) (hd:(x == ("__debug__" : Str))=false:=by decide):PE X (.Name x pos) (RE X.K (fC (.int i))):=
 fe_c (pe_glob hg hm (v:=.int i) ⟨tk,rfl⟩ hd) fun _ _=>.int i
theorem fe_globS {x:Str} {y:Str} {tk:Tok} (hg:Gl X x) (hm:X.mg x=some (.str y tk)) (hd:(x == ("__debug__" : Str))=false:=by decide):PE X (.Name x pos) (RE X.K (fC (.str y))):=
 fe_c (pe_glob hg hm (v:=.str y) ⟨tk,rfl⟩ hd) fun _ _=>.str y
theorem fe_ty {x:Str} {n:String} (hg:Gl X x) (hm:X.mg x=none) (hv:bootBuiltins x=some (.type n)) (hn:x≠"__name__":=by decide) (hd:(x == ("__debug__" : Str))=false:=by decide):PE X (.Name x pos) (RE X.K (fC (.ty n))):=
 fe_c (pe_bltn hg hm hv (v:=.ty n) rfl hn hd) fun _ _=>.ty n
def fVar (i:Nat):M D:=fun t=>match t.env[i]? with
 | some (some (.val d))=>some (d,t)
 | some (some (.own ds))=>some (.lst ds,{ t with env:=t.env.set i (some (.val (.lst ds))) })
 | _=>none
theorem fVar_cases {i:Nat} {t t':T} {r:D} (h:fVar i t=some (r,t')):(t.env[i]?=some (some (.val r))∧t'=t)∨∃ds,t.env[i]?=some (some (.own ds))∧r = .lst ds∧t' = { t with env:=t.env.set i (some (.val (.lst ds))) }:=by
 unfold fVar at h
 cases e:t.env[i]? with
 | none=>rw [e] at h;cases h
 | some o=>
   cases o with
   | none=>rw [e] at h;cases h
   | some sl=>
     cases sl with
     | val d=>rw [e] at h;cases h;exact .inl ⟨rfl,rfl⟩
     | own ds=>rw [e] at h;cases h;exact .inr ⟨ds,rfl,rfl,rfl⟩
theorem fe_var (i:Nat) {x:Str} (hN:X.N[i]?=some x:=by rfl) (hv:Vis X.env.scope x:=by first | exact Or.inl rfl | exact Or.inr (Or.inl rfl) | exact Or.inr (Or.inr rfl)) (hd:(x == ("__debug__" : Str))=false:=by decide)
 (hcd:(x == ("__classdict__" : Str))=false:=by decide):PE X (.Name x pos) (RE X.K (fVar i)):=
 PE_imp (pe_var hN hv hd hcd) fun σ H Q ⟨Oo,c,t,f,r,t',eq,k⟩=>by
  rcases fVar_cases eq with ⟨q,rfl⟩ | ⟨ds,q,rfl,rfl⟩
  ·obtain ⟨v,h1,h2⟩:=f.val i r q
   exact ⟨v,h1,k v H c f .refl h2⟩
  ·obtain ⟨c',v,f',st,h1,h2⟩:=f.frz q
   exact ⟨v,h1,k v H c' f' st h2⟩
def fBin (f g:M D) (h:D→D→M D):M D:=bnd f fun x=>bnd g fun y=>h x y
theorem RE.two {K:PySem.W.Frag} {f g:M D} {h:D→D→M D} {R:R2} (s:Sem2 K R h) {σ:L2.St} {H:Hp} {Q:VK} (q:RE K (fBin f g h) σ H Q):tOp R (RE K f) (RE K g) σ H Q:=by
 obtain ⟨Oo,c,t,fi,r,t',eq,k⟩:=q
 obtain ⟨dx,t1,e1,eq⟩:=bnd_some eq
 obtain ⟨dy,t2,e2,eq⟩:=bnd_some eq
 exact ⟨Oo,c,t,fi,dx,t1,e1,fun x H1 c1 f1 s1 rx=>⟨Oo,c1,t1,f1,dy,t2,e2,fun y H2 c2 f2 s2 ry=>s f2 (rx.mono s2.ext) ry eq fun v H' c' f' s' rv=>k v H' c' f' ((s1.trans s2).trans s') rv⟩⟩
theorem fe_op {op:Operator} {R:R2} {f g:M D} {h:D→D→M D} (ho:OpR X (binaryOp op) R) (s:Sem2 X.K R h) (ha:PE X a (RE X.K f)) (hb:PE X b (RE X.K g)):PE X (.BinOp a op b pos) (RE X.K (fBin f g h)):=
 PE_imp (pe_op ho ha hb) fun _ _ _ q=>RE.two s q
theorem fe_cmp {op:CmpOp} {R:R2} {f g:M D} {h:D→D→M D} (ho:OpR X (compareOp op) R) (s:Sem2 X.K R h) (ha:PE X a (RE X.K f)) (hb:PE X b (RE X.K g)) (hm:behindInMarks op b=false):PE X (.Compare a [op] [b] pos) (RE X.K (fBin f g h)):=
 PE_imp (pe_cmpR ho ha hb hm) fun _ _ _ q=>RE.two s q
theorem fe_ix {R:R2} {f g:M D} {h:D→D→M D} (hr:IxR X R) (s:Sem2 X.K R h) (ha:PE X a (RE X.K f)) (hb:PE X b (RE X.K g)) (hs:PlainIx b):PE X (.Subscript a b pos) (RE X.K (fBin f g h)):=
 PE_imp (pe_ix hr ha hb hs) fun _ _ _ q=>RE.two s q
def fUn (f:M D) (h:D→M D):M D:=bnd f h
theorem fe_un {op:UnaryOp} {R:V→Hp→VK→Prop} {f:M D} {h:D→M D} (ho:UnR X (unaryOp op) R) (s:Sem1 X.K R h) (ha:PE X a (RE X.K f)):PE X (.UnaryOp op a pos) (RE X.K (fUn f h)):=
 PE_imp (pe_un ho ha) fun σ H Q ⟨Oo,c,t,fi,r,t',eq,k⟩=>by
  obtain ⟨dx,t1,e1,eq⟩:=bnd_some eq
  exact ⟨Oo,c,t,fi,dx,t1,e1,fun x H1 c1 f1 s1 rx=>s f1 rx eq fun v H' c' f' s' rv=>k v H' c' f' (s1.trans s') rv⟩
def toB:D→M Bool
 | .bl b=>ret b
 | _=>fail
def fTst (f:M D):M Bool:=bnd f toB
theorem toB_some {d:D} {t:T} {z:Bool×T} (h:toB d t=some z):∃b,d = .bl b∧z=(b,t):=by
 cases d with
 | bl b=>cases h;exact ⟨b,rfl,rfl⟩
 | _=>cases h
theorem RT.val {K:PySem.W.Frag} {f:M D} {σ:L2.St} {H:Hp} {Q:Bool→Hp→Prop} (q:RT K (fTst f) σ H Q):RE K f σ H fun x H1=>∃k,x = .bl k∧Q k H1:=by
 obtain ⟨Oo,c,t,fi,r,t',eq,k⟩:=q
 obtain ⟨d,t1,e1,eq⟩:=bnd_some eq
 obtain ⟨b,rfl,z⟩:=toB_some eq
 cases z
 refine ⟨Oo,c,t,fi,_,t',e1,fun v H1 c1 f1 s1 rv=>?_⟩
 cases rv
 exact ⟨r,rfl,k H1 c1 f1 s1⟩
theorem ft_val {f:M D} (h:PE X e (RE X.K f)) (he:∀whole,isTrue e X.env whole=(do let v ←whole;standAt e.pos;holding [v] (truthy v)):=by intro _;rfl):PT X e (RT X.K (fTst f)):=
 PT_imp (pt_val h he) fun _ _ _ q=>RT.val q
theorem ft_cmp {op:CmpOp} {R:R2} {f g:M D} {h:D→D→M D} (ho:OpR X (compareOp op) R) (s:Sem2 X.K R h) (ha:PE X a (RE X.K f)) (hb:PE X b (RE X.K g)) (hm:behindInMarks op b=false):PT X (.Compare a [op] [b] pos) (RT X.K (fTst (fBin f g h))):=
 PT_imp (pt_cmpR ho ha hb hm) fun σ H Q q=>RE.two s (RT.val q)
def fChain (f g w:M D) (h h':D→D→M D):M D:=bnd f fun x=>bnd g fun y=>bnd (fTst (h x y)) fun k=>if k=true then bnd w fun z=>h' y z else ret (.bl false)
theorem RE.chain {K:PySem.W.Frag} {f g w:M D} {h h':D→D→M D} {R R':R2} (s:Sem2 K R h) (s':Sem2 K R' h') {σ:L2.St} {H:Hp} {Q:VK} (q:RE K (fChain f g w h h') σ H Q):tChain R R' (RE K f) (RE K g) (RE K w) σ H Q:=by
 obtain ⟨Oo,c,t,fi,r,t',eq,k⟩:=q
 obtain ⟨dx,t1,e1,eq⟩:=bnd_some eq
 obtain ⟨dy,t2,e2,eq⟩:=bnd_some eq
 obtain ⟨kb,t3,e3,eq⟩:=bnd_some eq
 obtain ⟨d3,t3',e3',e3⟩:=bnd_some e3
 obtain ⟨b3,rfl,z⟩:=toB_some e3
 cases z
 refine ⟨Oo,c,t,fi,dx,t1,e1,fun x H1 c1 f1 s1 rx=>⟨Oo,c1,t1,f1,dy,t2,e2,fun y H2 c2 f2 s2 ry=>s f2 (rx.mono s2.ext) ry e3' fun v H3 c3 f3 s3 rv=>?_⟩⟩
 cases rv
 refine ⟨kb,rfl,?_⟩
 cases kb with
 | false=>
   rw [if_neg Bool.false_ne_true] at eq ⊢
   cases eq
   exact k _ H3 c3 f3 ((s1.trans s2).trans s3) (.bl false)
 | true=>
   rw [if_pos rfl] at eq ⊢
   obtain ⟨dz,t4,e4,eq⟩:=bnd_some eq
   exact ⟨Oo,c3,t3,f3,dz,t4,e4,fun w' H4 c4 f4 s4 rw'=>s' f4 (ry.mono (s3.trans s4).ext) rw' eq fun v H' c' f' s' rv=>k v H' c' f' ((((s1.trans s2).trans s3).trans s4).trans s') rv⟩
theorem fe_chain {d:Expr} {op op':CmpOp} {R R':R2} {f g w:M D} {h h':D→D→M D} (ho:OpR X (compareOp op) R) (ho':OpR X (compareOp op') R') (s:Sem2 X.K R h) (s':Sem2 X.K R' h') (ha:PE X a (RE X.K f)) (hb:PE X b (RE X.K g)) (hd:PE X d (RE X.K w))
 (hm:lastMarks [op,op'] [b,d]=false:=by with_unfolding_all rfl):PE X (.Compare a [op,op'] [b,d] pos) (RE X.K (fChain f g w h h')):=
 PE_imp (pe_chain ho ho' ha hb hd hm) fun _ _ _ q=>RE.chain s s' q
def fAnd (f g:M Bool):M Bool:=bnd f fun k=>if k=true then g else ret false
def fOr (f g:M Bool):M Bool:=bnd f fun k=>if k=true then ret true else g
def fNot (f:M Bool):M Bool:=bnd f fun k=>ret (!k)
def fAndV (f g:M D):M D:=bnd (fTst f) fun k=>if k=true then g else ret (.bl false)
def fOrV (f g:M D):M D:=bnd (fTst f) fun k=>if k=true then ret (.bl true) else g
def fNotV (f:M D):M D:=bnd (fTst f) fun k=>ret (.bl (!k))
def fIf (f:M Bool) (g h:M D):M D:=bnd f fun k=>if k=true then g else h
variable {f g:M Bool} {u v w:M D} {rest:List Expr}
theorem ft_pw (h:PW X e (RT X.K f)):PT X e (RT X.K f):=h.pt
theorem fw_and1 (ha:PT X a (RT X.K f)):PW X (.BoolOp .And [a] pos) (RT X.K f):=pw_and1 ha
theorem fw_or1 (ha:PT X a (RT X.K f)):PW X (.BoolOp .Or [a] pos) (RT X.K f):=pw_or1 ha
theorem fw_and (ha:PT X a (RT X.K f)) (hb:PW X (.BoolOp .And (b :: rest) pos) (RT X.K g)):PW X (.BoolOp .And (a :: b :: rest) pos) (RT X.K (fAnd f g)):=
 PW_imp (pw_and ha hb) fun σ H Q ⟨Oo,c,t,fi,r,t',eq,k⟩=>by
  obtain ⟨kb,t1,e1,eq⟩:=bnd_some eq
  refine ⟨Oo,c,t,fi,kb,t1,e1,fun H1 c1 f1 s1=>?_⟩
  cases kb with
  | false=>rw [if_neg Bool.false_ne_true] at eq ⊢;cases eq;exact k H1 c1 f1 s1
  | true=>rw [if_pos rfl] at eq ⊢;exact ⟨Oo,c1,t1,f1,r,t',eq,fun H2 c2 f2 s2=>k H2 c2 f2 (s1.trans s2)⟩
theorem fw_or (ha:PT X a (RT X.K f)) (hb:PW X (.BoolOp .Or (b :: rest) pos) (RT X.K g)):PW X (.BoolOp .Or (a :: b :: rest) pos) (RT X.K (fOr f g)):=
 PW_imp (pw_or ha hb) fun σ H Q ⟨Oo,c,t,fi,r,t',eq,k⟩=>by
  obtain ⟨kb,t1,e1,eq⟩:=bnd_some eq
  refine ⟨Oo,c,t,fi,kb,t1,e1,fun H1 c1 f1 s1=>?_⟩
  cases kb with
  | true=>rw [if_pos rfl] at eq ⊢;cases eq;exact k H1 c1 f1 s1
  | false=>rw [if_neg Bool.false_ne_true] at eq ⊢;exact ⟨Oo,c1,t1,f1,r,t',eq,fun H2 c2 f2 s2=>k H2 c2 f2 (s1.trans s2)⟩
theorem ft_not (ha:PT X a (RT X.K f)):PT X (.UnaryOp .Not a pos) (RT X.K (fNot f)):=
 PT_imp (pt_not ha) fun σ H Q ⟨Oo,c,t,fi,r,t',eq,k⟩=>by
  obtain ⟨kb,t1,e1,eq⟩:=bnd_some eq
  cases eq
  exact ⟨Oo,c,t,fi,kb,_,e1,fun H1 c1 f1 s1=>k H1 c1 f1 s1⟩
theorem tst_some {f:M D} {t:T} {kb:Bool} {t1:T} (h:fTst f t=some (kb,t1)):f t=some (.bl kb,t1):=by
 obtain ⟨d,t2,e1,e2⟩:=bnd_some h
 obtain ⟨b,rfl,z⟩:=toB_some e2
 cases z
 exact e1
theorem fe_one {op:PySem.BoolOp} (h:PE X a (RE X.K u)):PE X (.BoolOp op [a] pos) (RE X.K u):=pe_one h
theorem fe_and (ha:PE X a (RE X.K u)) (hb:PE X (.BoolOp .And (b :: rest) pos) (RE X.K v)):PE X (.BoolOp .And (a :: b :: rest) pos) (RE X.K (fAndV u v)):=
 PE_imp (pe_and ha hb) fun σ H Q ⟨Oo,c,t,fi,r,t',eq,k⟩=>by
  obtain ⟨kb,t1,e1,eq⟩:=bnd_some eq
  refine ⟨Oo,c,t,fi,_,t1,tst_some e1,fun x H1 c1 f1 s1 rx=>?_⟩
  cases rx
  refine ⟨kb,rfl,?_⟩
  cases kb with
  | false=>rw [if_neg Bool.false_ne_true] at eq ⊢;cases eq;exact k _ H1 c1 f1 s1 (.bl false)
  | true=>rw [if_pos rfl] at eq ⊢;exact ⟨Oo,c1,t1,f1,r,t',eq,fun y H2 c2 f2 s2 ry=>k y H2 c2 f2 (s1.trans s2) ry⟩
theorem fe_not (ha:PE X a (RE X.K u)):PE X (.UnaryOp .Not a pos) (RE X.K (fNotV u)):=
 PE_imp (pe_not ha) fun σ H Q ⟨Oo,c,t,fi,r,t',eq,k⟩=>by
  obtain ⟨kb,t1,e1,eq⟩:=bnd_some eq
  cases eq
  refine ⟨Oo,c,t,fi,_,_,tst_some e1,fun x H1 c1 f1 s1 rx=>?_⟩
  cases rx
  exact ⟨kb,rfl,k _ H1 c1 f1 s1 (.bl (!kb))⟩
end
section
variable {X:Cx} {e a b:Expr} {es:List Expr} {pos:Pos}
def fNil:M (List D):=ret []
def fCons (f:M D) (g:M (List D)):M (List D):=bnd f fun d=>bnd g fun ds=>ret (d :: ds)
theorem fa_nil:PA X [] (RA X.K fNil):=PA_imp pa_nil fun σ H Q ⟨Oo,c,t,fi,r,t',eq,k⟩=>by
 cases eq
 exact k [] H c fi .refl .nil
theorem fa_cons {f:M D} {g:M (List D)} (ha:PE X e (RE X.K f)) (hr:PA X es (RA X.K g)) (hs:starEach (e :: es) X.env=(false,eval e X.env) :: starEach es X.env:=by rfl):PA X (e :: es) (RA X.K (fCons f g)):=
 PA_imp (pa_cons ha hr hs) fun σ H Q ⟨Oo,c,t,fi,r,t',eq,k⟩=>by
  obtain ⟨d,t1,e1,eq⟩:=bnd_some eq
  obtain ⟨ds,t2,e2,eq⟩:=bnd_some eq
  cases eq
  exact ⟨Oo,c,t,fi,d,t1,e1,fun x H1 c1 f1 s1 rx=>⟨Oo,c1,t1,f1,ds,_,e2,fun xs H2 c2 f2 s2 rxs=>k _ H2 c2 f2 (s1.trans s2) (.cons (rx.mono s2.ext) rxs)⟩⟩
def lim {α:Type} (n:Nat) (a:α):M α:=fun t=>if n≤LIM then some (a,t) else none
theorem lim_some {α:Type} {n:Nat} {a:α} {t:T} {z:α×T} (h:lim n a t=some z):n≤LIM∧z=(a,t):=by
 unfold lim at h
 split at h
 ·next h1=>cases h;exact ⟨h1,rfl⟩
 ·cases h
def fTup (f:M (List D)):M D:=bnd f fun ds=>lim ds.length (.tup ds)
theorem fe_tup {x1:Nat} {f:M (List D)} (h:PA X es (RA X.K f)):PE X (.Tuple es x1 pos) (RE X.K (fTup f)):=
 PE_imp (pe_tup h) fun σ H Q ⟨Oo,c,t,fi,r,t',eq,k⟩=>by
  obtain ⟨ds,t1,e1,eq⟩:=bnd_some eq
  obtain ⟨hl,z⟩:=lim_some eq
  cases z
  refine ⟨Oo,c,t,fi,ds,_,e1,fun xs H1 c1 f1 s1 rxs=>⟨by rw [rxs.length];exact Nat.le_trans hl LIM_le,fun p hp=>?_⟩⟩
  exact k _ _ c1 (f1.laid hp) (s1.trans (f1.stp_laid hp)) (.tup upd_same (f1.s.free hp) (rxs.mono (Ext.laid f1.s hp)))
def fLst (f:M (List D)):M (List D):=bnd f fun ds=>lim ds.length ds
theorem ff_lst {f:M (List D)} (h:PA X es (RA X.K f)):PE X (.List es pos) (RF X.K (fLst f)):=
 PE_imp (pe_lst h) fun σ H Q ⟨Oo,c,t,fi,r,t',eq,k⟩=>by
  obtain ⟨ds,t1,e1,eq⟩:=bnd_some eq
  obtain ⟨hl,z⟩:=lim_some eq
  cases z
  exact ⟨Oo,c,t,fi,_,_,e1,fun xs H1 c1 f1 s1 rxs=>⟨by rw [rxs.length];exact Nat.le_trans hl LIM_le,fun p hp=>k p xs H1 c1 f1 s1 rxs hp⟩⟩
def fPure (f:M (List D)):M D:=bnd f fun ds=>ret (.lst ds)
theorem fe_pure {f:M (List D)} (h:PE X e (RF X.K f)):PE X e (RE X.K (fPure f)):=
 PE_imp h fun σ H Q ⟨Oo,c,t,fi,r,t',eq,k⟩=>by
  obtain ⟨ds,t1,e1,eq⟩:=bnd_some eq
  cases eq
  exact ⟨Oo,c,t,fi,ds,_,e1,fun p xs H1 c1 f1 s1 rxs hp=>k _ _ c1 (f1.laid hp) (s1.trans (f1.stp_laid hp)) (.lst upd_same (f1.s.free hp) (rxs.mono (Ext.laid f1.s hp)))⟩
def newOb (o:Ob):M D:=fun t=>some (.obj t.S.length,{ t with S:=t.S++[o] })
def fObj (f:M (List D)):M D:=bnd f fun ds=>newOb (.lst ds)
abbrev Fn:=List D→List Ob→Option (D×List Ob)
inductive spF (K:PySem.W.Frag) (f:Fn) (vs:List V) (H:Hp) (Q:VK) (E:XK):Prop where
 | mk (c:Cf) (ds:List D) (S:List Ob) (si:SInv K c S H) (rs:Reps K c H vs ds) (r:D) (S':List Ob) (e:f ds S=some (r,S')) (k:∀v H' c',SInv K c' S' H'→Stp c.O c H c' H'→(∀b,c'.O b↔c.O b)→Rep K c' H' v r→Q v H'):spF K f vs H Q E
def fCall (g:Fn) (f:M (List D)):M D:=bnd f fun ds t=>match g ds t.S with
 | some (r,S')=>some (r,{ t with S:=S' })
 | none=>none
theorem call_some {g:Fn} {ds:List D} {t:T} {r:D} {t':T} (h:(match g ds t.S with | some (r,S')=>some (r,{ t with S:=S' }) | none=>none:Option (D×T))=some (r,t')):∃S',g ds t.S=some (r,S')∧t' = { t with S:=S' }:=by
 cases e:g ds t.S with
 | none=>rw [e] at h;cases h
 | some p=>obtain ⟨r',S'⟩:=p;rw [e] at h;cases h;exact ⟨S',rfl,rfl⟩
theorem fe_call {k:Nat} {fa:Addr} {fd:FuncData} {ps:List Str} {g:Fn} {f:M (List D)} {x:Str} {p:Pos} (F:FnOk X.prog X.w X.K X.mg X.base CX0 k fa fd ps (spF X.K g)) (hr:Room k X.A) (hg:Gl X x) (hm:X.mg x=some (.ref fa)) (hk:PySem.W.keepIn X.K (.ref fa)=true) (hb:Binds X.K fd ps [])
 (ha:PA X (e :: es) (RA X.K f)) (hdb:(x == ("__debug__" : Str))=false:=by decide) (he:starEach (e :: es) X.env=(false,eval e X.env) :: starEach es X.env:=by rfl) (hpl:(backTo pos (starEach es X.env)).any (·.1)=false:=by rfl) :
 PE X (.Call (.Name x p) (e :: es) [] pos) (RE X.K (fCall g f)):=
 PE_imp (pe_call F hr hg hm hk hb .nil pass0 ha hdb he hpl) fun σ H Q ⟨Oo,c,t,fi,r,t',eq,kk⟩=>by
  obtain ⟨ds,t1,e1,eq⟩:=bnd_some eq
  obtain ⟨S',e2,rfl⟩:=call_some eq
  refine ⟨Oo,c,t,fi,ds,t1,e1,fun vs H1 c1 f1 s1 rvs=>?_⟩
  show spF X.K g (vs++[]) H1 Q E0
  rw [List.append_nil]
  refine ⟨c1,ds,t1.S,f1.s,rvs,r,S',e2,fun v H' c' si st ho rv=>?_⟩
  obtain ⟨f2,s2⟩:=f1.after si st ho
  exact kk v H' c' f2 (s1.trans s2) rv
def fB (f:M (List D)) (h:List D→M D):M D:=bnd f h
theorem RE.callB {K:PySem.W.Frag} {f:M (List D)} {h:List D→M D} {R:List V→Hp→VK→Prop} (s:SemN K R h) {σ:L2.St} {H:Hp} {Q:VK} (q:RE K (fB f h) σ H Q):tCB R (RA K f) σ H Q:=by
 obtain ⟨Oo,c,t,fi,r,t',eq,k⟩:=q
 obtain ⟨ds,t1,e1,eq⟩:=bnd_some eq
 exact ⟨Oo,c,t,fi,ds,t1,e1,fun xs H1 c1 f1 s1 rxs=>s f1 rxs eq fun v H' c' f' s' rv=>k v H' c' f' (s1.trans s') rv⟩
def fBF (f:M (List D)) (h:List D→M (List D)):M (List D):=bnd f h
theorem RF.callB {K:PySem.W.Frag} {f:M (List D)} {h:List D→M (List D)} {R:List V→Hp→VK→Prop} (s:SemNF K R h) {σ:L2.St} {H:Hp} {Q:VK} (q:RF K (fBF f h) σ H Q):tCB R (RA K f) σ H Q:=by
 obtain ⟨Oo,c,t,fi,r,t',eq,k⟩:=q
 obtain ⟨ds,t1,e1,eq⟩:=bnd_some eq
 exact ⟨Oo,c,t,fi,ds,t1,e1,fun xs H1 c1 f1 s1 rxs=>s f1 rxs eq fun p vs H' c' f' s' rv hp=>k p vs H' c' f' (s1.trans s') rv hp⟩
theorem RF.two {K:PySem.W.Frag} {f g:M D} {h:D→D→M (List D)} {R:R2} (s:Sem2F K R h) {σ:L2.St} {H:Hp} {Q:VK} (q:RF K (bnd f fun x=>bnd g fun y=>h x y) σ H Q):tOp R (RE K f) (RE K g) σ H Q:=by
 obtain ⟨Oo,c,t,fi,r,t',eq,k⟩:=q
 obtain ⟨dx,t1,e1,eq⟩:=bnd_some eq
 obtain ⟨dy,t2,e2,eq⟩:=bnd_some eq
 exact ⟨Oo,c,t,fi,dx,t1,e1,fun x H1 c1 f1 s1 rx=>⟨Oo,c1,t1,f1,dy,t2,e2,fun y H2 c2 f2 s2 ry=>s f2 (rx.mono s2.ext) ry eq fun p vs H' c' f' s' rv hp=>k p vs H' c' f' ((s1.trans s2).trans s') rv hp⟩⟩
end
end F2
set_option Elab.async false
set_option linter.all false
set_option maxRecDepth 100000
set_option maxHeartbeats 2000000
set_option autoImplicit false
namespace F2
open PySem L2 PySem.Spec
section
variable {X:Cx} {e a b:Expr} {pos:Pos} {st:Stmt} {sts:List Stmt}
def seqS (f g:M Out):M Out:=fun t=>match f t with
 | some (.next,t1)=>g t1
 | z=>z
def skipS:M Out:=ret .next
theorem fss_nil {μ:Cf→Hp→D→(V→Hp→Prop)→Prop}:PSs X [] (RSg X.K μ skipS):=PSs_imp pss_nil fun E σ H ⟨Oo,c,t,fi,o,t',eq,k⟩=>by
 cases eq
 exact k σ H c fi .refl
theorem fss_cons {μ:Cf→Hp→D→(V→Hp→Prop)→Prop} {f g:M Out} (h1:PS X st (RSg X.K μ f)) (h2:PSs X sts (RSg X.K μ g)):PSs X (st :: sts) (RSg X.K μ (seqS f g)):=
 PSs_imp (pss_cons h1 h2) fun E σ H ⟨Oo,c,t,fi,o,t',eq,k⟩=>by
  unfold seqS at eq
  cases e1:f t with
  | none=>rw [e1] at eq;cases eq
  | some p=>
    obtain ⟨o1,t1⟩:=p
    rw [e1] at eq
    refine ⟨Oo,c,t,fi,o1,t1,e1,fun σ1 H1 c1 f1 s1=>?_⟩
    cases o1 with
    | next=>exact ⟨Oo,c1,t1,f1,o,t',eq,fun σ2 H2 c2 f2 s2=>k σ2 H2 c2 f2 (s1.trans s2)⟩
    | brk=>cases eq;exact k σ1 H1 c1 f1 s1
    | cont=>cases eq;exact k σ1 H1 c1 f1 s1
    | ret d=>cases eq;exact k σ1 H1 c1 f1 s1
theorem fss_one {μ:Cf→Hp→D→(V→Hp→Prop)→Prop} {f:M Out} (h1:PS X st (RSg X.K μ f)):PSs X [st] (RSg X.K μ f):=pss_one h1
def retS (f:M D):M Out:=bnd f fun d=>ret (.ret d)
theorem fs_ret {f:M D} (h:PE X e (RE X.K f)):PS X (.Return (some e) pos) (RS X.K (retS f)):=
 PS_imp (ps_ret h) fun E σ H ⟨Oo,c,t,fi,o,t',eq,k⟩=>by
  obtain ⟨d,t1,e1,eq⟩:=bnd_some eq
  cases eq
  exact ⟨Oo,c,t,fi,d,_,e1,fun v H1 c1 f1 s1 rv=>k σ H1 c1 f1 s1 v rv⟩
def dropS (f:M D):M Out:=bnd f fun _=>ret .next
def ifS (f:M Bool) (g h:M Out):M Out:=bnd f fun k=>if k=true then g else h
theorem fs_if {μ:Cf→Hp→D→(V→Hp→Prop)→Prop} {f:M Bool} {g h:M Out} {sa sb:List Stmt} (hc:PT X e (RT X.K f)) (ha:PSs X sa (RSg X.K μ g)) (hb:PSs X sb (RSg X.K μ h)):PS X (.If e sa sb pos) (RSg X.K μ (ifS f g h)):=
 PS_imp (ps_if hc ha hb) fun E σ H ⟨Oo,c,t,fi,o,t',eq,k⟩=>by
  obtain ⟨kb,t1,e1,eq⟩:=bnd_some eq
  refine ⟨Oo,c,t,fi,kb,t1,e1,fun H1 c1 f1 s1=>?_⟩
  cases kb with
  | true=>rw [if_pos rfl] at eq ⊢;exact ⟨Oo,c1,t1,f1,o,t',eq,fun σ2 H2 c2 f2 s2=>k σ2 H2 c2 f2 (s1.trans s2)⟩
  | false=>rw [if_neg Bool.false_ne_true] at eq ⊢;exact ⟨Oo,c1,t1,f1,o,t',eq,fun σ2 H2 c2 f2 s2=>k σ2 H2 c2 f2 (s1.trans s2)⟩
def putV (i:Nat) (d:D):M Unit:=fun t=>some ((),{ t with env:=t.env.set i (some (.val d)) })
def setS (i:Nat) (f:M D):M Out:=bnd f fun d=>bnd (putV i d) fun _=>ret .next
theorem RS.set {μ:Cf→Hp→D→(V→Hp→Prop)→Prop} {K:PySem.W.Frag} {i:Nat} {f:M D} {E:Ends} {σ:L2.St} {H:Hp} (q:RSg K μ (setS i f) E σ H):tAsg (RE K f) (gName i) E σ H:=by
 obtain ⟨Oo,c,t,fi,o,t',eq,k⟩:=q
 obtain ⟨d,t1,e1,eq⟩:=bnd_some eq
 cases eq
 exact ⟨Oo,c,t,fi,d,t1,e1,fun v H1 c1 f1 s1 rv=>k _ H1 c1 (f1.set rv) s1⟩
theorem fs_set {μ:Cf→Hp→D→(V→Hp→Prop)→Prop} {i:Nat} {x:Str} {f:M D} {pos':Pos} (hN:X.N.Nodup) (hi:X.N[i]?=some x) (hx:Loc X.env.scope x) (he:PE X e (RE X.K f)) (hs:swapsWith e (some (.Name x pos')) pos.line X.env=pure false:=by rfl) (hf:X.fn x=true∨X.env.scope.names.lookup x=some .local:=by first | exact .inl rfl | exact .inr rfl | assumption) :
 PS X (.Assign [.Name x pos'] e pos) (RSg X.K μ (setS i f)):=PS_imp (ps_set hN hi hx he hs hf) fun _ _ _ q=>RS.set q
def ownS (i:Nat) (f:M (List D)):M Out:=bnd f fun ds t=>some (.next,{ t with env:=t.env.set i (some (.own ds)) })
theorem RS.own {μ:Cf→Hp→D→(V→Hp→Prop)→Prop} {K:PySem.W.Frag} {i:Nat} {f:M (List D)} {E:Ends} {σ:L2.St} {H:Hp} (q:RSg K μ (ownS i f) E σ H):tAsg (RF K f) (gName i) E σ H:=by
 obtain ⟨Oo,c,t,fi,o,t',eq,k⟩:=q
 obtain ⟨ds,t1,e1,eq⟩:=bnd_some eq
 cases eq
 refine ⟨Oo,c,t,fi,ds,t1,e1,fun p vs H1 c1 f1 s1 rv hp=>?_⟩
 obtain ⟨c2,f2,s2⟩:=f1.setOwn (i:=i) hp rv
 exact k _ _ c2 f2 (s1.trans s2)
theorem fs_own {μ:Cf→Hp→D→(V→Hp→Prop)→Prop} {i:Nat} {x:Str} {f:M (List D)} {pos':Pos} (hN:X.N.Nodup) (hi:X.N[i]?=some x) (hx:Loc X.env.scope x) (he:PE X e (RF X.K f)) (hs:swapsWith e (some (.Name x pos')) pos.line X.env=pure false:=by rfl) (hf:X.fn x=true∨X.env.scope.names.lookup x=some .local:=by first | exact .inl rfl | exact .inr rfl | assumption) :
 PS X (.Assign [.Name x pos'] e pos) (RSg X.K μ (ownS i f)):=PS_imp (ps_set hN hi hx he hs hf) fun _ _ _ q=>RS.own q
theorem fg_name {i:Nat} {x:Str} (hN:X.N.Nodup) (hi:X.N[i]?=some x) (hx:Loc X.env.scope x) (hf:X.fn x=true∨X.env.scope.names.lookup x=some .local:=by first | exact .inl rfl | exact .inr rfl | assumption):PG X (.Name x pos) (RG X.K (putV i)):=
 PG_imp (pg_name hN hi hx hf) fun v σ H Q ⟨Oo,c,t,d,fi,rv,t',eq,k⟩=>by
  cases eq
  exact k _ H c (fi.set rv) .refl
def asgS (f:M D) (g:D→M Unit):M Out:=bnd f fun d=>bnd (g d) fun _=>ret .next
theorem fs_asg {μ:Cf→Hp→D→(V→Hp→Prop)→Prop} {tg:Expr} {f:M D} {g:D→M Unit} (he:PE X e (RE X.K f)) (hg:PG X tg (RG X.K g)) (hs:swapsWithSole [tg] e pos.line X.env=pure false:=by rfl) (hw:swappedStores [tg] e X.env=pure none:=by rfl) (hp:(assignEach [tg] X.env).map (·.2)=[assign tg X.env]:=by rfl) :
 PS X (.Assign [tg] e pos) (RSg X.K μ (asgS f g)):=
 PS_imp (by first | exact ps_asg he hg hs hw | exact ps_asg he hg hs hw hp) fun E σ H ⟨Oo,c,t,fi,o,t',eq,k⟩=>by
  obtain ⟨d,t1,e1,eq⟩:=bnd_some eq
  obtain ⟨u,t2,e2,eq⟩:=bnd_some eq
  cases eq
  exact ⟨Oo,c,t,fi,d,t1,e1,fun v H1 c1 f1 s1 rv=>⟨Oo,c1,t1,d,f1,rv,_,e2,fun σ2 H2 c2 f2 s2=>k σ2 H2 c2 f2 (s1.trans s2)⟩⟩
inductive RGs (K:PySem.W.Frag) (f:List D→M Unit) (vs:List V) (σ:L2.St) (H:Hp) (Q:L2.St→Hp→Prop):Prop where
 | mk (Oo:Addr→Prop) (c:Cf) (t:T) (ds:List D) (fi:FInv K Oo c t σ H) (r:Reps K c H vs ds) (t':T) (e:f ds t=some ((),t')) (k:∀σ' H' c',FInv K Oo c' t' σ' H'→Stp Oo c H c' H'→Q σ' H'):RGs K f vs σ H Q
def putNil:List D→M Unit
 | []=>ret ()
 | _=>fail
def putCons (f:D→M Unit) (g:List D→M Unit):List D→M Unit
 | d :: ds=>bnd (f d) fun _=>g ds
 | []=>fail
theorem RGs.cons {K:PySem.W.Frag} {f:D→M Unit} {g:List D→M Unit} {vs:List V} {σ:L2.St} {H:Hp} {Q:L2.St→Hp→Prop} (q:RGs K (putCons f g) vs σ H Q):gCons (RG K f) (RGs K g) vs σ H Q:=by
 obtain ⟨Oo,c,t,ds,fi,rv,t',eq,k⟩:=q
 cases rv with
 | nil=>cases eq
 | cons r rs=>
   obtain ⟨u,t1,e1,eq⟩:=bnd_some eq
   exact ⟨_,_,rfl,Oo,c,t,_,fi,r,t1,e1,fun σ1 H1 c1 f1 s1=>⟨Oo,c1,t1,_,f1,rs.mono s1.ext,t',eq,fun σ2 H2 c2 f2 s2=>k σ2 H2 c2 f2 (s1.trans s2)⟩⟩
def unT (n:Nat) (g:List D→M Unit):D→M Unit
 | .tup ds=>if ds.length=n then g ds else fail
 | _=>fail
theorem RG.tup {K:PySem.W.Frag} {n:Nat} {g:List D→M Unit} {v:V} {σ:L2.St} {H:Hp} {Q:L2.St→Hp→Prop} (q:RG K (unT n g) v σ H Q):gTup K n (RGs K g) v σ H Q:=by
 obtain ⟨Oo,c,t,d,fi,rv,t',eq,k⟩:=q
 cases rv with
 | @tup a vs ds h1 h2 h3=>
   unfold unT at eq
   by_cases hn:ds.length=n
   ·dsimp only at eq
    rw [if_pos hn] at eq
    exact ⟨a,vs,rfl,SqT.of h1,by rw [h3.length];exact hn,Oo,c,t,ds,fi,h3,t',eq,k⟩
   ·dsimp only at eq
    rw [if_neg hn] at eq;cases eq
 | _=>cases eq
def forL (st:D→M Unit) (b:M Out):List D→M Out
 | []=>ret .next
 | d :: r=>fun t=>match st d t with
   | none=>none
   | some (_,t1)=>match b t1 with
     | some (.next,t2)=>forL st b r t2
     | some (.cont,t2)=>forL st b r t2
     | some (.brk,t2)=>some (.next,t2)
     | some (.ret x,t2)=>some (.ret x,t2)
     | none=>none
def forS (f:M (List D)) (st:D→M Unit) (b:M Out):M Out:=bnd f fun ds=>forL st b ds
theorem RS.for {μ:Cf→Hp→D→(V→Hp→Prop)→Prop} {K:PySem.W.Frag} {f:M (List D)} {g:D→M Unit} {b:M Out} {E:Ends} {σ:L2.St} {H:Hp} (q:RSg K μ (forS f g b) E σ H):tFor (RI K f) (RG K g) (RSg K μ b) E σ H:=by
 obtain ⟨Oo,c,t,fi,o,t',eq,k⟩:=q
 obtain ⟨ds,t1,e1,eq⟩:=bnd_some eq
 refine ⟨Oo,c,t,fi,ds,t1,e1,fun J H1 c1 f1 s1 it=>?_⟩
 refine ⟨fun i m σ' H'=>m=ds.length - i∧i≤ds.length∧∃c' t2,FInv K Oo c' t2 σ' H'∧Stp Oo c1 H1 c' H'∧forL g b (ds.drop i) t2=some (o,t'),⟨_,rfl,Nat.zero_le _,c1,t1,f1,.refl,by rw [List.drop_zero];exact eq⟩,?_⟩
 rintro i m σ' H' ⟨rfl,hi,c',t2,f2,s2,e2⟩
 by_cases hlt:i < ds.length
 ·refine .inr ⟨it.go c' H' i s2.ext hlt,fun σ3 H3=>∃c3 t3,FInv K Oo c3 t3 σ3 H3∧Stp Oo c1 H1 c3 H3∧forL g b (ds.drop (i + 1)) t3=some (o,t'),fun σ3 H3 h=>⟨ds.length - (i + 1),by omega,rfl,hlt,h⟩,fun x H'' hy=>?_⟩
  obtain ⟨rfl,rx⟩:=it.yld c' H' i x H'' _ s2.ext (List.getElem?_eq_getElem hlt) hy
  rw [List.drop_eq_getElem_cons hlt] at e2
  unfold forL at e2
  cases e3:g ds[i] t2 with
  | none=>rw [e3] at e2;cases e2
  | some p=>
    obtain ⟨u,t3⟩:=p
    rw [e3] at e2
    try dsimp only at e2
    refine ⟨Oo,c',t2,_,f2,rx,t3,e3,fun σ3 H3 c3 f3 s3=>?_⟩
    cases e4:b t3 with
    | none=>rw [e4] at e2;cases e2
    | some p=>
      obtain ⟨o4,t4⟩:=p
      rw [e4] at e2
      try dsimp only at e2
      refine ⟨Oo,c3,t3,f3,o4,t4,e4,fun σ5 H5 c5 f5 s5=>?_⟩
      have s':=(s2.trans s3).trans s5
      cases o4 with
      | next=>exact ⟨c5,t4,f5,s',e2⟩
      | cont=>exact ⟨c5,t4,f5,s',e2⟩
      | brk=>cases e2;exact k σ5 H5 c5 f5 (s1.trans s')
      | ret r=>cases e2;exact k σ5 H5 c5 f5 (s1.trans s')
 ·have hi':i=ds.length:=by omega
  subst hi'
  rw [List.drop_length] at e2
  cases e2
  exact .inl ⟨it.stop c' H' s2.ext,k σ' H' c' f2 (s1.trans s2)⟩
theorem fs_for {μ:Cf→Hp→D→(V→Hp→Prop)→Prop} {tg iter:Expr} {body:List Stmt} {f:M (List D)} {g:D→M Unit} {b:M Out} (hp:PassesOwn (model X.prog X.w) X.A X.env X.xe) (hc:X.calm=true) (hi:PI X tg iter (RI X.K f)) (hg:PG X tg (RG X.K g)) (hb:PSs X body (RSg X.K μ b))
 (hs:∀x,foldedSetIterable iter X.env x=pure x:=by intro _;rfl):PS X (.For tg iter body [] pos) (RSg X.K μ (forS f g b)):=
 PS_imp (ps_for hp hc hi hg hb hs) fun _ _ _ q=>RS.for q
theorem ItOk.lst {K:PySem.W.Frag} {c:Cf} {H:Hp} {p:Addr} {ds:List D} (r:∀c' H',Ext c H c' H'→∃vs,SqL K H' p vs∧Reps K c' H' vs ds):ItOk K (Itl K p) c H ds:=by
 refine ⟨fun c' H' i ex hi=>?_,fun c' H' i x H'' d ex hd hy=>?_,fun c' H' ex=>?_⟩
 ·obtain ⟨vs,h1,h2⟩:=r c' H' ex
  obtain ⟨v,e,_⟩:=h2.at (List.getElem?_eq_getElem hi)
  exact ⟨vs,v,h1,e⟩
 ·obtain ⟨vs,h1,h2⟩:=r c' H' ex
  obtain ⟨rfl,h⟩:=hy
  exact ⟨rfl,h2.get (h vs h1) hd⟩
 ·obtain ⟨vs,h1,h2⟩:=r c' H' ex
  exact ⟨vs,h1,by rw [h2.length];exact Nat.le_refl _⟩
theorem ItOk.tup {K:PySem.W.Frag} {c:Cf} {H:Hp} {p:Addr} {ds:List D} (r:∀c' H',Ext c H c' H'→∃vs,SqT K H' p vs∧Reps K c' H' vs ds):ItOk K (Itt K p) c H ds:=by
 refine ⟨fun c' H' i ex hi=>?_,fun c' H' i x H'' d ex hd hy=>?_,fun c' H' ex=>?_⟩
 ·obtain ⟨vs,h1,h2⟩:=r c' H' ex
  obtain ⟨v,e,_⟩:=h2.at (List.getElem?_eq_getElem hi)
  exact ⟨vs,v,h1,e⟩
 ·obtain ⟨vs,h1,h2⟩:=r c' H' ex
  obtain ⟨rfl,h⟩:=hy
  exact ⟨rfl,h2.get (h vs h1) hd⟩
 ·obtain ⟨vs,h1,h2⟩:=r c' H' ex
  exact ⟨vs,h1,by rw [h2.length];exact Nat.le_refl _⟩
end
end F2
set_option Elab.async false
set_option linter.all false
set_option maxRecDepth 100000
set_option maxHeartbeats 2000000
set_option autoImplicit false
namespace F2
open PySem L2 PySem.Spec
theorem FInv.leave {K:PySem.W.Frag} {Oo:Addr→Prop} {c:Cf} {t:T} {σ:L2.St} {H:Hp} (f:FInv K Oo c t σ H):SInv K ⟨c.ι,Oo⟩ t.S H∧Ext c H ⟨c.ι,Oo⟩ H:=by
 have ext:Ext c H ⟨c.ι,Oo⟩ H:=⟨fun _ _ e _=>e,fun b o _ z=>z.elim .inl fun w=>.inr (f.sub b w),fun _ _ e=>e⟩
 exact ⟨⟨f.s.len,f.s.nd,fun k a o e1 e2=>(f.s.obs k a o e1 e2).mono ext rfl,fun b z=>f.s.trk b (f.sub b z),fun b z=>f.s.dis b (f.sub b z)⟩,ext⟩
def env0 (m:Nat) (ds:List D):List (Option Sl):=ds.map (fun d=>some (.val d))++List.replicate (m - ds.length) none
def fnOf (n m:Nat) (g:M Out):Fn:=fun ds S=>if ds.length=n then (match g ⟨env0 m ds,S⟩ with
 | some (.ret r,t)=>some (r,t.S)
 | some (.next,t)=>some (.non,t.S)
 | _=>none) else none
theorem finv_start {K:PySem.W.Frag} {c:Cf} {S:List Ob} {H:Hp} {vs:List V} {ds:List D} {N:List Str} (s:SInv K c S H) (r:Reps K c H vs ds):FInv K c.O c ⟨env0 N.length ds,S⟩ (L2.start N vs) H:=by
 have hlen:vs.length=ds.length:=r.length
 have none_:∀{i:Nat} {x:Sl},(env0 N.length ds)[i]?=some (some x)→∃d,ds[i]?=some d∧x = .val d:=fun {i x} q=>by
  unfold env0 at q
  by_cases hi:i < ds.length
  ·rw [List.getElem?_append_left (by simpa using hi),List.getElem?_map,List.getElem?_eq_getElem hi] at q
   simp at q
   exact ⟨ds[i],List.getElem?_eq_getElem hi,q.symm⟩
  ·rw [List.getElem?_append_right (by simpa using hi),List.getElem?_replicate] at q
   split at q <;> simp at q
 refine ⟨s,by simp [env0,L2.start,hlen],fun _ z=>z,fun i d q=>?_,fun i es q=>?_,fun i j es _ a q _ _ _=>?_⟩
 ·obtain ⟨d',h1,h2⟩:=none_ q
  cases h2
  obtain ⟨v,h3,h4⟩:=r.at h1
  refine ⟨v,?_,h4⟩
  unfold L2.start
  have hi:=(List.getElem?_eq_some_iff.mp h3).1
  rw [List.getElem?_append_left (by simpa using hi),List.getElem?_map,h3]
  rfl
 ·obtain ⟨_,_,h2⟩:=none_ q;cases h2
 ·obtain ⟨_,_,h2⟩:=none_ q;cases h2
theorem fn_ok {P:Program} {w:World} {K:PySem.W.Frag} {mg:Str→Option Value} {base:Heap} {x qual:Str} {st:Stmt} {fa:Addr} {fd:FuncData} {N ps:List Str} {k:Nat} {g:M Out} (F:Fun K x qual st fa fd) (S:FnScope N ps (defScope st))
 (hb:∀(cdv:Value) (A:Around) (outer:List Env) (s:Shared) (H:Hp) (E:XK),Room k (A.deeper (PyProof.Rows.envOfC qual (defScope st) s.heap.objs.size fa cdv))→
   PSs (cxOf CX0 P w K mg base N qual (defScope st) fa cdv A outer s H E).nox (defBody st) (RS K g)):FnOk P w K mg base CX0 (k + 1) fa fd ps (spF K (fnOf ps.length N.length g)):=by
 have hlen:∀{ds:List D} {S:List Ob} {z:D×List Ob},fnOf ps.length N.length g ds S=some z→ds.length=ps.length:=fun {ds S z} h=>by
  unfold fnOf at h
  split at h
  ·next h1=>exact h1
  ·cases h
 refine F.ok S (fun vs H Q E h=>?_) (fun cdv A outer s H vs Q E hr h=>?_)
 ·obtain ⟨c,ds,S,si,rs,r,S',e,_⟩:=h
  rw [rs.length];exact hlen e
 obtain ⟨c,ds,S0,si,rs,r,S',e,kk⟩:=h
 refine ⟨RS K g,hb cdv A outer s H E hr,?_⟩
 have hl:=hlen e
 unfold fnOf at e
 rw [if_pos hl] at e
 cases eg:g ⟨env0 N.length ds,S0⟩ with
 | none=>rw [eg] at e;cases e
 | some p=>
   obtain ⟨o,t⟩:=p
   rw [eg] at e
   refine ⟨c.O,c,_,finv_start si rs,o,t,eg,fun σ' H' c' f' s'=>?_⟩
   obtain ⟨si',ext'⟩:=f'.leave
   have st':Stp c.O c H ⟨c'.ι,c.O⟩ H':=⟨s'.ext.trans ext',s'.oo⟩
   cases o with
   | next=>cases e;exact kk .non H' _ si' st' (fun _=>Iff.rfl) .non
   | ret d=>cases e;exact fun v rv=>kk v H' _ si' st' (fun _=>Iff.rfl) (rv.mono ext')
   | brk=>cases e
   | cont=>cases e
section
variable {X:Cx} {e a b:Expr} {pos:Pos}
def items:D→M (List D)
 | .lst ds=>ret ds
 | .tup ds=>ret ds
 | .scr ns=>ret (ns.map .int)
 | _=>fail
def rngL (lo:Int) (n:Nat):List D:=(List.range n).map fun i=>.int (lo + (i:Nat))
theorem ItOk.rng {K:PySem.W.Frag} {c:Cf} {H:Hp} {lo:Int} {n:Nat}:ItOk K (Itr lo n) c H (rngL lo n):=by
 refine ⟨fun c' H' i ex hi=>?_,fun c' H' i x H'' d ex hd hy=>?_,fun c' H' ex=>?_⟩
 ·have:i < n:=by simpa [rngL] using hi
  exact this
 ·obtain ⟨rfl,rfl⟩:=hy
  refine ⟨rfl,?_⟩
  have hi:i < n:=by
   have:=(List.getElem?_eq_some_iff.mp hd).1
   simpa [rngL] using this
  have:d = .int (lo + (i:Nat)):=by
   rw [rngL,List.getElem?_map,List.getElem?_range hi] at hd
   simpa using hd.symm
  rw [this]
  exact .int _
 ·show n≤(rngL lo n).length
  simp [rngL]
def small (i:Int):Bool:=decide (-(2 ^ 62)≤i) && decide (i < 2 ^ 62)
def rng1:List D→M (List D)
 | [.int j]=>fun t=>if small j=true then some (rngL 0 j.toNat,t) else none
 | _=>fail
def rng2:List D→M (List D)
 | [.int i,.int j]=>fun t=>if (small i && small j)=true then some (rngL i (j - i).toNat,t) else none
 | _=>fail
def fRng1 (f:M (List D)):M (List D):=bnd f rng1
def fRng2 (f:M (List D)):M (List D):=bnd f rng2
theorem small_iff {i:Int} (h:small i=true) : -(2 ^ 62)≤i∧i < 2 ^ 62:=by
 unfold small at h
 rw [Bool.and_eq_true] at h
 exact ⟨of_decide_eq_true h.1,of_decide_eq_true h.2⟩
theorem fi_range1 {tg:Expr} {f:M (List D)} {p:Pos} (hg:Gl X "range") (hm:X.mg "range" = none) (ha:PA X [a] (RA X.K f)) (hs:starEach [a] X.env=[(false,eval a X.env)]:=by rfl):PI X tg (.Call (.Name "range" p) [a] [] pos) (RI X.K (fRng1 f)):=
 PI_imp (pi_range1 hg hm ha hs) fun σ H R ⟨Oo,c,t,fi,ds,t',eq,k⟩=>by
  obtain ⟨xs,t1,e1,eq⟩:=bnd_some eq
  refine ⟨Oo,c,t,fi,xs,t1,e1,fun vs H1 c1 f1 s1 rv=>?_⟩
  unfold rng1 at eq
  split at eq
  ·next j=>
   split at eq
   ·next hs=>
    cases eq
    cases rv with
    | cons r rs=>
      cases rs
      cases r
      obtain ⟨h1,h2⟩:=small_iff hs
      exact ⟨j,rfl,h1,h2,k _ H1 c1 f1 s1 ItOk.rng⟩
   ·cases eq
  ·cases eq
def compL (st:D→M Unit) (tst:M Bool) (elt:M D):List D→M (List D)
 | []=>ret []
 | d :: r=>bnd (st d) fun _=>bnd tst fun k=>if k=true then bnd elt fun x=>bnd (compL st tst elt r) fun xs=>ret (x :: xs) else compL st tst elt r
def valOf:Option (Option Sl)→Option Sl
 | some (some (.val d))=>some (.val d)
 | _=>none
def cenv (n:Nat) (fr:List Nat) (env:List (Option Sl)):List (Option Sl):=List.replicate n none++fr.map fun i=>valOf env[i]?
def csig (n:Nat) (fr:List Nat) (σ:L2.St):L2.St:=List.replicate n none++fr.map fun i=>(σ[i]?).join
def fComp (n:Nat) (fr:List Nat) (f:M (List D)) (st:D→M Unit) (tst:M Bool) (elt:M D):M (List D):=bnd f fun ds t=>match compL st tst elt ds ⟨cenv n fr t.env,t.S⟩ with
 | some (xs,t')=>if xs.length≤LIM then some (xs,{ t with S:=t'.S }) else none
 | none=>none
theorem cenv_get {n:Nat} {fr:List Nat} {env:List (Option Sl)} {j:Nat} {x:Sl} (h:(cenv n fr env)[j]?=some (some x)):∃i d,n≤j∧fr[j - n]?=some i∧env[i]?=some (some (.val d))∧x = .val d:=by
 unfold cenv at h
 by_cases hj:j < n
 ·rw [List.getElem?_append_left (by simpa using hj),List.getElem?_replicate] at h
  split at h <;> simp at h
 ·rw [List.getElem?_append_right (by simpa using hj),List.length_replicate,List.getElem?_map] at h
  cases e:fr[j - n]? with
  | none=>rw [e] at h;simp at h
  | some i=>
    rw [e] at h
    simp only [Option.map_some,Option.some.injEq] at h
    cases e2:env[i]? with
    | none=>rw [e2] at h;cases h
    | some o=>
      cases o with
      | none=>rw [e2] at h;cases h
      | some sl=>
        cases sl with
        | own _=>rw [e2] at h;cases h
        | val d=>rw [e2] at h;cases h;exact ⟨i,d,by omega,rfl,e2,rfl⟩
theorem finv_block {K:PySem.W.Frag} {Oo:Addr→Prop} {c:Cf} {t:T} {σ:L2.St} {H:Hp} {n:Nat} {fr:List Nat} (f:FInv K Oo c t σ H):FInv K c.O c ⟨cenv n fr t.env,t.S⟩ (csig n fr σ) H:=by
 refine ⟨f.s,by simp [cenv,csig],fun _ z=>z,fun j d q=>?_,fun j es q=>?_,fun j _ es _ _ q _ _ _=>?_⟩
 ·obtain ⟨i,d',h0,h1,h2,h3⟩:=cenv_get q
  cases h3
  obtain ⟨v,h4,h5⟩:=f.val i d h2
  refine ⟨v,?_,h5⟩
  unfold csig
  rw [List.getElem?_append_right (by simpa using h0),List.length_replicate,List.getElem?_map,h1]
  simp [h4]
 ·obtain ⟨_,_,_,_,_,h⟩:=cenv_get q;cases h
 ·obtain ⟨_,_,_,_,_,h⟩:=cenv_get q;cases h
theorem RF.comp {K:PySem.W.Frag} {n:Nat} {fr:List Nat} {f:M (List D)} {st:D→M Unit} {tst:M Bool} {elt:M D} {σ:L2.St} {H:Hp} {Q:VK} (q:RF K (fComp n fr f st tst elt) σ H Q):tComp (RI K f) (RG K st) (RT K tst) (RE K elt) (csig n fr) σ H Q:=by
 obtain ⟨Oo,c,t,fi,xs,t',eq,k⟩:=q
 obtain ⟨ds,t1,e1,eq⟩:=bnd_some eq
 refine ⟨Oo,c,t,fi,ds,t1,e1,fun J H1 c1 f1 s1 it=>?_⟩
 cases e3:compL st tst elt ds ⟨cenv n fr t1.env,t1.S⟩ with
 | none=>rw [e3] at eq;cases eq
 | some p=>
   obtain ⟨ys,t3⟩:=p
   rw [e3] at eq
   dsimp only at eq
   split at eq
   case isFalse=>cases eq
   next hl=>
   cases eq
   refine ⟨fun i m acc σ' H'=>m=ds.length - i∧i≤ds.length∧∃c' t2 zs rest,FInv K c1.O c' t2 σ' H'∧Stp c1.O c1 H1 c' H'∧Reps K c' H' acc zs∧compL st tst elt (ds.drop i) t2=some (rest,t3)∧xs=zs++rest,
    ⟨_,rfl,Nat.zero_le _,c1,_,[],xs,finv_block f1,.refl,.nil,by rw [List.drop_zero];exact e3,rfl⟩,?_⟩
   rintro i m acc σ' H' ⟨rfl,hi,c',t2,zs,rest,f2,s2,ra,e2,ez⟩
   have hacc:acc.length≤sizeLine:=by
    have:zs.length≤xs.length:=by rw [ez,List.length_append];exact Nat.le_add_right _ _
    rw [ra.length]
    exact Nat.le_trans this (Nat.le_trans hl LIM_le)
   refine ⟨hacc,?_⟩
   by_cases hlt:i < ds.length
   ·refine .inr ⟨it.go c' H' i s2.ext hlt,fun x H'' hy=>?_⟩
    obtain ⟨rfl,rx⟩:=it.yld c' H' i x H'' _ s2.ext (List.getElem?_eq_getElem hlt) hy
    rw [List.drop_eq_getElem_cons hlt] at e2
    unfold compL at e2
    obtain ⟨u,t4,e4,e2⟩:=bnd_some e2
    obtain ⟨kb,t5,e5,e2⟩:=bnd_some e2
    refine ⟨c1.O,c',t2,_,f2,rx,t4,e4,fun σ3 H3 c3 f3 s3=>⟨c1.O,c3,t4,f3,kb,t5,e5,fun H4 c4 f4 s4=>?_⟩⟩
    cases kb with
    | false=>
      rw [if_neg Bool.false_ne_true] at e2 ⊢
      exact ⟨ds.length - (i + 1),by omega,rfl,hlt,c4,t5,zs,rest,f4,(s2.trans s3).trans s4,ra.mono (s3.trans s4).ext,e2,ez⟩
    | true=>
      rw [if_pos rfl] at e2 ⊢
      obtain ⟨x6,t6,e6,e2⟩:=bnd_some e2
      obtain ⟨r7,t7,e7,e2⟩:=bnd_some e2
      cases e2
      refine ⟨c1.O,c4,t5,f4,x6,t6,e6,fun v H5 c5 f5 s5 rv=>?_⟩
      exact ⟨ds.length - (i + 1),by omega,rfl,hlt,c5,t6,zs++[x6],r7,f5,((s2.trans s3).trans s4).trans s5,(ra.mono ((s3.trans s4).trans s5).ext).append (.cons rv .nil),e7,by rw [ez,List.append_assoc];rfl⟩
   ·have hi':i=ds.length:=by omega
    subst hi'
    rw [List.drop_length] at e2
    cases e2
    refine .inl ⟨it.stop c' H' s2.ext,fun p hp _=>?_⟩
    obtain ⟨si,ext⟩:=f2.leave
    obtain ⟨f6,s6⟩:=f1.after si ⟨s2.ext.trans ext,s2.oo⟩ (fun _=>Iff.rfl)
    rw [List.append_nil] at ez
    subst ez
    exact k p acc H' _ f6 (s1.trans s6) (ra.mono ext) hp
end
end F2
set_option Elab.async false
set_option linter.all false
set_option maxRecDepth 100000
set_option maxHeartbeats 2000000
set_option autoImplicit false
namespace F2
open PySem L2 PySem.Spec PySem.SeqAt
def eq0:D→D→Option Bool
 | .non,.non=>some true
 | .bl a,.bl b=>some (a == b)
 | .int a,.int b=>some (a == b)
 | .str a,.str b=>some (a == b)
 | .bl a,.int b=>some ((if a then (1:Int) else 0) == b)
 | .int a,.bl b=>some (a == (if b then (1:Int) else 0))
 | .non,.bl _=>some false | .non,.int _=>some false | .non,.str _=>some false | .non,.lst _=>some false | .non,.tup _=>some false
 | .bl _,.non=>some false | .bl _,.str _=>some false | .bl _,.lst _=>some false | .bl _,.tup _=>some false
 | .int _,.non=>some false | .int _,.str _=>some false | .int _,.lst _=>some false | .int _,.tup _=>some false
 | .str _,.non=>some false | .str _,.bl _=>some false | .str _,.int _=>some false | .str _,.lst _=>some false | .str _,.tup _=>some false
 | .lst _,.non=>some false | .lst _,.bl _=>some false | .lst _,.int _=>some false | .lst _,.str _=>some false | .lst _,.tup _=>some false
 | .tup _,.non=>some false | .tup _,.bl _=>some false | .tup _,.int _=>some false | .tup _,.str _=>some false | .tup _,.lst _=>some false
 | _,_=>none
def eqLs (f:D→D→Option Bool):List D→List D→Option Bool
 | x :: xs,y :: ys=>match f x y,eqLs f xs ys with
   | some a,some b=>some (a && b)
   | _,_=>none
 | _,_=>some true
def eqN:Nat→D→D→Option Bool
 | 0,x,y=>eq0 x y
 | n + 1,.tup xs,.tup ys=>(eqLs (eqN n) xs ys).map fun b=>b && xs.length == ys.length
 | n + 1,.lst xs,.lst ys=>if xs.length=ys.length then eqLs (eqN n) xs ys else some false
 | _ + 1,x,y=>eq0 x y
def ej (f:D→D→Option Bool) (xs ys:List D) (j:Nat):Bool:=match xs[j]?,ys[j]? with
 | some d,some e=>(f d e).getD true
 | _,_=>true
theorem eqLs_all {f:D→D→Option Bool}:∀{xs ys:List D} {b:Bool},eqLs f xs ys=some b→b=(List.range (min xs.length ys.length)).all (ej f xs ys)∧∀(j:Nat) d e,xs[j]?=some d→ys[j]?=some e→∃k,f d e=some k
 | [],ys,b,h=>by
   have h:some true=some b:=by simpa [eqLs] using h
   cases h
   refine ⟨by simp,fun j d e q _=>by simp at q⟩
 | x :: xs,[],b,h=>by
   have h:some true=some b:=by simpa [eqLs] using h
   cases h
   refine ⟨by simp,fun j d e _ q=>by simp at q⟩
 | x :: xs,y :: ys,b,h=>by
   unfold eqLs at h
   cases e1:f x y with
   | none=>rw [e1] at h;cases h
   | some a=>
     cases e2:eqLs f xs ys with
     | none=>rw [e1,e2] at h;cases h
     | some c=>
       rw [e1,e2] at h
       cases h
       obtain ⟨h1,h2⟩:=eqLs_all e2
       refine ⟨?_,fun j d e q1 q2=>?_⟩
       ·have hm:min (x :: xs).length (y :: ys).length=min xs.length ys.length + 1:=by simp [Nat.succ_min_succ]
        rw [hm,List.range_succ_eq_map,List.all_cons,List.all_map,h1]
        have:ej f (x :: xs) (y :: ys) 0=a:=by simp [ej,e1]
        rw [this]
        rfl
       ·cases j with
        | zero=>simp at q1 q2;subst q1 q2;exact ⟨a,e1⟩
        | succ j=>exact h2 j d e (by simpa using q1) (by simpa using q2)
theorem hok_list {P:Program} {w:World} {H:Hp} {h:Heap} {a:Addr} {vs:List V} (o:HOk P w H h) (e:H a=some (.lst vs)):∃its:List Value,Vals vs its∧h.IsList a its.toArray:=by
 obtain ⟨_,its,n,r,q⟩:=o a _ e
 exact ⟨its,r,_,q,rfl,n,rfl⟩
theorem hok_tup {P:Program} {w:World} {H:Hp} {h:Heap} {a:Addr} {vs:List V} (o:HOk P w H h) (e:H a=some (.tup vs)):∃its:List Value,Vals vs its∧h.IsTuple a its.toArray:=by
 obtain ⟨_,its,r,q⟩:=o a _ e
 exact ⟨its,r,q⟩
theorem val_at {vs:List V} {its:List Value} {j:Nat} (r:Vals vs its) (h:j < its.toArray.size):∃v,vs[j]?=some v∧RelV v its.toArray[j]:=by
 have h':j < its.length:=by simpa using h
 have hl:j < vs.length:=by rw [r.length];exact h'
 obtain ⟨u,e1,e2⟩:=r.get (List.getElem?_eq_getElem hl)
 refine ⟨vs[j],List.getElem?_eq_getElem hl,?_⟩
 rw [List.getElem?_eq_getElem h'] at e1
 cases e1
 simpa using e2
theorem eqLs_true {f:D→D→Option Bool} {xs ys:List D} {b:Bool} (h:eqLs f xs ys=some b) (ht:∀(j:Nat) d e k,xs[j]?=some d→ys[j]?=some e→f d e=some k→k=true):b=true:=by
 obtain ⟨h1,h2⟩:=eqLs_all h
 rw [h1,List.all_eq_true]
 intro j hj
 have hj':=List.mem_range.mp hj
 have l1:j < xs.length:=by omega
 have l2:j < ys.length:=by omega
 obtain ⟨k,ek⟩:=h2 j _ _ (List.getElem?_eq_getElem l1) (List.getElem?_eq_getElem l2)
 have:=ht j _ _ k (List.getElem?_eq_getElem l1) (List.getElem?_eq_getElem l2) ek
 unfold ej
 rw [List.getElem?_eq_getElem l1,List.getElem?_eq_getElem l2]
 simp [ek,this]
theorem eq_same {K:PySem.W.Frag} {c:Cf} {H:Hp}:∀(n:Nat) {v:V} {d e:D} {b:Bool},Rep K c H v d→Rep K c H v e→eqN n d e=some b→b=true
 | n,v,d,e,b,rd,re,q=>by
   have items:∀{m:Nat} {vs:List V} {ds es:List D} {b':Bool},n=m + 1→Reps K c H vs ds→Reps K c H vs es→eqLs (eqN m) ds es=some b'→b'=true:=fun {m vs ds es b'} hm r1 r2 e'=>
    eqLs_true e' fun j d e k q1 q2 ek=>by
     obtain ⟨v,g1,g2⟩:=r1.at q1
     exact eq_same m g2 (r2.get g1 q2) ek
   cases rd with
   | non=>cases re;cases n <;> cases q <;> rfl
   | bl k=>cases re;cases n <;> cases q <;> simp
   | int k=>cases re;cases n <;> cases q <;> simp
   | str k=>cases re;cases n <;> cases q <;> simp
   | ty k=>cases re;cases n <;> cases q
   | lst h1 h2 h3=>
     cases re with
     | lst g1 g2 g3=>
       rw [h1] at g1;cases g1
       cases n with
       | zero=>cases q
       | succ m=>
         have hl:_=_:=h3.length.symm.trans g3.length
         have q:(if _ then eqLs (eqN m) _ _ else some false)=some b:=q
         rw [if_pos hl] at q
         exact items rfl h3 g3 q
     | tup g1 g2 g3=>rw [h1] at g1;cases g1
     | _=>cases n <;> cases q
   | tup h1 h2 h3=>
     cases re with
     | tup g1 g2 g3=>
       rw [h1] at g1;cases g1
       cases n with
       | zero=>cases q
       | succ m=>
         have hl:_=_:=h3.length.symm.trans g3.length
         have q:(eqLs (eqN m) _ _).map (fun b=>b && _)=some b:=q
         obtain ⟨b',e1,e2⟩:=Option.map_eq_some_iff.mp q
         rw [←e2,items rfl h3 g3 e1,hl]
         simp
     | lst g1 g2 g3=>rw [h1] at g1;cases g1
     | _=>cases n <;> cases q
   | _=>cases re <;> cases n <;> cases q
theorem eqAt_of {P:Program} {w:World} {K:PySem.W.Frag} {c:Cf} {H:Hp} {s:Shared} (hok:HOk P w H s.heap):∀(n:Nat) {A:Around} {x y:V} {u v:Value} {dx dy:D} {b:Bool},RelV x u→RelV y v→Rep K c H x dx→Rep K c H y dy→eqN n dx dy=some b→A.units + n < cLine→
 RcAt A s u v b∧(EqAt A s u v b)
 | n,A,x,y,u,v,dx,dy,b,ru,rv,rx,ry,e,hu=>by
   have items:∀{m:Nat} {vs ws:List V} {is js:List Value} {ds es:List D} {b':Bool},n=m + 1→Vals vs is→Vals ws js→Reps K c H vs ds→Reps K c H ws es→eqLs (eqN m) ds es=some b'→
    ∀j (h1:j < is.toArray.size) (h2:j < js.toArray.size),EqAt A.in1 s is.toArray[j] js.toArray[j] (ej (eqN m) ds es j):=fun {m vs ws is js ds es b'} hm r1 r2 q1 q2 e' j h1 h2=>by
    obtain ⟨v1,a1,a2⟩:=val_at r1 h1
    obtain ⟨v2,b1,b2⟩:=val_at r2 h2
    obtain ⟨l1,g1⟩:=List.getElem?_eq_some_iff.mp a1
    obtain ⟨l2,g2⟩:=List.getElem?_eq_some_iff.mp b1
    have k1:ds[j]?=some (ds[j]'(by rw [←q1.length];exact l1)):=List.getElem?_eq_getElem _
    have k2:es[j]?=some (es[j]'(by rw [←q2.length];exact l2)):=List.getElem?_eq_getElem _
    obtain ⟨kk,ek⟩:=(eqLs_all e').2 j _ _ k1 k2
    have:ej (eqN m) ds es j=kk:=by unfold ej;rw [k1,k2];simp [ek]
    rw [this]
    have hu':A.in1.units + m < cLine:=by
     have:A.in1.units=A.units + 1:=by first | rfl | exact Around.units_in1 _ | simp [Around.in1,Around.units]
     omega
    exact (eqAt_of hok m a2 b2 (q1.get a1 k1) (q2.get b1 k2) ek hu').2
   have hu0:A.units < cLine:=by omega
   have conc:∀{p q:Addr} {k:Bool},p≠q→RcAt A s (.ref p) (.ref q) k→RcAt A s (.ref p) (.ref q) k∧EqAt A s (.ref p) (.ref q) k:=fun hn h=>⟨h,EqAt.of_refs hn h⟩
   cases rx with
   | non=>
     cases ru
     cases ry with
     | non=>cases rv;cases n <;> cases e <;> exact ⟨RcAt.none_none,EqAt.same _⟩
     | bl k=>cases rv;cases n <;> cases e <;> exact ⟨RcAt.none_bool _,EqAt.none_bool _⟩
     | int k=>obtain ⟨t,rfl⟩:=rv;cases n <;> cases e <;> exact ⟨RcAt.none_int _ _,EqAt.none_int _ _⟩
     | str k=>obtain ⟨t,rfl⟩:=rv;cases n <;> cases e <;> exact ⟨RcAt.none_str _ _,EqAt.none_str _ _⟩
     | lst h1 h2 h3=>cases rv;obtain ⟨its,r,l⟩:=hok_list hok h1;cases n <;> cases e <;> exact ⟨RcAt.none_list l hu0,EqAt.none_list l hu0⟩
     | tup h1 h2 h3=>cases rv;obtain ⟨its,r,l⟩:=hok_tup hok h1;cases n <;> cases e <;> exact ⟨RcAt.none_tuple l hu0,EqAt.none_tuple l hu0⟩
     | _=>cases n <;> cases e
   | bl k'=>
     cases ru
     cases ry with
     | non=>cases rv;cases n <;> cases e <;> exact ⟨RcAt.bool_none _,EqAt.bool_none _⟩
     | bl k=>cases rv;cases n <;> cases e <;> exact ⟨RcAt.bool_bool _ _,EqAt.bool_bool _ _⟩
     | int k=>obtain ⟨t,rfl⟩:=rv;cases n <;> cases e <;> exact ⟨RcAt.bool_int _ _ _,EqAt.bool_int _ _ _⟩
     | str k=>obtain ⟨t,rfl⟩:=rv;cases n <;> cases e <;> exact ⟨RcAt.bool_str _ _ _,EqAt.bool_str _ _ _⟩
     | lst h1 h2 h3=>cases rv;obtain ⟨its,r,l⟩:=hok_list hok h1;cases n <;> cases e <;> exact ⟨RcAt.bool_list _ l hu0,EqAt.bool_list _ l hu0⟩
     | tup h1 h2 h3=>cases rv;obtain ⟨its,r,l⟩:=hok_tup hok h1;cases n <;> cases e <;> exact ⟨RcAt.bool_tuple _ l hu0,EqAt.bool_tuple _ l hu0⟩
     | _=>cases n <;> cases e
   | int k'=>
     obtain ⟨t',rfl⟩:=ru
     cases ry with
     | non=>cases rv;cases n <;> cases e <;> exact ⟨RcAt.int_none _ _,EqAt.int_none _ _⟩
     | bl k=>cases rv;cases n <;> cases e <;> exact ⟨RcAt.int_bool _ _ _,EqAt.int_bool _ _ _⟩
     | int k=>obtain ⟨t,rfl⟩:=rv;cases n <;> cases e <;> exact ⟨RcAt.int_int _ _ _ _,EqAt.int_int _ _ _ _⟩
     | str k=>obtain ⟨t,rfl⟩:=rv;cases n <;> cases e <;> exact ⟨RcAt.int_str _ _ _ _,EqAt.int_str _ _ _ _⟩
     | lst h1 h2 h3=>cases rv;obtain ⟨its,r,l⟩:=hok_list hok h1;cases n <;> cases e <;> exact ⟨RcAt.int_list _ _ l hu0,EqAt.int_list _ _ l hu0⟩
     | tup h1 h2 h3=>cases rv;obtain ⟨its,r,l⟩:=hok_tup hok h1;cases n <;> cases e <;> exact ⟨RcAt.int_tuple _ _ l hu0,EqAt.int_tuple _ _ l hu0⟩
     | _=>cases n <;> cases e
   | str k'=>
     obtain ⟨t',rfl⟩:=ru
     cases ry with
     | non=>cases rv;cases n <;> cases e <;> exact ⟨RcAt.str_none _ _,EqAt.str_none _ _⟩
     | bl k=>cases rv;cases n <;> cases e <;> exact ⟨RcAt.str_bool _ _ _,EqAt.str_bool _ _ _⟩
     | int k=>obtain ⟨t,rfl⟩:=rv;cases n <;> cases e <;> exact ⟨RcAt.str_int _ _ _ _,EqAt.str_int _ _ _ _⟩
     | str k=>obtain ⟨t,rfl⟩:=rv;cases n <;> cases e <;> exact ⟨RcAt.str_str _ _ _ _,EqAt.str_str _ _ _ _⟩
     | lst h1 h2 h3=>cases rv;obtain ⟨its,r,l⟩:=hok_list hok h1;cases n <;> cases e <;> exact ⟨RcAt.str_list _ _ l hu0,EqAt.str_list _ _ l hu0⟩
     | tup h1 h2 h3=>cases rv;obtain ⟨its,r,l⟩:=hok_tup hok h1;cases n <;> cases e <;> exact ⟨RcAt.str_tuple _ _ l hu0,EqAt.str_tuple _ _ l hu0⟩
     | _=>cases n <;> cases e
   | @lst p vs ds g1 g2 g3=>
     cases ru
     obtain ⟨is,r1,l1⟩:=hok_list hok g1
     cases ry with
     | non=>cases rv;cases n <;> cases e <;> exact ⟨RcAt.list_none l1 hu0,EqAt.list_none l1 hu0⟩
     | bl k=>cases rv;cases n <;> cases e <;> exact ⟨RcAt.list_bool _ l1 hu0,EqAt.list_bool _ l1 hu0⟩
     | int k=>obtain ⟨t,rfl⟩:=rv;cases n <;> cases e <;> exact ⟨RcAt.list_int _ _ l1 hu0,EqAt.list_int _ _ l1 hu0⟩
     | str k=>obtain ⟨t,rfl⟩:=rv;cases n <;> cases e <;> exact ⟨RcAt.list_str _ _ l1 hu0,EqAt.list_str _ _ l1 hu0⟩
     | @tup q ws es h1 h2 h3=>cases rv;obtain ⟨js,r2,l2⟩:=hok_tup hok h1;cases n <;> cases e <;> exact ⟨RcAt.list_tuple l1 l2 hu0,EqAt.list_tuple l1 l2 hu0⟩
     | @lst q ws es h1 h2 h3=>
       cases rv
       obtain ⟨js,r2,l2⟩:=hok_list hok h1
       cases n with
       | zero=>cases e
       | succ m=>
         have hs1:is.toArray.size=ds.length:=by rw [←g3.length,r1.length];simp
         have hs2:js.toArray.size=es.length:=by rw [←h3.length,r2.length];simp
         have e:(if ds.length=es.length then eqLs (eqN m) ds es else some false)=some b:=e
         by_cases hl:ds.length=es.length
         ·rw [if_pos hl] at e
          have hsz:is.toArray.size=js.toArray.size:=by rw [hs1,hs2,hl]
          have rc:=RcAt.lists l1 l2 hsz hu0 (items rfl r1 r2 g3 h3 e)
          have eb:(List.range is.toArray.size).all (ej (eqN m) ds es)=b:=by rw [(eqLs_all e).1,hs1,←hl,Nat.min_self]
          rw [eb] at rc
          by_cases hpq:p=q
          ·refine ⟨rc,?_⟩
           subst hpq
           have:=eq_same (m + 1) (Rep.lst g1 g2 g3) (Rep.lst h1 h2 h3) (by show (if ds.length=es.length then eqLs (eqN m) ds es else some false)=some b;rw [if_pos hl];exact e)
           rw [this]
           exact EqAt.same _
          ·exact conc hpq rc
         ·rw [if_neg hl] at e
          cases e
          have hsz:(is.toArray.size != js.toArray.size)=true:=by rw [hs1,hs2];simpa using hl
          refine conc (fun z=>hl ?_) (RcAt.lists_lengths l1 l2 hsz hu0)
          subst z
          rw [g1] at h1;cases h1
          rw [←g3.length,←h3.length]
     | _=>cases n <;> cases e
   | @tup p vs ds g1 g2 g3=>
     cases ru
     obtain ⟨is,r1,l1⟩:=hok_tup hok g1
     cases ry with
     | non=>cases rv;cases n <;> cases e <;> exact ⟨RcAt.tuple_none l1 hu0,EqAt.tuple_none l1 hu0⟩
     | bl k=>cases rv;cases n <;> cases e <;> exact ⟨RcAt.tuple_bool _ l1 hu0,EqAt.tuple_bool _ l1 hu0⟩
     | int k=>obtain ⟨t,rfl⟩:=rv;cases n <;> cases e <;> exact ⟨RcAt.tuple_int _ _ l1 hu0,EqAt.tuple_int _ _ l1 hu0⟩
     | str k=>obtain ⟨t,rfl⟩:=rv;cases n <;> cases e <;> exact ⟨RcAt.tuple_str _ _ l1 hu0,EqAt.tuple_str _ _ l1 hu0⟩
     | @lst q ws es h1 h2 h3=>cases rv;obtain ⟨js,r2,l2⟩:=hok_list hok h1;cases n <;> cases e <;> exact ⟨RcAt.tuple_list l1 l2 hu0,EqAt.tuple_list l1 l2 hu0⟩
     | @tup q ws es h1 h2 h3=>
       cases rv
       obtain ⟨js,r2,l2⟩:=hok_tup hok h1
       cases n with
       | zero=>cases e
       | succ m=>
         have hs1:is.toArray.size=ds.length:=by rw [←g3.length,r1.length];simp
         have hs2:js.toArray.size=es.length:=by rw [←h3.length,r2.length];simp
         have e0:=e
         have e:(eqLs (eqN m) ds es).map (fun b=>b && ds.length == es.length)=some b:=e
         obtain ⟨b',e1,e2⟩:=Option.map_eq_some_iff.mp e
         have rc:=RcAt.tuples l1 l2 hu0 (items rfl r1 r2 g3 h3 e1)
         have eb:((List.range (min is.toArray.size js.toArray.size)).all (ej (eqN m) ds es) && is.toArray.size == js.toArray.size)=b:=by rw [hs1,hs2,←(eqLs_all e1).1];exact e2
         rw [eb] at rc
         by_cases hpq:p=q
         ·refine ⟨rc,?_⟩
          subst hpq
          have:=eq_same (m + 1) (Rep.tup g1 g2 g3) (Rep.tup h1 h2 h3) e0
          rw [this]
          exact EqAt.same _
         ·exact conc hpq rc
     | _=>cases n <;> cases e
   | _=>cases ry <;> cases n <;> cases e
theorem neAt_of {P:Program} {w:World} {K:PySem.W.Frag} {c:Cf} {H:Hp} {s:Shared} (hok:HOk P w H s.heap) (n:Nat) {A:Around} {x y:V} {u v:Value} {dx dy:D} {b:Bool} (ru:RelV x u) (rv:RelV y v) (rx:Rep K c H x dx) (ry:Rep K c H y dy) (e:eqN n dx dy=some b) (hu:A.units + n < cLine) :
 RcNeAt A s u v (!b):=by
 have items:∀{m:Nat} {vs ws:List V} {is js:List Value} {ds es:List D} {b':Bool},n=m + 1→Vals vs is→Vals ws js→Reps K c H vs ds→Reps K c H ws es→eqLs (eqN m) ds es=some b'→
  ∀j (h1:j < is.toArray.size) (h2:j < js.toArray.size),EqAt A.in1 s is.toArray[j] js.toArray[j] (ej (eqN m) ds es j):=fun {m vs ws is js ds es b'} hm r1 r2 q1 q2 e' j h1 h2=>by
  obtain ⟨v1,a1,a2⟩:=val_at r1 h1
  obtain ⟨v2,b1,b2⟩:=val_at r2 h2
  obtain ⟨l1,g1⟩:=List.getElem?_eq_some_iff.mp a1
  obtain ⟨l2,g2⟩:=List.getElem?_eq_some_iff.mp b1
  have k1:ds[j]?=some (ds[j]'(by rw [←q1.length];exact l1)):=List.getElem?_eq_getElem _
  have k2:es[j]?=some (es[j]'(by rw [←q2.length];exact l2)):=List.getElem?_eq_getElem _
  obtain ⟨kk,ek⟩:=(eqLs_all e').2 j _ _ k1 k2
  have:ej (eqN m) ds es j=kk:=by unfold ej;rw [k1,k2];simp [ek]
  rw [this]
  have hu':A.in1.units + m < cLine:=by
   have:A.in1.units=A.units + 1:=rfl
   omega
  exact (eqAt_of hok m a2 b2 (q1.get a1 k1) (q2.get b1 k2) ek hu').2
 have hu0:A.units < cLine:=by omega
 cases rx with
 | non=>
   cases ru
   cases ry with
   | non=>cases rv;cases n <;> cases e <;> exact RcNeAt.none_none
   | bl k=>cases rv;cases n <;> cases e <;> exact RcNeAt.none_bool _
   | int k=>obtain ⟨t,rfl⟩:=rv;cases n <;> cases e <;> exact RcNeAt.none_int _ _
   | str k=>obtain ⟨t,rfl⟩:=rv;cases n <;> cases e <;> exact RcNeAt.none_str _ _
   | lst h1 h2 h3=>cases rv;obtain ⟨its,r,l⟩:=hok_list hok h1;cases n <;> cases e <;> exact RcNeAt.none_list l hu0
   | tup h1 h2 h3=>cases rv;obtain ⟨its,r,l⟩:=hok_tup hok h1;cases n <;> cases e <;> exact RcNeAt.none_tuple l hu0
   | _=>cases n <;> cases e
 | bl k'=>
   cases ru
   cases ry with
   | non=>cases rv;cases n <;> cases e <;> exact RcNeAt.bool_none _
   | bl k=>cases rv;cases n <;> cases e <;> exact RcNeAt.bool_bool _ _
   | int k=>obtain ⟨t,rfl⟩:=rv;cases n <;> cases e <;> exact RcNeAt.bool_int _ _ _
   | str k=>obtain ⟨t,rfl⟩:=rv;cases n <;> cases e <;> exact RcNeAt.bool_str _ _ _
   | lst h1 h2 h3=>cases rv;obtain ⟨its,r,l⟩:=hok_list hok h1;cases n <;> cases e <;> exact RcNeAt.bool_list _ l hu0
   | tup h1 h2 h3=>cases rv;obtain ⟨its,r,l⟩:=hok_tup hok h1;cases n <;> cases e <;> exact RcNeAt.bool_tuple _ l hu0
   | _=>cases n <;> cases e
 | int k'=>
   obtain ⟨t',rfl⟩:=ru
   cases ry with
   | non=>cases rv;cases n <;> cases e <;> exact RcNeAt.int_none _ _
   | bl k=>cases rv;cases n <;> cases e <;> exact RcNeAt.int_bool _ _ _
   | int k=>obtain ⟨t,rfl⟩:=rv;cases n <;> cases e <;> exact RcNeAt.int_int _ _ _ _
   | str k=>obtain ⟨t,rfl⟩:=rv;cases n <;> cases e <;> exact RcNeAt.int_str _ _ _ _
   | lst h1 h2 h3=>cases rv;obtain ⟨its,r,l⟩:=hok_list hok h1;cases n <;> cases e <;> exact RcNeAt.int_list _ _ l hu0
   | tup h1 h2 h3=>cases rv;obtain ⟨its,r,l⟩:=hok_tup hok h1;cases n <;> cases e <;> exact RcNeAt.int_tuple _ _ l hu0
   | _=>cases n <;> cases e
 | str k'=>
   obtain ⟨t',rfl⟩:=ru
   cases ry with
   | non=>cases rv;cases n <;> cases e <;> exact RcNeAt.str_none _ _
   | bl k=>cases rv;cases n <;> cases e <;> exact RcNeAt.str_bool _ _ _
   | int k=>obtain ⟨t,rfl⟩:=rv;cases n <;> cases e <;> exact RcNeAt.str_int _ _ _ _
   | str k=>obtain ⟨t,rfl⟩:=rv;cases n <;> cases e <;> exact RcNeAt.str_str _ _ _ _
   | lst h1 h2 h3=>cases rv;obtain ⟨its,r,l⟩:=hok_list hok h1;cases n <;> cases e <;> exact RcNeAt.str_list _ _ l hu0
   | tup h1 h2 h3=>cases rv;obtain ⟨its,r,l⟩:=hok_tup hok h1;cases n <;> cases e <;> exact RcNeAt.str_tuple _ _ l hu0
   | _=>cases n <;> cases e
 | @lst p vs ds g1 g2 g3=>
   cases ru
   obtain ⟨is,r1,l1⟩:=hok_list hok g1
   cases ry with
   | non=>cases rv;cases n <;> cases e <;> exact RcNeAt.list_none l1 hu0
   | bl k=>cases rv;cases n <;> cases e <;> exact RcNeAt.list_bool _ l1 hu0
   | int k=>obtain ⟨t,rfl⟩:=rv;cases n <;> cases e <;> exact RcNeAt.list_int _ _ l1 hu0
   | str k=>obtain ⟨t,rfl⟩:=rv;cases n <;> cases e <;> exact RcNeAt.list_str _ _ l1 hu0
   | @tup q ws es h1 h2 h3=>cases rv;obtain ⟨js,r2,l2⟩:=hok_tup hok h1;cases n <;> cases e <;> exact RcNeAt.list_tuple l1 l2 hu0
   | @lst q ws es h1 h2 h3=>
     cases rv
     obtain ⟨js,r2,l2⟩:=hok_list hok h1
     cases n with
     | zero=>cases e
     | succ m=>
       have hs1:is.toArray.size=ds.length:=by rw [←g3.length,r1.length];simp
       have hs2:js.toArray.size=es.length:=by rw [←h3.length,r2.length];simp
       have e:(if ds.length=es.length then eqLs (eqN m) ds es else some false)=some b:=e
       by_cases hl:ds.length=es.length
       ·rw [if_pos hl] at e
        have hsz:is.toArray.size=js.toArray.size:=by rw [hs1,hs2,hl]
        have rc:=RcNeAt.lists l1 l2 hsz hu0 (items rfl r1 r2 g3 h3 e)
        have eb:(List.range is.toArray.size).all (ej (eqN m) ds es)=b:=by rw [(eqLs_all e).1,hs1,←hl,Nat.min_self]
        rw [eb] at rc
        exact rc
       ·rw [if_neg hl] at e
        cases e
        exact RcNeAt.lists_lengths l1 l2 (by rw [hs1,hs2];simpa using hl) hu0
   | _=>cases n <;> cases e
 | @tup p vs ds g1 g2 g3=>
   cases ru
   obtain ⟨is,r1,l1⟩:=hok_tup hok g1
   cases ry with
   | non=>cases rv;cases n <;> cases e <;> exact RcNeAt.tuple_none l1 hu0
   | bl k=>cases rv;cases n <;> cases e <;> exact RcNeAt.tuple_bool _ l1 hu0
   | int k=>obtain ⟨t,rfl⟩:=rv;cases n <;> cases e <;> exact RcNeAt.tuple_int _ _ l1 hu0
   | str k=>obtain ⟨t,rfl⟩:=rv;cases n <;> cases e <;> exact RcNeAt.tuple_str _ _ l1 hu0
   | @lst q ws es h1 h2 h3=>cases rv;obtain ⟨js,r2,l2⟩:=hok_list hok h1;cases n <;> cases e <;> exact RcNeAt.tuple_list l1 l2 hu0
   | @tup q ws es h1 h2 h3=>
     cases rv
     obtain ⟨js,r2,l2⟩:=hok_tup hok h1
     cases n with
     | zero=>cases e
     | succ m=>
       have hs1:is.toArray.size=ds.length:=by rw [←g3.length,r1.length];simp
       have hs2:js.toArray.size=es.length:=by rw [←h3.length,r2.length];simp
       have e:(eqLs (eqN m) ds es).map (fun b=>b && ds.length == es.length)=some b:=e
       obtain ⟨b',e1,e2⟩:=Option.map_eq_some_iff.mp e
       have rc:=RcNeAt.tuples l1 l2 hu0 (items rfl r1 r2 g3 h3 e1)
       have eb:((List.range (min is.toArray.size js.toArray.size)).all (ej (eqN m) ds es) && is.toArray.size == js.toArray.size)=b:=by rw [hs1,hs2,←(eqLs_all e1).1];exact e2
       rw [eb] at rc
       exact rc
   | _=>cases n <;> cases e
 | _=>cases ry <;> cases n <;> cases e
def EQD:Nat:=40
def neD (x y:D):M D:=fun t=>(eqN EQD x y).map fun b=>(.bl (!b),t)
def rEqD (K:PySem.W.Frag) (g:Bool→Bool):R2:=fun x y H Q=>∃c dx dy b,Rep K c H x dx∧Rep K c H y dy∧eqN EQD dx dy=some b∧Q (.bl (g b)) H
theorem op_eqD {X:Cx} (hu:X.A.units + 64 < cLine):OpR X (compareOp .Eq) (rEqD X.K id):=by
 intro pins s σ H x y v u Q I rx ry h
 obtain ⟨c,dx,dy,b,q1,q2,e,q⟩:=h
 have hu':X.A.units + EQD < cLine:=by unfold EQD;omega
 exact (eqAt_of I.hok EQD rx ry q1 q2 e hu').1 X.prog X.w _ _ ⟨.bl b,H,I,rfl,q⟩
theorem op_neD {X:Cx} (hu:X.A.units + 64 < cLine):OpR X (compareOp .NotEq) (rEqD X.K (!·)):=by
 intro pins s σ H x y v u Q I rx ry h
 obtain ⟨c,dx,dy,b,q1,q2,e,q⟩:=h
 have hu':X.A.units + EQD < cLine:=by unfold EQD;omega
 exact neAt_of I.hok EQD rx ry q1 q2 e hu' X.prog X.w _ _ ⟨.bl (!b),H,I,rfl,q⟩
end F2
set_option Elab.async false
set_option linter.all false
set_option maxRecDepth 100000
set_option maxHeartbeats 4000000
set_option autoImplicit false
namespace F2
open PySem L2 PySem.Spec
section
variable {K:PySem.W.Frag}
def i2 (g:Int→Int→D):D→D→M D
 | .int i,.int j=>ret (g i j)
 | _,_=>fail
theorem i2_inv {g:Int→Int→D} {x y:D} {t:T} {z:D×T} (h:i2 g x y t=some z):∃i j,x = .int i∧y = .int j∧z=(g i j,t):=by
 cases x with
 | int i=>cases y with
   | int j=>cases h;exact ⟨i,j,rfl,rfl,rfl⟩
   | _=>cases h
 | _=>cases h
theorem sem_i2 {gV:Int→Int→V} {g:Int→Int→D} (hr:∀i j c H,Rep K c H (gV i j) (g i j)):Sem2 K (rI0 gV) (i2 g):=fun {Oo c t σ H x y dx dy r t' Q} f rx ry eq k=>by
 obtain ⟨i,j,rfl,rfl,z⟩:=i2_inv eq
 cases z
 cases rx
 cases ry
 exact ⟨i,j,rfl,rfl,k _ H c f .refl (hr i j c H)⟩
def i2C (C:Int→Int→Bool) (g:Int→Int→D):D→D→M D
 | .int i,.int j=>fun t=>if C i j=true then some (g i j,t) else none
 | _,_=>fail
theorem i2C_inv {C:Int→Int→Bool} {g:Int→Int→D} {x y:D} {t:T} {z:D×T} (h:i2C C g x y t=some z):∃i j,x = .int i∧y = .int j∧C i j=true∧z=(g i j,t):=by
 cases x with
 | int i=>cases y with
   | int j=>
     unfold i2C at h
     dsimp only at h
     by_cases hc:C i j=true
     ·rw [if_pos hc] at h;cases h;exact ⟨i,j,rfl,rfl,hc,rfl⟩
     ·rw [if_neg hc] at h;cases h
   | _=>cases h
 | _=>cases h
theorem sem_i2C {P:Int→Int→Prop} {C:Int→Int→Bool} {gV:Int→Int→V} {g:Int→Int→D} (hP:∀i j,C i j=true→P i j) (hr:∀i j c H,Rep K c H (gV i j) (g i j)):Sem2 K (rI P gV) (i2C C g):=fun {Oo c t σ H x y dx dy r t' Q} f rx ry eq k=>by
 obtain ⟨i,j,rfl,rfl,hc,z⟩:=i2C_inv eq
 cases z
 cases rx
 cases ry
 exact ⟨i,j,rfl,rfl,hP i j hc,k _ H c f .refl (hr i j c H)⟩
theorem Sem2.or {R R':R2} {h h1 h2:D→D→M D} (s1:Sem2 K R h1) (s2:Sem2 K R' h2) (he:∀x y,h x y=h1 x y∨h x y=h2 x y):Sem2 K (fun x y H Q=>R x y H Q∨R' x y H Q) h:=fun {Oo c t σ H x y dx dy r t' Q} f rx ry eq k=>by
 rcases he dx dy with z | z
 ·rw [z] at eq;exact .inl (s1 f rx ry eq k)
 ·rw [z] at eq;exact .inr (s2 f rx ry eq k)
def subD:=i2 fun i j=>.int (i - j)
def divOk (_ j:Int):Bool:=decide (0 < j) && decide (j < 1073741824)
def fdivD:=i2C divOk fun i j=>.int (i / j)
def modD:=i2C (fun _ j=>decide (0 < j)) fun i j=>.int (i % j)
def powOk (i j:Int):Bool:=decide (0≤j) && decide (j≤1000000) && decide (i.natAbs < 2 ^ 64)
def powD:=i2C powOk fun i j=>.int (i ^ j.toNat)
def mulOk (i j:Int):Bool:=(decide (-(2 ^ 64) < i) && decide (i < 2 ^ 64)) || (decide (-(2 ^ 64) < j) && decide (j < 2 ^ 64))
theorem sem_sub:Sem2 K (rI0 fun i j=>.int (i - j)) subD:=sem_i2 fun i j _ _=>.int _
theorem sem_mod:Sem2 K (rI (fun _ j=>0 < j) fun i j=>.int (i % j)) modD:=sem_i2C (fun i j h=>of_decide_eq_true h) fun i j _ _=>.int _
theorem sem_pow:Sem2 K (rI CPow fun i j=>.int (i ^ j.toNat)) powD:=sem_i2C (fun i j h=>by
 unfold powOk at h;rw [Bool.and_eq_true,Bool.and_eq_true] at h;exact ⟨of_decide_eq_true h.1.1,of_decide_eq_true h.1.2,of_decide_eq_true h.2⟩) fun i j _ _=>.int _
theorem mulOk_iff {i j:Int} (h:mulOk i j=true):CMul i j:=by
 unfold mulOk at h
 rw [Bool.or_eq_true,Bool.and_eq_true,Bool.and_eq_true] at h
 rcases h with h | h
 ·exact .inl ⟨of_decide_eq_true h.1,of_decide_eq_true h.2⟩
 ·exact .inr ⟨of_decide_eq_true h.1,of_decide_eq_true h.2⟩
def negD:D→M D
 | .int i=>ret (.int (-i))
 | _=>fail
theorem sem_neg:Sem1 K (rU fun i=>.int (-i)) negD:=fun {Oo c t σ H x dx r t' Q} f rx eq k=>by
 cases rx with
 | int i=>cases eq;exact ⟨i,rfl,k _ H c f .refl (.int _)⟩
 | _=>cases eq
def addD:D→D→M D
 | .int i,.int j=>ret (.int (i + j))
 | .str x,.str y=>lim (x.length + y.length) (.str (x++y))
 | .lst xs,.lst ys=>lim (xs.length + ys.length) (.lst (xs++ys))
 | .tup xs,.tup ys=>fun t=>if xs.isEmpty=false∧xs.length + ys.length≤LIM then some (.tup (xs++ys),t) else none
 | _,_=>fail
def rStrAdd:R2:=fun x y H Q=>∃i j,x = .str i∧y = .str j∧i.length + j.length≤sizeLine∧Q (.str (i++j)) H
def rAdd4 (K:PySem.W.Frag):R2:=fun x y H Q=>rI0 (fun i j=>.int (i + j)) x y H Q∨(rStrAdd x y H Q∨(rCat x y H Q∨rCatT K x y H Q))
theorem op_add4 {X:Cx}:OpR X (binaryOp .Add) (rAdd4 X.K):=op_add.or (op_add_str.or (op_cat.or op_catT))
theorem sem_add:Sem2 K (rAdd4 K) addD:=fun {Oo c t σ H x y dx dy r t' Q} f rx ry eq k=>by
 cases rx with
 | int i=>
   cases ry with
   | int j=>cases eq;exact .inl ⟨i,j,rfl,rfl,k _ H c f .refl (.int _)⟩
   | _=>cases eq
 | str i=>
   cases ry with
   | str j=>
     obtain ⟨h,z⟩:=lim_some eq
     cases z
     exact .inr (.inl ⟨i,j,rfl,rfl,Nat.le_trans h LIM_le,k _ H c f .refl (.str _)⟩)
   | _=>cases eq
 | @lst a vs ds h1 h2 h3=>
   cases ry with
   | @lst b ws es g1 g2 g3=>
     obtain ⟨h,z⟩:=lim_some eq
     cases z
     refine .inr (.inr (.inl ⟨a,b,vs,ws,rfl,rfl,h1,g1,?_,fun p hp=>?_⟩))
     ·rw [h3.length,g3.length];exact Nat.le_trans h LIM_le
     ·exact k _ _ c (f.laid hp) (f.stp_laid hp) (.lst upd_same (f.s.free hp) ((h3.append g3).mono (Ext.laid f.s hp)))
   | _=>cases eq
 | @tup a vs ds h1 h2 h3=>
   cases ry with
   | @tup b ws es g1 g2 g3=>
     unfold addD at eq
     dsimp only at eq
     split at eq
     ·next h=>
      cases eq
      have hne:vs≠[]:=fun z=>by
       have:=h3.length
       rw [z] at this
       have h0:ds.length=0:=this.symm
       have:ds=[]:=List.length_eq_zero_iff.mp h0
       rw [this] at h
       simp at h
      refine .inr (.inr (.inr ⟨a,b,vs,ws,rfl,rfl,SqT.of h1,SqT.of g1,hne,?_,fun z=>?_,fun z p hp=>?_⟩))
      ·rw [h3.length,g3.length];exact Nat.le_trans h.2 LIM_le
      ·subst z
       have:es=[]:=List.length_eq_zero_iff.mp g3.length.symm
       subst this
       rw [List.append_nil] at k
       exact k _ H c f .refl (.tup h1 h2 h3)
      ·exact k _ _ c (f.laid hp) (f.stp_laid hp) (.tup upd_same (f.s.free hp) ((h3.append g3).mono (Ext.laid f.s hp)))
     ·cases eq
   | _=>cases eq
 | _=>cases eq
def catF:D→D→M (List D)
 | .lst xs,.lst ys=>lim (xs.length + ys.length) (xs++ys)
 | _,_=>fail
theorem sem_catF:Sem2F K rCat catF:=fun {Oo c t σ H x y dx dy r t' Q} f rx ry eq k=>by
 cases rx with
 | @lst a vs ds h1 h2 h3=>
   cases ry with
   | @lst b ws es g1 g2 g3=>
     obtain ⟨h,z⟩:=lim_some eq
     cases z
     refine ⟨a,b,vs,ws,rfl,rfl,h1,g1,?_,fun p hp=>k p _ H c f .refl (h3.append g3) hp⟩
     rw [h3.length,g3.length];exact Nat.le_trans h LIM_le
   | _=>cases eq
 | _=>cases eq
def isC:D→D→M D
 | x,.non=>fun t=>some (.bl (match x with | .non=>true | _=>false),t)
 | x,.bl b=>fun t=>some (.bl (match x with | .bl c=>c == b | _=>false),t)
 | _,_=>fail
def isNotC (x y:D):M D:=bnd (isC x y) fun d=>match d with | .bl b=>ret (.bl (!b)) | _=>fail
def rIs (g:Bool→Bool):R2:=fun x y H Q=>(y = .non∨∃b,y = .bl b)∧Q (.bl (g (decide (x=y)))) H
theorem beq_rel {x y:V} {v u:Value} (rx:RelV x v) (ry:RelV y u) (hy:y = .non∨∃b,y = .bl b):plainIs v u=true∧(v == u)=decide (x=y):=by
 rcases hy with rfl | ⟨b,rfl⟩
 ·cases ry
  cases x with
  | non=>cases rx;exact ⟨rfl,by simp⟩
  | bl _=>cases rx;exact ⟨rfl,by simp⟩
  | int _=>obtain ⟨t,rfl⟩:=rx;exact ⟨rfl,by simp⟩
  | str _=>obtain ⟨t,rfl⟩:=rx;exact ⟨rfl,by simp⟩
  | byt _=>obtain ⟨t,rfl⟩:=rx;exact ⟨rfl,by simp⟩
  | flt _=>obtain ⟨t,rfl⟩:=rx;exact ⟨rfl,by simp⟩
  | ref _=>cases rx;exact ⟨rfl,by simp⟩
  | ty _=>cases rx;exact ⟨rfl,by simp⟩
 ·cases ry
  cases x with
  | non=>cases rx;exact ⟨rfl,by simp⟩
  | bl c=>cases rx;exact ⟨rfl,by simp;cases c <;> cases b <;> rfl⟩
  | int _=>obtain ⟨t,rfl⟩:=rx;exact ⟨rfl,by simp⟩
  | str _=>obtain ⟨t,rfl⟩:=rx;exact ⟨rfl,by simp⟩
  | byt _=>obtain ⟨t,rfl⟩:=rx;exact ⟨rfl,by simp⟩
  | flt _=>obtain ⟨t,rfl⟩:=rx;exact ⟨rfl,by simp⟩
  | ref _=>cases rx;exact ⟨rfl,by simp⟩
  | ty _=>cases rx;exact ⟨rfl,by simp⟩
theorem op_isC {X:Cx}:OpR X (compareOp .Is) (rIs id):=by
 intro pins s σ H x y v u Q I rx ry h
 obtain ⟨hy,q⟩:=h
 obtain ⟨h1,h2⟩:=beq_rel rx ry hy
 exact wpAny_is_plain h1 ⟨.bl _,H,I,by rw [h2];rfl,q⟩
theorem op_isNotC {X:Cx}:OpR X (compareOp .IsNot) (rIs (!·)):=by
 intro pins s σ H x y v u Q I rx ry h
 obtain ⟨hy,q⟩:=h
 obtain ⟨h1,h2⟩:=beq_rel rx ry hy
 exact wpAny_isNot_plain h1 ⟨.bl _,H,I,by rw [h2];rfl,q⟩
theorem isC_val {c:Cf} {H:Hp} {x y:V} {dx dy:D} {t:T} {z:D×T} (rx:Rep K c H x dx) (ry:Rep K c H y dy) (eq:isC dx dy t=some z):(y = .non∨∃b,y = .bl b)∧z=(.bl (decide (x=y)),t):=by
 cases ry with
 | non=>
   refine ⟨.inl rfl,?_⟩
   cases rx <;> (cases eq;simp)
 | bl b=>
   refine ⟨.inr ⟨b,rfl⟩,?_⟩
   cases rx <;> (cases eq;simp)
   next a=>cases a <;> cases b <;> rfl
 | _=>cases eq
theorem sem_is:Sem2 K (rIs id) isC:=fun {Oo c t σ H x y dx dy r t' Q} f rx ry eq k=>by
 obtain ⟨h,z⟩:=isC_val rx ry eq
 cases z
 exact ⟨h,k _ H c f .refl (.bl _)⟩
theorem sem_isNot:Sem2 K (rIs (!·)) isNotC:=fun {Oo c t σ H x y dx dy r t' Q} f rx ry eq k=>by
 obtain ⟨d,t1,e1,eq⟩:=bnd_some eq
 obtain ⟨h,z⟩:=isC_val rx ry e1
 cases z
 cases eq
 exact ⟨h,k _ H c f .refl (.bl _)⟩
def flatD:D→Bool
 | .non=>true | .bl _=>true | .int _=>true | .str _=>true | _=>false
def seqOf:D→Option (List D)
 | .lst ds=>some ds
 | .tup ds=>some ds
 | _=>none
def toV:D→V
 | .bl b=>.bl b | .int i=>.int i | .str x=>.str x | _=>.non
theorem rep_toV {c:Cf} {H:Hp} {v:V} {d:D} (r:Rep K c H v d) (h:flatD d=true):v=toV d:=by cases r <;> first | rfl | cases h
theorem reps_toV {c:Cf} {H:Hp}:∀{vs:List V} {ds:List D},Reps K c H vs ds→ds.all flatD=true→vs=ds.map toV
 | _,_,.nil,_=>rfl
 | _,_,.cons r t,h=>by
   rw [List.all_cons,Bool.and_eq_true] at h
   rw [List.map_cons,rep_toV r h.1,reps_toV t h.2]
theorem flat_toV:∀d:D,flatV (toV d)=true:=fun d=>by cases d <;> rfl
def inD (neg:Bool) (x y:D):M D:=fun t=>match seqOf y with
 | some ds=>if flatD x=true∧ds.all flatD=true then some (.bl (if neg then !inV (toV x) (ds.map toV) else inV (toV x) (ds.map toV)),t) else none
 | none=>none
theorem sem_in {neg:Bool}:Sem2 K (rIn K neg) (inD neg):=fun {Oo c t σ H x y dx dy r t' Q} f rx ry eq k=>by
 unfold inD at eq
 cases ry with
 | @lst a vs ds h1 h2 h3=>
   dsimp only [seqOf] at eq
   split at eq
   ·next h=>
    cases eq
    refine ⟨a,vs,rfl,.inl (SqL.of h1),?_,?_,?_⟩
    ·rw [rep_toV rx h.1];exact flat_toV _
    ·rw [reps_toV h3 h.2,List.all_map,List.all_eq_true];exact fun d _=>flat_toV d
    ·rw [rep_toV rx h.1,reps_toV h3 h.2];exact k _ H c f .refl (.bl _)
   ·cases eq
 | @tup a vs ds h1 h2 h3=>
   dsimp only [seqOf] at eq
   split at eq
   ·next h=>
    cases eq
    refine ⟨a,vs,rfl,.inr (SqT.of h1),?_,?_,?_⟩
    ·rw [rep_toV rx h.1];exact flat_toV _
    ·rw [reps_toV h3 h.2,List.all_map,List.all_eq_true];exact fun d _=>flat_toV d
    ·rw [rep_toV rx h.1,reps_toV h3 h.2];exact k _ H c f .refl (.bl _)
   ·cases eq
 | _=>cases eq
def ixD:D→D→M D
 | .lst ds,.int i=>fun t=>(atI ds i).map fun d=>(d,t)
 | .tup ds,.int i=>fun t=>(atI ds i).map fun d=>(d,t)
 | .scr ns,.int i=>fun t=>(atI ns i).map fun n=>(.int n,t)
 | .str x,.int i=>fun t=>if x.length≤LIM then (atI x.cps.toList i).map fun n=>(.str ⟨#[n]⟩,t) else none
 | .obj k,.int i=>fun t=>match t.S[k]? with
   | some (.lst ds)=>(atI ds i).map fun d=>(d,t)
   | _=>none
 | _,_=>fail
theorem atI_reps {c:Cf} {H:Hp} {vs:List V} {ds:List D} {i:Int} {d:D} (r:Reps K c H vs ds) (h:atI ds i=some d):∃v,atI vs i=some v∧Rep K c H v d:=by
 unfold atI at h ⊢
 obtain ⟨j,h1,h2⟩:=Option.bind_eq_some_iff.mp h
 obtain ⟨v,h3,h4⟩:=r.at h2
 exact ⟨v,by rw [r.length,h1];exact h3,h4⟩
theorem atI_map {α β:Type} (g:α→β) (xs:List α) (i:Int):atI (xs.map g) i=(atI xs i).map g:=by
 unfold atI
 rw [List.length_map]
 cases ixN xs.length i with
 | none=>rfl
 | some j=>simp
theorem sem_ix:Sem2 K (rIx K) ixD:=fun {Oo c t σ H x y dx dy r t' Q} f rx ry eq k=>by
 cases ry with
 | int i=>
   cases rx with
   | @lst a vs ds h1 h2 h3=>
     obtain ⟨d,e1,e2⟩:=Option.map_eq_some_iff.mp eq
     cases e2
     obtain ⟨v,e3,e4⟩:=atI_reps h3 e1
     exact .inl ⟨a,vs,i,v,rfl,rfl,SqL.of h1,e3,k _ H c f .refl e4⟩
   | @tup a vs ds h1 h2 h3=>
     obtain ⟨d,e1,e2⟩:=Option.map_eq_some_iff.mp eq
     cases e2
     obtain ⟨v,e3,e4⟩:=atI_reps h3 e1
     exact .inr (.inl ⟨a,vs,i,v,rfl,rfl,SqT.of h1,e3,k _ H c f .refl e4⟩)
   | @scr a ns h1=>
     obtain ⟨n,e1,e2⟩:=Option.map_eq_some_iff.mp eq
     cases e2
     exact .inl ⟨a,_,i,.int n,rfl,rfl,h1.sq,by rw [atI_map,e1];rfl,k _ H c f .refl (.int n)⟩
   | str z=>
     unfold ixD at eq
     dsimp only at eq
     split at eq
     ·next hl=>
      obtain ⟨n,e1,e2⟩:=Option.map_eq_some_iff.mp eq
      cases e2
      exact .inr (.inr ⟨z,i,n,rfl,rfl,Nat.le_trans hl LIM_le,e1,k _ H c f .refl (.str _)⟩)
     ·cases eq
   | @obj a kk h1=>
     unfold ixD at eq
     dsimp only at eq
     cases es:t.S[kk]? with
     | none=>rw [es] at eq;cases eq
     | some o=>
       rw [es] at eq
       cases o with
       | dct _ | ins _ _=>cases eq
       | lst ds=>
         obtain ⟨d,e1,e2⟩:=Option.map_eq_some_iff.mp eq
         cases e2
         obtain ⟨vs,g1,g2⟩:=f.s.obs kk a _ h1 es
         obtain ⟨v,e3,e4⟩:=atI_reps g2 e1
         exact .inl ⟨a,vs,i,v,rfl,rfl,SqL.of g1,e3,k _ H c f .refl e4⟩
   | _=>cases eq
 | _=>cases rx <;> cases eq
end
end F2
set_option Elab.async false
set_option linter.all false
set_option maxRecDepth 100000
set_option maxHeartbeats 4000000
set_option autoImplicit false
namespace F2
open PySem L2 PySem.Spec
section
variable {X:Cx} {e a b:Expr} {es:List Expr} {pos:Pos}
inductive RO (K:PySem.W.Frag) (f:M (Option Int)) (σ:L2.St) (H:Hp) (Q:Option Int→Hp→Prop):Prop where
 | mk (Oo:Addr→Prop) (c:Cf) (t:T) (fi:FInv K Oo c t σ H) (r:Option Int) (t':T) (e:f t=some (r,t')) (k:∀H' c',FInv K Oo c' t' σ H'→Stp Oo c H c' H'→Q r H'):RO K f σ H Q
theorem PO_imp {oe:Option Expr} {t t':TO} (h:PO X oe t) (i:∀σ H Q,t' σ H Q→t σ H Q):PO X oe t':=fun pins s σ H Q I q=>h pins s σ H Q I (i σ H Q q)
def fNo:M (Option Int):=ret none
def asI:D→M (Option Int)
 | .int i=>ret (some i)
 | _=>fail
def fPart (f:M D):M (Option Int):=bnd f asI
theorem fo_none:PO X none (RO X.K fNo):=PO_imp po_none fun σ H Q ⟨Oo,c,t,fi,r,t',eq,k⟩=>by
 cases eq
 exact k H c fi .refl
theorem fo_some {f:M D} (h:PE X e (RE X.K f)):PO X (some e) (RO X.K (fPart f)):=PO_imp (po_some h) fun σ H Q ⟨Oo,c,t,fi,r,t',eq,k⟩=>by
 obtain ⟨d,t1,e1,eq⟩:=bnd_some eq
 refine ⟨Oo,c,t,fi,d,t1,e1,fun v H1 c1 f1 s1 rv=>?_⟩
 cases rv with
 | int i=>cases eq;exact ⟨i,rfl,k H1 c1 f1 s1⟩
 | _=>cases eq
def Sem3 (K:PySem.W.Frag) (R:V→Option Int→Option Int→Hp→VK→Prop) (h:D→Option Int→Option Int→M D):Prop:=∀{Oo:Addr→Prop} {c:Cf} {t:T} {σ:L2.St} {H:Hp} {x:V} {dx r:D} {lo hi:Option Int} {t':T} {Q:VK},FInv K Oo c t σ H→Rep K c H x dx→h dx lo hi t=some (r,t')→
 (∀v H' c',FInv K Oo c' t' σ H'→Stp Oo c H c' H'→Rep K c' H' v r→Q v H')→R x lo hi H Q
def fSl (f:M D) (l u:M (Option Int)) (h:D→Option Int→Option Int→M D):M D:=bnd f fun x=>bnd l fun lo=>bnd u fun hi=>h x lo hi
theorem fe_slice {R:V→Option Int→Option Int→Hp→VK→Prop} {h:D→Option Int→Option Int→M D} {f:M D} {l u:M (Option Int)} {lo hi:Option Expr} {p2:Pos} (hr:SlR X R) (s:Sem3 X.K R h) (he:PE X e (RE X.K f)) (hl:PO X lo (RO X.K l)) (hu:PO X hi (RO X.K u)):PE X (.Subscript e (.Slice lo hi none p2) pos) (RE X.K (fSl f l u h)):=
 PE_imp (pe_slice hr he hl hu) fun σ H Q ⟨Oo,c,t,fi,r,t',eq,k⟩=>by
  obtain ⟨d,t1,e1,eq⟩:=bnd_some eq
  obtain ⟨ol,t2,e2,eq⟩:=bnd_some eq
  obtain ⟨oh,t3,e3,eq⟩:=bnd_some eq
  exact ⟨Oo,c,t,fi,d,t1,e1,fun v H1 c1 f1 s1 rv=>⟨Oo,c1,t1,f1,ol,t2,e2,fun H2 c2 f2 s2=>⟨Oo,c2,t2,f2,oh,t3,e3,fun H3 c3 f3 s3=>
   s f3 (rv.mono (s2.trans s3).ext) eq fun v H' c' f' s' rv'=>k v H' c' f' (((s1.trans s2).trans s3).trans s') rv'⟩⟩⟩
def cutD {α:Type} (xs:List α) (lo hi:Option Int):List α:=(xs.drop (HT.sIx xs.length 0 lo)).take (HT.sIx xs.length xs.length hi - HT.sIx xs.length 0 lo)
def slD:D→Option Int→Option Int→M D
 | .lst ds,lo,hi=>ret (.lst (cutD ds lo hi))
 | .scr ns,lo,hi=>ret (.lst ((cutD ns lo hi).map .int))
 | .tup ds,lo,hi=>fun t=>if HT.sIx ds.length 0 lo=0∧HT.sIx ds.length ds.length hi=ds.length then none else some (.tup (cutD ds lo hi),t)
 | _,_,_=>fail
theorem reps_cut {K:PySem.W.Frag} {c:Cf} {H:Hp} {vs:List V} {ds:List D} (r:Reps K c H vs ds) (lo hi:Option Int):Reps K c H (cutV vs lo hi) (cutD ds lo hi):=by
 unfold cutV cutD
 rw [r.length]
 exact (r.drop _).take _
theorem cutD_map {α β:Type} (g:α→β) (xs:List α) (lo hi:Option Int):cutD (xs.map g) lo hi=(cutD xs lo hi).map g:=by
 unfold cutD
 rw [List.length_map,List.map_take,List.map_drop]
theorem cutV_ints (ns:List Int) (lo hi:Option Int):cutV (ns.map V.int) lo hi=(cutD ns lo hi).map V.int:=cutD_map V.int ns lo hi
def rSl2 (K:PySem.W.Frag):V→Option Int→Option Int→Hp→VK→Prop:=fun x lo hi H Q=>rSlL K x lo hi H Q∨rSlT K x lo hi H Q
theorem sl2:SlR X (rSl2 X.K):=sl_list.or sl_tup
theorem sem_sl {K:PySem.W.Frag}:Sem3 K (rSl2 K) slD:=fun {Oo c t σ H x dx r lo hi t' Q} f rx eq k=>by
 cases rx with
 | @lst p vs ds h1 h2 h3=>
   cases eq
   exact .inl ⟨p,vs,rfl,SqL.of h1,fun q hq=>k _ _ c (f.laid hq) (f.stp_laid hq) (.lst upd_same (f.s.free hq) ((reps_cut h3 lo hi).mono (Ext.laid f.s hq)))⟩
 | @scr p ns h1=>
   cases eq
   refine .inl ⟨p,_,rfl,h1.sq,fun q hq=>k _ _ c (f.laid hq) (f.stp_laid hq) (.lst upd_same (f.s.free hq) ?_)⟩
   rw [cutV_ints]
   exact Reps.ints _
 | @tup p vs ds h1 h2 h3=>
   unfold slD at eq
   dsimp only at eq
   split at eq
   ·cases eq
   ·next hn=>
    cases eq
    exact .inr ⟨p,vs,rfl,SqT.of h1,by rw [h3.length];exact hn,fun q hq=>k _ _ c (f.laid hq) (f.stp_laid hq) (.tup upd_same (f.s.free hq) ((reps_cut h3 lo hi).mono (Ext.laid f.s hq)))⟩
 | _=>cases eq
theorem fe_B {id:String} {R:List V→Hp→VK→Prop} {h:List D→M D} {f:M (List D)} {x:Str} {p:Pos} (hc:CallR X (.builtin id) R) (s:SemN X.K R h) (hg:Gl X x) (hm:X.mg x=none) (hv:bootBuiltins x=some (.builtin id)) (ha:PA X (e :: es) (RA X.K f)) (hn:x≠"__name__":=by decide) (hdb:(x == ("__debug__" : Str))=false:=by decide)
 (he:starEach (e :: es) X.env=(false,eval e X.env) :: starEach es X.env:=by rfl) (hpl:(backTo pos (starEach es X.env)).any (·.1)=false:=by rfl):PE X (.Call (.Name x p) (e :: es) [] pos) (RE X.K (fB f h)):=
 PE_imp (pe_callB hc hg hm hv ha hn hdb he hpl) fun _ _ _ q=>RE.callB s q
theorem fe_T {id:String} {R:List V→Hp→VK→Prop} {h:List D→M D} {f:M (List D)} {x:Str} {p:Pos} (hc:CallR X (.type id) R) (s:SemN X.K R h) (hg:Gl X x) (hm:X.mg x=none) (hv:bootBuiltins x=some (.type id)) (ha:PA X (e :: es) (RA X.K f)) (hn:x≠"__name__":=by decide) (hdb:(x == ("__debug__" : Str))=false:=by decide)
 (he:starEach (e :: es) X.env=(false,eval e X.env) :: starEach es X.env:=by rfl) (hpl:(backTo pos (starEach es X.env)).any (·.1)=false:=by rfl):PE X (.Call (.Name x p) (e :: es) [] pos) (RE X.K (fB f h)):=
 PE_imp (pe_callTy hc hg hm hv ha hn hdb he hpl) fun _ _ _ q=>RE.callB s q
theorem ff_T {id:String} {R:List V→Hp→VK→Prop} {h:List D→M (List D)} {f:M (List D)} {x:Str} {p:Pos} (hc:CallR X (.type id) R) (s:SemNF X.K R h) (hg:Gl X x) (hm:X.mg x=none) (hv:bootBuiltins x=some (.type id)) (ha:PA X (e :: es) (RA X.K f)) (hn:x≠"__name__":=by decide) (hdb:(x == ("__debug__" : Str))=false:=by decide)
 (he:starEach (e :: es) X.env=(false,eval e X.env) :: starEach es X.env:=by rfl) (hpl:(backTo pos (starEach es X.env)).any (·.1)=false:=by rfl):PE X (.Call (.Name x p) (e :: es) [] pos) (RF X.K (fBF f h)):=
 PE_imp (pe_callTy hc hg hm hv ha hn hdb he hpl) fun _ _ _ q=>RF.callB s q
theorem ff_op {op:Operator} {R:R2} {f g:M D} {h:D→D→M (List D)} (ho:OpR X (binaryOp op) R) (s:Sem2F X.K R h) (ha:PE X a (RE X.K f)) (hb:PE X b (RE X.K g)):PE X (.BinOp a op b pos) (RF X.K (bnd f fun x=>bnd g fun y=>h x y)):=
 PE_imp (pe_op ho ha hb) fun _ _ _ q=>RF.two s q
end
section
variable {K:PySem.W.Frag}
theorem reps1 {c:Cf} {H:Hp} {xs:List V} {d:D} (r:Reps K c H xs [d]):∃v,xs=[v]∧Rep K c H v d:=by
 cases r with
 | cons r rs=>cases rs;exact ⟨_,rfl,r⟩
theorem reps2 {c:Cf} {H:Hp} {xs:List V} {d e:D} (r:Reps K c H xs [d,e]):∃v u,xs=[v,u]∧Rep K c H v d∧Rep K c H u e:=by
 cases r with
 | cons r rs=>
   obtain ⟨u,rfl,q⟩:=reps1 rs
   exact ⟨_,u,rfl,r,q⟩
def lenD:List D→M D
 | [.lst ds]=>ret (.int ds.length)
 | [.tup ds]=>ret (.int ds.length)
 | [.scr ns]=>ret (.int ns.length)
 | [.str x]=>lim x.length (.int x.length)
 | [.obj k]=>fun t=>match t.S[k]? with
   | some (.lst ds)=>some (.int ds.length,t)
   | _=>none
 | _=>fail
theorem sem_len:SemN K (fun xs H Q=>∃x n,xs=[x]∧LenV K x H n∧Q (.int n) H) lenD:=fun {Oo c t σ H xs ds r t' Q} f rx eq k=>by
 match ds,rx,eq with
 | [],_,eq=>cases eq
 | d0 :: _ :: _,_,eq=>cases d0 <;> cases eq
 | [d],rx,eq=>
   obtain ⟨v,rfl,rv⟩:=reps1 rx
   cases rv with
   | @lst a vs ds h1 h2 h3=>cases eq;exact ⟨_,ds.length,rfl,.inl ⟨vs,SqL.of h1,h3.length.symm⟩,k _ H c f .refl (.int _)⟩
   | @tup a vs ds h1 h2 h3=>cases eq;exact ⟨_,ds.length,rfl,.inr ⟨vs,SqT.of h1,h3.length.symm⟩,k _ H c f .refl (.int _)⟩
   | @scr a ns h1=>cases eq;exact ⟨_,ns.length,rfl,.inl ⟨_,h1.sq,by simp⟩,k _ H c f .refl (.int _)⟩
   | str x=>
     obtain ⟨hl,z⟩:=lim_some eq
     cases z
     exact ⟨_,x.length,rfl,⟨Nat.le_trans hl LIM_le,rfl⟩,k _ H c f .refl (.int _)⟩
   | @obj a kk h1=>
     unfold lenD at eq
     dsimp only at eq
     cases es:t.S[kk]? with
     | none=>rw [es] at eq;cases eq
     | some o=>
       rw [es] at eq
       cases o with
       | dct _ | ins _ _=>cases eq
       | lst ds=>
         cases eq
         obtain ⟨vs,g1,g2⟩:=f.s.obs kk a _ h1 es
         exact ⟨_,ds.length,rfl,.inl ⟨vs,SqL.of g1,g2.length.symm⟩,k _ H c f .refl (.int _)⟩
   | _=>cases eq
def tyD:D→Option String
 | .non=>some "NoneType"
 | .bl _=>some "bool"
 | .int _=>some "int"
 | .str _=>some "str"
 | .lst _=>some "list"
 | .tup _=>some "tuple"
 | .dic=>some "dict"
 | _=>none
def isiT (n m:String):Option Bool:=match m with
 | "int"=>some (n == "int" || n == "bool")
 | "bool"=>some (n == "bool")
 | "str"=>some (n == "str")
 | "list"=>some (n == "list")
 | "tuple"=>some (n == "tuple")
 | "dict"=>some (n == "dict")
 | _=>none
def isiD:List D→M D
 | [d,.ty m]=>fun t=>match tyD d with
   | some n=>(isiT n m).map fun b=>(.bl b,t)
   | none=>none
 | _=>fail
theorem kit_tab {d:D} {n m:String} {b:Bool} (h1:tyD d=some n) (h2:isiT n m=some b):PySem.W.kitOne K (.type n) (.type m)=some b:=by
 have hm:m = "int"∨m = "bool"∨m = "str"∨m = "list"∨m = "tuple"∨m = "dict":=by
  unfold isiT at h2
  split at h2 <;> simp_all
 have hn:n = "NoneType"∨n = "bool"∨n = "int"∨n = "str"∨n = "list"∨n = "tuple"∨n = "dict":=by
  cases d <;> simp [tyD] at h1 <;> simp [←h1]
 rcases hm with rfl | rfl | rfl | rfl | rfl | rfl <;> rcases hn with rfl | rfl | rfl | rfl | rfl | rfl | rfl <;> (cases h2;rfl)
def rIsi (K:PySem.W.Frag):List V→Hp→VK→Prop:=fun xs H Q=>∃x n t b,xs=[x,.ty n]∧TyOf K H x t∧PySem.W.kitOne K t (.type n)=some b∧Q (.bl b) H
theorem call_isi {X:Cx}:CallR X (.builtin "isinstance") (rIsi X.K):=by
 intro pins s σ H xs us Q I r h
 obtain ⟨x,n,t,b,rfl,ty,e,q⟩:=h
 obtain ⟨u,w',rfl,rx,rt⟩:=vals2 r
 cases rt
 exact wpAny_with_toks (Nat.le_refl s.toks) (isinst_ok I rx ty e fun tk ht=>⟨.bl b,H,I.tok tk,rfl,q⟩)
theorem sem_isi:SemN K (rIsi K) isiD:=fun {Oo c t σ H xs ds r t' Q} f rx eq k=>by
 unfold isiD at eq
 split at eq
 ·next d m=>
  obtain ⟨v,u,rfl,rv,ru⟩:=reps2 rx
  cases ru
  cases et:tyD d with
  | none=>rw [et] at eq;cases eq
  | some n=>
    rw [et] at eq
    obtain ⟨b,e1,e2⟩:=Option.map_eq_some_iff.mp eq
    cases e2
    refine ⟨v,m,.type n,b,rfl,?_,kit_tab et e1,k _ H c f .refl (.bl b)⟩
    cases rv <;> first | (cases et;first | exact .non | exact .bl _ | exact .int _ | exact .str _ | exact .lst ‹_› | exact .tup ‹_› | exact .dK ‹_›) | cases et
 ·cases eq
def tupD:List D→M D
 | [.lst ds]=>ret (.tup ds)
 | [.tup ds]=>ret (.tup ds)
 | [.obj k]=>fun t=>match t.S[k]? with
   | some (.lst ds)=>some (.tup ds,t)
   | _=>none
 | _=>fail
theorem sem_tup:SemN K (fun xs H Q=>∃p ys,xs=[.ref p]∧((SqL K H p ys∧∀l,H l=none→Q (.ref l) (upd H l (.tup ys)))∨(SqT K H p ys∧Q (.ref p) H))) tupD:=fun {Oo c t σ H xs ds r t' Q} f rx eq k=>by
 match ds,rx,eq with
 | [],_,eq=>cases eq
 | d0 :: _ :: _,_,eq=>cases d0 <;> cases eq
 | [d],rx,eq=>
   obtain ⟨v,rfl,rv⟩:=reps1 rx
   cases rv with
   | @lst a vs ds h1 h2 h3=>cases eq;exact ⟨a,vs,rfl,.inl ⟨SqL.of h1,fun q hq=>k _ _ c (f.laid hq) (f.stp_laid hq) (.tup upd_same (f.s.free hq) (h3.mono (Ext.laid f.s hq)))⟩⟩
   | @tup a vs ds h1 h2 h3=>cases eq;exact ⟨a,vs,rfl,.inr ⟨SqT.of h1,k _ H c f .refl (.tup h1 h2 h3)⟩⟩
   | @obj a kk h1=>
     unfold tupD at eq
     dsimp only at eq
     cases es:t.S[kk]? with
     | none=>rw [es] at eq;cases eq
     | some o=>
       rw [es] at eq
       cases o with
       | dct _ | ins _ _=>cases eq
       | lst ds=>
         cases eq
         obtain ⟨vs,g1,g2⟩:=f.s.obs kk a _ h1 es
         exact ⟨a,vs,rfl,.inl ⟨SqL.of g1,fun q hq=>k _ _ c (f.laid hq) (f.stp_laid hq) (.tup upd_same (f.s.free hq) (g2.mono (Ext.laid f.s hq)))⟩⟩
   | _=>cases eq
def lstF:List D→M (List D)
 | [.lst ds]=>ret ds
 | [.tup ds]=>ret ds
 | [.scr ns]=>ret (ns.map .int)
 | [.obj k]=>fun t=>match t.S[k]? with
   | some (.lst ds)=>some (ds,t)
   | _=>none
 | _=>fail
theorem sem_lst:SemNF K (fun xs H Q=>∃p ys,xs=[.ref p]∧(SqL K H p ys∨SqT K H p ys)∧∀l,H l=none→Q (.ref l) (upd H l (.lst ys))) lstF:=fun {Oo c t σ H xs ds r t' Q} f rx eq k=>by
 match ds,rx,eq with
 | [],_,eq=>cases eq
 | d0 :: _ :: _,_,eq=>cases d0 <;> cases eq
 | [d],rx,eq=>
   obtain ⟨v,rfl,rv⟩:=reps1 rx
   cases rv with
   | @lst a vs ds h1 h2 h3=>cases eq;exact ⟨a,vs,rfl,.inl (SqL.of h1),fun q hq=>k q vs H c f .refl h3 hq⟩
   | @tup a vs ds h1 h2 h3=>cases eq;exact ⟨a,vs,rfl,.inr (SqT.of h1),fun q hq=>k q vs H c f .refl h3 hq⟩
   | @scr a ns h1=>cases eq;exact ⟨a,_,rfl,.inl h1.sq,fun q hq=>k q _ H c f .refl (Reps.ints ns) hq⟩
   | @obj a kk h1=>
     unfold lstF at eq
     dsimp only at eq
     cases es:t.S[kk]? with
     | none=>rw [es] at eq;cases eq
     | some o=>
       rw [es] at eq
       cases o with
       | dct _ | ins _ _=>cases eq
       | lst ds=>
         cases eq
         obtain ⟨vs,g1,g2⟩:=f.s.obs kk a _ h1 es
         exact ⟨a,vs,rfl,.inl (SqL.of g1),fun q hq=>k q vs H c f .refl g2 hq⟩
   | _=>cases eq
def intD:List D→M D
 | [.int i]=>ret (.int i)
 | [.bl b]=>ret (.int (if b then 1 else 0))
 | _=>fail
theorem sem_int:SemN K (fun xs H Q=>(∃i,xs=[.int i]∧Q (.int i) H)∨∃k,xs=[.bl k]∧Q (.int (if k then 1 else 0)) H) intD:=fun {Oo c t σ H xs ds r t' Q} f rx eq k=>by
 match ds,rx,eq with
 | [],_,eq=>cases eq
 | d0 :: _ :: _,_,eq=>cases d0 <;> cases eq
 | [d],rx,eq=>
   obtain ⟨v,rfl,rv⟩:=reps1 rx
   cases rv with
   | int i=>cases eq;exact .inl ⟨i,rfl,k _ H c f .refl (.int _)⟩
   | bl b=>cases eq;exact .inr ⟨b,rfl,k _ H c f .refl (.int _)⟩
   | _=>cases eq
def strD:List D→M D
 | [.int i]=>fun t=>if i.natAbs.log2 < 1920 then some (.str (toString i),t) else none
 | _=>fail
theorem sem_str:SemN K (fun xs H Q=>∃i,xs=[.int i]∧i.natAbs.log2 < 1920∧Q (.str (toString i)) H) strD:=fun {Oo c t σ H xs ds r t' Q} f rx eq k=>by
 match ds,rx,eq with
 | [],_,eq=>cases eq
 | d0 :: _ :: _,_,eq=>cases d0 <;> cases eq
 | [d],rx,eq=>
   obtain ⟨v,rfl,rv⟩:=reps1 rx
   cases rv with
   | int i=>
     unfold strD at eq
     dsimp only at eq
     split at eq
     ·next h=>cases eq;exact ⟨i,rfl,h,k _ H c f .refl (.str _)⟩
     ·cases eq
   | _=>cases eq
def absD:List D→M D
 | [.int i]=>ret (.int (if i < 0 then -i else i))
 | _=>fail
def minD:List D→M D
 | [.int i,.int j]=>ret (.int (if j < i then j else i))
 | _=>fail
def maxD:List D→M D
 | [.int i,.int j]=>ret (.int (if j > i then j else i))
 | _=>fail
theorem sem_min:SemN K (fun xs H Q=>∃i j,xs=[.int i,.int j]∧Q (.int (if j < i then j else i)) H) minD:=fun {Oo c t σ H xs ds r t' Q} f rx eq k=>by
 unfold minD at eq
 split at eq
 ·next i j=>
  obtain ⟨v,u,rfl,rv,ru⟩:=reps2 rx
  cases rv;cases ru;cases eq
  exact ⟨i,j,rfl,k _ H c f .refl (.int _)⟩
 ·cases eq
theorem sem_max:SemN K (fun xs H Q=>∃i j,xs=[.int i,.int j]∧Q (.int (if j > i then j else i)) H) maxD:=fun {Oo c t σ H xs ds r t' Q} f rx eq k=>by
 unfold maxD at eq
 split at eq
 ·next i j=>
  obtain ⟨v,u,rfl,rv,ru⟩:=reps2 rx
  cases rv;cases ru;cases eq
  exact ⟨i,j,rfl,k _ H c f .refl (.int _)⟩
 ·cases eq
def ordD:List D→M D
 | [.str x]=>fun t=>if x.length=1 then some (.int (x.cps.getD 0 0:Nat),t) else none
 | _=>fail
theorem sem_ord:SemN K (fun xs H Q=>∃x,xs=[.str x]∧x.length=1∧Q (.int (x.cps.getD 0 0:Nat)) H) ordD:=fun {Oo c t σ H xs ds r t' Q} f rx eq k=>by
 match ds,rx,eq with
 | [],_,eq=>cases eq
 | d0 :: _ :: _,_,eq=>cases d0 <;> cases eq
 | [d],rx,eq=>
   obtain ⟨v,rfl,rv⟩:=reps1 rx
   cases rv with
   | str x=>
     unfold ordD at eq
     dsimp only at eq
     split at eq
     ·next h=>cases eq;exact ⟨x,rfl,h,k _ H c f .refl (.int _)⟩
     ·cases eq
   | _=>cases eq
end
end F2
set_option Elab.async false
set_option linter.all false
set_option maxRecDepth 100000
set_option maxHeartbeats 4000000
namespace L2
open PySem PySem.Spec PyProof.Rows
open AutoSeq1 (wpAny_loadPart')
def rCat0 (K:PySem.W.Frag):R2:=fun x y H Q=>∃a b ys,x = .ref a∧y = .ref b∧SqT K H a []∧SqT K H b ys∧Q (.ref b) H
theorem op_cat0 {X:Cx}:OpR X (binaryOp .Add) (rCat0 X.K):=by
 intro pins s σ H x y v u Q I rx ry h
 obtain ⟨a,b,ys,rfl,rfl,h1,h2,q⟩:=h
 cases rx
 cases ry
 obtain ⟨its,r,⟨⟨cls,dd,data,sl⟩,ho,hc,n,hd⟩,z⟩:=I.tuple h1
 obtain ⟨its2,r2,⟨⟨cls2,dd2,data2,sl2⟩,ho2,hc2,n2,hd2⟩,z2⟩:=I.tuple h2
 simp only at hc hd hc2 hd2
 subst hc hd hc2 hd2
 cases r
 exact concat_meets ⟨_,ho,rfl⟩ ⟨_,ho2,rfl⟩ noFill_tuple_add seq_tuple_add PySem.F.slot_tuple_add PySem.F.entry_tuple_add (PySem.F.args_tuple_add_2 _ _)
  (tuple_addW0 a b #[] its2.toArray n n2 dd dd2 sl sl2 rfl) ⟨ho,ho2,.ref b,H,I,rfl,q⟩
theorem noFill_tuple_mul:fillsNumberSlot (.type "tuple") "mul" = pure false:=
 PySem.fillsNumberSlot_seq (id:="tuple.__mul__") (r:=some (.builtin "tuple.__rmul__")) F.slot_tuple_mul.lookup (by decide +kernel) F.slot_tuple_rmul.lookup (by decide +kernel)
theorem repeat_tuple:seqRepeat? (.type "tuple")=pure (some (.builtin "tuple.__mul__")):=by
 unfold seqRepeat?
 rw [PySem.seqSlot_of (T:="tuple") (name:="__mul__") (id:="tuple.__mul__") F.slot_tuple_mul.lookup (by decide +kernel),PySem.seqSlot_of (T:="tuple") (name:="__rmul__") (id:="tuple.__rmul__") F.slot_tuple_rmul.lookup (by decide +kernel)]
 rfl
theorem rmul_int_tuple (a:Int) (t:Tok) (l:Addr) (items:Array Value) (n:Nat) (dd:Option Addr) (sl:Array (Option Value)) :
 Meets (Builtin.«int.__rmul__» ⟨[.int a t,.ref l],[]⟩) (fun _ R s=>s.heap.get? l=some { cls:=.type "tuple",dict:=dd,data:=.seq items n,slots:=sl }∧R (.ok (.ret Value.notImplemented)) s):=
 .of_wp fun prog w A R s h=>by obtain ⟨hp,g,d,tk,os⟩:=s;obtain ⟨hl,h⟩:=h;wp_walk;exact ⟨_,rfl,h⟩
theorem tuple_mulW1 (l:Addr) (items:Array Value) (n:Nat) (dd:Option Addr) (sl:Array (Option Value)) (x:Int) (u:Tok) (hc0:(decide (x < -(2 ^ 63)) || decide (x ≥ 2 ^ 63))=false) (hc1:(items.isEmpty || x == 1)=true) :
 Meets (Builtin.«tuple.__mul__» ⟨[.ref l,.int x u],[]⟩) (fun _ R s=>s.heap.get? l=some { cls:=.type "tuple",dict:=dd,data:=.seq items n,slots:=sl }∧R (.ok (.ret (Value.ref l))) s):=
 .of_wp fun prog w A R s h=>by
  obtain ⟨hp,g,d,tk,os⟩:=s;obtain ⟨hl,h⟩:=h;have f1:=AutoSeq1.idx_int;have f2:=AutoSeq1.sub_tuple_tuple;have f3:=AutoSeq1.sub_list_list;have f4:=AutoSeq1.sub_tuple_list;have f5:=AutoSeq1.sub_list_tuple
  wp_walk using wpAny_loadPart' hl
  refine wpAny_ite_split (fun z=>absurd z (by rw [hc0];decide)) fun _=>?_
  wp_walk using wpAny_loadPart' hl
  exact ⟨_,rfl,h⟩
theorem tuple_mulW2 (l:Addr) (items:Array Value) (n:Nat) (dd:Option Addr) (sl:Array (Option Value)) (x:Int) (u:Tok) (hc0:(decide (x < -(2 ^ 63)) || decide (x ≥ 2 ^ 63))=false) (hc1:(items.isEmpty || x == 1)=false) (hc2:(decide (x≤0) || items.isEmpty)=true) :
 Meets (Builtin.«tuple.__mul__» ⟨[.ref l,.int x u],[]⟩) (fun _ R s=>s.heap.get? l=some { cls:=.type "tuple",dict:=dd,data:=.seq items n,slots:=sl }∧R (.ok (.ret (Value.ref s.heap.objs.size))) { s with heap:=s.heap.push { cls:=Value.type "tuple",data:=Data.seq #[] },toks:=s.toks }):=
 .of_wp fun prog w A R s h=>by
  obtain ⟨hp,g,d,tk,os⟩:=s;obtain ⟨hl,h⟩:=h;have f1:=AutoSeq1.idx_int;have f2:=AutoSeq1.sub_tuple_tuple;have f3:=AutoSeq1.sub_list_list;have f4:=AutoSeq1.sub_tuple_list;have f5:=AutoSeq1.sub_list_tuple
  wp_walk using wpAny_loadPart' hl
  refine wpAny_ite_split (fun z=>absurd z (by rw [hc0];decide)) fun _=>?_
  wp_walk using wpAny_loadPart' hl
  exact ⟨_,rfl,h⟩
theorem tuple_mulW3 (l:Addr) (items:Array Value) (n:Nat) (dd:Option Addr) (sl:Array (Option Value)) (x:Int) (u:Tok) (hc0:(decide (x < -(2 ^ 63)) || decide (x ≥ 2 ^ 63))=false) (hc1:(items.isEmpty || x == 1)=false) (hc2:(decide (x≤0) || items.isEmpty)=false)
 (hc3:¬(items.size:Int) * x > (2 ^ 63 - 1) / 8) (hc4:Builtin.Tuple.tupleTooMany ((items.size:Int) * x)=false) (hsz:(List.foldl (fun x1 x2=>x1++x2) #[] (List.replicate x.toNat items)).size≤sizeLine) :
 Meets (Builtin.«tuple.__mul__» ⟨[.ref l,.int x u],[]⟩) (fun _ R s=>s.heap.get? l=some { cls:=.type "tuple",dict:=dd,data:=.seq items n,slots:=sl }∧R (.ok (.ret (Value.ref s.heap.objs.size))) { s with heap:=s.heap.push { cls:=Value.type "tuple",data:=Data.seq (List.foldl (fun x1 x2=>x1++x2) #[] (List.replicate x.toNat items)) },toks:=s.toks }):=
 .of_wp fun prog w A R s h=>by
  obtain ⟨hp,g,d,tk,os⟩:=s;obtain ⟨hl,h⟩:=h;have f1:=AutoSeq1.idx_int;have f2:=AutoSeq1.sub_tuple_tuple;have f3:=AutoSeq1.sub_list_list;have f4:=AutoSeq1.sub_tuple_list;have f5:=AutoSeq1.sub_list_tuple
  wp_walk using wpAny_loadPart' hl
  refine wpAny_ite_split (fun z=>absurd z (by rw [hc0];decide)) fun _=>?_
  wp_walk using wpAny_loadPart' hl
  refine wpAny_ite_split (fun z=>absurd z hc3) fun _=>?_
  wp_walk using wpAny_loadPart' hl
  exact ⟨_,rfl,h⟩
end L2
set_option Elab.async false
set_option linter.all false
set_option maxRecDepth 100000
set_option maxHeartbeats 4000000
namespace L2
open PySem PySem.Spec PyProof.Rows
open AutoSeq1 (wpAny_loadPart')
def rMulT (K:PySem.W.Frag):R2:=fun x y H Q=>∃a k xs,x = .ref a∧y = .int k∧SqT K H a xs∧-(2 ^ 62)≤k∧k < 2 ^ 62∧xs.length * k.toNat≤sizeLine∧
 ((xs=[]∨k=1)→Q (.ref a) H)∧(¬(xs=[]∨k=1)→∀p,H p=none→Q (.ref p) (upd H p (.tup (List.replicate k.toNat xs).flatten)))
theorem Inv.tnew {X:Cx} {pins:List (Addr×Obj)} {σ:L2.St} {H:Hp} {s:Shared} {ys:List V} {its:List Value} {t':Nat} (I:Inv X pins σ H s) (hv:Vals ys its) (hz:ys.length≤sizeLine) (ht:s.toks≤t':=by first | exact Nat.le_refl _ | assumption | omega | (dsimp only;omega)) :
 Inv X pins σ (upd H s.heap.objs.size (.tup ys)) { s with heap:=s.heap.push { cls:=.type "tuple",data:=.seq its.toArray },toks:=t' }:=
 I.laid (fun b u e=>Heap.get?_push_of_some _ e) (Nat.le_refl _) ⟨hz,its,hv,⟨_,Heap.get?_push_size _ rfl,rfl,_,rfl⟩⟩
theorem op_mulT {X:Cx}:OpR X (binaryOp .Mult) (rMulT X.K):=by
 intro pins s σ H x y v u Q I rx ry h
 obtain ⟨a,k,xs,rfl,rfl,hq,h1,h2,hz,q1,q2⟩:=h
 cases rx
 obtain ⟨t,rfl⟩:=ry
 obtain ⟨its,r,⟨⟨cls,dd,data,sl⟩,ho,hc,n,hd⟩,z⟩:=I.tuple hq
 simp only at hc hd
 subst hc hd
 have hl:=r.length
 have hc0:(decide (k < -(2 ^ 63)) || decide (k ≥ 2 ^ 63))=false:=by
  rw [Bool.or_eq_false_iff];exact ⟨decide_eq_false (by omega),decide_eq_false (by omega)⟩
 refine wpAny_binaryOp_repeat_ref (T:="tuple") (U:="int") (by decide) ⟨_,ho,rfl⟩ (fun s'=>typeIs_int s' k t) noFill_tuple_mul F.fills_int_mul F.slot_int_rmul repeat_tuple F.slot_int_index.lookup
  (call_meets F.slot_int_rmul (typeIs_int s k t) F.entry_int_rmul (F.args_int_rmul_2 _ _) (rmul_int_tuple k t a its.toArray n dd sl) ⟨ho,rfl,⟨_,ho,rfl⟩,?_⟩)
 by_cases hs:xs=[]∨k=1
 ·have hc1:(its.toArray.isEmpty || k == 1)=true:=by
   rw [Bool.or_eq_true]
   rcases hs with z | z
   ·subst z;cases r;exact .inl rfl
   ·exact .inr (by simp [z])
  exact call_meets F.slot_tuple_mul ⟨_,ho,rfl⟩ F.entry_tuple_mul (F.args_tuple_mul_2 _ _) (tuple_mulW1 a its.toArray n dd sl k t hc0 hc1) ⟨ho,.ref a,H,I,rfl,q1 hs⟩
 ·have hne:its≠[]:=fun z=>hs (.inl (by subst z;cases r;rfl))
  have hk1:k≠1:=fun z=>hs (.inr z)
  have hem:its.toArray.isEmpty=false:=by cases its with | nil=>exact absurd rfl hne | cons _ _=>rfl
  have hc1:(its.toArray.isEmpty || k == 1)=false:=by rw [hem];simpa using hk1
  by_cases hk:k≤0
  ·have hc2:(decide (k≤0) || its.toArray.isEmpty)=true:=by rw [decide_eq_true hk];rfl
   refine call_meets F.slot_tuple_mul ⟨_,ho,rfl⟩ F.entry_tuple_mul (F.args_tuple_mul_2 _ _) (tuple_mulW2 a its.toArray n dd sl k t hc0 hc1 hc2) ⟨ho,?_⟩
   have hk0:k.toNat=0:=by omega
   refine ⟨.ref _,_,I.tnew (t':=s.toks) (ys:=[]) (its:=[]) .nil (Nat.zero_le _),rfl,?_⟩
   have:=q2 hs _ I.fresh
   rw [hk0] at this
   exact this
  ·have hc2:(decide (k≤0) || its.toArray.isEmpty)=false:=by rw [decide_eq_false hk,hem];rfl
   have hsz:its.length * k.toNat≤sizeLine:=by rw [←hl];exact hz
   have hmul:((its.toArray.size:Nat):Int) * k=((its.length * k.toNat:Nat):Int):=by
    rw [List.size_toArray,Int.natCast_mul,Int.toNat_of_nonneg (by omega)]
   have hline:(sizeLine:Nat)≤(2 ^ 63 - 1) / 8:=by decide
   have hc3:¬(its.toArray.size:Int) * k > (2 ^ 63 - 1) / 8:=by rw [hmul];omega
   have hc4:Builtin.Tuple.tupleTooMany ((its.toArray.size:Int) * k)=false:=by
    unfold Builtin.Tuple.tupleTooMany;rw [hmul];exact decide_eq_false (by omega)
   have f0:List.foldl (fun x1 x2=>x1++x2) #[] (List.replicate k.toNat its.toArray)=(List.replicate k.toNat its).flatten.toArray:=by
    have:=foldl_rep its k.toNat []
    rw [List.nil_append] at this
    exact this
   have hfz:(List.foldl (fun x1 x2=>x1++x2) #[] (List.replicate k.toNat its.toArray)).size≤sizeLine:=by
    rw [f0,List.size_toArray,len_rep,Nat.mul_comm];exact hsz
   refine call_meets F.slot_tuple_mul ⟨_,ho,rfl⟩ F.entry_tuple_mul (F.args_tuple_mul_2 _ _) (tuple_mulW3 a its.toArray n dd sl k t hc0 hc1 hc2 hc3 hc4 hfz) ⟨ho,?_⟩
   rw [f0]
   exact ⟨.ref _,_,I.tnew (t':=s.toks) (r.rep k.toNat) (by rw [len_rep,Nat.mul_comm];exact hz),rfl,q2 hs _ I.fresh⟩
theorem MtM.or {X:Cx} {id:String} {r r':V→List V→Hp→VK→Prop} (h:MtM X id r) (h':MtM X id r'):MtM X id (fun x xs H Q=>r x xs H Q∨r' x xs H Q):=by
 intro pins s σ H x xs v us Q I rx rv q
 rcases q with q | q
 ·exact h pins s σ H x xs v us Q I rx rv q
 ·exact h' pins s σ H x xs v us Q I rx rv q
section
variable {X:Cx} {a b c d:Expr} {ta tb tc td:TE} {pos:Pos}
end
end L2
set_option Elab.async false
set_option linter.all false
set_option maxRecDepth 100000
set_option maxHeartbeats 4000000
set_option autoImplicit false
namespace F2
open PySem L2 PySem.Spec
section
variable {K:PySem.W.Frag}
def add5 (x y:D):M D:=match x,y with
 | .tup [],.tup ys=>ret (.tup ys)
 | x,y=>addD x y
def rAdd5 (K:PySem.W.Frag):R2:=fun x y H Q=>rAdd4 K x y H Q∨rCat0 K x y H Q
theorem op_add5 {X:Cx}:OpR X (binaryOp .Add) (rAdd5 X.K):=op_add4.or op_cat0
theorem sem_add5:Sem2 K (rAdd5 K) add5:=fun {Oo c t σ H x y dx dy r t' Q} f rx ry eq k=>by
 unfold add5 at eq
 split at eq
 ·next ys=>
  cases eq
  cases rx with
  | tup h1 h2 h3=>
    cases h3
    cases ry with
    | tup g1 g2 g3=>exact .inr ⟨_,_,_,rfl,rfl,SqT.of h1,SqT.of g1,k _ H c f .refl (.tup g1 g2 g3)⟩
 ·exact .inl (sem_add f rx ry eq k)
def mulD:D→D→M D
 | .int i,.int j=>fun t=>if mulOk i j=true then some (.int (i * j),t) else none
 | .tup xs,.int k=>fun t=>if small k=true∧xs.length * k.toNat≤LIM then some (.tup (List.replicate k.toNat xs).flatten,t) else none
 | .lst xs,.int k=>fun t=>if small k=true∧xs.length * k.toNat≤LIM then some (.lst (List.replicate k.toNat xs).flatten,t) else none
 | _,_=>fail
def rMul3 (K:PySem.W.Frag):R2:=fun x y H Q=>rI CMul (fun i j=>.int (i * j)) x y H Q∨(rMulT K x y H Q∨rRep x y H Q)
theorem op_mul3 {X:Cx}:OpR X (binaryOp .Mult) (rMul3 X.K):=op_mul.or (op_mulT.or op_rep)
theorem sem_mul:Sem2 K (rMul3 K) mulD:=fun {Oo c t σ H x y dx dy r t' Q} f rx ry eq k=>by
 cases ry with
 | int j=>
   cases rx with
   | int i=>
     unfold mulD at eq
     dsimp only at eq
     split at eq
     ·next h=>cases eq;exact .inl ⟨i,j,rfl,rfl,mulOk_iff h,k _ H c f .refl (.int _)⟩
     ·cases eq
   | @tup a vs ds h1 h2 h3=>
     unfold mulD at eq
     dsimp only at eq
     split at eq
     ·next h=>
      cases eq
      obtain ⟨g1,g2⟩:=small_iff h.1
      refine .inr (.inl ⟨a,j,vs,rfl,rfl,SqT.of h1,g1,g2,by rw [h3.length];exact Nat.le_trans h.2 LIM_le,fun hs=>?_,fun hs p hp=>?_⟩)
      ·rcases hs with z | z
       ·subst z
        have:ds=[]:=List.length_eq_zero_iff.mp h3.length.symm
        subst this
        have e:(List.replicate j.toNat ([]:List D)).flatten=[]:=by simp
        rw [e] at k
        exact k _ H c f .refl (.tup h1 h2 h3)
       ·subst z
        have e:(List.replicate (1:Int).toNat ds).flatten=ds:=by simp
        rw [e] at k
        exact k _ H c f .refl (.tup h1 h2 h3)
      ·exact k _ _ c (f.laid hp) (f.stp_laid hp) (.tup upd_same (f.s.free hp) ((h3.rep j.toNat).mono (Ext.laid f.s hp)))
     ·cases eq
   | @lst a vs ds h1 h2 h3=>
     unfold mulD at eq
     dsimp only at eq
     split at eq
     ·next h=>
      cases eq
      obtain ⟨g1,g2⟩:=small_iff h.1
      refine .inr (.inr ⟨a,j,vs,rfl,rfl,h1,by omega,by omega,by rw [h3.length];exact Nat.le_trans h.2 LIM_le,fun p hp=>?_⟩)
      exact k _ _ c (f.laid hp) (f.stp_laid hp) (.lst upd_same (f.s.free hp) ((h3.rep j.toNat).mono (Ext.laid f.s hp)))
     ·cases eq
   | _=>cases eq
 | _=>cases rx <;> cases eq
end
section
variable {X:Cx} {e a b:Expr} {pos:Pos}
def app1 (xs:List D):List D→Option (List D)
 | [d]=>if xs.length < LIM then some (xs++[d]) else none
 | _=>none
def ownM (i:Nat) (h:List D→List D→Option (List D)) (g:M (List D)):M Out:=fun t=>match t.env[i]? with
 | some (some (.own _))=>bnd g (fun ds t1=>match t1.env[i]? with
   | some (some (.own xs))=>(h xs ds).map fun ys=>(.next,{ t1 with env:=t1.env.set i (some (.own ys)) })
   | _=>none) t
 | _=>none
def SemM (K:PySem.W.Frag) (R:V→List V→Hp→VK→Prop) (h:List D→List D→Option (List D)):Prop:=∀{c:Cf} {S:List Ob} {H:Hp} {a:Addr} {vs us:List V} {xs ds ys:List D} {Q:VK},SInv K c S H→H a=some (.lst vs)→Reps K c H vs xs→Reps K c H us ds→h xs ds=some ys→
 (∀ws,Reps K c H ws ys→Q .non (upd H a (.lst ws)))→R (.ref a) us H Q
theorem sem_app {K:PySem.W.Frag}:SemM K rAppend app1:=fun {c S H a vs us xs ds ys Q} s h r rs e k=>by
 unfold app1 at e
 split at e
 ·next d=>
  split at e
  ·next hl=>
   cases e
   obtain ⟨v,rfl,rv⟩:=reps1 rs
   exact ⟨a,vs,v,rfl,rfl,h,by rw [r.length];exact Nat.lt_of_lt_of_le hl LIM_le,k _ (r.append (.cons rv .nil))⟩
  ·cases e
 ·cases e
theorem RS.ownM {μ:Cf→Hp→D→(V→Hp→Prop)→Prop} {K:PySem.W.Frag} {i:Nat} {h:List D→List D→Option (List D)} {g:M (List D)} {R:V→List V→Hp→VK→Prop} (s:SemM K R h) {E:Ends} {σ:L2.St} {H:Hp} (q:RSg K μ (F2.ownM i h g) E σ H):tDrop (tBM K "list" R (tVar i) (RA K g)) E σ H:=by
 obtain ⟨Oo,c,t,fi,o,t',eq,k⟩:=q
 unfold F2.ownM at eq
 split at eq
 ·next xs0 e0=>
  obtain ⟨ds,t1,e1,eq⟩:=bnd_some eq
  obtain ⟨a,vs0,h1,h2,h3,h4,h5⟩:=fi.own i xs0 e0
  refine ⟨.ref a,h1,.inl ⟨rfl,vs0,SqL.of h4⟩,Oo,c,t,fi,ds,t1,e1,fun us H1 c1 f1 s1 rus=>?_⟩
  split at eq
  ·next xs ex=>
   obtain ⟨ys,ey,ez⟩:=Option.map_eq_some_iff.mp eq
   cases ez
   obtain ⟨a',vs,g1,g2,g3,g4,g5⟩:=f1.own i xs ex
   rw [h1] at g1;injection g1 with g1;injection g1 with g1;injection g1 with g1;subst g1
   refine s f1.s g4 g5 rus ey fun ws rws=>?_
   obtain ⟨f2,s2⟩:=f1.wrOwn ex h1 rws
   exact k σ _ c1 f2 (s1.trans s2)
  ·cases eq
 ·cases eq
theorem fs_appOwn {μ:Cf→Hp→D→(V→Hp→Prop)→Prop} (i:Nat) {x:Str} {es:List Expr} {g:M (List D)} {px apos cpos:Pos} (ha:PA X (e :: es) (RA X.K g)) (hN:X.N[i]?=some x:=by rfl) (hv:Vis X.env.scope x:=by first | exact Or.inl rfl | exact Or.inr (Or.inl rfl) | exact Or.inr (Or.inr rfl)) (hd:(x == ("__debug__" : Str))=false:=by decide)
 (hcd:(x == ("__classdict__" : Str))=false:=by decide)
 (hbase:attributeBase (.Name x px) "append" X.env (eval (.Name x px) X.env)=eval (.Name x px) X.env:=by rfl)
 (hfew:((backTo cpos (starEach (e :: es) X.env)).all (fun x=>!x.1) && (backToKw cpos (keywordEach [] X.env)).all (fun x=>x.1.isSome) && decide ((e :: es).length + ([]:List Keyword).length + (if ([]:List Keyword).isEmpty then 0 else 1) < 30))=true:=by rfl)
 (hline:(apos.endLine == cpos.line)=true:=by rfl) (hs:starEach (e :: es) X.env=(false,eval e X.env) :: starEach es X.env:=by rfl) (hplain:(backTo cpos (starEach es X.env)).any (·.1)=false:=by rfl) :
 PS X (.Expr (.Call (.Attribute (.Name x px) "append" apos) (e :: es) [] cpos) pos) (RSg X.K μ (ownM i app1 g)):=
 PS_imp (ps_expr (pe_bm PySem.F.plainAttrs_list PySem.F.slot_list_append PySem.F.type_list_append mt_append (pe_var hN hv hd hcd) ha hbase hfew hline hs hplain)) fun _ _ _ q=>RS.ownM sem_app q
def stOb (o i d:D):M Unit:=match o,i with
 | .obj k,.int j=>fun t=>match t.S[k]? with
   | some (.lst xs)=>(ixN xs.length j).map fun n=>((),{ t with S:=t.S.set k (.lst (xs.set n d)) })
   | _=>none
 | _,_=>fail
def stD (f g:M D) (d:D):M Unit:=bnd f fun o=>bnd g fun i=>stOb o i d
end
end F2
set_option Elab.async false
set_option linter.all false
set_option maxRecDepth 100000
set_option maxHeartbeats 4000000
set_option autoImplicit false
namespace F2
open PySem L2 PySem.Spec
section
variable {X:Cx} {e a b tg iter elt:Expr} {ifs:List Expr} {pos:Pos} {scope:Scope} {N':List Str} {n:Nat} {fr:List Nat} {f:M (List D)} {st:D→M Unit} {tst:M Bool} {el:M D}
def tTru:M Bool:=ret true
theorem fif_nil:PIf X [] (RT X.K tTru):=fun pins s σ H Q I ⟨Oo,c,t,fi,r,t',eq,k⟩=>pif_nil pins s σ H Q I (by cases eq;exact k H c fi .refl)
theorem ff_comp (O:CmpOk X scope N' (csig n fr)) (hc:X.calm=true) (hi:PI X tg iter (RI X.K f))
 (hg:∀cl C s2 H2 fp,PG (cmpX X N' scope cl C s2 H2 fp) tg (RG X.K st)) (ht:∀cl C s2 H2 fp,PIf (cmpX X N' scope cl C s2 H2 fp) ifs (RT X.K tst)) (he:∀cl C s2 H2 fp,PE (cmpX X N' scope cl C s2 H2 fp) elt (RE X.K el))
 (hs:∀x,foldedSetIterable iter X.env x=pure x:=by intro _;rfl):PE X (.ListComp elt [⟨tg,iter,ifs,0⟩] scope pos) (RF X.K (fComp n fr f st tst el)):=
 PE_imp (pe_comp O hc hi hg ht he hs) fun _ _ _ q=>RF.comp q
theorem RF.ofPure {K:PySem.W.Frag} {f:M (List D)} {σ:L2.St} {H:Hp} {Q:VK} (q:RE K (fPure f) σ H Q):RF K f σ H Q:=by
 obtain ⟨Oo,c,t,fi,r,t',eq,k⟩:=q
 obtain ⟨ds,t1,e1,eq⟩:=bnd_some eq
 cases eq
 exact ⟨Oo,c,t,fi,ds,_,e1,fun p xs H1 c1 f1 s1 rxs hp=>k _ _ c1 (f1.laid hp) (s1.trans (f1.stp_laid hp)) (.lst upd_same (f1.s.free hp) (rxs.mono (Ext.laid f1.s hp)))⟩
theorem fs_setC {μ:Cf→Hp→D→(V→Hp→Prop)→Prop} {i:Nat} {y:Str} {py spos:Pos} (O:CmpOk X scope N' (csig n fr)) (hc:X.calm=true) (hN:X.N.Nodup) (hiN:X.N[i]?=some y) (hx:X.env.scope.names.lookup y=some .local) (hi:PI X tg iter (RI X.K f))
 (hg:∀cl C s2 H2 fp,PG (cmpX X N' scope cl C s2 H2 fp) tg (RG X.K st)) (ht:∀cl C s2 H2 fp,PIf (cmpX X N' scope cl C s2 H2 fp) ifs (RT X.K tst)) (he:∀cl C s2 H2 fp,PE (cmpX X N' scope cl C s2 H2 fp) elt (RE X.K el))
 (hsw:swapsWith (.ListComp elt [⟨tg,iter,ifs,0⟩] scope pos) (some (.Name y py)) spos.line X.env=pure true:=by rfl)
 (hs:∀x,foldedSetIterable iter X.env x=pure x:=by intro _;rfl):PS X (.Assign [.Name y py] (.ListComp elt [⟨tg,iter,ifs,0⟩] scope pos) spos) (RSg X.K μ (setS i (fPure (fComp n fr f st tst el)))):=
 PS_imp (ps_setC O hc hN hiN hx hi hg ht he hsw hs) fun E σ H q=>RF.comp (RF.ofPure (RS.set q))
theorem cmp_mk (tgs:List Str) (frn:List (Nat×Str)) (hk:scope.kind = .function) (hcell:(scope.names.all fun y=>y.2 != .cell)=true) (hloc:(scope.names.all fun y=>y.2 != .local || scope.names.lookup y.1 == some .local)=true)
 (hfree:(scope.names.all fun y=>y.2 != .free || X.env.kindOf y.1 == some .cell || X.env.kindOf y.1 == some .free)=true)
 (hf:(frn.all fun p=>X.N[p.1]? == some p.2 && scope.names.lookup p.2 == some .free)=true):CmpOk X scope (tgs++frn.map (·.2)) (csig tgs.length (frn.map (·.1))):=by
 rw [List.all_eq_true] at hcell hloc hfree hf
 refine ⟨hk,fun y hy=>by simpa using hcell y hy,fun y hy hl=>?_,fun y hy hl=>?_,fun σ _=>by simp [csig],fun σ j x v h1 h2=>?_⟩
 ·have:=hloc y hy
  simpa [hl] using this
 ·have:=hfree y hy
  simpa [hl] using this
 ·unfold csig at h2
  by_cases hj:j < tgs.length
  ·rw [List.getElem?_append_left (by simpa using hj),List.getElem?_replicate] at h2
   split at h2 <;> simp at h2
  ·rw [List.getElem?_append_right (by simpa using hj),List.length_replicate,List.getElem?_map,List.getElem?_map] at h2
   rw [List.getElem?_append_right (by simpa using hj),List.getElem?_map] at h1
   cases e:frn[j - tgs.length]? with
   | none=>rw [e] at h1;cases h1
   | some p=>
     rw [e] at h1 h2
     simp only [Option.map_some,Option.some.injEq] at h1 h2
     have hp:=hf p (List.mem_of_getElem? e)
     rw [Bool.and_eq_true] at hp
     refine ⟨p.1,by rw [←h1];simpa using hp.1,?_,by rw [←h1];simpa using hp.2⟩
     cases e2:σ[p.1]? with
     | none=>rw [e2] at h2;cases h2
     | some o=>rw [e2] at h2;simpa using h2
end
mutual
def pureD:D→Bool
 | .tup xs=>purs xs
 | .lst xs=>purs xs
 | .obj _=>false
 | .scr _=>false
 | .exc _ _=>false
 | _=>true
def purs:List D→Bool
 | []=>true
 | d :: r=>pureD d && purs r
end
def c0:Cf:=⟨[],fun _=>False⟩
theorem c0_A (a:Addr):¬c0.A a:=fun h=>h.elim (fun z=>nomatch z) fun z=>z
mutual
theorem rep_c0 {K:PySem.W.Frag} {c:Cf} {H:Hp}:∀{v:V} {d:D},Rep K c H v d→pureD d=true→Rep K c0 H v d
 | _,_,.non,_=>.non
 | _,_,.bl b,_=>.bl b
 | _,_,.int i,_=>.int i
 | _,_,.str x,_=>.str x
 | _,_,.ty n,_=>.ty n
 | _,_,.tup h n r,p=>.tup h (c0_A _) (reps_c0 r (by simpa [pureD] using p))
 | _,_,.lst h n r,p=>.lst h (c0_A _) (reps_c0 r (by simpa [pureD] using p))
 | _,_,.scr h,p=>by simp [pureD] at p
 | _,_,.dic h n,_=>.dic h (c0_A _)
 | _,_,.obj h,p=>by simp [pureD] at p
 | _,_,.exc _ _ _ _ _,p=>by simp [pureD] at p
theorem reps_c0 {K:PySem.W.Frag} {c:Cf} {H:Hp}:∀{vs:List V} {ds:List D},Reps K c H vs ds→purs ds=true→Reps K c0 H vs ds
 | _,_,.nil,_=>.nil
 | _,_,.cons h t,p=>by
   simp only [purs,Bool.and_eq_true] at p
   exact .cons (rep_c0 h p.1) (reps_c0 t p.2)
end
def res1 (S:List Ob):D→D
 | .obj k=>match S[k]? with
   | some (.lst ds)=>.lst ds
   | _=>.obj k
 | d=>d
def isOb:D→Bool
 | .obj _=>true
 | _=>false
def eqS (g:Bool→Bool) (x y:D):M D:=fun t=>
 if (isOb x || isOb y)=true then (if (pureD (res1 t.S x) && pureD (res1 t.S y))=true then (eqN EQD (res1 t.S x) (res1 t.S y)).map fun b=>(.bl (g b),t) else none)
 else (eqN EQD x y).map fun b=>(.bl (g b),t)
theorem rep_res1 {K:PySem.W.Frag} {c:Cf} {S:List Ob} {H:Hp} {v:V} {d:D} (s:SInv K c S H) (r:Rep K c H v d) (p:pureD (res1 S d)=true):Rep K c0 H v (res1 S d):=by
 cases r with
 | @obj a k hk=>
   unfold res1 at p ⊢
   dsimp only at p ⊢
   split
   ·next ds e=>
    rw [e] at p
    obtain ⟨vs,h1,h2⟩:=s.obs k a _ hk e
    exact .lst h1 (c0_A _) (reps_c0 h2 (by simpa [pureD] using p))
   ·next h=>
    split at p
    ·next ds e=>exact absurd e (h ds)
    ·simp [pureD] at p
 | non=>exact .non
 | bl b=>exact .bl b
 | int b=>exact .int b
 | str b=>exact .str b
 | ty b=>exact .ty b
 | tup h n q=>exact rep_c0 (.tup h n q) p
 | lst h n q=>exact rep_c0 (.lst h n q) p
 | scr h=>exact rep_c0 (c:=c) (.scr h) p
 | dic h n=>exact rep_c0 (.dic h n) p
 | exc a b n f q=>exact rep_c0 (.exc a b n f q) p
theorem sem_eqS {K:PySem.W.Frag} {g:Bool→Bool}:Sem2 K (rEqD K g) (eqS g):=fun {Oo c t σ H x y dx dy r t' Q} f rx ry eq k=>by
 unfold eqS at eq
 split at eq
 ·split at eq
  ·next hp=>
   rw [Bool.and_eq_true] at hp
   obtain ⟨b,e1,e2⟩:=Option.map_eq_some_iff.mp eq
   cases e2
   exact ⟨c0,_,_,b,rep_res1 f.s rx hp.1,rep_res1 f.s ry hp.2,e1,k _ H c f .refl (.bl (g b))⟩
  ·cases eq
 ·obtain ⟨b,e1,e2⟩:=Option.map_eq_some_iff.mp eq
  cases e2
  exact ⟨c,dx,dy,b,rx,ry,e1,k _ H c f .refl (.bl (g b))⟩
theorem law_start {K:PySem.W.Frag} {H:Hp} {a:Addr} {ns:List Int} {f:Fn} {S':List Ob} (hO:Only H) (hS:SqL K H a (ns.map V.int)) (e:f [.scr ns] []=some (.bl true,S')):spF K f [.ref a] H (fun v _=>v = .bl true) fun _ _ _=>False:=by
 refine ⟨c0,[.scr ns],[],⟨rfl,List.Pairwise.nil,fun k a o h=>by simp [c0] at h,fun b z=>z.elim,fun b z=>z.elim⟩,.cons (.scr ?_) .nil,.bl true,S',e,fun v H' c' _ _ _ rv=>by cases rv;rfl⟩
 rcases hS with (h | h) | h
 ·rcases hO a with z | ⟨o,xs,z⟩
  ·rw [z] at h;cases h
  ·rw [z] at h;cases h
 ·exact .inl ⟨h,c0_A _⟩
 ·exact .inr h
end F2
set_option Elab.async false
set_option linter.all false
set_option maxRecDepth 100000
set_option maxHeartbeats 4000000
set_option autoImplicit false
namespace L2
open PySem PySem.Spec PyProof.Rows
section
variable {prog:Program} {w:World} {A:Around} {E:Value→Shared→Prop} {s:Shared}
end
section
variable {X:Cx} {pos:Pos}
def gUn (K:PySem.W.Frag) (n:Nat) (t:TGs):TG:=fun v σ H Q=>∃a xs,v = .ref a∧(SqT K H a xs∨SqL K H a xs)∧xs.length=n∧t xs σ H Q
end
section
open HT
variable {prog:Program} {w:World} {A:Around} {E:Value→Shared→Prop} {s:Shared}
theorem getItem_tuple_whole {t sl:Addr} {items:Array Value} {vl vu:Value} {lo hi:Option Int} {Q:Value→Shared→Prop} (ht:IsTup s.heap t items) (hs:s.heap.IsSliceOf sl vl vu .none) (pl:IsPart vl lo) (pu:IsPart vu hi)
 (hw:sIx items.size 0 lo=0∧sIx items.size items.size hi=items.size) (h:Q (.ref t) s):wpAny (model prog w) A (getItem (.ref t) (.ref sl)) Q E s:=by
 obtain ⟨os,hos,hcs,hds⟩:=id hs
 have hTs:s.TypeIs (.ref sl) "slice":=⟨os,hos,hcs⟩
 unfold getItem
 try with_reducible refine wpAny_holding ?_
 first | refine wpAny_bind (wpAny_pure ?_) | skip
 refine wpAny_bind (wpAny_sequenceKey ht.typeIs (by decide) ?_)
 refine wpAny_bind (wpAny_callSpecial?_slot (name:=Str.ofString "__getitem__") ht.typeIs PyProof.Rows.slot_tuple_getitem
  (wpAny_call_entry PyProof.Rows.slot_tuple_getitem ht.typeIs entry_tuple_getitem ?_ (args_tuple_getitem _ _)))
 show wpAny _ _ (Builtin.Tuple.tupleItemsOf (.ref t) >>= _) _ _ s
 refine wpAny_bind (tupleItemsOf_ ht ?_)
 refine wpAny_bind (wpAny_typeOf hTs ?_)
 rw [if_pos (by decide)]
 refine wpAny_bind (sliceApplied_gen hs pl pu ?_)
 have hyes:(((sIx items.size 0 lo:Nat):Int) == 0 && (1:Int) == 1 && (sIx items.size items.size hi - sIx items.size 0 lo) == items.size)=true:=by
  rw [hw.1,hw.2];simp
 show wpAny _ _ (if (((sIx items.size 0 lo:Nat):Int) == 0 && (1:Int) == 1 && (sIx items.size items.size hi - sIx items.size 0 lo) == items.size)=true then _ else _) _ _ s
 rw [if_pos hyes]
 refine wpAny_bind (m:=Builtin.Tuple.tupleIsExact _) ?_
 unfold Builtin.Tuple.tupleIsExact
 refine wpAny_bind (wpAny_typeOf ht.typeIs (wpAny_pure ?_))
 rw [if_pos (by decide)]
 first
  | exact wpAny_bind (wpAny_rule (wpAny_pure ⟨_,rfl,wpAny_pure h⟩))
  | exact wpAny_bind (wpAny_rule (wpAny_bind (wpAny_pure (wpAny_pure ⟨_,rfl,wpAny_pure h⟩))))
end
section
variable {X:Cx}
def rSlW (K:PySem.W.Frag):V→Option Int→Option Int→Hp→VK→Prop:=fun x lo hi H Q=>∃a xs,x = .ref a∧SqT K H a xs∧(HT.sIx xs.length 0 lo=0∧HT.sIx xs.length xs.length hi=xs.length)∧Q (.ref a) H
theorem sl_tupW:SlR X (rSlW X.K):=by
 intro pins s σ H x v vl vu lo hi sl Q I rx hs pl pu h
 obtain ⟨a,xs,rfl,hx,hw,q⟩:=h
 cases rx
 obtain ⟨its,r,ht,hz⟩:=I.tuple hx
 have hlen:its.toArray.size=xs.length:=by rw [List.size_toArray];exact r.length.symm
 exact ⟨"tuple",_,PyProof.Rows.slot_tuple_getitem.lookup,ht.typeIs,getItem_tuple_whole ht hs pl pu (by rw [hlen];exact hw) ⟨.ref a,H,I,rfl,q⟩⟩
end
def Its (z:Str):It:=⟨fun i _=>i < z.cps.size,fun i H x H'=>H'=H∧∃c,z.cps[i]?=some c∧x = .str ⟨#[c]⟩,fun i _=>i=z.cps.size⟩
theorem turn_str {P:Program} {w:World} {K:PySem.W.Frag} {tg:Expr} {T:String} {x:Str} {t:Tok} (it:Addr) (hT:["enumerate", "zip", "dict_itemiterator", "dict_reverseitemiterator", "odict_iterator", "itertools.zip_longest", "itertools.pairwise"].contains T=false)
 (W:∀A:Around,A.handled=none→Walks P w A it [it] [it] x.cps.size (SignAt x) (fun i h=>h.IsStrIter it T x t i))
 (self:∀(A:Around) (i:Nat) (s:Shared) (Q:Value→Shared→Prop) (E:Value→Shared→Prop),s.heap.IsStrIter it T x t i→Q (.ref it) s→wpAny (model P w) A (pyIter (.ref it)) Q E s) :
 Turn P w K tg (Its x) [it] it (fun i h=>h.IsStrIter it T x t i) where
 mem:=by simp
 obj:=fun i h st b hb=>by
  have e:b=it:=by simpa using hb
  subst e
  obtain ⟨o,e,c,d⟩:=st
  exact ⟨o,e,fun v z=>by rw [d] at z;cases z⟩
 keep:=fun i h h' st k=>by
  obtain ⟨o,e,r⟩:=st
  exact ⟨o,k it (by simp) o e,r⟩
 item:=by
  intro X hP hw hK hc i pins s σ H E I hf st hg
  subst hP hw hK
  obtain ⟨f0,f1,f2,f3,f4,f5⟩:=hf it (by simp)
  refine wpAny_with_toks (Nat.le_refl s.toks) ((W X.A (I.ok.hd hc)).item i s _ _ hg st fun v h' tk hv st' kk ht=>?_)
  obtain ⟨c,u,hcc,rfl⟩:=hv
  have I1:Inv X pins σ H { s with heap:=h',toks:=tk }:=I.turned (fun b o hb e=>kk b o (by simpa using hb) e) f0 f1 f3 f4 f5
  obtain ⟨o,e,ec,ed⟩:=id st'
  exact ⟨_,rfl,go_of (s:={ s with heap:=h',toks:=tk }) e ec ed hT ⟨.str ⟨#[c]⟩,H,I1,⟨u,rfl⟩,⟨rfl,c,hcc,rfl⟩,st',fun b hb=>(hf b hb).1⟩⟩
 done:=by
  intro X hP hw hK hc i pins s σ H E I hf st hg
  subst hP hw hK
  obtain ⟨f0,f1,f2,f3,f4,f5⟩:=hf it (by simp)
  have hg':i=x.cps.size:=hg
  subst hg'
  exact wpAny_with_toks (Nat.le_refl s.toks) ((W X.A (I.ok.hd hc)).done s _ _ st fun h' tk kk ht=>⟨rfl,I.turned (fun b o hb e=>kk b o (by simpa using hb) e) f0 f1 f3 f4 f5⟩)
 self:=fun A i s Q E st h=>self A i s Q E st h
section
variable {X:Cx} {tg:Expr} {pos:Pos}
def iAny (K:PySem.W.Frag) (tl:TE):TI:=fun σ H R=>tl σ H fun x H1=>(∃a,x = .ref a∧(∃xs,SqL K H1 a xs)∧R (Itl K a) H1)∨(∃a,x = .ref a∧(∃xs,SqT K H1 a xs)∧R (Itt K a) H1)∨∃z,x = .str z∧R (Its z) H1
theorem pi_any {l:Expr} {tl:TE} (hl:PE X l tl):PI X tg l (iAny X.K tl):=by
 intro pins s σ H R I h
 refine thn (hl pins s σ H _ I h) fun v s1 ⟨x,H1,I1,r1,q1⟩=>?_
 have fp:∀b∈[s1.heap.objs.size],FpOk X pins H1 b:=fun b hb=>by
  have e:b=s1.heap.objs.size:=by simpa using hb
  subst e
  exact I1.fpOk (Nat.le_refl _) (I1.hok.fresh (Nat.le_refl _))
 rcases q1 with ⟨a,rfl,⟨xs,hq⟩,q⟩ | ⟨a,rfl,⟨xs,hq⟩,q⟩ | ⟨z,rfl,q⟩
 ·cases r1
  obtain ⟨its,rv,p,hz⟩:=I1.list hq
  refine wpAny_pyIter_list p.isList ?_
  exact ⟨s1.heap.objs.size,[s1.heap.objs.size],_,_,H1,rfl,I1.kept (t':=s1.toks) fun b o e=>Heap.get?_push_of_some _ e,turn_list a _,⟨_,Heap.get?_push_size _ rfl,rfl,rfl⟩,fp,q⟩
 ·cases r1
  obtain ⟨its,rv,p,hz⟩:=I1.tuple hq
  refine wpAny_pyIter_tuple (show s1.heap.IsTuple a its.toArray from p) ?_
  exact ⟨s1.heap.objs.size,[s1.heap.objs.size],_,_,H1,rfl,I1.kept (t':=s1.toks) fun b o e=>Heap.get?_push_of_some _ e,turn_tuple a _,⟨_,Heap.get?_push_size _ rfl,rfl,rfl⟩,fp,q⟩
 ·obtain ⟨t,rfl⟩:=r1
  cases ha:z.cps.all (· < 128)
  ·refine wpAny_pyIter_wide ha ?_
   exact ⟨s1.heap.objs.size,[s1.heap.objs.size],_,_,H1,rfl,I1.kept (t':=s1.toks) fun b o e=>Heap.get?_push_of_some _ e,turn_str (T:="str_iterator") (x:=z) (t:=t) _ (by decide) (fun A hA=>Walks.strWide hA _ z t) (fun _ _ _ _ _ st h=>wpAny_pyIter_striter_wide st h),⟨_,Heap.get?_push_size _ rfl,rfl,rfl⟩,fp,q⟩
  ·refine wpAny_pyIter_ascii ha ?_
   exact ⟨s1.heap.objs.size,[s1.heap.objs.size],_,_,H1,rfl,I1.kept (t':=s1.toks) fun b o e=>Heap.get?_push_of_some _ e,turn_str (T:="str_ascii_iterator") (x:=z) (t:=t) _ (by decide) (fun A hA=>Walks.strAscii hA _ z t) (fun _ _ _ _ _ st h=>wpAny_pyIter_striter_ascii st h),⟨_,Heap.get?_push_size _ rfl,rfl,rfl⟩,fp,q⟩
def tDNew:TE:=fun _ H Q=>∀p,H p=none→Q (.ref p) (upd H p (.dK []))
theorem inv_big {pins:List (Addr×Obj)} {σ:St} {H:Hp} {s:Shared} (I:Inv X pins σ H s):sysModules < s.heap.objs.size:=by
 have h:mainGlobals < s.heap.objs.size:=(I.mod.glob.keeps I.bk).lt
 exact Nat.lt_trans (by decide) h
theorem pe_dnew:PE X (.Dict [] [] pos) tDNew:=fun pins s σ H Q I h=>
 wpAny_Dict_empty ⟨.ref s.heap.objs.size,_,I.laid (a:=s.heap.objs.size) (o:=.dK []) (t':=s.toks) (fun _ _ q=>Heap.get?_push_of_some _ q) (Nat.le_refl _) ⟨Nat.zero_le _,beq_eq_false_iff_ne.mpr (Ne.symm (Nat.ne_of_lt (inv_big I))),[],.nil,Heap.DictOf.new s.heap⟩,rfl,h _ (I.hok.fresh (Nat.le_refl _))⟩
def rMulS:R2:=fun x y H Q=>∃z k,x = .str z∧y = .int k∧MulOk z k∧Q (.str (Txt.mul z k)) H
theorem op_mulS:OpR X (binaryOp .Mult) rMulS:=by
 intro pins s σ H x y v u Q I rx ry h
 obtain ⟨z,k,rfl,rfl,hk,q⟩:=h
 obtain ⟨t,rfl⟩:=rx
 obtain ⟨t',rfl⟩:=ry
 exact wpAny_with_toks (Nat.le_refl s.toks) (SB.mul hk fun t2 tk ht=>⟨.str _,H,I.tok tk,⟨t2,rfl⟩,q⟩)
def rSlS:V→Option Int→Option Int→Hp→VK→Prop:=fun x lo hi H Q=>∃z,x = .str z∧z.length≤sizeLine∧Q (.str (Txt.slice z lo hi)) H
theorem sl_str:SlR X rSlS:=by
 intro pins s σ H x v vl vu lo hi sl Q I rx hs pl pu h
 obtain ⟨z,rfl,hz,q⟩:=h
 obtain ⟨t,rfl⟩:=rx
 refine ⟨"str",_,PySem.F.slot_str_getitem.lookup,typeIs_str _ _ _,?_⟩
 have part:∀{v:Value} {o:Option Int},IsPart v o→∃l:Option (Int×Tok),v=partValue l∧l.map (·.1)=o:=fun {v o} p=>by
  cases p with
  | none=>exact ⟨none,rfl,rfl⟩
  | int i t=>exact ⟨some (i,t),rfl,rfl⟩
 obtain ⟨l,rfl,el⟩:=part pl
 obtain ⟨u,rfl,eu⟩:=part pu
 refine wpAny_getItem_str_slice (l:=l) (u:=u) (st:=none) (by obtain ⟨o,h1,h2,h3⟩:=hs;exact ⟨o,h1,h2,h3⟩) rfl ?_
 unfold sliceMade slicePicked
 rw [el,eu]
 show (if ((1:Int) == 1 && (Builtin.Str.strSliceIndices lo hi 1 z.length).length == z.length)=true then Made.val (.str z t) else Made.str ⟨((Builtin.Str.strSliceIndices lo hi 1 z.length).filterMap (z.cps[·]?)).toArray⟩).post _ s
 have hle:=Txt.slice_le z lo hi
 unfold Txt.slice at q hle
 by_cases hc:((1:Int) == 1 && (Builtin.Str.strSliceIndices lo hi 1 z.length).length == z.length)=true
 ·rw [if_pos hc] at q ⊢
  exact ⟨.str z,H,I,⟨t,rfl⟩,q⟩
 ·rw [if_neg hc] at q hle ⊢
  exact ⟨Nat.le_trans hle hz,.str _,H,I.tok _,⟨_,rfl⟩,q⟩
def rCmp (g:Int→Int→Bool) (h:List Nat→List Nat→Bool):R2:=fun x y H Q=>(∃i j,x = .int i∧y = .int j∧Q (.bl (g i j)) H)∨∃i j,x = .str i∧y = .str j∧Q (.bl (h i.cps.toList j.cps.toList)) H
theorem op_ltA:OpR X (compareOp .Lt) (rCmp (fun i j=>decide (i < j)) fun i j=>decide (i < j)):=op_lt.or fun pins s σ H x y v u Q I rx ry h=>by
 obtain ⟨i,j,rfl,rfl,q⟩:=h
 obtain ⟨t,rfl⟩:=rx
 obtain ⟨t',rfl⟩:=ry
 exact P.lt_str ⟨.bl _,H,I,rfl,q⟩
theorem op_leA:OpR X (compareOp .LtE) (rCmp (fun i j=>decide (i≤j)) fun i j=>!(decide (j < i))):=op_le.or fun pins s σ H x y v u Q I rx ry h=>by
 obtain ⟨i,j,rfl,rfl,q⟩:=h
 obtain ⟨t,rfl⟩:=rx
 obtain ⟨t',rfl⟩:=ry
 exact P.le_str ⟨.bl _,H,I,rfl,q⟩
theorem op_gtA:OpR X (compareOp .Gt) (rCmp (fun i j=>decide (j < i)) fun i j=>decide (j < i)):=op_gt.or fun pins s σ H x y v u Q I rx ry h=>by
 obtain ⟨i,j,rfl,rfl,q⟩:=h
 obtain ⟨t,rfl⟩:=rx
 obtain ⟨t',rfl⟩:=ry
 exact P.gt_str ⟨.bl _,H,I,rfl,q⟩
end
end L2
namespace F2
open PySem L2 PySem.Spec
def itemsA:D→M (List D)
 | .lst ds=>ret ds
 | .scr ns=>ret (ns.map .int)
 | .tup ds=>ret ds
 | .str x=>ret (x.cps.toList.map fun c=>.str ⟨#[c]⟩)
 | _=>fail
def fItA (f:M D):M (List D):=bnd f itemsA
def mul4:D→D→M D
 | .str x,.int k=>fun t=>if small k=true∧x.length * k.toNat≤LIM∧k≤LIM∧x.length≤LIM then some (.str (Txt.mul x k),t) else none
 | x,y=>mulD x y
def sl3D:D→Option Int→Option Int→M D
 | .str x,lo,hi=>lim x.length (.str (Txt.slice x lo hi))
 | .tup ds,lo,hi=>ret (.tup (cutD ds lo hi))
 | x,lo,hi=>slD x lo hi
def cmpA (g:Int→Int→Bool) (h:List Nat→List Nat→Bool):D→D→M D
 | .int i,.int j=>ret (.bl (g i j))
 | .str x,.str y=>ret (.bl (h x.cps.toList y.cps.toList))
 | _,_=>fail
def ltA:=cmpA (fun i j=>decide (i < j)) (fun i j=>decide (i < j))
def leA:=cmpA (fun i j=>decide (i≤j)) (fun i j=>!(decide (j < i)))
def gtA:=cmpA (fun i j=>decide (j < i)) (fun i j=>decide (j < i))
def geA:=cmpA (fun i j=>decide (j≤i)) (fun i j=>!(decide (i < j)))
def unS (n:Nat) (g:List D→M Unit):D→M Unit
 | .tup ds=>if ds.length=n then g ds else fail
 | .lst ds=>if ds.length=n then g ds else fail
 | _=>fail
def fDic:M D:=fC .dic
section
variable {X:Cx} {e a b:Expr} {pos:Pos} {st:Stmt}
theorem fe_dic:PE X (.Dict [] [] pos) (RE X.K fDic):=PE_imp pe_dnew fun σ H Q ⟨Oo,c,t,fi,r,t',eq,k⟩ p hp=>by
 cases eq
 exact k _ _ c (fi.laid hp) (fi.stp_laid hp) (.dic upd_same (fi.s.free hp))
theorem ItOk.str {K:PySem.W.Frag} {c:Cf} {H:Hp} {x:Str}:ItOk K (Its x) c H (x.cps.toList.map fun c=>.str ⟨#[c]⟩):=by
 refine ⟨fun c' H' i ex hi=>?_,fun c' H' i y H'' d ex hd hy=>?_,fun c' H' ex=>?_⟩
 ·show i < x.cps.size
  simpa using hi
 ·obtain ⟨rfl,n,hn,rfl⟩:=hy
  refine ⟨rfl,?_⟩
  have:d = .str ⟨#[n]⟩:=by
   rw [List.getElem?_map] at hd
   have hn':x.cps.toList[i]?=some n:=by simpa using hn
   rw [hn'] at hd
   simpa using hd.symm
  rw [this]
  exact .str _
 ·show _=x.cps.size
  simp
theorem fi_any {tg:Expr} {f:M D} (h:PE X e (RE X.K f)):PI X tg e (RI X.K (fItA f)):=
 PI_imp (pi_any h) fun σ H R ⟨Oo,c,t,fi,ds,t',eq,k⟩=>by
  obtain ⟨d,t1,e1,eq⟩:=bnd_some eq
  refine ⟨Oo,c,t,fi,d,t1,e1,fun v H1 c1 f1 s1 rv=>?_⟩
  cases rv with
  | @lst p vs ds' h1 h2 h3=>
    cases eq
    exact .inl ⟨p,rfl,⟨vs,SqL.of h1⟩,k _ H1 c1 f1 s1 (ItOk.lst fun c' H' ex=>⟨vs,SqL.of (ex.keep _ _ h1 h2),h3.mono ex⟩)⟩
  | @scr p ns h1=>
    cases eq
    exact .inl ⟨p,rfl,⟨_,h1.sq⟩,k _ H1 c1 f1 s1 (ItOk.lst fun c' H' ex=>⟨_,(h1.mono ex).sq,Reps.ints ns⟩)⟩
  | @tup p vs ds' h1 h2 h3=>
    cases eq
    exact .inr (.inl ⟨p,rfl,⟨vs,SqT.of h1⟩,k _ H1 c1 f1 s1 (ItOk.tup fun c' H' ex=>⟨vs,SqT.of (ex.keep _ _ h1 h2),h3.mono ex⟩)⟩)
  | str x=>
    cases eq
    exact .inr (.inr ⟨x,rfl,k _ H1 c1 f1 s1 ItOk.str⟩)
  | _=>cases eq
theorem RG.un {K:PySem.W.Frag} {n:Nat} {g:List D→M Unit} {v:V} {σ:L2.St} {H:Hp} {Q:L2.St→Hp→Prop} (q:RG K (unS n g) v σ H Q):gUn K n (RGs K g) v σ H Q:=by
 obtain ⟨Oo,c,t,d,fi,rv,t',eq,k⟩:=q
 cases rv with
 | @tup a vs ds h1 h2 h3=>
   unfold unS at eq
   by_cases hn:ds.length=n
   ·dsimp only at eq
    rw [if_pos hn] at eq
    exact ⟨a,vs,rfl,.inl (SqT.of h1),by rw [h3.length];exact hn,Oo,c,t,ds,fi,h3,t',eq,k⟩
   ·dsimp only at eq
    rw [if_neg hn] at eq;cases eq
 | @lst a vs ds h1 h2 h3=>
   unfold unS at eq
   by_cases hn:ds.length=n
   ·dsimp only at eq
    rw [if_pos hn] at eq
    exact ⟨a,vs,rfl,.inr (SqL.of h1),by rw [h3.length];exact hn,Oo,c,t,ds,fi,h3,t',eq,k⟩
   ·dsimp only at eq
    rw [if_neg hn] at eq;cases eq
 | _=>cases eq
end
section
variable {K:PySem.W.Frag}
def rMul4 (K:PySem.W.Frag):R2:=fun x y H Q=>rMul3 K x y H Q∨rMulS x y H Q
theorem op_mul4 {X:Cx}:OpR X (binaryOp .Mult) (rMul4 X.K):=op_mul3.or op_mulS
theorem mulOk_small {x:Str} {k:Int} (h:small k=true∧x.length * k.toNat≤LIM∧k≤LIM∧x.length≤LIM):MulOk x k:=by
 obtain ⟨g1,g2⟩:=small_iff h.1
 have hL:LIM=100000:=rfl
 refine ⟨?_,fun h1 _=>?_,fun h1 _=>?_⟩
 ·rw [Bool.or_eq_false_iff];exact ⟨decide_eq_false (by omega),decide_eq_false (by omega)⟩
 ·have h2:k≤100000:=by have:=h.2.2.1;rw [hL] at this;exact this
  have h3:x.length≤100000:=by have:=h.2.2.2;rw [hL] at this;exact this
  have h4:(92233720368547:Int)≤(2 ^ 63 - 1) / k:=by
   rw [Int.le_ediv_iff_mul_le (by omega)]
   omega
  omega
 ·have h5:=h.2.1
  rw [hL] at h5
  unfold Builtin.Str.tooLong
  first | exact decide_eq_false (by unfold sizeLine;omega) | (unfold sizeLine;exact decide_eq_false (by omega))
theorem sem_mul4:Sem2 K (rMul4 K) mul4:=fun {Oo c t σ H x y dx dy r t' Q} f rx ry eq k=>by
 unfold mul4 at eq
 split at eq
 ·next z kk=>
  split at eq
  ·next h=>
   cases eq
   cases rx
   cases ry
   exact .inr ⟨z,kk,rfl,rfl,mulOk_small h,k _ H c f .refl (.str _)⟩
  ·cases eq
 ·exact .inl (sem_mul f rx ry eq k)
def rSl3 (K:PySem.W.Frag):V→Option Int→Option Int→Hp→VK→Prop:=fun x lo hi H Q=>rSl2 K x lo hi H Q∨(rSlS x lo hi H Q∨rSlW K x lo hi H Q)
theorem sl3 {X:Cx}:SlR X (rSl3 X.K):=sl2.or (sl_str.or sl_tupW)
theorem cutD_whole {α:Type} {xs:List α} {lo hi:Option Int} (h:HT.sIx xs.length 0 lo=0∧HT.sIx xs.length xs.length hi=xs.length):cutD xs lo hi=xs:=by
 unfold cutD;rw [h.1,h.2];simp
theorem sem_sl3:Sem3 K (rSl3 K) sl3D:=fun {Oo c t σ H x dx r lo hi t' Q} f rx eq k=>by
 unfold sl3D at eq
 split at eq
 ·next z=>
  obtain ⟨h,e⟩:=lim_some eq
  cases e
  cases rx
  exact .inr (.inl ⟨z,rfl,Nat.le_trans h LIM_le,k _ H c f .refl (.str _)⟩)
 ·next ds=>
  cases eq
  cases rx with
  | @tup p vs ds h1 h2 h3=>
    by_cases hw:HT.sIx ds.length 0 lo=0∧HT.sIx ds.length ds.length hi=ds.length
    ·rw [cutD_whole hw] at k
     exact .inr (.inr ⟨p,vs,rfl,SqT.of h1,by rw [h3.length];exact hw,k _ H c f .refl (.tup h1 h2 h3)⟩)
    ·exact .inl (.inr ⟨p,vs,rfl,SqT.of h1,by rw [h3.length];exact hw,fun q hq=>k _ _ c (f.laid hq) (f.stp_laid hq) (.tup upd_same (f.s.free hq) ((reps_cut h3 lo hi).mono (Ext.laid f.s hq)))⟩)
 ·exact .inl (sem_sl f rx eq k)
theorem sem_cmp {g:Int→Int→Bool} {h:List Nat→List Nat→Bool}:Sem2 K (rCmp g h) (cmpA g h):=fun {Oo c t σ H x y dx dy r t' Q} f rx ry eq k=>by
 cases rx with
 | int i=>cases ry with
   | int j=>cases eq;exact .inl ⟨i,j,rfl,rfl,k _ H c f .refl (.bl _)⟩
   | _=>cases eq
 | str i=>cases ry with
   | str j=>cases eq;exact .inr ⟨i,j,rfl,rfl,k _ H c f .refl (.bl _)⟩
   | _=>cases eq
 | _=>cases eq
theorem sem_ltA:Sem2 K (rCmp (fun i j=>decide (i < j)) fun i j=>decide (i < j)) ltA:=sem_cmp
theorem sem_leA:Sem2 K (rCmp (fun i j=>decide (i≤j)) fun i j=>!(decide (j < i))) leA:=sem_cmp
theorem sem_gtA:Sem2 K (rCmp (fun i j=>decide (j < i)) fun i j=>decide (j < i)) gtA:=sem_cmp
end
theorem fn_ok2 {P:Program} {w:World} {K:PySem.W.Frag} {mg:Str→Option Value} {base:Heap} {x qual:Str} {st:Stmt} {fa:Addr} {fd:FuncData} {N ps:List Str} {k n m:Nat} {g:M Out} (e1:ps.length=n) (e2:N.length=m) (F:Fun K x qual st fa fd) (S:FnScope N ps (defScope st))
 (hb:∀(cdv:Value) (A:Around) (outer:List Env) (s:Shared) (H:Hp) (E:XK),Room k (A.deeper (PyProof.Rows.envOfC qual (defScope st) s.heap.objs.size fa cdv))→
   PSs (cxOf CX0 P w K mg base N qual (defScope st) fa cdv A outer s H E).nox (defBody st) (RS K g)):FnOk P w K mg base CX0 (k + 1) fa fd ps (spF K (fnOf n m g)):=by
 subst e1 e2
 exact fn_ok F S hb
theorem run_ok {P:Program} {w:World} {K:PySem.W.Frag} {mg:Str→Option Value} {base:Heap} {fa:Addr} {fd:FuncData} {ps:List Str} {k:Nat} {f g:Fn} (e:f=g) (h:FnOk P w K mg base CX0 k fa fd ps (spF K g)):FnOk P w K mg base CX0 k fa fd ps (spF K f):=by rw [e];exact h
theorem bt_len:bootBuiltins "len" = some (.builtin "len"):=by decide +kernel
theorem bt_isinstance:bootBuiltins "isinstance" = some (.builtin "isinstance"):=by decide +kernel
theorem bt_ord:bootBuiltins "ord" = some (.builtin "ord"):=by decide +kernel
theorem bt_min:bootBuiltins "min" = some (.builtin "min"):=by decide +kernel
theorem bt_max:bootBuiltins "max" = some (.builtin "max"):=by decide +kernel
theorem bt_int:bootBuiltins "int" = some (.type "int"):=by decide +kernel
theorem bt_str:bootBuiltins "str" = some (.type "str"):=by decide +kernel
theorem bt_bool:bootBuiltins "bool" = some (.type "bool"):=by decide +kernel
theorem bt_list:bootBuiltins "list" = some (.type "list"):=by decide +kernel
theorem bt_tuple:bootBuiltins "tuple" = some (.type "tuple"):=by decide +kernel
def isStar:Expr→Bool
 | .Starred _ _=>true
 | _=>false
theorem star_ne {e:Expr} {es:List Expr} {env:Env} (h:isStar e=false):starEach (e :: es) env=(false,eval e env) :: starEach es env:=by
 cases e <;> first | rfl | cases h
def noStars (es:List Expr):Bool:=es.all fun e=>!isStar e
theorem stars_false:∀{es:List Expr} {env:Env} {p:Pos},noStars es=true→(backTo p (starEach es env)).any (·.1)=false∧(backTo p (starEach es env)).all (fun x=>!x.1)=true
 | [],env,p,_=>⟨rfl,rfl⟩
 | e :: es,env,p,h=>by
   have h':isStar e=false∧noStars es=true:=by
    rw [noStars,List.all_cons,Bool.and_eq_true] at h
    exact ⟨by simpa using h.1,h.2⟩
   obtain ⟨h1,h2⟩:=stars_false (es:=es) (env:=env) (p:=p) h'.2
   rw [star_ne h'.1]
   refine ⟨?_,?_⟩
   ·show (false || (backTo p (starEach es env)).any (·.1))=false
    rw [h1];rfl
   ·show (!false && (backTo p (starEach es env)).all (fun x=>!x.1))=true
    rw [h2];rfl
section
variable {X:Cx} {e a b:Expr} {es:List Expr} {pos:Pos}
theorem fa_consP {f:M D} {g:M (List D)} (ha:PE X e (RE X.K f)) (hr:PA X es (RA X.K g)) (hs:isStar e=false:=by rfl):PA X (e :: es) (RA X.K (fCons f g)):=fa_cons ha hr (star_ne hs)
theorem fe_callP {k:Nat} {fa:Addr} {fd:FuncData} {ps:List Str} {g:Fn} {f:M (List D)} {x:Str} {p:Pos} (F:FnOk X.prog X.w X.K X.mg X.base CX0 k fa fd ps (spF X.K g)) (hr:Room k X.A) (hg:Gl X x) (hm:X.mg x=some (.ref fa)) (hk:PySem.W.keepIn X.K (.ref fa)=true) (hb:Binds X.K fd ps [])
 (ha:PA X (e :: es) (RA X.K f)) (hdb:(x == ("__debug__" : Str))=false:=by decide) (h1:isStar e=false:=by rfl) (h2:noStars es=true:=by rfl) :
 PE X (.Call (.Name x p) (e :: es) [] pos) (RE X.K (fCall g f)):=fe_call F hr hg hm hk hb ha hdb (star_ne h1) (stars_false h2).1
theorem fe_BP {id:String} {R:List V→Hp→VK→Prop} {h:List D→M D} {f:M (List D)} {x:Str} {p:Pos} (hc:CallR X (.builtin id) R) (s:SemN X.K R h) (hg:Gl X x) (hm:X.mg x=none) (hv:bootBuiltins x=some (.builtin id)) (ha:PA X (e :: es) (RA X.K f)) (hn:x≠"__name__":=by decide) (hdb:(x == ("__debug__" : Str))=false:=by decide)
 (h1:isStar e=false:=by rfl) (h2:noStars es=true:=by rfl):PE X (.Call (.Name x p) (e :: es) [] pos) (RE X.K (fB f h)):=fe_B hc s hg hm hv ha hn hdb (star_ne h1) (stars_false h2).1
theorem fe_TP {id:String} {R:List V→Hp→VK→Prop} {h:List D→M D} {f:M (List D)} {x:Str} {p:Pos} (hc:CallR X (.type id) R) (s:SemN X.K R h) (hg:Gl X x) (hm:X.mg x=none) (hv:bootBuiltins x=some (.type id)) (ha:PA X (e :: es) (RA X.K f)) (hn:x≠"__name__":=by decide) (hdb:(x == ("__debug__" : Str))=false:=by decide)
 (h1:isStar e=false:=by rfl) (h2:noStars es=true:=by rfl):PE X (.Call (.Name x p) (e :: es) [] pos) (RE X.K (fB f h)):=fe_T hc s hg hm hv ha hn hdb (star_ne h1) (stars_false h2).1
theorem ff_TP {id:String} {R:List V→Hp→VK→Prop} {h:List D→M (List D)} {f:M (List D)} {x:Str} {p:Pos} (hc:CallR X (.type id) R) (s:SemNF X.K R h) (hg:Gl X x) (hm:X.mg x=none) (hv:bootBuiltins x=some (.type id)) (ha:PA X (e :: es) (RA X.K f)) (hn:x≠"__name__":=by decide) (hdb:(x == ("__debug__" : Str))=false:=by decide)
 (h1:isStar e=false:=by rfl) (h2:noStars es=true:=by rfl):PE X (.Call (.Name x p) (e :: es) [] pos) (RF X.K (fBF f h)):=ff_T hc s hg hm hv ha hn hdb (star_ne h1) (stars_false h2).1
theorem fi_range1P {tg:Expr} {f:M (List D)} {p:Pos} (hg:Gl X "range") (hm:X.mg "range" = none) (ha:PA X [a] (RA X.K f)) (h1:isStar a=false:=by rfl):PI X tg (.Call (.Name "range" p) [a] [] pos) (RI X.K (fRng1 f)):=fi_range1 hg hm ha (star_ne h1)
theorem few_of {cpos:Pos} (h1:isStar e=false) (h2:noStars es=true) (h3:es.length < 20):((backTo cpos (starEach (e :: es) X.env)).all (fun x=>!x.1) && (backToKw cpos (keywordEach [] X.env)).all (fun x=>x.1.isSome) && decide ((e :: es).length + ([]:List Keyword).length + (if ([]:List Keyword).isEmpty then 0 else 1) < 30))=true:=by
 rw [(stars_false (es:=e :: es) (env:=X.env) (p:=cpos) (by rw [noStars,List.all_cons,h1];exact h2)).2]
 show (true && true && decide (es.length + 1 + 0 + 0 < 30))=true
 simp;omega
theorem fs_appOwnP {μ:Cf→Hp→D→(V→Hp→Prop)→Prop} (i:Nat) {x:Str} {g:M (List D)} {px apos cpos:Pos} (ha:PA X (e :: es) (RA X.K g)) (hN:X.N[i]?=some x:=by rfl) (hv:Vis X.env.scope x:=by first | exact Or.inl rfl | exact Or.inr (Or.inl rfl) | exact Or.inr (Or.inr rfl)) (hd:(x == ("__debug__" : Str))=false:=by decide)
 (hcd:(x == ("__classdict__" : Str))=false:=by decide) (hline:(apos.endLine == cpos.line)=true:=by rfl) (h1:isStar e=false:=by rfl) (h2:noStars es=true:=by rfl) (h3:es.length < 20:=by decide) :
 PS X (.Expr (.Call (.Attribute (.Name x px) "append" apos) (e :: es) [] cpos) pos) (RSg X.K μ (ownM i app1 g)):=fs_appOwn i ha hN hv hd hcd rfl (few_of h1 h2 h3) hline (star_ne h1) (stars_false h2).1
end
end F2
set_option Elab.async false
set_option linter.all false
set_option maxRecDepth 100000
set_option maxHeartbeats 4000000
set_option autoImplicit false
namespace HT
open PySem PySem.Spec L2 PyProof.Rows
section
variable {prog:Program} {w:World} {A:Around} {E:Value→Shared→Prop} {s:Shared}
end
end HT
namespace L2
open PySem PySem.Spec PyProof.Rows
section
variable {X:Cx} {e ek:Expr} {p2 pos:Pos} {te:TE} {tk:TO}
end
section
variable {X:Cx}
theorem carried_strs:∀{ys:List Str} {us:List Value},Vals (ys.map V.str) us→CarriedAll us (ys.map PyData.str)
 | [],_,r=>by cases r;exact .nil
 | _ :: _,_,r=>by
   cases r with
   | cons r1 r2=>obtain ⟨t,rfl⟩:=r1;exact .cons (.str _ _) (carried_strs r2)
def rJoin (K:PySem.W.Frag):V→List V→Hp→VK→Prop:=fun x xs H Q=>∃z a ys,x = .str z∧xs=[.ref a]∧SqL K H a (ys.map V.str)∧(∀y∈ys,y.length≤8)∧z.length≤8∧ys.length≤1048576∧Q (.str (Txt.join z ys)) H
theorem mt_join:MtR X "str.join" (rJoin X.K):=by
 intro pins s σ H x xs v us Q I rx rs h
 obtain ⟨z,a,ys,rfl,rfl,ha,h1,h2,h3,q⟩:=h
 obtain ⟨t,rfl⟩:=rx
 obtain ⟨u,rfl,ru⟩:=vals1 rs
 cases ru
 obtain ⟨its,r,pl,_⟩:=I.list ha
 refine wpAny_with_toks (Nat.le_refl s.toks) (join_madeW (l:=ys) (g:=id) 8 pl.isList (by rw [List.map_id];exact carried_strs r) h1 h3 (by omega) fun t' k ht=>?_)
 rw [List.map_id]
 exact ⟨.str _,H,I.tok _,⟨_,rfl⟩,q⟩
end
section
variable {X:Cx}
def sgs (x:Str):List V:=x.cps.toList.map fun c=>V.str ⟨#[c]⟩
theorem vals_sgs:∀(cs:List Nat) (us:List Value),us.length=cs.length→(∀(j:Nat) v,us[j]?=some v→∃c u,cs[j]?=some c∧v = .str ⟨#[c]⟩ u)→Vals (cs.map fun c=>V.str ⟨#[c]⟩) us
 | [],[],_,_=>.nil
 | [],_ :: _,h,_=>nomatch h
 | _ :: _,[],h,_=>nomatch h
 | c :: cs,v :: us,h,g=>by
   obtain ⟨c',u,e1,e2⟩:=g 0 v rfl
   cases e1
   exact .cons ⟨u,e2⟩ (vals_sgs cs us (by simpa using h) fun j w e=>by simpa using g (j + 1) w (by simpa using e))
theorem call_list_txt (hc:X.calm=true):CallR X (.type "list") (fun xs H Q=>∃x,xs=[.str x]∧x.length≤sizeLine∧∀l,H l=none→Q (.ref l) (upd H l (.lst (sgs x)))):=by
 intro pins s σ H xs us Q I r h
 obtain ⟨x,rfl,hz,q⟩:=h
 obtain ⟨u,rfl,t,rfl⟩:=vals1 r
 refine wpAny_with_toks (Nat.le_refl s.toks) (call_list_str (I.ok.hd hc) x t (fun h' tk acc' c' kp e hacc ht=>?_) hz)
 refine ⟨.ref s.heap.objs.size,_,I.laid (t':=tk) kp (Nat.le_refl _) (show ObjOk X.prog X.w _ h' _ (.lst (sgs x)) from ⟨?_,acc'.toList,c',?_,?_⟩),rfl,q _ (I.hok.fresh (Nat.le_refl _))⟩
 ·unfold sgs;rw [List.length_map,Array.length_toList];exact hz
 ·refine vals_sgs _ _ (by rw [Array.length_toList,Array.length_toList];exact hacc.1) fun j v e=>?_
  obtain ⟨c,u,e1,e2⟩:=hacc.2 j v (by simpa using e)
  exact ⟨c,u,by simpa using e1,e2⟩
 ·simpa using e
end
section
variable {X:Cx}
end
end L2
namespace F2
open PySem L2 PySem.Spec
section
variable {X:Cx} {K:PySem.W.Frag}
def strsOf:List D→Option (List Str)
 | []=>some []
 | .str x :: r=>if x.length≤8 then (strsOf r).map (x :: ·) else none
 | _=>none
def joinM (f:M D) (g:M (List D)):M D:=bnd f fun o=>bnd g fun as=>match o,as with
 | .str z,[.lst ds]=>fun t=>match strsOf ds with
   | some ys=>if z.length≤8∧ys.length≤1048576 then some (.str (Txt.join z ys),t) else none
   | none=>none
 | _,_=>fail
theorem strs_rep {c:Cf} {H:Hp}:∀{ds:List D} {vs:List V} {ys:List Str},Reps K c H vs ds→strsOf ds=some ys→vs=ys.map V.str∧∀y∈ys,y.length≤8
 | [],_,ys,r,e=>by
   cases r
   cases e
   exact ⟨rfl,fun _ h=>nomatch h⟩
 | d :: ds,_,ys,r,e=>by
   cases r with
   | cons r1 r2=>
     cases r1 with
     | str x=>
       unfold strsOf at e
       split at e
       ·next hx=>
        obtain ⟨zs,e1,rfl⟩:=Option.map_eq_some_iff.mp e
        obtain ⟨h1,h2⟩:=strs_rep r2 e1
        refine ⟨by rw [h1];rfl,fun y hy=>?_⟩
        rcases List.mem_cons.mp hy with rfl | hy
        ·exact hx
        ·exact h2 y hy
       ·cases e
     | _=>cases e
theorem RE.joinM {f:M D} {g:M (List D)} {σ:L2.St} {H:Hp} {Q:VK} (q:RE K (F2.joinM f g) σ H Q):tBM K "str" (rJoin K) (RE K f) (RA K g) σ H Q:=by
 obtain ⟨Oo,c,t,fi,r,t',eq,k⟩:=q
 obtain ⟨d,t1,e1,eq⟩:=bnd_some eq
 obtain ⟨as,t2,e2,eq⟩:=bnd_some eq
 refine ⟨Oo,c,t,fi,d,t1,e1,fun v H1 c1 f1 s1 rv=>?_⟩
 split at eq
 ·next z ds=>
  cases rv
  refine ⟨rfl,Oo,c1,t1,f1,_,t2,e2,fun us H2 c2 f2 s2 rus=>?_⟩
  obtain ⟨w,rfl,rw'⟩:=reps1 rus
  split at eq
  ·next ys ey=>
   split at eq
   ·next hz=>
    cases eq
    cases rw' with
    | @lst p vs ds h1 h2 h3=>
      obtain ⟨h4,h5⟩:=strs_rep h3 ey
      subst h4
      exact ⟨_,p,ys,rfl,rfl,SqL.of h1,h5,hz.1,hz.2,k _ _ c2 f2 (s1.trans s2) (.str _)⟩
   ·cases eq
  ·cases eq
 ·cases eq
theorem fe_join {o e:Expr} {es:List Expr} {f:M D} {g:M (List D)} {apos cpos:Pos} (ho:PE X o (RE X.K f)) (ha:PA X (e :: es) (RA X.K g))
 (hbase:attributeBase o "join" X.env (eval o X.env)=eval o X.env:=by rfl)
 (hfew:((backTo cpos (starEach (e :: es) X.env)).all (fun x=>!x.1) && (backToKw cpos (keywordEach [] X.env)).all (fun x=>x.1.isSome) && decide ((e :: es).length + ([]:List Keyword).length + (if ([]:List Keyword).isEmpty then 0 else 1) < 30))=true:=by rfl)
 (hline:(apos.endLine == cpos.line)=true:=by rfl) (hs:starEach (e :: es) X.env=(false,eval e X.env) :: starEach es X.env:=by rfl) (hplain:(backTo cpos (starEach es X.env)).any (·.1)=false:=by rfl) :
 PE X (.Call (.Attribute o "join" apos) (e :: es) [] cpos) (RE X.K (joinM f g)):=
 PE_imp (pe_bm PySem.F.plainAttrs_str PySem.F.slot_str_join PySem.F.type_str_join mt_join ho ha hbase hfew hline hs hplain) fun _ _ _ q=>RE.joinM q
def lstF2:List D→M (List D)
 | [.str x]=>fun t=>if x.length≤LIM then some (x.cps.toList.map fun c=>D.str ⟨#[c]⟩,t) else none
 | ds=>lstF ds
theorem reps_sgs {c:Cf} {H:Hp}:∀cs:List Nat,Reps K c H (cs.map fun c=>V.str ⟨#[c]⟩) (cs.map fun c=>D.str ⟨#[c]⟩)
 | []=>.nil
 | _ :: cs=>.cons (.str _) (reps_sgs cs)
theorem sem_lst2:SemNF K (fun xs H Q=>(∃p ys,xs=[.ref p]∧(SqL K H p ys∨SqT K H p ys)∧∀l,H l=none→Q (.ref l) (upd H l (.lst ys)))∨∃x,xs=[.str x]∧x.length≤sizeLine∧∀l,H l=none→Q (.ref l) (upd H l (.lst (sgs x)))) lstF2:=fun {Oo c t σ H xs ds r t' Q} f rx eq k=>by
 unfold lstF2 at eq
 split at eq
 ·next x=>
  obtain ⟨v,rfl,rv⟩:=reps1 rx
  cases rv
  split at eq
  ·next hx=>
   cases eq
   exact .inr ⟨x,rfl,Nat.le_trans hx LIM_le,fun q hq=>k q _ H c f .refl (reps_sgs _) hq⟩
  ·cases eq
 ·exact .inl (sem_lst f rx eq k)
end
end F2
set_option Elab.async false
set_option linter.all false
set_option maxRecDepth 100000
set_option maxHeartbeats 4000000
set_option autoImplicit false
namespace L2
open PySem PySem.Spec PyProof.Rows
def rDGetS:R2:=fun x y H Q=>∃a kvs k v,x = .ref a∧y = .str k∧H a=some (.dK kvs)∧valV kvs (Sum.inr k:Key)=some v∧Q v H
def rDSetS:V→V→V→Hp→(Hp→Prop)→Prop:=fun o i v H Q=>∃a kvs k,o = .ref a∧i = .str k∧H a=some (.dK kvs)∧kvs.length < sizeLine∧Q (upd H a (.dK (putK kvs (Sum.inr k:Key) v)))
section
variable {X:Cx}
theorem ix_dkS:IxR X rDGetS:=by
 intro value slice pins s σ H x y v u Q I rx ry h hs
 obtain ⟨a,kvs,k,z,rfl,rfl,e,l,q⟩:=h
 cases rx
 obtain ⟨_,_,vs,rel,dd⟩:=dk_of I.hok e
 have g:DGet H a (kV (Sum.inr k:Key)) (some z):=by rw [←l];exact DGet.k e
 have hT:=dd.typeIs
 unfold subscriptTail
 refine wpAny_bind ?_
 rw [getitemInPython_of_ne hT.not_modules]
 refine wpAny_bind (wpAny_specialOf hT PySem.F.slot_dict_getitem.lookup ?_)
 have get:wpAny (model X.prog X.w) X.A (getItem (.ref a) u) (EP X pins σ Q) X.xe s:=by
  obtain ⟨w',hw,rw'⟩:=RelO.some_of (v:=z) (o:=valueAt vs (Sum.inr k:Key)) (by rw [←l];exact rel.val _)
  exact wpAny_getItem_of (kV_is (k:=(Sum.inr k:Key)) ry) dd.mapOf hw ⟨z,H,I.tok _,rw',q⟩
 have fin:wpAny (model X.prog X.w) X.A (subscripted slice false (.ref a) u) (fun r s₃=>wpAny (model X.prog X.w) X.A (letTemporaryGo value (.ref a) r >>= fun _=>pure r) (EP X pins σ Q) X.xe s₃) X.xe s:=by
  rw [hs]
  exact wpAny_operating (wpAny_mono get (fun r s₃ h₃=>wpAny_bind (wpAny_letTemporaryGo (wpAny_pure h₃))) fun _ _ x=>x)
 first
  | exact wpAny_pure (wpAny_bind fin)
  | exact wpAny_bind (wpAny_pure (wpAny_bind fin))
  | exact wpAny_bind fin
theorem set_dkS:PSet X rDSetS:=by
 intro pins s σ H o i v ov iv u Q I ro ri rv h
 obtain ⟨a,kvs,k,rfl,rfl,e,l,q⟩:=h
 cases ro
 obtain ⟨z,hd,vs,rel,dd⟩:=dk_of I.hok e
 have hz:vs.length≤sizeLine:=by rw [←rel.length];exact z
 have hl:(putK kvs (Sum.inr k:Key) v).length≤sizeLine:=by have:=length_putK kvs (Sum.inr k:Key) v;omega
 refine wpAny_setItem_pairs (hsz:=hz) (kV_is (k:=(Sum.inr k:Key)) ri) dd fun h' dd' hs=>⟨_,?_,q⟩
 have he:∃q,h'.get? a=some q:=let ⟨q,_,_,hq,_⟩:=dd';⟨q,hq⟩
 exact d_write I (by rw [e];exact True.intro) hs he (dk_new hl hd (rel.put _ rv) dd')
end
end L2
namespace F2
open PySem L2 PySem.Spec
def kvGet (kvs:List (Key×D)) (k:Key):Option D:=(kvs.find? fun kv=>decide (kv.1=k)).map (·.2)
def kvPut (kvs:List (Key×D)) (k:Key) (d:D):List (Key×D):=
 if (kvs.any fun kv=>decide (kv.1=k))=true then kvs.map (fun kv=>if kv.1=k then (kv.1,d) else kv) else kvs++[(k,d)]
def dgetD:D→D→M D
 | .obj n,.str x=>fun t=>match t.S[n]? with
   | some (.dct kvs)=>(kvGet kvs (.inr x)).map fun d=>(d,t)
   | _=>none
 | _,_=>fail
def stKeyOb:D→D→D→M Unit
 | .obj n,.str x,d=>fun t=>match t.S[n]? with
   | some (.dct kvs)=>if kvs.length < LIM then some ((),{ t with S:=t.S.set n (.dct (kvPut kvs (.inr x) d)) }) else none
   | _=>none
 | _,_,_=>fail
def stKey (f g:M D) (d:D):M Unit:=bnd f fun o=>bnd g fun i=>stKeyOb o i d
def fPairs:List (Str×M D)→M (List (Key×D))
 | []=>ret []
 | (k,f) :: r=>bnd f fun d=>bnd (fPairs r) fun ps=>ret ((.inr k,d) :: ps)
def kvMerge (ps:List (Key×D)):List (Key×D):=ps.foldl (fun acc kv=>kvPut acc kv.1 kv.2) []
def dispEnd (n:Nat) (ps:List (Key×D)):M D:=fun t=>match t.S[n]? with
 | some (.dct [])=>if ps.length≤15 then some (.obj n,{ t with S:=t.S.set n (.dct (kvMerge ps)) }) else none
 | _=>none
def fDisp (l:List (Str×M D)):M D:=fun t=>bnd (fPairs l) (dispEnd t.S.length) { t with S:=t.S++[.dct []] }
section
variable {K:PySem.W.Frag} {c:Cf} {H:Hp}
theorem KVR.get {us:List (Key×V)} {kvs:List (Key×D)} (r:KVR K c H us kvs) (k:Key) {d:D} (e:kvGet kvs k=some d):∃v,valV us k=some v∧Rep K c H v d:=by
 unfold KVR at r
 induction r with
 | nil=>simp [kvGet] at e
 | @cons p q ps qs h t ih=>
   by_cases hk:p.1=k
   ·have hq:q.1=k:=h.1.symm.trans hk
    have:kvGet (q :: qs) k=some q.2:=by simp [kvGet,List.find?_cons,hq]
    rw [this] at e;cases e
    exact ⟨p.2,valV_pos hk,h.2⟩
   ·have hq:¬q.1=k:=fun z=>hk (h.1.trans z)
    have:kvGet (q :: qs) k=kvGet qs k:=by simp [kvGet,List.find?_cons,hq]
    rw [this] at e
    rw [valV_neg hk]
    exact ih e
theorem KVR.any {us:List (Key×V)} {kvs:List (Key×D)} (r:KVR K c H us kvs) (k:Key):(us.any fun kv=>decide (kv.1=k))=(kvs.any fun kv=>decide (kv.1=k)):=by
 unfold KVR at r
 induction r with
 | nil=>rfl
 | @cons p q ps qs h t ih=>rw [List.any_cons,List.any_cons,ih,h.1]
theorem KVR.put {us:List (Key×V)} {kvs:List (Key×D)} (r:KVR K c H us kvs) (k:Key) {v:V} {d:D} (rv:Rep K c H v d):KVR K c H (putK us k v) (kvPut kvs k d):=by
 unfold putK kvPut
 rw [r.any k]
 by_cases q:(kvs.any fun kv=>decide (kv.1=k))=true
 ·rw [if_pos q,if_pos q]
  clear q
  unfold KVR at r ⊢
  induction r with
  | nil=>exact .nil
  | @cons p q ps qs h t ih=>
    rw [List.map_cons,List.map_cons]
    refine .cons ?_ ih
    by_cases e:p.1=k
    ·rw [if_pos e,if_pos (h.1.symm.trans e)];exact ⟨h.1,rv⟩
    ·rw [if_neg e,if_neg (fun z=>e (h.1.trans z))];exact h
 ·rw [if_neg q,if_neg q]
  exact Paired.snoc r ⟨rfl,rv⟩
theorem KVR.length {us:List (Key×V)} {kvs:List (Key×D)} (r:KVR K c H us kvs):us.length=kvs.length:=Paired.length r
theorem KVR.mono {c':Cf} {H':Hp} {us:List (Key×V)} {kvs:List (Key×D)} (e:Ext c H c' H') (r:KVR K c H us kvs):KVR K c' H' us kvs:=Paired.mapP r fun _ _ z=>⟨z.1,z.2.mono e⟩
theorem KVR.merge:∀{ps:List (Key×D)} {us:List (Key×V)} {acc:List (Key×D)} {ua:List (Key×V)},KVR K c H us ps→KVR K c H ua acc→KVR K c H (mergeK ua us) (ps.foldl (fun acc kv=>kvPut acc kv.1 kv.2) acc):=by
 intro ps us acc ua r
 unfold KVR at r
 induction r generalizing acc ua with
 | nil=>intro q;exact q
 | @cons p q ps qs h t ih=>
   intro r0
   refine ih ?_
   show KVR K c H (putK ua p.1 p.2) (kvPut acc q.1 q.2)
   have:=KVR.put r0 p.1 h.2
   rw [←h.1]
   exact this
theorem sem_dgetS:Sem2 K rDGetS dgetD:=fun {Oo c t σ H x y dx dy r t' Q} f rx ry eq k=>by
 unfold dgetD at eq
 split at eq
 ·next n z=>
  cases ry
  cases rx with
  | @obj a kk hk=>
    split at eq
    ·next kvs es=>
     obtain ⟨d,e1,e2⟩:=Option.map_eq_some_iff.mp eq
     cases e2
     obtain ⟨us,g1,g2⟩:=f.s.obs _ a _ hk es
     obtain ⟨v,e3,e4⟩:=g2.get _ e1
     exact ⟨a,us,z,v,rfl,rfl,g1,e3,k _ H c f .refl e4⟩
    ·cases eq
 ·cases eq
end
section
variable {X:Cx} {pos:Pos} {e:Expr}
theorem fg_subKey {o i:Expr} {f g:M D} (ho:PE X o (RE X.K f)) (hi:PE X i (RE X.K g))
 (ha:∀v,assign (.Subscript o i pos) X.env v=(do
   let ov ←holding [v] (eval o X.env)
   let iv ←holding [v,ov] (eval i X.env)
   standAt pos
   holding [v,ov,iv] (setItem ov iv v)
   release [v,ov,iv] []):=by intro _;rfl):PG X (.Subscript o i pos) (RG X.K (stKey f g)):=
 PG_imp (pg_sub ho hi set_dkS ha) fun v σ H Q ⟨Oo,c,t,d,fi,rv,t',eq,k⟩=>by
  obtain ⟨d0,t1,e1,eq⟩:=bnd_some eq
  obtain ⟨di,t2,e2,eq⟩:=bnd_some eq
  refine ⟨Oo,c,t,fi,_,t1,e1,fun x H1 c1 f1 s1 rx=>⟨Oo,c1,t1,f1,di,t2,e2,fun y H2 c2 f2 s2 ry=>?_⟩⟩
  unfold stKeyOb at eq
  split at eq
  ·next n z dd=>
   cases ry
   cases rx with
   | @obj a kk hk=>
     split at eq
     ·next kvs es=>
      split at eq
      ·next hl=>
       cases eq
       have hk2:=s2.ext.io _ _ hk
       obtain ⟨us,g1,g2⟩:=f2.s.obs _ a _ hk2 es
       refine ⟨a,us,z,rfl,rfl,g1,by rw [g2.length];exact Nat.lt_trans hl LIM_lt,?_⟩
       have rv2:=rv.mono (s1.trans s2).ext
       obtain ⟨f3,s3⟩:=f2.wrObj (o:=.dct (kvPut kvs (.inr z) d)) (u:=.dK (putK us (.inr z) v)) hk2 fun c' H' ext hu=>⟨_,hu,(g2.put _ rv2).mono ext⟩
       exact k σ _ c2 f3 ((s1.trans s2).trans s3)
      ·cases eq
     ·cases eq
  ·cases eq
def RP (K:PySem.W.Frag) (f:M (List (Key×D))) (σ:St) (H:Hp) (Q:List (V×V)→Hp→Prop):Prop:=
 ∃Oo c t,FInv K Oo c t σ H∧∃ps t',f t=some (ps,t')∧∀us H' c',FInv K Oo c' t' σ H'→Stp Oo c H c' H'→KVR K c' H' us ps→Q (us.map fun kv=>(kV kv.1,kv.2)) H'
def PPf (X:Cx) (pos:Pos) (keys:List (Option Expr)) (values:List Expr) (f:M (List (Key×D))):Prop:=
 ∃trs,PPs X pos keys values trs∧∀σ H Q,RP X.K f σ H Q→tPairs trs σ H Q
theorem fps_nil:PPf X pos [] [] (fPairs []):=⟨[],pps_nil,fun σ H Q ⟨Oo,c,t,fi,ps,t',eq,k⟩=>by
 cases eq
 exact k [] H c fi .refl .nil⟩
theorem fps_cons {k:Str} {j:Nat} {kp:Pos} {v:Expr} {ks:List (Option Expr)} {vs:List Expr} {f:M D} {r:List (Str×M D)} (hv:PE X v (RE X.K f)) (hr:PPf X pos ks vs (fPairs r)) :
 PPf X pos (some (.Constant (.str k) j kp) :: ks) (v :: vs) (fPairs ((k,f) :: r)):=by
 obtain ⟨trs,h1,h2⟩:=hr
 refine ⟨_,pps_cons pe_str hv h1,fun σ H Q ⟨Oo,c,t,fi,ps,t',eq,kk⟩=>?_⟩
 obtain ⟨d,t1,e1,eq⟩:=bnd_some eq
 obtain ⟨qs,t2,e2,eq⟩:=bnd_some eq
 cases eq
 refine ⟨Oo,c,t,fi,d,t1,e1,fun y H1 c1 f1 s1 ry=>?_⟩
 refine h2 σ H1 _ ⟨Oo,c1,t1,f1,qs,_,e2,fun us H2 c2 f2 s2 ru=>?_⟩
 exact kk ((.inr k,y) :: us) H2 c2 f2 (s1.trans s2) (.cons ⟨rfl,ry.mono s2.ext⟩ ru)
theorem fe_disp {keys:List (Option Expr)} {values:List Expr} {l:List (Str×M D)} (h:PPf X pos keys values (fPairs l)) (hall:keys.all (·.isSome)=true:=by rfl) (hl:keys.length=values.length:=by rfl) (h0:keys≠[]:=by exact List.cons_ne_nil _ _)
 (h15:keys.length≤15:=by exact Nat.le_of_ble_eq_true rfl):PE X (.Dict keys values pos) (RE X.K (fDisp l)):=by
 obtain ⟨trs,h1,h2⟩:=h
 refine PE_imp (pe_disp h1 hall hl h0 h15) fun σ H Q ⟨Oo,c,t,fi,r,t',eq,k⟩=>?_
 intro p hp
 obtain ⟨c1,f1,s1,e1⟩:=fi.newObj (o:=.dct []) (u:=.dK []) hp fun c' H' ex hu=>⟨[],hu,.nil⟩
 obtain ⟨ps,t2,e2,eq⟩:=bnd_some eq
 refine h2 σ _ _ ⟨Oo,c1,_,f1,ps,t2,e2,fun us H2 c2 f2 s2 ru=>?_⟩
 unfold dispEnd at eq
 split at eq
 ·next es=>
  split at eq
  ·next hl15=>
   cases eq
   have hk2:=s2.ext.io _ _ e1
   obtain ⟨u0,g1,g2⟩:=f2.s.obs _ p _ hk2 es
   cases g2
   refine ⟨g1,us,rfl,by rw [ru.length];exact hl15,?_⟩
   obtain ⟨f3,s3⟩:=f2.wrObj (o:=.dct (kvMerge ps)) (u:=.dK (mergeK [] us)) hk2 fun c' H' ext hu=>⟨_,hu,(KVR.merge ru .nil).mono ext⟩
   exact k _ _ c2 f3 (s1.trans (s2.trans s3)) (.obj hk2)
  ·cases eq
 ·cases eq
end
end F2
set_option Elab.async false
set_option linter.all false
set_option maxRecDepth 100000
set_option maxHeartbeats 4000000
set_option autoImplicit false
namespace L2
open PySem PySem.Spec PyProof.Rows
section
variable {X:Cx}
end
end L2
namespace F2
open PySem L2 PySem.Spec
theorem Reps.rng {K:PySem.W.Frag} {c:Cf} {H:Hp} (f:Nat→Int):∀l:List Nat,Reps K c H (l.map fun i=>V.int (f i)) (l.map fun i=>D.int (f i))
 | []=>.nil
 | n :: r=>.cons (.int _) (Reps.rng f r)
section
variable {X:Cx} {pos:Pos} {e:Expr} {es:List Expr}
end
end F2
set_option Elab.async false
set_option linter.all false
set_option maxRecDepth 100000
set_option maxHeartbeats 4000000
set_option autoImplicit false
namespace L2
open PySem PySem.Spec PyProof.Rows
section
variable {prog:Program} {w:World} {A:Around} {I:Addr} {fp wr:List Addr} {G:Array GenState→Array GenState→Prop} {n:Nat} {P:Nat→Value→Prop} {St:Nat→Shared→Prop}
end
end L2
namespace L2
open PySem PySem.Spec PyProof.Rows
section
variable {X:Cx}
end
end L2
namespace F2
open PySem L2 PySem.Spec PyProof.Rows
section
variable {X:Cx} {pos:Pos} {e:Expr}
end
end F2
set_option Elab.async false
set_option linter.all false
set_option maxRecDepth 100000
set_option maxHeartbeats 4000000
set_option autoImplicit false
namespace F2
open PySem L2 PySem.Spec
def whileN (f:M Bool) (b:M Out):Nat→M Out
 | 0=>fun _=>none
 | n + 1=>fun t=>match f t with
   | none=>none
   | some (false,t1)=>some (.next,t1)
   | some (true,t1)=>match b t1 with
     | some (.next,t2)=>whileN f b n t2
     | some (.cont,t2)=>whileN f b n t2
     | some (.brk,t2)=>some (.next,t2)
     | some (.ret x,t2)=>some (.ret x,t2)
     | none=>none
def WFUEL:Nat:=1000000
def whileS (f:M Bool) (b:M Out):M Out:=whileN f b WFUEL
theorem RS.while {μ:Cf→Hp→D→(V→Hp→Prop)→Prop} {K:PySem.W.Frag} {f:M Bool} {b:M Out} {E:Ends} {σ:L2.St} {H:Hp} (q:RSg K μ (whileS f b) E σ H):tWhile (RT K f) (RSg K μ b) E σ H:=by
 obtain ⟨Oo,c,t,fi,o,t',eq,k⟩:=q
 refine ⟨fun m σ' H'=>∃c' t2,FInv K Oo c' t2 σ' H'∧Stp Oo c H c' H'∧whileN f b m t2=some (o,t'),⟨WFUEL,c,t,fi,.refl,eq⟩,?_⟩
 rintro m σ' H' ⟨c',t2,f2,s2,e2⟩
 cases m with
 | zero=>cases e2
 | succ m=>
 rw [whileN] at e2
 dsimp only at e2
 cases ef:f t2 with
 | none=>rw [ef] at e2;cases e2
 | some p=>
 obtain ⟨r,t3⟩:=p
 rw [ef] at e2
 refine ⟨Oo,c',t2,f2,r,t3,ef,fun H3 c3 f3 s3=>?_⟩
 cases r with
 | false=>
   cases e2
   exact k σ' H3 c3 f3 (s2.trans s3)
 | true=>
   rw [if_pos rfl]
   dsimp only at e2
   refine ⟨fun σ4 H4=>∃c4 t4,FInv K Oo c4 t4 σ4 H4∧Stp Oo c H c4 H4∧whileN f b m t4=some (o,t'),fun σ4 H4 h=>⟨m,Nat.lt_succ_self m,h⟩,?_⟩
   cases eb:b t3 with
   | none=>rw [eb] at e2;cases e2
   | some p=>
   obtain ⟨ob,t4⟩:=p
   rw [eb] at e2
   refine ⟨Oo,c3,t3,f3,ob,t4,eb,fun σ4 H4 c4 f4 s4=>?_⟩
   cases ob with
   | next=>exact ⟨c4,t4,f4,(s2.trans s3).trans s4,e2⟩
   | cont=>exact ⟨c4,t4,f4,(s2.trans s3).trans s4,e2⟩
   | brk=>
     cases e2
     exact k σ4 H4 c4 f4 ((s2.trans s3).trans s4)
   | ret x=>
     cases e2
     exact k σ4 H4 c4 f4 ((s2.trans s3).trans s4)
section
variable {X:Cx} {pos:Pos}
end
end F2
namespace L2
open PySem PySem.Spec PyProof.Rows
end L2
namespace F2
open PySem L2 PySem.Spec
end F2
set_option Elab.async false
set_option linter.all false
set_option maxRecDepth 100000
set_option maxHeartbeats 4000000
set_option autoImplicit false
namespace L2
open PySem PySem.Spec PyProof.Rows
section
variable {X:Cx} {tg:Expr}
end
end L2
namespace F2
open PySem L2 PySem.Spec
section
variable {X:Cx} {pos:Pos} {e:Expr} {es:List Expr}
end
end F2
set_option Elab.async false
set_option linter.all false
set_option maxRecDepth 100000
set_option maxHeartbeats 4000000
set_option autoImplicit false
namespace F2
open PySem L2 PySem.Spec
section
variable {K:PySem.W.Frag} {Oo:Addr→Prop} {c:Cf} {t:T} {σ:L2.St} {H:Hp}
end
section
variable {X:Cx} {pos:Pos} {e:Expr} {es:List Expr}
inductive spFF (K:PySem.W.Frag) (f:Fn) (vs:List V) (H:Hp) (Q:VK) (E:XK):Prop where
 | mk (c:Cf) (ds:List D) (S:List Ob) (si:SInv K c S H) (rp:Reps K c H vs ds) (rs:List D) (S':List Ob) (e:f ds S=some (.lst rs,S')) (k:∀p us H' c',SInv K c' S' H'→Stp c.O c H c' H'→(∀b,c'.O b↔c.O b)→Reps K c' H' us rs→H' p=none→Q (.ref p) (upd H' p (.lst us))):spFF K f vs H Q E
end
end F2
set_option Elab.async false
set_option linter.all false
set_option maxRecDepth 100000
set_option maxHeartbeats 4000000
set_option autoImplicit false
namespace L2
open PySem PySem.Spec PyProof.Rows
section
variable {X:Cx}
end
end L2
namespace F2
open PySem L2 PySem.Spec
section
variable {X:Cx} {pos:Pos} {e:Expr} {es:List Expr}
end
end F2
set_option Elab.async false
set_option linter.all false
set_option maxRecDepth 100000
set_option maxHeartbeats 4000000
set_option autoImplicit false
namespace F2
open PySem L2 PySem.Spec
section
variable {X:Cx} {b elt:Expr} {pos:Pos}
end
end F2
set_option Elab.async false
set_option linter.all false
set_option maxRecDepth 100000
set_option maxHeartbeats 4000000
set_option autoImplicit false
namespace L2
open PySem PySem.Spec PyProof.Rows
end L2
namespace F2
open PySem L2 PySem.Spec
structure ItOk2 (K:PySem.W.Frag) (J:It) (c:Cf) (H:Hp) (ds:List D):Prop where
 go:∀c' H' (i:Nat),Ext c H c' H'→i < ds.length→J.go i H'
 yld:∀c' H' (i:Nat) x H'' d,Ext c H c' H'→ds[i]?=some d→J.yld i H' x H''→∃p vs es,x = .ref p∧H' p=none∧H''=upd H' p (.tup vs)∧d = .tup es∧Reps K c' H' vs es
 stop:∀c' H',Ext c H c' H'→J.stop ds.length H'
inductive RI2 (K:PySem.W.Frag) (f:M (List D)) (σ:L2.St) (H:Hp) (R:It→Hp→Prop):Prop where
 | mk (Oo:Addr→Prop) (c:Cf) (t:T) (fi:FInv K Oo c t σ H) (ds:List D) (t':T) (e:f t=some (ds,t')) (k:∀J H' c',FInv K Oo c' t' σ H'→Stp Oo c H c' H'→ItOk2 K J c' H' ds→R J H'):RI2 K f σ H R
section
variable {X:Cx} {pos:Pos} {e:Expr}
end
end F2
set_option Elab.async false
set_option linter.all false
set_option maxRecDepth 100000
set_option maxHeartbeats 4000000
set_option autoImplicit false
namespace F2
open PySem L2 PySem.Spec
end F2
namespace L2
open PySem PySem.Spec PyProof.Rows
section
variable {X:Cx}
end
end L2
namespace F2
open PySem L2 PySem.Spec
section
variable {X:Cx} {pos:Pos} {e:Expr} {es:List Expr}
end
end F2
set_option Elab.async false
set_option linter.all false
set_option maxRecDepth 100000
set_option maxHeartbeats 4000000
set_option autoImplicit false
namespace L2
open PySem PySem.Spec PyProof.Rows
section
variable {X:Cx} {e ek:Expr} {p2 pos:Pos} {te:TE} {tk:TO}
end
end L2
namespace F2
open PySem L2 PySem.Spec
section
variable {X:Cx}
end
end F2
set_option Elab.async false
set_option linter.all false
set_option maxRecDepth 100000
set_option maxHeartbeats 4000000
set_option autoImplicit false
namespace L2
open PySem PySem.Spec PyProof.Rows
section
variable {X:Cx}
end
end L2
namespace F2
open PySem L2 PySem.Spec
section
variable {X:Cx} {pos:Pos}
end
end F2
set_option Elab.async false
set_option linter.all false
set_option maxRecDepth 100000
set_option maxHeartbeats 4000000
set_option autoImplicit false
namespace L2
open PySem PySem.Spec PyProof.Rows
theorem noPylong_wide {x y:Int} (h0:0 < y) (h1:y < 18446744073709551616):Builtin.divisionGoesByPylong x y=false:=by
 unfold Builtin.divisionGoesByPylong
 have hl:y.natAbs.log2 < 64:=(Nat.log2_lt (by omega)).mpr (by show y.natAbs < 2 ^ 64;omega)
 have e:(y == 0)=false:=by rw [beq_eq_false_iff_ne];omega
 simp only [e,Bool.false_eq_true,if_false]
 rw [Bool.and_eq_false_iff]
 left
 rw [decide_eq_false_iff_not]
 omega
def CDivW (i j:Int):Prop:=0 < j∧j < 18446744073709551616
section
variable {X:Cx}
theorem bits_wide {i:Int} (h:i.natAbs < 2 ^ 512):Builtin.Int.intBits i≤2 ^ 20:=by
 unfold Builtin.Int.intBits
 split
 ·exact Nat.zero_le _
 ·next z=>
  have hz:i.natAbs≠0:=by
   intro e
   have:i=0:=by omega
   subst this
   exact z rfl
  have:=(Nat.log2_lt hz).mpr h
  omega
def CMulW (i j:Int):Prop:=i.natAbs < 2 ^ 512∧j.natAbs < 2 ^ 512
theorem op_mulW:OpR X (binaryOp .Mult) (rI CMulW fun i j=>.int (i * j)):=opI fun _ _ _ _ _ _ _ hc q=>mul_int q (IntMulOk.of_bits (bits_wide hc.1) (bits_wide hc.2))
theorem op_fdivW:OpR X (binaryOp .FloorDiv) (rI CDivW fun i j=>.int (i / j)):=opI fun i j _ _ _ _ _ hc q=>by
 have h1:(0:Int) < j:=hc.1
 exact floordiv_int (by omega) (by rw [Int.fdiv_eq_ediv_of_nonneg i (by omega)];exact q) (.inl (noPylong_wide hc.1 hc.2))
end
end L2
namespace F2
open PySem L2 PySem.Spec
def divOkW (i j:Int):Bool:=decide (0 < j) && decide (j < 18446744073709551616)
def fdivW:=i2C divOkW fun i j=>.int (i / j)
theorem sem_fdivW {K:PySem.W.Frag}:Sem2 K (rI CDivW fun i j=>.int (i / j)) fdivW:=sem_i2C (fun i j h=>by
 unfold divOkW at h
 rw [Bool.and_eq_true,decide_eq_true_eq,decide_eq_true_eq] at h
 exact h) fun _ _ _ _=>.int _
def mulOkW (i j:Int):Bool:=decide (i.natAbs < 2 ^ 512) && decide (j.natAbs < 2 ^ 512)
def mulW:=i2C mulOkW fun i j=>.int (i * j)
theorem sem_mulW {K:PySem.W.Frag}:Sem2 K (rI CMulW fun i j=>.int (i * j)) mulW:=sem_i2C (fun i j h=>by
 unfold mulOkW at h
 rw [Bool.and_eq_true] at h
 exact ⟨of_decide_eq_true h.1,of_decide_eq_true h.2⟩) fun _ _ _ _=>.int _
end F2
set_option Elab.async false
set_option linter.all false
set_option maxRecDepth 100000
set_option maxHeartbeats 4000000
set_option autoImplicit false
namespace L2
open PySem PySem.Spec PyProof.Rows
section
variable {X:Cx}
end
section
variable {X:Cx}
end
end L2
namespace L2
open PySem PySem.Spec PyProof.Rows
section
variable {X:Cx}
end
end L2
namespace F2
open PySem L2 PySem.Spec
section
variable {X:Cx} {pos:Pos} {e:Expr} {es:List Expr}
end
end F2
set_option Elab.async false
set_option linter.all false
set_option maxRecDepth 100000
set_option maxHeartbeats 4000000
set_option autoImplicit false
namespace L2
open PySem PySem.Spec PyProof.Rows
section
variable {X:Cx}
end
end L2
namespace F2
open PySem L2 PySem.Spec
def keysI:List (Key×D)→Option (List Int)
 | []=>some []
 | (.inl k,_) :: r=>(keysI r).map (k :: ·)
 | _=>none
section
variable {K:PySem.W.Frag} {c:Cf} {H:Hp}
theorem KVR.has {us:List (Key×V)} {kvs:List (Key×D)} (r:KVR K c H us kvs) (k:Key):(valV us k).isSome=(kvGet kvs k).isSome:=by
 unfold KVR at r
 induction r with
 | nil=>rfl
 | @cons p q ps qs h t ih=>
   by_cases hk:p.1=k
   ·have hq:q.1=k:=h.1.symm.trans hk
    rw [valV_pos hk]
    simp [kvGet,List.find?_cons,hq]
   ·have hq:¬q.1=k:=fun z=>hk (h.1.trans z)
    have:kvGet (q :: qs) k=kvGet qs k:=by simp [kvGet,List.find?_cons,hq]
    rw [this,valV_neg hk]
    exact ih
theorem KVR.keys {us:List (Key×V)} {kvs:List (Key×D)} (r:KVR K c H us kvs) {ns:List Int} (e:keysI kvs=some ns):us.map (·.1)=ns.map (fun n=>(Sum.inl n:Key)):=by
 unfold KVR at r
 induction r generalizing ns with
 | nil=>cases e;rfl
 | @cons p q ps qs h t ih=>
   obtain ⟨qk,qd⟩:=q
   cases qk with
   | inr x=>cases e
   | inl k=>
     rw [keysI] at e
     obtain ⟨ms,e1,e2⟩:=Option.map_eq_some_iff.mp e
     subst e2
     rw [List.map_cons,List.map_cons,ih e1]
     congr 1
     exact h.1
end
section
variable {X:Cx} {pos:Pos} {e b:Expr}
end
end F2
set_option Elab.async false
set_option linter.all false
set_option maxRecDepth 100000
set_option maxHeartbeats 4000000
set_option autoImplicit false
namespace L2
open PySem PySem.Spec PyProof.Rows
def tb (led:Bool) (pl:List Nat):SetTable:={ mask:=7,place:=pl.toArray,dummies:=#[],finger:=0,led:=led,moves:=0,plain:=true }
def pls:Nat→List (List Nat)
 | 0=>[[]]
 | k + 1=>(pls k).flatMap fun l=>(List.range 8).filterMap fun j=>if l.all (· < j) then some (l++[j]) else none
end L2
set_option Elab.async false
set_option linter.all false
set_option maxRecDepth 100000
set_option maxHeartbeats 4000000
set_option autoImplicit false
namespace L2
open PySem PySem.Spec PyProof.Rows
section
variable {P:Program} {w:World} {A:Around} {E:Value→Shared→Prop} {s:Shared}
end
end L2
set_option Elab.async false
set_option linter.all false
set_option maxRecDepth 100000
set_option maxHeartbeats 4000000
set_option autoImplicit false
namespace L2
open PySem PySem.Spec PyProof.Rows
section
variable {P:Program} {w:World} {A:Around} {I:Addr} {fp wr:List Addr} {G:Array GenState→Array GenState→Prop} {n:Nat} {Pr:Nat→Value→Prop} {St:Nat→Shared→Prop}
end
end L2
set_option Elab.async false
set_option linter.all false
set_option maxRecDepth 100000
set_option maxHeartbeats 4000000
set_option autoImplicit false
namespace L2
open PySem PySem.Spec PyProof.Rows
end L2
set_option Elab.async false
set_option linter.all false
set_option maxRecDepth 100000
set_option maxHeartbeats 4000000
set_option autoImplicit false
namespace L2
open PySem PySem.Spec PyProof.Rows
section
variable {P:Program} {w:World} {A:Around} {E:Value→Shared→Prop} {s:Shared}
end
end L2
set_option Elab.async false
set_option linter.all false
set_option maxRecDepth 100000
set_option maxHeartbeats 4000000
set_option autoImplicit false
namespace L2
open PySem PySem.Spec PyProof.Rows
section
variable {prog:Program} {w:World} {A:Around}
end
end L2
set_option Elab.async false
set_option linter.all false
set_option maxRecDepth 100000
set_option maxHeartbeats 4000000
set_option autoImplicit false
namespace L2
open PySem PySem.Spec PyProof.Rows
section
variable {X:Cx}
end
end L2
namespace F2
open PySem L2 PySem.Spec PyProof.Rows
section
variable {X:Cx} {pos:Pos} {e:Expr}
end
end F2
set_option Elab.async false
set_option linter.all false
set_option maxRecDepth 100000
set_option maxHeartbeats 4000000
set_option autoImplicit false
namespace L2
open PySem PySem.Spec PyProof.Rows
section
variable {P:Program} {w:World} {A:Around} {E:Value→Shared→Prop} {s:Shared}
structure ZT (h:Heap) (z TI TO i1 i2 t1 t2:Addr) (n:Nat):Prop where
 zz:IsZip h z TI TO .none
 ti:IsPair h TI (.ref i1) (.ref i2)
 ot:∃a b,IsPair h TO a b
 p1:h.IsTupleIter i1 t1 n
 p2:h.IsTupleIter i2 t2 n
end
section
variable {P:Program} {w:World} {A:Around} {E:Value→Shared→Prop} {s:Shared}
end
def Itz (K:PySem.W.Frag) (a b:Addr):It:=
 ⟨fun i H=>∃xs ys x y,SqT K H a xs∧SqT K H b ys∧xs[i]?=some x∧ys[i]?=some y,fun i H v H'=>∃p x y,v = .ref p∧H p=none∧(∀xs,SqT K H a xs→xs[i]?=some x)∧(∀ys,SqT K H b ys→ys[i]?=some y)∧H'=upd H p (.tup [x,y]),fun i H=>∃xs ys,SqT K H a xs∧SqT K H b ys∧(xs.length≤i∨ys.length≤i)⟩
end L2
namespace F2
open PySem L2 PySem.Spec
def zipL:List D→List D→List D
 | x :: xs,y :: ys=>.tup [x,y] :: zipL xs ys
 | _,_=>[]
theorem zipL_len:∀(xs ys:List D),(zipL xs ys).length=min xs.length ys.length
 | [],ys=>by simp [zipL]
 | x :: xs,[]=>by simp [zipL]
 | x :: xs,y :: ys=>by rw [zipL,List.length_cons,zipL_len xs ys,List.length_cons,List.length_cons,Nat.succ_min_succ]
theorem zipL_get:∀(xs ys:List D) (j:Nat) (d:D),(zipL xs ys)[j]?=some d→∃x y,xs[j]?=some x∧ys[j]?=some y∧d = .tup [x,y]
 | [],ys,j,d,h=>by simp [zipL] at h
 | x :: xs,[],j,d,h=>by simp [zipL] at h
 | x :: xs,y :: ys,0,d,h=>by rw [zipL] at h;exact ⟨x,y,rfl,rfl,by simpa using h.symm⟩
 | x :: xs,y :: ys,j + 1,d,h=>by rw [zipL] at h;simpa using zipL_get xs ys j d (by simpa using h)
theorem ItOk2.zip {K:PySem.W.Frag} {c:Cf} {H:Hp} {p q:Addr} {ds es:List D} (r:∀c' H',Ext c H c' H'→∃vs,SqT K H' p vs∧Reps K c' H' vs ds) (r':∀c' H',Ext c H c' H'→∃vs,SqT K H' q vs∧Reps K c' H' vs es):ItOk2 K (Itz K p q) c H (zipL ds es):=by
 refine ⟨fun c' H' i ex hi=>?_,fun c' H' i x H'' d ex hd hy=>?_,fun c' H' ex=>?_⟩
 ·obtain ⟨vs,h1,h2⟩:=r c' H' ex
  obtain ⟨ws,h3,h4⟩:=r' c' H' ex
  rw [zipL_len] at hi
  obtain ⟨v,e,_⟩:=h2.at (List.getElem?_eq_getElem (Nat.lt_of_lt_of_le hi (Nat.min_le_left _ _)))
  obtain ⟨w,e',_⟩:=h4.at (List.getElem?_eq_getElem (Nat.lt_of_lt_of_le hi (Nat.min_le_right _ _)))
  exact ⟨vs,ws,v,w,h1,h3,e,e'⟩
 ·obtain ⟨vs,h1,h2⟩:=r c' H' ex
  obtain ⟨ws,h3,h4⟩:=r' c' H' ex
  obtain ⟨a,v,w,rfl,hq,hs,hs',rfl⟩:=hy
  obtain ⟨d1,d2,e1,e2,rfl⟩:=zipL_get _ _ _ _ hd
  obtain ⟨v',g1,rv⟩:=h2.at e1
  obtain ⟨w',g2,rw'⟩:=h4.at e2
  rw [hs vs h1] at g1
  rw [hs' ws h3] at g2
  cases g1
  cases g2
  exact ⟨a,_,_,rfl,hq,rfl,rfl,.cons rv (.cons rw' .nil)⟩
 ·obtain ⟨vs,h1,h2⟩:=r c' H' ex
  obtain ⟨ws,h3,h4⟩:=r' c' H' ex
  refine ⟨vs,ws,h1,h3,?_⟩
  rw [zipL_len,h2.length,h4.length]
  omega
section
variable {X:Cx} {e a b tg iter elt:Expr} {ifs:List Expr} {pos:Pos} {scope:Scope} {N':List Str} {n:Nat} {fr:List Nat} {f:M (List D)} {st:D→M Unit} {tst:M Bool} {el:M D}
end
end F2
set_option Elab.async false
set_option linter.all false
set_option maxRecDepth 100000
set_option maxHeartbeats 4000000
set_option autoImplicit false
namespace F2
open PySem L2 PySem.Spec
section
variable {X:Cx} {elt:Expr} {pos:Pos} {e:Expr} {es:List Expr}
end
end F2
set_option Elab.async false
set_option linter.all false
set_option maxRecDepth 100000
set_option maxHeartbeats 4000000
set_option autoImplicit false
namespace L2
open PySem PySem.Spec PyProof.Rows
section
variable {X:Cx} {pins:List (Addr×Obj)} {σ:St} {H:Hp} {s:Shared} {a:Addr} {kvs:List (Key×V)} {o:Obj}
end
section
variable {X:Cx}
theorem kv_keys {us:List (Key×V)} {vs:List (Key×Value)} (rel:KV us vs):vs.map (·.1)=us.map (·.1):=by
 unfold KV at rel
 induction rel with
 | nil=>rfl
 | @cons a b as bs h1 _ ih=>rw [List.map_cons,List.map_cons,ih,h1.1]
end
end L2
set_option Elab.async false
set_option linter.all false
set_option maxRecDepth 100000
set_option maxHeartbeats 4000000
set_option autoImplicit false
namespace L2
open PySem PySem.Spec PyProof.Rows
section
variable {X:Cx}
end
theorem pairs_any {P P':Program} {w w':World} {es:List DictEntry} {vs:List (Key×Value)} (h:Pairs (mixKind P w) es vs):Pairs (mixKind P' w') es vs:=by
 induction h with
 | nil=>exact .nil
 | cons h1 h2 _ ih=>exact .cons h1 h2 ih
theorem pairs_mem {P:Program} {w:World} {es:List DictEntry} {vs:List (Key×Value)} (h:Pairs (mixKind P w) es vs):∀e∈es,∃kv∈vs,(mixKind P w).is kv.1 e.key=true:=by
 induction h with
 | nil=>intro e he;cases he
 | @cons e' kv _ _ h1 h2 _ ih=>
   intro e he
   rcases List.mem_cons.mp he with rfl | he
   ·exact ⟨kv,List.mem_cons_self,h1⟩
   ·obtain ⟨kv',m,q⟩:=ih e he
    exact ⟨kv',List.mem_cons_of_mem _ m,q⟩
theorem dict_any {P P':Program} {w w':World} {h:Heap} {a:Addr} {vs:List (Key×Value)} (d:h.DictOf (mixKind P w) a vs) (hk:∀kv∈vs,∃n:Int,kv.1=Sum.inl n):h.DictOf (mixKind P' w') a vs:=by
 obtain ⟨o,es,ep,h1,h2,h3,h4,h5,h6⟩:=d
 refine ⟨o,es,ep,h1,h2,h3,fun e he=>?_,pairs_any h5,h6⟩
 obtain ⟨k,q1,q2⟩:=h4 e he
 obtain ⟨kv,m1,m2⟩:=pairs_mem h5 e (by simpa using he)
 obtain ⟨n,en⟩:=hk kv m1
 have ek:k=kv.1:=(mixKind P w).inj _ _ _ q1 m2
 rw [en] at ek
 subst ek
 exact ⟨.inl n,q1,q2⟩
end L2
namespace F2
open PySem L2 PySem.Spec SeqAt
def AlikeL (K:PySem.W.Frag) (H:Hp) (v w:V):Prop:=∃c dv dw,Rep K c H v dv∧Rep K c H w dw∧eqN EQD dv dw=some true
def AlikeV (K:PySem.W.Frag) (H:Hp) (v w:V):Prop:=AlikeL K H v w∨∃a b us ts,v = .ref a∧w = .ref b∧H a=some (.dK us)∧H b=some (.dK ts)∧us.length=ts.length∧(∀kv∈us,∃n:Int,kv.1=Sum.inl n)∧(∀kv∈ts,∃n:Int,kv.1=Sum.inl n)∧∀kv∈us,∃z,valV ts kv.1=some z∧AlikeL K H kv.2 z
def rEqK (K:PySem.W.Frag) (b:Bool):R2:=fun x y H Q=>∃p q vs ws,x = .ref p∧y = .ref q∧H p=some (.lst vs)∧H q=some (.lst ws)∧vs.length=ws.length∧(∀(j:Nat) v w,vs[j]?=some v→ws[j]?=some w→AlikeV K H v w)∧Q (.bl b) H
theorem AlikeV.at {P:Program} {w:World} {K:PySem.W.Frag} {H:Hp} {s:Shared} {A:Around} (hok:HOk P w H s.heap) {x y:V} {u v:Value} (h:AlikeV K H x y) (ru:RelV x u) (rv:RelV y v) (hu:A.units + 60 < cLine):EqAt A s u v true:=by
 rcases h with ⟨c,dv,dw,r1,r2,e⟩ | ⟨a,b,us,ts,rfl,rfl,ha,hb,hl,k1,k2,h⟩
 ·exact (eqAt_of hok EQD ru rv r1 r2 e (by unfold EQD;omega)).2
 ·cases ru;cases rv
  by_cases hab:a=b
  ·subst hab;exact EqAt.same _
  refine EqAt.of_refs hab fun P' w' E Q hq=>?_
  obtain ⟨_,lo1,vs,rel1,d1⟩:=dk_of hok ha
  obtain ⟨_,lo2,ws,rel2,d2⟩:=dk_of hok hb
  have kk:∀{us:List (Key×V)} {vs:List (Key×Value)},KV us vs→(∀kv∈us,∃n:Int,kv.1=Sum.inl n)→∀kv∈vs,∃n:Int,kv.1=Sum.inl n:=fun {us vs} rel k kv hkv=>by
   have e:=kv_keys rel
   have m:kv.1∈vs.map (·.1):=List.mem_map_of_mem hkv
   rw [e] at m
   obtain ⟨q,q1,q2⟩:=List.mem_map.mp m
   rw [←q2];exact k q q1
  have hlen:vs.length=ws.length:=by rw [←rel1.length,←rel2.length];exact hl
  have hits:PySem.W.KeqHits A.in1 s ws vs true:=by
   have gen:∀{us:List (Key×V)} {vs:List (Key×Value)},KV us vs→(∀kv∈us,∃z,valV ts kv.1=some z∧AlikeL K H kv.2 z)→PySem.W.KeqHits A.in1 s ws vs true:=fun {us vs} rel hh=>by
    unfold KV at rel
    induction rel with
    | nil=>exact .nil
    | @cons p q ps qs h1 _ ih=>
      obtain ⟨z,ez,c,dz,dz',r1,r2,e⟩:=hh p List.mem_cons_self
      obtain ⟨k,v⟩:=q
      obtain ⟨u',hu',ru'⟩:=RelO.some_of (v:=z) (o:=valueAt ws p.1) (by rw [←ez];exact rel2.val _)
      have:=PySem.W.KeqHits.hit (k:=k) (v:=v) (y:=u') (e:=true) (b:=true) (by rw [show k=p.1 from h1.1.symm];exact hu') (eqAt_of hok EQD h1.2 ru' r1 r2 e (by rw [show A.in1.units=A.units + 1 from rfl];unfold EQD;omega)).2 (ih fun kv m=>hh kv (List.mem_cons_of_mem _ m))
      exact this
   exact gen rel1 h
  refine PySem.W.keq_eq (knd:=mixKind P' w') lo1 lo2 (dict_any d1 (kk rel1 k1)) (dict_any d2 (kk rel2 k2)) (by omega) (fun _=>hits) ?_
  rw [hlen,beq_self_eq_true]
  exact hq
theorem rEqK.items {P:Program} {w:World} {K:PySem.W.Frag} {H:Hp} {s:Shared} {A:Around} (hok:HOk P w H s.heap) {vs ws:List V} {is js:List Value} (h:∀(j:Nat) v w,vs[j]?=some v→ws[j]?=some w→AlikeV K H v w) (r1:Vals vs is) (r2:Vals ws js) (hu:A.units + 60 < cLine) :
 ∀j (h1:j < is.toArray.size) (h2:j < js.toArray.size),EqAt A s is.toArray[j] js.toArray[j] true:=fun j h1 h2=>by
 obtain ⟨v1,a1,a2⟩:=val_at r1 h1
 obtain ⟨v2,b1,b2⟩:=val_at r2 h2
 exact (h j v1 v2 a1 b1).at hok a2 b2 hu
def alike1 (S:List Ob) (x y:D):Bool:=pureD (res1 S x) && pureD (res1 S y) && decide (eqN EQD (res1 S x) (res1 S y)=some true)
def alikeK (S:List Ob) (x y:D):Bool:=match x,y with
 | .obj m,.obj n=>match S[m]?,S[n]? with
   | some (.dct kvs),some (.dct lvs)=>kvs.length == lvs.length && (keysI kvs).isSome && (keysI lvs).isSome && kvs.all (fun kv=>match kvGet lvs kv.1 with | some e=>alike1 S kv.2 e | none=>false)
   | _,_=>alike1 S x y
 | _,_=>alike1 S x y
theorem alike1.to {K:PySem.W.Frag} {c:Cf} {S:List Ob} {H:Hp} (s:SInv K c S H) {v w:V} {x y:D} (rx:Rep K c H v x) (ry:Rep K c H w y) (h:alike1 S x y=true):AlikeL K H v w:=by
 unfold alike1 at h
 rw [Bool.and_eq_true,Bool.and_eq_true] at h
 exact ⟨c0,_,_,rep_res1 s rx h.1.1,rep_res1 s ry h.1.2,of_decide_eq_true h.2⟩
theorem keysI_all:∀{kvs:List (Key×D)},(keysI kvs).isSome=true→∀kv∈kvs,∃n:Int,kv.1=Sum.inl n
 | [],_,kv,h=>by cases h
 | (.inl k,d) :: r,e,kv,h=>by
   rw [keysI,Option.isSome_map] at e
   rcases List.mem_cons.mp h with rfl | h
   ·exact ⟨k,rfl⟩
   ·exact keysI_all e kv h
 | (.inr x,d) :: r,e,kv,h=>by cases e
theorem KVR.allK {K:PySem.W.Frag} {c:Cf} {H:Hp} {us:List (Key×V)} {kvs:List (Key×D)} (r:KVR K c H us kvs):∀kv∈us,∃q∈kvs,kv.1=q.1∧Rep K c H kv.2 q.2:=by
 unfold KVR at r
 induction r with
 | nil=>intro kv h;cases h
 | @cons p q ps qs h _ ih=>
   intro kv hk
   rcases List.mem_cons.mp hk with rfl | hk
   ·exact ⟨q,List.mem_cons_self,h⟩
   ·obtain ⟨q',m,z⟩:=ih kv hk
    exact ⟨q',List.mem_cons_of_mem _ m,z⟩
theorem alikeK.to {K:PySem.W.Frag} {c:Cf} {S:List Ob} {H:Hp} (s:SInv K c S H) {v w:V} {x y:D} (rx:Rep K c H v x) (ry:Rep K c H w y) (h:alikeK S x y=true):AlikeV K H v w:=by
 unfold alikeK at h
 split at h
 ·next m n=>
  split at h
  ·next kvs lvs e1 e2=>
   cases rx with
   | @obj a _ ha=>
   cases ry with
   | @obj b _ hb=>
   simp only [Bool.and_eq_true,beq_iff_eq] at h
   obtain ⟨⟨⟨hl,k1⟩,k2⟩,hh⟩:=h
   obtain ⟨us,g1,g2⟩:=s.obs _ a _ ha e1
   obtain ⟨ts,g3,g4⟩:=s.obs _ b _ hb e2
   refine .inr ⟨a,b,us,ts,rfl,rfl,g1,g3,by rw [g2.length,g4.length];exact hl,fun kv m=>?_,fun kv m=>?_,fun kv m=>?_⟩
   ·obtain ⟨q,q1,q2,_⟩:=g2.allK kv m
    rw [q2];exact keysI_all k1 q q1
   ·obtain ⟨q,q1,q2,_⟩:=g4.allK kv m
    rw [q2];exact keysI_all k2 q q1
   ·obtain ⟨q,q1,q2,q3⟩:=g2.allK kv m
    have hq:=List.all_eq_true.mp hh q q1
    split at hq
    ·next e ee=>
     obtain ⟨z,z1,z2⟩:=g4.get _ ee
     exact ⟨z,by rw [q2];exact z1,alike1.to s q3 z2 hq⟩
    ·cases hq
  ·exact .inl (alike1.to s rx ry h)
 ·exact .inl (alike1.to s rx ry h)
end F2
set_option Elab.async false
set_option linter.all false
set_option maxRecDepth 100000
set_option maxHeartbeats 4000000
set_option autoImplicit false
namespace F2
open PySem L2 PySem.Spec
theorem Reps.atI {K:PySem.W.Frag} {c:Cf} {H:Hp} {vs:List V} {ds:List D} {q:Int} {d:D} (r:Reps K c H vs ds) (e:L2.atI ds q=some d):∃v,L2.atI vs q=some v∧Rep K c H v d:=by
 unfold L2.atI at e ⊢
 rw [r.length]
 cases h:ixN ds.length q with
 | none=>rw [h] at e;cases e
 | some k=>
   rw [h] at e
   exact r.at e
section
variable {X:Cx} {pos:Pos}
end
end F2
set_option Elab.async false
set_option linter.all false
set_option maxRecDepth 100000
set_option maxHeartbeats 4000000
set_option autoImplicit false
namespace L2
open PySem PySem.Spec PyProof.Rows
structure ZL (h:Heap) (z TI TO i1 i2 t1 t2:Addr) (n:Nat):Prop where
 zz:IsZip h z TI TO .none
 ti:IsPair h TI (.ref i1) (.ref i2)
 ot:∃a b,IsPair h TO a b
 p1:h.IsListIter i1 t1 n
 p2:h.IsListIter i2 t2 n
end L2
namespace F2
open PySem L2 PySem.Spec
section
variable {X:Cx} {a b:Expr} {pos:Pos}
end
end F2
set_option Elab.async false
set_option linter.all false
set_option maxRecDepth 100000
set_option maxHeartbeats 4000000
set_option autoImplicit false
namespace L2
open PySem PySem.Spec PyProof.Rows PySem.W
section
variable {prog:Program} {w:World} {A:Around} {h:Heap} {g:Array GenState} {d:Drawn} {t:Nat} {os:OsState} {R:Result→Shared→Prop}
variable {nm q:Str} {C N fI:Addr} {bs bm bmB:List Value} {hdct:Bool} {sn:List Str} {sub:List Value} {ab:Bool} {col:Option Bool} {dd:Option Addr} {k0 k1 k2 k3 k5:Option Value} {B newId initId:String} {mN:Str→Option Value}
abbrev excObj (C tp:Addr):Obj:={ cls:=.ref C,data:=.fields #[.ref tp,.none,.none,.none,.bool false,.none] }
abbrev madeH (h:Heap) (C:Addr) (us:List Value):Heap:=(h.push { cls:=.type "tuple",data:=.seq us.toArray }).push (excObj C h.objs.size)
end
end L2
set_option Elab.async false
set_option linter.all false
set_option maxRecDepth 100000
set_option maxHeartbeats 4000000
set_option autoImplicit false
namespace L2
open PySem PySem.Spec PyProof.Rows PySem.W PySem.Builtin PySem.Builtin.ObjectAttr
section
variable {prog:Program} {w:World} {A:Around} {s:Shared} {K:PySem.W.Frag} {x C P tp:Addr} {R:Result→Shared→Prop} {name:Str} {v:Value} {tk:Tok} {cd:ClassData}
end
end L2
set_option Elab.async false
set_option linter.all false
set_option maxRecDepth 100000
set_option maxHeartbeats 4000000
set_option autoImplicit false
namespace L2
open PySem PySem.Spec PyProof.Rows PySem.W
variable {qx:Bool}
def XRec (qx:Bool) (h:Heap) (x C:Addr) (dx:Option Addr) (tb:Value):Prop:=∃(o:Obj) (vs:Array Value),h.get? x=some o∧o.cls = .ref C∧o.dict=dx∧o.data = .fields vs∧vs[1]?=some tb∧(qx=true→vs[2]?=some .none∧4 < vs.size)
theorem cx_set {qx:Bool} {vs:Array Value} {v:Value} (h:qx=true→vs[2]?=some .none∧4 < vs.size):qx=true→(vs.setIfInBounds 1 v)[2]?=some .none∧4 < (vs.setIfInBounds 1 v).size:=fun z=>by
 rw [Array.getElem?_setIfInBounds_ne (by decide),Array.size_setIfInBounds]
 exact h z
theorem XRec.to {qx:Bool} {h:Heap} {x C:Addr} {dx:Option Addr} {tb:Value} (r:XRec true h x C dx tb):XRec qx h x C dx tb:=by
 obtain ⟨o,vs,h1,h2,h3,h4,h5,h6⟩:=r
 exact ⟨o,vs,h1,h2,h3,h4,h5,fun _=>h6 rfl⟩
def XTb (h:Heap) (T:Addr):Prop:=∃(o:Obj) (ts:Array Value),h.get? T=some o∧o.data = .fields ts∧ts[3]?=some .none
structure XKeep (fs ch:List Addr) (h h':Heap):Prop where
 keep:∀b o,b∉ch→b∉fs→h.get? b=some o→h'.get? b=some o
 slot:∀b o,b∉ch→h.get? b=some o→∃sl,h'.get? b=some { o with slots:=sl }
section
variable {M:Model} {A:Around} {E:Value→Shared→Prop} {s:Shared} {env:Env} {outer:List Env} {base:Heap} {L x C:Addr} {dx:Option Addr} {tb:Value} {Q:Unit→Shared→Prop}
theorem mapF_obj {o:Obj} {vs:Array Value} (hd:o.data = .fields vs) (f:Array Value→Array Value):(o.mapFields f).data = .fields (f vs)∧(o.mapFields f).cls=o.cls∧(o.mapFields f).dict=o.dict:=by
 obtain ⟨c,d,dt,sl⟩:=o
 cases hd
 exact ⟨rfl,rfl,rfl⟩
end
end L2
set_option Elab.async false
set_option linter.all false
set_option maxRecDepth 100000
set_option maxHeartbeats 4000000
set_option autoImplicit false
namespace L2
open PySem PySem.Spec PyProof.Rows PySem.W
variable {qx:Bool}
abbrev VE:List Value:=[.type "ValueError",.type "Exception",.type "BaseException",.type "object"]
structure XCl (K:PySem.W.Frag) (C:Addr) (bm:List Value):Prop where
 ex:∃cd dd k0 k1 k2 k3 k5,K.lookup C=some { cls:=.type "type",dict:=dd,data:=.cls cd,slots:=#[k0,k1,k2,k3,some (.builtin "ValueError.__new__"),k5] }∧cd.mro = .ref C :: bm∧cd.hasDel=false∧cd.hasDict=true∧nsOkIn K cd.ns=true
 tl:tailIn K VE bm=true
def xclIn (K:PySem.W.Frag) (C:Addr) (bm:List Value):Bool:=tailIn K VE bm && match K.lookup C with
 | some ⟨.type "type",_,.cls cd,sl⟩=>(match sl.toList with
   | [_,_,_,_,some (.builtin n),_]=>n == "ValueError.__new__" && cd.mro == .ref C :: bm && !cd.hasDel && cd.hasDict && nsOkIn K cd.ns
   | _=>false)
 | _=>false
theorem XCl.of_in {K:PySem.W.Frag} {C:Addr} {bm:List Value} (q:xclIn K C bm=true):XCl K C bm:=by
 unfold xclIn at q
 rw [Bool.and_eq_true] at q
 refine ⟨?_,q.1⟩
 have q:=q.2
 split at q
 ·rename_i dd cd sl ho
  split at q
  ·rename_i k0 k1 k2 k3 n k5 hs
   simp only [Bool.and_eq_true,beq_iff_eq,Bool.not_eq_true'] at q
   obtain ⟨⟨⟨⟨rfl,h1⟩,h2⟩,h3⟩,h4⟩:=q
   have hsl:sl=#[k0,k1,k2,k3,some (.builtin "ValueError.__new__"),k5]:=by
    cases sl
    exact congrArg Array.mk hs
   exact ⟨cd,dd,k0,k1,k2,k3,k5,by rw [ho,hsl],h1,h2,h3,h4⟩
  ·cases q
 ·cases q
theorem XCl.obj {K:PySem.W.Frag} {C:Addr} {bm:List Value} {h:Heap} (c:XCl K C bm) (X:K.In h):∃nm q N bs sn sub ab col dd k0 k1 k2 k3 k5,h.get? C=some (excClassObj nm q C N bs bm true sn sub ab col dd k0 k1 k2 k3 k5 "ValueError.__new__")∧h.Ns N (h.nsMap N):=by
 obtain ⟨⟨nm,bs,mro,ns,qn,hd,sn,sub,ab,col,del⟩,dd,k0,k1,k2,k3,k5,h1,h2,h3,h4,h5⟩:=c.ex
 dsimp only at h2 h3 h4 h5
 subst h2 h3 h4
 exact ⟨nm,qn,ns,bs,sn,sub,ab,col,dd,k0,k1,k2,k3,k5,X _ _ h1,.of_isNs (isNs_of_in X h5)⟩
theorem XCl.tail {K:PySem.W.Frag} {C:Addr} {bm:List Value} {h:Heap} (c:XCl K C bm) (X:K.In h):OwnTail h VE bm:=tail_of_in X c.tl
theorem XCl.has {K:PySem.W.Frag} {C:Addr} {bm:List Value} {h:Heap} (c:XCl K C bm) (X:K.In h):(Value.ref C :: bm).contains (.type "BaseException")=true:=by
 rw [List.contains_cons,(c.tail X).hasType (b:=true) (by decide +kernel),Bool.or_true]
section
variable {M:Model} {A:Around} {E:Value→Shared→Prop} {env:Env} {K:PySem.W.Frag} {C:Addr} {bm:List Value} {s:Shared}
theorem raise_ok {t:Sem Value} {Q:Flow→Shared→Prop} (c:XCl K C bm) (hh:A.handled=none)
 (h:wpAny M A t (fun v s1=>∃x dx,v = .ref x∧K.In s1.heap∧XRec qx s1.heap x C dx .none∧E v s1) E s):wpAny M A (raiseStmt env (some t) none) Q E s:=by
 unfold raiseStmt
 refine wpAny_bind (wpAny_mono h (fun v s1 q=>?_) fun _ _ z=>z)
 obtain ⟨x,dx,rfl,X,⟨o,vs,hx,hc,hd,hdt,h1,_⟩,hE⟩:=q
 obtain ⟨nm,q,N,bs,sn,sub,ab,col,dd,k0,k1,k2,k3,k5,hC,_⟩:=c.obj X
 have hb:=c.has X
 obtain ⟨hp,g,d,tk,os⟩:=s1
 repeat (first
  | (with_reducible refine wpAny_loadPart_at hx ?_;rw [hc])
  | with_reducible refine wpAny_loadPart_at hC ?_
  | (with_reducible refine wpAny_isSubtype_exc hC ?_;rw [hb])
  | with_reducible refine wpAny_field hx hdt h1 ?_
  | wp_step)
 exact wpAny_raiseNew_none hh hE
end
def CX1 (qx:Bool) (P:Program) (w:World):CXT:=fun outer H s E e s'=>∃(x C:Addr) (dx:Option Addr) (T:Addr) (H':Hp),e = .ref x∧s'.os=s.os∧AllBare s'.gens∧Un (frs outer) [] H H' s.heap s'.heap∧HOk P w H' s'.heap∧
 H' x=some (.ext (F2.XIs qx x C dx))∧s.heap.objs.size≤x∧s.heap.objs.size≤T∧T≠x∧H' T=none∧XRec qx s'.heap x C dx (.ref T)∧XTb s'.heap T∧E (.ref x) dx H'
theorem XRec.is {h:Heap} {x C:Addr} {dx:Option Addr} {tb:Value} (r:XRec qx h x C dx tb):F2.XIs qx x C dx h:=by
 obtain ⟨o,vs,h1,h2,h3,h4,_,h5⟩:=r
 exact ⟨o,vs,h1,h2,h3,h4,h5⟩
theorem XIs.stay {x C:Addr} {dx:Option Addr} {h1 h2:Heap} (r:F2.XIs qx x C dx h1) (k:∀o,h1.get? x=some o→h2.get? x=some o):F2.XIs qx x C dx h2:=by
 obtain ⟨o,vs,e,q⟩:=r
 exact ⟨o,vs,k o e,q⟩
theorem ext_ok {P:Program} {w:World} {H:Hp} {h:Heap} {x C:Addr} {dx:Option Addr} (r:F2.XIs qx x C dx h):ObjOk P w H h x (.ext (F2.XIs qx x C dx)):=
 ⟨r,let ⟨o,_,e,_⟩:=r;⟨o,e⟩,fun _ _ q k=>XIs.stay q k⟩
section
variable {X:Cx} {pins:List (Addr×Obj)} {σ:St} {H H':Hp} {s s':Shared} {h':Heap} {x C T:Addr} {dx:Option Addr} {ch:List Addr}
theorem un_xkeep (k:XKeep (frs X.stack) ch s.heap h') (hT:∀b∈ch,b=x∨b=T):Un (frs X.stack) (x :: T :: []) H H s.heap h':=by
 have nch:∀b:Addr,b∉(x :: T :: [])→b∉ch:=fun b hb z=>hb (by rcases hT b z with rfl | rfl <;> simp)
 refine ⟨fun b o e n hb hx=>k.keep b o (nch b hx) hb e,fun b o e n hb hx=>k.slot b o (nch b hx) e,fun b o e n _=>n,fun b o e hx=>?_,fun _ _ e=>e,fun _ _ _ e=>e,fun b ps e=>⟨#[],by rw [e];simp⟩⟩
 obtain ⟨sl,q⟩:=k.slot b o (nch b hx) e
 exact ⟨_,q⟩
theorem Inv.left (I:Inv X pins σ H s) (hx:H x=some (.ext (F2.XIs qx x C dx))) (hT:H T=none) (nx:X.s₀.heap.objs.size≤x) (nT:X.s₀.heap.objs.size≤T) (k:XKeep (frs X.stack) ch s.heap h') (hc:∀b∈ch,b=x∨b=T) (r:F2.XIs qx x C dx h')
 (oT:∀y c,X.env.cells.lookup y=some c→c≠T) (lT:T≠X.env.locals) (pT:∀p∈X.pn++pins,p.1≠T):Inv X pins σ H { s with heap:=h' }:=by
 have nfr:∀b u,H b=some u→b∉frs X.stack:=fun b u e z=>by rw [I.stkFree b z] at e;cases e
 refine I.call (g':=s.gens) (t':=s.toks) (d':=s.drawn) (ch:=[x,T]) (un_xkeep k hc) (fun b u e=>?_) I.bare fun b hb=>?_
 ·by_cases hb:b=x
  ·subst hb;rw [hx] at e;cases e;exact ext_ok r
  ·refine (I.hok b u e).stay (fun c v hcc q=>k.keep c v ?_ ?_ q) (fun _ q=>q) fun _ _ q=>q
   ·intro z
    rcases hcc with rfl | hcc
    ·rcases hc c z with q | q
     ·exact hb q
     ·rw [q,hT] at e;cases e
    ·rcases hc c z with q | q
     ·rw [q,hx] at hcc;cases hcc
     ·rw [q,hT] at hcc;cases hcc
   ·rcases hcc with rfl | hcc
    ·exact nfr _ _ e
    ·exact nfr _ _ hcc
 ·have q:b=x∨b=T:=by simpa using hb
  rcases q with rfl | rfl
  ·exact ⟨.inr nx,(fun z=>by rw [z,I.free] at hx;cases hx),(fun y c e z=>by subst z;rw [I.freeC y c e] at hx;cases hx),fun p hp z=>by rw [←z,(I.pin p hp).2.1] at hx;cases hx⟩
  ·exact ⟨.inr nT,lT,oT,pT⟩
theorem Inv.raised (I:Inv X pins σ H s) {E:XK} {e:Value} (q:CX1 qx X.prog X.w X.stack H s E e s') (ht:s.toks≤s'.toks):∃(x C:Addr) (dx:Option Addr) (T:Addr) (H':Hp),e = .ref x∧Inv X pins σ H' s'∧H' x=some (.ext (F2.XIs qx x C dx))∧s.heap.objs.size≤x∧s.heap.objs.size≤T∧T≠x∧H' T=none∧XRec qx s'.heap x C dx (.ref T)∧XTb s'.heap T∧E (.ref x) dx H':=by
 obtain ⟨x,C,dx,T,H',he,os,bare,un,hok,hx,nx,nT,ne,hT,r,tb,q⟩:=q
 obtain ⟨hh,g,d,t,os'⟩:=s'
 obtain rfl:os'=s.os:=os
 exact ⟨x,C,dx,T,H',he,I.call (h':=hh) (g':=g) (d':=d) (t':=t) (ch:=[]) un hok bare (fun b z=>absurd z (by simp)),hx,nx,nT,ne,hT,r,tb,q⟩
theorem Inv.newT (I:Inv X pins σ H s) (h:s.heap.objs.size≤T):T≠X.env.locals∧(∀y c,X.env.cells.lookup y=some c→c≠T)∧∀p∈X.pn++pins,p.1≠T:=by
 have far:∀b o,s.heap.get? b=some o→b≠T:=fun b o e z=>absurd (Nat.lt_of_lt_of_le (Heap.lt_size e) h) (by rw [z];exact Nat.lt_irrefl _)
 refine ⟨fun z=>absurd I.lt (by rw [←z];exact Nat.not_lt.mpr h),fun y c e=>?_,fun p hp=>far _ _ (I.pin p hp).1⟩
 obtain ⟨v,o,ho,_⟩:=I.cell y c e
 exact far c o ho
end
section
variable {P:Program} {w:World} {K:PySem.W.Frag} {mg:Str→Option Value} {base:Heap} {N:List Str} {qual:Str} {scope:Scope} {f:Addr} {cd:Value} {A:Around} {outer:List Env} {s₀:Shared} {H₀:Hp} {E:XK}
end
end L2
set_option Elab.async false
set_option linter.all false
set_option maxRecDepth 100000
set_option maxHeartbeats 4000000
set_option autoImplicit false
namespace L2
open PySem PySem.Spec PyProof.Rows PySem.W
structure XAt (K:PySem.W.Frag) (C P:Addr) (f:Str):Prop where
 cl:XCl K C (.ref P :: VE)
 set:findIn K (.ref C) "__setattr__" = some (some (.builtin "object.__setattr__"))
 no:findIn K (.ref C) f=some none
theorem XCl.cls {K:PySem.W.Frag} {C:Addr} {bm:List Value} (c:XCl K C bm):∃cd,clsIn K C=some cd∧cd.mro = .ref C :: bm∧cd.hasDict=true:=by
 obtain ⟨cd,dd,k0,k1,k2,k3,k5,h1,h2,_,h4,_⟩:=c.ex
 exact ⟨cd,by unfold clsIn;rw [h1],h2,h4⟩
end L2
set_option Elab.async false
set_option linter.all false
set_option maxRecDepth 100000
set_option maxHeartbeats 4000000
set_option autoImplicit false
namespace L2
open PySem PySem.Spec PyProof.Rows PySem.W
variable {qx:Bool}
structure XMk (K:PySem.W.Frag) (C P f:Addr):Prop where
 cl:XCl K C (.ref P :: VE)
 init:∃cd,clsIn K C=some cd∧nsIn K cd.ns "__init__" = some (some (.ref f))
 fn:isFn K (.ref f)=true
 kp:keepIn K (.ref C)=true
section
variable {X:Cx} {k:Nat} {f C P:Addr} {fd:FuncData} {pins:List (Addr×Obj)} {σ:St} {H:Hp} {s:Shared} {Q:Value→Shared→Prop} {us:List Value} {vs:List V} {a:Str} {ps:List Str} {v:V} {u:Value}
end
end L2
set_option Elab.async false
set_option linter.all false
set_option maxRecDepth 100000
set_option maxHeartbeats 4000000
set_option autoImplicit false
namespace L2
open PySem PySem.Spec PyProof.Rows PySem.W
variable {qx:Bool}
section
variable {M:Model} {A:Around} {E:Value→Shared→Prop} {K:PySem.W.Frag} {s:Shared} {x C C':Addr} {bm bm':List Value} {dx:Option Addr} {tb:Value}
theorem match_ok {Q:Bool→Shared→Prop} (c:XCl K C bm) (c':XCl K C' bm') (X:K.In s.heap) (hx:XRec qx s.heap x C dx tb) (h:Q ((Value.ref C :: bm).contains (.ref C')) s):wpAny M A (excMatches (.ref x) (.ref C')) Q E s:=by
 obtain ⟨nm,q,N,bs,sn,sub,ab,col,dd,k0,k1,k2,k3,k5,hC,_⟩:=c.obj X
 obtain ⟨nm',q',N',bs',sn',sub',ab',col',dd',k0',k1',k2',k3',k5',hC',_⟩:=c'.obj X
 have hb:=c'.has X
 obtain ⟨o,vs,ho,hc,hd,hdt,h1⟩:=hx
 obtain ⟨hp,g,d,tk,os⟩:=s
 have ty:(⟨hp,g,d,tk,os⟩:Shared).TypeIs (.ref C') "type":=⟨_,hC',rfl⟩
 have nt:=tc_notTuple
 cases hbb:(Value.ref C :: bm).contains (.ref C') <;> (
  rw [hbb] at h
  unfold excMatches
  repeat (first
   | (with_reducible refine wpAny_loadPart_at ho ?_;rw [hc])
   | with_reducible refine wpAny_loadPart_at hC' ?_
   | (with_reducible refine wpAny_isSubtype_exc hC' ?_;rw [hb])
   | (with_reducible refine wpAny_isSubtype_exc hC ?_;rw [hbb])
   | wp_step)
  exact h)
end
end L2
set_option Elab.async false
set_option linter.all false
set_option maxRecDepth 100000
set_option maxHeartbeats 4000000
set_option autoImplicit false
namespace L2
open PySem PySem.Spec PyProof.Rows PySem.W
variable {qx:Bool}
def XTbF (h:Heap) (T:Addr) (fl:Value):Prop:=∃(o:Obj) (ts:Array Value),h.get? T=some o∧o.data = .fields ts∧ts[3]?=some fl
section
variable {M:Model} {A:Around} {E:Value→Shared→Prop} {s:Shared} {env:Env} {outer:List Env} {base:Heap} {L x C:Addr} {dx:Option Addr} {tb:Value} {Q:Unit→Shared→Prop}
theorem entry_new {hadNext:Bool} {hd:Value} (hfr:A.frames=some (env :: outer)) (hl:s.heap.FunFrames base (env :: outer)) (hf:env.frame=some L) (hx:XRec qx s.heap x C dx tb)
 (h:∀h' T,s.heap.objs.size≤T→T≠x→XRec qx h' x C dx (.ref T)→XTbF h' T (rawInt L)→XKeep (frs (env :: outer)) [x] s.heap h'→Q () { s with heap:=h' }) :
 wpAny M A (do let fo ←frameOf env;let at' ←entryPlaceOf L hadNext;let en ←EntryCells.newEntry hd fo .none (rawInt L) .none at';setField (.ref x) 1 en) Q E s:=by
 obtain ⟨ox,vs,gx,cx,dxe,dtx,tbx,xc⟩:=hx
 have v1:1 < vs.size:=(Array.getElem?_eq_some_iff.mp tbx).1
 have nfr:x∉frs (env :: outer):=fun z=>by
  obtain ⟨_,o2,g2,n2⟩:=hl.mem z
  rw [gx] at g2;cases g2
  exact n2 vs dtx
 refine wpAny_bind (wpAny_frameOf_fun hfr hl hf fun h1 so=>?_)
 refine wpAny_bind (wpAny_entryPlaceOf fun at' ip=>?_)
 unfold EntryCells.newEntry newFields
 refine wpAny_bind (wpAny_newObj_type ?_ (ip.sizeOk5 _ _ _ _ _))
 generalize hne:(Obj.mk (Value.type "traceback") none (Data.fields ([hd,Value.ref L,Value.none,rawInt L,Value.none]++if at'.isEmpty=true then List.replicate 6 Value.none else at').toArray) #[])=nob
 have dn:nob.data = .fields ([hd,Value.ref L,Value.none,rawInt L,Value.none]++if at'.isEmpty=true then List.replicate 6 Value.none else at').toArray:=by rw [←hne]
 have gx1:h1.get? x=some ox:=(so.2.1 x nfr).trans gx
 have gx2:(h1.push nob).get? x=some ox:=Heap.get?_push_of_some _ gx1
 have nex:h1.objs.size≠x:=Nat.ne_of_gt (Heap.lt_size gx1)
 refine wpAny_setField gx2 dtx v1 ?_
 obtain ⟨m1,m2,m3⟩:=mapF_obj dtx (·.setIfInBounds 1 (Value.ref h1.objs.size))
 have gx3:=Heap.get?_update_self (Obj.mapFields (·.setIfInBounds 1 (Value.ref h1.objs.size))) gx2 (Obj.isFreed_of_fields m1)
 have gT2:(h1.push nob).get? h1.objs.size=some nob:=Heap.get?_push_size h1 (Obj.isFreed_of_fields dn)
 have gT3:=(Heap.get?_update_other (h1.push nob) (Obj.mapFields (·.setIfInBounds 1 (Value.ref h1.objs.size))) (Ne.symm nex)).trans gT2
 have vx:(vs.setIfInBounds 1 (Value.ref h1.objs.size))[1]?=some (.ref h1.objs.size):=by simp [v1]
 have old:∀b o,b≠x→h1.get? b=some o→((h1.push nob).update x (Obj.mapFields (·.setIfInBounds 1 (Value.ref h1.objs.size)))).get? b=some o:=fun b o hb e=>by
  rw [Heap.get?_update_other _ _ (Ne.symm hb)]
  exact Heap.get?_push_of_some _ e
 refine h _ h1.objs.size (Nat.le_of_eq so.1.symm) nex ⟨_,_,gx3,m2.trans cx,m3.trans dxe,m1,vx,cx_set xc⟩ ⟨_,_,gT3,dn,?_⟩ ⟨fun b o hb hbf e=>old b o (fun z=>hb (by simp [z])) ((so.2.1 b hbf).trans e),fun b o hb e=>?_⟩
 ·rw [List.getElem?_toArray];rfl
 ·obtain ⟨sl,e1⟩:=so.2.2 b o e
  exact ⟨sl,old b _ (fun z=>hb (by simp [z])) e1⟩
end
structure XOn (qx:Bool) (X:Cx) (pins:List (Addr×Obj)) (H:Hp) (s:Shared) (x C:Addr) (dx:Option Addr) (T:Option Addr) (fl:Value):Prop where
 hx:H x=some (.ext (F2.XIs qx x C dx))
 nx:X.s₀.heap.objs.size≤x
 rc:XRec qx s.heap x C dx (match T with | some a=>.ref a | none=>.none)
 tb:∀a,T=some a→a≠x∧H a=none∧X.s₀.heap.objs.size≤a∧(a≠X.env.locals∧(∀y c,X.env.cells.lookup y=some c→c≠a)∧∀p∈X.pn++pins,p.1≠a)∧XTbF s.heap a fl
 fo:fl = .none∨fl=rawInt X.env.locals
section
variable {M:Model} {A:Around} {Er:Value→Shared→Prop} {X:Cx} {pins:List (Addr×Obj)} {σ:St} {H:Hp} {s:Shared} {x C:Addr} {dx T:Option Addr} {fl:Value} {Q:Unit→Shared→Prop}
theorem set_inv (fr:Option Addr) (I:Inv X pins σ H s) {a:Addr} (o:XOn qx X pins H s x C dx (some a) fl) (hfr:fr=none∨fr=some X.env.locals)
 (k:∀h',Inv X pins σ H { s with heap:=h' }→XOn qx X pins H { s with heap:=h' } x C dx (some a) (fr.elim Value.none fun f=>rawInt f)→Q () { s with heap:=h' }):wpAny M A (setFlight (.ref x) fr) Q Er s:=by
 obtain ⟨ox,vs,gx,cx,dxe,dtx,tbx,xc⟩:=id o.rc
 obtain ⟨ne,hT,nT,oT,ot,ts,gT,dT,t3⟩:=o.tb a rfl
 unfold setFlight
 refine wpAny_bind (wpAny_field gx dtx tbx ?_)
 rw [if_pos (show (Value.ref a != Value.none)=true from rfl)]
 refine wpAny_setField gT dT (Array.getElem?_eq_some_iff.mp t3).1 ?_
 obtain ⟨m1,m2,m3⟩:=mapF_obj dT (·.setIfInBounds 3 (fr.elim Value.none fun f=>rawInt f))
 have gT2:=Heap.get?_update_self (Obj.mapFields (·.setIfInBounds 3 (fr.elim Value.none fun f=>rawInt f))) gT (Obj.isFreed_of_fields m1)
 have oth:∀b,b≠a→(s.heap.update a (Obj.mapFields (·.setIfInBounds 3 (fr.elim Value.none fun f=>rawInt f)))).get? b=s.heap.get? b:=fun b z=>Heap.get?_update_other _ _ (Ne.symm z)
 have rc':XRec qx (s.heap.update a (Obj.mapFields (·.setIfInBounds 3 (fr.elim Value.none fun f=>rawInt f)))) x C dx (.ref a):=⟨ox,vs,(oth x (Ne.symm ne)).trans gx,cx,dxe,dtx,tbx,xc⟩
 refine k _ (I.left o.hx hT o.nx nT (ch:=[a]) ⟨fun b u hb _ e=>(oth b (by simpa using hb)).trans e,fun b u hb e=>⟨u.slots,(oth b (by simpa using hb)).trans e⟩⟩ (fun b hb=>.inr (by simpa using hb)) rc'.is oT.2.1 oT.1 oT.2.2) ⟨o.hx,o.nx,rc',fun a' e=>?_,?_⟩
 ·cases e
  exact ⟨ne,hT,nT,oT,_,_,gT2,m1,by rw [Array.getElem?_setIfInBounds_self,if_pos (Array.getElem?_eq_some_iff.mp t3).1]⟩
 ·rcases hfr with rfl | rfl
  ·exact .inl rfl
  ·exact .inr rfl
theorem note_inv (hA:A.frames=some X.stack) (I:Inv X pins σ H s) (hs:X.stack=X.env :: X.outer) (hf:X.env.frame=some X.env.locals) (o:XOn qx X pins H s x C dx T fl)
 (k:∀h' a,Inv X pins σ H { s with heap:=h' }→XOn qx X pins H { s with heap:=h' } x C dx (some a) (rawInt X.env.locals)→Q () { s with heap:=h' }):wpAny M A (noteFrame (.ref x) X.env) Q Er s:=by
 obtain ⟨ox,vs,gx,cx,dxe,dtx,tbx,xc⟩:=id o.rc
 have fin:∀(s1:Shared) (hh:∃h1,s1 = { s with heap:=h1 }) (ch:List Addr) (h':Heap) (a:Addr),Inv X pins σ H s1→s1.heap.objs.size≤a→a≠x→XRec qx h' x C dx (.ref a)→XTbF h' a (rawInt X.env.locals)→XKeep (frs (X.env :: X.outer)) [x] s1.heap h'→Q () { s1 with heap:=h' }:=by
  rintro s1 ⟨h1,rfl⟩ ch h' a I1 l1 l2 l3 l4 l5
  obtain ⟨o1,o2,o3⟩:=I1.newT l1
  have J:=I1.left o.hx (I1.hok.fresh l1) o.nx (Nat.le_trans I1.sz l1) (ch:=[x]) (hs ▸ l5) (fun b hb=>.inl (by simpa using hb)) l3.is o2 o1 o3
  exact k h' a J ⟨o.hx,o.nx,l3,fun a' e=>by cases e;exact ⟨l2,I1.hok.fresh l1,Nat.le_trans I1.sz l1,⟨o1,o2,o3⟩,l4⟩,.inr rfl⟩
 unfold noteFrame
 simp only [hf]
 refine wpAny_bind (wpAny_field gx dtx tbx ?_)
 cases T with
 | none=>
   rw [if_neg (by decide)]
   exact entry_new (hA.trans (congrArg some hs)) (hs ▸ I.stack) hf o.rc fun h' a l1 l2 l3 l4 l5=>fin s ⟨s.heap,rfl⟩ [] h' a I l1 l2 l3 l4 l5
 | some T₀=>
   obtain ⟨ne,hT,nT,oT,ot,ts,gT,dT,t3⟩:=o.tb T₀ rfl
   rw [if_pos (show (Value.ref T₀ != Value.none)=true from rfl)]
   refine wpAny_bind (wpAny_field gT dT t3 ?_)
   rcases o.fo with rfl | rfl
   ·rw [if_neg (show ¬((Value.none == rawInt X.env.locals)=true) from by simp [rawInt])]
    refine wpAny_bind (wpAny_setField gT dT (Array.getElem?_eq_some_iff.mp t3).1 ?_)
    have oth:∀b,b≠T₀→(s.heap.update T₀ (Obj.mapFields (·.setIfInBounds 3 Value.none))).get? b=s.heap.get? b:=fun b z=>Heap.get?_update_other _ _ (Ne.symm z)
    have rc':XRec qx (s.heap.update T₀ (Obj.mapFields (·.setIfInBounds 3 Value.none))) x C dx (.ref T₀):=⟨ox,vs,(oth x (Ne.symm ne)).trans gx,cx,dxe,dtx,tbx,xc⟩
    have J:=I.left o.hx hT o.nx nT (ch:=[T₀]) ⟨fun b u hb _ e=>(oth b (by simpa using hb)).trans e,fun b u hb e=>⟨u.slots,(oth b (by simpa using hb)).trans e⟩⟩ (fun b hb=>.inr (by simpa using hb)) rc'.is oT.2.1 oT.1 oT.2.2
    exact entry_new (s:={ s with heap:=s.heap.update T₀ (Obj.mapFields (·.setIfInBounds 3 Value.none)) }) (hA.trans (congrArg some hs)) (hs ▸ J.stack) hf rc' fun h' a l1 l2 l3 l4 l5=>fin _ ⟨_,rfl⟩ [] h' a J l1 l2 l3 l4 l5
   ·rw [if_pos (show (rawInt X.env.locals == rawInt X.env.locals)=true from by first | (simp;done) | exact beq_self_eq_true _)]
    exact wpAny_pure (k s.heap T₀ I ⟨o.hx,o.nx,o.rc,o.tb,.inr rfl⟩)
end
def XE (qx:Bool) (X:Cx) (E:St→XK):Value→Shared→Prop:=fun e s=>∃pins σ H x C dx T fl,e = .ref x∧Inv X pins σ H s∧XOn qx X pins H s x C dx T fl∧E σ (.ref x) dx H
def PassesS (CX:CXT) (X:Cx) (E:St→XK):Prop:=∀(pins:List (Addr×Obj)) (σ:St) (H:Hp) (s:Shared) (e:Value) (s':Shared),Inv X pins σ H s→s.toks≤s'.toks→CX X.stack H s (E σ) e s'→X.xe e s'
section
variable {M:Model} {X:Cx} {E:St→XK}
theorem XE.own (hs:X.stack=X.env :: X.outer) (hf:X.env.frame=some X.env.locals):PassesOwn M X.A X.env (XE qx X E):=by
 rintro e s ⟨pins,σ,H,x,C,dx,T,fl,rfl,I,o,q⟩
 refine note_inv I.ok.frames I hs hf o fun h' a I' o'=>?_
 obtain ⟨ox,vs,gx,cx,dxe,dtx,tbx,xc⟩:=id o'.rc
 unfold cameBackBy
 refine wpAny_bind (wpAny_field gx dtx tbx ?_)
 rw [if_neg (show ¬((Value.ref a == Value.none)=true) from by intro z;cases z)]
 rw [hf]
 exact set_inv _ I' o' (.inr rfl) fun h'' I'' o''=>⟨pins,σ,H,x,C,dx,some a,_,rfl,I'',o'',q⟩
theorem XE.pass:PassesS (CX1 qx X.prog X.w) (X.wish (XE qx X E)) E:=by
 intro pins σ H s e s' I ht q
 obtain ⟨x,C,dx,T,H',rfl,J,hx,nx,nT,ne,hT,r,tb,q⟩:=I.unwish.raised q ht
 exact ⟨pins,σ,H',x,C,dx,some T,.none,rfl,J,⟨hx,Nat.le_trans I.sz nx,r,fun a e=>by cases e;exact ⟨ne,hT,Nat.le_trans I.sz nT,I.unwish.newT nT,tb⟩,.inl rfl⟩,q⟩
end
section
variable {P:Program} {w:World} {K:PySem.W.Frag} {mg:Str→Option Value} {base:Heap}
abbrev cxX (qx:Bool) (P:Program) (w:World) (K:PySem.W.Frag) (mg:Str→Option Value) (base:Heap) (N:List Str) (qual:Str) (scope:Scope) (f:Addr) (cd:Value) (A:Around) (outer:List Env) (s:Shared) (H:Hp) (E:XK):Cx:=
 (cxOf (CX1 qx P w) P w K mg base N qual scope f cd A outer s H E).wish (XE qx (cxOf (CX1 qx P w) P w K mg base N qual scope f cd A outer s H E) fun _=>E)
theorem XE.leaves {N:List Str} {qual:Str} {scope:Scope} {f:Addr} {cd:Value} {A:Around} {outer:List Env} {s₀:Shared} {H₀:Hp} {E:XK} {e:Value} {s:Shared}
 (h:XE qx (cxOf (CX1 qx P w) P w K mg base N qual scope f cd A outer s₀ H₀ E) (fun _=>E) e s):(cxOf (CX1 qx P w) P w K mg base N qual scope f cd A outer s₀ H₀ E).xe e s:=by
 obtain ⟨pins,σ,H,x,C,dx,T,fl,rfl,I,o,q⟩:=h
 refine wpAny_bind (note_inv I.ok.frames I rfl rfl o fun h' a I' o'=>?_)
 refine set_inv none I' o' (.inl rfl) fun h'' I'' o''=>?_
 obtain ⟨ne,hT,nT,oT,tb⟩:=o''.tb a rfl
 exact ⟨x,C,dx,a,H,rfl,I''.os,I''.bare,I''.base,I''.hok,o''.hx,o''.nx,nT,ne,hT,o''.rc,tb,q⟩
theorem Fun.okX {x qual:Str} {st:Stmt} {f:Addr} {fd:FuncData} {N ps:List Str} {k:Nat} {sp:Sp} (F:Fun K x qual st f fd) (S:FnScope N ps (defScope st)) (len:∀vs H Q E,sp vs H Q E→vs.length=ps.length)
 (hbody:∀(cdv:Value) (A:Around) (outer:List Env) (s:Shared) (H:Hp) (vs:List V) (Q:VK) (E:XK),Room k (A.deeper (envOfC qual (defScope st) s.heap.objs.size f cdv))→sp vs H Q E→
   ∃t,PSs (cxX qx P w K mg base N qual (defScope st) f cdv A outer s H E) (defBody st) t∧t { nx:=fun _ H'=>Q .non H',rt:=Q } (start N vs) H):FnOk P w K mg base (CX1 qx P w) (k + 1) f fd ps sp:=by
 obtain ⟨oc,od,kV,doc,pm,an,cdv,ct,osl,rfl,lk,hcd⟩:=F.ex
 refine fn_of lk hcd S len fun A outer s H vs Q E hr hsp=>?_
 obtain ⟨t,h,q⟩:=hbody cdv A outer s H vs Q E hr hsp
 exact ⟨t,fun pins s1 σ H1 D I hw=>wpAny_mono (h pins s1 σ H1 D (I.wish _) hw) (fun _ _ q=>q.unwish) fun _ _ z=>z.leaves,q⟩
theorem FnOk.calm {k:Nat} {f:Addr} {fd:FuncData} {ps:List Str} {sp sp':Sp} (F:FnOk P w K mg base (CX1 qx P w) k f fd ps sp) (h:∀vs H Q E,sp' vs H Q E→sp vs H Q E0):FnOk P w K mg base CX0 k f fd ps sp':=by
 refine ⟨fun vs H Q E q=>F.len vs H Q E0 (h _ _ _ _ q),fun A outer s H args us vs Q E hr he hb hv hs=>codeAny_mono (F.run A outer s H args us vs Q E0 hr he hb hv (h _ _ _ _ hs)) fun r s' q=>?_⟩
 cases r with
 | error e=>obtain ⟨_,_,_,_,_,_,_,_,_,_,_,_,_,_,_,_,_,z⟩:=q;exact z.elim
 | ok fl=>cases fl <;> exact q
end
section
variable {X:Cx} {CX:CXT} {k:Nat} {f:Addr} {fd:FuncData} {ps:List Str} {sp:Sp} {E:St→XK} {x:Str} {p pos:Pos} {e:Expr} {es:List Expr} {t:TA}
def tCallS (sp:Sp) (E:St→XK) (t:TA):TE:=fun σ H Q=>t σ H fun vs H1=>sp vs H1 Q (E σ)
theorem pe_callS (F:FnOk X.prog X.w X.K X.mg X.base CX k f fd ps sp) (hr:Room k X.A) (hg:Gl X x) (hm:X.mg x=some (.ref f)) (hk:PySem.W.keepIn X.K (.ref f)=true) (hb:Binds X.K fd ps []) (hx:PassesS CX X E)
 (ha:PA X (e :: es) t) (hdb:(x == ("__debug__" : Str))=false:=by decide) (he:starEach (e :: es) X.env=(false,eval e X.env) :: starEach es X.env:=by rfl) (hpl:(backTo pos (starEach es X.env)).any (·.1)=false:=by rfl) :
 PE X (.Call (.Name x p) (e :: es) [] pos) (tCallS sp E t):=by
 intro pins s σ H Q I h
 refine wpAny_Call_Name_kw (ld_glob I hg hm ?_ hdb)
 refine PySem.W.callWith_K (h₀:=X.base) I.ok.mod.kin hk (thn (ha pos pins s σ H _ I h) fun us s1 ⟨vs,H1,I1,r,q⟩=>⟨I1.kIn,?_⟩) he hpl
 have hl:(us++[]).length=ps.length:=by rw [List.append_nil,←r.length];exact F.len _ _ _ _ q
 refine wpAny_call (codeAny_mono (codeAny_toks_of (Nat.le_refl _) (F.run X.A X.stack s1 H1 ⟨us,[]⟩ us vs Q (E σ) hr I1.env0 (by have:=hb s1 us I1.kIn hl;rwa [List.append_nil] at this) r q)) fun r s' ⟨htq,hq⟩=>?_)
 cases r with
 | error e=>exact hx pins σ H1 s1 e s' I1 htq hq
 | ok fl=>
   cases fl with
   | ret u=>exact I1.after hq htq
   | next=>exact False.elim hq
   | brk=>exact False.elim hq
   | cont=>exact False.elim hq
end
end L2
set_option Elab.async false
set_option linter.all false
set_option maxRecDepth 100000
set_option maxHeartbeats 4000000
set_option autoImplicit false
namespace L2
open PySem PySem.Spec PyProof.Rows PySem.W
variable {qx:Bool}
def PM (qx:Bool) (X:Cx) (e:Expr) (C:Addr) (t:St→Hp→(Addr→Option Addr→Hp→Prop)→Prop):Prop:=
 ∀(pins:List (Addr×Obj)) (s:Shared) (σ:St) (H:Hp) (Q:Addr→Option Addr→Hp→Prop),Inv X pins σ H s→t σ H Q→
  wpAny (model X.prog X.w) X.A (eval e X.env) (fun v s1=>∃x dx H1,v = .ref x∧Inv X pins σ H1 s1∧H1 x=some (.ext (F2.XIs qx x C dx))∧X.s₀.heap.objs.size≤x∧XRec true s1.heap x C dx .none∧Q x dx H1) X.xe s
def Raises (qx:Bool) (X:Cx) (E:St→XK):Prop:=∀(pins:List (Addr×Obj)) (σ:St) (H:Hp) (s:Shared) (x C:Addr) (dx:Option Addr),Inv X pins σ H s→XOn qx X pins H s x C dx none .none→E σ (.ref x) dx H→X.xe (.ref x) s
theorem XE.raises {X:Cx} {E:St→XK}:Raises qx (X.wish (XE qx X E)) E:=fun pins σ H s x C dx I o q=>⟨pins,σ,H,x,C,dx,none,.none,rfl,I.unwish,⟨o.hx,o.nx,o.rc,o.tb,o.fo⟩,q⟩
theorem ps_raise {X:Cx} {e:Expr} {C:Addr} {bm:List Value} {t:St→Hp→(Addr→Option Addr→Hp→Prop)→Prop} {E:St→XK} {pos:Pos} (hc:X.calm=true) (c:XCl X.K C bm) (hx:Raises qx X E) (h:PM qx X e C t)
 (ho:evalOpt (some e) X.env=some (eval e X.env):=by rfl):PS X (.Raise (some e) none pos) (fun _ σ H=>t σ H fun x dx H1=>E σ (.ref x) dx H1):=by
 intro pins s σ H D I q
 rw [arm_exec_Raise,ho]
 refine wpAny_bind (wpAny_standAt ?_)
 refine raise_ok (qx:=true) c (I.ok.hd hc) ?_
 refine wpAny_bind (wpAny_mono (h pins s σ H _ I q) (fun v s1 ⟨x,dx,H1,e1,I1,hx1,nx,r,q1⟩=>?_) fun _ _ z=>z)
 subst e1
 refine wpAny_bind (wpAny_standAt (wpAny_pure ⟨x,dx,rfl,I1.kIn,r,hx pins σ H1 s1 x C dx I1 ⟨hx1,nx,r.to,(fun a e=>by cases e),.inl rfl⟩ q1⟩))
theorem ns_none_of {K:PySem.W.Frag} {h:Heap} {N:Addr} {m:Str→Option Value} {n:Str} (X:K.In h) (G:h.Ns N m) (e:nsIn K N n=some none):m n=none:=by
 obtain ⟨o,es,ep,ho,hd,_,hf⟩:=G
 unfold nsIn at e
 split at e
 ·next c d es' n' sl q=>
  have z:=X _ _ q
  rw [ho] at z
  cases z
  cases hd
  split at e
  ·cases e
  ·next he=>rw [←hf];unfold nsFind findBy;rw [←Array.find?_toList,he];rfl
 ·cases e
section
variable {prog:Program} {w:World} {A:Around} {E:Value→Shared→Prop} {h:Heap} {g:Array GenState} {d:Drawn} {t:Nat} {os:OsState} {Q:Value→Shared→Prop}
variable {nm q:Str} {C N:Addr} {bs bm bmB:List Value} {hdct:Bool} {sn:List Str} {sub:List Value} {ab:Bool} {col:Option Bool} {dd:Option Addr} {k0 k1 k2 k3 k5:Option Value} {B newId initId:String} {mN:Str→Option Value}
theorem make_exc0 (F:ExcBaseFacts B newId initId bmB) (T:OwnTail h bmB bm) {us:List Value} (hC:h.get? C=some (excClassObj nm q C N bs bm hdct sn sub ab col dd k0 k1 k2 k3 k5 newId)) (hn:h.Ns N mN) (hni:mN "__init__" = none) (hus:us.length≤sizeLine)
 (hq:∀h' tp,(∀b o,h.get? b=some o→h'.get? b=some o)→h'.get? (h.objs.size + 1)=some (excObj C tp)→Q (.ref (h.objs.size + 1)) ⟨h',g,d,t,os⟩) :
 wpAny (model prog w) A (call (.ref C) us) Q E ⟨h,g,d,t,os⟩:=by
 have c1:=tc_lookup
 have c2:=tc_bind (.ref C)
 have ty:(⟨h,g,d,t,os⟩:Shared).TypeIs (.ref C) "type":=⟨_,hC,rfl⟩
 refine wpAny_call (codeAny_of_tree ?_)
 show wpAny _ _ (callAny (.ref C) _) _ _ _
 repeat (any_goals (first
  | assumption
  | with_reducible refine wpAny_loadPart_at hC ?_
  | wp_step))
 refine ⟨rfl,codeAny_call_builtin_at (Code.quiet_builtin _ (by decide +kernel)) entry_typeCall (wpAny_check_type_call_sub hC ?_)⟩
 repeat (first
  | with_reducible refine wpAny_loadPart_at hC ?_
  | with_reducible refine wpAny_madeBy_exc hC ?_
  | wp_step)
 refine codeAny_call_builtin_code (Code.quiet_builtin _ F.quiet) (wpAny_check_new_subT F T hC (codeAny_exc_new_subT F T hC ?_ hus))
 change wpAny _ _ _ _ _ (Shared.mk (madeH h C us) g d t os)
 have kp:∀b o,h.get? b=some o→(madeH h C us).get? b=some o:=fun b o e=>Heap.get?_push_of_some _ (Heap.get?_push_of_some _ e)
 have he:(madeH h C us).get? (h.objs.size + 1)=some { cls:=.ref C,data:=.fields #[.ref h.objs.size,.none,.none,.none,.bool false,.none] }:=by heap_get
 have n1:(madeH h C us).Ns N mN:=hn.keeps kp
 have cC:(Value.ref C :: bm).contains (.ref C)=true:=by simp
 unfold isInstance
 repeat (first
  | with_reducible refine wpAny_loadPart_at he ?_
  | (with_reducible refine wpAny_isSubtype_exc (kp _ _ hC) ?_;rw [cC])
  | wp_step)
 show wpAny _ _ (typeLookup (.ref C) _) _ _ _
 refine wpAny_typeLookup_tail (kp _ _ hC) n1 (T.keeps kp) F.mroIs F.init.lookup ?_
 rw [hni]
 refine wpAny_holding (wpAny_bind (wpAny_of_eq (F.init.bind _) (wpAny_bind (wpAny_call (codeAny_call_builtin F.init.plain F.initEntry (wpAny_check_init_subT F (T.keeps kp) (kp _ _ hC) he rfl ?_))))))
 wp_walk
 refine hq _ ((madeH h C us).objs.size) (fun b o hb=>?_) ?_
 ·rw [Heap.get?_update_other _ _ (Nat.ne_of_gt (Nat.lt_succ_of_lt (Heap.lt_size hb)))]
  exact Heap.get?_push_of_some _ (kp b o hb)
 ·rw [Heap.get?_update_self _ (Heap.get?_push_of_some _ he) rfl]
  rfl
end
section
variable {X:Cx} {k:Nat} {f C P:Addr} {fd:FuncData} {a:Str} {ps:List Str} {n:Str} {p pos:Pos} {e:Expr} {es:List Expr}
theorem pm_none {t:TA} {bm:List Value} {cd:ClassData} (c:XCl X.K C bm) (hk:keepIn X.K (.ref C)=true) (hcd:clsIn X.K C=some cd) (hni:nsIn X.K cd.ns "__init__" = some none) (hg:Gl X n) (hm:X.mg n=some (.ref C)) (ha:PA X (e :: es) t)
 (hdb:(n == ("__debug__" : Str))=false:=by decide) (h1:starEach (e :: es) X.env=(false,eval e X.env) :: starEach es X.env:=by rfl) (hpl:(backTo pos (starEach es X.env)).any (·.1)=false:=by rfl) :
 PM qx X (.Call (.Name n p) (e :: es) [] pos) C (fun σ H Q=>t σ H fun vs H1=>vs.length≤1000∧∀x,H1 x=none→Q x none (upd H1 x (.ext (F2.XIs qx x C none)))):=by
 intro pins s σ H Q I h
 refine wpAny_Call_Name_kw (ld_glob I hg hm ?_ hdb)
 refine PySem.W.callWith_K (h₀:=X.base) I.ok.mod.kin hk (thn (ha pos pins s σ H _ I h) fun us s1 ⟨vs,H1,I1,r,hl,q⟩=>⟨I1.kIn,?_⟩) h1 hpl
 obtain ⟨nm,q',N,bs,sn,sub,ab,col,dd,k0,k1,k2,k3,k5,hC,hN⟩:=c.obj I1.kIn
 have hni':s1.heap.nsMap N "__init__" = none:=by
  unfold clsIn at hcd
  split at hcd
  ·next l=>
   cases hcd
   have z:=I1.kIn _ _ l
   rw [hC] at z
   cases z
   exact ns_none_of I1.kIn hN hni
  ·cases hcd
 obtain ⟨hh,g,d,tk,os⟩:=s1
 refine make_exc0 PySem.F.excBase_ValueError (c.tail I1.kIn) hC hN hni' (by show us.length≤sizeLine;rw [←r.length];exact Nat.le_trans hl (by decide)) fun h' tp kp ht=>?_
 have xr:XRec true h' (hh.objs.size + 1) C none .none:=⟨_,_,ht,rfl,rfl,rfl,rfl,fun _=>⟨rfl,by show 4 < 6;decide⟩⟩
 exact ⟨_,none,_,rfl,I1.laid (h':=h') (t':=tk) kp (Nat.le_succ _) (ext_ok xr.to.is),upd_same,Nat.le_trans I1.sz (Nat.le_succ _),xr,q _ (I1.hok.fresh (Nat.le_succ _))⟩
end
end L2
set_option Elab.async false
set_option linter.all false
set_option maxRecDepth 100000
set_option maxHeartbeats 4000000
set_option autoImplicit false
namespace L2
open PySem PySem.Spec PyProof.Rows PySem.W
variable {qx:Bool}
abbrev Cx.mark (X:Cx) (x:Addr):Cx:={ X with A:=X.A.mark (some (.ref x)),calm:=false,xe:=fun _ _=>False }
section
variable {X:Cx} {pins:List (Addr×Obj)} {σ:St} {H:Hp} {s:Shared} {D:Ends}
theorem Inv.mark (I:Inv X pins σ H s) (x:Addr):Inv (X.mark x) pins σ H s:=
 ⟨⟨I.ok.mod,I.ok.kind,I.ok.glob,I.ok.blt,I.ok.above,I.ok.inj,I.ok.has,I.ok.cab,(fun z=>by cases z),I.ok.frames,I.ok.stk,I.ok.exf,I.ok.bs,I.ok.bsz,I.ok.noex,I.ok.exfs,I.ok.funs,I.ok.frf⟩,I.os,I.bare,I.base,I.loc,I.cell,I.free,I.freeC,I.pin,I.hok,I.len,I.tk⟩
theorem Inv.unmark {x:Addr} (J:X.Ok) (I:Inv (X.mark x) pins σ H s):Inv X pins σ H s:=⟨J,I.os,I.bare,I.base,I.loc,I.cell,I.free,I.freeC,I.pin,I.hok,I.len,I.tk⟩
theorem Inv.repin {pn' pins':List (Addr×Obj)} {xe:Value→Shared→Prop} (I:Inv X pins σ H s) (h:∀p∈pn'++pins',p∈X.pn++pins):Inv { X with pn:=pn',xe:=xe } pins' σ H s:=
 ⟨⟨I.ok.mod,I.ok.kind,I.ok.glob,I.ok.blt,I.ok.above,I.ok.inj,I.ok.has,I.ok.cab,I.ok.hd,I.ok.frames,I.ok.stk,I.ok.exf,I.ok.bs,I.ok.bsz,I.ok.noex,I.ok.exfs,I.ok.funs,I.ok.frf⟩,I.os,I.bare,I.base,I.loc,I.cell,I.free,I.freeC,fun p hp=>I.pin p (h p hp),I.hok,I.len,I.tk⟩
theorem unset_ok {M:Model} {A:Around} {E:Value→Shared→Prop} {i:Nat} {n:Str} {pos:Pos} {Q:Unit→Shared→Prop} (I:Inv X pins σ H s) (hN:X.N.Nodup) (hi:X.N[i]?=some n) (hk:X.env.scope.names.lookup n=some .local)
 (h:∀s',Inv X pins (σ.set i none) H s'→Q () s'):wpAny M A (do bindName X.env n .none;unbindBehindTheSuite X.env n pos) Q E s:=by
 refine wpAny_bind (wpAny_bindName (store_ok (v:=.non) I hN hi (.inl hk) rfl (fun s1 I1=>?_) (.inr hk)))
 unfold unbindBehindTheSuite
 have hiσ:i < σ.length:=by rw [I.len];exact (List.getElem?_eq_some_iff.mp hi).1
 obtain ⟨m,hn,hl⟩:=id I1.loc
 have hcls:(X.env.scope.kind == .class || (X.env.scope.kind == .module && X.env.locals != X.env.globals))=false:=by rw [I.ok.kind];rfl
 obtain ⟨u0,_,lk⟩:=hl i n .non hi (by rw [List.getElem?_set_self hiσ]) (.inl hk)
 have hv:m n=some u0:=by
  rcases lk with ⟨_,e⟩ | ⟨k,_⟩
  ·exact e
  ·have k:X.env.scope.names.lookup n=some .cell∨X.env.scope.names.lookup n=some .free:=k
   rw [hk] at k;rcases k with k | k <;> cases k
 refine wpAny_onRaise (wpAny_unbindName_local hk hn hv hcls fun h' u hn' hs=>?_)
 have cne:=I1.cne
 have tracked:HOk X.prog X.w H h':=fun b ob e=>by
  refine (I1.hok b ob e).stay (fun c w' hc q=>(hs.2 c ?_).trans q) (fun _ q=>q) fun _ _ q=>q
  rintro rfl
  rcases hc with rfl | hc
  ·rw [I1.free] at e;cases e
  ·rw [I1.free] at hc;cases hc
 have far:∀b o,X.s₀.heap.get? b=some o→b≠X.env.locals:=fun b o e=>Nat.ne_of_lt (Nat.lt_of_lt_of_le (Heap.lt_size e) I1.ok.above)
 refine h _ ⟨I1.ok,I1.os,I1.bare,⟨fun b o e n hb hx=>?_,fun b o e n hb hx=>?_,I1.base.free,fun b o e hx=>?_,I1.base.tups,I1.base.frzs,I1.base.tbls⟩,⟨_,hn',fun j y v' e1 e2 e3=>?_⟩,fun y c e=>?_,I1.free,I1.freeC,fun p hp=>?_,tracked,by simpa using I.len,(by have:=I1.tk;first | exact this | (dsimp only;omega))⟩
 ·exact (hs.2 b (far b o e)).trans (I1.base.keep b o e n hb hx)
 ·obtain ⟨sl,e1⟩:=I1.base.slot b o e n hb hx
  exact ⟨sl,(hs.2 b (far b o e)).trans e1⟩
 ·obtain ⟨o',e1⟩:=I1.base.there b o e hx
  exact ⟨o',(hs.2 b (far b o e)).trans e1⟩
 ·by_cases hj:j=i
  ·subst hj
   rw [List.getElem?_set_self hiσ] at e2
   cases e2
  ·rw [List.getElem?_set_ne (Ne.symm hj)] at e2
   obtain ⟨u',r',q⟩:=hl j y v' e1 (by rw [List.getElem?_set_ne (Ne.symm hj)];exact e2) e3
   refine ⟨u',r',?_⟩
   rcases q with ⟨k,e⟩ | ⟨k,c,e,z⟩
   ·refine .inl ⟨k,?_⟩
    have:y≠n:=fun e=>hj (nodup_ix hN e1 (e ▸ hi))
    simp [this,e]
   ·exact .inr ⟨k,c,e,z.sameBut hs (cne y c e)⟩
 ·obtain ⟨w',z⟩:=I1.cell y c e
  exact ⟨w',z.sameBut hs (cne y c e)⟩
 ·obtain ⟨e,n,ne,nf,d⟩:=I1.pin p hp
  exact ⟨(hs.2 p.1 ne).trans e,n,ne,nf,d⟩
end
def PH (qx:Bool) (X:Cx) (hs:List ExceptHandler) (th:Addr→Addr→Option Addr→TS):Prop:=∀(pins:List (Addr×Obj)) (s:Shared) (σ:St) (H:Hp) (x C:Addr) (dx:Option Addr) (T:Addr) (D:Ends),Inv X pins σ H s→XOn qx X pins H s x C dx (some T) .none→th x C dx D σ H→
 wpAny (model X.prog X.w) X.A (handleBy (.ref x) X.env hs) (SP X pins D) X.xe s
def Ends.unset (D:Ends) (i:Nat):Ends:={ nx:=fun σ H=>D.nx (σ.set i none) H,rt:=D.rt,bk:=fun σ H=>D.bk (σ.set i none) H,ct:=fun σ H=>D.ct (σ.set i none) H }
section
variable {X:Cx} {n v:Str} {C':Addr} {bm':List Value} {p pos:Pos} {b₀:Stmt} {suite:List Stmt} {rest:List ExceptHandler} {ts:Addr→TS} {tr:Addr→Addr→Option Addr→TS} {i:Nat}
def tHAs (K:PySem.W.Frag) (C':Addr) (i:Nat) (ts:Addr→TS) (tr:Addr→Addr→Option Addr→TS):Addr→Addr→Option Addr→TS:=fun x C dx D σ H=>∃bm,XCl K C bm∧
 if (Value.ref C :: bm).contains (.ref C')=true then ts x (D.unset i) (σ.set i (some (.ref x))) H else tr x C dx D σ H
theorem ph_as (hg:Gl X n) (hm:X.mg n=some (.ref C')) (c':XCl X.K C' bm') (hN:X.N.Nodup) (hi:X.N[i]?=some v) (hl:X.env.scope.names.lookup v=some .local) (hb:∀x,PSs (X.mark x) (b₀ :: suite) (ts x)) (hr:PH qx X rest tr)
 (hdb:(n == ("__debug__" : Str))=false:=by decide):PH qx X (.ExceptHandler (some (.Name n p)) (some v) (b₀ :: suite) pos :: rest) (tHAs X.K C' i ts tr):=by
 intro pins s σ H x C dx T D I o ⟨bm,c,q⟩
 have Im:=I.mark x
 refine wpAny_handleBy_cons (codeAny_handlers_test (ld_glob Im hg hm ?_ hdb)) (by intro z;cases z)
 refine match_ok c c' I.kIn o.rc ?_
 cases hc:(Value.ref C :: bm).contains (.ref C') with
 | false=>
   rw [hc,if_neg (by decide)] at q
   exact hr pins s σ H x C dx T D I o q
 | true=>
   rw [hc,if_pos rfl] at q
   refine codeAny_handlers_suite_as ?_
   refine set_inv none I o (.inl rfl) fun h1 I1 o1=>?_
   refine store_ok (v:=.ref x) I1 hN hi (.inl hl) rfl (fun s2 I2=>?_) (.inr hl)
   refine wpAny_mono (hb x pins s2 _ H _ (I2.mark x) q) (fun f s3 z=>?_) fun _ _ z=>z.elim
   show wpAny _ _ _ _ _ _
   have J:=I.ok
   cases f with
   | next=>obtain ⟨σ',H',I',q'⟩:=z;exact unset_ok (I'.unmark J) hN hi hl fun s4 I4=>⟨_,H',I4,q'⟩
   | brk=>obtain ⟨σ',H',I',q'⟩:=z;exact unset_ok (I'.unmark J) hN hi hl fun s4 I4=>⟨_,H',I4,q'⟩
   | cont=>obtain ⟨σ',H',I',q'⟩:=z;exact unset_ok (I'.unmark J) hN hi hl fun s4 I4=>⟨_,H',I4,q'⟩
   | ret u=>obtain ⟨w,σ',H',I',r,q'⟩:=z;exact unset_ok (I'.unmark J) hN hi hl fun s4 I4=>⟨w,_,H',I4,r,q'⟩
theorem ps_try {body:List Stmt} {h₀:ExceptHandler} {hs:List ExceptHandler} {tb:(St→XK)→TS} {th:Addr→Addr→Option Addr→TS} (h1:X.stack=X.env :: X.outer) (h2:X.env.frame=some X.env.locals)
 (hb:∀(pn:List (Addr×Obj)) (E:St→XK),PSs { X with pn:=pn,xe:=XE qx { X with pn:=pn } E } body (tb E)) (hh:PH qx X (h₀ :: hs) th) :
 PS X (.Try body (h₀ :: hs) [] [] pos) (fun D σ H=>tb (fun σ' v dx H'=>∀x C,v = .ref x→H' x=some (.ext (F2.XIs qx x C dx))→(∃h,F2.XIs qx x C dx h)→th x C dx D σ' H') D σ H):=by
 intro pins s σ H D I q
 refine wpAny_Try_except ?_
 refine wpAny_mono (hb (X.pn++pins) _ [] s σ H D (I.repin fun p hp=>by simpa using hp) q) (fun f s1 z=>?_) fun e s1 z=>?_
 ·have back:∀{σ':St} {H':Hp},Inv { X with pn:=X.pn++pins,xe:=XE qx { X with pn:=X.pn++pins } (fun σ' v dx H'=>∀x C,v = .ref x→H' x=some (.ext (F2.XIs qx x C dx))→(∃h,F2.XIs qx x C dx h)→th x C dx D σ' H') } [] σ' H' s1→Inv X pins σ' H' s1:=fun J=>J.repin (X:={ X with pn:=X.pn++pins,xe:=_ }) (pn':=X.pn) (pins':=pins) (xe:=X.xe) fun p hp=>by simpa using hp
  cases f with
  | next=>obtain ⟨σ',H',J,q'⟩:=z;exact wpAny_execs_nil ⟨σ',H',back J,q'⟩
  | brk=>obtain ⟨σ',H',J,q'⟩:=z;exact ⟨σ',H',back J,q'⟩
  | cont=>obtain ⟨σ',H',J,q'⟩:=z;exact ⟨σ',H',back J,q'⟩
  | ret u=>obtain ⟨w,σ',H',J,r,q'⟩:=z;exact ⟨w,σ',H',back J,r,q'⟩
 ·obtain ⟨pins',σ',H',x,C,dx,T,fl,rfl,J,o,q'⟩:=z
  have J1:Inv X pins σ' H' s1:=J.repin (X:={ X with pn:=X.pn++pins }) (pn':=X.pn) (pins':=pins) (xe:=X.xe) fun p hp=>by
   simp only [List.mem_append] at hp ⊢;exact .inl hp
  have o1:XOn qx X pins H' s1 x C dx T fl:=⟨o.hx,o.nx,o.rc,fun a e=>by
   obtain ⟨z1,z2,z3,⟨y1,y2,y3⟩,z5⟩:=o.tb a e
   exact ⟨z1,z2,z3,⟨y1,y2,fun p hp=>y3 p (by simp only [List.mem_append] at hp ⊢;exact .inl hp)⟩,z5⟩,o.fo⟩
  refine note_inv J1.ok.frames J1 h1 h2 o1 fun h' a I' o'=>set_inv none I' o' (.inl rfl) fun h'' I'' o''=>?_
  exact hh pins _ σ' H' x C dx a D I'' o'' (q' x C rfl o.hx ⟨_,o.rc.is⟩)
end
end L2
set_option Elab.async false
set_option linter.all false
set_option maxRecDepth 100000
set_option maxHeartbeats 4000000
set_option autoImplicit false
namespace F2
open PySem L2 PySem.Spec
variable {qx:Bool}
def isExc:D→Bool
 | .exc _ _=>true
 | _=>false
def exE (E:XK) (v:V) (H:Hp):Prop:=∀x dx,v = .ref x→E (.ref x) dx H
section
variable (K:PySem.W.Frag)
inductive RX (E:L2.St→XK) (f:M D) (σ:L2.St) (H:Hp) (Q:VK):Prop where
 | mk (Oo:Addr→Prop) (c:Cf) (t:T) (fi:FInv K Oo c t σ H) (r:D) (t':T) (e:f t=some (r,t')) (k:∀v H' c',FInv K Oo c' t' σ H'→Stp Oo c H c' H'→Rep K c' H' v r→if isExc r=true then exE (E σ) v H' else Q v H'):RX E f σ H Q
def μX (E:XK):Cf→Hp→D→(V→Hp→Prop)→Prop:=fun c H r rt=>∀v,Rep K c H v r→if isExc r=true then exE E v H else rt v H
inductive RSX (E:L2.St→XK) (f:M Out) (D:Ends) (σ:L2.St) (H:Hp):Prop where
 | mk (Oo:Addr→Prop) (c:Cf) (t:T) (fi:FInv K Oo c t σ H) (o:Out) (t':T) (e:f t=some (o,t')) (k:∀σ' H' c',FInv K Oo c' t' σ' H'→Stp Oo c H c' H'→
 match (generalizing:=false) o with
 | .next=>D.nx σ' H'
 | .brk=>D.bk σ' H'
 | .cont=>D.ct σ' H'
 | .ret r=>∀v,Rep K c' H' v r→if isExc r=true then exE (E σ') v H' else D.rt v H'):RSX E f D σ H
inductive spX (f:Fn) (vs:List V) (H:Hp) (Q:VK) (E:XK):Prop where
 | mk (c:Cf) (ds:List D) (S:List Ob) (si:SInv K c S H) (rs:Reps K c H vs ds) (r:D) (S':List Ob) (e:f ds S=some (r,S')) (k:∀v H' c',SInv K c' S' H'→Stp c.O c H c' H'→(∀b,c'.O b↔c.O b)→Rep K c' H' v r→if isExc r=true then exE E v H' else Q v H'):spX f vs H Q E
end
def okFn (g:Fn):Fn:=fun ds S=>match g ds S with
 | some (r,S')=>if isExc r=true then none else some (r,S')
 | none=>none
theorem okFn_some {g:Fn} {ds:List D} {S S':List Ob} {r:D} (h:okFn g ds S=some (r,S')):g ds S=some (r,S')∧isExc r=false:=by
 unfold okFn at h
 split at h
 ·next r' S1 e=>
  by_cases hx:isExc r'=true
  ·rw [if_pos hx] at h;cases h
  ·rw [if_neg hx] at h;cases h;exact ⟨e,by simpa using hx⟩
 ·cases h
section
variable {P:Program} {w:World} {K:PySem.W.Frag} {mg:Str→Option Value} {base:Heap}
theorem calmF {k:Nat} {fa:Addr} {fd:FuncData} {ps:List Str} {g:Fn} (F:FnOk P w K mg base (CX1 qx P w) k fa fd ps (spX K g)):FnOk P w K mg base CX0 k fa fd ps (spF K (okFn g)):=
 F.calm fun vs H Q E ⟨c,ds,S,si,rs,r,S',e,kk⟩=>by
  obtain ⟨e1,e2⟩:=okFn_some e
  exact ⟨c,ds,S,si,rs,r,S',e1,fun v H' c' a1 a2 a3 a4=>by rw [if_neg (by rw [e2];decide)];exact kk v H' c' a1 a2 a3 a4⟩
theorem fnX_ok2 {x qual:Str} {st:Stmt} {fa:Addr} {fd:FuncData} {N ps:List Str} {k n m:Nat} {g:M Out} (e1:ps.length=n) (e2:N.length=m) (F:Fun K x qual st fa fd) (S:FnScope N ps (defScope st))
 (hb:∀(cdv:Value) (A:Around) (outer:List Env) (s:Shared) (H:Hp) (E:XK),Room k (A.deeper (PyProof.Rows.envOfC qual (defScope st) s.heap.objs.size fa cdv))→
   PassesS (CX1 qx P w) (cxX qx P w K mg base N qual (defScope st) fa cdv A outer s H E) (fun _=>E)→Raises qx (cxX qx P w K mg base N qual (defScope st) fa cdv A outer s H E) (fun _=>E)→
   PassesOwn (model P w) (cxX qx P w K mg base N qual (defScope st) fa cdv A outer s H E).A (cxX qx P w K mg base N qual (defScope st) fa cdv A outer s H E).env (cxX qx P w K mg base N qual (defScope st) fa cdv A outer s H E).xe→
   PSs (cxX qx P w K mg base N qual (defScope st) fa cdv A outer s H E) (defBody st) (RSg K (μX K E) g)):FnOk P w K mg base (CX1 qx P w) (k + 1) fa fd ps (spX K (fnOf n m g)):=by
 subst e1 e2
 have hlen:∀{ds:List D} {S:List Ob} {z:D×List Ob},fnOf ps.length N.length g ds S=some z→ds.length=ps.length:=fun {ds S z} h=>by
  unfold fnOf at h
  split at h
  ·next h1=>exact h1
  ·cases h
 refine F.okX S (fun vs H Q E h=>?_) (fun cdv A outer s H vs Q E hr h=>?_)
 ·obtain ⟨c,ds,S,si,rs,r,S',e,_⟩:=h
  rw [rs.length];exact hlen e
 obtain ⟨c,ds,S0,si,rs,r,S',e,kk⟩:=h
 refine ⟨RSg K (μX K E) g,hb cdv A outer s H E hr XE.pass XE.raises (XE.own rfl rfl),?_⟩
 have hl:=hlen e
 unfold fnOf at e
 rw [if_pos hl] at e
 cases eg:g ⟨env0 N.length ds,S0⟩ with
 | none=>rw [eg] at e;cases e
 | some p=>
   obtain ⟨o,t⟩:=p
   rw [eg] at e
   refine ⟨c.O,c,_,finv_start si rs,o,t,eg,fun σ' H' c' f' s'=>?_⟩
   obtain ⟨si',ext'⟩:=f'.leave
   have st':Stp c.O c H ⟨c'.ι,c.O⟩ H':=⟨s'.ext.trans ext',s'.oo⟩
   cases o with
   | next=>cases e;exact kk .non H' _ si' st' (fun _=>Iff.rfl) .non
   | ret d=>cases e;exact fun v rv=>kk v H' _ si' st' (fun _=>Iff.rfl) (rv.mono ext')
   | brk=>cases e
   | cont=>cases e
theorem runX_ok {fa:Addr} {fd:FuncData} {ps:List Str} {k:Nat} {f g:Fn} (e:f=g) (h:FnOk P w K mg base (CX1 qx P w) k fa fd ps (spX K g)):FnOk P w K mg base (CX1 qx P w) k fa fd ps (spX K f):=by rw [e];exact h
end
section
variable {X:Cx} {e a b:Expr} {es:List Expr} {pos:Pos} {E:L2.St→XK} {st:Stmt}
theorem rsx_g {E:XK} {f:M Out} (h:PS X st (RSX X.K (fun _=>E) f)):PS X st (RSg X.K (μX X.K E) f):=PS_imp h fun D σ H ⟨Oo,c,t,fi,o,t',eq,k⟩=>⟨Oo,c,t,fi,o,t',eq,fun σ' H' c' f' s'=>by
 have q:=k σ' H' c' f' s'
 cases o <;> exact q⟩
theorem fx_call {k:Nat} {fa:Addr} {fd:FuncData} {ps:List Str} {g:Fn} {f:M (List D)} {x:Str} {p:Pos} (F:FnOk X.prog X.w X.K X.mg X.base (CX1 qx X.prog X.w) k fa fd ps (spX X.K g)) (hr:Room k X.A) (hg:Gl X x) (hm:X.mg x=some (.ref fa)) (hk:PySem.W.keepIn X.K (.ref fa)=true) (hb:Binds X.K fd ps [])
 (hx:PassesS (CX1 qx X.prog X.w) X E) (ha:PA X (e :: es) (RA X.K f)) (hdb:(x == ("__debug__" : Str))=false:=by decide) (h1:isStar e=false:=by rfl) (h2:noStars es=true:=by rfl) :
 PE X (.Call (.Name x p) (e :: es) [] pos) (RX X.K E (fCall g f)):=
 PE_imp (pe_callS F hr hg hm hk hb hx ha hdb (star_ne h1) (stars_false h2).1) fun σ H Q ⟨Oo,c,t,fi,r,t',eq,kk⟩=>by
  obtain ⟨ds,t1,e1,eq⟩:=bnd_some eq
  obtain ⟨S',e2,rfl⟩:=call_some eq
  refine ⟨Oo,c,t,fi,ds,t1,e1,fun vs H1 c1 f1 s1 rvs=>?_⟩
  refine ⟨c1,ds,t1.S,f1.s,rvs,r,S',e2,fun v H' c' si st ho rv=>?_⟩
  obtain ⟨f2,s2⟩:=f1.after si st ho
  exact kk v H' c' f2 (s1.trans s2) rv
def nxD (f:M D):M D:=bnd f fun d=>if isExc d=true then fail else ret d
theorem nxD_some {f:M D} {t t':T} {r:D} (h:nxD f t=some (r,t')):f t=some (r,t')∧isExc r=false:=by
 obtain ⟨d,t1,e1,h⟩:=bnd_some h
 by_cases hx:isExc d=true
 ·rw [if_pos hx] at h;cases h
 ·rw [if_neg hx] at h;cases h;exact ⟨e1,by simpa using hx⟩
theorem if_exc {r:D} {A B:Prop} (h:isExc r=false) (q:if isExc r=true then A else B):B:=by rw [if_neg (by rw [h];decide)] at q;exact q
def bndX (g:M D) (h:D→M D):M D:=bnd g fun y=>if isExc y=true then ret y else nxD (h y)
theorem RX.bind {K:PySem.W.Frag} {g:M D} {h:D→M D} {σ:L2.St} {H:Hp} {Q:VK} {Oo:Addr→Prop} {c:Cf} {t t':T} {r:D} (fi:FInv K Oo c t σ H) (eq:bndX g h t=some (r,t'))
 (k:∀v H' c',FInv K Oo c' t' σ H'→Stp Oo c H c' H'→Rep K c' H' v r→if isExc r=true then exE (E σ) v H' else Q v H') {R:V→Hp→Prop}
 (s:∀y dy t1 H1 c1,FInv K Oo c1 t1 σ H1→Stp Oo c H c1 H1→Rep K c1 H1 y dy→h dy t1=some (r,t')→(∀v H' c',FInv K Oo c' t' σ H'→Stp Oo c1 H1 c' H'→Rep K c' H' v r→Q v H')→R y H1):RX K E g σ H R:=by
 obtain ⟨dy,t1,e1,eq⟩:=bnd_some eq
 refine ⟨Oo,c,t,fi,dy,t1,e1,fun y H1 c1 f1 s1 ry=>?_⟩
 by_cases hx:isExc dy=true
 ·rw [if_pos hx] at eq ⊢
  cases eq
  have:=k y H1 c1 f1 s1 ry
  rw [if_pos hx] at this
  exact this
 ·rw [if_neg hx] at eq ⊢
  obtain ⟨e2,e3⟩:=nxD_some eq
  exact s y dy t1 H1 c1 f1 s1 ry e2 fun v H' c' f' s' rv=>if_exc e3 (k v H' c' f' (s1.trans s') rv)
def fBinX (f g:M D) (h:D→D→M D):M D:=bnd f fun x=>bndX g fun y=>h x y
theorem RX.two {K:PySem.W.Frag} {f g:M D} {h:D→D→M D} {R:R2} (s:Sem2 K R h) {σ:L2.St} {H:Hp} {Q:VK} (q:RX K E (fBinX f g h) σ H Q):tOp R (RE K f) (RX K E g) σ H Q:=by
 obtain ⟨Oo,c,t,fi,r,t',eq,k⟩:=q
 obtain ⟨dx,t1,e1,eq⟩:=bnd_some eq
 refine ⟨Oo,c,t,fi,dx,t1,e1,fun x H1 c1 f1 s1 rx=>?_⟩
 exact RX.bind f1 eq (fun v H' c' f' s' rv=>k v H' c' f' (s1.trans s') rv) fun y dy t2 H2 c2 f2 s2 ry e2 kk=>s f2 (rx.mono s2.ext) ry e2 kk
def fBinY (f g:M D) (h:D→D→M D):M D:=bndX f fun x=>bnd g fun y=>h x y
def fCallY (g:Fn) (f:M D):M D:=bndX f fun d t=>match g [d] t.S with
 | some (r,S')=>some (r,{ t with S:=S' })
 | none=>none
def setX (i:Nat) (f:M D):M Out:=bnd f fun d=>if isExc d=true then ret (.ret d) else bnd (putV i d) fun _=>ret .next
def dropX (f:M D):M Out:=bnd f fun d=>if isExc d=true then ret (.ret d) else ret .next
theorem fs_exprX {f:M D} (h:PE X e (RX X.K E f)) (hs:swapsWith e none pos.line X.env=pure false:=by rfl):PS X (.Expr e pos) (RSX X.K E (dropX f)):=
 PS_imp (ps_expr h hs) fun D σ H ⟨Oo,c,t,fi,o,t',eq,k⟩=>by
  obtain ⟨d,t1,e1,eq⟩:=bnd_some eq
  refine ⟨Oo,c,t,fi,d,t1,e1,fun v H1 c1 f1 s1 rv=>?_⟩
  by_cases hx:isExc d=true
  ·rw [if_pos hx] at eq ⊢
   cases eq
   have:=k σ H1 c1 f1 s1 v rv
   rw [if_pos hx] at this
   exact this
  ·rw [if_neg hx] at eq ⊢
   cases eq
   exact k σ H1 c1 f1 s1
def asgX (f:M D) (g:D→M Unit):M Out:=bnd f fun d=>if isExc d=true then ret (.ret d) else bnd (g d) fun _=>ret .next
theorem fss_oneX {f:M Out} (h:PS X st (RSX X.K E f)):PSs X [st] (RSX X.K E f):=pss_one h
end
end F2
set_option Elab.async false
set_option linter.all false
set_option maxRecDepth 100000
set_option maxHeartbeats 4000000
set_option autoImplicit false
namespace L2
open PySem PySem.Spec PyProof.Rows PySem.W PySem.Builtin PySem.Builtin.ObjectAttr
structure XGet (K:PySem.W.Frag) (C:Addr):Prop where
 ga:findIn K (.ref C) "__getattribute__" = some (some (.builtin "BaseException.__getattribute__"))
 gt:findIn K (.ref C) "__getattr__" = some none
 mb:mroIn K C (.type "BaseException")=some true
 mo:mroIn K C (.type "object")=some true
 hd:hasDictIn K C=true
section
variable {prog:Program} {w:World} {A:Around} {E:Value→Shared→Prop} {s:Shared} {K:PySem.W.Frag} {x C:Addr} {ox:Obj} {od:Option Obj} {name:Str} {tk:Tok} {Q:Value→Shared→Prop} {R:Result→Shared→Prop}
theorem exc_getBy {fill expr:Bool} (X:K.In s.heap) (I:InstAt s.heap x ox C od) (g:XGet K C)
 (h:codeAny (model prog w) A (.call (.builtin "BaseException.__getattribute__") ⟨[.ref x,.str name tk],[]⟩) (fun r s'=>match r with | .ok (.ret v)=>wpAny (model prog w) A (handedOut v) Q E s' | _=>False) s) :
 wpAny (model prog w) A (getAttrBy (.ref x) (.str name tk) fill expr) Q E s:=by
 have L0:=I.type (M:=model prog w)
 have L1:=looks_findIn (M:=model prog w) X g.ga
 have L2:=looks_findIn (M:=model prog w) X g.gt
 have ne:(onTheHeap (Value.ref C) && Value.builtin "BaseException.__getattribute__" == Value.builtin "object.__getattribute__")=false:=by
  rw [show (Value.builtin "BaseException.__getattribute__" == Value.builtin "object.__getattribute__")=false from by decide +kernel];rfl
 unfold getAttrBy
 refine wpAny_holding (wpAny_bind (L0.here (wpAny_bind (L1.here ?_))))
 show wpAny _ _ (if (onTheHeap (Value.ref C) && Value.builtin "BaseException.__getattribute__" == Value.builtin "object.__getattribute__")=true then _ else _) _ _ _
 rw [if_neg (by rw [ne];decide)]
 unfold getAttrByItsOwn hookBefore
 rw [if_pos (show onTheHeap (Value.ref C)=true from rfl)]
 refine wpAny_bind (L2.here (wpAny_bind (wpAny_attempt (wpAny_holding ?_))))
 unfold callGetattribute
 rw [if_neg (show ¬((expr && onTheHeap (Value.builtin "BaseException.__getattribute__"))=true) from by cases expr <;> decide)]
 unfold boundAndCalled
 refine wpAny_bind (wpAny_of_eq (PySem.F.excAttr_ValueError.ga.bind _) (wpAny_call (codeAny_mono h fun r s' z=>?_)))
 cases r with
 | error e=>exact z.elim
 | ok f=>cases f <;> first | exact z | exact z.elim
theorem ga_check (X:K.In s.heap) (I:InstAt s.heap x ox C od) (g:XGet K C)
 (h:wpAny (model prog w) A.in1 («object.__getattribute__» ⟨[.ref x,.str name tk],[]⟩) (fun fin s'=>match fin with | .done f=>R (.ok f) s' | .again c'=>c'.quiet=true∧codeAny (model prog w) A c' R s') (fun e s'=>R (.error e) s') s) :
 codeAny (model prog w) A (.call (.builtin "BaseException.__getattribute__") ⟨[.ref x,.str name tk],[]⟩) R s:=by
 have ob:Looks (model prog w) s.heap (isInstance (.ref x) (.type "BaseException")) true:=I.type.andThen (looks_mroIn X g.mb)
 refine codeAny_call_builtin PySem.F.excAttr_ValueError.ga.plain PySem.F.entry_bexc_ga (@check_slot (model prog w) _ _ s "BaseException.__getattribute__" "BaseException" "__getattribute__" (.ref x) [.str name tk] [] _ (by decide +kernel) (by decide +kernel) ob (PySem.F.args_bexc_ga (.ref x) (.str name tk)) h)
theorem ga_bind {gg a:Value} (X:K.In s.heap) (I:InstAt s.heap x ox C od) (g:XGet K C) (hf:findObj K C od name=some (.bind gg a)) (h:codeAny (model prog w) A.in1 (.call gg ⟨[a,.ref x,.ref C],[]⟩) (fun r s'=>match r with | .ok (.ret v)=>R (.ok (.ret v)) s' | .ok _=>False | .error e=>R (.error e) s') s) :
 codeAny (model prog w) A (.call (.builtin "BaseException.__getattribute__") ⟨[.ref x,.str name tk],[]⟩) R s:=by
 refine ga_check X I g ?_
 have L0:=I.type (M:=model prog w)
 have L1:=looks_find (M:=model prog w) X I hf
 refine wpAny_bind (wpAny_pure (wpAny_bind (wpAny_pure (wpAny_bind (L0.here (wpAny_bind (L1.here ?_)))))))
 show wpAny _ _ (bindTo gg a (.ref x) (.ref C)) _ _ _
 unfold bindTo
 refine wpAny_bind (wpAny_holding (wpAny_call (codeAny_mono h fun r s' z=>?_)))
 cases r with
 | error e=>exact z
 | ok f=>cases f <;> first | exact wpAny_pure z | exact z.elim
end
end L2
set_option Elab.async false
set_option linter.all false
set_option maxRecDepth 100000
set_option maxHeartbeats 4000000
set_option autoImplicit false
namespace L2
open PySem PySem.Spec PyProof.Rows PySem.W
theorem cls_get (K:PySem.W.Frag):specialIn K (.builtin "object.__class__") "__get__" = some (some (.builtin "getset_descriptor.__get__")):=by kernel_rfl
theorem cls_takes (K:PySem.W.Frag):takesIn K (.builtin "object.__class__")=some true:=by kernel_rfl
theorem findObj_cls' {K:PySem.W.Frag} {C:Addr} {od:Option Obj} (hc:(clsIn K C).isSome=true) (ha:findIn K (.ref C) "__class__" = some (some (.builtin "object.__class__"))):findObj K C od "__class__" = some (.bind (.builtin "getset_descriptor.__get__") (.builtin "object.__class__")):=by
 obtain ⟨cd,hc⟩:=Option.isSome_iff_exists.mp hc
 unfold findObj
 rw [hc,Option.bind_some,ha,Option.bind_some]
 simp [cls_get,cls_takes]
def XInst (x C:Addr) (h:Heap):Prop:=∃ox od,InstAt h x ox C od
theorem kitx_exc {K:PySem.W.Frag} {x C:Addr} (g:XGet K C) (ha:findIn K (.ref C) "__class__" = some (some (.builtin "object.__class__"))):KitX K (.ref x) (.ref C) (XInst x C) where
 ty:=fun _ _ _ ⟨_,_,I⟩=>I.type
 it:=fun _ _ X _=>by
  obtain ⟨cd,hc,_⟩:=any_some g.hd
  unfold clsIn at hc
  split at hc
  ·next ho=>
   intro A' Q' E' s' k q
   unfold isType loadHead
   exact wpAny_bind (wpAny_loadPart (k _ _ (X _ _ ho)) (wpAny_pure q))
  ·cases hc
 ne:=fun h tp dd its n sl X htp=>by
  obtain ⟨cd,hc,_⟩:=any_some g.hd
  refine Bool.eq_false_iff.mpr fun q=>?_
  have e:C=tp:=Value.ref.inj (beq_iff_eq.mp q)
  subst e
  unfold clsIn at hc
  split at hc
  ·next ho=>
   have z:=(X _ _ ho).symm.trans htp
   cases z
  ·cases hc
 ca:=fun {prog w A E Q s} X ⟨ox,od,I⟩ k=>by
  obtain ⟨cd,hc,_⟩:=any_some g.hd
  unfold getAttr? getAttrBy?
  refine wpAny_bind (wpAny_mkText (wpAny_bind (wpAny_attempt ?_)))
  refine exc_getBy (s:={ s with toks:=s.toks + 1 }) X I g (ga_bind X I g (findObj_cls' (by rw [hc];rfl) ha) (class_get (s:={ s with toks:=s.toks + 1 }) X I g.mo ?_))
  exact handed_on rfl (wpAny_pure k)
end L2
set_option Elab.async false
set_option linter.all false
set_option maxRecDepth 100000
set_option maxHeartbeats 4000000
set_option autoImplicit false
namespace F2
open PySem L2 PySem.Spec PySem.W
variable {qx:Bool}
abbrev errN:List Str:=["NoValue", "Short", "Broken", "NoTalk", "NoName", "NoText", "NoRow"]
structure XM (K:PySem.W.Frag) (mg:Str→Option Value) (P:Addr) (ca:Str→Addr):Prop where
 pm:mg "ParleyError" = some (.ref P)
 pc:XCl K P VE
 ns:∀n∈errN,nsIn K mainGlobals n=some (some (.ref (ca n)))
 ms:∀n∈errN,mg n=some (.ref (ca n))
 cl:∀n∈errN,XCl K (ca n) (.ref P :: VE)
 inj:∀n∈errN,∀m∈errN,ca n=ca m→n=m
 np:∀n∈errN,ca n≠P
 kp:∀n∈errN,keepIn K (.ref (ca n))=true
 gt:∀n∈errN,XGet K (ca n)
 gc:∀n∈errN,findIn K (.ref (ca n)) "__class__" = some (some (.builtin "object.__class__"))
 na:∀n∈errN,findIn K (.ref (ca n)) "at" = some none
 nd:∀n∈errN,findIn K (.ref (ca n)) "side" = some none
def subX (n m:Str):Bool:=m == "ParleyError" || m == "ValueError" || n == m
theorem contains_ref {a b:Addr} {r:List Value}:(Value.ref a :: r).contains (.ref b)=(a == b || r.contains (.ref b)):=by
 rw [List.contains_cons]
 congr 1
 by_cases h:a=b
 ·subst h;simp
 ·rw [beq_eq_false_iff_ne.mpr h,beq_eq_false_iff_ne.mpr (fun z:Value.ref b=Value.ref a=>h (Value.ref.inj z).symm)]
theorem VE_ref {b:Addr}:VE.contains (.ref b)=false:=rfl
section
variable {K:PySem.W.Frag} {mg:Str→Option Value} {P:Addr} {ca:Str→Addr}
theorem XM.subP (x:XM K mg P ca) {n:Str} (hn:n∈errN):(Value.ref (ca n) :: .ref P :: VE).contains (.ref P)=subX n "ParleyError":=by
 rw [contains_ref,contains_ref,beq_self_eq_true,Bool.true_or,Bool.or_true];rfl
theorem XM.subE (x:XM K mg P ca) {n m:Str} (hn:n∈errN) (hm:m∈errN):(Value.ref (ca n) :: .ref P :: VE).contains (.ref (ca m))=subX n m:=by
 rw [contains_ref,contains_ref,VE_ref,beq_eq_false_iff_ne.mpr (Ne.symm (x.np m hm)),Bool.or_false,Bool.or_false]
 have h1:(m == ("ParleyError" : Str))=false∧(m == ("ValueError" : Str))=false:=by
  simp only [errN,List.mem_cons,List.not_mem_nil,or_false] at hm
  rcases hm with rfl | rfl | rfl | rfl | rfl | rfl | rfl <;> exact ⟨by decide,by decide⟩
 unfold subX
 rw [h1.1,h1.2,Bool.false_or,Bool.false_or]
 by_cases h:n=m
 ·subst h;rw [beq_self_eq_true,beq_self_eq_true]
 ·rw [beq_eq_false_iff_ne.mpr h,beq_eq_false_iff_ne.mpr fun z=>h (x.inj n hn m hm z)]
theorem XM.of (x:XM K mg P ca) {n:Str} {C:Addr} (hn:n∈errN) (h:nsIn K mainGlobals n=some (some (.ref C))):C=ca n:=by
 rw [x.ns n hn] at h
 injection h with h;injection h with h;injection h with h
 exact h.symm
end
theorem xis_inj {q1 q2:Bool} {x C C':Addr} {dx dx':Option Addr} (h:XIs q1 x C dx=XIs q2 x C' dx') (e:∃h,XIs q1 x C dx h):C=C'∧dx=dx':=by
 obtain ⟨hh,o,vs,e1,e2,e3,e4⟩:=e
 have q:XIs q2 x C' dx' hh:=by rw [←h];exact ⟨o,vs,e1,e2,e3,e4⟩
 obtain ⟨o',vs',q1,q2,q3,q4⟩:=q
 rw [e1] at q1;cases q1
 rw [e2] at q2;cases q2
 exact ⟨rfl,e3.symm.trans q3⟩
section
variable {X:Cx} {e:Expr} {es:List Expr} {pos p pos2:Pos} {E:L2.St→XK} {P:Addr} {ca:Str→Addr}
def raise1 (n:Str) (f:M (List D)):M Out:=bnd f fun ds=>match ds with
 | [d]=>ret (.ret (.exc n [d]))
 | _=>fail
def XN0 (K:PySem.W.Frag) (C:Addr):Prop:=∃cd,clsIn K C=some cd∧nsIn K cd.ns "__init__" = some none
def raise0 (n:Str) (f:M (List D)):M Out:=bnd f fun ds=>if ds.length≤1000 then ret (.ret (.exc n [])) else fail
theorem fs_raise0 {n:Str} {f:M (List D)} (x:XM X.K X.mg P ca) (hn:n∈errN) (hf:flds n=[]) (xn:XN0 X.K (ca n)) (hc:X.calm=true) (hx:Raises qx X E) (hg:Gl X n) (ha:PA X (e :: es) (RA X.K f))
 (hdb:(n == ("__debug__" : Str))=false:=by decide) (h1:isStar e=false:=by rfl) (h2:noStars es=true:=by rfl):PS X (.Raise (some (.Call (.Name n p) (e :: es) [] pos)) none pos2) (RSX X.K E (raise0 n f)):=by
 obtain ⟨cd,hcd,hni⟩:=xn
 refine PS_imp (ps_raise hc (x.cl n hn) hx (pm_none (x.cl n hn) (x.kp n hn) hcd hni hg (x.ms _ hn) ha hdb (star_ne h1) (stars_false h2).1)) fun D σ H ⟨Oo,c,t,fi,o,t',eq,k⟩=>?_
 obtain ⟨ds,t1,e1,eq⟩:=bnd_some eq
 refine ⟨Oo,c,t,fi,ds,t1,e1,fun vs H1 c1 f1 s1 rvs=>?_⟩
 split at eq
 ·next hl=>
  cases eq
  refine ⟨by rw [rvs.length];exact hl,fun y hy=>?_⟩
  have f3:=f1.laid (o:=.ext (XIs qx y (ca n) none)) hy
  exact k σ _ c1 f3 (s1.trans (f1.stp_laid hy)) (.ref y) (.exc (x.ns _ hn) upd_same (f1.s.free hy) (vs:=[]) rfl .nil) y none rfl
 ·cases eq
end
section
variable {X:Cx} {pos p:Pos} {P:Addr} {ca:Str→Addr} {μ:Cf→Hp→D→(V→Hp→Prop)→Prop}
inductive RH (K:PySem.W.Frag) (ca:Str→Addr) (μ:Cf→Hp→D→(V→Hp→Prop)→Prop) (h:D→M Out) (x C:Addr) (dx:Option Addr) (E:Ends) (σ:L2.St) (H:Hp):Prop where
 | mk (Oo:Addr→Prop) (c:Cf) (t:T) (n:Str) (ds:List D) (fi:FInv K Oo c t σ H) (hn:n∈errN) (hC:C=ca n) (rp:Rep K c H (.ref x) (.exc n ds)) (o:Out) (t':T) (e:h (.exc n ds) t=some (o,t')) (k:∀σ' H' c',FInv K Oo c' t' σ' H'→Stp Oo c H c' H'→
   match (generalizing:=false) o with
   | .next=>E.nx σ' H'
   | .brk=>E.bk σ' H'
   | .cont=>E.ct σ' H'
   | .ret r=>μ c' H' r E.rt):RH K ca μ h x C dx E σ H
def unE (i:Nat) (t:T):T:={ t with env:=t.env.set i none }
theorem FInv.unset {K:PySem.W.Frag} {Oo:Addr→Prop} {c:Cf} {t:T} {σ:L2.St} {H:Hp} (f:FInv K Oo c t σ H) (i:Nat):FInv K Oo c (unE i t) (σ.set i none) H:=by
 have neq:∀{j:Nat} {x:Sl},(t.env.set i none)[j]?=some (some x)→j≠i∧t.env[j]?=some (some x):=fun {j x} q=>by
  by_cases h:j=i
  ·subst h
   rw [List.getElem?_set] at q
   split at q
   ·split at q
    ·injection q with q;cases q
    ·cases q
   ·next h1=>exact absurd rfl h1
  ·rw [List.getElem?_set_ne (Ne.symm h)] at q
   exact ⟨h,q⟩
 refine ⟨f.s,by simp [unE,f.len],f.sub,fun j e q=>?_,fun j ds q=>?_,fun j k ds es a q1 q2 q3 q4=>?_⟩
 ·obtain ⟨h,q⟩:=neq q
  obtain ⟨u,h1,h2⟩:=f.val j e q
  exact ⟨u,by rw [List.getElem?_set_ne (Ne.symm h)];exact h1,h2⟩
 ·obtain ⟨h,q⟩:=neq q
  obtain ⟨a,vs,h1,h2⟩:=f.own j ds q
  exact ⟨a,vs,by rw [List.getElem?_set_ne (Ne.symm h)];exact h1,h2⟩
 ·obtain ⟨h,q1⟩:=neq q1
  obtain ⟨h',q2⟩:=neq q2
  rw [List.getElem?_set_ne (Ne.symm h)] at q3
  rw [List.getElem?_set_ne (Ne.symm h')] at q4
  exact f.inj j k ds es a q1 q2 q3 q4
def hAs (n':Str) (i:Nat) (s:M Out) (r:D→M Out):D→M Out:=fun e t=>match e with
 | .exc n ds=>if subX n n'=true then (match s { t with env:=t.env.set i (some (.val (.exc n ds))) } with
   | some (o,t2)=>some (o,unE i t2)
   | none=>none) else r (.exc n ds) t
 | _=>none
def hNo (n':Str) (s:M Out) (r:D→M Out):D→M Out:=fun e t=>match e with
 | .exc n ds=>if subX n n'=true then s t else r (.exc n ds) t
 | _=>none
def hNil:D→M Out:=fun _ _=>none
theorem fh_nil:PH qx X [] (RH X.K ca μ hNil):=fun _ _ _ _ _ _ _ _ _ _ _ ⟨_,_,_,_,_,_,_,_,_,_,_,e,_⟩=>by cases e
theorem fh_as {n' v:Str} {C':Addr} {bm':List Value} {i:Nat} {b₀:Stmt} {suite:List Stmt} {rest:List ExceptHandler} {s:M Out} {r:D→M Out} (x:XM X.K X.mg P ca) (hg:Gl X n') (hm:X.mg n'=some (.ref C')) (c':XCl X.K C' bm') (hs:∀n∈errN,(Value.ref (ca n) :: .ref P :: VE).contains (.ref C')=subX n n')
 (hN:X.N.Nodup) (hi:X.N[i]?=some v) (hl:X.env.scope.names.lookup v=some .local) (hb:∀x,PSs (X.mark x) (b₀ :: suite) (RSg X.K μ s)) (hr:PH qx X rest (RH X.K ca μ r)) (hdb:(n' == ("__debug__" : Str))=false:=by decide) :
 PH qx X (.ExceptHandler (some (.Name n' p)) (some v) (b₀ :: suite) pos :: rest) (RH X.K ca μ (hAs n' i s r)):=by
 intro pins s0 σ H y C dx T D I o q
 refine ph_as hg hm c' hN hi hl hb hr hdb pins s0 σ H y C dx T D I o ?_
 obtain ⟨Oo,c,t,n,ds,fi,hn,rfl,rv,o1,t',eq,k⟩:=q
 refine ⟨_,x.cl n hn,?_⟩
 rw [hs n hn]
 unfold hAs at eq
 dsimp only at eq
 by_cases hb':subX n n'=true
 ·rw [if_pos hb'] at eq ⊢
  cases e1:s { t with env:=t.env.set i (some (.val (.exc n ds))) } with
  | none=>rw [e1] at eq;cases eq
  | some z=>
    obtain ⟨o2,t2⟩:=z
    rw [e1] at eq
    cases eq
    refine ⟨Oo,c,_,fi.set rv,o1,t2,e1,fun σ' H' c2 f2 s2=>?_⟩
    have:=k _ H' c2 (f2.unset i) s2
    cases o1 <;> exact this
 ·rw [if_neg hb'] at eq ⊢
  exact ⟨Oo,c,t,n,ds,fi,hn,rfl,rv,o1,t',eq,k⟩
def tryS (b:M Out) (h:D→M Out):M Out:=fun t=>match b t with
 | some (.ret (.exc n ds),t1)=>if n∈errN then h (.exc n ds) t1 else none
 | z=>z
theorem fs_try {body:List Stmt} {h₀:ExceptHandler} {hs:List ExceptHandler} {b:M Out} {h:D→M Out} (x:XM X.K X.mg P ca) (hμ:∀c H r rt,isExc r=false→(∀v,Rep X.K c H v r→rt v H)=μ c H r rt) (h1:X.stack=X.env :: X.outer) (h2:X.env.frame=some X.env.locals)
 (hb:∀(pn:List (Addr×Obj)) (E:L2.St→XK),PassesS (CX1 qx X.prog X.w) { X with pn:=pn,xe:=XE qx { X with pn:=pn } E } E→PSs { X with pn:=pn,xe:=XE qx { X with pn:=pn } E } body (RSX X.K E b)) (hh:PH qx X (h₀ :: hs) (RH X.K ca μ h)):PS X (.Try body (h₀ :: hs) [] [] pos) (RSg X.K μ (tryS b h)):=
 PS_imp (ps_try h1 h2 (fun pn E=>hb pn E (XE.pass (X:={ X with pn:=pn }))) hh) fun D σ H ⟨Oo,c,t,fi,o,t',eq,k⟩=>by
  unfold tryS at eq
  cases e1:b t with
  | none=>rw [e1] at eq;cases eq
  | some z=>
    obtain ⟨o1,t1⟩:=z
    rw [e1] at eq
    refine ⟨Oo,c,t,fi,o1,t1,e1,fun σ1 H1 c1 f1 s1=>?_⟩
    cases o1 with
    | next=>cases eq;exact k σ1 H1 c1 f1 s1
    | brk=>cases eq;exact k σ1 H1 c1 f1 s1
    | cont=>cases eq;exact k σ1 H1 c1 f1 s1
    | ret r=>
      intro v rv
      cases hx:isExc r with
      | false=>
        rw [if_neg (by decide)]
        have eq':some (Out.ret r,t1)=some (o,t'):=by cases r <;> first | exact eq | cases hx
        cases eq'
        have q:=k σ1 H1 c1 f1 s1
        have q:μ c1 H1 r D.rt:=q
        rw [←hμ _ _ _ _ hx] at q
        exact q v rv
      | true=>
        rw [if_pos rfl]
        intro y dx hv y' C hy' hC hex
        cases rv with
        | @exc q0 x0 C0 dx0 n vs ds g hx0 hA fl rs=>
          cases hv
          cases hy'
          dsimp only at eq
          split at eq
          ·next hn=>
           rw [hx0] at hC
           injection hC with hC;injection hC with hC
           obtain ⟨e2,e3⟩:=xis_inj hC.symm hex
           have:=x.of hn g
           exact ⟨Oo,c1,t1,n,ds,f1,hn,e2.trans this,.exc g hx0 hA fl rs,o,t',eq,fun σ' H' c' f' s'=>k σ' H' c' f' (s1.trans s')⟩
          ·cases eq
        | _=>cases hx
end
end F2
set_option Elab.async false
set_option linter.all false
set_option maxRecDepth 100000
set_option maxHeartbeats 4000000
set_option autoImplicit false
namespace F2
open PySem L2 PySem.Spec PySem.W
variable {qx:Bool}
def isiX (n:Str):D→M D
 | .exc m _=>if m∈errN then ret (.bl (subX m n)) else fail
 | .non=>ret (.bl false)
 | .bl _=>ret (.bl false)
 | .int _=>ret (.bl false)
 | .str _=>ret (.bl false)
 | .lst _=>ret (.bl false)
 | .tup _=>ret (.bl false)
 | .dic=>ret (.bl false)
 | _=>fail
def rIsiX (K:PySem.W.Frag) (c:Value):List V→Hp→VK→Prop:=fun xs H Q=>∃x y t b,xs=[x,y]∧(∀u,RelV y u→u=c)∧
 (TyOf K H x t∨∃q0 a C dx,x = .ref a∧t = .ref C∧H a=some (.ext (XIs q0 a C dx))∧(∀d,dx=some d→∃fs,H d=some (.xd fs))∧XGet K C∧findIn K (.ref C) "__class__" = some (some (.builtin "object.__class__")))∧kitOne K t c=some b∧Q (.bl b) H
theorem xinst {X:Cx} {pins:List (Addr×Obj)} {σ:L2.St} {H:Hp} {s:Shared} {a C:Addr} {dx:Option Addr} (I:Inv X pins σ H s) (h:H a=some (.ext (XIs qx a C dx))) (hd:∀d,dx=some d→∃fs,H d=some (.xd fs)):XInst a C s.heap:=by
 obtain ⟨o,vs,e1,e2,e3,e4,_⟩:=(I.hok a _ h).1
 have nc:notCls o=true:=by unfold notCls;rw [e4]
 cases dx with
 | none=>exact ⟨o,none,e1,e2,nc,by rw [e3];trivial⟩
 | some d=>
   obtain ⟨fs,hf⟩:=hd d rfl
   obtain ⟨mA,n,_⟩:=(show ObjOk X.prog X.w H s.heap d (.xd fs) from I.hok d _ hf)
   obtain ⟨od,ho,_⟩:=lookIn_ns n
   exact ⟨o,some od,e1,e2,nc,by rw [e3];exact ho⟩
theorem call_isiX {X:Cx} {c:Value}:CallR X (.builtin "isinstance") (rIsiX X.K c):=by
 intro pins s σ H xs us Q I r h
 obtain ⟨x,y,t,b,rfl,hy,ty,e,q⟩:=h
 obtain ⟨u,w',rfl,rx,rt⟩:=vals2 r
 cases hy _ rt
 rcases ty with ty | ⟨q0,a,C,dx,rfl,rfl,ha,hd,g,gc⟩
 ·exact wpAny_with_toks (Nat.le_refl s.toks) (isinst_ok I rx ty e fun tk ht=>⟨.bl b,H,I.tok tk,rfl,q⟩)
 ·cases (show u=Value.ref a from rx)
  exact wpAny_with_toks (Nat.le_refl s.toks) (kia_one (kitx_exc g gc) I.kIn (xinst I ha hd) e (fun z=>nomatch z) fun tk ht=>⟨.bl b,H,I.tok tk,rfl,q⟩)
theorem kit_ty {K:PySem.W.Frag} {d:D} {T:String} {C':Addr} {bm':List Value} (h:tyD d=some T) (c':XCl K C' bm'):kitOne K (.type T) (.ref C')=some false:=by
 obtain ⟨cd,dd,k0,k1,k2,k3,k5,h1,h2,h3,h4,h5⟩:=c'.ex
 have e1:clsIn K C'=some cd:=by unfold clsIn;rw [h1]
 have e2:typeIn K (.ref C')=some (.type "type"):=by
  show (K.lookup C').map _=_
  rw [h1];rfl
 have z:((clsIn K C').isSome && typeIn K (.ref C') == some (.type "type"))=true:=by rw [e1,e2,Option.isSome_some,Bool.true_and];decide
 have hT:T = "NoneType"∨T = "bool"∨T = "int"∨T = "str"∨T = "list"∨T = "tuple"∨T = "dict":=by
  cases d <;> simp [tyD] at h <;> simp [←h]
 unfold kitOne kitCls
 rw [if_neg (by intro q;cases beq_iff_eq.mp q)]
 dsimp only
 rw [if_pos z]
 rcases hT with rfl | rfl | rfl | rfl | rfl | rfl | rfl <;> rfl
theorem kit_tyV {K:PySem.W.Frag} {d:D} {T:String} (h:tyD d=some T):kitOne K (.type T) (.type "ValueError")=some false:=by
 have hT:T = "NoneType"∨T = "bool"∨T = "int"∨T = "str"∨T = "list"∨T = "tuple"∨T = "dict":=by
  cases d <;> simp [tyD] at h <;> simp [←h]
 rcases hT with rfl | rfl | rfl | rfl | rfl | rfl | rfl <;> rfl
theorem sub_of {K:PySem.W.Frag} {C:Addr} {bm:List Value} (c:XCl K C bm) (v:Value):subIn K (.ref C) v=some ((Value.ref C :: bm).contains v):=by
 obtain ⟨cd,h1,h2,_⟩:=c.cls
 show mroIn K C v=_
 unfold mroIn
 rw [h1,Option.bind_some,h2];rfl
theorem kit_own {K:PySem.W.Frag} {C C':Addr} {bm bm':List Value} (c:XCl K C bm) (c':XCl K C' bm'):kitOne K (.ref C) (.ref C')=some ((Value.ref C :: bm).contains (.ref C')):=by
 obtain ⟨cd,dd,k0,k1,k2,k3,k5,h1,h2,h3,h4,h5⟩:=c'.ex
 have e1:clsIn K C'=some cd:=by unfold clsIn;rw [h1]
 have e2:typeIn K (.ref C')=some (.type "type"):=by
  show (K.lookup C').map _=_
  rw [h1];rfl
 have z:((clsIn K C').isSome && typeIn K (.ref C') == some (.type "type"))=true:=by rw [e1,e2,Option.isSome_some,Bool.true_and];decide
 unfold kitOne kitCls
 by_cases h:C=C'
 ·subst h;rw [if_pos (by simp)];simp
 ·rw [if_neg (fun q=>h (Value.ref.inj (beq_iff_eq.mp q)))]
  dsimp only
  rw [if_pos z]
  exact sub_of c _
theorem kit_V {K:PySem.W.Frag} {C P:Addr} (c:XCl K C (.ref P :: VE)):kitOne K (.ref C) (.type "ValueError")=some true:=by
 unfold kitOne kitCls
 rw [if_neg (by intro q;cases beq_iff_eq.mp q)]
 dsimp only
 rw [if_pos (by decide +kernel),sub_of c]
 rw [List.contains_cons,List.contains_cons,show VE.contains (.type "ValueError")=true from by decide +kernel,Bool.or_true,Bool.or_true]
section
variable {X:Cx} {P:Addr} {ca:Str→Addr} {a:Expr} {f:M D} {p pos q:Pos}
theorem isiX_go {n:Str} {c:Value} {y:V} (x:XM X.K X.mg P ca) (hy:∀u,RelV y u→u=c) (k1:∀d T,tyD d=some T→kitOne X.K (.type T) c=some false) (k2:∀m∈errN,kitOne X.K (.ref (ca m)) c=some (subX m n)) {σ:L2.St} {H:Hp} {Q:VK} (h:RE X.K (bnd f (isiX n)) σ H Q) :
 tCB (rIsiX X.K c) (tCons (RE X.K f) (tCons (tC y) tNil)) σ H Q:=by
 obtain ⟨Oo,c0,t,fi,r,t',eq,k⟩:=h
 obtain ⟨d,t1,e1,eq⟩:=bnd_some eq
 refine ⟨Oo,c0,t,fi,d,t1,e1,fun v H1 c1 f1 s1 rv=>?_⟩
 show rIsiX X.K c [v,y] H1 Q
 cases rv with
 | @exc q0 x0 C0 dx0 m vs ds g hx0 hA fl rs=>
   unfold isiX at eq
   dsimp only at eq
   split at eq
   ·next hm=>
    cases eq
    have hc:=x.of hm g
    subst hc
    refine ⟨_,_,_,_,rfl,hy,.inr ⟨_,x0,ca m,dx0,rfl,rfl,hx0,fun d hd=>?_,x.gt m hm,x.gc m hm⟩,k2 m hm,k _ H1 c1 f1 s1 (.bl _)⟩
    subst hd
    exact ⟨_,fl.1⟩
   ·cases eq
 | non=>cases eq;exact ⟨_,_,_,_,rfl,hy,.inl .non,k1 .non _ rfl,k _ H1 c1 f1 s1 (.bl _)⟩
 | bl b=>cases eq;exact ⟨_,_,_,_,rfl,hy,.inl (.bl _),k1 (.bl b) _ rfl,k _ H1 c1 f1 s1 (.bl _)⟩
 | int i=>cases eq;exact ⟨_,_,_,_,rfl,hy,.inl (.int _),k1 (.int i) _ rfl,k _ H1 c1 f1 s1 (.bl _)⟩
 | str i=>cases eq;exact ⟨_,_,_,_,rfl,hy,.inl (.str _),k1 (.str i) _ rfl,k _ H1 c1 f1 s1 (.bl _)⟩
 | lst h1 h2 h3=>cases eq;exact ⟨_,_,_,_,rfl,hy,.inl (.lst h1),k1 (.lst []) _ rfl,k _ H1 c1 f1 s1 (.bl _)⟩
 | tup h1 h2 h3=>cases eq;exact ⟨_,_,_,_,rfl,hy,.inl (.tup h1),k1 (.tup []) _ rfl,k _ H1 c1 f1 s1 (.bl _)⟩
 | dic h1 h2=>cases eq;exact ⟨_,_,_,_,rfl,hy,.inl (.dK h1),k1 .dic _ rfl,k _ H1 c1 f1 s1 (.bl _)⟩
 | _=>cases eq
theorem fe_isiX {n:Str} (x:XM X.K X.mg P ca) (hn:n∈errN) (hg:Gl X "isinstance") (hm:X.mg "isinstance" = none) (hv:bootBuiltins "isinstance" = some (.builtin "isinstance")) (hgn:Gl X n) (ha:PE X a (RE X.K f)) (hdb:(n == ("__debug__" : Str))=false:=by decide) (h1:isStar a=false:=by rfl) :
 PE X (.Call (.Name "isinstance" p) [a,.Name n q] [] pos) (RE X.K (bnd f (isiX n))):=
 PE_imp (pe_callB call_isiX hg hm hv (pa_cons ha (pa_cons (pe_glob hgn (x.ms n hn) (v:=.ref (ca n)) rfl hdb) pa_nil (star_ne (e:=.Name n q) rfl)) (star_ne h1)) (by decide) (by decide) (star_ne h1) (stars_false (es:=[.Name n q]) rfl).1)
  fun σ H Q h=>isiX_go (n:=n) (c:=.ref (ca n)) (y:=.ref (ca n)) x (fun u r=>r) (fun d T e=>kit_ty e (x.cl n hn)) (fun m hm=>by rw [kit_own (x.cl m hm) (x.cl n hn),x.subE hm hn]) h
theorem fe_isiV (x:XM X.K X.mg P ca) (hg:Gl X "isinstance") (hm:X.mg "isinstance" = none) (hv:bootBuiltins "isinstance" = some (.builtin "isinstance")) (hgn:Gl X "ValueError") (hmn:X.mg "ValueError" = none) (hvn:bootBuiltins "ValueError" = some (.type "ValueError")) (ha:PE X a (RE X.K f)) (h1:isStar a=false:=by rfl) :
 PE X (.Call (.Name "isinstance" p) [a,.Name "ValueError" q] [] pos) (RE X.K (bnd f (isiX "ValueError"))):=
 PE_imp (pe_callB call_isiX hg hm hv (pa_cons ha (pa_cons (pe_bltn hgn hmn hvn (v:=.ty "ValueError") rfl (by decide) (by decide)) pa_nil (star_ne (e:=.Name "ValueError" q) rfl)) (star_ne h1)) (by decide) (by decide) (star_ne h1) (stars_false (es:=[.Name "ValueError" q]) rfl).1)
  fun σ H Q h=>isiX_go (n:="ValueError") (c:=.type "ValueError") (y:=.ty "ValueError") x (fun u r=>r) (fun d T e=>kit_tyV e) (fun m hm=>by rw [kit_V (x.cl m hm)];rfl) h
def attX (nm:Str):D→M D
 | .exc n ds=>if n∈errN then (match ((flds n).zip ds).lookup nm with
   | some d=>ret d
   | none=>fail) else fail
 | _=>fail
theorem bt_ValueError:bootBuiltins "ValueError" = some (.type "ValueError"):=by decide +kernel
end
end F2
set_option Elab.async false
set_option linter.all false
set_option maxRecDepth 100000
set_option maxHeartbeats 4000000
set_option autoImplicit false
namespace F2
open PySem L2 PySem.Spec PySem.W
variable {qx:Bool}
def xmOne (K:PySem.W.Frag) (P c:Addr):Bool:=xclIn K c (.ref P :: VE) && keepIn K (.ref c) && findIn K (.ref c) "__getattribute__" == some (some (.builtin "BaseException.__getattribute__")) && findIn K (.ref c) "__getattr__" == some none && mroIn K c (.type "BaseException") == some true
 && mroIn K c (.type "object") == some true && hasDictIn K c && findIn K (.ref c) "__class__" == some (some (.builtin "object.__class__")) && findIn K (.ref c) "at" == some none && findIn K (.ref c) "side" == some none
structure XOne (K:PySem.W.Frag) (P c:Addr):Prop where
 cl:XCl K c (.ref P :: VE)
 kp:keepIn K (.ref c)=true
 gt:XGet K c
 gc:findIn K (.ref c) "__class__" = some (some (.builtin "object.__class__"))
 na:findIn K (.ref c) "at" = some none
 nd:findIn K (.ref c) "side" = some none
theorem xone_of {K:PySem.W.Frag} {P c:Addr} (h:xmOne K P c=true):XOne K P c:=by
 unfold xmOne at h
 simp only [Bool.and_eq_true,beq_iff_eq] at h
 obtain ⟨⟨⟨⟨⟨⟨⟨⟨⟨h1,h2⟩,h3⟩,h4⟩,h5⟩,h6⟩,h7⟩,h8⟩,h9⟩,h10⟩:=h
 exact ⟨.of_in h1,h2,⟨h3,h4,h5,h6,h7⟩,h8,h9,h10⟩
def caOf (c1 c2 c3 c4 c5 c6 c7:Addr):Str→Addr:=fun n=>if n = "NoValue" then c1 else if n = "Short" then c2 else if n = "Broken" then c3 else if n = "NoTalk" then c4 else if n = "NoName" then c5 else if n = "NoText" then c6 else c7
theorem all_err {Q:Str→Prop} (h1:Q "NoValue") (h2:Q "Short") (h3:Q "Broken") (h4:Q "NoTalk") (h5:Q "NoName") (h6:Q "NoText") (h7:Q "NoRow"):∀n∈errN,Q n:=by
 intro n hn
 simp only [errN,List.mem_cons,List.not_mem_nil,or_false] at hn
 rcases hn with rfl | rfl | rfl | rfl | rfl | rfl | rfl <;> assumption
def xmAll (K:PySem.W.Frag) (P:Addr) (cs:List Addr):Bool:=xclIn K P VE && cs.all (xmOne K P)
theorem xm_mk {K:PySem.W.Frag} {h:Heap} {mg:Str→Option Value} {P c1 c2 c3 c4 c5 c6 c7:Addr} (X:K.In h) (G:h.Ns mainGlobals mg) (p:nsIn K mainGlobals "ParleyError" = some (some (.ref P))) (a1:nsIn K mainGlobals "NoValue" = some (some (.ref c1))) (a2:nsIn K mainGlobals "Short" = some (some (.ref c2)))
 (a3:nsIn K mainGlobals "Broken" = some (some (.ref c3))) (a4:nsIn K mainGlobals "NoTalk" = some (some (.ref c4))) (a5:nsIn K mainGlobals "NoName" = some (some (.ref c5))) (a6:nsIn K mainGlobals "NoText" = some (some (.ref c6))) (a7:nsIn K mainGlobals "NoRow" = some (some (.ref c7)))
 (q:xmAll K P [c1,c2,c3,c4,c5,c6,c7]=true) (nd:[P,c1,c2,c3,c4,c5,c6,c7].Nodup):XM K mg P (caOf c1 c2 c3 c4 c5 c6 c7):=by
 unfold xmAll at q
 simp only [List.all_cons,List.all_nil,Bool.and_true,Bool.and_eq_true] at q
 obtain ⟨q0,q1,q2,q3,q4,q5,q6,q7⟩:=q
 have o1:=xone_of q1
 have o2:=xone_of q2
 have o3:=xone_of q3
 have o4:=xone_of q4
 have o5:=xone_of q5
 have o6:=xone_of q6
 have o7:=xone_of q7
 have inj:∀n∈errN,∀m∈errN,caOf c1 c2 c3 c4 c5 c6 c7 n=caOf c1 c2 c3 c4 c5 c6 c7 m→n=m:=by
  simp only [List.nodup_cons,List.mem_cons,List.not_mem_nil,or_false,not_or,List.nodup_nil,and_true] at nd
  obtain ⟨⟨n1,n2,n3,n4,n5,n6,n7⟩,⟨m12,m13,m14,m15,m16,m17⟩,⟨m23,m24,m25,m26,m27⟩,⟨m34,m35,m36,m37⟩,⟨m45,m46,m47⟩,⟨m56,m57⟩,m67,_⟩:=nd
  have h1:caOf c1 c2 c3 c4 c5 c6 c7 "NoValue" = c1:=rfl
  have h2:caOf c1 c2 c3 c4 c5 c6 c7 "Short" = c2:=rfl
  have h3:caOf c1 c2 c3 c4 c5 c6 c7 "Broken" = c3:=rfl
  have h4:caOf c1 c2 c3 c4 c5 c6 c7 "NoTalk" = c4:=rfl
  have h5:caOf c1 c2 c3 c4 c5 c6 c7 "NoName" = c5:=rfl
  have h6:caOf c1 c2 c3 c4 c5 c6 c7 "NoText" = c6:=rfl
  have h7:caOf c1 c2 c3 c4 c5 c6 c7 "NoRow" = c7:=rfl
  refine all_err ?_ ?_ ?_ ?_ ?_ ?_ ?_ <;> refine all_err ?_ ?_ ?_ ?_ ?_ ?_ ?_ <;> intro e <;> first | rfl | (exfalso;rw [h1] at e) | (exfalso;rw [h2] at e) | (exfalso;rw [h3] at e) | (exfalso;rw [h4] at e) | (exfalso;rw [h5] at e) | (exfalso;rw [h6] at e) | (exfalso;rw [h7] at e)
  all_goals (first | rw [h1] at e | rw [h2] at e | rw [h3] at e | rw [h4] at e | rw [h5] at e | rw [h6] at e | rw [h7] at e)
  all_goals (first | contradiction | (have e:=e.symm;contradiction))
 refine ⟨mg_of X G p,.of_in q0,all_err a1 a2 a3 a4 a5 a6 a7,all_err (mg_of X G a1) (mg_of X G a2) (mg_of X G a3) (mg_of X G a4) (mg_of X G a5) (mg_of X G a6) (mg_of X G a7),all_err o1.cl o2.cl o3.cl o4.cl o5.cl o6.cl o7.cl,inj,?_,
  all_err o1.kp o2.kp o3.kp o4.kp o5.kp o6.kp o7.kp,all_err o1.gt o2.gt o3.gt o4.gt o5.gt o6.gt o7.gt,all_err o1.gc o2.gc o3.gc o4.gc o5.gc o6.gc o7.gc,all_err o1.na o2.na o3.na o4.na o5.na o6.na o7.na,all_err o1.nd o2.nd o3.nd o4.nd o5.nd o6.nd o7.nd⟩
 simp only [List.nodup_cons,List.mem_cons,List.not_mem_nil,or_false,not_or] at nd
 obtain ⟨⟨n1,n2,n3,n4,n5,n6,n7⟩,_⟩:=nd
 exact all_err (Ne.symm n1) (Ne.symm n2) (Ne.symm n3) (Ne.symm n4) (Ne.symm n5) (Ne.symm n6) (Ne.symm n7)
def noInit (K:PySem.W.Frag) (C:Addr):Bool:=match clsIn K C with
 | some cd=>nsIn K cd.ns "__init__" == some none
 | none=>false
theorem xn0_of {K:PySem.W.Frag} {C:Addr} (h:noInit K C=true):XN0 K C:=by
 unfold noInit at h
 split at h
 ·next cd e=>exact ⟨cd,e,beq_iff_eq.mp h⟩
 ·cases h
end F2
set_option Elab.async false
set_option linter.all false
set_option maxRecDepth 100000
set_option maxHeartbeats 4000000
set_option autoImplicit false
namespace F2
open PySem L2 PySem.Spec PySem.W
inductive Kd where
 | pl | fr | ex | er
abbrev okK (k:Kd) (P:Program) (w:World) (K:PySem.W.Frag) (mg:Str→Option Value) (base:Heap) (n:Nat) (fa:Addr) (fd:FuncData) (ps:List Str) (f:Fn):Prop:=match k with
 | .pl=>FnOk P w K mg base CX0 n fa fd ps (spF K f)
 | .fr=>FnOk P w K mg base CX0 n fa fd ps (spFF K f)
 | .ex=>FnOk P w K mg base (CX1 true P w) n fa fd ps (spX K f)
 | .er=>FnOk P w K mg base (CX1 false P w) n fa fd ps (spX K f)
section
variable {X:Cx} {e a b:Expr} {pos:Pos} {f g:M D}
theorem fs_retP {E:XK} (h:PE X e (RE X.K f)):PS X (.Return (some e) pos) (RSg X.K (μX X.K E) (retS (nxD f))):=
 PS_imp (ps_ret h) fun D σ H ⟨Oo,c,t,fi,o,t',eq,k⟩=>by
  obtain ⟨d,t1,e1,eq⟩:=bnd_some eq
  cases eq
  obtain ⟨e2,e3⟩:=nxD_some e1
  exact ⟨Oo,c,t,fi,d,_,e2,fun v H1 c1 f1 s1 rv=>if_exc e3 (k σ H1 c1 f1 s1 v rv)⟩
end
theorem muR_ok {K:PySem.W.Frag}:∀(c:Cf) (H:Hp) (r:D) (rt:V→Hp→Prop),isExc r=false→(∀v,Rep K c H v r→rt v H)=μR K c H r rt:=fun _ _ _ _ _=>rfl
end F2
set_option Elab.async false
set_option linter.all false
set_option maxRecDepth 100000
set_option maxHeartbeats 4000000
set_option autoImplicit false
namespace F2
open PySem L2 PySem.Spec PySem.W
variable {qx:Bool}
section
variable {X:Cx} {P:Addr} {ca:Str→Addr} {a:Expr} {es:List Expr} {f:M D} {p pos q:Pos} {i:Nat} {ns:List Str}
end
end F2
set_option Elab.async false
set_option linter.all false
set_option maxRecDepth 100000
set_option maxHeartbeats 4000000
set_option autoImplicit false
namespace F2
open PySem L2 PySem.Spec SeqAt
end F2
set_option Elab.async false
set_option linter.all false
set_option maxRecDepth 100000
set_option maxHeartbeats 4000000
set_option autoImplicit false
namespace L2
open PySem PySem.Spec PyProof.Rows PySem.W PySem.Builtin PySem.Builtin.ObjectAttr
variable {qx:Bool}
section
variable {prog:Program} {w:World} {A:Around} {s:Shared} {K:PySem.W.Frag} {x C P dx:Addr} {ox:Obj} {od:Option Obj} {R:Result→Shared→Prop} {name:Str} {v:Value} {tk:Tok} {cd:ClassData}
end
section
variable {X:Cx} {k:Nat} {f C P:Addr} {fd:FuncData} {pins:List (Addr×Obj)} {σ:St} {H:Hp} {s:Shared} {Q:Value→Shared→Prop} {us:List Value} {vs:List V} {a b:Str} {ps:List Str} {v v2:V} {u u2:Value}
end
section
variable {X:Cx} {k:Nat} {f C P:Addr} {fd:FuncData} {a b:Str} {ps:List Str} {n:Str} {p pos:Pos} {e e':Expr}
end
end L2
namespace F2
open PySem L2 PySem.Spec PySem.W
variable {qx:Bool}
section
variable {X:Cx} {e e':Expr} {pos p pos2:Pos} {E:L2.St→XK} {P:Addr} {ca:Str→Addr}
end
end F2
set_option Elab.async false
set_option linter.all false
set_option maxRecDepth 100000
set_option maxHeartbeats 4000000
set_option autoImplicit false
namespace L2
open PySem PySem.Spec PyProof.Rows PySem.W
end L2
namespace F2
open PySem L2 PySem.Spec
section
variable {X:Cx} {a b:Expr} {pos:Pos}
end
end F2
set_option Elab.async false
set_option linter.all false
set_option maxRecDepth 100000
set_option maxHeartbeats 4000000
set_option autoImplicit false
namespace L2
open PySem PySem.Spec PyProof.Rows
abbrev q1:Str:="\""
abbrev q2:Str:=q1++q1
def Quo (K:PySem.W.Frag) (mg:Str→Option Value):Prop:=∃t,t≠0∧PySem.W.nsIn K mainGlobals "QUOTE" = some (some (.str q1 t))∧mg "QUOTE" = some (.str q1 t)
section
variable {X:Cx} {o:Expr} {to:TE} {p1 p2 p3 p4 apos cpos:Pos}
theorem pe_repl (hq:Quo X.K X.mg) (hg:Gl X "QUOTE") (ho:PE X o to)
 (hbase:attributeBase o "replace" X.env (eval o X.env)=eval o X.env:=by rfl)
 (hline:(apos.endLine == cpos.line)=true:=by rfl) :
 PE X (.Call (.Attribute o "replace" apos) [.Name "QUOTE" p1,.BinOp (.Name "QUOTE" p2) .Add (.Name "QUOTE" p3) p4] [] cpos)
  (fun σ H Q=>to σ H fun x H1=>∃z,x = .str z∧z.length≤100000∧Q (.str (Txt.replace z q1 q2)) H1):=by
 obtain ⟨t,h0,hn,hm⟩:=hq
 intro pins s σ H Q I h
 refine wpAny_Call_method_late hbase (by rfl) hline rfl (thn (ho pins s σ H _ I h) fun v s1 ⟨x,H1,I1,r1,z,ez,hz,q1'⟩=>?_)
 subst ez
 obtain ⟨tv,rfl⟩:=r1
 refine ⟨"str", "str.replace",PySem.F.plainAttrs_str,PySem.F.slot_str_replace,PySem.F.type_str_replace,typeIs_str _ _ _,(fun a e=>nomatch e),?_⟩
 have hT:t < s1.toks:=by
  have:=I1.tk
  unfold TKof at this
  rw [hn] at this
  exact this
 refine Calls.callWith_builtin rfl (Calls.evalArgs_plain ?_)
 show wpAny _ _ (spliced ((false,eval (.Name "QUOTE" p1) X.env) :: (false,_) :: [])) _ _ s1
 refine Calls.spliced_cons (ld_glob I1 hg hm ?_ (by decide))
 refine Calls.spliced_cons ?_
 refine wpAny_BinOp (ld_glob I1 hg hm (ld_glob I1 hg hm ?_ (by decide)) (by decide))
 refine P.add_str ?_
 show (Made.str (q1++q1)).post _ s1
 refine ⟨by decide +kernel,?_⟩
 refine Calls.spliced_nil ?_
 have I2:=I1.tok (s1.toks + 1)
 refine wpAny_with_toks (Nat.le_refl (s1.toks + 1)) (SC.replaceW h0 (Nat.ne_of_gt (Nat.lt_of_le_of_lt (Nat.zero_le t) hT)) (Nat.ne_of_lt hT) (by decide +kernel) (by omega) (by decide +kernel) fun t' k ht=>?_)
 exact ⟨.str _,H1,I2.tok _,⟨_,rfl⟩,q1'⟩
theorem vals_strs:∀(l:List (Str×Tok)),Vals ((l.map (·.1)).map V.str) (strValues l)
 | []=>.nil
 | (y,t) :: r=>.cons ⟨t,rfl⟩ (vals_strs r)
def rSplit:V→List V→Hp→VK→Prop:=fun x xs H Q=>∃z y,x = .str z∧xs=[.str y]∧(y.length == 0)=false∧z.length≤100000∧∀l,H l=none→Q (.ref l) (upd H l (.lst ((Txt.split z y).map V.str)))
theorem mt_split:MtR X "str.split" rSplit:=by
 intro pins s σ H x xs v us Q I rx rs h
 obtain ⟨z,y,rfl,rfl,hy,hz,q⟩:=h
 obtain ⟨t,rfl⟩:=rx
 obtain ⟨u,rfl,t2,rfl⟩:=vals1 rs
 have hl:sizeLine=16777216:=sizeLine_eq
 have hpl:(Builtin.Str.partsBetween z (Builtin.Str.occurrences z y 0 z.length (z.length + 1)) y.length).length≤z.length + 2:=by
  rw [len_partsBetween]
  have:=PySem.StrLaws.occ_length_le z y 0 z.length (z.length + 1)
  omega
 have fin:∀(l:List (Str×Tok)) (k:Nat),l.map (·.1)=Txt.split z y→s.toks≤k→EP X pins σ Q (.ref s.heap.objs.size) { s with toks:=k,heap:=s.heap.push { cls:=.type "list",data:=.seq (strValues l).toArray } }:=fun l k e hk=>by
  have hsp:(Txt.split z y).length≤z.length + 2:=split_le z y
  have I2:=I.lnew (t':=k) (its:=strValues l) (ys:=(Txt.split z y).map V.str) (by rw [←e];exact vals_strs l) (by rw [List.length_map];omega)
  exact ⟨.ref _,_,I2,rfl,q _ I.fresh⟩
 cases h1:(decide (z.length < y.length) || decide (Builtin.Str.strKind z < Builtin.Str.strKind y))
 ·cases hf:(Builtin.Str.occurrences z y 0 z.length (z.length + 1)).isEmpty
  ·refine call_meets F.slot_str_split (typeIs_str _ _ _) F.entry_str_split (F.args_str_split_2 _ _) (meets_str_split_sep z y t t2 h1 hy hf (by omega) (by omega)) ?_
   have:=fin (numbered s.toks (Builtin.Str.partsBetween z (Builtin.Str.occurrences z y 0 z.length (z.length + 1)) y.length)) (s.toks + (Builtin.Str.partsBetween z (Builtin.Str.occurrences z y 0 z.length (z.length + 1)) y.length).length) ((numbered_texts _ _).trans ((if_neg (ne_true_of_eq_false h1)).trans (if_neg (ne_true_of_eq_false hf))).symm) (by omega)
   rw [←strsFrom_eq] at this
   exact this
  ·exact call_meets F.slot_str_split (typeIs_str _ _ _) F.entry_str_split (F.args_str_split_2 _ _) (meets_str_split_not_found z y t t2 h1 hy hf)
    (fin [(z,t)] s.toks ((if_neg (ne_true_of_eq_false h1)).trans (if_pos hf)).symm (Nat.le_refl _))
 ·exact call_meets F.slot_str_split (typeIs_str _ _ _) F.entry_str_split (F.args_str_split_2 _ _) (meets_str_split_cannot_occur z y t t2 h1)
   (fin [(z,t)] s.toks (if_pos h1).symm (Nat.le_refl _))
def rJoinW (K:PySem.W.Frag):V→List V→Hp→VK→Prop:=fun x xs H Q=>∃z a ys,x = .str z∧xs=[.ref a]∧SqL K H a (ys.map V.str)∧z.length≤16∧(ys.map (·.length)).sum + ys.length≤1048576∧Q (.str (Txt.join z ys)) H
theorem strsAre_of:∀{ys:List Str} {us:List Value},Vals (ys.map V.str) us→StrsAre us ys
 | [],_,r=>by cases r;exact .nil
 | _ :: _,_,r=>by
   cases r with
   | cons r1 r2=>obtain ⟨t,rfl⟩:=r1;exact .cons _ _ (strsAre_of r2)
theorem mt_joinW:MtR X "str.join" (rJoinW X.K):=by
 intro pins s σ H x xs v us Q I rx rs h
 obtain ⟨z,a,ys,rfl,rfl,ha,h1,h2,q⟩:=h
 obtain ⟨t,rfl⟩:=rx
 obtain ⟨u,rfl,ru⟩:=vals1 rs
 cases ru
 obtain ⟨its,r,pl,_⟩:=I.list ha
 refine wpAny_with_toks (Nat.le_refl s.toks) (join_listW pl.isList (by simpa using strsAre_of r) h1 h2 fun t' k ht=>?_)
 exact ⟨.str _,H,I.tok _,⟨_,rfl⟩,q⟩
end
end L2
namespace F2
open PySem L2 PySem.Spec PyProof.Rows
variable {K:PySem.W.Frag}
def replD:D→M D
 | .str z=>if z.length≤100000 then ret (.str (Txt.replace z q1 q2)) else fail
 | _=>fail
def splitM (f:M D) (g:M (List D)):M (List D):=bnd f fun o=>bnd g fun as=>match o,as with
 | .str z,[.str y]=>if (y.length == 0)=false∧z.length≤100000 then ret ((Txt.split z y).map D.str) else fail
 | _,_=>fail
def strsW:List D→Option (List Str)
 | []=>some []
 | .str x :: r=>(strsW r).map (x :: ·)
 | _=>none
def joinW (f:M D) (g:M (List D)):M D:=bnd f fun o=>bnd g fun as=>match o,as with
 | .str z,[.lst ds]=>match strsW ds with
   | some ys=>if z.length≤16∧(ys.map (·.length)).sum + ys.length≤1048576 then ret (.str (Txt.join z ys)) else fail
   | none=>fail
 | _,_=>fail
theorem strsW_rep {c:Cf} {H:Hp}:∀{ds:List D} {vs:List V} {ys:List Str},Reps K c H vs ds→strsW ds=some ys→vs=ys.map V.str
 | [],_,ys,r,e=>by
   cases r
   cases e
   rfl
 | d :: ds,_,ys,r,e=>by
   cases r with
   | cons r1 r2=>
     cases r1 with
     | str x=>
       obtain ⟨zs,e1,rfl⟩:=Option.map_eq_some_iff.mp e
       rw [strsW_rep r2 e1];rfl
     | _=>cases e
theorem reps_strs {c:Cf} {H:Hp}:∀(ys:List Str),Reps K c H (ys.map V.str) (ys.map D.str)
 | []=>.nil
 | y :: r=>.cons (.str y) (reps_strs r)
theorem RE.joinW {f:M D} {g:M (List D)} {σ:L2.St} {H:Hp} {Q:VK} (q:RE K (F2.joinW f g) σ H Q):tBM K "str" (rJoinW K) (RE K f) (RA K g) σ H Q:=by
 obtain ⟨Oo,c,t,fi,r,t',eq,k⟩:=q
 obtain ⟨d,t1,e1,eq1⟩:=bnd_some eq
 clear eq
 obtain ⟨as,t2,e2,eq⟩:=bnd_some eq1
 clear eq1
 refine ⟨Oo,c,t,fi,d,t1,e1,fun v H1 c1 f1 s1 rv=>?_⟩
 split at eq
 ·next z ds=>
  cases rv
  refine ⟨rfl,Oo,c1,t1,f1,_,t2,e2,fun us H2 c2 f2 s2 rus=>?_⟩
  obtain ⟨w,rfl,rw'⟩:=reps1 rus
  cases ey:strsW ds with
  | none=>rw [ey] at eq;cases eq
  | some ys=>
    rw [ey] at eq
    dsimp only at eq
    by_cases hz:z.length≤16∧(ys.map (·.length)).sum + ys.length≤1048576
    ·rw [if_pos hz] at eq
     cases eq
     cases rw' with
     | @lst p vs ds h1 h2 h3=>
       have h4:=strsW_rep h3 ey
       subst h4
       exact ⟨_,p,ys,rfl,rfl,SqL.of h1,hz.1,hz.2,k _ _ c2 f2 (s1.trans s2) (.str _)⟩
    ·rw [if_neg hz] at eq;cases eq
 ·cases eq
theorem RF.splitM {f:M D} {g:M (List D)} {σ:L2.St} {H:Hp} {Q:VK} (q:RF K (F2.splitM f g) σ H Q):tBM K "str" rSplit (RE K f) (RA K g) σ H Q:=by
 obtain ⟨Oo,c,t,fi,r,t',eq,k⟩:=q
 obtain ⟨d,t1,e1,eq1⟩:=bnd_some eq
 clear eq
 obtain ⟨as,t2,e2,eq⟩:=bnd_some eq1
 clear eq1
 refine ⟨Oo,c,t,fi,d,t1,e1,fun v H1 c1 f1 s1 rv=>?_⟩
 split at eq
 ·next z y=>
  cases rv
  refine ⟨rfl,Oo,c1,t1,f1,_,t2,e2,fun us H2 c2 f2 s2 rus=>?_⟩
  obtain ⟨w,rfl,rw'⟩:=reps1 rus
  by_cases hz:(y.length == 0)=false∧z.length≤100000
  ·rw [if_pos hz] at eq
   cases eq
   cases rw'
   exact ⟨_,_,rfl,rfl,hz.1,hz.2,fun l hl=>k l _ H2 c2 f2 (s1.trans s2) (reps_strs _) hl⟩
  ·rw [if_neg hz] at eq;cases eq
 ·cases eq
section
variable {X:Cx} {o e:Expr} {es:List Expr} {f:M D} {g:M (List D)} {apos cpos p1 p2 p3 p4:Pos}
theorem fe_call0 {k:Nat} {fa:Addr} {fd:FuncData} {ps:List Str} {g:Fn} {x:Str} {p pos:Pos} (F:FnOk X.prog X.w X.K X.mg X.base CX0 k fa fd ps (spF X.K g)) (hr:Room k X.A) (hg:Gl X x) (hm:X.mg x=some (.ref fa)) (hk:PySem.W.keepIn X.K (.ref fa)=true) (hb:Binds X.K fd ps [])
 (hdb:(x == ("__debug__" : Str))=false:=by decide):PE X (.Call (.Name x p) [] [] pos) (RE X.K (fCall g fNil)):=
 PE_imp (pe_call0 F hr hg hm hk hb .nil pass0 hdb) fun σ H Q ⟨Oo,c,t,fi,r,t',eq,kk⟩=>by
  obtain ⟨ds,t1,e1,eq⟩:=bnd_some eq
  cases e1
  obtain ⟨S',e2,rfl⟩:=call_some eq
  show spF X.K g ([]++[]) H Q E0
  refine ⟨c,[],t.S,fi.s,.nil,r,S',e2,fun v H' c' si st ho rv=>?_⟩
  obtain ⟨f2,s2⟩:=fi.after si st ho
  exact kk v H' c' f2 s2 rv
theorem fe_joinW (ho:PE X o (RE X.K f)) (ha:PA X (e :: es) (RA X.K g))
 (hbase:attributeBase o "join" X.env (eval o X.env)=eval o X.env:=by rfl)
 (hfew:((backTo cpos (starEach (e :: es) X.env)).all (fun x=>!x.1) && (backToKw cpos (keywordEach [] X.env)).all (fun x=>x.1.isSome) && decide ((e :: es).length + ([]:List Keyword).length + (if ([]:List Keyword).isEmpty then 0 else 1) < 30))=true:=by rfl)
 (hline:(apos.endLine == cpos.line)=true:=by rfl) (hs:starEach (e :: es) X.env=(false,eval e X.env) :: starEach es X.env:=by rfl) (hplain:(backTo cpos (starEach es X.env)).any (·.1)=false:=by rfl) :
 PE X (.Call (.Attribute o "join" apos) (e :: es) [] cpos) (RE X.K (joinW f g)):=
 PE_imp (pe_bm PySem.F.plainAttrs_str PySem.F.slot_str_join PySem.F.type_str_join mt_joinW ho ha hbase hfew hline hs hplain) fun _ _ _ q=>RE.joinW q
theorem ff_split (ho:PE X o (RE X.K f)) (ha:PA X (e :: es) (RA X.K g))
 (hbase:attributeBase o "split" X.env (eval o X.env)=eval o X.env:=by rfl)
 (hfew:((backTo cpos (starEach (e :: es) X.env)).all (fun x=>!x.1) && (backToKw cpos (keywordEach [] X.env)).all (fun x=>x.1.isSome) && decide ((e :: es).length + ([]:List Keyword).length + (if ([]:List Keyword).isEmpty then 0 else 1) < 30))=true:=by rfl)
 (hline:(apos.endLine == cpos.line)=true:=by rfl) (hs:starEach (e :: es) X.env=(false,eval e X.env) :: starEach es X.env:=by rfl) (hplain:(backTo cpos (starEach es X.env)).any (·.1)=false:=by rfl) :
 PE X (.Call (.Attribute o "split" apos) (e :: es) [] cpos) (RF X.K (splitM f g)):=
 PE_imp (pe_bm PySem.F.plainAttrs_str PySem.F.slot_str_split PySem.F.type_str_split mt_split ho ha hbase hfew hline hs hplain) fun _ _ _ q=>RF.splitM q
theorem fe_repl (hq:Quo X.K X.mg) (hg:Gl X "QUOTE") (ho:PE X o (RE X.K f))
 (hbase:attributeBase o "replace" X.env (eval o X.env)=eval o X.env:=by rfl) (hline:(apos.endLine == cpos.line)=true:=by rfl) :
 PE X (.Call (.Attribute o "replace" apos) [.Name "QUOTE" p1,.BinOp (.Name "QUOTE" p2) .Add (.Name "QUOTE" p3) p4] [] cpos) (RE X.K (fUn f replD)):=
 PE_imp (pe_repl hq hg ho hbase hline) fun σ H Q ⟨Oo,c,t,fi,r,t',eq,k⟩=>by
  obtain ⟨d,t1,e1,eq⟩:=bnd_some eq
  refine ⟨Oo,c,t,fi,d,t1,e1,fun v H1 c1 f1 s1 rv=>?_⟩
  unfold replD at eq
  split at eq
  ·next z=>
   by_cases hz:z.length≤100000
   ·rw [if_pos hz] at eq
    cases eq
    cases rv
    exact ⟨_,rfl,hz,k _ _ c1 f1 s1 (.str _)⟩
   ·rw [if_neg hz] at eq;cases eq
  ·cases eq
end
end F2
namespace L2
open PySem
theorem tkof_le {K:PySem.W.Frag} {x:Str} {t n:Nat} (e:PySem.W.nsIn K mainGlobals "QUOTE" = some (some (.str x t))) (h:t + 1≤n):TKof K≤n:=by
 unfold TKof;rw [e];exact h
end L2
set_option Elab.async false
set_option linter.all false
set_option maxRecDepth 100000
set_option maxHeartbeats 4000000
set_option autoImplicit false
namespace LW
open PySem L2 F2
def m_is_number:M Out:=
 (retS (fAndV (fB (fCons (fVar 0) (fCons (fC (.ty "int")) fNil)) isiD) (fNotV (fB (fCons (fVar 0) (fCons (fC (.ty "bool")) fNil)) isiD))))
def m_is_number_within (c_is_number_:Fn):M Out:=
 (retS (fAndV (fCall c_is_number_ (fCons (fVar 0) fNil)) (fChain (fVar 1) (fVar 0) (fVar 2) leA leA)))
def m_fits (c_fits_choice_ c_fits_pair_ c_fits_list_ c_fits_text_ c_is_number_within_:Fn):M Out:=
 (seqS (setS 2 (fBin (fVar 0) (fC (.int 0)) ixD))
 (seqS (ifS (fTst (fBin (fVar 2) (fC (.str "nothing")) (eqS id)))
   (retS (fBin (fVar 1) (fC .non) isC))
   skipS)
 (seqS (ifS (fTst (fBin (fVar 2) (fC (.str "number")) (eqS id)))
   (retS (fCall c_is_number_within_ (fCons (fVar 1) (fCons (fBin (fVar 0) (fC (.int 1)) ixD) (fCons (fBin (fVar 0) (fC (.int 2)) ixD) fNil)))))
   skipS)
 (seqS (ifS (fTst (fBin (fVar 2) (fC (.str "text")) (eqS id)))
   (retS (fCall c_fits_text_ (fCons (fVar 0) (fCons (fVar 1) fNil))))
   skipS)
 (seqS (ifS (fTst (fBin (fVar 2) (fC (.str "list")) (eqS id)))
   (retS (fCall c_fits_list_ (fCons (fVar 0) (fCons (fVar 1) fNil))))
   skipS)
 (seqS (ifS (fTst (fBin (fVar 2) (fC (.str "pair")) (eqS id)))
   (retS (fCall c_fits_pair_ (fCons (fVar 0) (fCons (fVar 1) fNil))))
   skipS)
 (retS (fCall c_fits_choice_ (fCons (fVar 0) (fCons (fVar 1) fNil))))))))))
def m_fits_text (c_is_sign_:Fn):M Out:=
 (seqS (ifS (fOr (fNot (fTst (fB (fCons (fVar 1) (fCons (fC (.ty "str")) fNil)) isiD))) (fTst (fBin (fB (fCons (fVar 1) fNil) lenD) (fBin (fVar 0) (fC (.int 1)) ixD) gtA)))
   (retS (fC (.bl false)))
   skipS)
 (seqS (forS (fItA (fVar 1)) (putV 2)
   (ifS (fNot (fTst (fCall c_is_sign_ (fCons (fB (fCons (fVar 2) fNil) ordD) fNil))))
   (retS (fC (.bl false)))
   skipS))
 (retS (fC (.bl true)))))
def m_is_sign:M Out:=
 (retS (fAndV (fChain (fC (.int 32)) (fVar 0) (fC (.int 126)) leA leA) (fBin (fVar 0) (fC (.int 37)) (eqS fun b=>!b))))
def m_fits_list (c_fits_:Fn):M Out:=
 (seqS (ifS (fOr (fNot (fTst (fB (fCons (fVar 1) (fCons (fC (.ty "list")) fNil)) isiD))) (fTst (fBin (fB (fCons (fVar 1) fNil) lenD) (fBin (fVar 0) (fC (.int 2)) ixD) gtA)))
   (retS (fC (.bl false)))
   skipS)
 (seqS (forS (fItA (fVar 1)) (putV 2)
   (ifS (fNot (fTst (fCall c_fits_ (fCons (fBin (fVar 0) (fC (.int 1)) ixD) (fCons (fVar 2) fNil)))))
   (retS (fC (.bl false)))
   skipS))
 (retS (fC (.bl true)))))
def m_fits_pair (c_fits_:Fn):M Out:=
 (seqS (ifS (fOr (fNot (fTst (fB (fCons (fVar 1) (fCons (fC (.ty "tuple")) fNil)) isiD))) (fTst (fBin (fB (fCons (fVar 1) fNil) lenD) (fC (.int 2)) (eqS fun b=>!b))))
   (retS (fC (.bl false)))
   skipS)
 (retS (fAndV (fCall c_fits_ (fCons (fBin (fVar 0) (fC (.int 1)) ixD) (fCons (fBin (fVar 1) (fC (.int 0)) ixD) fNil))) (fCall c_fits_ (fCons (fBin (fVar 0) (fC (.int 2)) ixD) (fCons (fBin (fVar 1) (fC (.int 1)) ixD) fNil))))))
def m_fits_choice (c_fits_ c_is_number_within_:Fn):M Out:=
 (seqS (ifS (fOr (fNot (fTst (fB (fCons (fVar 1) (fCons (fC (.ty "tuple")) fNil)) isiD))) (fTst (fBin (fB (fCons (fVar 1) fNil) lenD) (fC (.int 3)) (eqS fun b=>!b))))
   (retS (fC (.bl false)))
   skipS)
 (seqS (ifS (fOr (fNot (fTst (fB (fCons (fBin (fVar 1) (fC (.int 0)) ixD) (fCons (fC (.ty "str")) fNil)) isiD))) (fTst (fBin (fBin (fVar 1) (fC (.int 0)) ixD) (fC (.str "of")) (eqS fun b=>!b))))
   (retS (fC (.bl false)))
   skipS)
 (seqS (ifS (fNot (fTst (fCall c_is_number_within_ (fCons (fBin (fVar 1) (fC (.int 1)) ixD) (fCons (fC (.int 0)) (fCons (fBin (fB (fCons (fBin (fVar 0) (fC (.int 1)) ixD) fNil) lenD) (fC (.int 1)) subD) fNil))))))
   (retS (fC (.bl false)))
   skipS)
 (retS (fCall c_fits_ (fCons (fBin (fBin (fVar 0) (fC (.int 1)) ixD) (fBin (fVar 1) (fC (.int 1)) ixD) ixD) (fCons (fBin (fVar 1) (fC (.int 2)) ixD) fNil)))))))
end LW
set_option Elab.async false
set_option linter.all false
set_option maxRecDepth 100000
set_option maxHeartbeats 4000000
set_option autoImplicit false
namespace LW
open PySem L2 F2
end LW
set_option Elab.async false
set_option linter.all false
set_option maxRecDepth 100000
set_option maxHeartbeats 4000000
set_option autoImplicit false
namespace LW
open PySem L2 F2
end LW
set_option Elab.async false
set_option linter.all false
set_option maxRecDepth 100000
set_option maxHeartbeats 4000000
set_option autoImplicit false
namespace LW
open PySem L2 F2
def m_show_value (c_show_fitting_ c_fits_:Fn):M Out:=
 (seqS (ifS (fNot (fTst (fCall c_fits_ (fCons (fVar 0) (fCons (fVar 1) fNil)))))
   (raise0 "NoValue" (fCons (fC (.str "the value does not fit the shape")) fNil))
   skipS)
 (retS (nxD (fCall c_show_fitting_ (fCons (fVar 1) fNil)))))
def m_show_fitting (c_show_fitting_:Fn):M Out:=
 (seqS (ifS (fTst (fBin (fVar 0) (fC .non) isC))
   (retS (fC (.str "-")))
   skipS)
 (seqS (ifS (fTst (fB (fCons (fVar 0) (fCons (fC (.ty "str")) fNil)) isiD))
   (retS (fBin (fBin (fC (.str "\"")) (fUn (fVar 0) replD) add5) (fC (.str "\"")) add5))
   skipS)
 (seqS (ifS (fTst (fB (fCons (fVar 0) (fCons (fC (.ty "list")) fNil)) isiD))
   (retS (fBin (fBin (fC (.str "[")) (joinW (fC (.str ",")) (fCons (fPure (fComp 1 [] (fItA (fVar 0)) (putV 0) tTru (fCall c_show_fitting_ (fCons (fVar 0) fNil)))) fNil)) add5) (fC (.str "]")) add5))
   skipS)
 (seqS (ifS (fNot (fTst (fB (fCons (fVar 0) (fCons (fC (.ty "tuple")) fNil)) isiD)))
   (retS (fB (fCons (fVar 0) fNil) strD))
   skipS)
 (seqS (ifS (fTst (fBin (fB (fCons (fVar 0) fNil) lenD) (fC (.int 2)) (eqS id)))
   (retS (fBin (fBin (fBin (fBin (fC (.str "(")) (fCall c_show_fitting_ (fCons (fBin (fVar 0) (fC (.int 0)) ixD) fNil)) add5) (fC (.str ",")) add5) (fCall c_show_fitting_ (fCons (fBin (fVar 0) (fC (.int 1)) ixD) fNil)) add5) (fC (.str ")")) add5))
   skipS)
 (retS (fBin (fBin (fBin (fC (.str "#")) (fB (fCons (fBin (fVar 0) (fC (.int 1)) ixD) fNil) strD) add5) (fC (.str ":")) add5) (fCall c_show_fitting_ (fCons (fBin (fVar 0) (fC (.int 2)) ixD) fNil)) add5)))))))
def m_f_law_nth:M Out:=
 (seqS (forS (fItA (fSl (fVar 0) (fPart (fVar 1)) (fPart (fBin (fVar 1) (fC (.int 1)) add5)) sl3D)) (putV 2)
   (retS (fVar 2)))
 (retS (fC (.int 0))))
def m_f_law_pool_v3 (c_f_law_nth:Fn):M Out:=
 (seqS (setS 2 (fCall c_f_law_nth (fCons (fVar 0) (fCons (fVar 1) fNil))))
 (retS (fDisp [("rest",(fVar 2)),("mixed",(fBin (fVar 2) (fBin (fC (.int 10)) (fC (.int 18)) powD) ltA)),("count",(fBin (fC (.int 7)) (fBin (fC (.int 3)) (fVar 1) mul4) add5))])))
def m_f_law_take_v8:M Out:=
 (seqS (setS 2 (fBin (fVar 0) (fC (.str "rest")) dgetD))
 (seqS (ifS (fNot (fTst (fBin (fVar 0) (fC (.str "mixed")) dgetD)))
   (seqS (asgS (fBin (fVar 2) (fVar 1) fdivW) (stKey (fVar 0) (fC (.str "rest"))))
 (retS (fBin (fVar 2) (fVar 1) modD)))
   skipS)
 (seqS (asgS (fBin (fBin (fVar 0) (fC (.str "count")) dgetD) (fC (.int 1)) add5) (stKey (fVar 0) (fC (.str "count"))))
 (seqS (setS 2 (fBin (fBin (fVar 2) (fC (.int 1000000000303)) modD) (fBin (fC (.int 90007)) (fBin (fVar 0) (fC (.str "count")) dgetD) mulW) add5))
 (seqS (setS 2 (fBin (fBin (fVar 2) (fBin (fVar 2) (fC (.int 53)) add5) mulW) (fC (.int 1000000000331)) modD))
 (seqS (setS 2 (fBin (fBin (fVar 2) (fVar 2) mulW) (fC (.int 999999999877)) modD))
 (seqS (asgS (fVar 2) (stKey (fVar 0) (fC (.str "rest"))))
 (retS (fBin (fBin (fVar 2) (fC (.int 13)) fdivW) (fVar 1) modD)))))))))
def m_f_law_shape_v8 (c_f_law_shape c_f_law_take:Fn):M Out:=
 (seqS (setS 2 (fCall c_f_law_take (fCons (fVar 0) (fCons (fC (.int 9)) fNil))))
 (seqS (ifS (fTst (fBin (fVar 2) (fC (.int 0)) (eqS id)))
   (retS (fTup (fCons (fC (.str "nothing")) fNil)))
   skipS)
 (seqS (ifS (fTst (fBin (fVar 2) (fC (.int 1)) (eqS id)))
   (retS (fTup (fCons (fC (.str "text")) (fCons (fBin (fPure (fLst (fCons (fC (.int 0)) (fCons (fC (.int 1)) (fCons (fC (.int 5)) (fCons (fC (.int 250)) (fCons (fCall c_f_law_take (fCons (fVar 0) (fCons (fC (.int 251)) fNil))) fNil))))))) (fCall c_f_law_take (fCons (fVar 0) (fCons (fC (.int 5)) fNil))) ixD) fNil))))
   skipS)
 (seqS (ifS (fOr (fTst (fBin (fVar 1) (fC (.int 0)) (eqS id))) (fTst (fBin (fVar 2) (fC (.int 4)) ltA)))
   (seqS (setS 3 (fBin (fPure (fLst (fCons (fC (.int 0)) (fCons (fBin (fCall c_f_law_take (fCons (fVar 0) (fCons (fC (.int 19)) fNil))) (fC (.int 9)) subD) (fCons (fBin (fCall c_f_law_take (fCons (fVar 0) (fCons (fBin (fC (.int 10)) (fC (.int 11)) powD) fNil))) (fBin (fC (.int 10)) (fC (.int 10)) powD) subD) fNil))))) (fCall c_f_law_take (fCons (fVar 0) (fCons (fC (.int 3)) fNil))) ixD))
 (retS (fTup (fCons (fC (.str "number")) (fCons (fVar 3) (fCons (fBin (fVar 3) (fBin (fPure (fLst (fCons (fC (.int 0)) (fCons (fC (.int 1)) (fCons (fC (.int 9)) (fCons (fC (.int 255)) (fCons (fC (.int 256)) (fCons (fC (.int 70000)) (fCons (fBin (fC (.int 10)) (fC (.int 17)) powD) fNil))))))))) (fCall c_f_law_take (fCons (fVar 0) (fCons (fC (.int 7)) fNil))) ixD) add5) fNil))))))
   skipS)
 (seqS (ifS (fTst (fBin (fVar 2) (fC (.int 6)) ltA))
   (retS (fTup (fCons (fC (.str "list")) (fCons (fCall c_f_law_shape (fCons (fVar 0) (fCons (fBin (fVar 1) (fC (.int 1)) subD) fNil))) (fCons (fBin (fPure (fLst (fCons (fC (.int 0)) (fCons (fC (.int 1)) (fCons (fC (.int 3)) (fCons (fC (.int 250)) (fCons (fCall c_f_law_take (fCons (fVar 0) (fCons (fC (.int 199)) fNil))) fNil))))))) (fCall c_f_law_take (fCons (fVar 0) (fCons (fC (.int 5)) fNil))) ixD) fNil)))))
   skipS)
 (seqS (ifS (fTst (fBin (fVar 2) (fC (.int 7)) ltA))
   (retS (fTup (fCons (fC (.str "pair")) (fCons (fCall c_f_law_shape (fCons (fVar 0) (fCons (fBin (fVar 1) (fC (.int 1)) subD) fNil))) (fCons (fCall c_f_law_shape (fCons (fVar 0) (fCons (fBin (fVar 1) (fC (.int 1)) subD) fNil))) fNil)))))
   skipS)
 (seqS (setS 4 (fBin (fC (.int 1)) (fCall c_f_law_take (fCons (fVar 0) (fCons (fBin (fPure (fLst (fCons (fC (.int 3)) (fCons (fC (.int 9)) fNil)))) (fB (fCons (fBin (fVar 1) (fC (.int 1)) (eqS id)) fNil) intD) ixD) fNil))) add5))
 (retS (fTup (fCons (fC (.str "choice")) (fCons (fB (fCons (fPure (fComp 1 [0,1] (fRng1 (fCons (fVar 4) fNil)) (putV 0) tTru (fCall c_f_law_shape (fCons (fVar 1) (fCons (fBin (fVar 2) (fC (.int 1)) subD) fNil))))) fNil) tupD) fNil)))))))))))
def m_f_law_deep_v2 (c_f_law_take c_f_law_shape:Fn):M Out:=
 (seqS (setS 1 (fCall c_f_law_shape (fCons (fVar 0) (fCons (fC (.int 2)) fNil))))
 (seqS (forS (fRng1 (fCons (fBin (fPure (fLst (fCons (fC (.int 0)) (fCons (fC (.int 0)) (fCons (fC (.int 1)) (fCons (fC (.int 3)) fNil)))))) (fCall c_f_law_take (fCons (fVar 0) (fCons (fC (.int 4)) fNil))) ixD) fNil)) (putV 2)
   (seqS (setS 3 (fPure (fLst (fCons (fTup (fCons (fC (.str "list")) (fCons (fVar 1) (fCons (fBin (fPure (fLst (fCons (fC (.int 1)) (fCons (fC (.int 2)) (fCons (fC (.int 2)) fNil))))) (fCall c_f_law_take (fCons (fVar 0) (fCons (fC (.int 3)) fNil))) ixD) fNil)))) (fCons (fTup (fCons (fC (.str "pair")) (fCons (fVar 1) (fCons (fTup (fCons (fC (.str "nothing")) fNil)) fNil)))) fNil)))))
 (setS 1 (fBin (fBin (fVar 3) (fPure (fLst (fCons (fTup (fCons (fC (.str "choice")) (fCons (fTup (fCons (fTup (fCons (fC (.str "nothing")) fNil)) (fCons (fVar 1) fNil))) fNil))) fNil))) add5) (fCall c_f_law_take (fCons (fVar 0) (fCons (fC (.int 3)) fNil))) ixD))))
 (retS (fVar 1))))
def m_f_law_signs_v2:M Out:=
 (retS (fC (.str " !\"#$&'()*+,-./0123456789:;<=>?@ABCDEFGHIJKLMNOPQRSTUVWXYZ[\\]^_`abcdefghijklmnopqrstuvwxyz{|}~")))
def m_f_law_value_v9 (c_f_law_value c_f_law_take c_f_law_signs:Fn):M Out:=
 (seqS (ifS (fTst (fBin (fBin (fVar 1) (fC (.int 0)) ixD) (fC (.str "nothing")) (eqS id)))
   (retS (fC .non))
   skipS)
 (seqS (ifS (fTst (fBin (fBin (fVar 1) (fC (.int 0)) ixD) (fC (.str "number")) (eqS id)))
   (retS (fBin (fPure (fLst (fCons (fBin (fVar 1) (fC (.int 1)) ixD) (fCons (fBin (fVar 1) (fC (.int 2)) ixD) (fCons (fBin (fBin (fVar 1) (fC (.int 1)) ixD) (fCall c_f_law_take (fCons (fVar 0) (fCons (fBin (fBin (fBin (fVar 1) (fC (.int 2)) ixD) (fBin (fVar 1) (fC (.int 1)) ixD) subD) (fC (.int 1)) add5) fNil))) add5) fNil))))) (fCall c_f_law_take (fCons (fVar 0) (fCons (fC (.int 3)) fNil))) ixD))
   skipS)
 (seqS (ifS (fTst (fBin (fBin (fVar 1) (fC (.int 0)) ixD) (fC (.str "text")) (eqS id)))
   (seqS (setS 2 (fC (.str "ab \",)]([#:-;>0'~Z")))
 (seqS (ifS (fTst (fBin (fCall c_f_law_take (fCons (fVar 0) (fCons (fC (.int 2)) fNil))) (fC (.int 0)) (eqS id)))
   (setS 2 (fCall c_f_law_signs fNil))
   skipS)
 (seqS (setS 3 (fCall c_f_law_take (fCons (fVar 0) (fCons (fBin (fB (fCons (fBin (fVar 1) (fC (.int 1)) ixD) (fCons (fC (.int 7)) fNil)) minD) (fC (.int 1)) add5) fNil))))
 (retS (joinM (fC (.str "")) (fCons (fPure (fComp 1 [2,0] (fRng1 (fCons (fVar 3) fNil)) (putV 0) tTru (fBin (fVar 1) (fCall c_f_law_take (fCons (fVar 2) (fCons (fB (fCons (fVar 1) fNil) lenD) fNil))) ixD))) fNil))))))
   skipS)
 (seqS (ifS (fTst (fBin (fBin (fVar 1) (fC (.int 0)) ixD) (fC (.str "list")) (eqS id)))
   (seqS (setS 4 (fBin (fPure (fLst (fCons (fC (.int 3)) (fCons (fC (.int 1)) fNil)))) (fB (fCons (fBin (fBin (fBin (fVar 1) (fC (.int 1)) ixD) (fC (.int 0)) ixD) (fPure (fLst (fCons (fC (.str "list")) (fCons (fC (.str "pair")) (fCons (fC (.str "choice")) fNil))))) (inD false)) fNil) intD) ixD))
 (retS (fPure (fComp 1 [0,1] (fRng1 (fCons (fCall c_f_law_take (fCons (fVar 0) (fCons (fBin (fB (fCons (fBin (fVar 1) (fC (.int 2)) ixD) (fCons (fVar 4) fNil)) minD) (fC (.int 1)) add5) fNil))) fNil)) (putV 0) tTru (fCall c_f_law_value (fCons (fVar 1) (fCons (fBin (fVar 2) (fC (.int 1)) ixD) fNil)))))))
   skipS)
 (seqS (ifS (fTst (fBin (fBin (fVar 1) (fC (.int 0)) ixD) (fC (.str "pair")) (eqS id)))
   (retS (fTup (fCons (fCall c_f_law_value (fCons (fVar 0) (fCons (fBin (fVar 1) (fC (.int 1)) ixD) fNil))) (fCons (fCall c_f_law_value (fCons (fVar 0) (fCons (fBin (fVar 1) (fC (.int 2)) ixD) fNil))) fNil))))
   skipS)
 (seqS (setS 5 (fCall c_f_law_take (fCons (fVar 0) (fCons (fB (fCons (fBin (fVar 1) (fC (.int 1)) ixD) fNil) lenD) fNil))))
 (retS (fTup (fCons (fC (.str "of")) (fCons (fVar 5) (fCons (fCall c_f_law_value (fCons (fVar 0) (fCons (fBin (fBin (fVar 1) (fC (.int 1)) ixD) (fVar 5) ixD) fNil))) fNil)))))))))))
def m_f_law_worth (c_f_law_worth:Fn):M Out:=
 (seqS (ifS (fTst (fBin (fVar 0) (fC .non) isC))
   (retS (fC (.str "-")))
   skipS)
 (seqS (ifS (fTst (fB (fCons (fVar 0) (fCons (fC (.ty "str")) fNil)) isiD))
   (retS (fBin (fBin (fC (.str "\"")) (joinW (fC (.str "\"\"")) (fCons (fPure (splitM (fVar 0) (fCons (fC (.str "\"")) fNil))) fNil)) add5) (fC (.str "\"")) add5))
   skipS)
 (seqS (ifS (fTst (fB (fCons (fVar 0) (fCons (fC (.ty "list")) fNil)) isiD))
   (retS (fBin (fBin (fC (.str "[")) (joinW (fC (.str ",")) (fCons (fPure (fComp 1 [] (fItA (fVar 0)) (putV 0) tTru (fCall c_f_law_worth (fCons (fVar 0) fNil)))) fNil)) add5) (fC (.str "]")) add5))
   skipS)
 (seqS (ifS (fTst (fB (fCons (fVar 0) (fCons (fC (.ty "int")) fNil)) isiD))
   (retS (fB (fCons (fVar 0) fNil) strD))
   skipS)
 (seqS (ifS (fTst (fBin (fB (fCons (fVar 0) fNil) lenD) (fC (.int 3)) (eqS id)))
   (retS (fBin (fBin (fBin (fC (.str "#")) (fB (fCons (fBin (fVar 0) (fC (.int 1)) ixD) fNil) strD) add5) (fC (.str ":")) add5) (fCall c_f_law_worth (fCons (fBin (fVar 0) (fC (.int 2)) ixD) fNil)) add5))
   skipS)
 (retS (fBin (fBin (fBin (fBin (fC (.str "(")) (fCall c_f_law_worth (fCons (fBin (fVar 0) (fC (.int 0)) ixD) fNil)) add5) (fC (.str ",")) add5) (fCall c_f_law_worth (fCons (fBin (fVar 0) (fC (.int 1)) ixD) fNil)) add5) (fC (.str ")")) add5)))))))
def m_f_law_kinds_v3:M Out:=
 (seqS (setS 1 (fPure (fLst (fCons (bnd (fVar 0) (isiX "NoValue")) (fCons (bnd (fVar 0) (isiX "NoText")) (fCons (bnd (fVar 0) (isiX "Short")) (fCons (bnd (fVar 0) (isiX "Broken")) fNil)))))))
 (seqS (setS 1 (fBin (fVar 1) (fPure (fLst (fCons (bnd (fVar 0) (isiX "NoTalk")) (fCons (bnd (fVar 0) (isiX "NoName")) (fCons (bnd (fVar 0) (isiX "NoRow")) fNil))))) add5))
 (retS (fBin (fVar 1) (fPure (fLst (fCons (bnd (fVar 0) (isiX "ValueError")) fNil))) add5))))
def m_f_law_odd_v3 (c_f_law_take c_f_law_value:Fn):M Out:=
 (seqS (ifS (fTst (fBin (fBin (fVar 1) (fC (.int 0)) ixD) (fC (.str "nothing")) (eqS id)))
   (retS (fBin (fPure (fLst (fCons (fC (.int 0)) (fCons (fC (.bl false)) (fCons (fC (.str "")) (fCons (fPure (fLst fNil)) (fCons (fTup fNil) (fCons (fC (.str "None")) fNil)))))))) (fCall c_f_law_take (fCons (fVar 0) (fCons (fC (.int 6)) fNil))) ixD))
   skipS)
 (seqS (ifS (fTst (fBin (fBin (fVar 1) (fC (.int 0)) ixD) (fC (.str "number")) (eqS id)))
   (retS (fBin (fPure (fLst (fCons (fBin (fBin (fVar 1) (fC (.int 1)) ixD) (fC (.int 1)) subD) (fCons (fBin (fBin (fVar 1) (fC (.int 2)) ixD) (fC (.int 1)) add5) (fCons (fC (.bl true)) (fCons (fC .non) (fCons (fB (fCons (fVar 2) fNil) strD) (fCons (fPure (fLst (fCons (fVar 2) fNil))) (fCons (fTup (fCons (fVar 2) fNil)) fNil))))))))) (fCall c_f_law_take (fCons (fVar 0) (fCons (fC (.int 7)) fNil))) ixD))
   skipS)
 (seqS (ifS (fTst (fBin (fBin (fVar 1) (fC (.int 0)) ixD) (fC (.str "text")) (eqS id)))
   (seqS (setS 3 (fSl (fVar 2) fNo (fPart (fB (fCons (fC (.int 0)) (fCons (fBin (fBin (fVar 1) (fC (.int 1)) ixD) (fC (.int 1)) subD) fNil)) maxD)) sl3D))
 (seqS (setS 4 (fCall c_f_law_take (fCons (fVar 0) (fCons (fBin (fB (fCons (fVar 3) fNil) lenD) (fC (.int 1)) add5) fNil))))
 (seqS (setS 5 (fBin (fPure (fLst (fCons (fBin (fBin (fSl (fVar 3) fNo (fPart (fVar 4)) sl3D) (fC (.str "\t")) add5) (fSl (fVar 3) (fPart (fVar 4)) fNo sl3D) add5) (fCons (fBin (fBin (fSl (fVar 3) fNo (fPart (fVar 4)) sl3D) (fC (.str "\n")) add5) (fSl (fVar 3) (fPart (fVar 4)) fNo sl3D) add5) fNil)))) (fCall c_f_law_take (fCons (fVar 0) (fCons (fC (.int 2)) fNil))) ixD))
 (retS (fBin (fPure (fLst (fCons (fBin (fC (.str "a")) (fBin (fBin (fVar 1) (fC (.int 1)) ixD) (fC (.int 1)) add5) mul4) (fCons (fVar 5) (fCons (fC .non) (fCons (fC (.int 5)) (fCons (fPure (fLst (fCons (fC (.str "a")) fNil))) (fCons (fTup (fCons (fC (.str "a")) fNil)) (fCons (fVar 5) (fCons (fPure (fBF (fCons (fVar 2) fNil) lstF2)) fNil)))))))))) (fCall c_f_law_take (fCons (fVar 0) (fCons (fC (.int 8)) fNil))) ixD)))))
   skipS)
 (seqS (ifS (fTst (fBin (fBin (fVar 1) (fC (.int 0)) ixD) (fC (.str "list")) (eqS id)))
   (seqS (setS 6 (fPure (fComp 1 [0,1] (fRng1 (fCons (fBin (fB (fCons (fBin (fVar 1) (fC (.int 2)) ixD) (fCons (fC (.int 5)) fNil)) minD) (fC (.int 1)) add5) fNil)) (putV 0) tTru (fCall c_f_law_value (fCons (fVar 1) (fCons (fBin (fVar 2) (fC (.int 1)) ixD) fNil))))))
 (seqS (ifS (fTst (fBin (fBin (fVar 1) (fC (.int 2)) ixD) (fC (.int 5)) gtA))
   (setS 6 (fBin (fVar 2) (fPure (fLst (fCons fDic fNil))) add5))
   skipS)
 (retS (fBin (fPure (fLst (fCons (fB (fCons (fVar 2) fNil) tupD) (fCons (fC .non) (fCons (fC (.int 5)) (fCons (fC (.str "")) (fCons fDic (fCons (fPure (fLst (fCons fDic fNil))) (fCons (fBin (fVar 2) (fPure (fLst (fCons fDic fNil))) add5) (fCons (fVar 6) fNil)))))))))) (fCall c_f_law_take (fCons (fVar 0) (fCons (fC (.int 8)) fNil))) ixD))))
   skipS)
 (seqS (ifS (fTst (fBin (fBin (fVar 1) (fC (.int 0)) ixD) (fC (.str "pair")) (eqS id)))
   (retS (fBin (fPure (fLst (fCons (fPure (fBF (fCons (fVar 2) fNil) lstF2)) (fCons (fSl (fVar 2) fNo (fPart (fC (.int 1))) sl3D) (fCons (fBin (fVar 2) (fTup (fCons (fC .non) fNil)) add5) (fCons (fC .non) (fCons (fTup (fCons (fBin (fVar 2) (fC (.int 0)) ixD) (fCons fDic fNil))) (fCons (fTup (fCons fDic (fCons (fBin (fVar 2) (fC (.int 1)) ixD) fNil))) (fCons (fTup fNil) fNil))))))))) (fCall c_f_law_take (fCons (fVar 0) (fCons (fC (.int 7)) fNil))) ixD))
   skipS)
 (seqS (ownS 7 (fLst (fCons (fBin (fTup (fCons (fC (.str "if")) fNil)) (fSl (fVar 2) (fPart (fC (.int 1))) fNo sl3D) add5) (fCons (fSl (fVar 2) fNo (fPart (fC (.int 2))) sl3D) (fCons (fBin (fVar 2) (fTup (fCons (fC .non) fNil)) add5) (fCons (fPure (fBF (fCons (fVar 2) fNil) lstF2)) (fCons (fTup (fCons (fC (.str "of")) (fCons (fB (fCons (fBin (fVar 1) (fC (.int 1)) ixD) fNil) lenD) (fCons (fBin (fVar 2) (fC (.int 2)) ixD) fNil)))) fNil)))))))
 (seqS (ownS 7 (bnd (fVar 7) fun x=>bnd (fPure (fLst (fCons (fTup (fCons (fC (.str "of")) (fCons (fUn (fC (.int 1)) negD) (fCons (fBin (fVar 2) (fC (.int 2)) ixD) fNil)))) (fCons (fSl (fVar 2) (fPart (fC (.int 1))) fNo sl3D) (fCons (fTup (fCons (fC (.str "of")) (fCons (fBin (fVar 2) (fC (.int 1)) ixD) (fCons fDic fNil)))) (fCons (fC .non) fNil)))))) fun y=>catF x y))
 (seqS (setS 8 (fAndV (fBin (fB (fCons (fBin (fVar 1) (fC (.int 1)) ixD) fNil) lenD) (fC (.int 1)) gtA) (fBin (fCall c_f_law_take (fCons (fVar 0) (fCons (fC (.int 2)) fNil))) (fC (.int 0)) (eqS id))))
 (seqS (ownM 7 app1 (fCons (fTup (fCons (fC (.str "of")) (fCons (fVar 8) (fCons (fCall c_f_law_value (fCons (fVar 0) (fCons (fBin (fBin (fVar 1) (fC (.int 1)) ixD) (fB (fCons (fVar 8) fNil) intD) ixD) fNil))) fNil)))) fNil))
 (retS (fBin (fVar 7) (fCall c_f_law_take (fCons (fVar 0) (fCons (fC (.int 10)) fNil))) ixD)))))))))))
def m_f_law_spoilt_v6 (c_f_law_odd c_f_law_take c_f_law_spoilt:Fn):M Out:=
 (seqS (ifS (fAnd (fTst (fBin (fBin (fVar 1) (fC (.int 0)) ixD) (fC (.str "list")) (eqS id))) (fAnd (fTst (fBin (fVar 2) (fPure (fLst fNil)) (eqS fun b=>!b))) (fTst (fBin (fCall c_f_law_take (fCons (fVar 0) (fCons (fC (.int 3)) fNil))) (fC (.int 0)) gtA))))
   (seqS (setS 3 (fCall c_f_law_take (fCons (fVar 0) (fCons (fB (fCons (fVar 2) fNil) lenD) fNil))))
 (retS (fBin (fBin (fSl (fVar 2) fNo (fPart (fVar 3)) sl3D) (fPure (fLst (fCons (fCall c_f_law_spoilt (fCons (fVar 0) (fCons (fBin (fVar 1) (fC (.int 1)) ixD) (fCons (fBin (fVar 2) (fVar 3) ixD) fNil)))) fNil))) add5) (fSl (fVar 2) (fPart (fBin (fVar 3) (fC (.int 1)) add5)) fNo sl3D) add5)))
   skipS)
 (seqS (ifS (fAnd (fTst (fBin (fBin (fVar 1) (fC (.int 0)) ixD) (fC (.str "pair")) (eqS id))) (fTst (fBin (fCall c_f_law_take (fCons (fVar 0) (fCons (fC (.int 3)) fNil))) (fC (.int 0)) gtA)))
   (seqS (ifS (fTst (fBin (fCall c_f_law_take (fCons (fVar 0) (fCons (fC (.int 2)) fNil))) (fC (.int 0)) (eqS id)))
   (retS (fTup (fCons (fCall c_f_law_spoilt (fCons (fVar 0) (fCons (fBin (fVar 1) (fC (.int 1)) ixD) (fCons (fBin (fVar 2) (fC (.int 0)) ixD) fNil)))) (fCons (fBin (fVar 2) (fC (.int 1)) ixD) fNil))))
   skipS)
 (retS (fTup (fCons (fBin (fVar 2) (fC (.int 0)) ixD) (fCons (fCall c_f_law_spoilt (fCons (fVar 0) (fCons (fBin (fVar 1) (fC (.int 2)) ixD) (fCons (fBin (fVar 2) (fC (.int 1)) ixD) fNil)))) fNil)))))
   skipS)
 (seqS (ifS (fAnd (fTst (fBin (fBin (fVar 1) (fC (.int 0)) ixD) (fC (.str "choice")) (eqS id))) (fTst (fBin (fCall c_f_law_take (fCons (fVar 0) (fCons (fC (.int 3)) fNil))) (fC (.int 0)) gtA)))
   (retS (fTup (fCons (fC (.str "of")) (fCons (fBin (fVar 2) (fC (.int 1)) ixD) (fCons (fCall c_f_law_spoilt (fCons (fVar 0) (fCons (fBin (fBin (fVar 1) (fC (.int 1)) ixD) (fBin (fVar 2) (fC (.int 1)) ixD) ixD) (fCons (fBin (fVar 2) (fC (.int 2)) ixD) fNil)))) fNil)))))
   skipS)
 (retS (fCall c_f_law_odd (fCons (fVar 0) (fCons (fVar 1) (fCons (fVar 2) fNil))))))))
def m_f_law_refused_v5 (c_f_law_kinds c_show_value_:Fn):M Out:=
 (seqS (setS 2 (fC .non))
 (seqS (tryS (dropX (fCall c_show_value_ (fCons (fVar 0) (fCons (fVar 1) fNil)))) (hAs "ParleyError" 3 (setS 2 (fVar 3)) hNil))
 (retS (fAndV (fBin (fVar 2) (fC .non) isNotC) (fBin (fCall c_f_law_kinds (fCons (fVar 2) fNil)) (fBin (fBin (fPure (fLst (fCons (fC (.bl true)) fNil))) (fBin (fPure (fLst (fCons (fC (.bl false)) fNil))) (fC (.int 6)) mul4) add5) (fPure (fLst (fCons (fC (.bl true)) fNil))) add5) (eqS id))))))
def m_law_K66 (c_show_value_ c_f_law_spoilt c_f_law_refused c_f_law_worth c_f_law_value c_f_law_deep c_f_law_pool:Fn):M Out:=
 (seqS (forS (fRng1 (fCons (fB (fCons (fC (.int 63)) (fCons (fB (fCons (fVar 0) fNil) lenD) fNil)) minD) fNil)) (putV 1)
   (seqS (setS 2 (fCall c_f_law_pool (fCons (fVar 0) (fCons (fVar 1) fNil))))
 (seqS (setS 3 (fCall c_f_law_deep (fCons (fVar 2) fNil)))
 (seqS (setS 4 (fCall c_f_law_value (fCons (fVar 2) (fCons (fVar 3) fNil))))
 (seqS (setS 5 (fCall c_f_law_worth (fCons (fVar 4) fNil)))
 (seqS (ifS (fOr (fTst (fBin (fCall (okFn c_show_value_) (fCons (fVar 3) (fCons (fVar 4) fNil))) (fVar 5) (eqS fun b=>!b))) (fNot (fTst (fCall c_f_law_refused (fCons (fVar 3) (fCons (fCall c_f_law_spoilt (fCons (fVar 2) (fCons (fVar 3) (fCons (fVar 4) fNil)))) fNil))))))
   (retS (fC (.bl false)))
   skipS)
 (ifS (fTst (fBin (fCall (okFn c_show_value_) (fCons (fVar 3) (fCons (fVar 4) fNil))) (fVar 5) (eqS fun b=>!b)))
   (retS (fC (.bl false)))
   skipS)))))))
 (retS (fC (.bl true))))
end LW
set_option linter.all false
set_option autoImplicit false
set_option maxRecDepth 100000
namespace F2
open PySem L2
def W {α:Type} (m:M α) (t:T) (P:α→T→Prop):Prop:=∃a t',m t=some (a,t')∧P a t'
def Wf (g:Fn) (ds:List D) (S:List Ob) (P:D→List Ob→Prop):Prop:=∃r S',g ds S=some (r,S')∧P r S'
theorem W.mono {α:Type} {m:M α} {t:T} {P Q:α→T→Prop} (h:W m t P) (i:∀a t',P a t'→Q a t'):W m t Q:=by
 obtain ⟨a,t',e,p⟩:=h
 exact ⟨a,t',e,i a t' p⟩
theorem Wf.mono {g:Fn} {ds:List D} {S:List Ob} {P Q:D→List Ob→Prop} (h:Wf g ds S P) (i:∀r S',P r S'→Q r S'):Wf g ds S Q:=by
 obtain ⟨a,t',e,p⟩:=h
 exact ⟨a,t',e,i a t' p⟩
section
variable {α β:Type}
theorem W_some {m:M α} {t:T} {P:α→T→Prop} {a:α} {t':T} (e:m t=some (a,t')):W m t P↔P a t':=by
 constructor
 ·rintro ⟨a',t1,e',p⟩;rw [e] at e';cases e';exact p
 ·exact fun p=>⟨a,t',e,p⟩
theorem W_none {m:M α} {t:T} {P:α→T→Prop} (e:m t=none):W m t P↔False:=by
 constructor
 ·rintro ⟨a',t1,e',p⟩;rw [e] at e';cases e'
 ·exact False.elim
@[simp] theorem W_ret {a:α} {t:T} {P:α→T→Prop}:W (ret a) t P↔P a t:=W_some rfl
@[simp] theorem W_fail {t:T} {P:α→T→Prop}:W (fail:M α) t P↔False:=W_none rfl
@[simp] theorem W_bnd {f:M α} {g:α→M β} {t:T} {P:β→T→Prop}:W (bnd f g) t P↔W f t fun a t1=>W (g a) t1 P:=by
 constructor
 ·rintro ⟨b,t',e,p⟩
  obtain ⟨a,t1,e1,e2⟩:=bnd_some e
  exact ⟨a,t1,e1,b,t',e2,p⟩
 ·rintro ⟨a,t1,e1,b,t',e2,p⟩
  exact ⟨b,t',by unfold bnd;rw [e1];exact e2,p⟩
@[simp] theorem W_ite {c:Prop} [Decidable c] {f g:M α} {t:T} {P:α→T→Prop}:W (if c then f else g) t P↔if c then W f t P else W g t P:=by split <;> rfl
@[simp] theorem W_lim {n:Nat} {a:α} {t:T} {P:α→T→Prop}:W (lim n a) t P↔n≤LIM∧P a t:=by
 unfold lim
 constructor
 ·rintro ⟨a',t',e,p⟩
  split at e
  ·cases e;exact ⟨by assumption,p⟩
  ·cases e
 ·rintro ⟨h,p⟩
  exact ⟨a,t,by simp only [h,if_true],p⟩
end
variable {t:T} {env:List (Option Sl)} {S:List Ob}
@[simp] theorem W_fC {d:D} {P:D→T→Prop}:W (fC d) t P↔P d t:=W_some rfl
@[simp] theorem W_fVar {i:Nat} {P:D→T→Prop}:W (fVar i) t P↔match t.env[i]? with
 | some (some (.val d))=>P d t
 | some (some (.own ds))=>P (.lst ds) ⟨t.env.set i (some (.val (.lst ds))),t.S⟩
 | _=>False:=by
 cases e:t.env[i]? with
 | none=>exact W_none (by unfold fVar;simp [e])
 | some o=>
   cases o with
   | none=>exact W_none (by unfold fVar;simp [e])
   | some sl=>
     cases sl with
     | val d=>exact W_some (by unfold fVar;simp [e])
     | own ds=>exact W_some (by unfold fVar;simp [e])
@[simp] theorem W_fBin {f g:M D} {h:D→D→M D} {P:D→T→Prop}:W (fBin f g h) t P↔W f t fun x t1=>W g t1 fun y t2=>W (h x y) t2 P:=by simp [fBin]
@[simp] theorem W_fUn {f:M D} {h:D→M D} {P:D→T→Prop}:W (fUn f h) t P↔W f t fun x t1=>W (h x) t1 P:=by simp [fUn]
@[simp] theorem W_toB {b:Bool} {P:Bool→T→Prop}:W (toB (.bl b)) t P↔P b t:=W_some rfl
@[simp] theorem W_fTst {f:M D} {P:Bool→T→Prop}:W (fTst f) t P↔W f t fun x t1=>W (toB x) t1 P:=by simp [fTst]
@[simp] theorem W_fChain {f g w:M D} {h h':D→D→M D} {P:D→T→Prop}:W (fChain f g w h h') t P↔W f t fun x t1=>W g t1 fun y t2=>W (h x y) t2 fun k t3=>W (toB k) t3 fun k t4=>if k=true then W w t4 fun z t5=>W (h' y z) t5 P else P (.bl false) t4:=by
 simp [fChain]
@[simp] theorem W_fAnd {f g:M Bool} {P:Bool→T→Prop}:W (fAnd f g) t P↔W f t fun k t1=>if k=true then W g t1 P else P false t1:=by simp [fAnd]
@[simp] theorem W_fOr {f g:M Bool} {P:Bool→T→Prop}:W (fOr f g) t P↔W f t fun k t1=>if k=true then P true t1 else W g t1 P:=by simp [fOr]
@[simp] theorem W_fNot {f:M Bool} {P:Bool→T→Prop}:W (fNot f) t P↔W f t fun k t1=>P (!k) t1:=by simp [fNot]
@[simp] theorem W_fAndV {f g:M D} {P:D→T→Prop}:W (fAndV f g) t P↔W f t fun x t1=>W (toB x) t1 fun k t2=>if k=true then W g t2 P else P (.bl false) t2:=by simp [fAndV]
@[simp] theorem W_fOrV {f g:M D} {P:D→T→Prop}:W (fOrV f g) t P↔W f t fun x t1=>W (toB x) t1 fun k t2=>if k=true then P (.bl true) t2 else W g t2 P:=by simp [fOrV]
@[simp] theorem W_fNotV {f:M D} {P:D→T→Prop}:W (fNotV f) t P↔W f t fun x t1=>W (toB x) t1 fun k t2=>P (.bl (!k)) t2:=by simp [fNotV]
@[simp] theorem W_fIf {f:M Bool} {g h:M D} {P:D→T→Prop}:W (fIf f g h) t P↔W f t fun k t1=>if k=true then W g t1 P else W h t1 P:=by simp [fIf]
@[simp] theorem W_fNil {P:List D→T→Prop}:W fNil t P↔P [] t:=W_some rfl
@[simp] theorem W_fCons {f:M D} {g:M (List D)} {P:List D→T→Prop}:W (fCons f g) t P↔W f t fun d t1=>W g t1 fun ds t2=>P (d :: ds) t2:=by simp [fCons]
@[simp] theorem W_fTup {f:M (List D)} {P:D→T→Prop}:W (fTup f) t P↔W f t fun ds t1=>ds.length≤LIM∧P (.tup ds) t1:=by simp [fTup]
@[simp] theorem W_fLst {f:M (List D)} {P:List D→T→Prop}:W (fLst f) t P↔W f t fun ds t1=>ds.length≤LIM∧P ds t1:=by simp [fLst]
@[simp] theorem W_fPure {f:M (List D)} {P:D→T→Prop}:W (fPure f) t P↔W f t fun ds t1=>P (.lst ds) t1:=by simp [fPure]
@[simp] theorem W_newOb {o:Ob} {P:D→T→Prop}:W (newOb o) t P↔P (.obj t.S.length) ⟨t.env,t.S++[o]⟩:=W_some rfl
@[simp] theorem W_fObj {f:M (List D)} {P:D→T→Prop}:W (fObj f) t P↔W f t fun ds t1=>W (newOb (.lst ds)) t1 P:=by simp [fObj]
@[simp] theorem W_fCall {g:Fn} {f:M (List D)} {P:D→T→Prop}:W (fCall g f) t P↔W f t fun ds t1=>Wf g ds t1.S fun r S'=>P r ⟨t1.env,S'⟩:=by
 unfold fCall
 rw [W_bnd]
 constructor
 ·rintro ⟨ds,t1,e1,r,t',e2,p⟩
  refine ⟨ds,t1,e1,?_⟩
  dsimp only at e2
  cases e:g ds t1.S with
  | none=>rw [e] at e2;cases e2
  | some z=>obtain ⟨r',S'⟩:=z;rw [e] at e2;cases e2;exact ⟨r,_,e,p⟩
 ·rintro ⟨ds,t1,e1,r,S',e2,p⟩
  exact ⟨ds,t1,e1,r,_,by simp only [e2],p⟩
@[simp] theorem W_fB {f:M (List D)} {h:List D→M D} {P:D→T→Prop}:W (fB f h) t P↔W f t fun ds t1=>W (h ds) t1 P:=by simp [fB]
@[simp] theorem W_fBF {f:M (List D)} {h:List D→M (List D)} {P:List D→T→Prop}:W (fBF f h) t P↔W f t fun ds t1=>W (h ds) t1 P:=by simp [fBF]
@[simp] theorem W_seqS {f g:M Out} {P:Out→T→Prop}:W (seqS f g) t P↔W f t fun o t1=>match o with
 | .next=>W g t1 P
 | .brk=>P .brk t1
 | .cont=>P .cont t1
 | .ret d=>P (.ret d) t1:=by
 unfold seqS
 constructor
 ·rintro ⟨o,t',e,p⟩
  dsimp only at e
  cases e1:f t with
  | none=>rw [e1] at e;cases e
  | some z=>
    obtain ⟨o1,t1⟩:=z
    rw [e1] at e
    refine ⟨o1,t1,e1,?_⟩
    cases o1 with
    | next=>exact ⟨o,t',e,p⟩
    | brk=>cases e;exact p
    | cont=>cases e;exact p
    | ret d=>cases e;exact p
 ·rintro ⟨o,t1,e,p⟩
  cases o with
  | next=>obtain ⟨o,t',e',p⟩:=p;exact ⟨o,t',by simp only [e];exact e',p⟩
  | brk=>exact ⟨_,_,by simp only [e],p⟩
  | cont=>exact ⟨_,_,by simp only [e],p⟩
  | ret d=>exact ⟨_,_,by simp only [e],p⟩
@[simp] theorem W_skipS {P:Out→T→Prop}:W skipS t P↔P .next t:=W_some rfl
@[simp] theorem W_retS {f:M D} {P:Out→T→Prop}:W (retS f) t P↔W f t fun d t1=>P (.ret d) t1:=by simp [retS]
@[simp] theorem W_dropS {f:M D} {P:Out→T→Prop}:W (dropS f) t P↔W f t fun d t1=>P .next t1:=by simp [dropS]
@[simp] theorem W_ifS {f:M Bool} {g h:M Out} {P:Out→T→Prop}:W (ifS f g h) t P↔W f t fun k t1=>if k=true then W g t1 P else W h t1 P:=by simp [ifS]
@[simp] theorem W_putV {i:Nat} {d:D} {P:Unit→T→Prop}:W (putV i d) t P↔P () ⟨t.env.set i (some (.val d)),t.S⟩:=W_some rfl
@[simp] theorem W_setS {i:Nat} {f:M D} {P:Out→T→Prop}:W (setS i f) t P↔W f t fun d t1=>P .next ⟨t1.env.set i (some (.val d)),t1.S⟩:=by
 simp only [setS,W_bnd,W_ret,W_putV]
@[simp] theorem W_ownS {i:Nat} {f:M (List D)} {P:Out→T→Prop}:W (ownS i f) t P↔W f t fun ds t1=>P .next ⟨t1.env.set i (some (.own ds)),t1.S⟩:=by
 unfold ownS;rw [W_bnd]
 have:∀(ds:List D) (t1:T),W (fun t:T=>some (Out.next,({ t with env:=t.env.set i (some (.own ds)) }:T))) t1 P↔P .next ⟨t1.env.set i (some (.own ds)),t1.S⟩:=fun ds t1=>W_some rfl
 simp only [this]
@[simp] theorem W_asgS {f:M D} {g:D→M Unit} {P:Out→T→Prop}:W (asgS f g) t P↔W f t fun d t1=>W (g d) t1 fun _ t2=>P .next t2:=by simp [asgS]
@[simp] theorem W_putNil {P:Unit→T→Prop}:W (putNil []) t P↔P () t:=W_some rfl
@[simp] theorem W_putCons {f:D→M Unit} {g:List D→M Unit} {d:D} {ds:List D} {P:Unit→T→Prop}:W (putCons f g (d :: ds)) t P↔W (f d) t fun _ t1=>W (g ds) t1 P:=by simp [putCons]
@[simp] theorem W_unS_lst {n:Nat} {g:List D→M Unit} {ds:List D} {P:Unit→T→Prop}:W (unS n g (.lst ds)) t P↔ds.length=n∧W (g ds) t P:=by
 unfold unS;simp only [W_ite,W_fail];split <;> simp [*]
@[simp] theorem W_unS_tup {n:Nat} {g:List D→M Unit} {ds:List D} {P:Unit→T→Prop}:W (unS n g (.tup ds)) t P↔ds.length=n∧W (g ds) t P:=by
 unfold unS;simp only [W_ite,W_fail];split <;> simp [*]
@[simp] theorem W_forS {f:M (List D)} {st:D→M Unit} {b:M Out} {P:Out→T→Prop}:W (forS f st b) t P↔W f t fun ds t1=>W (forL st b ds) t1 P:=by simp [forS]
@[simp] theorem W_forL_nil {st:D→M Unit} {b:M Out} {P:Out→T→Prop}:W (forL st b []) t P↔P .next t:=W_some rfl
theorem W_forL_cons {st:D→M Unit} {b:M Out} {d:D} {r:List D} {P:Out→T→Prop}:W (forL st b (d :: r)) t P↔W (st d) t fun _ t1=>W b t1 fun o t2=>match o with
 | .next=>W (forL st b r) t2 P
 | .cont=>W (forL st b r) t2 P
 | .brk=>P .next t2
 | .ret x=>P (.ret x) t2:=by
 constructor
 ·rintro ⟨o,t',e,p⟩
  unfold forL at e
  cases e1:st d t with
  | none=>rw [e1] at e;cases e
  | some z=>
    obtain ⟨u,t1⟩:=z
    rw [e1] at e
    try dsimp only at e
    refine ⟨u,t1,e1,?_⟩
    cases e2:b t1 with
    | none=>rw [e2] at e;cases e
    | some z=>
      obtain ⟨o2,t2⟩:=z
      rw [e2] at e
      try dsimp only at e
      refine ⟨o2,t2,e2,?_⟩
      cases o2 with
      | next=>exact ⟨o,t',e,p⟩
      | cont=>exact ⟨o,t',e,p⟩
      | brk=>cases e;exact p
      | ret x=>cases e;exact p
 ·rintro ⟨u,t1,e1,o,t2,e2,p⟩
  cases o with
  | next=>obtain ⟨o,t',e',p⟩:=p;exact ⟨o,t',by unfold forL;simp only [e1,e2];exact e',p⟩
  | cont=>obtain ⟨o,t',e',p⟩:=p;exact ⟨o,t',by unfold forL;simp only [e1,e2];exact e',p⟩
  | brk=>exact ⟨_,_,by unfold forL;simp only [e1,e2],p⟩
  | ret x=>exact ⟨_,_,by unfold forL;simp only [e1,e2],p⟩
theorem W_for {st:D→M Unit} {b:M Out} {P:Out→T→Prop} (I:List D→T→Prop):∀(ds:List D) (t:T),I ds t→
 (∀d r t,I (d :: r) t→d∈ds→W (st d) t fun _ t1=>W b t1 fun o t2=>match o with
   | .next=>I r t2
   | .cont=>I r t2
   | .brk=>P .next t2
   | .ret x=>P (.ret x) t2)→(∀t,I [] t→P .next t)→W (forL st b ds) t P
 | [],t,h,_,fin=>W_forL_nil.mpr (fin t h)
 | d :: r,t,h,turn,fin=>by
   rw [W_forL_cons]
   refine (turn d r t h List.mem_cons_self).mono fun _ t1 h1=>h1.mono fun o t2 h2=>?_
   cases o with
   | next=>exact W_for I r t2 h2 (fun d' r' t' h' m=>turn d' r' t' h' (List.mem_cons_of_mem _ m)) fin
   | cont=>exact W_for I r t2 h2 (fun d' r' t' h' m=>turn d' r' t' h' (List.mem_cons_of_mem _ m)) fin
   | brk=>exact h2
   | ret x=>exact h2
@[simp] theorem W_fComp {n:Nat} {fr:List Nat} {f:M (List D)} {st:D→M Unit} {tst:M Bool} {elt:M D} {P:List D→T→Prop}:W (fComp n fr f st tst elt) t P↔W f t fun ds t1=>W (compL st tst elt ds) ⟨cenv n fr t1.env,t1.S⟩ fun xs t'=>xs.length≤LIM∧P xs ⟨t1.env,t'.S⟩:=by
 unfold fComp
 rw [W_bnd]
 constructor
 ·rintro ⟨ds,t1,e1,xs,t',e2,p⟩
  refine ⟨ds,t1,e1,?_⟩
  dsimp only at e2
  cases e:compL st tst elt ds ⟨cenv n fr t1.env,t1.S⟩ with
  | none=>rw [e] at e2;cases e2
  | some z=>
    obtain ⟨ys,t3⟩:=z
    rw [e] at e2
    dsimp only at e2
    split at e2
    ·cases e2;exact ⟨_,_,e,by assumption,p⟩
    ·cases e2
 ·rintro ⟨ds,t1,e1,xs,t',e2,h,p⟩
  exact ⟨ds,t1,e1,xs,_,by simp only [e2,h,if_true],p⟩
@[simp] theorem W_compL_nil {st:D→M Unit} {tst:M Bool} {elt:M D} {P:List D→T→Prop}:W (compL st tst elt []) t P↔P [] t:=W_some rfl
theorem W_compL_cons {st:D→M Unit} {tst:M Bool} {elt:M D} {d:D} {r:List D} {P:List D→T→Prop}:W (compL st tst elt (d :: r)) t P↔W (st d) t fun _ t1=>W tst t1 fun k t2=>
 if k=true then W elt t2 fun x t3=>W (compL st tst elt r) t3 fun xs t4=>P (x :: xs) t4 else W (compL st tst elt r) t2 P:=by
 rw [compL];simp
theorem W_comp {st:D→M Unit} {tst:M Bool} {elt:M D} {P:List D→T→Prop} (I:List D→List D→T→Prop):∀(ds:List D) (acc:List D) (t:T),I acc ds t→
 (∀acc d r t,I acc (d :: r) t→d∈ds→W (st d) t fun _ t1=>W tst t1 fun k t2=>if k=true then W elt t2 fun x t3=>I (acc++[x]) r t3 else I acc r t2)→
 (∀acc t,I acc [] t→P acc t)→W (compL st tst elt ds) t fun xs t'=>P (acc++xs) t'
 | [],acc,t,h,_,fin=>W_compL_nil.mpr (by rw [List.append_nil];exact fin acc t h)
 | d :: r,acc,t,h,turn,fin=>by
   rw [W_compL_cons]
   have turn':∀acc d' r' t',I acc (d' :: r') t'→d'∈r→_:=fun acc d' r' t' h' m=>turn acc d' r' t' h' (List.mem_cons_of_mem _ m)
   refine (turn acc d r t h List.mem_cons_self).mono fun _ t1 h1=>h1.mono fun k t2 h2=>?_
   cases k with
   | true=>
     rw [if_pos rfl] at h2 ⊢
     refine h2.mono fun x t3 h3=>(W_comp I r (acc++[x]) t3 h3 turn' fin).mono fun xs t4 h4=>?_
     rw [List.append_assoc] at h4
     exact h4
   | false=>
     rw [if_neg Bool.false_ne_true] at h2 ⊢
     exact W_comp I r acc t2 h2 turn' fin
theorem Wf_fnOf {n m:Nat} {g:M Out} {ds:List D} {P:D→List Ob→Prop} (h:ds.length=n) (w:W g ⟨env0 m ds,S⟩ fun o t=>match o with
 | .ret r=>P r t.S
 | .next=>P .non t.S
 | _=>False):Wf (fnOf n m g) ds S P:=by
 obtain ⟨o,t,e,p⟩:=w
 cases o with
 | ret r=>exact ⟨r,t.S,by unfold fnOf;rw [if_pos h,e],p⟩
 | next=>exact ⟨.non,t.S,by unfold fnOf;rw [if_pos h,e],p⟩
 | brk=>exact p.elim
 | cont=>exact p.elim
@[simp] theorem W_tTru {P:Bool→T→Prop}:W tTru t P↔P true t:=W_some rfl
@[simp] theorem W_fDic {P:D→T→Prop}:W fDic t P↔P .dic t:=W_some rfl
end F2
set_option linter.all false
set_option autoImplicit false
set_option maxRecDepth 100000
namespace F2
open PySem L2
variable {t:T} {P:D→T→Prop}
theorem W_map {α β:Type} {o:Option β} {g:β→α×T} {Q:α→T→Prop} {m:M α} (e:m t=o.map g):W m t Q↔∃b,o=some b∧Q (g b).1 (g b).2:=by
 constructor
 ·rintro ⟨a,t',e',p⟩
  rw [e] at e'
  obtain ⟨b,h1,h2⟩:=Option.map_eq_some_iff.mp e'
  exact ⟨b,h1,by rw [h2];exact p⟩
 ·rintro ⟨b,h,p⟩
  exact ⟨_,_,by rw [e,h];rfl,p⟩
theorem W_if {α:Type} {c:Prop} [Decidable c] {z:α×T} {Q:α→T→Prop} {m:M α} (e:m t=if c then some z else none):W m t Q↔c∧Q z.1 z.2:=by
 constructor
 ·rintro ⟨a,t',e',p⟩
  rw [e] at e'
  split at e'
  ·cases e';exact ⟨by assumption,p⟩
  ·cases e'
 ·rintro ⟨h,p⟩
  exact ⟨_,_,by rw [e,if_pos h],p⟩
theorem W_map2 {α β:Type} {o:Option β} (f:β→α) {Q:α→T→Prop} {m:M α} (e:m t=o.map fun b=>(f b,t)):W m t Q↔∃b,o=some b∧Q (f b) t:=W_map (g:=fun b=>(f b,t)) e
theorem W_if2 {α:Type} {c:Prop} [Decidable c] {a:α} {Q:α→T→Prop} {m:M α} (e:m t=if c then some (a,t) else none):W m t Q↔c∧Q a t:=W_if (z:=(a,t)) e
@[simp] theorem W_ix_tup {ds:List D} {i:Int}:W (ixD (.tup ds) (.int i)) t P↔∃d,atI ds i=some d∧P d t:=W_map2 id rfl
@[simp] theorem W_ix_lst {ds:List D} {i:Int}:W (ixD (.lst ds) (.int i)) t P↔∃d,atI ds i=some d∧P d t:=W_map2 id rfl
@[simp] theorem W_ix_str {x:Str} {i:Int}:W (ixD (.str x) (.int i)) t P↔x.length≤LIM∧∃n,atI x.cps.toList i=some n∧P (.str ⟨#[n]⟩) t:=by
 by_cases h:x.length≤LIM
 ·have:ixD (.str x) (.int i) t=(atI x.cps.toList i).map fun n=>(.str ⟨#[n]⟩,t):=by simp only [ixD,h,if_true]
  rw [W_map this];simp [h]
 ·rw [W_none (by simp only [ixD,h,if_false])];simp [h]
@[simp] theorem atI_0 {α:Type} {a:α} {r:List α}:atI (a :: r) 0=some a:=by simp [atI,ixN]
@[simp] theorem atI_1 {α:Type} {a b:α} {r:List α}:atI (a :: b :: r) 1=some b:=by
 have:(1:Int) < ((a :: b :: r).length:Nat):=by simp;omega
 simp only [atI,ixN,this,if_true,show (0:Int)≤1 by decide];rfl
@[simp] theorem atI_2 {α:Type} {a b c:α} {r:List α}:atI (a :: b :: c :: r) 2=some c:=by
 have:(2:Int) < ((a :: b :: c :: r).length:Nat):=by simp;omega
 simp only [atI,ixN,this,if_true,show (0:Int)≤2 by decide];rfl
theorem atI_pos {α:Type} {xs:List α} {i:Int} (h0:0≤i) (h1:i < xs.length):∃d,atI xs i=some d∧d∈xs∧xs[i.toNat]?=some d:=by
 have hl:i.toNat < xs.length:=by omega
 refine ⟨xs[i.toNat],?_,List.getElem_mem hl,List.getElem?_eq_getElem hl⟩
 simp [atI,ixN,h0,h1,hl]
@[simp] theorem W_len_lst {ds:List D}:W (lenD [.lst ds]) t P↔P (.int ds.length) t:=W_some rfl
@[simp] theorem W_len_tup {ds:List D}:W (lenD [.tup ds]) t P↔P (.int ds.length) t:=W_some rfl
@[simp] theorem W_len_scr {ds:List Int}:W (lenD [.scr ds]) t P↔P (.int ds.length) t:=W_some rfl
@[simp] theorem W_len_str {x:Str}:W (lenD [.str x]) t P↔x.length≤LIM∧P (.int x.length) t:=by simp [lenD]
@[simp] theorem W_isi {d:D} {m:String}:W (isiD [d,.ty m]) t P↔∃n,tyD d=some n∧∃b,isiT n m=some b∧P (.bl b) t:=by
 cases e:tyD d with
 | none=>rw [W_none (by simp only [isiD,e])];simp
 | some n=>
   have:isiD [d,.ty m] t=(isiT n m).map fun b=>(.bl b,t):=by simp only [isiD,e]
   rw [W_map this];simp
def isNon:D→Bool
 | .non=>true
 | _=>false
def isBl (b:Bool):D→Bool
 | .bl c=>c == b
 | _=>false
@[simp] theorem W_is_non {x:D}:W (isC x .non) t P↔P (.bl (isNon x)) t:=W_some (by cases x <;> rfl)
@[simp] theorem W_is_bl {x:D} {b:Bool}:W (isC x (.bl b)) t P↔P (.bl (isBl b x)) t:=W_some (by cases x <;> rfl)
@[simp] theorem W_isNot {x y:D}:W (isNotC x y) t P↔W (isC x y) t fun d t1=>W (toB d) t1 fun b t2=>P (.bl (!b)) t2:=by
 unfold isNotC
 rw [W_bnd]
 constructor
 ·exact fun h=>h.mono fun d t1 h1=>by
   cases d with
   | bl b=>simpa using h1
   | _=>exact (W_fail.mp h1).elim
 ·exact fun h=>h.mono fun d t1 h1=>by
   cases d with
   | bl b=>simpa using h1
   | _=>obtain ⟨_,_,e,_⟩:=h1;cases e
@[simp] theorem W_add_int {i j:Int}:W (add5 (.int i) (.int j)) t P↔P (.int (i + j)) t:=W_some rfl
@[simp] theorem W_sub_int {i j:Int}:W (subD (.int i) (.int j)) t P↔P (.int (i - j)) t:=W_some rfl
@[simp] theorem W_lt_int {i j:Int}:W (ltA (.int i) (.int j)) t P↔P (.bl (decide (i < j))) t:=W_some rfl
@[simp] theorem W_le_int {i j:Int}:W (leA (.int i) (.int j)) t P↔P (.bl (decide (i≤j))) t:=W_some rfl
@[simp] theorem W_gt_int {i j:Int}:W (gtA (.int i) (.int j)) t P↔P (.bl (decide (j < i))) t:=W_some rfl
@[simp] theorem W_ge_int {i j:Int}:W (geA (.int i) (.int j)) t P↔P (.bl (decide (j≤i))) t:=W_some rfl
@[simp] theorem W_lt_str {i j:Str}:W (ltA (.str i) (.str j)) t P↔P (.bl (decide (i.cps.toList < j.cps.toList))) t:=W_some rfl
@[simp] theorem W_gt_str {i j:Str}:W (gtA (.str i) (.str j)) t P↔P (.bl (decide (j.cps.toList < i.cps.toList))) t:=W_some rfl
@[simp] theorem W_neg {i:Int}:W (negD (.int i)) t P↔P (.int (-i)) t:=W_some rfl
@[simp] theorem W_fdiv {i j:Int}:W (fdivD (.int i) (.int j)) t P↔(0 < j∧j < 1073741824)∧P (.int (i / j)) t:=by
 rw [W_if (m:=fdivD (.int i) (.int j)) (c:=divOk i j=true) (z:=(.int (i / j),t)) rfl];simp [divOk]
@[simp] theorem W_mod {i j:Int}:W (modD (.int i) (.int j)) t P↔0 < j∧P (.int (i % j)) t:=by
 rw [W_if (m:=modD (.int i) (.int j)) (c:=decide (0 < j)=true) (z:=(.int (i % j),t)) rfl];simp
@[simp] theorem W_pow {i j:Int}:W (powD (.int i) (.int j)) t P↔powOk i j=true∧P (.int (i ^ j.toNat)) t:=W_if2 rfl
@[simp] theorem W_mul_int {i j:Int}:W (mul4 (.int i) (.int j)) t P↔mulOk i j=true∧P (.int (i * j)) t:=W_if2 rfl
@[simp] theorem W_mul_lst {xs:List D} {k:Int}:W (mul4 (.lst xs) (.int k)) t P↔(small k=true∧xs.length * k.toNat≤LIM)∧P (.lst (List.replicate k.toNat xs).flatten) t:=W_if2 rfl
@[simp] theorem W_mul_str {x:Str} {k:Int}:W (mul4 (.str x) (.int k)) t P↔(small k=true∧x.length * k.toNat≤LIM∧k≤LIM∧x.length≤LIM)∧P (.str (Txt.mul x k)) t:=W_if2 rfl
theorem mulOk_l {i j:Int} (h1 : -18446744073709551616 < i) (h2:i < 18446744073709551616):mulOk i j=true:=by simp [mulOk,h1,h2]
theorem small_of {k:Int} (h1 : -4611686018427387904≤k) (h2:k < 4611686018427387904):small k=true:=by simp [small,h1,h2]
@[simp] theorem W_add_str {x y:Str}:W (add5 (.str x) (.str y)) t P↔x.length + y.length≤LIM∧P (.str (x++y)) t:=by
 have:add5 (.str x) (.str y)=lim (x.length + y.length) (.str (x++y)):=rfl
 rw [this];simp
@[simp] theorem W_add_lst {x y:List D}:W (add5 (.lst x) (.lst y)) t P↔x.length + y.length≤LIM∧P (.lst (x++y)) t:=by
 have:add5 (.lst x) (.lst y)=lim (x.length + y.length) (.lst (x++y)):=rfl
 rw [this];simp
@[simp] theorem W_add_tup {d:D} {x y:List D}:W (add5 (.tup (d :: x)) (.tup y)) t P↔x.length + 1 + y.length≤LIM∧P (.tup (d :: x++y)) t:=by
 have:add5 (.tup (d :: x)) (.tup y) t=if (d :: x).isEmpty=false∧(d :: x).length + y.length≤LIM then some (.tup (d :: x++y),t) else none:=rfl
 rw [W_if this];simp
@[simp] theorem W_add_tup0 {y:List D}:W (add5 (.tup []) (.tup y)) t P↔P (.tup y) t:=W_some rfl
@[simp] theorem W_cat {x y:List D} {Q:List D→T→Prop}:W (catF (.lst x) (.lst y)) t Q↔x.length + y.length≤LIM∧Q (x++y) t:=by
 have:catF (.lst x) (.lst y)=lim (x.length + y.length) (x++y):=rfl
 rw [this];simp
@[simp] theorem W_abs {i:Int}:W (absD [.int i]) t P↔P (.int (if i < 0 then -i else i)) t:=W_some rfl
@[simp] theorem W_min {i j:Int}:W (minD [.int i,.int j]) t P↔P (.int (if j < i then j else i)) t:=W_some rfl
@[simp] theorem W_max {i j:Int}:W (maxD [.int i,.int j]) t P↔P (.int (if j > i then j else i)) t:=W_some rfl
@[simp] theorem W_int_int {i:Int}:W (intD [.int i]) t P↔P (.int i) t:=W_some rfl
@[simp] theorem W_int_bl {b:Bool}:W (intD [.bl b]) t P↔P (.int (if b then 1 else 0)) t:=W_some rfl
@[simp] theorem W_str_int {i:Int}:W (strD [.int i]) t P↔i.natAbs.log2 < 1920∧P (.str (Str.ofString (toString i))) t:=W_if2 rfl
@[simp] theorem W_ord {x:Str}:W (ordD [.str x]) t P↔x.length=1∧P (.int (x.cps.getD 0 0:Nat)) t:=W_if2 rfl
@[simp] theorem W_tup_lst {ds:List D}:W (tupD [.lst ds]) t P↔P (.tup ds) t:=W_some rfl
@[simp] theorem W_lst_lst {ds:List D} {Q:List D→T→Prop}:W (lstF [.lst ds]) t Q↔Q ds t:=W_some rfl
@[simp] theorem W_lst_tup {ds:List D} {Q:List D→T→Prop}:W (lstF [.tup ds]) t Q↔Q ds t:=W_some rfl
@[simp] theorem W_eq_str {g:Bool→Bool} {x y:Str}:W (eqS g (.str x) (.str y)) t P↔P (.bl (g (x == y))) t:=W_some rfl
@[simp] theorem W_eq_int {g:Bool→Bool} {x y:Int}:W (eqS g (.int x) (.int y)) t P↔P (.bl (g (x == y))) t:=W_some rfl
@[simp] theorem W_eq_bl {g:Bool→Bool} {x y:Bool}:W (eqS g (.bl x) (.bl y)) t P↔P (.bl (g (x == y))) t:=W_some rfl
@[simp] theorem W_eq_nil {g:Bool→Bool} {x:List D}:W (eqS g (.lst x) (.lst [])) t P↔P (.bl (g x.isEmpty)) t:=by
 refine W_some ?_
 cases x <;> rfl
theorem ofString_inj {a b:String}:Str.ofString a=Str.ofString b↔a=b:=by
 constructor
 ·intro h
  rw [Str.ofString_eq_toList,Str.ofString_eq_toList] at h
  injection h with h
  have h:=congrArg Array.toList h
  simp only at h
  have hinj:∀xs ys:List Char,xs.map Char.toNat=ys.map Char.toNat→xs=ys:=by
   intro xs
   induction xs with
   | nil=>intro ys h;cases ys with | nil=>rfl | cons _ _=>simp at h
   | cons x xs ih=>
     intro ys h
     cases ys with
     | nil=>simp at h
     | cons y ys=>
       simp only [List.map_cons,List.cons.injEq] at h
       rw [ih ys h.2,Char.toNat_inj.mp h.1]
  exact String.toList_inj.mp (hinj _ _ (by simpa using h))
 ·exact fun h=>by rw [h]
@[simp] theorem W_sl_lst {ds:List D} {lo hi:Option Int}:W (sl3D (.lst ds) lo hi) t P↔P (.lst (cutD ds lo hi)) t:=W_some rfl
@[simp] theorem W_sl_scr {ds:List Int} {lo hi:Option Int}:W (sl3D (.scr ds) lo hi) t P↔P (.lst ((cutD ds lo hi).map .int)) t:=W_some rfl
@[simp] theorem W_sl_str {x:Str} {lo hi:Option Int}:W (sl3D (.str x) lo hi) t P↔x.length≤LIM∧P (.str (Txt.slice x lo hi)) t:=by
 have:sl3D (.str x) lo hi=lim x.length (.str (Txt.slice x lo hi)):=rfl
 rw [this];simp
@[simp] theorem W_sl_tup {ds:List D} {lo hi:Option Int}:W (sl3D (.tup ds) lo hi) t P↔P (.tup (cutD ds lo hi)) t:=W_some rfl
@[simp] theorem W_fSl {f:M D} {l u:M (Option Int)} {h:D→Option Int→Option Int→M D}:W (fSl f l u h) t P↔W f t fun x t1=>W l t1 fun lo t2=>W u t2 fun hi t3=>W (h x lo hi) t3 P:=by simp [fSl]
@[simp] theorem W_fNo {Q:Option Int→T→Prop}:W fNo t Q↔Q none t:=W_some rfl
@[simp] theorem W_asI {i:Int} {Q:Option Int→T→Prop}:W (asI (.int i)) t Q↔Q (some i) t:=W_some rfl
@[simp] theorem W_fPart {f:M D} {Q:Option Int→T→Prop}:W (fPart f) t Q↔W f t fun x t1=>W (asI x) t1 Q:=by simp [fPart]
@[simp] theorem W_fItA {f:M D} {Q:List D→T→Prop}:W (fItA f) t Q↔W f t fun x t1=>W (itemsA x) t1 Q:=by simp [fItA]
@[simp] theorem W_it_lst {ds:List D} {Q:List D→T→Prop}:W (itemsA (.lst ds)) t Q↔Q ds t:=W_some rfl
@[simp] theorem W_it_tup {ds:List D} {Q:List D→T→Prop}:W (itemsA (.tup ds)) t Q↔Q ds t:=W_some rfl
@[simp] theorem W_it_scr {ds:List Int} {Q:List D→T→Prop}:W (itemsA (.scr ds)) t Q↔Q (ds.map .int) t:=W_some rfl
@[simp] theorem W_it_str {x:Str} {Q:List D→T→Prop}:W (itemsA (.str x)) t Q↔Q (x.cps.toList.map fun c=>.str ⟨#[c]⟩) t:=W_some rfl
@[simp] theorem W_fRng1 {f:M (List D)} {Q:List D→T→Prop}:W (fRng1 f) t Q↔W f t fun x t1=>W (rng1 x) t1 Q:=by simp [fRng1]
@[simp] theorem W_fRng2 {f:M (List D)} {Q:List D→T→Prop}:W (fRng2 f) t Q↔W f t fun x t1=>W (rng2 x) t1 Q:=by simp [fRng2]
@[simp] theorem W_rng1 {j:Int} {Q:List D→T→Prop}:W (rng1 [.int j]) t Q↔small j=true∧Q (rngL 0 j.toNat) t:=W_if2 rfl
@[simp] theorem W_rng2 {i j:Int} {Q:List D→T→Prop}:W (rng2 [.int i,.int j]) t Q↔(small i && small j)=true∧Q (rngL i (j - i).toNat) t:=W_if2 rfl
@[simp] theorem W_in_lst {neg:Bool} {x:D} {ds:List D}:W (inD neg x (.lst ds)) t P↔(flatD x=true∧ds.all flatD=true)∧P (.bl (if neg then !inV (toV x) (ds.map toV) else inV (toV x) (ds.map toV))) t:=W_if2 rfl
@[simp] theorem W_ownM {i:Nat} {h:List D→List D→Option (List D)} {g:M (List D)} {Q:Out→T→Prop}:W (ownM i h g) t Q↔(∃xs,t.env[i]?=some (some (.own xs)))∧W g t fun ds t1=>∃xs,t1.env[i]?=some (some (.own xs))∧∃ys,h xs ds=some ys∧Q .next ⟨t1.env.set i (some (.own ys)),t1.S⟩:=by
 constructor
 ·rintro ⟨o,t',e,p⟩
  unfold ownM at e
  split at e
  ·next xs e0=>
   refine ⟨⟨xs,e0⟩,?_⟩
   obtain ⟨ds,t1,e1,e⟩:=bnd_some e
   refine ⟨ds,t1,e1,?_⟩
   split at e
   ·next ys e2=>
    obtain ⟨zs,e3,e4⟩:=Option.map_eq_some_iff.mp e
    cases e4
    exact ⟨ys,e2,zs,e3,p⟩
   ·cases e
  ·cases e
 ·rintro ⟨⟨xs,e0⟩,ds,t1,e1,ys,e2,zs,e3,p⟩
  exact ⟨_,_,by unfold ownM bnd;simp only [e0,e1,e2,e3,Option.map_some],p⟩
@[simp] theorem app1_one {xs:List D} {d:D} {ys:List D}:app1 xs [d]=some ys↔xs.length < LIM∧xs++[d]=ys:=by
 unfold app1;split <;> simp [*]
@[simp] theorem W_stD {f g:M D} {d:D} {Q:Unit→T→Prop}:W (stD f g d) t Q↔W f t fun o t1=>W g t1 fun i t2=>W (stOb o i d) t2 Q:=by simp [stD]
end F2
set_option linter.all false
set_option autoImplicit false
set_option maxRecDepth 100000
namespace F2
open PySem L2
variable {t:T} {P:D→T→Prop} {Q:List D→T→Prop} {R:Out→T→Prop} {B:Bool→T→Prop} {U:Unit→T→Prop}
def iteK (k:Bool) (A B:Prop):Prop:=if k=true then A else B
theorem kIfT {k:Bool} {A B:Prop} (h:k=true) (a:A):iteK k A B:=by unfold iteK;rw [if_pos h];exact a
theorem kIfF {k:Bool} {A B:Prop} (h:k=false) (b:B):iteK k A B:=by unfold iteK;rw [if_neg (by rw [h];exact Bool.false_ne_true)];exact b
theorem kIf2 {k:Bool} {A B:Prop} (a:k=true→A) (b:k=false→B):iteK k A B:=by cases h:k with
 | true=>exact kIfT rfl (a h)
 | false=>exact kIfF rfl (b h)
def seqK (g:M Out) (R:Out→T→Prop) (o:Out) (t1:T):Prop:=match o with
 | .next=>W g t1 R
 | o=>R o t1
theorem seqK_next {g:M Out} {t1:T} (h:W g t1 R):seqK g R .next t1:=h
theorem seqK_ret {g:M Out} {t1:T} {d:D} (h:R (.ret d) t1):seqK g R (.ret d) t1:=h
theorem wSeq {f g:M Out} (h:W f t (seqK g R)):W (seqS f g) t R:=W_seqS.mpr (h.mono fun o t1 h1=>by cases o <;> exact h1)
theorem wSkip (h:R .next t):W skipS t R:=W_skipS.mpr h
theorem wRet {f:M D} (h:W f t fun d t1=>R (.ret d) t1):W (retS f) t R:=W_retS.mpr h
theorem wDrop {f:M D} (h:W f t fun d t1=>R .next t1):W (dropS f) t R:=W_dropS.mpr h
theorem wIf {f:M Bool} {g h:M Out} (w:W f t fun k t1=>iteK k (W g t1 R) (W h t1 R)):W (ifS f g h) t R:=W_ifS.mpr w
theorem wSet {i:Nat} {f:M D} (h:W f t fun d t1=>R .next ⟨t1.env.set i (some (.val d)),t1.S⟩):W (setS i f) t R:=W_setS.mpr h
theorem wOwn {i:Nat} {f:M (List D)} (h:W f t fun d t1=>R .next ⟨t1.env.set i (some (.own d)),t1.S⟩):W (ownS i f) t R:=W_ownS.mpr h
theorem wAsg {f:M D} {g:D→M Unit} (h:W f t fun d t1=>W (g d) t1 fun _ t2=>R .next t2):W (asgS f g) t R:=W_asgS.mpr h
theorem wFor {f:M (List D)} {st:D→M Unit} {b:M Out} (h:W f t fun ds t1=>W (forL st b ds) t1 R):W (forS f st b) t R:=W_forS.mpr h
theorem wC {d:D} (h:P d t):W (fC d) t P:=W_fC.mpr h
theorem wVar {i:Nat} {d:D} (e:t.env[i]?=some (some (.val d))) (h:P d t):W (fVar i) t P:=by rw [W_fVar,e];exact h
theorem wVarO {i:Nat} {ds:List D} (e:t.env[i]?=some (some (.own ds))) (h:P (.lst ds) ⟨t.env.set i (some (.val (.lst ds))),t.S⟩):W (fVar i) t P:=by rw [W_fVar,e];exact h
theorem wBin {f g:M D} {h:D→D→M D} (w:W f t fun x t1=>W g t1 fun y t2=>W (h x y) t2 P):W (fBin f g h) t P:=W_fBin.mpr w
theorem wUn {f:M D} {h:D→M D} (w:W f t fun x t1=>W (h x) t1 P):W (fUn f h) t P:=W_fUn.mpr w
theorem wBnd {α β:Type} {f:M α} {g:α→M β} {K:β→T→Prop} (w:W f t fun x t1=>W (g x) t1 K):W (bnd f g) t K:=W_bnd.mpr w
theorem wToB {b:Bool} (h:B b t):W (toB (.bl b)) t B:=W_toB.mpr h
theorem wTst {f:M D} (h:W f t fun x t1=>W (toB x) t1 B):W (fTst f) t B:=W_fTst.mpr h
theorem wChain {f g w:M D} {h h':D→D→M D} (q:W f t fun x t1=>W g t1 fun y t2=>W (h x y) t2 fun k t3=>W (toB k) t3 fun k t4=>iteK k (W w t4 fun z t5=>W (h' y z) t5 P) (P (.bl false) t4)):W (fChain f g w h h') t P:=W_fChain.mpr q
theorem wAnd {f g:M Bool} (h:W f t fun k t1=>iteK k (W g t1 B) (B false t1)):W (fAnd f g) t B:=W_fAnd.mpr h
theorem wOr {f g:M Bool} (h:W f t fun k t1=>iteK k (B true t1) (W g t1 B)):W (fOr f g) t B:=W_fOr.mpr h
theorem wNot {f:M Bool} (h:W f t fun k t1=>B (!k) t1):W (fNot f) t B:=W_fNot.mpr h
theorem wAndV {f g:M D} (h:W f t fun x t1=>W (toB x) t1 fun k t2=>iteK k (W g t2 P) (P (.bl false) t2)):W (fAndV f g) t P:=W_fAndV.mpr h
theorem wOrV {f g:M D} (h:W f t fun x t1=>W (toB x) t1 fun k t2=>iteK k (P (.bl true) t2) (W g t2 P)):W (fOrV f g) t P:=W_fOrV.mpr h
theorem wNotV {f:M D} (h:W f t fun x t1=>W (toB x) t1 fun k t2=>P (.bl (!k)) t2):W (fNotV f) t P:=W_fNotV.mpr h
theorem wIfE {f:M Bool} {g h:M D} (w:W f t fun k t1=>iteK k (W g t1 P) (W h t1 P)):W (fIf f g h) t P:=W_fIf.mpr w
theorem wNil (h:Q [] t):W fNil t Q:=W_fNil.mpr h
theorem wCons {f:M D} {g:M (List D)} (h:W f t fun d t1=>W g t1 fun ds t2=>Q (d :: ds) t2):W (fCons f g) t Q:=W_fCons.mpr h
def limK (n:Nat) (A:Prop):Prop:=n≤LIM∧A
theorem limI {n:Nat} {A:Prop} (h:n≤LIM) (a:A):limK n A:=⟨h,a⟩
theorem wTup {f:M (List D)} (h:W f t fun ds t1=>limK ds.length (P (.tup ds) t1)):W (fTup f) t P:=W_fTup.mpr h
theorem wLst {f:M (List D)} (h:W f t fun ds t1=>limK ds.length (Q ds t1)):W (fLst f) t Q:=W_fLst.mpr h
theorem wPure {f:M (List D)} (h:W f t fun ds t1=>P (.lst ds) t1):W (fPure f) t P:=W_fPure.mpr h
theorem wObj {f:M (List D)} (h:W f t fun ds t1=>P (.obj t1.S.length) ⟨t1.env,t1.S++[.lst ds]⟩):W (fObj f) t P:=by rw [W_fObj];exact h.mono fun ds t1 h=>W_newOb.mpr h
theorem wCall {g:Fn} {f:M (List D)} (h:W f t fun ds t1=>Wf g ds t1.S fun r S'=>P r ⟨t1.env,S'⟩):W (fCall g f) t P:=W_fCall.mpr h
theorem wB {f:M (List D)} {h:List D→M D} (w:W f t fun ds t1=>W (h ds) t1 P):W (fB f h) t P:=W_fB.mpr w
theorem wBF {f:M (List D)} {h:List D→M (List D)} (w:W f t fun ds t1=>W (h ds) t1 Q):W (fBF f h) t Q:=W_fBF.mpr w
theorem wPut {i:Nat} {d:D} (h:U () ⟨t.env.set i (some (.val d)),t.S⟩):W (putV i d) t U:=W_putV.mpr h
theorem wPutNil (h:U () t):W (putNil []) t U:=W_putNil.mpr h
theorem wPutCons {f:D→M Unit} {g:List D→M Unit} {d:D} {ds:List D} (h:W (f d) t fun _ t1=>W (g ds) t1 U):W (putCons f g (d :: ds)) t U:=W_putCons.mpr h
theorem wUnL {n:Nat} {g:List D→M Unit} {ds:List D} (e:ds.length=n) (h:W (g ds) t U):W (unS n g (.lst ds)) t U:=W_unS_lst.mpr ⟨e,h⟩
theorem wUnT {n:Nat} {g:List D→M Unit} {ds:List D} (e:ds.length=n) (h:W (g ds) t U):W (unS n g (.tup ds)) t U:=W_unS_tup.mpr ⟨e,h⟩
theorem wComp {n:Nat} {fr:List Nat} {f:M (List D)} {st:D→M Unit} {tst:M Bool} {elt:M D} (h:W f t fun ds t1=>W (compL st tst elt ds) ⟨cenv n fr t1.env,t1.S⟩ fun xs t'=>limK xs.length (Q xs ⟨t1.env,t'.S⟩)):W (fComp n fr f st tst elt) t Q:=W_fComp.mpr h
theorem wTru (h:B true t):W tTru t B:=W_tTru.mpr h
theorem wDic (h:P .dic t):W fDic t P:=W_fDic.mpr h
theorem wIxT {ds:List D} {i:Int} {d:D} (e:atI ds i=some d) (h:P d t):W (ixD (.tup ds) (.int i)) t P:=W_ix_tup.mpr ⟨d,e,h⟩
theorem wIxL {ds:List D} {i:Int} {d:D} (e:atI ds i=some d) (h:P d t):W (ixD (.lst ds) (.int i)) t P:=W_ix_lst.mpr ⟨d,e,h⟩
theorem wLenL {ds:List D} (h:P (.int ds.length) t):W (lenD [.lst ds]) t P:=W_len_lst.mpr h
theorem wLenT {ds:List D} (h:P (.int ds.length) t):W (lenD [.tup ds]) t P:=W_len_tup.mpr h
theorem wLenR {ds:List Int} (h:P (.int ds.length) t):W (lenD [.scr ds]) t P:=W_len_scr.mpr h
theorem wLenS {x:Str} (e:x.length≤LIM) (h:P (.int x.length) t):W (lenD [.str x]) t P:=W_len_str.mpr ⟨e,h⟩
theorem wIsi {d:D} {m n:String} {b:Bool} (e:tyD d=some n) (e':isiT n m=some b) (h:P (.bl b) t):W (isiD [d,.ty m]) t P:=W_isi.mpr ⟨n,e,b,e',h⟩
theorem wIsN {x:D} (h:P (.bl (isNon x)) t):W (isC x .non) t P:=W_is_non.mpr h
theorem wIsB {x:D} {b:Bool} (h:P (.bl (isBl b x)) t):W (isC x (.bl b)) t P:=W_is_bl.mpr h
theorem wIsNot {x y:D} (h:W (isC x y) t fun d t1=>W (toB d) t1 fun b t2=>P (.bl (!b)) t2):W (isNotC x y) t P:=W_isNot.mpr h
theorem wAddI {i j:Int} (h:P (.int (i + j)) t):W (add5 (.int i) (.int j)) t P:=W_add_int.mpr h
theorem wSubI {i j:Int} (h:P (.int (i - j)) t):W (subD (.int i) (.int j)) t P:=W_sub_int.mpr h
theorem wLtI {i j:Int} (h:P (.bl (decide (i < j))) t):W (ltA (.int i) (.int j)) t P:=W_lt_int.mpr h
theorem wLeI {i j:Int} (h:P (.bl (decide (i≤j))) t):W (leA (.int i) (.int j)) t P:=W_le_int.mpr h
theorem wGtI {i j:Int} (h:P (.bl (decide (j < i))) t):W (gtA (.int i) (.int j)) t P:=W_gt_int.mpr h
theorem wGeI {i j:Int} (h:P (.bl (decide (j≤i))) t):W (geA (.int i) (.int j)) t P:=W_ge_int.mpr h
theorem wLtS {i j:Str} (h:P (.bl (decide (i.cps.toList < j.cps.toList))) t):W (ltA (.str i) (.str j)) t P:=W_lt_str.mpr h
theorem wGtS {i j:Str} (h:P (.bl (decide (j.cps.toList < i.cps.toList))) t):W (gtA (.str i) (.str j)) t P:=W_gt_str.mpr h
theorem wNeg {i:Int} (h:P (.int (-i)) t):W (negD (.int i)) t P:=W_neg.mpr h
theorem wDiv {i j:Int} (h1:0 < j) (h2:j < 1073741824) (h:P (.int (i / j)) t):W (fdivD (.int i) (.int j)) t P:=W_fdiv.mpr ⟨⟨h1,h2⟩,h⟩
theorem wMod {i j:Int} (h1:0 < j) (h:P (.int (i % j)) t):W (modD (.int i) (.int j)) t P:=W_mod.mpr ⟨h1,h⟩
theorem wPow {i j:Int} (h1:powOk i j=true) (h:P (.int (i ^ j.toNat)) t):W (powD (.int i) (.int j)) t P:=W_pow.mpr ⟨h1,h⟩
theorem wMulI {i j:Int} (h1:mulOk i j=true) (h:P (.int (i * j)) t):W (mul4 (.int i) (.int j)) t P:=W_mul_int.mpr ⟨h1,h⟩
theorem wMulL {xs:List D} {k:Int} (h1:small k=true∧xs.length * k.toNat≤LIM) (h:P (.lst (List.replicate k.toNat xs).flatten) t):W (mul4 (.lst xs) (.int k)) t P:=W_mul_lst.mpr ⟨h1,h⟩
theorem wMulS {x:Str} {k:Int} (h1:small k=true∧x.length * k.toNat≤LIM∧k≤LIM∧x.length≤LIM) (h:P (.str (Txt.mul x k)) t):W (mul4 (.str x) (.int k)) t P:=W_mul_str.mpr ⟨h1,h⟩
theorem wAddS {x y:Str} (h:limK (x.length + y.length) (P (.str (x++y)) t)):W (add5 (.str x) (.str y)) t P:=W_add_str.mpr h
theorem wAddL {x y:List D} (h:limK (x.length + y.length) (P (.lst (x++y)) t)):W (add5 (.lst x) (.lst y)) t P:=W_add_lst.mpr h
theorem wAddT {d:D} {x y:List D} (h:limK (x.length + 1 + y.length) (P (.tup (d :: x++y)) t)):W (add5 (.tup (d :: x)) (.tup y)) t P:=W_add_tup.mpr h
theorem wAddT0 {y:List D} (h:P (.tup y) t):W (add5 (.tup []) (.tup y)) t P:=W_add_tup0.mpr h
theorem wCat {x y:List D} (h:limK (x.length + y.length) (Q (x++y) t)):W (catF (.lst x) (.lst y)) t Q:=W_cat.mpr h
theorem wAbs {i:Int} (h:P (.int (if i < 0 then -i else i)) t):W (absD [.int i]) t P:=W_abs.mpr h
theorem wMin {i j:Int} (h:P (.int (if j < i then j else i)) t):W (minD [.int i,.int j]) t P:=W_min.mpr h
theorem wMax {i j:Int} (h:P (.int (if j > i then j else i)) t):W (maxD [.int i,.int j]) t P:=W_max.mpr h
theorem wInt {i:Int} (h:P (.int i) t):W (intD [.int i]) t P:=W_int_int.mpr h
theorem wIntB {i:Bool} (h:P (.int (if i then 1 else 0)) t):W (intD [.bl i]) t P:=W_int_bl.mpr h
theorem wStr {i:Int} (e:i.natAbs.log2 < 1920) (h:P (.str (Str.ofString (toString i))) t):W (strD [.int i]) t P:=W_str_int.mpr ⟨e,h⟩
theorem wOrd {x:Str} (e:x.length=1) (h:P (.int (x.cps.getD 0 0:Nat)) t):W (ordD [.str x]) t P:=W_ord.mpr ⟨e,h⟩
theorem wTupL {ds:List D} (h:P (.tup ds) t):W (tupD [.lst ds]) t P:=W_tup_lst.mpr h
theorem wLstL {ds:List D} (h:Q ds t):W (lstF [.lst ds]) t Q:=W_lst_lst.mpr h
theorem wLstT {ds:List D} (h:Q ds t):W (lstF [.tup ds]) t Q:=W_lst_tup.mpr h
theorem wEqS {g:Bool→Bool} {x y:Str} (h:P (.bl (g (x == y))) t):W (eqS g (.str x) (.str y)) t P:=W_eq_str.mpr h
theorem wEqI {g:Bool→Bool} {x y:Int} (h:P (.bl (g (x == y))) t):W (eqS g (.int x) (.int y)) t P:=W_eq_int.mpr h
theorem wEqB {g:Bool→Bool} {x y:Bool} (h:P (.bl (g (x == y))) t):W (eqS g (.bl x) (.bl y)) t P:=W_eq_bl.mpr h
theorem wEqNil {g:Bool→Bool} {x:List D} (h:P (.bl (g x.isEmpty)) t):W (eqS g (.lst x) (.lst [])) t P:=W_eq_nil.mpr h
theorem wSlL {ds:List D} {lo hi:Option Int} (h:P (.lst (cutD ds lo hi)) t):W (sl3D (.lst ds) lo hi) t P:=W_sl_lst.mpr h
theorem wSlR {ds:List Int} {lo hi:Option Int} (h:P (.lst ((cutD ds lo hi).map .int)) t):W (sl3D (.scr ds) lo hi) t P:=W_sl_scr.mpr h
theorem wSlT {ds:List D} {lo hi:Option Int} (h:P (.tup (cutD ds lo hi)) t):W (sl3D (.tup ds) lo hi) t P:=W_sl_tup.mpr h
theorem wSlS {x:Str} {lo hi:Option Int} (h:limK x.length (P (.str (Txt.slice x lo hi)) t)):W (sl3D (.str x) lo hi) t P:=W_sl_str.mpr h
theorem wSl {f:M D} {l u:M (Option Int)} {h:D→Option Int→Option Int→M D} (w:W f t fun x t1=>W l t1 fun lo t2=>W u t2 fun hi t3=>W (h x lo hi) t3 P):W (fSl f l u h) t P:=W_fSl.mpr w
theorem wNo {K:Option Int→T→Prop} (h:K none t):W fNo t K:=W_fNo.mpr h
theorem wAsI {i:Int} {K:Option Int→T→Prop} (h:K (some i) t):W (asI (.int i)) t K:=W_asI.mpr h
theorem wPart {f:M D} {K:Option Int→T→Prop} (h:W f t fun x t1=>W (asI x) t1 K):W (fPart f) t K:=W_fPart.mpr h
theorem wItA {f:M D} (h:W f t fun x t1=>W (itemsA x) t1 Q):W (fItA f) t Q:=W_fItA.mpr h
theorem wItL {ds:List D} (h:Q ds t):W (itemsA (.lst ds)) t Q:=W_it_lst.mpr h
theorem wItT {ds:List D} (h:Q ds t):W (itemsA (.tup ds)) t Q:=W_it_tup.mpr h
theorem wItR {ds:List Int} (h:Q (ds.map .int) t):W (itemsA (.scr ds)) t Q:=W_it_scr.mpr h
theorem wItS {x:Str} (h:Q (x.cps.toList.map fun c=>.str ⟨#[c]⟩) t):W (itemsA (.str x)) t Q:=W_it_str.mpr h
theorem wRng1 {f:M (List D)} (h:W f t fun x t1=>W (rng1 x) t1 Q):W (fRng1 f) t Q:=W_fRng1.mpr h
theorem wRng2 {f:M (List D)} (h:W f t fun x t1=>W (rng2 x) t1 Q):W (fRng2 f) t Q:=W_fRng2.mpr h
theorem wRg1 {j:Int} (e:small j=true) (h:Q (rngL 0 j.toNat) t):W (rng1 [.int j]) t Q:=W_rng1.mpr ⟨e,h⟩
theorem wRg2 {i j:Int} (e:(small i && small j)=true) (h:Q (rngL i (j - i).toNat) t):W (rng2 [.int i,.int j]) t Q:=W_rng2.mpr ⟨e,h⟩
theorem wInL {neg:Bool} {x:D} {ds:List D} (e:flatD x=true∧ds.all flatD=true) (h:P (.bl (if neg then !inV (toV x) (ds.map toV) else inV (toV x) (ds.map toV))) t):W (inD neg x (.lst ds)) t P:=W_in_lst.mpr ⟨e,h⟩
theorem wOwnM {i:Nat} {xs:List D} {h:List D→List D→Option (List D)} {g:M (List D)} (e:t.env[i]?=some (some (.own xs))) (w:W g t fun ds t1=>∃xs,t1.env[i]?=some (some (.own xs))∧∃ys,h xs ds=some ys∧R .next ⟨t1.env.set i (some (.own ys)),t1.S⟩):W (ownM i h g) t R:=W_ownM.mpr ⟨⟨xs,e⟩,w⟩
theorem wApp {i:Nat} {xs:List D} {d:D} {t1:T} {A:List D→Prop} (e:t1.env[i]?=some (some (.own xs))) (w:limK (xs.length + 1) (A (xs++[d]))):∃xs,t1.env[i]?=some (some (.own xs))∧∃ys,app1 xs [d]=some ys∧A ys:=
 ⟨xs,e,_,app1_one.mpr ⟨w.1,rfl⟩,w.2⟩
theorem wStD {f g:M D} {d:D} (h:W f t fun o t1=>W g t1 fun i t2=>W (stOb o i d) t2 U):W (stD f g d) t U:=W_stD.mpr h
end F2
namespace F2
open PySem L2
section
variable {t:T} {P:D→T→Prop} {B:Bool→T→Prop} {Q:List D→T→Prop}
theorem wVIxT {i:Nat} {n:Int} {ds:List D} {d:D} (e:t.env[i]?=some (some (.val (.tup ds)))) (a:atI ds n=some d) (h:P d t):W (fBin (fVar i) (fC (.int n)) ixD) t P:=wBin (wVar e (wC (wIxT a h)))
theorem wKind {i:Nat} {x y:Str} {ds:List D} {g:Bool→Bool} (e:t.env[i]?=some (some (.val (.tup (.str y :: ds))))) (h:B (g (y == x)) t):W (fTst (fBin (fBin (fVar i) (fC (.int 0)) ixD) (fC (.str x)) (eqS g))) t B:=wTst (wBin (wBin (wVar e (wC (wIxT atI_0 (wC (wEqS (wToB h))))))))
theorem wTstVS {i:Nat} {x y:Str} {g:Bool→Bool} (e:t.env[i]?=some (some (.val (.str y)))) (h:B (g (y == x)) t):W (fTst (fBin (fVar i) (fC (.str x)) (eqS g))) t B:=wTst (wBin (wVar e (wC (wEqS (wToB h)))))
theorem wTstVI {i:Nat} {x y:Int} {g:Bool→Bool} (e:t.env[i]?=some (some (.val (.int y)))) (h:B (g (y == x)) t):W (fTst (fBin (fVar i) (fC (.int x)) (eqS g))) t B:=wTst (wBin (wVar e (wC (wEqI (wToB h)))))
theorem wCallV1 {g:Fn} {i:Nat} {d:D} (e:t.env[i]?=some (some (.val d))) (h:Wf g [d] t.S fun r S'=>P r ⟨t.env,S'⟩):W (fCall g (fCons (fVar i) fNil)) t P:=wCall (wCons (wVar e (wNil h)))
theorem wCallV2 {g:Fn} {i j:Nat} {d d':D} (e:t.env[i]?=some (some (.val d))) (e':t.env[j]?=some (some (.val d'))) (h:Wf g [d,d'] t.S fun r S'=>P r ⟨t.env,S'⟩):W (fCall g (fCons (fVar i) (fCons (fVar j) fNil))) t P:=wCall (wCons (wVar e (wCons (wVar e' (wNil h)))))
theorem wCallVC {g:Fn} {i:Nat} {d d':D} (e:t.env[i]?=some (some (.val d))) (h:Wf g [d,d'] t.S fun r S'=>P r ⟨t.env,S'⟩):W (fCall g (fCons (fVar i) (fCons (fC d') fNil))) t P:=wCall (wCons (wVar e (wCons (wC (wNil h)))))
theorem wCallV3 {g:Fn} {i j k:Nat} {d d' d'':D} (e:t.env[i]?=some (some (.val d))) (e':t.env[j]?=some (some (.val d'))) (e'':t.env[k]?=some (some (.val d''))) (h:Wf g [d,d',d''] t.S fun r S'=>P r ⟨t.env,S'⟩):W (fCall g (fCons (fVar i) (fCons (fVar j) (fCons (fVar k) fNil)))) t P:=wCall (wCons (wVar e (wCons (wVar e' (wCons (wVar e'' (wNil h)))))))
end
end F2
set_option linter.all false
set_option autoImplicit false
set_option maxRecDepth 100000
set_option maxHeartbeats 1000000
namespace LW
open PySem L2 F2
local macro_rules | `(tactic| walk_at "w1")=>`(tactic| first
 | ((with_reducible refine' wKind ?wv ?_);(case wv=>exact rfl)) | ((with_reducible refine' wVIxT ?wv ?wu ?_);(case wv=>exact rfl);(case wu=>first | exact rfl | exact atI_0 | exact atI_1 | exact atI_2)) | ((with_reducible refine' wTstVS ?wv ?_);(case wv=>exact rfl)) | ((with_reducible refine' wTstVI ?wv ?_);(case wv=>exact rfl))
 | ((with_reducible refine' wCallV1 ?wv ?_);(case wv=>exact rfl)) | ((with_reducible refine' wCallV2 ?wv ?wu ?_);(case wv=>exact rfl);(case wu=>exact rfl)) | ((with_reducible refine' wCallVC ?wv ?_);(case wv=>exact rfl)) | ((with_reducible refine' wCallV3 ?wv ?wu ?wt ?_);(case wv=>exact rfl);(case wu=>exact rfl);(case wt=>exact rfl))
 | with_reducible refine wSeq ?_ | with_reducible refine seqK_next ?_ | with_reducible refine seqK_ret ?_ | with_reducible refine wSet ?_ | with_reducible refine wBin ?_ | with_reducible refine wC ?_
 | ((with_reducible refine' wVar ?wv ?_);(case wv=>exact rfl)) | with_reducible refine wCons ?_ | with_reducible refine wNil ?_ | with_reducible refine wIf ?_ | with_reducible refine wTst ?_ | with_reducible refine wToB ?_ | with_reducible refine wRet ?_ | with_reducible refine wCall ?_
 | ((with_reducible refine' wIxT ?wv ?_);(case wv=>first | exact rfl | exact atI_0 | exact atI_1 | exact atI_2)) | ((with_reducible refine' wIxL ?wv ?_);(case wv=>first | exact rfl | exact atI_0 | exact atI_1 | exact atI_2)) | with_reducible refine wEqS ?_ | with_reducible refine wEqI ?_ | with_reducible refine wEqB ?_ | with_reducible refine wAddI ?_ | with_reducible refine wSubI ?_
 | with_reducible refine wSkip ?_ | with_reducible refine wB ?_ | with_reducible refine wBF ?_ | with_reducible refine wPure ?_ | with_reducible refine wTup ?_ | with_reducible refine wLst ?_ | ((with_reducible refine limI ?wv ?_);(case wv=>exact Nat.le_of_ble_eq_true rfl)) | with_reducible refine wObj ?_ | with_reducible refine wAsg ?_ | with_reducible refine wFor ?_
 | ((with_reducible refine kIfT ?wv ?_);(case wv=>exact rfl)) | ((with_reducible refine kIfF ?wv ?_);(case wv=>exact rfl)) | with_reducible refine wAnd ?_ | with_reducible refine wOr ?_ | with_reducible refine wNot ?_ | with_reducible refine wAndV ?_ | with_reducible refine wOrV ?_ | with_reducible refine wNotV ?_ | with_reducible refine wIfE ?_ | with_reducible refine wChain ?_
 | ((with_reducible refine' wVarO ?wv ?_);(case wv=>exact rfl)) | with_reducible refine wUn ?_ | with_reducible refine wNeg ?_ | with_reducible refine wIsN ?_ | with_reducible refine wIsB ?_ | with_reducible refine wIsNot ?_
 | with_reducible refine wLtI ?_ | with_reducible refine wLeI ?_ | with_reducible refine wGtI ?_ | with_reducible refine wGeI ?_ | with_reducible refine wLtS ?_ | with_reducible refine wGtS ?_
 | with_reducible refine wLenL ?_ | with_reducible refine wLenT ?_ | with_reducible refine wLenR ?_ | ((with_reducible refine' wIsi ?wv ?wu ?_);(case wv=>exact rfl);(case wu=>exact rfl))
 | ((with_reducible refine wPow ?wv ?_);(case wv=>decide)) | ((with_reducible refine wDiv ?wv ?wu ?_);(case wv=>decide);(case wu=>decide)) | ((with_reducible refine wMod ?wv ?_);(case wv=>decide))
 | with_reducible refine wAbs ?_ | with_reducible refine wMin ?_ | with_reducible refine wMax ?_ | with_reducible refine wInt ?_ | with_reducible refine wIntB ?_ | with_reducible refine wTupL ?_ | with_reducible refine wLstL ?_ | with_reducible refine wLstT ?_
 | with_reducible refine wAddS ?_ | with_reducible refine wAddL ?_ | with_reducible refine wAddT ?_ | with_reducible refine wAddT0 ?_ | with_reducible refine wCat ?_ | with_reducible refine wEqNil ?_
 | with_reducible refine wSl ?_ | with_reducible refine wNo ?_ | with_reducible refine wPart ?_ | with_reducible refine wAsI ?_ | with_reducible refine wSlL ?_ | with_reducible refine wSlR ?_ | with_reducible refine wSlS ?_ | with_reducible refine wSlT ?_
 | with_reducible refine wItA ?_ | with_reducible refine wItL ?_ | with_reducible refine wItT ?_ | with_reducible refine wItR ?_ | with_reducible refine wItS ?_ | with_reducible refine wRng1 ?_ | with_reducible refine wRng2 ?_ | ((with_reducible refine wRg1 ?wv ?_);(case wv=>decide)) | ((with_reducible refine wRg2 ?wv ?_);(case wv=>decide))
 | with_reducible refine wPut ?_ | with_reducible refine wPutNil ?_ | with_reducible refine wPutCons ?_ | ((with_reducible refine wUnL ?wv ?_);(case wv=>exact rfl)) | ((with_reducible refine wUnT ?wv ?_);(case wv=>exact rfl)) | with_reducible refine wComp ?_ | with_reducible refine wTru ?_ | with_reducible refine wDic ?_ | with_reducible refine wOwn ?_ | with_reducible refine wBnd ?_ | with_reducible refine wDrop ?_
 | ((with_reducible refine' wOwnM ?wv ?_);(case wv=>exact rfl)) | ((with_reducible refine' wApp ?wv ?_);(case wv=>exact rfl)) | with_reducible refine wStD ?_)
local macro_rules | `(tactic| walk_at "w")=>`(tactic| repeat (walk_at "w1"))
structure DeckAt (k c:Nat) (S:List Ob):Prop where
 ne:k≠c
 at_:∃(cells:List Int) (par pos:Int),S[k]?=some (.lst [.obj c,.int par,.int pos])∧S[c]?=some (.lst (cells.map .int))∧cells≠[]∧0≤pos
def Keep (k c:Nat) (S S':List Ob):Prop:=S'.length=S.length∧∀j:Nat,j≠k→j≠c→S'[j]?=S[j]?
theorem Keep.refl {k c:Nat} {S:List Ob}:Keep k c S S:=⟨rfl,fun _ _ _=>rfl⟩
theorem Keep.trans {k c:Nat} {S S' S'':List Ob} (a:Keep k c S S') (b:Keep k c S' S''):Keep k c S S'':=⟨b.1.trans a.1,fun j h1 h2=>(b.2 j h1 h2).trans (a.2 j h1 h2)⟩
theorem ixN_nat {n:Nat} {i:Int} (h0:0≤i) (h1:i < n):ixN n i=some i.toNat:=by simp [ixN,h0,h1]
theorem get_set {S:List Ob} {k:Nat} {o o':Ob} (h:S[k]?=some o):(S.set k o')[k]?=some o':=by
 obtain ⟨hl,_⟩:=List.getElem?_eq_some_iff.mp h
 exact List.getElem?_set_self hl
inductive Sh where
 | nothing | number (lo hi:Int) | text (m:Int) | list (s:Sh) (m:Int) | pair (s r:Sh) | choice (ss:List Sh)
mutual
def Sh.d:Sh→D
 | .nothing=>.tup [.str "nothing"]
 | .number lo hi=>.tup [.str "number",.int lo,.int hi]
 | .text m=>.tup [.str "text",.int m]
 | .list s m=>.tup [.str "list",s.d,.int m]
 | .pair s r=>.tup [.str "pair",s.d,r.d]
 | .choice ss=>.tup [.str "choice",.tup (shD ss)]
def shD:List Sh→List D
 | []=>[]
 | s :: r=>s.d :: shD r
end
mutual
def Sh.depth:Sh→Nat
 | .nothing=>1
 | .number _ _=>1
 | .text _=>1
 | .list s _=>s.depth + 1
 | .pair s r=>max s.depth r.depth + 1
 | .choice ss=>shDep ss + 1
def shDep:List Sh→Nat
 | []=>0
 | s :: r=>max s.depth (shDep r)
end
theorem shD_len:∀ss:List Sh,(shD ss).length=ss.length
 | []=>rfl
 | s :: r=>by simp [shD,shD_len r]
theorem shD_get:∀(ss:List Sh) (k:Nat),(shD ss)[k]?=(ss[k]?).map Sh.d
 | [],k=>by simp [shD]
 | s :: r,0=>by simp [shD]
 | s :: r,k + 1=>by simp [shD,shD_get r k]
theorem shDep_get:∀(ss:List Sh) (k:Nat) (s:Sh),ss[k]?=some s→s.depth≤shDep ss
 | [],k,s,h=>by simp at h
 | s :: r,0,s',h=>by simp at h;subst h;simp [shDep];omega
 | s :: r,k + 1,s',h=>by
   have:=shDep_get r k s' (by simpa using h)
   simp [shDep];omega
theorem Sh.depth_pos (s:Sh):1≤s.depth:=by cases s <;> simp [Sh.depth]
def signB (n:Nat):Bool:=decide (32≤n) && decide (n≤126) && decide (n≠37)
def isOf:Str→Bool:=fun o=>o == ("of" : Str)
mutual
def fitsB:Sh→D→Bool
 | .nothing,d=>isNon d
 | .number lo hi,d=>match d with
   | .int i=>decide (lo≤i) && decide (i≤hi)
   | _=>false
 | .text m,d=>match d with
   | .str x=>decide ((x.length:Int)≤m) && x.cps.toList.all signB
   | _=>false
 | .list s m,d=>match d with
   | .lst ds=>decide ((ds.length:Int)≤m) && ds.all fun e=>fitsB s e
   | _=>false
 | .pair s r,d=>match d with
   | .tup [a,b]=>fitsB s a && fitsB r b
   | _=>false
 | .choice ss,d=>match d with
   | .tup [.str o,.int k,x]=>isOf o && (decide (0≤k) && decide (k < ss.length)) && fitsN ss k.toNat x
   | _=>false
def fitsN:List Sh→Nat→D→Bool
 | [],_,_=>false
 | s :: _,0,d=>fitsB s d
 | _ :: r,k + 1,d=>fitsN r k d
end
theorem fitsN_get:∀(ss:List Sh) (k:Nat) (s:Sh) (d:D),ss[k]?=some s→fitsN ss k d=fitsB s d
 | [],k,s,d,h=>by simp at h
 | s :: r,0,s',d,h=>by simp at h;subst h;simp [fitsN]
 | s :: r,k + 1,s',d,h=>by rw [fitsN];exact fitsN_get r k s' d (by simpa using h)
mutual
def okD:D→Bool
 | .str x=>decide (x.length≤90000)
 | .tup xs=>oks xs
 | .lst xs=>oks xs
 | .obj _=>false
 | .scr _=>false
 | .exc _ _=>false
 | .ty _=>false
 | _=>true
def oks:List D→Bool
 | []=>true
 | d :: r=>okD d && oks r
end
theorem oks_mem:∀{xs:List D},oks xs=true→∀d∈xs,okD d=true
 | x :: r,h,d,m=>by
   rw [oks,Bool.and_eq_true] at h
   rcases List.mem_cons.mp m with z | z
   ·subst z;exact h.1
   ·exact oks_mem h.2 d z
theorem oks_of:∀{xs:List D},(∀d∈xs,okD d=true)→oks xs=true
 | [],_=>rfl
 | x :: r,h=>by
   rw [oks,Bool.and_eq_true]
   exact ⟨h x List.mem_cons_self,oks_of fun d m=>h d (List.mem_cons_of_mem _ m)⟩
abbrev Pure1 (f:Fn) (ds:List D) (r:D):Prop:=∀S,Wf f ds S fun v S'=>v=r∧S'=S
theorem Pure1.use {f:Fn} {ds:List D} {r:D} (h:Pure1 f ds r) {S:List Ob} {P:D→List Ob→Prop} (p:P r S):Wf f ds S P:=(h S).mono fun _ _ ⟨e1,e2⟩=>by subst e1 e2;exact p
def isIntB:D→Bool
 | .int _=>true
 | _=>false
theorem is_number_ok {d:D} (h:okD d=true):Pure1 (fnOf 1 1 m_is_number) [d] (.bl (isIntB d)):=by
 intro S
 refine Wf_fnOf rfl ?_
 unfold m_is_number
 cases d <;> first | (simp [okD] at h;done) | (walk_at "w";exact ⟨rfl,rfl⟩)
def withinB (lo hi:Int):D→Bool
 | .int i=>decide (lo≤i) && decide (i≤hi)
 | _=>false
def IsNumOk (f:Fn):Prop:=∀d,okD d=true→Pure1 f [d] (.bl (isIntB d))
def WithinOk (f:Fn):Prop:=∀d lo hi,okD d=true→Pure1 f [d,.int lo,.int hi] (.bl (withinB lo hi d))
theorem within_ok {c:Fn} (hc:IsNumOk c):WithinOk (fnOf 3 3 (m_is_number_within c)):=by
 intro d lo hi h S
 refine Wf_fnOf rfl ?_
 unfold m_is_number_within
 walk_at "w"
 refine (hc d h).use ?_
 cases d with
 | int i=>
   walk_at "w"
   refine kIf2 (fun e=>?_) fun e=>?_
   ·walk_at "w"
    exact ⟨by simp only [withinB,e,Bool.true_and],rfl⟩
   ·exact ⟨by simp only [withinB,e,Bool.false_and],rfl⟩
 | _=>walk_at "w";exact ⟨rfl,rfl⟩
def SignOk (f:Fn):Prop:=∀n:Nat,Pure1 f [.int n] (.bl (signB n))
theorem is_sign_ok:SignOk (fnOf 1 1 m_is_sign):=by
 intro n S
 refine Wf_fnOf rfl ?_
 unfold m_is_sign
 walk_at "w"
 have c1:decide ((32:Int)≤n)=decide (32≤n):=decide_eq_decide.mpr (by omega)
 have c2:decide ((n:Int)≤126)=decide (n≤126):=decide_eq_decide.mpr (by omega)
 have c3:(!((n:Int) == 37))=decide (n≠37):=by
  by_cases h:n=37
  ·subst h;rfl
  ·have:¬((n:Int)=37):=by omega
   simp [h,this]
 rw [c1]
 refine kIf2 (fun e=>?_) fun e=>?_
 ·walk_at "w"
  rw [c2]
  refine kIf2 (fun e'=>?_) fun e'=>?_
  ·walk_at "w"
   exact ⟨by simp only [signB,e,e',c3,Bool.true_and],rfl⟩
  ·exact ⟨by simp only [signB,e,e',Bool.false_and,Bool.and_false],rfl⟩
 ·walk_at "w"
  exact ⟨by simp only [signB,e,Bool.false_and],rfl⟩
def TextOk (f:Fn):Prop:=∀m d,okD d=true→Pure1 f [(Sh.text m).d,d] (.bl (fitsB (.text m) d))
theorem fits_text_ok {c:Fn} (hc:SignOk c):TextOk (fnOf 2 3 (m_fits_text c)):=by
 intro m d h S
 refine Wf_fnOf rfl ?_
 unfold m_fits_text
 rw [Sh.d]
 cases d with
 | str x=>
   have hx:x.length≤LIM:=Nat.le_trans (by simpa [okD] using h) (show 90000≤LIM by decide)
   walk_at "w"
   refine wLenS hx ?_
   walk_at "w"
   refine kIf2 (fun e=>?_) fun e=>?_
   ·walk_at "w"
    have:¬((x.length:Int)≤m):=by have:=of_decide_eq_true e;omega
    exact ⟨by simp [fitsB,this],rfl⟩
   ·walk_at "w"
    have e':(x.length:Int)≤m:=by have:=of_decide_eq_false e;omega
    refine W_for (fun r t=>t.S=S∧∃cs:List Nat,r=cs.map (fun c=>D.str ⟨#[c]⟩)∧(x.cps.toList.all signB=cs.all signB)∧∃z,t.env=[some (.val (.tup [.str "text",.int m])),some (.val (.str x)),z]) _ _ ⟨rfl,x.cps.toList,rfl,rfl,_,rfl⟩ ?_ ?_
    ·rintro d r t ⟨hs,cs,hr,hall,z,ht⟩ _
     obtain ⟨env,S2⟩:=t
     subst hs ht
     cases cs with
     | nil=>simp at hr
     | cons c cs=>
       simp only [List.map_cons,List.cons.injEq] at hr
       obtain ⟨rfl,rfl⟩:=hr
       walk_at "w"
       refine wOrd rfl ?_
       walk_at "w"
       refine (hc c).use ?_
       walk_at "w"
       refine kIf2 (fun q=>?_) fun q=>?_
       ·walk_at "w"
        have q':signB c=false:=by simpa using q
        refine ⟨?_,rfl⟩
        simp only [fitsB,hall,List.all_cons,q',Bool.false_and,Bool.and_false]
       ·walk_at "w"
        have q':signB c=true:=by simpa using q
        exact ⟨rfl,cs,rfl,by rw [hall,List.all_cons,q',Bool.true_and],_,rfl⟩
    ·rintro t ⟨hs,cs,hr,hall,z,ht⟩
     obtain ⟨env,S2⟩:=t
     subst hs ht
     have:cs=[]:=by cases cs with | nil=>rfl | cons _ _=>simp at hr
     subst this
     walk_at "w"
     exact ⟨by simp [fitsB,e',hall],rfl⟩
 | obj _=>simp [okD] at h
 | scr _=>simp [okD] at h
 | ty _=>simp [okD] at h
 | exc _ _=>simp [okD] at h
 | _=>walk_at "w";exact ⟨by simp [fitsB],rfl⟩
def FitsOk (f:Fn) (n:Nat):Prop:=∀s:Sh,s.depth≤n→∀d,okD d=true→Pure1 f [s.d,d] (.bl (fitsB s d))
def ListOk (f:Fn) (n:Nat):Prop:=∀(s:Sh) (m:Int),s.depth≤n→∀d,okD d=true→Pure1 f [(Sh.list s m).d,d] (.bl (fitsB (.list s m) d))
theorem fits_list_ok {c:Fn} {n:Nat} (hc:FitsOk c n):ListOk (fnOf 2 3 (m_fits_list c)) n:=by
 intro s m hs d h S
 refine Wf_fnOf rfl ?_
 unfold m_fits_list
 rw [Sh.d]
 cases d with
 | lst ds=>
   have hx:∀d∈ds,okD d=true:=oks_mem (by simpa [okD] using h)
   walk_at "w"
   refine kIf2 (fun e=>?_) fun e=>?_
   ·walk_at "w"
    have:¬((ds.length:Int)≤m):=by have:=of_decide_eq_true e;omega
    exact ⟨by simp [fitsB,this],rfl⟩
   ·walk_at "w"
    have e':(ds.length:Int)≤m:=by have:=of_decide_eq_false e;omega
    refine W_for (fun r t=>t.S=S∧(ds.all (fun e=>fitsB s e)=r.all fun e=>fitsB s e)∧∃z,t.env=[some (.val (.tup [.str "list",s.d,.int m])),some (.val (.lst ds)),z]) _ _ ⟨rfl,rfl,_,rfl⟩ ?_ ?_
    ·rintro d r t ⟨hS,hall,z,ht⟩ hm
     obtain ⟨env,S2⟩:=t
     subst hS ht
     walk_at "w"
     refine (hc s hs d (hx d hm)).use ?_
     walk_at "w"
     refine kIf2 (fun q=>?_) fun q=>?_
     ·walk_at "w"
      have q':fitsB s d=false:=by simpa using q
      refine ⟨?_,rfl⟩
      simp only [fitsB,hall,List.all_cons,q',Bool.false_and,Bool.and_false]
     ·walk_at "w"
      have q':fitsB s d=true:=by simpa using q
      exact ⟨rfl,by rw [hall,List.all_cons,q',Bool.true_and],_,rfl⟩
    ·rintro t ⟨hS,hall,z,ht⟩
     obtain ⟨env,S2⟩:=t
     subst hS ht
     walk_at "w"
     exact ⟨by simp only [fitsB,e',decide_true,hall,List.all_nil,Bool.true_and],rfl⟩
 | obj _=>simp [okD] at h
 | scr _=>simp [okD] at h
 | ty _=>simp [okD] at h
 | exc _ _=>simp [okD] at h
 | _=>walk_at "w";exact ⟨by simp [fitsB],rfl⟩
def PairOk (f:Fn) (n:Nat):Prop:=∀(s r:Sh),s.depth≤n→r.depth≤n→∀d,okD d=true→Pure1 f [(Sh.pair s r).d,d] (.bl (fitsB (.pair s r) d))
theorem fits_pair_ok {c:Fn} {n:Nat} (hc:FitsOk c n):PairOk (fnOf 2 2 (m_fits_pair c)) n:=by
 intro s r hs hr d h S
 refine Wf_fnOf rfl ?_
 unfold m_fits_pair
 rw [Sh.d]
 cases d with
 | tup ds=>
   have hx:∀d∈ds,okD d=true:=oks_mem (by simpa [okD] using h)
   walk_at "w"
   match ds,hx with
   | [],_=>walk_at "w";exact ⟨by simp [fitsB],rfl⟩
   | [a],_=>walk_at "w";exact ⟨by simp [fitsB],rfl⟩
   | [a,b],hx=>
     walk_at "w"
     refine (hc s hs a (hx a (by simp))).use ?_
     walk_at "w"
     refine kIf2 (fun e=>?_) fun e=>?_
     ·walk_at "w"
      refine (hc r hr b (hx b (by simp))).use ?_
      exact ⟨by simp only [fitsB,e,Bool.true_and],rfl⟩
     ·exact ⟨by simp only [fitsB,e,Bool.false_and],rfl⟩
   | a :: b :: e :: l,_=>
     refine kIfT ?_ ?_
     ·show (!(((a :: b :: e :: l).length:Int) == 2))=true
      simp;omega
     walk_at "w"
     exact ⟨by simp [fitsB],rfl⟩
 | obj _=>simp [okD] at h
 | scr _=>simp [okD] at h
 | ty _=>simp [okD] at h
 | exc _ _=>simp [okD] at h
 | _=>walk_at "w";exact ⟨by simp [fitsB],rfl⟩
def ChoiceOk (f:Fn) (n:Nat):Prop:=∀(ss:List Sh),shDep ss≤n→∀d,okD d=true→Pure1 f [(Sh.choice ss).d,d] (.bl (fitsB (.choice ss) d))
theorem fits_choice_ok {c c':Fn} {n:Nat} (hc:FitsOk c n) (hw:WithinOk c'):ChoiceOk (fnOf 2 2 (m_fits_choice c c')) n:=by
 intro ss hs d h S
 refine Wf_fnOf rfl ?_
 unfold m_fits_choice
 rw [Sh.d]
 cases d with
 | tup ds=>
   have hx:∀d∈ds,okD d=true:=oks_mem (by simpa [okD] using h)
   walk_at "w"
   match ds,hx with
   | [],_=>walk_at "w";exact ⟨by simp [fitsB],rfl⟩
   | [a],_=>walk_at "w";exact ⟨by simp [fitsB],rfl⟩
   | [a,b],_=>walk_at "w";exact ⟨by simp [fitsB],rfl⟩
   | [a,b,e],hx=>
     walk_at "w"
     have ha:=hx a (by simp)
     cases a with
     | str o=>
       walk_at "w"
       refine kIf2 (fun q=>?_) fun q=>?_
       ·walk_at "w"
        have q':isOf o=false:=by simpa [isOf] using q
        refine ⟨?_,rfl⟩
        cases b <;> simp only [fitsB,q',Bool.false_and]
       ·walk_at "w"
        have q':isOf o=true:=by simpa [isOf] using q
        refine (hw b 0 _ (hx b (by simp))).use ?_
        walk_at "w"
        cases b with
        | int k=>
          refine kIf2 (fun q=>?_) fun q=>?_
          ·walk_at "w"
           refine ⟨?_,rfl⟩
           have:(decide (0≤k) && decide (k < (ss.length:Int)))=false:=by
            have q2:k < 0∨((shD ss).length:Int) - 1 < k:=by simpa [withinB] using q
            rw [shD_len] at q2
            simp;omega
           simp only [fitsB,this,Bool.false_and,Bool.and_false]
          ·have q2:0≤k∧k≤((shD ss).length:Int) - 1:=by simpa [withinB] using q
           have q3:=q2
           rw [shD_len] at q3
           have hk:k.toNat < ss.length:=by omega
           have e1:ss[k.toNat]?=some ss[k.toNat]:=List.getElem?_eq_getElem hk
           have e2:atI (shD ss) k=some (ss[k.toNat]).d:=by
            unfold atI
            rw [shD_len,ixN_nat q3.1 (by omega)]
            simp [shD_get,e1]
           walk_at "w"
           refine wIxT e2 ?_
           walk_at "w"
           refine (hc _ (Nat.le_trans (shDep_get ss _ _ e1) hs) e (hx e (by simp))).use ?_
           refine ⟨?_,rfl⟩
           have:(decide (0≤k) && decide (k < (ss.length:Int)))=true:=by simp;omega
           simp only [fitsB,q',this,Bool.true_and,fitsN_get ss _ _ e e1]
        | _=>
          walk_at "w"
          exact ⟨by simp [fitsB],rfl⟩
     | obj _=>simp [okD] at ha
     | scr _=>simp [okD] at ha
     | ty _=>simp [okD] at ha
     | exc _ _=>simp [okD] at ha
     | _=>walk_at "w";exact ⟨by simp [fitsB],rfl⟩
   | a :: b :: e :: f :: l,_=>
     refine kIfT ?_ ?_
     ·show (!(((a :: b :: e :: f :: l).length:Int) == 3))=true
      simp;omega
     walk_at "w"
     exact ⟨by simp [fitsB],rfl⟩
 | obj _=>simp [okD] at h
 | scr _=>simp [okD] at h
 | ty _=>simp [okD] at h
 | exc _ _=>simp [okD] at h
 | _=>walk_at "w";exact ⟨by simp [fitsB],rfl⟩
theorem fits_ok {cc cp cl ct cw:Fn} {n:Nat} (h1:ChoiceOk cc n) (h2:PairOk cp n) (h3:ListOk cl n) (h4:TextOk ct) (h5:WithinOk cw):FitsOk (fnOf 2 3 (m_fits cc cp cl ct cw)) (n + 1):=by
 intro s hs d h S
 refine Wf_fnOf rfl ?_
 unfold m_fits
 cases s with
 | nothing=>
   rw [Sh.d]
   walk_at "w"
   exact ⟨by rw [fitsB],rfl⟩
 | number lo hi=>
   rw [Sh.d]
   walk_at "w"
   refine (h5 d lo hi h).use ⟨?_,rfl⟩
   cases d <;> simp [fitsB,withinB]
 | text m=>
   rw [Sh.d]
   walk_at "w"
   exact (h4 m d h).use ⟨rfl,rfl⟩
 | list s m=>
   rw [Sh.depth] at hs
   have q:=h3 s m (by omega) d h
   rw [Sh.d] at q ⊢
   walk_at "w"
   exact q.use ⟨rfl,rfl⟩
 | pair s r=>
   rw [Sh.depth] at hs
   have q:=h2 s r (by omega) (by omega) d h
   rw [Sh.d] at q ⊢
   walk_at "w"
   exact q.use ⟨rfl,rfl⟩
 | choice ss=>
   rw [Sh.depth] at hs
   have q:=h1 ss (by omega) d h
   rw [Sh.d] at q ⊢
   walk_at "w"
   exact q.use ⟨rfl,rfl⟩
theorem len_ofString (s:String):(Str.ofString s).length=s.toList.length:=by
 show (Str.ofString s).cps.size=_
 rw [Str.ofString_eq_toList];simp
theorem log2_small {i:Int} (h1 : -1000000000000000000000000000000000000000000 < i) (h2:i < 1000000000000000000000000000000000000000000):i.natAbs.log2 < 1920:=by
 by_cases h:i.natAbs=0
 ·rw [h];decide
 ·rw [Nat.log2_lt h]
  have h3:i.natAbs < 1000000000000000000000000000000000000000000:=by omega
  have h4:(1000000000000000000000000000000000000000000:Nat)≤2 ^ 150:=by decide
  have h5:(2:Nat) ^ 150≤2 ^ 1920:=Nat.pow_le_pow_right (by decide) (by decide)
  exact Nat.lt_of_lt_of_le h3 (Nat.le_trans h4 h5)
theorem foldl_app (x:Array Nat):∀(n:Nat) (acc:Array Nat),((List.replicate n x).foldl (·++·) acc).toList=acc.toList++(List.replicate n x.toList).flatten
 | 0,acc=>by simp
 | n + 1,acc=>by
   rw [List.replicate_succ,List.foldl_cons,foldl_app x n,List.replicate_succ,List.flatten_cons]
   simp
theorem mul_codes {x:Str} {k:Int}:(Txt.mul x k).cps.toList=(List.replicate k.toNat x.cps.toList).flatten:=by
 unfold Txt.mul
 split
 ·have:k.toNat=0:=by omega
  rw [this];rfl
 ·split
  ·next h=>
   rw [Bool.or_eq_true] at h
   rcases h with h | h
   ·have:k=1:=by simpa using h
    subst this;simp
   ·have:x.cps.toList=[]:=by
     have h':x.length=0:=by simpa using h
     exact List.eq_nil_of_length_eq_zero (by simpa [Str.length] using h')
    rw [this];simp
  ·have:=foldl_app x.cps k.toNat #[]
   simpa using this
theorem len_codes (x:Str):x.length=x.cps.toList.length:=by simp [Str.length]
theorem app_codes (x y:Str):(x++y).cps.toList=x.cps.toList++y.cps.toList:=by
 show (x.cps++y.cps).toList=_
 simp
theorem rep_len {α:Type} (xs:List α) (k:Nat):(List.replicate k xs).flatten.length=k * xs.length:=by simp
theorem W_compMap {f:D→D} {fr:List (Option Sl)} {S:List Ob} {elt:M D} {ds:List D} {z:Option Sl} (h:∀d∈ds,W elt ⟨some (.val d) :: fr,S⟩ fun x t'=>x=f d∧t'=⟨some (.val d) :: fr,S⟩) :
 W (compL (putV 0) tTru elt ds) ⟨z :: fr,S⟩ fun xs t'=>xs=ds.map f∧t'.S=S:=by
 refine (W_comp (P:=fun xs t'=>xs=ds.map f∧t'.S=S) (fun acc r t=>acc++r.map f=ds.map f∧∃z,t=⟨z :: fr,S⟩) ds [] _ ⟨rfl,z,rfl⟩ ?_ ?_).mono fun xs t' h=>h
 ·rintro acc d r t ⟨h1,z,rfl⟩ hm
  refine wPut (wTru ?_)
  rw [if_pos rfl]
  refine (h d hm).mono fun x t' ⟨e1,e2⟩=>?_
  subst e1 e2
  exact ⟨by rw [List.append_assoc];exact h1,_,rfl⟩
 ·rintro acc t ⟨h1,z,rfl⟩
  exact ⟨by simpa using h1,rfl⟩
theorem DeckAt.keep {k c k' c':Nat} {S S':List Ob} (d:DeckAt k' c' S) (kp:Keep k c S S') (h1:k'≠k) (h2:k'≠c) (h3:c'≠k) (h4:c'≠c):DeckAt k' c' S':=by
 obtain ⟨ne,cells,par,pos,e1,e2,r⟩:=d
 exact ⟨ne,cells,par,pos,(kp.2 k' h1 h2).trans e1,(kp.2 c' h3 h4).trans e2,r⟩
theorem DeckAt.more {k c:Nat} {S ex:List Ob} (d:DeckAt k c S):DeckAt k c (S++ex):=by
 obtain ⟨ne,cells,par,pos,e1,e2,r⟩:=d
 refine ⟨ne,cells,par,pos,?_,?_,r⟩
 ·rw [List.getElem?_append_left (List.getElem?_eq_some_iff.mp e1).1];exact e1
 ·rw [List.getElem?_append_left (List.getElem?_eq_some_iff.mp e2).1];exact e2
mutual
def sz:D→Nat
 | .tup xs=>szs xs + 1
 | .lst xs=>szs xs + 1
 | _=>1
def szs:List D→Nat
 | []=>0
 | d :: r=>sz d + szs r
end
theorem ok_w {s:String} (h:(Str.ofString s).length≤90000:=by decide +kernel):okD (.str (Str.ofString s))=true:=by rw [okD];exact decide_eq_true h
theorem ok_t {xs:List D} (h:∀d∈xs,okD d=true):okD (.tup xs)=true:=by rw [okD];exact oks_of h
theorem ok_t2 {x y:D} (h1:okD x=true) (h2:okD y=true):okD (.tup [x,y])=true:=ok_t (by simp only [List.forall_mem_cons];exact ⟨h1,h2,fun _ z=>nomatch z⟩)
theorem ok_t3 {x y z:D} (h1:okD x=true) (h2:okD y=true) (h3:okD z=true):okD (.tup [x,y,z])=true:=ok_t (by simp only [List.forall_mem_cons];exact ⟨h1,h2,h3,fun _ z=>nomatch z⟩)
mutual
def wf:Sh→Bool
 | .nothing=>true
 | .number lo hi=>decide (-1000000000000000000 < lo) && decide (lo≤hi) && decide (hi < 1000000000000000000)
 | .text m=>decide (0≤m) && decide (m≤250)
 | .list s m=>decide (0≤m) && decide (m≤250) && wf s
 | .pair s r=>wf s && wf r
 | .choice ss=>decide (1≤ss.length) && decide (ss.length≤9) && wfs ss
def wfs:List Sh→Bool
 | []=>true
 | s :: r=>wf s && wfs r
end
mutual
def cnt:Sh→Nat
 | .list s _=>cnt s + 1
 | .pair s r=>cnt s + cnt r + 1
 | .choice ss=>cnts ss + 1
 | _=>1
def cnts:List Sh→Nat
 | []=>0
 | s :: r=>cnt s + cnts r
end
theorem wfs_mem:∀{ss:List Sh},wfs ss=true→∀s∈ss,wf s=true
 | x :: r,h,s,m=>by
   rw [wfs,Bool.and_eq_true] at h
   rcases List.mem_cons.mp m with z | z
   ·subst z;exact h.1
   ·exact wfs_mem h.2 s z
theorem wfs_of:∀{ss:List Sh},(∀s∈ss,wf s=true)→wfs ss=true
 | [],_=>rfl
 | x :: r,h=>by rw [wfs,h x List.mem_cons_self,wfs_of fun s m=>h s (List.mem_cons_of_mem _ m)];rfl
theorem shD_map':∀ss:List Sh,shD ss=ss.map Sh.d
 | []=>rfl
 | s :: r=>by rw [shD,shD_map' r];rfl
theorem shDep_mem:∀{ss:List Sh} {s:Sh},s∈ss→s.depth≤shDep ss
 | x :: r,s,m=>by
   rw [shDep]
   rcases List.mem_cons.mp m with z | z
   ·subst z;omega
   ·have:=shDep_mem z;omega
mutual
theorem sh_ok:∀s:Sh,okD s.d=true
 | .nothing=>by rw [Sh.d];decide +kernel
 | .number _ _=>by rw [Sh.d];exact ok_t3 ok_w rfl rfl
 | .text _=>by rw [Sh.d];exact ok_t2 ok_w rfl
 | .list s _=>by rw [Sh.d];exact ok_t3 ok_w (sh_ok s) rfl
 | .pair s r=>by rw [Sh.d];exact ok_t3 ok_w (sh_ok s) (sh_ok r)
 | .choice ss=>by rw [Sh.d];exact ok_t2 ok_w (by rw [okD];exact shs_ok ss)
theorem shs_ok:∀ss:List Sh,oks (shD ss)=true
 | []=>rfl
 | s :: r=>by rw [shD,oks,sh_ok s,shs_ok r];rfl
end
mutual
theorem sh_sz:∀s:Sh,sz s.d≤4 * cnt s
 | .nothing=>by rw [Sh.d];simp [sz,szs,cnt]
 | .number _ _=>by rw [Sh.d];simp [sz,szs,cnt]
 | .text _=>by rw [Sh.d];simp [sz,szs,cnt]
 | .list s _=>by rw [Sh.d];have:=sh_sz s;simp [sz,szs,cnt];omega
 | .pair s r=>by rw [Sh.d];have:=sh_sz s;have:=sh_sz r;simp [sz,szs,cnt];omega
 | .choice ss=>by rw [Sh.d];have:=shs_sz ss;simp [sz,szs,cnt];omega
theorem shs_sz:∀ss:List Sh,szs (shD ss)≤4 * cnts ss
 | []=>by simp [shD,szs,cnts]
 | s :: r=>by have:=sh_sz s;have:=shs_sz r;simp [shD,szs,cnts];omega
end
theorem pick {xs:List D} {i:Int} (h0:0≤i) (h1:i < xs.length) {p:D→Prop} (h:∀d∈xs,p d):∃d,atI xs i=some d∧p d:=by
 obtain ⟨d,e,m,_⟩:=atI_pos h0 h1
 exact ⟨d,e,h d m⟩
def KeepL (k c l:Nat) (S S':List Ob):Prop:=S'.length=S.length∧∀j:Nat,j≠k→j≠c→j≠l→S'[j]?=S[j]?
theorem KeepL.refl {k c l:Nat} {S:List Ob}:KeepL k c l S S:=⟨rfl,fun _ _ _ _=>rfl⟩
theorem KeepL.trans {k c l:Nat} {S S' S'':List Ob} (a:KeepL k c l S S') (b:KeepL k c l S' S''):KeepL k c l S S'':=⟨b.1.trans a.1,fun j h1 h2 h3=>(b.2 j h1 h2 h3).trans (a.2 j h1 h2 h3)⟩
def slack (deep:Int):Int:=if deep < 2 then 0 else 2 * deep + 4
def bd (deep x:Int):Int:=if deep < 2 then 1 else max x 1 + slack deep - (if deep + 1≤x then 1 else 0)
def tb (deep y i:Int):Int:=if deep=2 then i else if i=0 then 0 else y + slack (deep - 1) + i - 1 - (if deep≤y then 1 else 0)
structure ShapeRes (k c l:Nat) (S:List Ob) (deep x:Int) (s:Sh) (S':List Ob):Prop where
 w:wf s=true
 dep:(s.depth:Int)≤max deep 1
 lft:S'[l]?=some (.lst [.int (x - cnt s)])
 one:x≤1→cnt s=1
 few:(cnt s:Int)≤max x 1 + slack deep
 deck:DeckAt k c S'
 kp:KeepL k c l S S'
 few2:(cnt s:Int)≤bd deep x
theorem cut_head {x:D} {r:List D}:cutD (x :: r) none (some 1)=[x]:=by
 have:HT.sIx (x :: r).length (x :: r).length (some 1)=1:=by simp [HT.sIx]
 unfold cutD
 rw [this]
 simp [HT.sIx]
theorem cut_tail {x:D} {r:List D}:cutD (x :: r) (some 1) none=r:=by
 have:HT.sIx (x :: r).length 0 (some 1)=1:=by simp [HT.sIx]
 unfold cutD
 rw [this]
 simp [HT.sIx]
structure Sep (ks:List (Nat×Nat)):Prop where
 sep:∀p∈ks,∀q∈ks,p=q∨(q.1≠p.1∧q.1≠p.2∧q.2≠p.1∧q.2≠p.2)
theorem Sep.keep {ks:List (Nat×Nat)} (sp:Sep ks) {p:Nat×Nat} (hp:p∈ks) {S S':List Ob} (h:∀q∈ks,DeckAt q.1 q.2 S) (d:DeckAt p.1 p.2 S') (k:Keep p.1 p.2 S S'):∀q∈ks,DeckAt q.1 q.2 S':=fun q hq=>by
 rcases sp.sep p hp q hq with e | ⟨h1,h2,h3,h4⟩
 ·rw [←e];exact d
 ·exact (h q hq).keep k h1 h2 h3 h4
theorem wLstS {x:Str} {t:T} {Q:List D→T→Prop} (hx:x.length≤LIM) (h:Q (x.cps.toList.map fun c=>D.str ⟨#[c]⟩) t):W (lstF2 [.str x]) t Q:=⟨_,_,by show (if x.length≤LIM then _ else none)=_;rw [if_pos hx],h⟩
mutual
def dpt:D→Nat
 | .lst ds=>dpts ds + 1
 | .tup ds=>dpts ds + 1
 | _=>1
def dpts:List D→Nat
 | []=>0
 | d :: r=>max (dpt d) (dpts r)
end
theorem dpts_le:∀{ds:List D} {n:Nat},(∀d∈ds,dpt d≤n)→dpts ds≤n
 | [],n,_=>by simp [dpts]
 | x :: r,n,h=>by
   rw [dpts]
   have h1:=h x List.mem_cons_self
   have h2:=dpts_le fun d m=>h d (List.mem_cons_of_mem _ m)
   omega
theorem dpt_pos (d:D):0 < dpt d:=by cases d <;> simp [dpt]
mutual
def smD:D→Bool
 | .str x=>decide (x.length≤300)
 | .int i=>decide (-1000000000000000000000000 < i) && decide (i < 1000000000000000000000000)
 | .tup xs=>decide (xs.length≤300) && sms xs
 | .lst xs=>decide (xs.length≤300) && sms xs
 | .obj _=>false
 | .scr _=>false
 | .ty _=>false
 | .exc _ _=>false
 | _=>true
def sms:List D→Bool
 | []=>true
 | d :: r=>smD d && sms r
end
theorem sms_of:∀{xs:List D},(∀d∈xs,smD d=true)→sms xs=true
 | [],_=>rfl
 | x :: r,h=>by
   rw [sms,Bool.and_eq_true]
   exact ⟨h x List.mem_cons_self,sms_of fun d m=>h d (List.mem_cons_of_mem _ m)⟩
mutual
theorem sm_ok:∀{d:D},smD d=true→okD d=true
 | .str x,h=>by rw [smD,decide_eq_true_eq] at h;rw [okD,decide_eq_true_eq];omega
 | .tup xs,h=>by rw [smD,Bool.and_eq_true] at h;rw [okD];exact sms_ok h.2
 | .lst xs,h=>by rw [smD,Bool.and_eq_true] at h;rw [okD];exact sms_ok h.2
 | .obj _,h=>by simp [smD] at h
 | .scr _,h=>by simp [smD] at h
 | .ty _,h=>by simp [smD] at h
 | .non,_=>by simp [okD]
 | .bl _,_=>by simp [okD]
 | .int _,_=>by simp [okD]
 | .dic,_=>by simp [okD]
theorem sms_ok:∀{xs:List D},sms xs=true→oks xs=true
 | [],_=>by simp [oks]
 | d :: r,h=>by rw [sms,Bool.and_eq_true] at h;rw [oks,Bool.and_eq_true];exact ⟨sm_ok h.1,sms_ok h.2⟩
end
theorem eqLs_refl {f:D→D→Option Bool}:∀{xs:List D},(∀d∈xs,f d d=some true)→eqLs f xs xs=some true
 | [],_=>rfl
 | x :: r,h=>by
   rw [eqLs,h x List.mem_cons_self,eqLs_refl fun d m=>h d (List.mem_cons_of_mem _ m)]
   rfl
theorem eqN_refl:∀(n:Nat) (d:D),dpt d≤n→smD d=true→d≠.dic→(∀xs,d = .lst xs∨d = .tup xs→∀x∈xs,eqN (n - 1) x x=some true)→eqN n d d=some true
 | 0,d,hd,_,_,_=>absurd hd (by have:=dpt_pos d;omega)
 | n + 1,.lst xs,_,_,_,h=>by
   rw [eqN,if_pos rfl]
   exact eqLs_refl (h xs (.inl rfl))
 | n + 1,.tup xs,_,_,_,h=>by
   have e:eqLs (eqN n) xs xs=some true:=eqLs_refl (h xs (.inr rfl))
   rw [eqN,e]
   simp
 | n + 1,.non,_,_,_,_=>rfl
 | n + 1,.bl b,_,_,_,_=>by show some (b == b)=some true;rw [beq_self_eq_true]
 | n + 1,.int b,_,_,_,_=>by show some (b == b)=some true;rw [beq_self_eq_true]
 | n + 1,.str b,_,_,_,_=>by show some (b == b)=some true;rw [beq_self_eq_true]
 | n + 1,.dic,_,_,h,_=>absurd rfl h
 | n + 1,.obj _,_,h,_,_=>by simp [smD] at h
 | n + 1,.scr _,_,h,_,_=>by simp [smD] at h
 | n + 1,.ty _,_,h,_,_=>by simp [smD] at h
theorem fits_sm:∀(n:Nat) (s:Sh),s.depth≤n→wf s=true→∀d,fitsB s d=true→smD d=true∧dpt d≤s.depth∧∀m,s.depth≤m→eqN m d d=some true
 | 0,s,h,_,_,_=>absurd s.depth_pos (by omega)
 | n + 1,s,hs,hw,d,hf=>by
   have l2:(Str.ofString "of").length≤300:=by decide +kernel
   cases s with
   | nothing=>
     cases d <;> simp [fitsB,isNon] at hf
     refine ⟨rfl,by simp [dpt,Sh.depth],fun m hm=>?_⟩
     have:=(Sh.nothing).depth_pos
     obtain ⟨m,rfl⟩:∃k,m=k + 1:=⟨m - 1,by omega⟩
     exact eqN_refl _ _ (by simp [dpt]) rfl (by simp) (by simp)
   | number lo hi=>
     simp only [wf,Bool.and_eq_true,decide_eq_true_eq] at hw
     cases d <;> simp [fitsB] at hf
     rename_i i
     have sm:smD (.int i)=true:=by
      simp only [smD,Bool.and_eq_true,decide_eq_true_eq]
      omega
     refine ⟨sm,by simp [dpt,Sh.depth],fun m hm=>?_⟩
     rw [Sh.depth] at hm
     obtain ⟨m,rfl⟩:∃k,m=k + 1:=⟨m - 1,by omega⟩
     exact eqN_refl _ _ (by simp [dpt]) sm (by simp) (by simp)
   | text q=>
     simp only [wf,Bool.and_eq_true,decide_eq_true_eq] at hw
     cases d <;> simp [fitsB] at hf
     rename_i x
     have sm:smD (.str x)=true:=by
      simp only [smD,decide_eq_true_eq]
      omega
     refine ⟨sm,by simp [dpt,Sh.depth],fun m hm=>?_⟩
     rw [Sh.depth] at hm
     obtain ⟨m,rfl⟩:∃k,m=k + 1:=⟨m - 1,by omega⟩
     exact eqN_refl _ _ (by simp [dpt]) sm (by simp) (by simp)
   | list s q=>
     simp only [wf,Bool.and_eq_true,decide_eq_true_eq] at hw
     rw [Sh.depth] at hs
     cases d <;> simp only [fitsB,Bool.false_eq_true] at hf
     rename_i ds
     rw [Bool.and_eq_true,decide_eq_true_eq,List.all_eq_true] at hf
     have ih:=fun d m=>fits_sm n s (by omega) hw.2 d (hf.2 d m)
     have sm:smD (.lst ds)=true:=by
      rw [smD,Bool.and_eq_true,decide_eq_true_eq]
      exact ⟨by omega,sms_of fun d m=>(ih d m).1⟩
     have dd:dpts ds≤s.depth:=dpts_le fun d m=>(ih d m).2.1
     refine ⟨sm,by rw [dpt,Sh.depth];omega,fun m hm=>?_⟩
     rw [Sh.depth] at hm
     obtain ⟨m,rfl⟩:∃k,m=k + 1:=⟨m - 1,by omega⟩
     refine eqN_refl _ _ (by rw [dpt];omega) sm (by simp) fun xs e x hx=>?_
     rcases e with e | e
     ·cases e;exact (ih x hx).2.2 m (by omega)
     ·cases e
   | pair s r=>
     simp only [wf,Bool.and_eq_true] at hw
     rw [Sh.depth] at hs
     match d,hf with
     | .tup [a,b],hf=>
       simp only [fitsB,Bool.and_eq_true] at hf
       have i1:=fits_sm n s (by omega) hw.1 a hf.1
       have i2:=fits_sm n r (by omega) hw.2 b hf.2
       have sm:smD (.tup [a,b])=true:=by simp [smD,sms,i1.1,i2.1]
       have h1:=i1.2.1
       have h2:=i2.2.1
       refine ⟨sm,by simp only [dpt,dpts,Sh.depth];omega,fun m hm=>?_⟩
       rw [Sh.depth] at hm
       obtain ⟨m,rfl⟩:∃k,m=k + 1:=⟨m - 1,by omega⟩
       refine eqN_refl _ _ (by simp only [dpt,dpts];omega) sm (by simp) fun xs e x hx=>?_
       rcases e with e | e
       ·cases e
       ·cases e
        simp only [List.mem_cons,List.not_mem_nil,or_false] at hx
        rcases hx with rfl | rfl
        ·exact i1.2.2 m (by omega)
        ·exact i2.2.2 m (by omega)
   | choice ss=>
     simp only [wf,Bool.and_eq_true,decide_eq_true_eq] at hw
     rw [Sh.depth] at hs
     match d,hf with
     | .tup [.str o,.int k,x],hf=>
       simp only [fitsB,Bool.and_eq_true,decide_eq_true_eq] at hf
       obtain ⟨⟨ho,k0,k1⟩,hf⟩:=hf
       have hk:k.toNat < ss.length:=by omega
       have e1:ss[k.toNat]?=some ss[k.toNat]:=List.getElem?_eq_getElem hk
       rw [fitsN_get ss _ _ _ e1] at hf
       have hd:=shDep_get ss _ _ e1
       have ih:=fits_sm n _ (by omega) (wfs_mem hw.2 _ (List.getElem_mem hk)) x hf
       have ho':o.length≤300:=by
        have:o=("of" : Str):=by simpa [isOf] using ho
        subst this;exact l2
       have sm:smD (.tup [.str o,.int k,x])=true:=by
        simp only [smD,sms,ih.1,Bool.and_true,Bool.and_eq_true,decide_eq_true_eq,List.length_cons,List.length_nil]
        omega
       have h1:=ih.2.1
       have h2:=dpt_pos x
       have p1:=(ss[k.toNat]).depth_pos
       refine ⟨sm,by simp only [dpt,dpts,Sh.depth];omega,fun m hm=>?_⟩
       rw [Sh.depth] at hm
       obtain ⟨m,rfl⟩:∃k,m=k + 1:=⟨m - 1,by omega⟩
       refine eqN_refl _ _ (by simp only [dpt,dpts];omega) sm (by simp) fun xs e y hy=>?_
       rcases e with e | e
       ·cases e
       ·cases e
        obtain ⟨m',rfl⟩:∃k,m=k + 1:=⟨m - 1,by omega⟩
        simp only [List.mem_cons,List.not_mem_nil,or_false] at hy
        rcases hy with rfl | rfl | rfl
        ·exact eqN_refl _ _ (by simp [dpt]) (by simp [smD,ho']) (by simp) (by simp)
        ·exact eqN_refl _ _ (by simp [dpt]) (by simp only [smD,Bool.and_eq_true,decide_eq_true_eq];omega) (by simp) (by simp)
        ·exact ih.2.2 _ (by omega)
theorem wEqRefl {d:D} {g:Bool→Bool} {t:T} {P:D→T→Prop} (h0:isOb d=false) (h:eqN EQD d d=some true) (p:P (.bl (g true)) t):W (eqS g d d) t P:=⟨_,_,by simp [eqS,h0,h],p⟩
theorem wJoin {f:M D} {g:M (List D)} {t:T} {P:D→T→Prop} (h:W f t fun o t1=>W g t1 fun as t2=>∃z ds ys,o = .str z∧as=[.lst ds]∧strsOf ds=some ys∧(z.length≤8∧ys.length≤1048576)∧P (.str (Txt.join z ys)) t2):W (joinM f g) t P:=by
 refine wBnd (h.mono fun o t1 h1=>wBnd (h1.mono fun as t2 h2=>?_))
 obtain ⟨z,ds,ys,rfl,rfl,e,hl,p⟩:=h2
 refine ⟨_,_,?_,p⟩
 simp only [e]
 rw [if_pos hl]
theorem strsOf_signs:∀ns:List Nat,strsOf (ns.map fun n=>D.str ⟨#[n]⟩)=some (ns.map fun n=>(⟨#[n]⟩:Str))
 | []=>rfl
 | n :: r=>by
   rw [List.map_cons,strsOf,if_pos (Nat.le_of_ble_eq_true rfl),strsOf_signs r]
   rfl
theorem glue_codes:∀(ns:List Nat) (acc:Array Nat),((ns.map fun n=>(⟨#[n]⟩:Str)).foldl (fun acc p=>acc++(Str.ofString "").cps++p.cps) acc).toList=acc.toList++ns
 | [],acc=>by simp
 | n :: r,acc=>by
   have e:(Str.ofString "").cps=#[]:=by decide +kernel
   rw [List.map_cons,List.foldl_cons,glue_codes r,e]
   simp
theorem join_codes (ns:List Nat):(Txt.join (Str.ofString "") (ns.map fun n=>(⟨#[n]⟩:Str))).cps.toList=ns:=by
 show (List.foldl (fun (acc:Array Nat) (p:Str)=>acc++(Str.ofString "").cps++p.cps) (((ns.map fun n=>(⟨#[n]⟩:Str)).headD Str.empty).cps) ((ns.map fun n=>(⟨#[n]⟩:Str)).drop 1)).toList=ns
 cases ns with
 | nil=>rfl
 | cons n r=>
   rw [List.map_cons,List.drop_one,List.tail_cons,glue_codes]
   rfl
structure ValueRes (k c l:Nat) (S:List Ob) (s:Sh) (r:D) (S':List Ob):Prop where
 fit:fitsB s r=true
 lft:∃a b:Int,S'[l]?=some (.lst [.int a,.int b])
 deck:DeckAt k c S'
 kp:KeepL k c l S S'
theorem Keep.at {k c l:Nat} {S S':List Ob} {o:Option Ob} (a:Keep k c S S') (h1:l≠k) (h2:l≠c) (e:S[l]?=o):S'[l]?=o:=(a.2 l h1 h2).trans e
theorem wDGet {n:Nat} {x:Str} {kvs:List (Key×D)} {d:D} {t:T} {P:D→T→Prop} (e:t.S[n]?=some (.dct kvs)) (e2:kvGet kvs (.inr x)=some d) (h:P d t):W (dgetD (.obj n) (.str x)) t P:=
 ⟨d,t,by simp only [dgetD,e,e2];rfl,h⟩
theorem wStKey {f g:M D} {d:D} {t:T} {U:Unit→T→Prop} (h:W f t fun o t1=>W g t1 fun i t2=>W (stKeyOb o i d) t2 U):W (stKey f g d) t U:=wBnd (h.mono fun o t1 h1=>wBnd h1)
theorem wStKeyOb {n:Nat} {x:Str} {d:D} {kvs:List (Key×D)} {t:T} {U:Unit→T→Prop} (e:t.S[n]?=some (.dct kvs)) (hl:kvs.length < LIM) (h:U () ⟨t.env,t.S.set n (.dct (kvPut kvs (.inr x) d))⟩):W (stKeyOb (.obj n) (.str x) d) t U:=
 ⟨(),_,by simp only [stKeyOb,e,if_pos hl],h⟩
theorem wDisp {l:List (Str×M D)} {t:T} {P:D→T→Prop} (h:W (fPairs l) ⟨t.env,t.S++[.dct []]⟩ fun ps t1=>t1.S[t.S.length]?=some (.dct [])∧ps.length≤15∧P (.obj t.S.length) ⟨t1.env,t1.S.set t.S.length (.dct (kvMerge ps))⟩):W (fDisp l) t P:=by
 obtain ⟨ps,t1,e1,e2,e3,p⟩:=h
 refine ⟨_,_,?_,p⟩
 unfold fDisp bnd
 simp only [e1]
 unfold dispEnd
 simp only [e2,if_pos e3]
theorem wPairsNil {t:T} {Q:List (Key×D)→T→Prop} (h:Q [] t):W (fPairs []) t Q:=⟨_,_,rfl,h⟩
theorem wPairsCons {k:Str} {f:M D} {r:List (Str×M D)} {t:T} {Q:List (Key×D)→T→Prop} (h:W f t fun d t1=>W (fPairs r) t1 fun ps t2=>Q ((.inr k,d) :: ps) t2):W (fPairs ((k,f) :: r)) t Q:=
 wBnd (h.mono fun d t1 h1=>wBnd (h1.mono fun ps t2 h2=>⟨_,_,rfl,h2⟩))
structure St where
 rest:Int
 mixed:Bool
 turn:Int
def St.ob (s:St):Ob:=.dct [(.inr (Str.ofString "rest"),.int s.rest),(.inr (Str.ofString "mixed"),.bl s.mixed),(.inr (Str.ofString "turn"),.int s.turn)]
def take (s:St) (m:Int):Int×St:=
 if s.mixed=false then (s.rest % m,⟨s.rest / m,s.mixed,s.turn⟩)
 else
  let stir:=(s.rest % 2147483579 + 70001 * (s.turn + 1)) % 2147483579
  let rest:=(stir * stir % 2147483563 * 50021 + 7) % 2147483579
  (rest / 5 % m,⟨rest,s.mixed,s.turn + 1⟩)
theorem rngL_len (a:Int) (n:Nat):(rngL a n).length=n:=by simp [rngL]
inductive GS where
 | fin
 | st (side:Str) (ws:List (Str×Sh×Int))
def wdD (w:Str×Sh×Int):D:=.tup [.str w.1,w.2.1.d,.int w.2.2]
def GS.d:GS→D
 | .fin=>.tup [.str (Str.ofString "end")]
 | .st side ws=>.tup [.str side,.lst (ws.map wdD)]
structure WOk (n:Int) (w:Str×Sh×Int):Prop where
 ok:wf w.2.1=true
 dep:w.2.1.depth≤3
 lo:0≤w.2.2
 hi:w.2.2 < n
 nm:w.1.length≤90000
inductive GSOk (n:Int):GS→Prop
 | fin:GSOk n .fin
 | st {side:Str} {ws:List (Str×Sh×Int)}:(side=Str.ofString "left"∨side=Str.ofString "right")→0 < ws.length→ws.length≤9→(ws.map (·.1)).Nodup→(∀w∈ws,WOk n w)→GSOk n (.st side ws)
structure GOk (g:List GS):Prop where
 ne:0 < g.length
 le:g.length≤30
 all:∀x∈g,GSOk g.length x
def GS.words:GS→D
 | .fin=>.tup []
 | .st _ ws=>.lst (ws.map wdD)
def GS.ws:GS→List (Str×Sh×Int)
 | .fin=>[]
 | .st _ ws=>ws
def GS.side:GS→Str
 | .fin=>Str.ofString "end"
 | .st s _=>s
def gsAt (g:List GS) (q:Nat):GS:=g.getD q .fin
def wdAt (g:List GS) (q p:Nat):Str×Sh×Int:=(gsAt g q).ws.getD p (Str.ofString "",.nothing,0)
structure MvOk (g:List GS) (q:Nat) (p:Nat) (v:D):Prop where
 lt:q < g.length
 pl:p < (gsAt g q).ws.length
 fit:fitsB (wdAt g q p).2.1 v=true
def wid (n:Nat):Nat:=if n=0 then 0 else n.log2 / 8 + 1
theorem log2_half {n:Nat} (h:2≤n):n.log2=(n / 2).log2 + 1:=by rw [Nat.log2_def,if_pos h]
theorem log2_one {n:Nat} (h:n < 2):n.log2=0:=by rw [Nat.log2_def,if_neg (by omega)]
theorem log2_pow:∀(k:Nat) {n:Nat},2 ^ k≤n→n.log2=(n / 2 ^ k).log2 + k
 | 0,n,_=>by rw [Nat.pow_zero,Nat.div_one,Nat.add_zero]
 | k + 1,n,h=>by
   have h2:2 ^ k * 2≤n:=by rw [←Nat.pow_succ];exact h
   have h3:2≤n / 2 ^ k:=(Nat.le_div_iff_mul_le (Nat.pow_pos (by decide))).mpr (by rw [Nat.mul_comm];exact h2)
   rw [log2_pow k (Nat.le_trans (Nat.le_mul_of_pos_right _ (by decide)) h2),log2_half h3,Nat.div_div_eq_div_mul,←Nat.pow_succ,Nat.add_assoc,Nat.add_comm 1 k]
theorem log2_256 {n:Nat} (h:256≤n):n.log2=(n / 256).log2 + 8:=log2_pow 8 h
theorem log2_lt8 {n:Nat} (h:n < 256):n.log2 < 8:=by
 by_cases z:n=0
 ·subst z;rw [log2_one (by omega)];omega
 ·exact (Nat.log2_lt z).mpr h
theorem wid_step {n:Nat} (h:0 < n):wid n=wid (n / 256) + 1:=by
 unfold wid
 rw [if_neg (by omega)]
 by_cases z:n < 256
 ·have:=log2_lt8 z
  rw [if_pos (by omega)];omega
 ·rw [if_neg (by omega),log2_256 (by omega)];omega
theorem wid_le:∀(k n:Nat),n < 256 ^ k→wid n≤k
 | 0,n,h=>by
   have:n=0:=by simpa using h
   subst this;decide
 | k + 1,n,h=>by
   by_cases z:n=0
   ·subst z;exact Nat.zero_le _
   ·rw [wid_step (by omega)]
    have:=wid_le k (n / 256) (Nat.div_lt_of_lt_mul (by rw [Nat.pow_succ] at h;omega))
    omega
def nb:Nat→Nat→List D
 | 0,_=>[]
 | w + 1,n=>nb w (n / 256)++[.int ((n % 256:Nat):Int)]
mutual
def byts:Sh→D→List D
 | .nothing,_=>[]
 | .number lo hi,d=>match d with
   | .int i=>nb (wid (hi - lo).toNat) (i - lo).toNat
   | _=>[]
 | .text _,d=>match d with
   | .str x=>.int (x.length:Nat) :: x.cps.toList.map fun n=>D.int (n:Nat)
   | _=>[]
 | .list s _,d=>match d with
   | .lst ds=>.int (ds.length:Nat) :: (ds.map fun d=>byts s d).flatten
   | _=>[]
 | .pair s r,d=>match d with
   | .tup [a,b]=>byts s a++byts r b
   | _=>[]
 | .choice ss,d=>match d with
   | .tup [_,.int k,x]=>.int k :: bytsN ss k.toNat x
   | _=>[]
def bytsN:List Sh→Nat→D→List D
 | [],_,_=>[]
 | s :: _,0,d=>byts s d
 | _ :: r,k + 1,d=>bytsN r k d
end
theorem rngL_eq (i:Int) (n:Nat):rngL i n=(List.range n).map fun k:Nat=>D.int (i + k):=by
 rfl
abbrev kR:Key:=.inr (Str.ofString "rest")
abbrev kM:Key:=.inr (Str.ofString "mixed")
abbrev kC:Key:=.inr (Str.ofString "count")
theorem kRM:¬kR=kM:=by intro h;injection h with h;rw [ofString_inj] at h;exact absurd h (by decide)
theorem kRC:¬kR=kC:=by intro h;injection h with h;rw [ofString_inj] at h;exact absurd h (by decide)
theorem kMC:¬kM=kC:=by intro h;injection h with h;rw [ofString_inj] at h;exact absurd h (by decide)
theorem kMR:¬kM=kR:=fun h=>kRM h.symm
theorem kCR:¬kC=kR:=fun h=>kRC h.symm
abbrev poolL (a b c:D):List (Key×D):=[(kR,a),(kM,b),(kC,c)]
theorem pl_rest {a b c:D}:kvGet (poolL a b c) kR=some a:=by simp [kvGet,List.find?_cons]
theorem pl_mixed {a b c:D}:kvGet (poolL a b c) kM=some b:=by
 unfold kvGet poolL;rw [List.find?_cons,show decide (kR=kM)=false from decide_eq_false kRM];simp [List.find?_cons]
theorem pl_count {a b c:D}:kvGet (poolL a b c) kC=some c:=by
 unfold kvGet poolL
 rw [List.find?_cons,show decide (kR=kC)=false from decide_eq_false kRC]
 dsimp only
 rw [List.find?_cons,show decide (kM=kC)=false from decide_eq_false kMC]
 simp [List.find?_cons]
theorem ps_rest {a b c d:D}:kvPut (poolL a b c) kR d=poolL d b c:=by
 unfold kvPut poolL
 rw [if_pos (by simp)]
 simp only [List.map_cons,List.map_nil,if_true,if_neg kMR,if_neg kCR]
theorem ps_count {a b c d:D}:kvPut (poolL a b c) kC d=poolL a b d:=by
 unfold kvPut poolL
 rw [if_pos (by simp)]
 simp only [List.map_cons,List.map_nil,if_true,if_neg kRC,if_neg kMC]
theorem pl_merge {a b c:D}:kvMerge (poolL a b c)=poolL a b c:=by
 unfold kvMerge
 simp only [List.foldl_cons,List.foldl_nil]
 have e1:kvPut [] kR a=[(kR,a)]:=by simp [kvPut]
 rw [e1]
 have e2:kvPut [(kR,a)] kM b=[(kR,a),(kM,b)]:=by
  unfold kvPut
  rw [if_neg (by simp only [List.any_cons,List.any_nil,Bool.or_false,decide_eq_true_eq];exact kRM)];rfl
 rw [e2]
 unfold kvPut
 rw [if_neg (by
  simp only [List.any_cons,List.any_nil,Bool.or_false,Bool.or_eq_true,decide_eq_true_eq]
  intro h
  rcases h with h | h
  ·exact kRC h
  ·exact kMC h)]
 rfl
def Room (k r:Nat) (S:List Ob):Prop:=∃(a c:Int) (b:Bool),S[k]?=some (.dct (poolL (.int a) (.bl b) (.int c)))∧0≤c∧c + r≤1000000000000000000000000000000
theorem Room.mono {k r r':Nat} {S:List Ob} (h:Room k r S) (e:r'≤r):Room k r' S:=by
 obtain ⟨a,c,b,h1,h2,h3⟩:=h
 exact ⟨a,c,b,h1,h2,by omega⟩
theorem Room.drop {k r m:Nat} {S:List Ob} (h:Room k (r + m) S):Room k r S:=h.mono (Nat.le_add_right _ _)
theorem Room.loop {k r q m:Nat} {S:List Ob} (h:Room k (r + q * (m + 1)) S):Room k (r + q * m + q) S:=by rw [Nat.mul_succ,←Nat.add_assoc] at h;exact h
theorem wMulW {i j:Int} {t:T} {P:D→T→Prop} (h1:i.natAbs < 2 ^ 512) (h2:j.natAbs < 2 ^ 512) (h:P (.int (i * j)) t):W (mulW (.int i) (.int j)) t P:=
 ⟨_,_,by simp only [mulW,i2C,mulOkW,decide_eq_true h1,decide_eq_true h2];rfl,h⟩
theorem wDivW {i j:Int} {t:T} {P:D→T→Prop} (h1:0 < j) (h2:j < 18446744073709551616) (h:P (.int (i / j)) t):W (fdivW (.int i) (.int j)) t P:=
 ⟨_,_,by simp only [fdivW,i2C,divOkW,decide_eq_true h1,decide_eq_true h2];rfl,h⟩
theorem lt512 {i:Int} (h0:0≤i) (h:i < 10000000000000000000000000000000000000000000000000000000000000000000000000000000):i.natAbs < 2 ^ 512:=by
 have:(10000000000000000000000000000000000000000000000000000000000000000000000000000000:Nat)≤2 ^ 512:=by decide
 omega
theorem pool_set {k:Nat} {S:List Ob} {o o':Ob} (h:S[k]?=some o):(S.set k o')[k]?=some o':=get_set h
def PTakeOk (f:Fn):Prop:=∀(k r:Nat) (S:List Ob) (m:Int),0 < m→m < 4611686018427387904→Room k (r + 1) S→Wf f [.obj k,.int m] S fun v S'=>(∃i,v = .int i∧0≤i∧i < m)∧Room k r S'
theorem PTakeOk.use {f:Fn} (h:PTakeOk f) {k r:Nat} {S:List Ob} {m:Int} (many:Int) (d:Room k (r + 1) S) {P:D→List Ob→Prop} (p:∀i S',0≤i→i < many→Room k r S'→P (.int i) S') (e:m=many:=by first | rfl | decide) (h1:0 < many:=by decide) (h2:many < 4611686018427387904:=by decide):Wf f [.obj k,.int m] S P:=by
 subst e
 exact (h k r S m h1 h2 d).mono fun v S' ⟨⟨i,e,i0,i1⟩,q⟩=>by subst e;exact p i S' i0 i1 q
theorem app_get {S:List Ob} {x:Ob}:(S++[x])[S.length]?=some x:=by simp
def PPoolOk (f:Fn):Prop:=∀(ns:List Int) (k:Nat) (S:List Ob),k≤1000→Wf f [.scr ns,.int k] S fun r S'=>∃n,r = .obj n∧Room n 900000000000000000000000000000 S'
theorem smallN {n m:Nat} (h:n≤m) (hm:m≤1000:=by decide):small (n:Int)=true:=small_of (by omega) (by omega)
theorem len_step {α:Type} {l:List α} {x:α} {m n:Nat} (h:l.length + (m + 1)=n):(l++[x]).length + m=n:=by rw [List.length_append,←h];simp only [List.length_cons,List.length_nil];omega
theorem mem_app {α:Type} {l:List α} {x:α} {p:α→Prop} (h:∀y∈l,p y) (hx:p x):∀y∈l++[x],p y:=fun y hy=>by
 rcases List.mem_append.mp hy with h' | h'
 ·exact h y h'
 ·rw [List.mem_singleton] at h';subst h';exact hx
theorem lim_of {a n:Nat} (h:a≤n) (hn:n≤100000:=by decide):a≤LIM:=Nat.le_trans h hn
theorem dp_c {ss:List Sh} {n:Nat} (h:∀x∈ss,x.depth≤n):(Sh.choice ss).depth≤n + 1:=by
 rw [Sh.depth]
 refine Nat.succ_le_succ ?_
 induction ss with
 | nil=>rw [shDep];exact Nat.zero_le _
 | cons x r ih=>rw [shDep];exact Nat.max_le.mpr ⟨h x List.mem_cons_self,ih fun y m=>h y (List.mem_cons_of_mem _ m)⟩
structure Drawn (k r:Nat) (dp:Nat) (v:D) (S':List Ob):Prop where
 ex:∃s:Sh,v=s.d∧s.depth≤dp∧wf s=true
 pool:Room k r S'
theorem du_l {s:Sh} {q:Int} {m:Nat} (h:(Sh.list s q).depth≤m + 1):s.depth≤m:=by rw [Sh.depth] at h;exact Nat.le_of_succ_le_succ h
theorem du_p {a b:Sh} {m:Nat} (h:(Sh.pair a b).depth≤m + 1):a.depth≤m∧b.depth≤m:=by rw [Sh.depth] at h;omega
theorem du_c {ss:List Sh} {m:Nat} (h:(Sh.choice ss).depth≤m + 1):∀x∈ss,x.depth≤m:=fun x hx=>by rw [Sh.depth] at h;exact Nat.le_trans (shDep_mem hx) (Nat.le_of_succ_le_succ h)
theorem sh_at {ss:List Sh} {k:Nat} (h:k < ss.length):atI (shD ss) (k:Int)=some (ss[k]).d:=by
 unfold atI
 rw [ixN_nat (by omega) (by rw [shD_len];omega)]
 show (shD ss)[(k:Int).toNat]?=_
 rw [Int.toNat_natCast,shD_get,List.getElem?_eq_getElem h];rfl
theorem num_ok {lo hi:Int} (h:wf (.number lo hi)=true):lo≤hi∧0 < hi - lo + 1∧hi - lo + 1 < 4611686018427387904∧wid (hi - lo).toNat≤8:=by
 simp only [wf,Bool.and_eq_true,decide_eq_true_eq] at h
 refine ⟨by omega,by omega,by omega,wid_le 8 _ ?_⟩
 have:(256:Nat) ^ 8=18446744073709551616:=by decide
 omega
theorem num_mid {lo hi g:Int} (z0:0≤g) (z1:g < hi - lo + 1):lo≤lo + g∧lo + g≤hi:=by omega
structure Val (k r:Nat) (s:Sh) (c:Nat) (v:D) (S':List Ob):Prop where
 fit:fitsB s v=true
 len:(byts s v).length≤c
 pool:Room k r S'
def sgs:Str:=" !\"#$ &'()*+,-./0123456789:;<=>?@ABCDEFGHIJKLMNOPQRSTUVWXYZ[\\]^_`abcdefghijklmnopqrstuvwxyz{|}~"
mutual
def plD:D→Bool
 | .lst xs=>pls xs
 | .tup xs=>pls xs
 | .obj _=>false
 | .scr _=>false
 | .ty _=>false
 | .exc _ _=>false
 | .dic=>false
 | _=>true
def pls:List D→Bool
 | []=>true
 | d :: r=>plD d && pls r
end
theorem wLst2T {ds:List D} {t:T} {Q:List D→T→Prop} (h:Q ds t):W (lstF2 [.tup ds]) t Q:=⟨_,_,rfl,h⟩
theorem cut_mem {α:Type} {xs:List α} {lo hi:Option Int} {a:α} (h:a∈cutD xs lo hi):a∈xs:=List.mem_of_mem_drop (List.mem_of_mem_take h)
theorem cut_len {α:Type} (xs:List α) (lo hi:Option Int):(cutD xs lo hi).length≤xs.length:=by
 unfold cutD
 rw [List.length_take,List.length_drop]
 omega
section
variable {t:T} {P:D→T→Prop} {R:Out→T→Prop}
def tryK (h:D→M Out) (R:Out→T→Prop) (o:Out) (t1:T):Prop:=match o with
 | .ret (.exc n ds)=>n∈errN∧W (h (.exc n ds)) t1 R
 | o=>R o t1
theorem wTry {b:M Out} {h:D→M Out} (w:W b t (tryK h R)):W (tryS b h) t R:=by
 obtain ⟨o,t1,e,q⟩:=w
 have rest:∀d,isExc d=false→o = .ret d→W (tryS b h) t R:=fun d hd ho=>by
  subst ho
  refine ⟨.ret d,t1,?_,?_⟩
  ·unfold tryS;rw [e];cases d <;> first | rfl | cases hd
  ·cases d <;> first | exact q | cases hd
 cases o with
 | next=>exact ⟨.next,t1,by unfold tryS;rw [e],q⟩
 | brk=>exact ⟨.brk,t1,by unfold tryS;rw [e],q⟩
 | cont=>exact ⟨.cont,t1,by unfold tryS;rw [e],q⟩
 | ret d=>
   cases d with
   | exc n ds=>
     obtain ⟨hn,o2,t2,e2,q2⟩:=q
     exact ⟨o2,t2,by unfold tryS;rw [e];dsimp only;rw [if_pos hn,e2],q2⟩
   | _=>exact rest _ rfl rfl
theorem tryK_next {h:D→M Out} {t1:T} (q:R .next t1):tryK h R .next t1:=q
theorem tryK_ex {h:D→M Out} {n:Str} {ds:List D} {t1:T} (e:n∈errN) (q:W (h (.exc n ds)) t1 R):tryK h R (.ret (.exc n ds)) t1:=⟨e,q⟩
def xK (d:D) (A B:Prop):Prop:=if isExc d=true then A else B
theorem xK_ok {d:D} {A B:Prop} (e:isExc d=false) (b:B):xK d A B:=by unfold xK;rw [if_neg (by rw [e];decide)];exact b
theorem xK_ex {d:D} {A B:Prop} (e:isExc d=true) (a:A):xK d A B:=by unfold xK;rw [if_pos e];exact a
theorem wSetX {i:Nat} {f:M D} (w:W f t fun d t1=>xK d (R (.ret d) t1) (R .next ⟨t1.env.set i (some (.val d)),t1.S⟩)):W (setX i f) t R:=by
 refine wBnd (w.mono fun d t1 q=>?_)
 unfold xK at q
 split at q
 ·next h=>rw [if_pos h];exact ⟨_,_,rfl,q⟩
 ·next h=>rw [if_neg h];exact ⟨_,_,rfl,q⟩
theorem wDropX {f:M D} (w:W f t fun d t1=>xK d (R (.ret d) t1) (R .next t1)):W (dropX f) t R:=by
 refine wBnd (w.mono fun d t1 q=>?_)
 unfold xK at q
 split at q
 ·next h=>rw [if_pos h];exact ⟨_,_,rfl,q⟩
 ·next h=>rw [if_neg h];exact ⟨_,_,rfl,q⟩
theorem wAsgX {f:M D} {g:D→M Unit} (w:W f t fun d t1=>xK d (R (.ret d) t1) (W (g d) t1 fun _ t2=>R .next t2)):W (asgX f g) t R:=by
 refine wBnd (w.mono fun d t1 q=>?_)
 unfold xK at q
 split at q
 ·next h=>rw [if_pos h];exact ⟨_,_,rfl,q⟩
 ·next h=>rw [if_neg h];exact wBnd (q.mono fun _ t2 q2=>⟨_,_,rfl,q2⟩)
theorem wNx {f:M D} (w:W f t fun d t1=>isExc d=false∧P d t1):W (nxD f) t P:=by
 refine wBnd (w.mono fun d t1 ⟨h,q⟩=>?_)
 rw [if_neg (by rw [h];decide)]
 exact ⟨_,_,rfl,q⟩
theorem wBndX {g:M D} {h:D→M D} (w:W g t fun y t1=>xK y (P y t1) (W (h y) t1 fun d t2=>isExc d=false∧P d t2)):W (bndX g h) t P:=by
 refine wBnd (w.mono fun y t1 q=>?_)
 unfold xK at q
 split at q
 ·next z=>rw [if_pos z];exact ⟨_,_,rfl,q⟩
 ·next z=>rw [if_neg z];exact wNx q
theorem wBinX {f g:M D} {h:D→D→M D} (w:W f t fun x t1=>W (bndX g (h x)) t1 P):W (fBinX f g h) t P:=wBnd w
theorem wBinY {f g:M D} {h:D→D→M D} (w:W (bndX f fun x=>bnd g fun y=>h x y) t P):W (fBinY f g h) t P:=w
theorem wCallY {g:Fn} {f:M D} (w:W f t fun y t1=>xK y (P y t1) (Wf g [y] t1.S fun r S'=>isExc r=false∧P r ⟨t1.env,S'⟩)):W (fCallY g f) t P:=by
 refine wBndX (w.mono fun y t1 q=>?_)
 unfold xK at q ⊢
 split at q
 ·next z=>rw [if_pos z];exact q
 ·next z=>
  rw [if_neg z]
  obtain ⟨r,S',e,q1⟩:=q
  exact ⟨r,⟨t1.env,S'⟩,by dsimp only;rw [e],q1⟩
theorem wRaise1 {n:Str} {f:M (List D)} (w:W f t fun ds t1=>∃d,ds=[d]∧R (.ret (.exc n [d])) t1):W (raise1 n f) t R:=
 wBnd (w.mono fun ds t1 ⟨d,e,q⟩=>by subst e;exact ⟨_,_,rfl,q⟩)
theorem wRaise0 {n:Str} {f:M (List D)} (w:W f t fun ds t1=>ds.length≤1000∧R (.ret (.exc n [])) t1):W (raise0 n f) t R:=
 wBnd (w.mono fun ds t1 ⟨e,q⟩=>by rw [if_pos e];exact ⟨_,_,rfl,q⟩)
theorem wRaiseT {n:Str} {f:M D} (w:W f t fun d t1=>R (.ret (.exc n [d])) t1):W (raise1 n (fCons f fNil)) t R:=wRaise1 (wCons (w.mono fun d t1 q=>wNil ⟨d,rfl,q⟩))
theorem wRaiseV {n:Str} {f:M D} (w:W f t fun _ t1=>R (.ret (.exc n [])) t1):W (raise0 n (fCons f fNil)) t R:=wRaise0 (wCons (w.mono fun d t1 q=>wNil ⟨by show 1≤1000;decide,q⟩))
theorem wHAs {n n':Str} {ds:List D} {i:Nat} {s:M Out} {r:D→M Out} (e:subX n n'=true) (w:W s { t with env:=t.env.set i (some (.val (.exc n ds))) } fun o t2=>R o (unE i t2)):W (hAs n' i s r (.exc n ds)) t R:=by
 obtain ⟨o,t2,e1,q⟩:=w
 exact ⟨o,unE i t2,by unfold hAs;dsimp only;rw [if_pos e,e1],q⟩
theorem wHAsN {n n':Str} {ds:List D} {i:Nat} {s:M Out} {r:D→M Out} (e:subX n n'=false) (w:W (r (.exc n ds)) t R):W (hAs n' i s r (.exc n ds)) t R:=by
 obtain ⟨o,t2,e1,q⟩:=w
 exact ⟨o,t2,by unfold hAs;dsimp only;rw [if_neg (by rw [e];decide),e1],q⟩
theorem wHNo {n n':Str} {ds:List D} {s:M Out} {r:D→M Out} (e:subX n n'=true) (w:W s t R):W (hNo n' s r (.exc n ds)) t R:=by
 obtain ⟨o,t2,e1,q⟩:=w
 exact ⟨o,t2,by unfold hNo;dsimp only;rw [if_pos e,e1],q⟩
theorem wHNoN {n n':Str} {ds:List D} {s:M Out} {r:D→M Out} (e:subX n n'=false) (w:W (r (.exc n ds)) t R):W (hNo n' s r (.exc n ds)) t R:=by
 obtain ⟨o,t2,e1,q⟩:=w
 exact ⟨o,t2,by unfold hNo;dsimp only;rw [if_neg (by rw [e];decide),e1],q⟩
theorem wIsiX {m n:Str} {ds:List D} (e:m∈errN) (q:P (.bl (subX m n)) t):W (isiX n (.exc m ds)) t P:=⟨_,_,by unfold isiX;dsimp only;rw [if_pos e];rfl,q⟩
theorem wIsiXN {n:Str} (q:P (.bl false) t):W (isiX n .non) t P:=⟨_,_,rfl,q⟩
theorem wAttX {m n:Str} {ds:List D} {d:D} (e:m∈errN) (l:((flds m).zip ds).lookup n=some d) (q:P d t):W (attX n (.exc m ds)) t P:=⟨_,_,by unfold attX;dsimp only;rw [if_pos e,l];rfl,q⟩
theorem Wf_ok {g:Fn} {ds:List D} {S:List Ob} {Q:D→List Ob→Prop} (w:Wf g ds S fun r S'=>isExc r=false∧Q r S'):Wf (okFn g) ds S Q:=by
 obtain ⟨r,S',e,h,q⟩:=w
 exact ⟨r,S',by unfold okFn;rw [e];dsimp only;rw [if_neg (by rw [h];decide)],q⟩
theorem Pure1.ok {g:Fn} {ds:List D} {r:D} (h:Pure1 g ds r) (e:isExc r=false):Pure1 (okFn g) ds r:=fun S=>Wf_ok ((h S).mono fun _ _ ⟨e1,e2⟩=>⟨by rw [e1];exact e,e1,e2⟩)
end
theorem ptake6_ok:PTakeOk (fnOf 2 3 m_f_law_take_v8):=by
 intro k n S m hm0 hm1 ⟨a,c,b,hS,c0,c1⟩
 refine Wf_fnOf rfl ?_
 unfold m_f_law_take_v8
 walk_at "w"
 refine wDGet hS pl_rest ?_
 walk_at "w"
 refine wDGet hS pl_mixed ?_
 walk_at "w"
 refine kIf2 (fun z=>?_) fun z=>?_
 ·walk_at "w"
  refine wDivW hm0 (by omega) ?_
  refine wStKey ?_
  walk_at "w"
  refine wStKeyOb hS (by show 3 < 100000;decide) ?_
  rw [ps_rest]
  walk_at "w"
  refine wMod hm0 ?_
  exact ⟨⟨_,rfl,Int.emod_nonneg _ (by omega),Int.emod_lt_of_pos _ hm0⟩,_,_,_,pool_set hS,c0,by omega⟩
 ·walk_at "w"
  refine wDGet hS pl_count ?_
  walk_at "w"
  refine wStKey ?_
  walk_at "w"
  refine wStKeyOb hS (by show 3 < 100000;decide) ?_
  rw [ps_count]
  have g1:(S.set k (.dct (poolL (.int a) (.bl b) (.int (c + 1)))))[k]?=some (.dct (poolL (.int a) (.bl b) (.int (c + 1)))):=pool_set hS
  refine seqK_next ?_
  change W _ ⟨[some (.val (.obj k)),some (.val (.int m)),some (.val (.int a))],S.set k (.dct (poolL (.int a) (.bl b) (.int (c + 1))))⟩ _
  generalize S.set k (.dct (poolL (.int a) (.bl b) (.int (c + 1))))=S1 at g1 ⊢
  walk_at "w"
  have a0:=Int.emod_nonneg a (b:=1000000000303) (by decide)
  have a1:=Int.emod_lt_of_pos a (b:=1000000000303) (by decide)
  generalize a % 1000000000303=x at a0 a1
  refine wDGet g1 pl_count ?_
  obtain ⟨s,es⟩:∃s,s=c + 1:=⟨_,rfl⟩
  rw [←es]
  rw [←es] at g1
  have s0:0≤s:=by omega
  have s1:s≤1000000000000000000000000000000:=by omega
  refine wMulW (by decide) (lt512 s0 (by omega)) ?_
  walk_at "w"
  refine wMulW (lt512 (by omega) (by omega)) (lt512 (by omega) (by omega)) ?_
  walk_at "w"
  have b0:=Int.emod_nonneg ((x + 90007 * s) * (x + 90007 * s + 53)) (b:=1000000000331) (by decide)
  have b1:=Int.emod_lt_of_pos ((x + 90007 * s) * (x + 90007 * s + 53)) (b:=1000000000331) (by decide)
  generalize (x + 90007 * s) * (x + 90007 * s + 53) % 1000000000331=y at b0 b1
  refine wMulW (lt512 (by omega) (by omega)) (lt512 (by omega) (by omega)) ?_
  walk_at "w"
  refine wStKey ?_
  walk_at "w"
  refine wStKeyOb g1 (by show 3 < 100000;decide) ?_
  rw [ps_rest]
  walk_at "w"
  refine wDivW (by decide) (by decide) ?_
  walk_at "w"
  refine wMod hm0 ?_
  exact ⟨⟨_,rfl,Int.emod_nonneg _ (by omega),Int.emod_lt_of_pos _ hm0⟩,_,_,_,pool_set g1,by omega,by omega⟩
def PNthOk (f:Fn):Prop:=∀(ns:List Int) (k:Nat),k≤1000→∃c:Int,Pure1 f [.scr ns,.int k] (.int c)
theorem pnth_ok:PNthOk (fnOf 2 3 m_f_law_nth):=by
 intro ns k hk
 refine ⟨(cutD ns (some (k:Int)) (some ((k:Int) + 1))).headD 0,fun S=>Wf_fnOf rfl ?_⟩
 unfold m_f_law_nth
 walk_at "w"
 generalize cutD ns (some (k:Int)) (some ((k:Int) + 1))=L
 refine W_for (fun r t=>r=L.map D.int∧t=⟨[some (.val (.scr ns)),some (.val (.int (k:Int))),none],S⟩) _ _ ⟨rfl,rfl⟩ ?_ ?_
 ·rintro d r t ⟨hr,rfl⟩ _
  cases L with
  | nil=>cases hr
  | cons x l=>
    injection hr with h1 h2
    subst h1
    walk_at "w"
    exact ⟨rfl,rfl⟩
 ·rintro t ⟨hr,rfl⟩
  cases L with
  | nil=>walk_at "w";exact ⟨rfl,rfl⟩
  | cons x l=>cases hr
theorem ppool6_ok {cc:Fn} (hc:PNthOk cc):PPoolOk (fnOf 2 3 (m_f_law_pool_v3 cc)):=by
 intro ns k S hk
 obtain ⟨c,hc⟩:=hc ns k hk
 refine Wf_fnOf rfl ?_
 unfold m_f_law_pool_v3
 walk_at "w"
 refine hc.use ?_
 walk_at "w"
 refine wDisp ?_
 refine wPairsCons ?_
 walk_at "w"
 refine wPairsCons ?_
 walk_at "w"
 refine wPairsCons ?_
 walk_at "w"
 refine wMulI (mulOk_l (by decide) (by decide)) ?_
 walk_at "w"
 refine wPairsNil ?_
 refine ⟨app_get,by show 3≤15;decide,S.length,rfl,?_⟩
 exact ⟨c,7 + 3 * (k:Int),_,(pool_set app_get).trans (congrArg (fun l=>some (Ob.dct l)) pl_merge),by omega,by omega⟩
def c6:Nat→Nat
 | 0=>10
 | d + 1=>10 + c6 d * 9
theorem c6_ge (d:Nat):10≤c6 d:=by cases d <;> simp [c6]
def PSh6 (f:Fn) (n:Nat):Prop:=∀(d k r:Nat) (S:List Ob),d < n→Room k (r + c6 d) S→Wf f [.obj k,.int d] S fun v S'=>Drawn k r (d + 1) v S'
theorem PSh6.use {f:Fn} {n:Nat} (h:PSh6 f n) {d k r:Nat} {S:List Ob} (hd:d < n) (q:Room k (r + c6 d) S) {P:D→List Ob→Prop} (p:∀s S',s.depth≤d + 1→wf s=true→Room k r S'→P s.d S'):Wf f [.obj k,.int d] S P:=
 (h d k r S hd q).mono fun v S' ⟨⟨s,e,h1,h2⟩,q⟩=>by subst e;exact p s S' h1 h2 q
theorem psh6_ok {ct cr:Fn} {n:Nat} (ht:PTakeOk ct) (hr:n=0∨PSh6 cr n):PSh6 (fnOf 2 5 (m_f_law_shape_v8 cr ct)) (n + 1):=by
 intro d k r S hd p0
 refine Wf_fnOf rfl ?_
 unfold m_f_law_shape_v8
 have hcs:=c6_ge d
 walk_at "w"
 refine ht.use (r:=r + (c6 d - 1)) 9 (p0.mono (by omega)) fun i S1 i0 i1 p1=>?_
 walk_at "w"
 refine kIf2 (fun z=>?_) fun z=>?_
 ·walk_at "w"
  exact ⟨⟨.nothing,by rw [Sh.d],by show 1≤_;omega,rfl⟩,p1.drop⟩
 walk_at "w"
 refine kIf2 (fun y=>?_) fun y=>?_
 ·walk_at "w"
  refine ht.use (r:=r + 8) 251 (p1.mono (by omega)) fun a S2 a0 a1 p2=>?_
  walk_at "w"
  refine ht.use (r:=r + 7) 5 p2 fun g S4 z0 z1 p4=>?_
  obtain ⟨dd,ed,m,rfl,m0,m1⟩:=pick (xs:=[D.int 0,D.int 1,D.int 5,D.int 250,D.int a]) z0 (by simpa using z1) (p:=fun d=>∃m:Int,d = .int m∧0≤m∧m≤250) (by
   simp only [List.forall_mem_cons]
   exact ⟨⟨_,rfl,by decide,by decide⟩,⟨_,rfl,by decide,by decide⟩,⟨_,rfl,by decide,by decide⟩,⟨_,rfl,by decide,by decide⟩,⟨_,rfl,a0,Int.le_of_lt_add_one a1⟩,fun _ z=>nomatch z⟩)
  refine wIxL ed ?_
  walk_at "w"
  refine ⟨⟨.text m,by rw [Sh.d],by show 1≤_;omega,?_⟩,p4.drop⟩
  simp only [wf,Bool.and_eq_true,decide_eq_true_eq]
  exact ⟨m0,m1⟩
 refine wSkip (seqK_next (wSeq (wIf (F2.W.mono (P:=fun b t1=>b=decide (d=0∨i < 4)∧t1=⟨[some (.val (.obj k)),some (.val (.int (d:Int))),some (.val (.int i)),none,none],S1⟩) ?_ ?_))))
 ·walk_at "w"
  refine kIf2 (fun w=>?_) fun w=>?_
  ·have w' : d = 0 := by have : (d : Int) = 0 := by simpa using w
                         omega
   exact ⟨(decide_eq_true (.inl w')).symm,rfl⟩
  ·walk_at "w"
   have w' : ¬ d = 0 := by have : ¬ (d : Int) = 0 := by simpa using w
                           omega
   refine ⟨decide_eq_decide.mpr ⟨.inr,fun h=>h.resolve_left w'⟩,rfl⟩
 rintro b t1 ⟨rfl,rfl⟩
 refine kIf2 (fun w=>?_) fun w=>?_
 ·clear w
  walk_at "w"
  refine ht.use (r:=r + 8) 19 (p1.mono (by omega)) fun a S2 a0 a1 p2=>?_
  walk_at "w"
  refine ht.use (r:=r + 7) 100000000000 p2 fun b S3 b0 b1 p3=>?_
  walk_at "w"
  refine ht.use (r:=r + 6) 3 p3 fun g S4 z0 z1 p4=>?_
  have e10:(10:Int) ^ (10:Int).toNat=10000000000:=by decide
  rw [e10]
  obtain ⟨dd,ed,lo,rfl,l0,l1⟩:=pick (xs:=[D.int 0,D.int (a - 9),D.int (b - 10000000000)]) z0 (by simpa using z1) (p:=fun d=>∃m:Int,d = .int m∧-100000000000000000≤m∧m≤100000000000000000) (by
   simp only [List.forall_mem_cons]
   clear z0 z1 ht p4 p3 p2 p1 p0
   exact ⟨⟨_,rfl,by decide,by decide⟩,⟨_,rfl,by omega,by omega⟩,⟨_,rfl,by omega,by omega⟩,fun _ z=>nomatch z⟩)
  refine wIxL ed ?_
  walk_at "w"
  refine ht.use (r:=r + 5) 7 p4 fun h S6 h0 h1 p6=>?_
  have e17:(10:Int) ^ (17:Int).toNat=100000000000000000:=by decide
  rw [e17]
  obtain ⟨dd,ed,hi,rfl,m0,m1⟩:=pick (xs:=[D.int 0,D.int 1,D.int 9,D.int 255,D.int 256,D.int 70000,D.int 100000000000000000]) h0 (by simpa using h1) (p:=fun d=>∃m:Int,d = .int m∧0≤m∧m≤100000000000000000) (by
   simp only [List.forall_mem_cons]
   exact ⟨⟨_,rfl,by decide,by decide⟩,⟨_,rfl,by decide,by decide⟩,⟨_,rfl,by decide,by decide⟩,⟨_,rfl,by decide,by decide⟩,⟨_,rfl,by decide,by decide⟩,⟨_,rfl,by decide,by decide⟩,⟨_,rfl,by decide,by decide⟩,fun _ z=>nomatch z⟩)
  refine wIxL ed ?_
  walk_at "w"
  refine ⟨⟨.number lo (lo + hi),by rw [Sh.d],by show 1≤_;omega,?_⟩,p6.drop⟩
  simp only [wf,Bool.and_eq_true,decide_eq_true_eq]
  clear p0 p1 p2 p3 p4 p6
  omega
 obtain ⟨d0,i4⟩:¬d=0∧4≤i:=by
  have:=of_decide_eq_false w
  omega
 obtain ⟨d,rfl⟩:∃e,d=e + 1:=⟨d - 1,by omega⟩
 have e0:(((d + 1:Nat):Int) - 1)=(d:Int):=by omega
 rcases hr with rfl | hr
 ·exact absurd (Nat.lt_of_succ_lt_succ hd) (Nat.not_lt_zero _)
 have hd':=Nat.lt_of_succ_lt_succ hd
 have ec:c6 (d + 1)=10 + c6 d * 9:=rfl
 rw [ec] at p1
 replace p1:Room k (r + 9 + c6 d * 9) S1:=p1.mono (by omega)
 clear p0 hcs ec w d0
 walk_at "w"
 refine kIf2 (fun w=>?_) fun w=>?_
 ·walk_at "w"
  rw [e0]
  refine hr.use (r:=r + 9) hd' (p1.mono (by omega)) fun s S2 s1 s2 p2=>?_
  walk_at "w"
  refine ht.use (r:=r + 8) 199 p2 fun a S3 a0 a1 p3=>?_
  walk_at "w"
  refine ht.use (r:=r + 7) 5 p3 fun g S4 z0 z1 p4=>?_
  obtain ⟨dd,ed,m,rfl,m0,m1⟩:=pick (xs:=[D.int 0,D.int 1,D.int 3,D.int 250,D.int a]) z0 (by simpa using z1) (p:=fun d=>∃m:Int,d = .int m∧0≤m∧m≤250) (by
   simp only [List.forall_mem_cons]
   exact ⟨⟨_,rfl,by decide,by decide⟩,⟨_,rfl,by decide,by decide⟩,⟨_,rfl,by decide,by decide⟩,⟨_,rfl,by decide,by decide⟩,⟨_,rfl,a0,by clear ht hr p1 p2 p3 p4;omega⟩,fun _ z=>nomatch z⟩)
  refine wIxL ed ?_
  walk_at "w"
  refine ⟨⟨.list s m,by rw [Sh.d],by rw [Sh.depth];omega,?_⟩,p4.drop⟩
  simp only [wf,Bool.and_eq_true,decide_eq_true_eq]
  exact ⟨⟨m0,m1⟩,s2⟩
 walk_at "w"
 refine kIf2 (fun v=>?_) fun v=>?_
 ·walk_at "w"
  rw [e0]
  refine hr.use (r:=r + c6 d) hd' (p1.mono (by omega)) fun s S2 s1 s2 p2=>?_
  walk_at "w"
  rw [e0]
  refine hr.use hd' p2 fun s' S3 s3 s4 p3=>?_
  walk_at "w"
  exact ⟨⟨.pair s s',by rw [Sh.d],by rw [Sh.depth];omega,by simp only [wf,s2,s4,Bool.and_self]⟩,p3⟩
 walk_at "w"
 obtain ⟨many,em,hm⟩:∃many:Int,atI [D.int 3,D.int 9] (if id ((((d + 1:Nat):Int)) == 1)=true then 1 else 0)=some (.int many)∧(many=3∨many=9):=by
  cases id ((((d + 1:Nat):Int)) == 1)
  ·exact ⟨3,rfl,.inl rfl⟩
  ·exact ⟨9,rfl,.inr rfl⟩
 refine wIxL em ?_
 walk_at "w"
 refine ht.use (r:=r + c6 d * 9) many (p1.mono (by omega)) (fun a S3 a0 a1 p3=>?_) rfl (by omega) (by omega)
 walk_at "w"
 obtain ⟨m,em⟩:=Int.eq_ofNat_of_zero_le (Int.add_nonneg (by decide:(0:Int)≤1) a0)
 rw [em]
 have m13:1≤m∧m≤9:=by clear p1 p3;omega
 refine wRg1 (smallN m13.2) ?_
 refine (W_comp (P:=fun xs t'=>∃ss:List Sh,xs=ss.map Sh.d∧ss.length=m∧(∀s∈ss,s.depth≤d + 1∧wf s=true)∧Room k r t'.S) (fun acc q t=>∃(ss:List Sh) (S':List Ob) (z:Option Sl),acc=ss.map Sh.d∧ss.length + q.length=m∧(∀s∈ss,s.depth≤d + 1∧wf s=true)∧Room k (r + c6 d * q.length) S'∧t=⟨[z,some (.val (.obj k)),some (.val (.int ((d + 1:Nat):Int)))],S'⟩) _ [] _ ⟨[],S3,_,rfl,by simp [rngL],by simp,p3.mono (by rw [rngL_len,Int.toNat_natCast];exact Nat.add_le_add_left (Nat.mul_le_mul_left _ m13.2) _),rfl⟩ ?_ ?_).mono ?_
 ·rintro acc d' q t ⟨ss,S',z,rfl,h1,h2,h3,rfl⟩ _
  rw [List.length_cons] at h1 h3
  refine wPut (wTru ?_)
  rw [if_pos rfl]
  walk_at "w"
  rw [e0]
  refine hr.use hd' h3.loop fun s S5 q1 q2 q3=>?_
  exact ⟨ss++[s],S5,_,by rw [List.map_append];rfl,len_step h1,mem_app h2 ⟨q1,q2⟩,q3,rfl⟩
 ·rintro acc t ⟨ss,S',z,rfl,h1,h2,h3,rfl⟩
  exact ⟨ss,rfl,h1,h2,h3⟩
 ·rintro xs t' ⟨ss,hxs,h1,h2,h3⟩
  rw [List.nil_append] at hxs
  subst hxs
  refine limI (lim_of (n:=9) (by rw [List.length_map,h1];exact m13.2)) ?_
  walk_at "w"
  refine ⟨⟨.choice ss,by rw [Sh.d,shD_map'],dp_c fun x hx=>(h2 x hx).1,?_⟩,h3⟩
  simp only [wf,Bool.and_eq_true,decide_eq_true_eq]
  exact ⟨⟨by omega,by omega⟩,wfs_of fun x hx=>(h2 x hx).2⟩
def PDeep6 (f:Fn):Prop:=∀(k r:Nat) (S:List Ob),Room k (r + 1000) S→Wf f [.obj k] S fun v S'=>Drawn k r 6 v S'
theorem pdeep6_ok {ct cs:Fn} (ht:PTakeOk ct) (hs:PSh6 cs 3):PDeep6 (fnOf 1 4 (m_f_law_deep_v2 ct cs)):=by
 intro k r S p0
 refine Wf_fnOf rfl ?_
 unfold m_f_law_deep_v2
 walk_at "w"
 refine hs.use (d:=2) (r:=r + 90) (by decide) (p0.mono (by show _ + 910≤_;omega)) fun s S1 s1 s2 p1=>?_
 walk_at "w"
 refine ht.use (r:=r + 89) 4 p1 fun g S2 z0 z1 p2=>?_
 obtain ⟨dd,ed,m,rfl,m0⟩:=pick (xs:=[D.int 0,D.int 0,D.int 1,D.int 3]) z0 (by simpa using z1) (p:=fun d=>∃m:Nat,d = .int (m:Int)∧m≤3) (by
  simp only [List.forall_mem_cons]
  exact ⟨⟨0,rfl,by decide⟩,⟨0,rfl,by decide⟩,⟨1,rfl,by decide⟩,⟨3,rfl,by decide⟩,fun _ z=>nomatch z⟩)
 refine wIxL ed ?_
 walk_at "w"
 refine wRg1 (smallN m0) ?_
 refine W_for (fun q t=>∃(s:Sh) (S':List Ob) (e2 e3:Option Sl),s.depth + q.length≤6∧wf s=true∧Room k (r + 2 * q.length) S'∧t=⟨[some (.val (.obj k)),some (.val s.d),e2,e3],S'⟩) _ _ ⟨s,S2,none,none,by rw [rngL_len,Int.toNat_natCast];omega,s2,p2.mono (by rw [rngL_len,Int.toNat_natCast];omega),rfl⟩ ?_ ?_
 ·rintro d q t ⟨s,S',e2,e3,h1,h2,h3,rfl⟩ _
  rw [List.length_cons] at h1 h3
  walk_at "w"
  refine ht.use (r:=r + 2 * q.length + 1) 3 (h3.mono (by omega)) fun a S3 a0 a1 p3=>?_
  obtain ⟨dd,ed,m,rfl,m0,m1⟩:=pick (xs:=[D.int 1,D.int 2,D.int 2]) a0 (by simpa using a1) (p:=fun d=>∃m:Int,d = .int m∧0≤m∧m≤250) (by
   simp only [List.forall_mem_cons]
   exact ⟨⟨_,rfl,by decide,by decide⟩,⟨_,rfl,by decide,by decide⟩,⟨_,rfl,by decide,by decide⟩,fun _ z=>nomatch z⟩)
  refine wIxL ed ?_
  walk_at "w"
  refine ht.use (r:=r + 2 * q.length) 3 p3 fun b S4 b0 b1 p4=>?_
  obtain ⟨dd,ed,s',rfl,q1,q2⟩:=pick (xs:=[D.tup [.str "list",s.d,.int m],.tup [.str "pair",s.d,.tup [.str "nothing"]],.tup [.str "choice",.tup [.tup [.str "nothing"],s.d]]]) b0 (by simpa using b1) (p:=fun d=>∃s':Sh,d=s'.d∧s'.depth≤s.depth + 1∧wf s'=true) (by
   simp only [List.forall_mem_cons]
   have:=s.depth_pos
   refine ⟨⟨.list s m,by rw [Sh.d],by rw [Sh.depth];exact Nat.le_refl _,by simp only [wf,h2,Bool.and_true,Bool.and_eq_true,decide_eq_true_eq];exact ⟨m0,m1⟩⟩,⟨.pair s .nothing,by rw [Sh.d,Sh.d],by rw [Sh.depth,Sh.depth];omega,by simp only [wf,h2,Bool.and_self]⟩,⟨.choice [.nothing,s],by rw [Sh.d,shD,shD,shD,Sh.d],by rw [Sh.depth,shDep,shDep,shDep,Sh.depth];omega,by simp only [wf,wfs,h2,Bool.and_true,List.length_cons,List.length_nil];rfl⟩,fun _ z=>nomatch z⟩)
  refine wIxL ed ?_
  exact ⟨s',S4,_,_,by omega,q2,p4,rfl⟩
 ·rintro t ⟨s,S',e2,e3,h1,h2,h3,rfl⟩
  walk_at "w"
  exact ⟨⟨s,rfl,by omega,h2⟩,h3.drop⟩
mutual
def wt:Sh→D→Nat
 | .nothing,_=>1
 | .number _ _,_=>25
 | .text _,d=>match d with
   | .str x=>2 * x.length + 2
   | _=>0
 | .list s _,d=>match d with
   | .lst ds=>(ds.map fun e=>wt s e + 1).sum + 2
   | _=>0
 | .pair s r,d=>match d with
   | .tup [a,b]=>wt s a + wt r b + 3
   | _=>0
 | .choice ss,d=>match d with
   | .tup [_,.int k,x]=>wtN ss k.toNat x + 25
   | _=>0
def wtN:List Sh→Nat→D→Nat
 | [],_,_=>0
 | s :: _,0,d=>wt s d
 | _ :: r,k + 1,d=>wtN r k d
end
theorem wtN_get:∀(ss:List Sh) (k:Nat) (s:Sh) (d:D),ss[k]?=some s→wtN ss k d=wt s d
 | [],k,s,d,h=>by simp at h
 | s :: r,0,s',d,h=>by simp at h;subst h;simp [wtN]
 | s :: r,k + 1,s',d,h=>by rw [wtN];exact wtN_get r k s' d (by simpa using h)
def lB:Nat→Nat
 | 0=>0
 | m + 1=>25 + lB m * 3
def sgA:Str:="ab \",)]([#:-;>0'~Z"
def sgB:Str:=" !\"#$&'()*+,-./0123456789:;<=>?@ABCDEFGHIJKLMNOPQRSTUVWXYZ[\\]^_`abcdefghijklmnopqrstuvwxyz{|}~"
def SgOk (sg:Str):Prop:=sg.cps.toList.all signB=true∧0 < sg.length∧sg.length≤100
theorem sgA_ok:SgOk sgA:=⟨by decide +kernel,by decide +kernel,by decide +kernel⟩
theorem sgB_ok:SgOk sgB:=⟨by decide +kernel,by decide +kernel,by decide +kernel⟩
theorem SgOk.at {sg:Str} (h:SgOk sg) {i:Int} (h0:0≤i) (h1:i < sg.length):∃c,atI sg.cps.toList i=some c∧signB c=true:=by
 rw [len_codes] at h1
 have hi:i.toNat < sg.cps.toList.length:=by omega
 refine ⟨sg.cps.toList[i.toNat],?_,List.all_eq_true.mp h.1 _ (List.getElem_mem hi)⟩
 unfold atI
 rw [ixN_nat h0 (by omega)]
 show sg.cps.toList[i.toNat]?=_
 rw [List.getElem?_eq_getElem hi]
def PSgs (f:Fn):Prop:=Pure1 f [] (.str sgB)
theorem psgs_ok:PSgs (fnOf 0 0 m_f_law_signs_v2):=by
 intro S
 refine Wf_fnOf rfl ?_
 unfold m_f_law_signs_v2
 walk_at "w"
 exact ⟨rfl,rfl⟩
def v6:Nat→Nat
 | 0=>0
 | m + 1=>20 + v6 m * 3
structure Val6 (k r:Nat) (s:Sh) (c:Nat) (v:D) (S':List Ob):Prop where
 fit:fitsB s v=true
 len:wt s v≤c
 pool:Room k r S'
def PVal6 (f:Fn) (m:Nat):Prop:=∀(s:Sh) (k r:Nat) (S:List Ob),s.depth≤m→wf s=true→Room k (r + v6 m) S→Wf f [.obj k,s.d] S fun v S'=>Val6 k r s (lB m) v S'
theorem ls_c {l m:Nat} (h:l≤lB m):l + 25≤lB (m + 1):=by rw [lB];omega
theorem min7 {g q:Int} (h0:0≤q) (h1:0≤g) (h2:g < (if (7:Int) < q then 7 else q) + 1):∃n:Nat,g=n∧n≤7∧(n:Int)≤q:=by
 refine ⟨g.toNat,by omega,?_⟩
 split at h2 <;> omega
theorem minM {g q m:Int} (hm:m=3∨m=1) (h0:0≤q) (h1:0≤g) (h2:g < (if m < q then m else q) + 1):∃n:Nat,g=n∧n≤3∧(n:Int)≤q:=by
 refine ⟨g.toNat,by omega,?_⟩
 split at h2 <;> omega
theorem kIfTo6 {b:Bool} {m1 m2:M Out} {t:T} {K:Out→T→Prop} (Pm:Out→T→Prop) (h1:b=true→F2.W m1 t Pm) (h2:b=false→F2.W m2 t Pm) (h:∀o t',Pm o t'→K o t'):iteK b (F2.W m1 t K) (F2.W m2 t K):=
 kIf2 (fun e=>(h1 e).mono h) fun e=>(h2 e).mono h
theorem kind_at (s:Sh):∃(x:Str) (r:List D),s.d = .tup (.str x :: r):=by cases s <;> exact ⟨_,_,by rw [Sh.d]⟩
theorem pval6_ok {cv ct cg:Fn} {m:Nat} (ht:PTakeOk ct) (hg:PSgs cg) (hv:m=0∨PVal6 cv m):PVal6 (fnOf 2 6 (m_f_law_value_v9 cv ct cg)) (m + 1):=by
 intro s k r S hd hw p0
 have rec_:∀{s':Sh} {r':Nat} {S':List Ob} {P:D→List Ob→Prop},s'.depth≤m→wf s'=true→Room k (r' + v6 m) S'→(∀v S'',fitsB s' v=true→wt s' v≤lB m→Room k r' S''→P v S'')→Wf cv [.obj k,s'.d] S' P:=fun {s' r' S' P} h1 h2 q p=>by
  rcases hv with rfl | hv
  ·exact absurd (Nat.lt_of_lt_of_le s'.depth_pos h1) (Nat.not_lt_zero _)
  ·exact (hv s' k r' S' h1 h2 q).mono fun v S'' ⟨g1,g2,g3⟩=>p v S'' g1 g2 g3
 have ev:v6 (m + 1)=20 + v6 m * 3:=rfl
 rw [ev] at p0
 refine Wf_fnOf rfl ?_
 unfold m_f_law_value_v9
 cases s with
 | nothing=>
   rw [Sh.d]
   walk_at "w"
   exact ⟨by rw [fitsB];rfl,by rw [wt,lB];omega,p0.drop⟩
 | number lo hi=>
   obtain ⟨w0,w1,w2,w3⟩:=num_ok hw
   rw [Sh.d]
   walk_at "w"
   refine ht.use (r:=r + 9) (hi - lo + 1) (p0.mono (by omega)) (fun g S1 z0 z1 p1=>?_) rfl w1 w2
   walk_at "w"
   refine ht.use (r:=r + 8) 3 p1 fun i S2 i0 i1 p2=>?_
   obtain ⟨d,ed,q,rfl,q0,q1⟩:=pick (xs:=[D.int lo,D.int hi,D.int (lo + g)]) i0 (by simpa using i1) (p:=fun d=>∃m:Int,d = .int m∧lo≤m∧m≤hi) (by
    simp only [List.forall_mem_cons]
    exact ⟨⟨_,rfl,Int.le_refl _,w0⟩,⟨_,rfl,w0,Int.le_refl _⟩,⟨_,rfl,num_mid z0 z1⟩,fun _ z=>nomatch z⟩)
   refine wIxL ed ?_
   exact ⟨by simp only [fitsB,Bool.and_eq_true,decide_eq_true_eq];exact ⟨q0,q1⟩,by rw [wt,lB];omega,p2.drop⟩
 | text q=>
   simp only [wf,Bool.and_eq_true,decide_eq_true_eq] at hw
   rw [Sh.d]
   walk_at "w"
   refine ht.use (r:=r + 18) 2 (p0.mono (by omega)) fun i S1 i0 i1 p1=>?_
   walk_at "w"
   refine kIfTo6 (fun o t'=>o = .next∧∃sg:Str,SgOk sg∧t'=⟨[some (.val (.obj k)),some (.val (.tup [.str "text",.int q])),some (.val (.str sg)),none,none,none],S1⟩) (fun _=>?_) (fun _=>?_) ?_
   ·walk_at "w"
    refine hg.use ?_
    exact ⟨rfl,sgB,sgB_ok,rfl⟩
   ·walk_at "w"
    exact ⟨rfl,sgA,sgA_ok,rfl⟩
   rintro o t' ⟨rfl,sg,hsg,rfl⟩
   walk_at "w"
   refine ht.use (r:=r + 17) ((if (7:Int) < q then 7 else q) + 1) (p1.mono (by omega)) (fun g S2 z0 z1 p2=>?_) rfl (by split <;> omega) (by split <;> omega)
   obtain ⟨n,rfl,n7,nq⟩:=min7 hw.1 z0 z1
   walk_at "w"
   refine wJoin ?_
   walk_at "w"
   refine wRg1 (smallN n7) ?_
   refine (W_comp (P:=fun xs t'=>∃ns:List Nat,xs=ns.map (fun n=>D.str ⟨#[n]⟩)∧ns.all signB=true∧ns.length=n∧Room k r t'.S) (fun acc q t=>∃(ns:List Nat) (S':List Ob) (z:Option Sl),acc=ns.map (fun n=>D.str ⟨#[n]⟩)∧ns.all signB=true∧ns.length + q.length=n∧Room k (r + 1 * q.length) S'∧t=⟨[z,some (.val (.str sg)),some (.val (.obj k))],S'⟩) _ [] _ ⟨[],S2,_,rfl,rfl,by simp [rngL],p2.mono (by rw [rngL_len,Int.toNat_natCast];omega),rfl⟩ ?_ ?_).mono ?_
   ·rintro acc d q t ⟨ns,S',z,rfl,h1,h2,h3,rfl⟩ _
    rw [List.length_cons] at h2 h3
    refine wPut (wTru ?_)
    rw [if_pos rfl]
    walk_at "w"
    refine wLenS (Nat.le_trans hsg.2.2 (by show 100≤100000;decide)) ?_
    walk_at "w"
    refine ht.use (sg.length:Int) h3.loop (fun i S5 i0 i1 p5=>?_) rfl (by have:=hsg.2.1;omega) (by have:=hsg.2.2;omega)
    obtain ⟨c,ec,hc⟩:=hsg.at i0 i1
    refine W_ix_str.mpr ⟨Nat.le_trans hsg.2.2 (by decide),c,ec,?_⟩
    refine ⟨ns++[c],S5,_,by rw [List.map_append];rfl,by simp [List.all_append,h1,hc],len_step h2,p5,rfl⟩
   ·rintro acc t ⟨ns,S',z,rfl,h1,h2,h3,rfl⟩
    exact ⟨ns,rfl,h1,h2,h3.drop⟩
   ·rintro xs t' ⟨ns,e,h1,h2,h3⟩
    rw [List.nil_append] at e
    subst e h2
    refine limI (lim_of (n:=7) (by rw [List.length_map];exact n7)) ?_
    walk_at "w"
    refine ⟨_,_,_,rfl,rfl,strsOf_signs ns,⟨by decide +kernel,by rw [List.length_map];clear p0 p1;omega⟩,?_⟩
    refine seqK_ret ?_
    refine ⟨?_,?_,h3⟩
    ·rw [fitsB]
     simp only [Bool.and_eq_true,decide_eq_true_eq]
     rw [len_codes,join_codes]
     exact ⟨nq,h1⟩
    ·rw [wt,len_codes,join_codes,lB]
     omega
 | list s q=>
   simp only [wf,Bool.and_eq_true,decide_eq_true_eq] at hw
   rw [Sh.d]
   obtain ⟨kx,kr,hk⟩:=kind_at s
   rw [hk]
   walk_at "w"
   refine wInL ⟨rfl,rfl⟩ ?_
   rw [if_neg (by decide)]
   generalize inV (toV (.str kx)) (([D.str "list",D.str "pair",D.str "choice"]:List D).map toV)=bb
   walk_at "w"
   obtain ⟨most,em,hm⟩:∃most:Int,atI [D.int 3,D.int 1] (if bb=true then 1 else 0)=some (.int most)∧(most=3∨most=1):=by
    cases bb
    ·exact ⟨3,rfl,.inl rfl⟩
    ·exact ⟨1,rfl,.inr rfl⟩
   refine wIxL em ?_
   walk_at "w"
   refine ht.use (r:=r + v6 m * 3) ((if most < q then most else q) + 1) (p0.mono (by omega)) (fun g S1 z0 z1 p1=>?_) rfl (by split <;> omega) (by split <;> omega)
   obtain ⟨n,rfl,n2,nq⟩:=minM hm hw.1.1 z0 z1
   walk_at "w"
   refine wRg1 (smallN n2) ?_
   have nb2:v6 m * n≤v6 m * 3:=Nat.mul_le_mul_left _ n2
   refine (W_comp (P:=fun xs t'=>(∀x∈xs,fitsB s x=true)∧xs.length=n∧(xs.map fun e=>wt s e + 1).sum≤(lB m + 1) * n∧Room k r t'.S) (fun acc l t=>∃(S':List Ob) (z:Option Sl),(∀x∈acc,fitsB s x=true)∧acc.length + l.length=n∧(acc.map fun e=>wt s e + 1).sum + (lB m + 1) * l.length≤(lB m + 1) * n∧Room k (r + v6 m * l.length) S'∧t=⟨[z,some (.val (.obj k)),some (.val (.tup [.str "list",.tup (.str kx :: kr),.int q]))],S'⟩) _ [] _ ⟨S1,_,(fun _ h=>nomatch h),by simp [rngL],by rw [rngL_len,Int.toNat_natCast];simp,p1.mono (by rw [rngL_len,Int.toNat_natCast];omega),rfl⟩ ?_ ?_).mono ?_
   ·rintro acc d l t ⟨S',z,h1,h2,h3,h4,rfl⟩ _
    rw [List.length_cons] at h2 h3 h4
    refine wPut (wTru ?_)
    rw [if_pos rfl]
    walk_at "w"
    rw [←hk]
    refine rec_ (du_l hd) hw.2 h4.loop fun v S5 f1 f2 p5=>?_
    refine ⟨S5,_,mem_app h1 f1,len_step h2,?_,p5,rfl⟩
    rw [List.map_append,List.sum_append]
    simp only [List.map_cons,List.map_nil,List.sum_cons,List.sum_nil]
    rw [Nat.mul_succ] at h3
    omega
   ·rintro acc t ⟨S',z,h1,h2,h3,h4,rfl⟩
    exact ⟨h1,h2,by simpa using h3,h4.drop⟩
   ·rintro xs t' ⟨h1,h2,h3,h4⟩
    rw [List.nil_append] at h1 h2 h3
    subst h2
    refine limI (lim_of (n:=3) n2) ?_
    refine ⟨?_,?_,h4⟩
    ·rw [fitsB,Bool.and_eq_true,decide_eq_true_eq,List.all_eq_true]
     exact ⟨nq,h1⟩
    ·rw [wt,lB]
     have:=Nat.mul_le_mul_left (lB m + 1) n2
     omega
 | pair a b=>
   simp only [wf,Bool.and_eq_true] at hw
   rw [Sh.d]
   walk_at "w"
   refine rec_ (du_p hd).1 hw.1 (r':=r + v6 m) (p0.mono (by omega)) fun v S1 f1 f2 p1=>?_
   walk_at "w"
   refine rec_ (du_p hd).2 hw.2 p1 fun u S2 g1 g2 p2=>?_
   walk_at "w"
   exact ⟨by simp only [fitsB,f1,g1,Bool.and_self],by rw [wt,lB];omega,p2⟩
 | choice ss=>
   simp only [wf,Bool.and_eq_true,decide_eq_true_eq] at hw
   rw [Sh.d]
   walk_at "w"
   rw [shD_len]
   refine ht.use (r:=r + v6 m) (ss.length:Int) (p0.mono (by omega)) (fun i S1 i0 i1 p1=>?_) rfl (by clear p0;omega) (by clear p0;omega)
   obtain ⟨j,rfl⟩:=Int.eq_ofNat_of_zero_le i0
   have hj:j < ss.length:=Int.ofNat_lt.mp i1
   have e1:ss[j]?=some ss[j]:=List.getElem?_eq_getElem hj
   walk_at "w"
   refine wIxT (sh_at hj) ?_
   walk_at "w"
   refine rec_ (du_c hd _ (List.getElem_mem hj)) (wfs_mem hw.2 _ (List.getElem_mem hj)) p1 fun v S2 f1 f2 p2=>?_
   walk_at "w"
   have hof:isOf (Str.ofString "of")=true:=by decide +kernel
   refine ⟨?_,?_,p2⟩
   ·simp only [fitsB,Bool.and_eq_true,decide_eq_true_eq]
    exact ⟨⟨hof,i0,i1⟩,by rw [Int.toNat_natCast,fitsN_get ss _ _ _ e1];exact f1⟩
   ·rw [wt,Int.toNat_natCast,wtN_get ss _ _ _ e1]
    exact ls_c f2
local macro_rules | `(tactic| walk_at "x1")=>`(tactic| first
 | walk_at "w1"
 | with_reducible refine wTry ?_ | with_reducible refine wSetX ?_ | with_reducible refine wDropX ?_ | with_reducible refine wAsgX ?_ | with_reducible refine wNx ?_ | with_reducible refine wBinX ?_ | with_reducible refine wBinY ?_ | with_reducible refine wBndX ?_ | with_reducible refine wCallY ?_ | with_reducible refine tryK_next ?_
 | ((with_reducible refine' tryK_ex ?wv ?_);(case wv=>decide)) | ((with_reducible refine' xK_ok ?wv ?_);(case wv=>exact rfl)) | ((with_reducible refine' xK_ex ?wv ?_);(case wv=>exact rfl))
 | with_reducible refine wRaiseT ?_ | with_reducible refine wRaiseV ?_ | ((with_reducible refine' wHAs ?wv ?_);(case wv=>decide)) | ((with_reducible refine' wHAsN ?wv ?_);(case wv=>decide)) | ((with_reducible refine' wHNo ?wv ?_);(case wv=>decide)) | ((with_reducible refine' wHNoN ?wv ?_);(case wv=>decide))
 | ((with_reducible refine' wIsiX ?wv ?_);(case wv=>decide)) | with_reducible refine wIsiXN ?_ | ((with_reducible refine' wAttX ?wv ?wu ?_);(case wv=>decide);(case wu=>exact rfl)))
local macro_rules | `(tactic| walk_at "x")=>`(tactic| repeat (walk_at "x1"))
theorem wJoinW {f:M D} {g:M (List D)} {t:T} {P:D→T→Prop} (h:W f t fun o t1=>W g t1 fun as t2=>∃z ds ys,o = .str z∧as=[.lst ds]∧strsW ds=some ys∧(z.length≤16∧(ys.map (·.length)).sum + ys.length≤1048576)∧P (.str (Txt.join z ys)) t2):W (joinW f g) t P:=by
 unfold joinW
 refine wBnd (h.mono fun o t1 h1=>wBnd (h1.mono fun as t2 ⟨z,ds,ys,e1,e2,e3,e4,p⟩=>?_))
 subst e1 e2
 dsimp only
 rw [e3]
 dsimp only
 rw [if_pos e4]
 exact ⟨_,_,rfl,p⟩
theorem wSplit {f:M D} {g:M (List D)} {t:T} {Q:List D→T→Prop} (h:W f t fun o t1=>W g t1 fun as t2=>∃z y,o = .str z∧as=[.str y]∧((y.length == 0)=false∧z.length≤100000)∧Q ((Txt.split z y).map D.str) t2):W (splitM f g) t Q:=by
 unfold splitM
 refine wBnd (h.mono fun o t1 h1=>wBnd (h1.mono fun as t2 ⟨z,y,e1,e2,e3,p⟩=>?_))
 subst e1 e2
 dsimp only
 rw [if_pos e3]
 exact ⟨_,_,rfl,p⟩
theorem wRepl {x:Str} {t:T} {P:D→T→Prop} (hx:x.length≤100000) (p:P (.str (Txt.replace x q1 q2)) t):W (replD (.str x)) t P:=by
 unfold replD
 dsimp only
 rw [if_pos hx]
 exact ⟨_,_,rfl,p⟩
theorem strsW_map:∀ys:List Str,strsW (ys.map D.str)=some ys
 | []=>rfl
 | y :: r=>by rw [List.map_cons,strsW,strsW_map r];rfl
theorem q1_eq:(q1:Str)=⟨#[34]⟩:=by decide +kernel
theorem q2_eq:(q2:Str)=⟨#[34,34]⟩:=by decide +kernel
theorem qq_eq:(Str.ofString "\"\"" : Str)=q2:=by decide +kernel
theorem dbl_len (c:Nat):∀l:List Nat,(StrLaws.dbl c l).length≤2 * l.length
 | []=>Nat.le_refl _
 | k :: r=>by
   have:=dbl_len c r
   rw [StrLaws.dbl]
   split <;> simp only [List.length_cons] <;> omega
theorem rep_len6 (x:Str):(Txt.replace x q1 q2).length≤2 * x.length:=by
 rw [len_codes,len_codes x,q1_eq,q2_eq,StrLaws.replace_double]
 exact dbl_len _ _
theorem rep_split (x:Str):Txt.join q2 (Txt.split x q1)=Txt.replace x q1 q2:=by
 rw [q1_eq,StrLaws.replace_one]
 exact StrLaws.glued_eq_join _ _
theorem add_len (x y:Str):(x++y).length=x.length + y.length:=by rw [len_codes,len_codes,len_codes,app_codes,List.length_append]
theorem dig_le {n k:Nat} (hk:0 < k) (h:n < 10 ^ k):n.repr.toList.length≤k:=by
 rw [Nat.toList_repr]
 exact (Nat.length_toDigits_le_iff (by decide) hk).mpr h
theorem str_le {i:Int} (h1 : -1000000000000000000≤i) (h2:i≤1000000000000000000):(Str.ofString (toString i)).length≤20:=by
 have e:(10:Nat) ^ 19=10000000000000000000:=by decide
 rw [len_ofString,Int.toString_eq_repr,Int.repr_eq_if]
 split
 ·have:=dig_le (n:=i.toNat) (k:=19) (by decide) (by omega)
  omega
 ·have:=dig_le (n:=(-i).toNat) (k:=19) (by decide) (by omega)
  rw [String.toList_append,List.length_append]
  simp only [show "-".toList.length=1 from rfl]
  omega
mutual
def sho:Sh→D→Str
 | .nothing,_=>"-"
 | .number _ _,d=>match d with
   | .int i=>Str.ofString (toString i)
   | _=>""
 | .text _,d=>match d with
   | .str x=>q1++Txt.replace x q1 q2++q1
   | _=>""
 | .list s _,d=>match d with
   | .lst ds=>"["++Txt.join "," (ds.map fun e=>sho s e)++"]"
   | _=>""
 | .pair s r,d=>match d with
   | .tup [a,b]=>"("++sho s a++","++sho r b++")"
   | _=>""
 | .choice ss,d=>match d with
   | .tup [_,.int k,x]=>"#"++Str.ofString (toString k)++":"++shoN ss k.toNat x
   | _=>""
def shoN:List Sh→Nat→D→Str
 | [],_,_=>""
 | s :: _,0,d=>sho s d
 | _ :: r,k + 1,d=>shoN r k d
end
theorem shoN_get:∀(ss:List Sh) (k:Nat) (s:Sh) (d:D),ss[k]?=some s→shoN ss k d=sho s d
 | [],k,s,d,h=>by simp at h
 | s :: r,0,s',d,h=>by simp at h;subst h;simp [shoN]
 | s :: r,k + 1,s',d,h=>by rw [shoN];exact shoN_get r k s' d (by simpa using h)
theorem sum_le {f g:D→Nat}:∀{ds:List D},(∀d∈ds,f d≤g d)→(ds.map f).sum≤(ds.map g).sum
 | [],_=>Nat.le_refl _
 | d :: r,h=>by
   rw [List.map_cons,List.map_cons,List.sum_cons,List.sum_cons]
   have:=h d List.mem_cons_self
   have:=sum_le (ds:=r) fun x m=>h x (List.mem_cons_of_mem _ m)
   omega
theorem sum_one {f:D→Nat}:∀(ds:List D),(ds.map fun e=>f e + 1).sum=(ds.map f).sum + ds.length
 | []=>rfl
 | d :: r=>by
   rw [List.map_cons,List.map_cons,List.sum_cons,List.sum_cons,List.length_cons,sum_one r]
   omega
theorem le_sum {f:D→Nat}:∀{ds:List D},∀d∈ds,f d≤(ds.map f).sum
 | x :: r,d,m=>by
   rw [List.map_cons,List.sum_cons]
   rcases List.mem_cons.mp m with rfl | m
   ·omega
   ·have:=le_sum (f:=f) d m
    omega
theorem join_len6 {ys:List Str}:(Txt.join (Str.ofString ",") ys).length≤(ys.map (·.length)).sum + ys.length:=by
 show (Builtin.Str.glued _ _).length≤_
 rw [size_glued,show (Str.ofString ",").length=1 by decide +kernel]
 omega
theorem sho_len:∀(n:Nat) (s:Sh),s.depth≤n→wf s=true→∀d,fitsB s d=true→(sho s d).length≤wt s d
 | 0,s,h,_,_,_=>absurd s.depth_pos (by omega)
 | n + 1,s,hs,hw,d,hf=>by
   have l1:(Str.ofString "(").length=1:=by decide +kernel
   have l2:(Str.ofString ")").length=1:=by decide +kernel
   have l3:(Str.ofString ",").length=1:=by decide +kernel
   have l4:(Str.ofString "[").length=1:=by decide +kernel
   have l5:(Str.ofString "]").length=1:=by decide +kernel
   have l6:(Str.ofString "#").length=1:=by decide +kernel
   have l7:(Str.ofString ":").length=1:=by decide +kernel
   have l8:q1.length=1:=by decide +kernel
   cases s with
   | nothing=>rw [sho,wt];decide +kernel
   | number lo hi=>
     simp only [wf,Bool.and_eq_true,decide_eq_true_eq] at hw
     cases d <;> simp [fitsB] at hf
     rename_i i
     rw [sho,wt]
     have:=str_le (i:=i) (by omega) (by omega)
     omega
   | text q=>
     cases d <;> simp only [fitsB,Bool.false_eq_true] at hf
     rename_i x
     rw [sho,wt,add_len,add_len,l8]
     have:=rep_len6 x
     omega
   | list s q=>
     simp only [wf,Bool.and_eq_true] at hw
     rw [Sh.depth] at hs
     cases d <;> simp only [fitsB,Bool.false_eq_true] at hf
     rename_i ds
     simp only [Bool.and_eq_true,List.all_eq_true] at hf
     rw [sho,wt,add_len,add_len,l4,l5,sum_one]
     have h1:=join_len6 (ys:=ds.map fun e=>sho s e)
     rw [List.map_map,List.length_map] at h1
     have h2:=sum_le (f:=fun e=>(sho s e).length) (g:=wt s) (ds:=ds) fun d m=>sho_len n s (by omega) hw.2 d (hf.2 d m)
     have h1:_≤(ds.map fun e=>(sho s e).length).sum + ds.length:=h1
     omega
   | pair s r=>
     simp only [wf,Bool.and_eq_true] at hw
     rw [Sh.depth] at hs
     unfold fitsB at hf
     split at hf
     ·next a b=>
      rw [Bool.and_eq_true] at hf
      rw [sho,wt,add_len,add_len,add_len,add_len,l1,l2,l3]
      have:=sho_len n s (by omega) hw.1 a hf.1
      have:=sho_len n r (by omega) hw.2 b hf.2
      omega
     ·cases hf
   | choice ss=>
     simp only [wf,Bool.and_eq_true,decide_eq_true_eq] at hw
     rw [Sh.depth] at hs
     unfold fitsB at hf
     split at hf
     ·next o k y=>
      simp only [Bool.and_eq_true,decide_eq_true_eq] at hf
      have hk:k.toNat < ss.length:=by omega
      have e1:ss[k.toNat]?=some ss[k.toNat]:=List.getElem?_eq_getElem hk
      have h2:=hf.2
      rw [fitsN_get ss _ _ _ e1] at h2
      rw [sho,wt,shoN_get ss _ _ _ e1,wtN_get ss _ _ _ e1,add_len,add_len,add_len,l6,l7]
      have:=sho_len n _ (Nat.le_trans (shDep_get ss _ _ e1) (by omega)) (wfs_mem hw.2 _ (List.getElem_mem hk)) y h2
      have:=str_le (i:=k) (by omega) (by omega)
      omega
     ·cases hf
def ShowOk (f:Fn) (n:Nat):Prop:=∀(s:Sh),s.depth≤n→wf s=true→∀d,fitsB s d=true→wt s d≤90000→Pure1 f [d] (.str (sho s d))
theorem ShowOk.zero {f:Fn}:ShowOk f 0:=fun s h=>absurd s.depth_pos (by omega)
theorem sh_ls {s:Sh} {n:Nat} {ds:List D} (hs:s.depth≤n) (hw:wf s=true) (hf:∀d∈ds,fitsB s d=true):((ds.map fun e=>sho s e).map (·.length)).sum + (ds.map fun e=>sho s e).length≤(ds.map fun e=>wt s e + 1).sum:=by
 rw [List.map_map,List.length_map,sum_one]
 have h2:=sum_le (f:=fun e=>(sho s e).length) (g:=wt s) (ds:=ds) fun d m=>sho_len n s hs hw d (hf d m)
 exact Nat.add_le_add_right h2 _
theorem show_ok {c:Fn} {n:Nat} (hc:ShowOk c n):ShowOk (fnOf 1 1 (m_show_fitting c)) (n + 1):=by
 intro s hs hw d hf hl S
 have hL:LIM=100000:=rfl
 have hsl:=sho_len (n + 1) s hs hw d hf
 have l1:(Str.ofString "(").length=1:=by decide +kernel
 have l2:(Str.ofString ")").length=1:=by decide +kernel
 have l3:(Str.ofString ",").length=1:=by decide +kernel
 have l4:(Str.ofString "[").length=1:=by decide +kernel
 have l5:(Str.ofString "]").length=1:=by decide +kernel
 have l6:(Str.ofString "#").length=1:=by decide +kernel
 have l7:(Str.ofString ":").length=1:=by decide +kernel
 have l8:q1.length=1:=by decide +kernel
 have l9:(Str.ofString "\"").length=1:=l8
 refine Wf_fnOf rfl ?_
 unfold m_show_fitting
 cases s with
 | nothing=>
   cases d <;> simp [fitsB,isNon] at hf
   walk_at "w"
   exact ⟨by rw [sho],rfl⟩
 | number lo hi=>
   simp only [wf,Bool.and_eq_true,decide_eq_true_eq] at hw
   cases d <;> simp [fitsB] at hf
   walk_at "w"
   refine wStr (log2_small (by omega) (by omega)) ?_
   walk_at "w"
   exact ⟨by rw [sho],rfl⟩
 | text q=>
   cases d <;> simp only [fitsB,Bool.false_eq_true] at hf
   rename_i x
   rw [wt] at hl
   have hr:=rep_len6 x
   walk_at "w"
   refine wRepl (by omega) ?_
   walk_at "w"
   refine limI (by rw [hL];omega) ?_
   walk_at "w"
   refine limI (by rw [hL,add_len];omega) ?_
   walk_at "w"
   exact ⟨by rw [sho],rfl⟩
 | list s q=>
   simp only [wf,Bool.and_eq_true] at hw
   rw [Sh.depth] at hs
   cases d <;> simp only [fitsB,Bool.false_eq_true] at hf
   rename_i ds
   simp only [Bool.and_eq_true,List.all_eq_true] at hf
   rw [wt] at hl
   have hls:=sh_ls (n:=n) (by omega) hw.2 hf.2
   have hjl:=join_len6 (ys:=ds.map fun e=>sho s e)
   have hdl:ds.length≤90000:=by rw [sum_one] at hl;omega
   walk_at "w"
   refine wJoinW ?_
   walk_at "w"
   refine (W_compMap (f:=fun e=>.str (sho s e)) (fr:=[]) ?_).mono ?_
   ·intro d m
    walk_at "w"
    refine (hc s (by omega) hw.2 d (hf.2 d m) ?_).use ⟨rfl,rfl⟩
    have:=le_sum (f:=fun e=>wt s e + 1) d m
    omega
   ·rintro xs t' ⟨rfl,hS⟩
    refine limI (by rw [List.length_map,hL];omega) ?_
    walk_at "w"
    refine ⟨_,_,ds.map fun e=>sho s e,rfl,rfl,by rw [←strsW_map,List.map_map];rfl,⟨by rw [l3];decide,by omega⟩,?_⟩
    walk_at "w"
    refine limI (by rw [hL];omega) ?_
    walk_at "w"
    refine limI (by rw [hL,add_len];omega) ?_
    walk_at "w"
    exact ⟨by rw [sho],hS⟩
 | pair s r=>
   simp only [wf,Bool.and_eq_true] at hw
   rw [Sh.depth] at hs
   unfold fitsB at hf
   split at hf
   ·next a b=>
    rw [Bool.and_eq_true] at hf
    rw [wt] at hl
    have h1:=sho_len n s (by omega) hw.1 a hf.1
    have h2:=sho_len n r (by omega) hw.2 b hf.2
    walk_at "w"
    refine (hc s (by omega) hw.1 a hf.1 (by omega)).use ?_
    walk_at "w"
    refine limI (by rw [hL];omega) ?_
    walk_at "w"
    refine limI (by rw [hL,add_len];omega) ?_
    walk_at "w"
    refine (hc r (by omega) hw.2 b hf.2 (by omega)).use ?_
    walk_at "w"
    refine limI (by rw [hL,add_len,add_len];omega) ?_
    walk_at "w"
    refine limI (by rw [hL,add_len,add_len,add_len];omega) ?_
    walk_at "w"
    exact ⟨by rw [sho],rfl⟩
   ·cases hf
 | choice ss=>
   simp only [wf,Bool.and_eq_true,decide_eq_true_eq] at hw
   rw [Sh.depth] at hs
   unfold fitsB at hf
   split at hf
   ·next o k y=>
    simp only [Bool.and_eq_true,decide_eq_true_eq] at hf
    have hk:k.toNat < ss.length:=by omega
    have e1:ss[k.toNat]?=some ss[k.toNat]:=List.getElem?_eq_getElem hk
    have h2:=hf.2
    rw [fitsN_get ss _ _ _ e1] at h2
    rw [wt,wtN_get ss _ _ _ e1] at hl
    have hd1:(ss[k.toNat]).depth≤n:=Nat.le_trans (shDep_get ss _ _ e1) (by omega)
    have hw1:=wfs_mem hw.2 _ (List.getElem_mem hk)
    have h3:=sho_len n _ hd1 hw1 y h2
    have h4:=str_le (i:=k) (by omega) (by omega)
    walk_at "w"
    refine wStr (log2_small (by omega) (by omega)) ?_
    walk_at "w"
    refine limI (by rw [hL];omega) ?_
    walk_at "w"
    refine limI (by rw [hL,add_len];omega) ?_
    walk_at "w"
    refine (hc _ hd1 hw1 y h2 (by omega)).use ?_
    walk_at "w"
    refine limI (by rw [hL,add_len,add_len];omega) ?_
    walk_at "w"
    exact ⟨by rw [sho,shoN_get ss _ _ _ e1],rfl⟩
   ·cases hf
theorem worth_ok {c:Fn} {n:Nat} (hc:ShowOk c n):ShowOk (fnOf 1 1 (m_f_law_worth c)) (n + 1):=by
 intro s hs hw d hf hl S
 have hL:LIM=100000:=rfl
 have hsl:=sho_len (n + 1) s hs hw d hf
 have l1:(Str.ofString "(").length=1:=by decide +kernel
 have l2:(Str.ofString ")").length=1:=by decide +kernel
 have l3:(Str.ofString ",").length=1:=by decide +kernel
 have l4:(Str.ofString "[").length=1:=by decide +kernel
 have l5:(Str.ofString "]").length=1:=by decide +kernel
 have l6:(Str.ofString "#").length=1:=by decide +kernel
 have l7:(Str.ofString ":").length=1:=by decide +kernel
 have l8:q1.length=1:=by decide +kernel
 have l9:(Str.ofString "\"").length=1:=l8
 refine Wf_fnOf rfl ?_
 unfold m_f_law_worth
 cases s with
 | nothing=>
   cases d <;> simp [fitsB,isNon] at hf
   walk_at "w"
   exact ⟨by rw [sho],rfl⟩
 | number lo hi=>
   simp only [wf,Bool.and_eq_true,decide_eq_true_eq] at hw
   cases d <;> simp [fitsB] at hf
   walk_at "w"
   refine wStr (log2_small (by omega) (by omega)) ?_
   walk_at "w"
   exact ⟨by rw [sho],rfl⟩
 | text q=>
   cases d <;> simp only [fitsB,Bool.false_eq_true] at hf
   rename_i x
   rw [wt] at hl
   have hr:=rep_len6 x
   have hsw:=PyProof.Rows.split_weight x q1 (by rw [l8];decide)
   walk_at "w"
   refine wJoinW ?_
   walk_at "w"
   refine wSplit ?_
   walk_at "w"
   refine ⟨x,q1,rfl,rfl,⟨by decide +kernel,by omega⟩,?_⟩
   walk_at "w"
   refine ⟨_,_,Txt.split x q1,rfl,rfl,strsW_map _,⟨by decide +kernel,by omega⟩,?_⟩
   rw [qq_eq,rep_split]
   walk_at "w"
   refine limI (by rw [hL];omega) ?_
   walk_at "w"
   refine limI (by rw [hL,add_len];omega) ?_
   walk_at "w"
   exact ⟨by rw [sho],rfl⟩
 | list s q=>
   simp only [wf,Bool.and_eq_true] at hw
   rw [Sh.depth] at hs
   cases d <;> simp only [fitsB,Bool.false_eq_true] at hf
   rename_i ds
   simp only [Bool.and_eq_true,List.all_eq_true] at hf
   rw [wt] at hl
   have hls:=sh_ls (n:=n) (by omega) hw.2 hf.2
   have hjl:=join_len6 (ys:=ds.map fun e=>sho s e)
   have hdl:ds.length≤90000:=by rw [sum_one] at hl;omega
   walk_at "w"
   refine wJoinW ?_
   walk_at "w"
   refine (W_compMap (f:=fun e=>.str (sho s e)) (fr:=[]) ?_).mono ?_
   ·intro d m
    walk_at "w"
    refine (hc s (by omega) hw.2 d (hf.2 d m) ?_).use ⟨rfl,rfl⟩
    have:=le_sum (f:=fun e=>wt s e + 1) d m
    omega
   ·rintro xs t' ⟨rfl,hS⟩
    refine limI (by rw [List.length_map,hL];omega) ?_
    walk_at "w"
    refine ⟨_,_,ds.map fun e=>sho s e,rfl,rfl,by rw [←strsW_map,List.map_map];rfl,⟨by rw [l3];decide,by omega⟩,?_⟩
    walk_at "w"
    refine limI (by rw [hL];omega) ?_
    walk_at "w"
    refine limI (by rw [hL,add_len];omega) ?_
    walk_at "w"
    exact ⟨by rw [sho],hS⟩
 | pair s r=>
   simp only [wf,Bool.and_eq_true] at hw
   rw [Sh.depth] at hs
   unfold fitsB at hf
   split at hf
   ·next a b=>
    rw [Bool.and_eq_true] at hf
    rw [wt] at hl
    have h1:=sho_len n s (by omega) hw.1 a hf.1
    have h2:=sho_len n r (by omega) hw.2 b hf.2
    walk_at "w"
    refine (hc s (by omega) hw.1 a hf.1 (by omega)).use ?_
    walk_at "w"
    refine limI (by rw [hL];omega) ?_
    walk_at "w"
    refine limI (by rw [hL,add_len];omega) ?_
    walk_at "w"
    refine (hc r (by omega) hw.2 b hf.2 (by omega)).use ?_
    walk_at "w"
    refine limI (by rw [hL,add_len,add_len];omega) ?_
    walk_at "w"
    refine limI (by rw [hL,add_len,add_len,add_len];omega) ?_
    walk_at "w"
    exact ⟨by rw [sho],rfl⟩
   ·cases hf
 | choice ss=>
   simp only [wf,Bool.and_eq_true,decide_eq_true_eq] at hw
   rw [Sh.depth] at hs
   unfold fitsB at hf
   split at hf
   ·next o k y=>
    simp only [Bool.and_eq_true,decide_eq_true_eq] at hf
    have hk:k.toNat < ss.length:=by omega
    have e1:ss[k.toNat]?=some ss[k.toNat]:=List.getElem?_eq_getElem hk
    have h2:=hf.2
    rw [fitsN_get ss _ _ _ e1] at h2
    rw [wt,wtN_get ss _ _ _ e1] at hl
    have hd1:(ss[k.toNat]).depth≤n:=Nat.le_trans (shDep_get ss _ _ e1) (by omega)
    have hw1:=wfs_mem hw.2 _ (List.getElem_mem hk)
    have h3:=sho_len n _ hd1 hw1 y h2
    have h4:=str_le (i:=k) (by omega) (by omega)
    walk_at "w"
    refine wStr (log2_small (by omega) (by omega)) ?_
    walk_at "w"
    refine limI (by rw [hL];omega) ?_
    walk_at "w"
    refine limI (by rw [hL,add_len];omega) ?_
    walk_at "w"
    refine (hc _ hd1 hw1 y h2 (by omega)).use ?_
    walk_at "w"
    refine limI (by rw [hL,add_len,add_len];omega) ?_
    walk_at "w"
    exact ⟨by rw [sho,shoN_get ss _ _ _ e1],rfl⟩
   ·cases hf
def SVX (f:Fn) (n:Nat):Prop:=∀(s:Sh),s.depth≤n→wf s=true→∀d,okD d=true→(fitsB s d=false→Pure1 f [s.d,d] (.exc "NoValue" []))∧(fitsB s d=true→wt s d≤90000→Pure1 f [s.d,d] (.str (sho s d)))
theorem svx_ok {c cf:Fn} {n:Nat} (hc:ShowOk c n) (hf:FitsOk cf n):SVX (fnOf 2 2 (m_show_value c cf)) n:=by
 intro s hs hwf d hd
 refine ⟨fun h S=>?_,fun h hlen S=>?_⟩
 ·refine Wf_fnOf rfl ?_
  unfold m_show_value
  walk_at "x"
  refine (hf s hs d hd).use ?_
  rw [h]
  walk_at "x"
  exact ⟨rfl,rfl⟩
 ·refine Wf_fnOf rfl ?_
  unfold m_show_value
  walk_at "x"
  refine (hf s hs d hd).use ?_
  rw [h]
  walk_at "x"
  exact (hc s hs hwf d h hlen).use ⟨rfl,rfl,rfl⟩
def Bad (s:Sh) (u:D):Prop:=okD u=true∧fitsB s u=false
theorem bad_dic (s:Sh):fitsB s .dic=false:=by cases s <;> simp [fitsB,isNon]
theorem bad_of {s:Sh} {u:D} (h1:okD u=true) (h2:¬fitsB s u=true):Bad s u:=⟨h1,by simpa using h2⟩
theorem bad_ls {s:Sh} {m:Int} {ds:List D} (h1:okD (.lst ds)=true) {u:D} (hu:u∈ds) (h2:fitsB s u=false):Bad (.list s m) (.lst ds):=bad_of h1 fun h=>by
 simp only [fitsB,Bool.and_eq_true,List.all_eq_true] at h
 have:=h.2 u hu
 rw [h2] at this;cases this
theorem bad_long {s:Sh} {m:Int} {ds:List D} (h1:okD (.lst ds)=true) (h2:m < ds.length):Bad (.list s m) (.lst ds):=bad_of h1 fun h=>by
 simp only [fitsB,Bool.and_eq_true,decide_eq_true_eq] at h
 omega
theorem bad_sign {m:Int} {a b:Str} {c:Str} (hc:c.cps.toList.all signB=false) (h:(a++c++b).length≤90000):Bad (.text m) (.str (a++c++b)):=bad_of (by rw [okD,decide_eq_true_eq];exact h) fun h=>by
 simp only [fitsB,Bool.and_eq_true] at h
 rw [app_codes,app_codes,List.all_append,List.all_append,hc,Bool.and_false,Bool.false_and] at h
 cases h.2
theorem okE_tup' {xs:List D} (h:∀d∈xs,okD d=true):okD (.tup xs)=true:=by rw [okD];exact oks_of h
theorem okE_lst' {xs:List D} (h:∀d∈xs,okD d=true):okD (.lst xs)=true:=by rw [okD];exact oks_of h
theorem mul_a {m:Int} (h0:0≤m) (h1:m≤250):(Txt.mul (Str.ofString "a") (m + 1)).length=(m + 1).toNat:=by
 rw [len_codes,mul_codes,rep_len]
 have:(Str.ofString "a").cps.toList.length=1:=by decide +kernel
 rw [this,Nat.mul_one]
theorem kIfToD {b:Bool} {m:M D} {d0:D} {t:T} {P:D→T→Prop} (Pm:D→T→Prop) (h1:b=true→F2.W m t Pm) (h2:b=false→Pm d0 t) (h:∀d t',Pm d t'→P d t'):iteK b (F2.W m t P) (P d0 t):=
 kIf2 (fun e=>(h1 e).mono h) fun e=>h _ _ (h2 e)
def o6 (n:Nat):Nat:=20 + v6 n * 7
def POdd6 (f:Fn) (n:Nat):Prop:=∀(s:Sh) (v:D) (k r:Nat) (S:List Ob),s.depth≤n + 1→wf s=true→fitsB s v=true→Room k (r + o6 n) S→Wf f [.obj k,s.d,v] S fun u S'=>Bad s u∧Room k r S'
theorem podd6_ok {ct cv:Fn} {n:Nat} (ht:PTakeOk ct) (hv:PVal6 cv n):POdd6 (fnOf 3 9 (m_f_law_odd_v3 ct cv)) n:=by
 intro s v k r S hd hw hf p0
 have hL:LIM=100000:=rfl
 unfold o6 at p0
 obtain ⟨hsm,-,-⟩:=fits_sm (n + 1) s hd hw v hf
 have hok:=sm_ok hsm
 have e0:(Str.ofString "").length≤90000:=by decide +kernel
 have eN:(Str.ofString "None").length≤90000:=by decide +kernel
 have ea:(Str.ofString "a").length≤90000:=by decide +kernel
 have eo:(Str.ofString "of").length≤90000:=by decide +kernel
 have ei:(Str.ofString "if").length≤90000:=by decide +kernel
 refine Wf_fnOf rfl ?_
 unfold m_f_law_odd_v3
 cases s with
 | nothing=>
   rw [Sh.d]
   walk_at "w"
   refine ht.use (r:=r + 9) 6 (p0.mono (by omega)) fun i S1 i0 i1 p1=>?_
   obtain ⟨u,eu,hu⟩:=pick (xs:=[D.int 0,.bl false,.str "",.lst [],.tup [],.str "None"]) i0 (by simpa using i1) (p:=Bad .nothing) (by
    simp only [List.forall_mem_cons,Bad,okD,oks,fitsB,isNon,e0,eN,decide_true,and_self,true_and]
    exact fun _ z=>nomatch z)
   refine wIxL eu ?_
   exact ⟨hu,p1.drop⟩
 | number lo hi=>
   simp only [wf,Bool.and_eq_true,decide_eq_true_eq] at hw
   cases v <;> simp [fitsB] at hf
   rename_i i
   rw [Sh.d]
   walk_at "w"
   refine wStr (log2_small (by omega) (by omega)) ?_
   walk_at "w"
   refine ht.use (r:=r + 9) 7 (p0.mono (by omega)) fun j S1 j0 j1 p1=>?_
   have hsl:=str_le (i:=i) (by omega) (by omega)
   obtain ⟨u,eu,hu⟩:=pick (xs:=[D.int (lo - 1),.int (hi + 1),.bl true,.non,.str (Str.ofString (toString i)),.lst [.int i],.tup [.int i]]) j0 (by simpa using j1) (p:=Bad (.number lo hi)) (by
    simp only [List.forall_mem_cons,Bad,okD,oks,fitsB,decide_eq_true_eq,Bool.and_self,and_self,true_and,and_true,Bool.and_eq_false_iff,decide_eq_false_iff_not]
    exact ⟨.inl (by omega),.inr (by omega),by omega,fun _ z=>nomatch z⟩)
   refine wIxL eu ?_
   exact ⟨hu,p1.drop⟩
 | text m=>
   simp only [wf,Bool.and_eq_true,decide_eq_true_eq] at hw
   cases v <;> simp only [fitsB,Bool.false_eq_true] at hf
   rename_i x
   simp only [smD,decide_eq_true_eq] at hsm
   rw [Sh.d]
   walk_at "w"
   refine limI (by rw [hL];omega) ?_
   walk_at "w"
   have hy:=Txt.slice_le x none (some (if (m - 1:Int) > 0 then m - 1 else 0))
   generalize Txt.slice x none (some (if (m - 1:Int) > 0 then m - 1 else 0))=y at hy
   refine wLenS (by rw [hL];omega) ?_
   walk_at "w"
   refine ht.use (r:=r + 9) ((y.length:Int) + 1) (p0.mono (by omega)) (fun a S1 a0 a1 p1=>?_) rfl (by omega) (by omega)
   walk_at "w"
   have h1:=Txt.slice_le y none (some a)
   have h2:=Txt.slice_le y (some a) none
   have lt:(Str.ofString "\t").length=1:=by decide +kernel
   have ln:(Str.ofString "\n").length=1:=by decide +kernel
   refine limI (by rw [hL];omega) ?_
   walk_at "w"
   refine limI (by rw [hL];omega) ?_
   walk_at "w"
   refine limI (by rw [hL];omega) ?_
   walk_at "w"
   refine limI (by rw [hL,add_len];omega) ?_
   walk_at "w"
   refine limI (by rw [hL];omega) ?_
   walk_at "w"
   refine limI (by rw [hL];omega) ?_
   walk_at "w"
   refine limI (by rw [hL];omega) ?_
   walk_at "w"
   refine limI (by rw [hL,add_len];omega) ?_
   walk_at "w"
   refine ht.use (r:=r + 8) 2 p1 fun b S2 b0 b1 p2=>?_
   obtain ⟨dd,ed,odd,rfl,hodd⟩:=pick (xs:=[D.str (Txt.slice y none (some a)++Str.ofString "\t"++Txt.slice y (some a) none),.str (Txt.slice y none (some a)++Str.ofString "\n"++Txt.slice y (some a) none)]) b0 (by simpa using b1) (p:=fun d=>∃o:Str,d = .str o∧Bad (.text m) (.str o)) (by
    simp only [List.forall_mem_cons]
    exact ⟨⟨_,rfl,bad_sign (by decide +kernel) (by rw [add_len,add_len];omega)⟩,⟨_,rfl,bad_sign (by decide +kernel) (by rw [add_len,add_len];omega)⟩,fun _ z=>nomatch z⟩)
   refine wIxL ed ?_
   walk_at "w"
   have la:(Str.ofString "a").length=1:=by decide +kernel
   refine wMulS ⟨small_of (by omega) (by omega),by rw [la,hL];omega,by rw [hL];omega,by rw [la,hL];decide⟩ ?_
   walk_at "w"
   refine wLstS (by rw [hL];omega) ?_
   walk_at "w"
   refine ht.use (r:=r + 7) 8 p2 fun c S3 c0 c1 p3=>?_
   have hm:=mul_a hw.1 hw.2
   have hb:∀{u:D},okD u=true→tyD u≠some "str"→Bad (.text m) u:=fun {u} h1 h2=>bad_of h1 fun h=>by cases u <;> simp [fitsB] at h;exact h2 rfl
   have okl:okD (.lst (x.cps.toList.map fun c=>D.str ⟨#[c]⟩))=true:=okE_lst' fun v hv=>by
    obtain ⟨c,_,rfl⟩:=List.mem_map.mp hv
    simp [okD,Str.length]
   obtain ⟨u,eu,hu⟩:=pick (xs:=[D.str (Txt.mul (Str.ofString "a") (m + 1)),.str odd,.non,.int 5,.lst [.str "a"],.tup [.str "a"],.str odd,.lst (x.cps.toList.map fun c=>D.str ⟨#[c]⟩)]) c0 (by simpa using c1) (p:=Bad (.text m)) (by
    simp only [List.forall_mem_cons]
    refine ⟨bad_of (by rw [okD,decide_eq_true_eq];omega) fun h=>?_,hodd,hb rfl (by simp [tyD]),hb rfl (by simp [tyD]),hb (by simp [okD,oks,ea]) (by simp [tyD]),hb (by simp [okD,oks,ea]) (by simp [tyD]),hodd,hb okl (by simp [tyD]),fun _ z=>nomatch z⟩
    simp only [fitsB,Bool.and_eq_true,decide_eq_true_eq] at h
    omega)
   refine wIxL eu ?_
   exact ⟨hu,p3.drop⟩
 | list s m=>
   simp only [wf,Bool.and_eq_true,decide_eq_true_eq] at hw
   rw [Sh.depth] at hd
   cases v <;> simp only [fitsB,Bool.false_eq_true] at hf
   rename_i ds
   simp only [Bool.and_eq_true,List.all_eq_true,decide_eq_true_eq] at hf
   simp only [smD,Bool.and_eq_true,decide_eq_true_eq] at hsm
   have hmem:=fun d h=>oks_mem (by rw [okD] at hok;exact hok:oks ds=true) d h
   rw [Sh.d]
   walk_at "w"
   obtain ⟨n5,e5,h5⟩:∃n5:Nat,(if (5:Int) < m then 5 else m) + 1=(n5:Int)∧n5≤6:=⟨((if (5:Int) < m then 5 else m) + 1).toNat,by split <;> omega,by split <;> omega⟩
   rw [e5]
   refine wRg1 (smallN h5) ?_
   have nb2:v6 n * n5≤v6 n * 7:=Nat.mul_le_mul_left _ (by omega)
   refine (W_comp (P:=fun xs t'=>(∀x∈xs,okD x=true)∧xs.length=n5∧Room k (r + 10) t'.S) (fun acc l t=>∃(S':List Ob) (z:Option Sl),(∀x∈acc,okD x=true)∧acc.length + l.length=n5∧Room k (r + 10 + v6 n * l.length) S'∧t=⟨[z,some (.val (.obj k)),some (.val (.tup [.str "list",s.d,.int m]))],S'⟩) _ [] _ ⟨S,_,(fun _ h=>nomatch h),by simp [rngL],p0.mono (by rw [rngL_len,Int.toNat_natCast];omega),rfl⟩ ?_ ?_).mono ?_
   ·rintro acc d l t ⟨S',z,h1,h2,h4,rfl⟩ _
    rw [List.length_cons] at h2 h4
    refine wPut (wTru ?_)
    rw [if_pos rfl]
    walk_at "w"
    refine (hv s k (r + 10 + v6 n * l.length) S' (by omega) hw.2 (by rw [Nat.mul_succ,←Nat.add_assoc] at h4;exact h4)).mono fun v S5 ⟨g1,g2,g3⟩=>?_
    exact ⟨S5,_,mem_app h1 (sm_ok (fits_sm n s (by omega) hw.2 v g1).1),len_step h2,g3,rfl⟩
   ·rintro acc t ⟨S',z,h1,h2,h4,rfl⟩
    exact ⟨h1,h2,h4.drop⟩
   ·rintro xs t' ⟨h1,h2,h4⟩
    rw [List.nil_append] at h1 h2
    refine limI (by rw [h2,hL];omega) ?_
    walk_at "w"
    generalize t'.S=S2 at h4
    have okm:okD (.lst (ds++[.dic]))=true:=okE_lst' (mem_app hmem rfl)
    have bdm:Bad (.list s m) (.lst (ds++[.dic])):=bad_ls okm (List.mem_append_right _ (List.mem_singleton.mpr rfl)) (bad_dic s)
    refine kIfTo6 (fun o t'=>o = .next∧∃mo:List D,Bad (.list s m) (.lst mo)∧t'=⟨[some (.val (.obj k)),some (.val (.tup [.str "list",s.d,.int m])),some (.val (.lst ds)),none,none,none,some (.val (.lst mo)),none,none],S2⟩) (fun _=>?_) (fun w=>?_) ?_
    ·walk_at "w"
     refine limI (by rw [hL];show _ + 1≤_;omega) ?_
     exact ⟨rfl,_,bdm,rfl⟩
    ·walk_at "w"
     have w':=of_decide_eq_false w
     refine ⟨rfl,xs,bad_long (okE_lst' h1) (by rw [h2,←e5,if_neg (by omega)];omega),rfl⟩
    rintro o t' ⟨rfl,mo,hmo,rfl⟩
    walk_at "w"
    refine limI (by rw [hL];show _ + 1≤_;omega) ?_
    walk_at "w"
    refine ht.use (r:=r + 9) 8 h4 fun c S3 c0 c1 p3=>?_
    have hb:∀{u:D},okD u=true→tyD u≠some "list"→Bad (.list s m) u:=fun {u} h1 h2=>bad_of h1 fun h=>by cases u <;> simp [fitsB] at h;exact h2 rfl
    obtain ⟨u,eu,hu⟩:=pick (xs:=[D.tup ds,.non,.int 5,.str "",.dic,.lst [.dic],.lst (ds++[.dic]),.lst mo]) c0 (by simpa using c1) (p:=Bad (.list s m)) (by
     simp only [List.forall_mem_cons]
     exact ⟨hb (okE_tup' hmem) (by simp [tyD]),hb rfl (by simp [tyD]),hb rfl (by simp [tyD]),hb (by simp [okD,e0]) (by simp [tyD]),hb rfl (by simp [tyD]),bad_ls rfl (List.mem_singleton.mpr rfl) (bad_dic s),bdm,hmo,fun _ z=>nomatch z⟩)
    refine wIxL eu ?_
    exact ⟨hu,p3.drop⟩
 | pair s1 s2=>
   unfold fitsB at hf
   split at hf
   ·next a b=>
    rw [Bool.and_eq_true] at hf
    rw [okD,oks,oks,oks,Bool.and_true,Bool.and_eq_true] at hok
    rw [Sh.d]
    walk_at "w"
    refine wLst2T ?_
    walk_at "w"
    refine ht.use (r:=r + 9) 7 (p0.mono (by omega)) fun c S3 c0 c1 p3=>?_
    have hb:∀{u:D},okD u=true→(∀x y,u = .tup [x,y]→¬(fitsB s1 x=true∧fitsB s2 y=true))→Bad (.pair s1 s2) u:=fun {u} h1 h2=>bad_of h1 fun h=>by
     unfold fitsB at h
     split at h
     ·rw [Bool.and_eq_true] at h;exact h2 _ _ rfl h
     ·cases h
    obtain ⟨u,eu,hu⟩:=pick (xs:=[D.lst [a,b],.tup (cutD [a,b] none (some 1)),.tup ([a,b]++[.non]),.non,.tup [a,.dic],.tup [.dic,b],.tup []]) c0 (by simpa using c1) (p:=Bad (.pair s1 s2)) (by
     simp only [List.forall_mem_cons]
     rw [cut_head]
     refine ⟨hb (by simp [okD,oks,hok.1,hok.2]) (fun _ _ z=>nomatch z),hb (by simp [okD,oks,hok.1]) (fun _ _ z=>by cases z),hb (by simp [okD,oks,hok.1,hok.2]) (fun _ _ z=>by cases z),hb rfl (fun _ _ z=>nomatch z),hb (by simp [okD,oks,hok.1]) (fun _ _ z h=>?_),hb (by simp [okD,oks,hok.2]) (fun _ _ z h=>?_),hb rfl (fun _ _ z=>by cases z),fun _ z=>nomatch z⟩
     ·cases z;rw [bad_dic] at h;cases h.2
     ·cases z;rw [bad_dic] at h;cases h.1)
    refine wIxL eu ?_
    exact ⟨hu,p3.drop⟩
   ·cases hf
 | choice ss=>
   simp only [wf,Bool.and_eq_true,decide_eq_true_eq] at hw
   rw [Sh.depth] at hd
   unfold fitsB at hf
   split at hf
   ·next o kk y=>
    simp only [Bool.and_eq_true,decide_eq_true_eq] at hf
    rw [okD,oks,oks,oks,oks,Bool.and_true,Bool.and_eq_true,Bool.and_eq_true] at hok
    have ok1:o.length≤90000:=by have:=hok.1;rwa [okD,decide_eq_true_eq] at this
    have ok3:=hok.2.2
    rw [Sh.d]
    walk_at "w"
    refine wLst2T ?_
    walk_at "w"
    rw [shD_len]
    obtain ⟨A,hA⟩:∃A,A=[D.tup ([D.str (Str.ofString "if")]++cutD [D.str o,D.int kk,y] (some 1) none),D.tup (cutD [D.str o,D.int kk,y] none (some 2)),D.tup ([D.str o,D.int kk,y]++[D.non]),D.lst [D.str o,D.int kk,y],D.tup [D.str (Str.ofString "of"),D.int ss.length,y]]++[D.tup [D.str (Str.ofString "of"),D.int (-1),y],D.tup (cutD [D.str o,D.int kk,y] (some 1) none),D.tup [D.str (Str.ofString "of"),D.int kk,D.dic],D.non]:=⟨_,rfl⟩
    refine kIfToD (fun d t1=>∃(tb:Bool) (S2:List Ob),d = .bl tb∧(tb=true→1 < ss.length)∧Room k (r + 9 + v6 n) S2∧t1=⟨[some (.val (.obj k)),some (.val (.tup [.str "choice",.tup (shD ss)])),some (.val (.tup [.str o,.int kk,y])),none,none,none,none,some (.own A),none],S2⟩) (fun w=>?_) (fun w=>?_) ?_
    ·have w':=of_decide_eq_true w
     walk_at "w"
     refine ht.use (r:=r + 9 + v6 n) 2 (p0.mono (by omega)) fun a S1 a0 a1 p1=>?_
     walk_at "w"
     exact ⟨_,S1,rfl,fun _=>by omega,p1,by rw [hA];rfl⟩
    ·exact ⟨false,S,rfl,fun z=>(nomatch z),p0.mono (by omega),by rw [hA];rfl⟩
    rintro d t1 ⟨tb,S2,rfl,htb,p2,rfl⟩
    have hA9:A.length=9:=by rw [hA];rfl
    obtain ⟨j,ej,hj⟩:∃j:Nat,(if tb=true then 1 else 0:Int)=(j:Int)∧j < ss.length:=by
     cases tb
     ·exact ⟨0,rfl,by omega⟩
     ·exact ⟨1,rfl,htb rfl⟩
    walk_at "w"
    rw [ej]
    refine wIxT (sh_at hj) ?_
    walk_at "w"
    have hdj:=Nat.le_trans (shDep_mem (List.getElem_mem hj)) (Nat.le_of_succ_le_succ hd)
    have hwj:=wfs_mem hw.2 _ (List.getElem_mem hj)
    refine (hv _ k (r + 9) S2 hdj hwj p2).mono fun u S3 ⟨g1,g2,g3⟩=>?_
    walk_at "w"
    refine limI (by rw [hA9,hL];decide) ?_
    walk_at "w"
    refine ht.use (r:=r + 8) 10 g3 fun c S4 c0 c1 p4=>?_
    have hb:∀{u:D},okD u=true→(∀o k x,u = .tup [.str o,.int k,x]→¬(isOf o=true∧(0≤k∧k < ss.length)∧fitsN ss k.toNat x=true))→Bad (.choice ss) u:=fun {u} h1 h2=>bad_of h1 fun h=>by
     unfold fitsB at h
     split at h
     ·simp only [Bool.and_eq_true,decide_eq_true_eq] at h;exact h2 _ _ _ rfl ⟨h.1.1,h.1.2,h.2⟩
     ·cases h
    have oku:=sm_ok (fits_sm n _ hdj hwj u g1).1
    have hif:isOf (Str.ofString "if")=false:=by decide +kernel
    have hk1:kk.toNat < ss.length:=by omega
    have ek:ss[kk.toNat]?=some ss[kk.toNat]:=List.getElem?_eq_getElem hk1
    have hbd:∀v∈A++[D.tup [D.str (Str.ofString "of"),D.bl tb,u]],Bad (.choice ss) v:=by
     rw [hA,cut_tail]
     have c2:cutD [D.str o,D.int kk,y] none (some 2)=[D.str o,D.int kk]:=rfl
     rw [c2]
     simp only [List.forall_mem_append,List.forall_mem_cons]
     refine ⟨⟨⟨hb (by simp [okD,oks,ei,ok3]) (fun _ _ _ z h=>?_),hb (by simp [okD,oks,ok1]) (fun _ _ _ z=>by cases z),hb (by simp [okD,oks,ok1,ok3]) (fun _ _ _ z=>by cases z),hb (by simp [okD,oks,ok1,ok3]) (fun _ _ _ z=>by cases z),hb (by simp [okD,oks,eo,ok3]) (fun _ _ _ z h=>?_),fun _ z=>nomatch z⟩,hb (by simp [okD,oks,eo,ok3]) (fun _ _ _ z h=>?_),hb (by simp [okD,oks,ok3]) (fun _ _ _ z=>by cases z),hb (by simp [okD,oks,eo]) (fun _ _ _ z h=>?_),hb rfl (fun _ _ _ z=>by cases z),fun _ z=>nomatch z⟩,hb (by simp [okD,oks,eo,oku]) (fun _ _ _ z=>by cases z),fun _ z=>nomatch z⟩
     ·cases z;rw [hif] at h;cases h.1
     ·cases z;have:=h.2.1.2;omega
     ·cases z;have:=h.2.1.1;omega
     ·cases z;have:=h.2.2;rw [fitsN_get ss _ _ _ ek,bad_dic] at this;cases this
    obtain ⟨w,ew,hw'⟩:=pick (xs:=A++[D.tup [D.str (Str.ofString "of"),D.bl tb,u]]) c0 (by rw [List.length_append,hA9];exact c1) hbd
    refine wIxL ew ?_
    exact ⟨hw',p4.drop⟩
   ·cases hf
def p6:Nat→Nat
 | 0=>0
 | n + 1=>10 + p6 n + o6 n
def PSp6 (f:Fn) (n:Nat):Prop:=∀(s:Sh) (v:D) (k r:Nat) (S:List Ob),s.depth≤n→wf s=true→fitsB s v=true→Room k (r + p6 n) S→Wf f [.obj k,s.d,v] S fun u S'=>Bad s u∧Room k r S'
theorem cut_okD {ds:List D} {lo hi:Option Int} (h:∀d∈ds,okD d=true):∀d∈cutD ds lo hi,okD d=true:=fun d m=>h d (cut_mem m)
theorem psp6_ok {co ct c:Fn} {n:Nat} (ho:POdd6 co n) (ht:PTakeOk ct) (hc:PSp6 c n):PSp6 (fnOf 3 4 (m_f_law_spoilt_v6 co ct c)) (n + 1):=by
 intro s v k r S hd hw hf p0
 have hL:LIM=100000:=rfl
 rw [p6] at p0
 obtain ⟨hsm,-,-⟩:=fits_sm (n + 1) s hd hw v hf
 have hok:=sm_ok hsm
 have eo:(Str.ofString "of").length≤90000:=by decide +kernel
 have odd_:∀{S':List Ob} {P:D→List Ob→Prop},Room k (r + o6 n) S'→(∀u S'',Bad s u→Room k r S''→P u S'')→Wf co [.obj k,s.d,v] S' P:=fun {S' P} q h=>(ho s v k r S' hd hw hf q).mono fun u S'' ⟨a,b⟩=>h u S'' a b
 refine Wf_fnOf rfl ?_
 unfold m_f_law_spoilt_v6
 cases s with
 | nothing=>
   rw [Sh.d] at odd_ ⊢
   walk_at "w"
   exact odd_ (p0.mono (by omega)) fun u S' a b=>⟨a,b⟩
 | number lo hi=>
   rw [Sh.d] at odd_ ⊢
   walk_at "w"
   exact odd_ (p0.mono (by omega)) fun u S' a b=>⟨a,b⟩
 | text m=>
   rw [Sh.d] at odd_ ⊢
   walk_at "w"
   exact odd_ (p0.mono (by omega)) fun u S' a b=>⟨a,b⟩
 | list s m=>
   rw [Sh.d] at odd_ ⊢
   simp only [wf,Bool.and_eq_true,decide_eq_true_eq] at hw
   rw [Sh.depth] at hd
   cases v <;> simp only [fitsB,Bool.false_eq_true] at hf
   rename_i ds
   simp only [Bool.and_eq_true,List.all_eq_true,decide_eq_true_eq] at hf
   simp only [smD,Bool.and_eq_true,decide_eq_true_eq] at hsm
   have hmem:=fun d h=>oks_mem (by rw [okD] at hok;exact hok:oks ds=true) d h
   walk_at "w"
   refine kIf2 (fun w=>?_) fun w=>?_
   ·have hne:0 < ds.length:=by
     cases ds with
     | nil=>cases w
     | cons _ _=>simp
    walk_at "w"
    refine ht.use (r:=r + 9 + p6 n + o6 n) 3 (p0.mono (by omega)) fun a S1 a0 a1 p1=>?_
    walk_at "w"
    refine kIf2 (fun w2=>?_) fun w2=>?_
    ·walk_at "w"
     refine ht.use (r:=r + 8 + p6 n + o6 n) (ds.length:Int) (p1.mono (by omega)) (fun b S2 b0 b1 p2=>?_) rfl (by omega) (by omega)
     obtain ⟨j,rfl⟩:=Int.eq_ofNat_of_zero_le b0
     have hj:j < ds.length:=Int.ofNat_lt.mp b1
     have ej:atI ds (j:Int)=some ds[j]:=by
      unfold atI
      rw [ixN_nat (by omega) (by omega)]
      show ds[(j:Int).toNat]?=_
      rw [Int.toNat_natCast,List.getElem?_eq_getElem hj]
     walk_at "w"
     refine wIxL ej ?_
     walk_at "w"
     refine (hc s ds[j] k r S2 (by omega) hw.2 (hf.2 _ (List.getElem_mem hj)) (p2.mono (by omega))).mono fun u S3 ⟨hu,p3⟩=>?_
     have l1:=cut_len ds none (some (j:Int))
     have l2:=cut_len ds (some ((j:Int) + 1)) none
     walk_at "w"
     refine limI (by rw [hL];show _ + 1≤_;omega) ?_
     walk_at "w"
     refine limI (by rw [hL,List.length_append];show _ + 1 + _≤_;omega) ?_
     walk_at "w"
     refine ⟨bad_ls (okE_lst' ?_) (List.mem_append_left _ (List.mem_append_right _ (List.mem_singleton.mpr rfl))) hu.2,p3⟩
     exact List.forall_mem_append.mpr ⟨mem_app (cut_okD hmem) hu.1,cut_okD hmem⟩
    ·walk_at "w"
     exact odd_ (p1.mono (by omega)) fun u S' a b=>⟨a,b⟩
   ·walk_at "w"
    exact odd_ (p0.mono (by omega)) fun u S' a b=>⟨a,b⟩
 | pair s1 s2=>
   rw [Sh.d] at odd_ ⊢
   simp only [wf,Bool.and_eq_true] at hw
   rw [Sh.depth] at hd
   unfold fitsB at hf
   split at hf
   ·next a b=>
    rw [Bool.and_eq_true] at hf
    rw [okD,oks,oks,oks,Bool.and_true,Bool.and_eq_true] at hok
    have hb:∀{x y:D},okD x=true→okD y=true→¬(fitsB s1 x=true∧fitsB s2 y=true)→Bad (.pair s1 s2) (.tup [x,y]):=fun {x y} h1 h2 h3=>bad_of (by simp [okD,oks,h1,h2]) fun h=>by
     simp only [fitsB,Bool.and_eq_true] at h
     exact h3 h
    walk_at "w"
    refine ht.use (r:=r + 9 + p6 n + o6 n) 3 (p0.mono (by omega)) fun q S1 a0 a1 p1=>?_
    walk_at "w"
    refine kIf2 (fun w2=>?_) fun w2=>?_
    ·walk_at "w"
     refine ht.use (r:=r + 8 + p6 n + o6 n) 2 (p1.mono (by omega)) fun q2 S2 b0 b1 p2=>?_
     walk_at "w"
     refine kIf2 (fun w3=>?_) fun w3=>?_
     ·walk_at "w"
      refine (hc s1 a k r S2 (by omega) hw.1 hf.1 (p2.mono (by omega))).mono fun u S3 ⟨hu,p3⟩=>?_
      walk_at "w"
      exact ⟨hb hu.1 hok.2 (fun h=>by rw [hu.2] at h;cases h.1),p3⟩
     ·walk_at "w"
      refine (hc s2 b k r S2 (by omega) hw.2 hf.2 (p2.mono (by omega))).mono fun u S3 ⟨hu,p3⟩=>?_
      walk_at "w"
      exact ⟨hb hok.1 hu.1 (fun h=>by rw [hu.2] at h;cases h.2),p3⟩
    ·walk_at "w"
     exact odd_ (p1.mono (by omega)) fun u S' a b=>⟨a,b⟩
   ·cases hf
 | choice ss=>
   rw [Sh.d] at odd_ ⊢
   simp only [wf,Bool.and_eq_true,decide_eq_true_eq] at hw
   rw [Sh.depth] at hd
   unfold fitsB at hf
   split at hf
   ·next o kk y=>
    simp only [Bool.and_eq_true,decide_eq_true_eq] at hf
    obtain ⟨j,rfl⟩:=Int.eq_ofNat_of_zero_le hf.1.2.1
    have hj:j < ss.length:=by have:=hf.1.2.2;omega
    have e1:ss[j]?=some ss[j]:=List.getElem?_eq_getElem hj
    have h2:=hf.2
    rw [Int.toNat_natCast,fitsN_get ss _ _ _ e1] at h2
    walk_at "w"
    refine ht.use (r:=r + 9 + p6 n + o6 n) 3 (p0.mono (by omega)) fun q S1 a0 a1 p1=>?_
    walk_at "w"
    refine kIf2 (fun w2=>?_) fun w2=>?_
    ·walk_at "w"
     refine wIxT (sh_at hj) ?_
     walk_at "w"
     refine (hc _ y k r S1 (Nat.le_trans (shDep_mem (List.getElem_mem hj)) (Nat.le_of_succ_le_succ hd)) (wfs_mem hw.2 _ (List.getElem_mem hj)) h2 (p1.mono (by omega))).mono fun u S3 ⟨hu,p3⟩=>?_
     walk_at "w"
     refine ⟨bad_of (by simp [okD,oks,eo,hu.1]) fun h=>?_,p3⟩
     simp only [fitsB,Bool.and_eq_true,decide_eq_true_eq] at h
     have:=h.2
     rw [Int.toNat_natCast,fitsN_get ss _ _ _ e1,hu.2] at this
     cases this
    ·walk_at "w"
     exact odd_ (p1.mono (by omega)) fun u S' a b=>⟨a,b⟩
   ·cases hf
abbrev kinds6:D:=.lst [.bl true,.bl false,.bl false,.bl false,.bl false,.bl false,.bl false,.bl true]
def KindsOk (f:Fn):Prop:=Pure1 f [.exc "NoValue" []] kinds6
theorem kinds6_ok:KindsOk (fnOf 1 2 m_f_law_kinds_v3):=by
 intro S
 have hL:LIM=100000:=rfl
 refine Wf_fnOf rfl ?_
 unfold m_f_law_kinds_v3
 iterate 6 (walk_at "x";walk_at "w")
 refine ⟨?_,rfl⟩
 have e1:subX "NoValue" "NoValue" = true:=by decide
 have e2:subX "NoValue" "NoText" = false:=by decide
 have e3:subX "NoValue" "Short" = false:=by decide
 have e4:subX "NoValue" "Broken" = false:=by decide
 have e5:subX "NoValue" "NoTalk" = false:=by decide
 have e6:subX "NoValue" "NoName" = false:=by decide
 have e7:subX "NoValue" "NoRow" = false:=by decide
 have e8:subX "NoValue" "ValueError" = true:=by decide
 rw [e1,e2,e3,e4,e5,e6,e7,e8]
 rfl
def Ref6 (f:Fn):Prop:=∀(s:Sh),s.depth≤6→wf s=true→∀d,Bad s d→Pure1 f [s.d,d] (.bl true)
theorem ref6_ok {ck cv:Fn} (hk:KindsOk ck) (hv:SVX cv 6):Ref6 (fnOf 2 4 (m_f_law_refused_v5 ck cv)):=by
 intro s hs hw d hd S
 refine Wf_fnOf rfl ?_
 unfold m_f_law_refused_v5
 walk_at "x"
 refine ((hv s hs hw d hd.1).1 hd.2).use ?_
 walk_at "x"
 refine hk.use ?_
 walk_at "x"
 refine wMulL ⟨small_of (by decide) (by decide),Nat.le_of_ble_eq_true rfl⟩ ?_
 walk_at "x"
 walk_at "w"
 refine wEqRefl (d:=kinds6) rfl (by decide) ?_
 exact ⟨rfl,rfl⟩
theorem k66_ok {csv csp crf cwo cva cdp cpo:Fn} (hsv:SVX csv 6) (hsp:PSp6 csp 6) (hrf:Ref6 crf) (hwo:ShowOk cwo 6) (hva:PVal6 cva 6) (hdp:PDeep6 cdp) (hpo:PPoolOk cpo) {ns:List Int} (hns:ns.length≤63) :
 Wf (fnOf 1 6 (m_law_K66 csv csp crf cwo cva cdp cpo)) [.scr ns] [] fun r _=>r = .bl true:=by
 refine Wf_fnOf rfl ?_
 unfold m_law_K66
 have hl6:lB 6≤90000:=by decide
 walk_at "w"
 obtain ⟨n,en,hn⟩:∃n:Nat,(if (ns.length:Int) < 63 then (ns.length:Int) else 63)=(n:Int)∧n≤63:=⟨(if (ns.length:Int) < 63 then (ns.length:Int) else 63).toNat,by split <;> omega,by split <;> omega⟩
 rw [en]
 refine wRg1 (smallN hn) ?_
 refine W_for (fun q t=>(∀d∈q,∃k:Nat,d = .int (k:Int)∧k≤1000)∧∃(S:List Ob) (e1 e2 e3 e4 e5:Option Sl),t=⟨[some (.val (.scr ns)),e1,e2,e3,e4,e5],S⟩) _ _ ⟨fun d hd=>?_,[],none,none,none,none,none,rfl⟩ ?_ ?_
 ·rw [rngL_eq] at hd
  obtain ⟨k,hk,rfl⟩:=List.mem_map.mp hd
  have:=List.mem_range.mp hk
  exact ⟨k,by rw [Int.zero_add],by rw [Int.toNat_natCast] at this;omega⟩
 ·rintro d q t ⟨hq,S,e1,e2,e3,e4,e5,rfl⟩ _
  obtain ⟨k,rfl,hk⟩:=hq d List.mem_cons_self
  have hq':=fun x m=>hq x (List.mem_cons_of_mem _ m)
  walk_at "w"
  refine (hpo ns k S hk).mono fun r0 S0 ⟨K,e,p0⟩=>?_
  subst e
  walk_at "w"
  refine (hdp K 800000000000000000000000000000 S0 (p0.mono (by decide))).mono fun v S1 ⟨⟨s,e,hd6,hw⟩,p1⟩=>?_
  subst e
  walk_at "w"
  refine (hva s K 700000000000000000000000000000 S1 hd6 hw (p1.mono (by decide))).mono fun v S2 ⟨hf,hwt,p2⟩=>?_
  have hwt':=Nat.le_trans hwt hl6
  obtain ⟨hsm,-,-⟩:=fits_sm 6 s hd6 hw v hf
  have hokv:=sm_ok hsm
  walk_at "w"
  refine (hwo s hd6 hw v hf hwt').use ?_
  walk_at "w"
  have hsh:=(((hsv s hd6 hw v hokv).2 hf hwt').ok rfl)
  refine hsh.use ?_
  walk_at "w"
  refine kIfF (by rw [beq_self_eq_true];rfl) ?_
  walk_at "w"
  refine (hsp s v K 600000000000000000000000000000 S2 hd6 hw hf (p2.mono (by decide))).mono fun u S3 ⟨hu,p3⟩=>?_
  walk_at "w"
  refine (hrf s hd6 hw u hu).use ?_
  walk_at "w"
  refine hsh.use ?_
  walk_at "w"
  refine kIfF (by rw [beq_self_eq_true];rfl) ?_
  walk_at "w"
  exact ⟨hq',S3,_,_,_,_,_,rfl⟩
 ·rintro t ⟨_,S,e1,e2,e3,e4,e5,rfl⟩
  walk_at "w"
  rfl
end LW
set_option Elab.async false
set_option linter.all false
set_option maxRecDepth 100000
set_option maxHeartbeats 4000000
set_option autoImplicit false
namespace K66
open PySem L2 F2 LW
inductive Fx where
 | is_number_ | is_number_within_ | fits_ | fits_text_ | is_sign_ | fits_list_ | fits_pair_ | fits_choice_ | show_value_ | show_fitting_ | f_law_nth | f_law_pool | f_law_take | f_law_shape | f_law_deep | f_law_signs | f_law_value | f_law_worth | f_law_kinds | f_law_odd | f_law_spoilt | f_law_refused | law_
def top (i:Nat):Stmt:=PySem.Challenge.pw_wireparley_k66_values_that_do_not_fit.main.body.getD i (.Pass ⟨0,0,0,0⟩)
abbrev nm:Fx→Str
 | .is_number_=>"is_number"
 | .is_number_within_=>"is_number_within"
 | .fits_=>"fits"
 | .fits_text_=>"fits_text"
 | .is_sign_=>"is_sign"
 | .fits_list_=>"fits_list"
 | .fits_pair_=>"fits_pair"
 | .fits_choice_=>"fits_choice"
 | .show_value_=>"show_value"
 | .show_fitting_=>"show_fitting"
 | .f_law_nth=>"_law_nth"
 | .f_law_pool=>"_law_pool"
 | .f_law_take=>"_law_take"
 | .f_law_shape=>"_law_shape"
 | .f_law_deep=>"_law_deep"
 | .f_law_signs=>"_law_signs"
 | .f_law_value=>"_law_value"
 | .f_law_worth=>"_law_worth"
 | .f_law_kinds=>"_law_kinds"
 | .f_law_odd=>"_law_odd"
 | .f_law_spoilt=>"_law_spoilt"
 | .f_law_refused=>"_law_refused"
 | .law_=>"law"
abbrev st:Fx→Stmt
 | .is_number_=>top 13
 | .is_number_within_=>top 14
 | .fits_=>top 15
 | .fits_text_=>top 16
 | .is_sign_=>top 17
 | .fits_list_=>top 18
 | .fits_pair_=>top 19
 | .fits_choice_=>top 20
 | .show_value_=>top 23
 | .show_fitting_=>top 24
 | .f_law_nth=>top 26
 | .f_law_pool=>top 27
 | .f_law_take=>top 28
 | .f_law_shape=>top 29
 | .f_law_deep=>top 30
 | .f_law_signs=>top 31
 | .f_law_value=>top 32
 | .f_law_worth=>top 33
 | .f_law_kinds=>top 34
 | .f_law_odd=>top 35
 | .f_law_spoilt=>top 36
 | .f_law_refused=>top 37
 | .law_=>top 38
abbrev ps:Fx→List Str
 | .is_number_=>["thing"]
 | .is_number_within_=>["thing", "low", "high"]
 | .fits_=>["s", "thing"]
 | .fits_text_=>["s", "thing"]
 | .is_sign_=>["number"]
 | .fits_list_=>["s", "thing"]
 | .fits_pair_=>["s", "thing"]
 | .fits_choice_=>["s", "thing"]
 | .show_value_=>["s", "value"]
 | .show_fitting_=>["value"]
 | .f_law_nth=>["script", "k"]
 | .f_law_pool=>["script", "k"]
 | .f_law_take=>["pool", "many"]
 | .f_law_shape=>["pool", "deep"]
 | .f_law_deep=>["pool"]
 | .f_law_signs=>[]
 | .f_law_value=>["pool", "s"]
 | .f_law_worth=>["value"]
 | .f_law_kinds=>["e"]
 | .f_law_odd=>["pool", "s", "value"]
 | .f_law_spoilt=>["pool", "s", "value"]
 | .f_law_refused=>["s", "bad"]
 | .law_=>["script"]
abbrev ns:Fx→List Str
 | .is_number_=>["thing"]
 | .is_number_within_=>["thing", "low", "high"]
 | .fits_=>["s", "thing", "kind"]
 | .fits_text_=>["s", "thing", "sign"]
 | .is_sign_=>["number"]
 | .fits_list_=>["s", "thing", "part"]
 | .fits_pair_=>["s", "thing"]
 | .fits_choice_=>["s", "thing"]
 | .show_value_=>["s", "value"]
 | .show_fitting_=>["value"]
 | .f_law_nth=>["script", "k", "cell"]
 | .f_law_pool=>["script", "k", "cell"]
 | .f_law_take=>["pool", "many", "rest"]
 | .f_law_shape=>["pool", "deep", "kind", "low", "many"]
 | .f_law_deep=>["pool", "s", "k", "some"]
 | .f_law_signs=>[]
 | .f_law_value=>["pool", "s", "signs", "many", "most", "k"]
 | .f_law_worth=>["value"]
 | .f_law_kinds=>["e", "kinds"]
 | .f_law_odd=>["pool", "s", "value", "short", "at", "odd", "more", "some", "truth"]
 | .f_law_spoilt=>["pool", "s", "value", "at"]
 | .f_law_refused=>["s", "bad", "caught", "e"]
 | .law_=>["script", "k", "pool", "s", "value", "text"]
def body (Φ:Fx→Fn):Fx→Fn
 | .is_number_=>fnOf 1 1 (m_is_number)
 | .is_number_within_=>fnOf 3 3 (m_is_number_within (Φ .is_number_))
 | .fits_=>fnOf 2 3 (m_fits (Φ .fits_choice_) (Φ .fits_pair_) (Φ .fits_list_) (Φ .fits_text_) (Φ .is_number_within_))
 | .fits_text_=>fnOf 2 3 (m_fits_text (Φ .is_sign_))
 | .is_sign_=>fnOf 1 1 (m_is_sign)
 | .fits_list_=>fnOf 2 3 (m_fits_list (Φ .fits_))
 | .fits_pair_=>fnOf 2 2 (m_fits_pair (Φ .fits_))
 | .fits_choice_=>fnOf 2 2 (m_fits_choice (Φ .fits_) (Φ .is_number_within_))
 | .show_value_=>fnOf 2 2 (m_show_value (Φ .show_fitting_) (Φ .fits_))
 | .show_fitting_=>fnOf 1 1 (m_show_fitting (Φ .show_fitting_))
 | .f_law_nth=>fnOf 2 3 (m_f_law_nth)
 | .f_law_pool=>fnOf 2 3 (m_f_law_pool_v3 (Φ .f_law_nth))
 | .f_law_take=>fnOf 2 3 (m_f_law_take_v8)
 | .f_law_shape=>fnOf 2 5 (m_f_law_shape_v8 (Φ .f_law_shape) (Φ .f_law_take))
 | .f_law_deep=>fnOf 1 4 (m_f_law_deep_v2 (Φ .f_law_take) (Φ .f_law_shape))
 | .f_law_signs=>fnOf 0 0 (m_f_law_signs_v2)
 | .f_law_value=>fnOf 2 6 (m_f_law_value_v9 (Φ .f_law_value) (Φ .f_law_take) (Φ .f_law_signs))
 | .f_law_worth=>fnOf 1 1 (m_f_law_worth (Φ .f_law_worth))
 | .f_law_kinds=>fnOf 1 2 (m_f_law_kinds_v3)
 | .f_law_odd=>fnOf 3 9 (m_f_law_odd_v3 (Φ .f_law_take) (Φ .f_law_value))
 | .f_law_spoilt=>fnOf 3 4 (m_f_law_spoilt_v6 (Φ .f_law_odd) (Φ .f_law_take) (Φ .f_law_spoilt))
 | .f_law_refused=>fnOf 2 4 (m_f_law_refused_v5 (Φ .f_law_kinds) (Φ .show_value_))
 | .law_=>fnOf 1 6 (m_law_K66 (Φ .show_value_) (Φ .f_law_spoilt) (Φ .f_law_refused) (Φ .f_law_worth) (Φ .f_law_value) (Φ .f_law_deep) (Φ .f_law_pool))
def run:Nat→Fx→Fn
 | 0=>fun _ _ _=>none
 | n + 1=>body (run n)
structure Md (K:PySem.W.Frag) (mg:Str→Option Value) (A:Fx→Addr) (fd:Fx→FuncData):Prop where
 fn:∀x,Fun K (nm x) (nm x) (st x) (A x) (fd x)
 mgs:∀x,mg (nm x)=some (.ref (A x))
 bd:∀x,Binds K (fd x) (ps x) []
 z_ValueError:mg "ValueError" = none
 z_bool:mg "bool" = none
 z_int:mg "int" = none
 z_isinstance:mg "isinstance" = none
 z_len:mg "len" = none
 z_list:mg "list" = none
 z_max:mg "max" = none
 z_min:mg "min" = none
 z_ord:mg "ord" = none
 z_range:mg "range" = none
 z_str:mg "str" = none
 z_tuple:mg "tuple" = none
 g_FIRST_SIGN:∃tk,mg "FIRST_SIGN" = some (.int 32 tk)
 g_LAST_SIGN:∃tk,mg "LAST_SIGN" = some (.int 126 tk)
 g_PERCENT_SIGN:∃tk,mg "PERCENT_SIGN" = some (.int 37 tk)
 g_QUOTE:∃tk,mg "QUOTE" = some (.str "\"" tk)
 qq:Quo K mg
 xm:∃(P:Addr) (ca:Str→Addr),XM K mg P ca∧True∧∀n∈(["NoValue"]:List Str),XN0 K (ca n)
abbrev kd:Fx→Kd
 | .is_number_=>.pl
 | .is_number_within_=>.pl
 | .fits_=>.pl
 | .fits_text_=>.pl
 | .is_sign_=>.pl
 | .fits_list_=>.pl
 | .fits_pair_=>.pl
 | .fits_choice_=>.pl
 | .show_value_=>.ex
 | .show_fitting_=>.pl
 | .f_law_nth=>.pl
 | .f_law_pool=>.pl
 | .f_law_take=>.pl
 | .f_law_shape=>.pl
 | .f_law_deep=>.pl
 | .f_law_signs=>.pl
 | .f_law_value=>.pl
 | .f_law_worth=>.pl
 | .f_law_kinds=>.pl
 | .f_law_odd=>.pl
 | .f_law_spoilt=>.pl
 | .f_law_refused=>.pl
 | .law_=>.pl
section
variable {P:Program} {w:World} {K:PySem.W.Frag} {mg:Str→Option Value} {base:Heap} {A:Fx→Addr} {fd:Fx→FuncData} {n:Nat}
theorem okK_as {a:Kd} (k:Kd) {P:Program} {w:World} {K:PySem.W.Frag} {mg:Str→Option Value} {base:Heap} {n:Nat} {fa:Addr} {fd:FuncData} {ps:List Str} {f:Fn} (h:okK a P w K mg base n fa fd ps f) (e:a=k):okK k P w K mg base n fa fd ps f:=e ▸ h
section
variable {X:Cx} {A:Fx→Addr} {fd:Fx→FuncData} {n k:Nat} {x:Fx} {s:Str} {e:Expr} {es:List Expr} {f:M (List D)} {p pos:Pos} {E:L2.St→XK}
theorem cCex (M:Md X.K X.mg A fd) (ih:∀x,okK (kd x) X.prog X.w X.K X.mg X.base k (A x) (fd x) (ps x) (run n x)) (hr:Room k X.A) (ha:PA X (e :: es) (RA X.K f)) (hk:kd x = .ex) (hs:nm x=s) (hg:Gl X s) (h1:isStar e=false) (h2:noStars es=true) (hd:(s == ("__debug__" : Str))=false):PE X (.Call (.Name s p) (e :: es) [] pos) (RE X.K (fCall (okFn (run n x)) f)):=by subst hs;exact fe_callP (calmF (okK_as .ex (ih x) hk)) hr hg (M.mgs x) (Fun.kp (M.fn x)) (M.bd x) ha hd h1 h2
theorem cP (M:Md X.K X.mg A fd) (ih:∀x,okK (kd x) X.prog X.w X.K X.mg X.base k (A x) (fd x) (ps x) (run n x)) (hr:Room k X.A) (ha:PA X (e :: es) (RA X.K f)) (hk:kd x = .pl) (hs:nm x=s) (hg:Gl X s) (h1:isStar e=false) (h2:noStars es=true) (hd:(s == ("__debug__" : Str))=false):PE X (.Call (.Name s p) (e :: es) [] pos) (RE X.K (fCall (run n x) f)):=by subst hs;exact fe_callP (okK_as .pl (ih x) hk) hr hg (M.mgs x) (Fun.kp (M.fn x)) (M.bd x) ha hd h1 h2
theorem xex (M:Md X.K X.mg A fd) (ih:∀x,okK (kd x) X.prog X.w X.K X.mg X.base k (A x) (fd x) (ps x) (run n x)) (hr:Room k X.A) (hp:PassesS (CX1 true X.prog X.w) X E) (ha:PA X (e :: es) (RA X.K f)) (hk:kd x = .ex) (hs:nm x=s) (hg:Gl X s) (h1:isStar e=false) (h2:noStars es=true) (hd:(s == ("__debug__" : Str))=false):PE X (.Call (.Name s p) (e :: es) [] pos) (RX X.K E (fCall (run n x) f)):=by subst hs;exact fx_call (okK_as .ex (ih x) hk) hr hg (M.mgs x) (Fun.kp (M.fn x)) (M.bd x) hp ha hd h1 h2
end
seal PA PE PSs PS PT PO PW PIf PI PG PPf PH
theorem sc (x:Fx):FnScope (ns x) (ps x) (defScope (st x)):=by
 cases x <;> exact ⟨rfl,rfl,rfl,by decide +kernel,rfl,by decide +kernel,by decide +kernel⟩
local macro_rules | `(tactic| clear 30 $t)=>`(tactic| with_reducible refine (?_ : $t))
theorem step (M:Md K mg A fd) (ih:∀x,okK (kd x) P w K mg base (n + 2) (A x) (fd x) (ps x) (run n x)) (y:Fx):okK (kd y) P w K mg base (n + 2 + 1) (A y) (fd y) (ps y) (run (n + 1) y):=by
 obtain ⟨_,g_FIRST_SIGN⟩:=M.g_FIRST_SIGN
 obtain ⟨_,g_LAST_SIGN⟩:=M.g_LAST_SIGN
 obtain ⟨_,g_PERCENT_SIGN⟩:=M.g_PERCENT_SIGN
 obtain ⟨P',ca,x,xt,x0⟩:=M.xm
 obtain ⟨_,g_QUOTE⟩:=M.g_QUOTE
 have sy:=sc y
 have nd:=sy.nd
 have mf:=M.fn y
 cases y <;> first | (clear 30 (okK .pl ..);refine run_ok (g:=fnOf _ _ _) rfl (fn_ok2 rfl rfl mf sy (fun cdv A' outer s H E hr=>?_))) | (refine run_ok (g:=fnOf 0 0 (m_f_law_signs_v2)) rfl (fn_ok2 rfl rfl mf sy (fun cdv A' outer s H E hr=>?_))) | (clear 30 (okK .ex ..);refine runX_ok (g:=fnOf _ _ _) rfl (fnX_ok2 rfl rfl mf sy (fun cdv A' outer s H E hr hp hq ho=>?_)))
 all_goals repeat' first
  | (clear 30 (PA ..);first
    | refine @fa_consP _ _ _ _ _ ?_ ?_ rfl
    | exact fa_nil
    | refine @fa_consP _ _ _ _ _ fe_dic ?_ rfl)
  | (clear 30 (PE ..);first
    | (clear 30 (PE _ (.Name ..) ..);first
      | (clear 30 (PE _ _ (RE _ (fVar _)));exact (fe_var _))
      | (clear 30 (PE _ (.Name _ _) (RE _ (fC (.ty _))));exact (fe_ty rfl M.z_str bt_str))
      | (clear 30 (PE _ (.Name _ _) (RE _ (fC (.ty _))));exact (fe_ty rfl M.z_list bt_list))
      | (clear 30 (PE _ (.Name _ _) (RE _ (fC (.ty _))));exact (fe_ty rfl M.z_tuple bt_tuple))
      | (clear 30 (PE _ (.Name _ _) (RE _ (fC (.ty _))));exact (fe_ty rfl M.z_int bt_int))
      | (clear 30 (PE _ _ (RE _ (fC (.str _))));exact (fe_globS rfl g_QUOTE))
      | (clear 30 (PE _ (.Name _ _) (RE _ (fC (.ty _))));exact (fe_ty rfl M.z_bool bt_bool))
      | (clear 30 (PE _ (.Name _ _) (RE _ (fC (.int _))));exact (fe_glob rfl g_FIRST_SIGN))
      | (clear 30 (PE _ (.Name _ _) (RE _ (fC (.int _))));exact (fe_glob rfl g_LAST_SIGN))
      | (clear 30 (PE _ (.Name _ _) (RE _ (fC (.int _))));exact (fe_glob rfl g_PERCENT_SIGN)))
    | (clear 30 (PE _ (.Constant ..) ..);first
      | (clear 30 (PE _ _ (RE _ (fC (.int _))));exact fe_int)
      | (clear 30 (PE _ _ (RE _ (fC (.str _))));exact fe_str)
      | (clear 30 (PE _ _ (RE _ (fC (.bl _))));exact fe_bl)
      | (clear 30 (PE _ _ (RE _ (fC .non)));exact fe_non))
    | (clear 30 (PE _ (.Subscript ..) ..);first
      | (clear 30 (PE _ _ (RE _ (fBin _ _ ixD)));refine fe_ix ix_seq sem_ix ?_ ?_ (fun _ _=>rfl))
      | (clear 30 (PE _ _ (RE _ (fSl _ _ _ sl3D)));refine fe_slice sl3 sem_sl3 ?_ ?_ ?_)
      | (clear 30 (PE _ _ (RE _ (fBin _ _ dgetD)));refine fe_ix ix_dkS sem_dgetS ?_ ?_ (fun _ _=>rfl)))
    | (clear 30 (PE _ (.Call ..) ..);first
      | (clear 30 (PE _ _ (RE _ (fCall (run _ _) _)));refine @cP _ _ _ _ _ _ _ _ _ _ _ _ M ih hr ?_ (by rfl) (by rfl) (by rfl) (by rfl) (by rfl) (by decide))
      | (clear 30 (PE _ _ (RE _ (fB _ lenD)));refine fe_BP call_len sem_len rfl M.z_len bt_len ?_)
      | (clear 30 (PE _ _ (RE _ (fB _ isiD)));refine fe_BP call_isi sem_isi rfl M.z_isinstance bt_isinstance ?_)
      | (clear 30 (PE _ _ (RE _ (fB _ strD)));refine fe_TP call_str_int sem_str rfl M.z_str bt_str ?_)
      | (clear 30 (PE _ _ (RE _ (fB _ minD)));refine fe_BP (call_min2 rfl) sem_min rfl M.z_min bt_min ?_)
      | (clear 30 (PE _ _ (RE _ (joinW _ _)));refine fe_joinW ?_ ?_)
      | (clear 30 (PE _ _ (RE _ (fB _ intD)));refine fe_TP call_int1 sem_int rfl M.z_int bt_int ?_)
      | (clear 30 (PE _ _ (RF _ (fBF _ lstF2)));refine ff_TP (CallR.or call_list_of (call_list_txt rfl)) sem_lst2 rfl M.z_list bt_list ?_)
      | (clear 30 (PE _ _ (RE _ (fB _ tupD)));refine fe_TP call_tuple_of sem_tup rfl M.z_tuple bt_tuple ?_)
      | (clear 30 (PE _ _ (RE _ (fCall (okFn (run _ _)) _)));refine cCex M ih hr ?_ (by rfl) (by rfl) (by rfl) (by rfl) (by rfl) (by decide))
      | (clear 30 (PE _ _ (RE _ (fB _ ordD)));refine fe_BP call_ord sem_ord rfl M.z_ord bt_ord ?_)
      | (clear 30 (PE _ _ (RE _ (fUn _ replD)));refine fe_repl M.qq rfl ?_)
      | (clear 30 (PE _ _ (RE _ (fCall _ fNil)));exact (fe_call0 (okK_as .pl (ih .f_law_signs) rfl) hr rfl (M.mgs .f_law_signs) (Fun.kp (M.fn .f_law_signs)) (M.bd .f_law_signs)))
      | (clear 30 (PE _ _ (RE _ (joinM _ _)));refine fe_join ?_ ?_)
      | (clear 30 (PE _ _ (RF _ (splitM _ _)));refine ff_split ?_ ?_)
      | (clear 30 (PE _ _ (RE _ (bnd _ (isiX ("NoValue" : Str)))));refine fe_isiX (n:="NoValue") x (by decide) rfl M.z_isinstance bt_isinstance rfl ?_)
      | (clear 30 (PE _ _ (RE _ (bnd _ (isiX ("NoText" : Str)))));refine fe_isiX (n:="NoText") x (by decide) rfl M.z_isinstance bt_isinstance rfl ?_)
      | (clear 30 (PE _ _ (RE _ (bnd _ (isiX ("Short" : Str)))));refine fe_isiX (n:="Short") x (by decide) rfl M.z_isinstance bt_isinstance rfl ?_)
      | (clear 30 (PE _ _ (RE _ (bnd _ (isiX ("Broken" : Str)))));refine fe_isiX (n:="Broken") x (by decide) rfl M.z_isinstance bt_isinstance rfl ?_)
      | (clear 30 (PE _ _ (RE _ (bnd _ (isiX ("NoTalk" : Str)))));refine fe_isiX (n:="NoTalk") x (by decide) rfl M.z_isinstance bt_isinstance rfl ?_)
      | (clear 30 (PE _ _ (RE _ (bnd _ (isiX ("NoName" : Str)))));refine fe_isiX (n:="NoName") x (by decide) rfl M.z_isinstance bt_isinstance rfl ?_)
      | (clear 30 (PE _ _ (RE _ (bnd _ (isiX ("NoRow" : Str)))));refine fe_isiX (n:="NoRow") x (by decide) rfl M.z_isinstance bt_isinstance rfl ?_)
      | (clear 30 (PE _ _ (RE _ (bnd _ (isiX _))));refine fe_isiV x rfl M.z_isinstance bt_isinstance rfl M.z_ValueError bt_ValueError ?_)
      | (clear 30 (PE _ _ (RE _ (fB _ maxD)));refine fe_BP (call_max2 rfl) sem_max rfl M.z_max bt_max ?_)
      | (clear 30 (PE _ _ (RX _ _ (fCall (run _ _) _)));refine @xex _ _ _ _ _ _ _ _ _ _ _ _ _ M ih hr hp ?_ (by rfl) (by rfl) (by rfl) (by rfl) (by rfl) (by decide)))
    | (clear 30 (PE _ (.BinOp ..) ..);first
      | (clear 30 (PE _ _ (RE _ (fBin _ _ add5)));refine fe_op op_add5 sem_add5 ?_ ?_)
      | (clear 30 (PE _ _ (RE _ (fBin _ _ subD)));refine fe_op op_sub sem_sub ?_ ?_)
      | (clear 30 (PE _ _ (RE _ (fBin _ _ modD)));refine fe_op op_mod sem_mod ?_ ?_)
      | (clear 30 (PE _ _ (RE _ (fBin _ _ powD)));refine fe_op op_pow sem_pow ?_ ?_)
      | (clear 30 (PE _ _ (RE _ (fBin _ _ mul4)));refine fe_op op_mul4 sem_mul4 ?_ ?_)
      | (clear 30 (PE _ _ (RE _ (fBin _ _ mulW)));refine fe_op op_mulW sem_mulW ?_ ?_)
      | (clear 30 (PE _ _ (RE _ (fBin _ _ fdivW)));refine fe_op op_fdivW sem_fdivW ?_ ?_)
      | (clear 30 (PE _ _ (RF _ _));refine ff_op op_cat sem_catF ?_ ?_))
    | (clear 30 (PE _ (.List ..) ..);first
      | refine @ff_lst _ _ _ _ ?_)
    | (clear 30 (PE _ (.Tuple ..) ..);first
      | (clear 30 (PE _ (.Tuple _ _ _) (RE _ (fTup _)));refine @fe_tup _ _ _ _ _ ?_)
      | (clear 30 (PE _ (.Tuple _ _ _) (RE _ (fTup _)));refine fe_tup ?_))
    | (clear 30 (PE _ (.BoolOp ..) ..);first
      | (clear 30 (PE _ _ (RE _ (fAndV _ _)));refine fe_and ?_ ?_)
      | (clear 30 (PE _ _ (RE _ _));refine fe_one ?_))
    | (clear 30 (PE _ (.Compare ..) ..);first
      | (clear 30 (PE _ (.Compare _ [.Eq] [_] _) (RE _ (fBin _ _ (eqS _))));refine fe_cmp (op_eqD hr.units) (sem_eqS (g:=id)) ?_ ?_ (nomark _))
      | (clear 30 (PE _ _ (RE _ (fChain _ _ _ _ _)));refine fe_chain op_leA op_leA sem_leA sem_leA ?_ ?_ ?_)
      | (clear 30 (PE _ _ (RE _ (fBin _ _ isC)));refine fe_cmp op_isC sem_is ?_ ?_ (nomark _))
      | (clear 30 (PE _ (.Compare _ [.NotEq] [_] _) (RE _ (fBin _ _ (eqS _))));refine fe_cmp (op_neD hr.units) (sem_eqS (g:=fun b=>!b)) ?_ ?_ (nomark _))
      | (clear 30 (PE _ _ (RE _ (fBin _ _ ltA)));refine fe_cmp op_ltA sem_ltA ?_ ?_ (nomark _))
      | (clear 30 (PE _ _ (RE _ (fBin _ _ (inD _))));refine fe_cmp op_in_seq sem_in ?_ ?_ (by with_unfolding_all rfl))
      | (clear 30 (PE _ _ (RE _ (fBin _ _ gtA)));refine fe_cmp op_gtA sem_gtA ?_ ?_ (nomark _))
      | (clear 30 (PE _ _ (RE _ (fBin _ _ isNotC)));refine fe_cmp op_isNotC sem_isNot ?_ ?_ (nomark _)))
    | (clear 30 (PE _ (.UnaryOp ..) ..);first
      | (clear 30 (PE _ _ (RE _ (fNotV _)));refine fe_not ?_)
      | (clear 30 (PE _ _ (RE _ (fUn _ negD)));refine fe_un un_neg sem_neg ?_))
    | (clear 30 (PE _ (.ListComp ..) ..);first
      | (clear 30 (PE _ (.ListComp _ [⟨(.Name ("thing" : Str) _),_,_,0⟩] _ _) (RF _ (fComp _ [] _ _ _ _)));refine ff_comp (cmp_mk ["thing"] [] rfl rfl rfl rfl rfl) rfl ?_ (fun _ _ _ _ _=>?_) (fun _ _ _ _ _=>?_) (fun _ _ _ _ _=>?_))
      | (clear 30 (PE _ (.ListComp _ [⟨(.Name ("k" : Str) _),_,_,0⟩] _ _) (RF _ (fComp _ [0,1] _ _ _ _)));refine ff_comp (cmp_mk ["k"] [(0 , "pool") ,(1 , "deep")] rfl rfl rfl rfl rfl) rfl ?_ (fun _ _ _ _ _=>?_) (fun _ _ _ _ _=>?_) (fun _ _ _ _ _=>?_))
      | (clear 30 (PE _ _ (RF _ (fComp _ [2,0] _ _ _ _)));refine ff_comp (cmp_mk ["k"] [(2 , "signs") ,(0 , "pool")] rfl rfl rfl rfl rfl) rfl ?_ (fun _ _ _ _ _=>?_) (fun _ _ _ _ _=>?_) (fun _ _ _ _ _=>?_))
      | (clear 30 (PE _ (.ListComp _ [⟨(.Name ("k" : Str) _),_,_,0⟩] _ _) (RF _ (fComp _ [0,1] _ _ _ _)));refine ff_comp (cmp_mk ["k"] [(0 , "pool") ,(1 , "s")] rfl rfl rfl rfl rfl) rfl ?_ (fun _ _ _ _ _=>?_) (fun _ _ _ _ _=>?_) (fun _ _ _ _ _=>?_))
      | (clear 30 (PE _ (.ListComp _ [⟨(.Name ("one" : Str) _),_,_,0⟩] _ _) (RF _ (fComp _ [] _ _ _ _)));refine ff_comp (cmp_mk ["one"] [] rfl rfl rfl rfl rfl) rfl ?_ (fun _ _ _ _ _=>?_) (fun _ _ _ _ _=>?_) (fun _ _ _ _ _=>?_)))
    | (clear 30 (PE _ (.Dict ..) ..);first
      | exact fe_dic
      | refine fe_disp ?_)
    | (clear 30 (PE _ _ (RE _ (fPure _)));refine fe_pure ?_))
  | (clear 30 (PSs ..);first
    | refine @fss_cons _ _ _ _ _ _ ?_ ?_
    | refine @fss_one _ _ _ _ ?_
    | exact fss_nil
    | refine fss_oneX ?_)
  | (clear 30 (PS ..);first
    | (clear 30 (PS _ (.Return ..) ..);first
      | (clear 30 (PS _ _ (RSg _ (μR _) (retS _)));refine fs_ret ?_)
      | (clear 30 (PS _ _ (RSg _ (μX _ _) (retS (nxD _))));refine fs_retP ?_))
    | (clear 30 (PS _ (.If ..) ..);first
      | refine fs_if ?_ ?_ ?_)
    | (clear 30 (PS _ (.Assign ..) ..);first
      | (clear 30 (PS _ (.Assign [.Name _ _] _ _) (RSg _ _ (setS _ _)));refine fs_set nd rfl (.inl rfl) ?_)
      | (clear 30 (PS _ _ (RSg _ _ (asgS _ _)));refine fs_asg ?_ ?_)
      | (clear 30 (PS _ _ (RSg _ _ (ownS _ _)));refine fs_own nd rfl (.inl rfl) ?_)
      | (clear 30 (PS _ (.Assign [.Name _ _] _ _) (RSg _ _ (setS _ _)));refine fs_set nd rfl (.inr rfl) ?_)
      | (clear 30 (PS _ (.Assign [.Name _ _] _ _) (RSg _ _ (setS _ _)));refine fs_set nd rfl (.inr rfl) ?_)
      | (clear 30 (PS _ _ (RSg _ _ (setS _ (fPure (fComp _ [0,1] _ _ _ _)))));refine fs_setC (cmp_mk ["k"] [(0 , "pool") ,(1 , "s")] rfl rfl rfl rfl rfl) rfl nd rfl rfl ?_ (fun _ _ _ _ _=>?_) (fun _ _ _ _ _=>?_) (fun _ _ _ _ _=>?_)))
    | (clear 30 (PS _ (.For ..) ..);first
      | refine fs_for PassesOwn.never rfl ?_ ?_ ?_)
    | (clear 30 (PS _ (.Raise ..) ..);first
      | (clear 30 (PS _ _ (RSg _ (μX _ _) (raise0 ("NoValue" : Str) _)));refine rsx_g (fs_raise0 (n:="NoValue") x (by decide) rfl (x0 "NoValue" (by decide)) rfl hq rfl ?_)))
    | (clear 30 (PS _ (.Expr ..) ..);first
      | (clear 30 (PS _ _ (RSg _ _ (ownM _ app1 _)));refine fs_appOwnP _ ?_)
      | (clear 30 (PS _ _ (RSX _ _ (dropX _)));refine fs_exprX ?_))
    | (clear 30 (PS _ (.Try ..) ..);first
      | (clear 30 (PS _ _ (RSg _ (μR _) (tryS _ _)));refine fs_try (qx:=true) x muR_ok rfl rfl (fun pn E hp=>?_) ?_))
    | refine fs_ret ?_
    | refine fs_retP ?_)
  | (clear 30 (PT ..);first
    | (clear 30 (PT _ (.Compare ..) ..);first
      | (clear 30 (PT _ (.Compare _ [.Eq] [_] _) (RT _ (fTst (fBin _ _ (eqS _)))));refine ft_cmp (op_eqD hr.units) (sem_eqS (g:=id)) ?_ ?_ (nomark _))
      | (clear 30 (PT _ _ (RT _ (fTst (fBin _ _ gtA))));refine ft_cmp op_gtA sem_gtA ?_ ?_ (nomark _))
      | (clear 30 (PT _ (.Compare _ [.NotEq] [_] _) (RT _ (fTst (fBin _ _ (eqS _)))));refine ft_cmp (op_neD hr.units) (sem_eqS (g:=fun b=>!b)) ?_ ?_ (nomark _))
      | (clear 30 (PT _ _ (RT _ (fTst (fBin _ _ ltA))));refine ft_cmp op_ltA sem_ltA ?_ ?_ (nomark _))
      | (clear 30 (PT _ _ (RT _ (fTst (fBin _ _ isC))));refine ft_cmp op_isC sem_is ?_ ?_ (nomark _)))
    | (clear 30 (PT _ (.UnaryOp ..) ..);first
      | refine ft_not ?_)
    | (clear 30 (PT _ (.BoolOp ..) ..);first
      | refine ft_pw ?_)
    | (clear 30 (PT _ _ (RT _ (fTst _)));refine ft_val ?_))
  | (clear 30 (PO ..);first
    | refine fo_some ?_
    | exact fo_none)
  | (clear 30 (PW ..);first
    | (clear 30 (PW _ (.BoolOp .Or (_ :: _ :: _) _) (RT _ (fOr _ _)));refine fw_or ?_ ?_)
    | (clear 30 (PW _ (.BoolOp .Or [_] _) (RT _ _));refine fw_or1 ?_)
    | (clear 30 (PW _ (.BoolOp .And (_ :: _ :: _) _) (RT _ (fAnd _ _)));refine fw_and ?_ ?_)
    | (clear 30 (PW _ (.BoolOp .And [_] _) (RT _ _));refine fw_and1 ?_))
  | (clear 30 (PIf ..);first
    | exact fif_nil)
  | (clear 30 (PI ..);first
    | (clear 30 (PI _ _ (.Call ..) ..);first
      | refine fi_range1P rfl M.z_range ?_)
    | (clear 30 (PI _ _ _ (RI _ (fItA _)));refine fi_any ?_))
  | (clear 30 (PG ..);first
    | (clear 30 (PG _ (.Name ..) ..);first
      | (clear 30 (PG _ (.Name _ _) (RG _ (putV _)));exact (fg_name nd rfl (.inl rfl)))
      | (clear 30 (PG _ (.Name _ _) (RG _ (putV _)));exact (fg_name (by show List.Nodup [("k" : Str) ,("pool" : Str) ,("s" : Str)] ;decide +kernel) rfl (.inl rfl)))
      | (clear 30 (PG _ (.Name _ _) (RG _ (putV _)));exact (fg_name (by show List.Nodup [("thing" : Str)] ;decide +kernel) rfl (.inl rfl)))
      | (clear 30 (PG _ (.Name _ _) (RG _ (putV _)));exact (fg_name (by show List.Nodup [("k" : Str) ,("pool" : Str) ,("deep" : Str)] ;decide +kernel) rfl (.inl rfl)))
      | (clear 30 (PG _ (.Name _ _) (RG _ (putV _)));exact (fg_name (by show List.Nodup [("k" : Str) ,("signs" : Str) ,("pool" : Str)] ;decide +kernel) rfl (.inl rfl)))
      | (clear 30 (PG _ (.Name _ _) (RG _ (putV _)));exact (fg_name (by show List.Nodup [("one" : Str)] ;decide +kernel) rfl (.inl rfl))))
    | (clear 30 (PG _ (.Subscript ..) ..);first
      | refine fg_subKey ?_ ?_))
  | (clear 30 (PPf ..);first
    | refine fps_cons ?_ ?_
    | exact fps_nil)
  | (clear 30 (PH ..);first
    | (clear 30 (PH _ _ (.ExceptHandler (some (.Name _ _)) (some _) (_ :: _) _ :: _) (RH _ _ _ (hAs _ _ _ _)));refine fh_as x rfl x.pm x.pc (fun _ hn=>x.subP hn) nd rfl rfl (fun y=>?_) ?_)
    | exact fh_nil)
theorem all_ok (M:Md K mg A fd):∀(n:Nat) (x:Fx),okK (kd x) P w K mg base (n + 2) (A x) (fd x) (ps x) (run n x)
 | 0,x=>by cases x <;> exact ⟨fun vs H Q E h=>(by obtain ⟨c,ds,S,_,_,r,S',e,_⟩:=h;cases e),fun A' outer s H args us vs Q E _ _ _ _ h=>(by obtain ⟨c,ds,S,_,_,r,S',e,_⟩:=h;cases e)⟩
 | n + 1,x=>by
   have ih:=all_ok M n
   exact step M ih x
end
abbrev fno (x:Fx) (kV dc pm:Value) (an:Option Addr) (cd ct:Value):FuncData:=PySem.W.fnOf (nm x) (nm x) (defArgs (st x)) (defBody (st x)) (defScope (st x)) .none kV dc pm an cd ct
structure At (K:PySem.W.Frag) (x:Fx) (f:Addr) (fd:FuncData):Prop where
 a:PySem.W.nsIn K mainGlobals (nm x)=some (some (.ref f))
 fn:Fun K (nm x) (nm x) (st x) f fd
 bd:Binds K fd (ps x) []
 eq:∃kV dc pm an cd ct,fd=fno x kV dc pm an cd ct
theorem at_mk {K:PySem.W.Frag} {x:Fx} {f:Addr} {od an:Option Addr} {sl:Array (Option Value)} {oc kV dc pm cd ct:Value} (a:PySem.W.nsIn K mainGlobals (nm x)=some (some (.ref f))) (l:K.lookup f=some ⟨oc,od,.func (fno x kV dc pm an cd ct),sl⟩) (c:PySem.W.codeIn K cd (nm x)=true) (k:PySem.W.keepIn K (.ref f)=true):∃p:Addr×FuncData,At K x p.1 p.2:=by
 refine ⟨(f,fno x kV dc pm an cd ct),a,fun_mk (st:=st x) l c k,(fun_mk (st:=st x) l c k).binds (ps:=ps x) fun _ _ _ _ _ _ us hl=>?_,_,_,_,_,_,_,rfl⟩
 cases x <;> (rcases us with _ | ⟨_,_ | ⟨_,_ | ⟨_,us⟩⟩⟩ <;> first | (cases hl;done) | rfl | (cases us;rfl;cases hl))
theorem xm_all {K:PySem.W.Frag} {h:Heap} {mg:Str→Option Value} {P c1 c2 c3 c4 c5 c6 c7:Addr} (X:K.In h) (G:h.Ns mainGlobals mg) (p:PySem.W.nsIn K mainGlobals "ParleyError" = some (some (.ref P))) (a1:PySem.W.nsIn K mainGlobals "NoValue" = some (some (.ref c1))) (a2:PySem.W.nsIn K mainGlobals "Short" = some (some (.ref c2))) (a3:PySem.W.nsIn K mainGlobals "Broken" = some (some (.ref c3))) (a4:PySem.W.nsIn K mainGlobals "NoTalk" = some (some (.ref c4))) (a5:PySem.W.nsIn K mainGlobals "NoName" = some (some (.ref c5))) (a6:PySem.W.nsIn K mainGlobals "NoText" = some (some (.ref c6))) (a7:PySem.W.nsIn K mainGlobals "NoRow" = some (some (.ref c7))) (q:xmAll K P [c1,c2,c3,c4,c5,c6,c7]=true) (nd:[P,c1,c2,c3,c4,c5,c6,c7].Nodup) (n1:noInit K c1=true):∃(P:Addr) (ca:Str→Addr),XM K mg P ca∧True∧∀n∈(["NoValue"]:List Str),XN0 K (ca n):=by
 have x:=xm_mk X G p a1 a2 a3 a4 a5 a6 a7 q nd
 refine ⟨P,_,x,trivial,?_⟩
 intro n hn
 simp only [List.mem_cons,List.not_mem_nil,or_false] at hn
 rcases hn with rfl
 ·exact xn0_of n1
theorem fin_mk {K:PySem.W.Frag} {h:Heap} {mg:Str→Option Value} {fa:Addr} (X:K.In h) (G:h.Ns mainGlobals mg) (hmg:mg "law" = some (.ref fa)) (H:∀x:Fx,∃p:Addr×FuncData,At K x p.1 p.2) (z_ValueError:PySem.W.nsIn K mainGlobals "ValueError" = some none) (z_bool:PySem.W.nsIn K mainGlobals "bool" = some none) (z_int:PySem.W.nsIn K mainGlobals "int" = some none) (z_isinstance:PySem.W.nsIn K mainGlobals "isinstance" = some none) (z_len:PySem.W.nsIn K mainGlobals "len" = some none) (z_list:PySem.W.nsIn K mainGlobals "list" = some none) (z_max:PySem.W.nsIn K mainGlobals "max" = some none) (z_min:PySem.W.nsIn K mainGlobals "min" = some none) (z_ord:PySem.W.nsIn K mainGlobals "ord" = some none) (z_range:PySem.W.nsIn K mainGlobals "range" = some none) (z_str:PySem.W.nsIn K mainGlobals "str" = some none) (z_tuple:PySem.W.nsIn K mainGlobals "tuple" = some none) {tk_FIRST_SIGN:Tok} (g_FIRST_SIGN:PySem.W.nsIn K mainGlobals "FIRST_SIGN" = some (some (.int 32 tk_FIRST_SIGN))) {tk_LAST_SIGN:Tok} (g_LAST_SIGN:PySem.W.nsIn K mainGlobals "LAST_SIGN" = some (some (.int 126 tk_LAST_SIGN))) {tk_PERCENT_SIGN:Tok} (g_PERCENT_SIGN:PySem.W.nsIn K mainGlobals "PERCENT_SIGN" = some (some (.int 37 tk_PERCENT_SIGN))) {tk_QUOTE:Tok} (g_QUOTE:PySem.W.nsIn K mainGlobals "QUOTE" = some (some (.str "\"" tk_QUOTE))) (n0:tk_QUOTE≠0) (xm:∃(P:Addr) (ca:Str→Addr),XM K mg P ca∧True∧∀n∈(["NoValue"]:List Str),XN0 K (ca n)):∃(A:Fx→Addr) (fd:Fx→FuncData),Md K mg A fd∧A .law_=fa∧∀(s:Shared) (u:Value),BindsTo s (fd .law_) ⟨[u],[]⟩ [("script",u)]:=by
 obtain ⟨F,hF⟩:=Classical.axiomOfChoice H
 refine ⟨fun x=>(F x).1,fun x=>(F x).2,{ fn:=fun x=>(hF x).fn,mgs:=fun x=>PySem.W.mg_of X G (hF x).a,bd:=fun x=>(hF x).bd,xm:=xm,z_ValueError:=PySem.W.mg_none_of X G z_ValueError,z_bool:=PySem.W.mg_none_of X G z_bool,z_int:=PySem.W.mg_none_of X G z_int,z_isinstance:=PySem.W.mg_none_of X G z_isinstance,z_len:=PySem.W.mg_none_of X G z_len,z_list:=PySem.W.mg_none_of X G z_list,z_max:=PySem.W.mg_none_of X G z_max,z_min:=PySem.W.mg_none_of X G z_min,z_ord:=PySem.W.mg_none_of X G z_ord,z_range:=PySem.W.mg_none_of X G z_range,z_str:=PySem.W.mg_none_of X G z_str,z_tuple:=PySem.W.mg_none_of X G z_tuple,qq:=⟨tk_QUOTE,n0,g_QUOTE,PySem.W.mg_of X G g_QUOTE⟩,g_FIRST_SIGN:=⟨tk_FIRST_SIGN,PySem.W.mg_of X G g_FIRST_SIGN⟩,g_LAST_SIGN:=⟨tk_LAST_SIGN,PySem.W.mg_of X G g_LAST_SIGN⟩,g_PERCENT_SIGN:=⟨tk_PERCENT_SIGN,PySem.W.mg_of X G g_PERCENT_SIGN⟩,g_QUOTE:=⟨tk_QUOTE,PySem.W.mg_of X G g_QUOTE⟩ },?_,fun s u=>?_⟩
 ·have e:=hmg.symm.trans (PySem.W.mg_of X G (hF .law_).a)
  cases e
  rfl
 ·obtain ⟨_,_,_,_,_,_,e⟩:=(hF .law_).eq
  show BindsTo s (F .law_).2 _ _
  rw [e]
  exact .of_eq rfl
theorem walk {l:PySem.W.OpenLaw} {q:Program} {loose:List Str} {XP:(Str→Option Value)→Heap→Prop} {as:List Addr} {sz tk:Nat} {d:DefRec} {K:Params→PySem.W.Frag} (m:Nat) (hm:Room (m + 2) callerA) (hn:l.most=some 63) (hdf:d.params.defaults=[])
 (hE:∀P,as=(K P).map (·.1)) (hT:∀P:Params,TKof (K P)≤tk) (lt:∀ns:List Int,ns.length≤63→∃S',run m .law_ [.scr ns] []=some (.bl true,S'))
 (F:∀(w:World) (mg:Str→Option Value) (fa:Addr) (h:Heap),(K w.params).In h→h.Ns mainGlobals mg→mg d.name=some (.ref fa)→
   ∃(A:Fx→Addr) (fd:Fx→FuncData),Md (K w.params) mg A fd∧A .law_=fa∧∀(s:Shared) (u:Value),BindsTo s (fd .law_) ⟨[u],[]⟩ [("script",u)]) :
 PySem.W.WalkX q loose XP (PySem.W.X.obsZ as) (PySem.W.X.valZ K sz tk) l.row.toRowW d [] (fun f vs=>PySem.call f vs):=
 L2.walk_ofX (n:=63) (k:=m + 2) (x:="script") (CX:=fun _=>CX0) (sp:=fun w=>spF (K w.params) (run m .law_)) hn (by decide) hdf hm (fun w s Y=>by obtain ⟨_,h2,_,h4⟩:=PySem.W.X.z_facts hE Y;exact ⟨h2,by rw [h4];exact hT _⟩)
  (fun w mg fa h KX G hmg=>by obtain ⟨A,fd,M,e,b⟩:=F w mg fa h KX G hmg;subst e;exact ⟨fd .law_,b,fun base _ _=>all_ok M m .law_⟩)
  (fun w H a ns hl hO hS=>by obtain ⟨S',e⟩:=lt ns hl;exact law_start hO hS e) fun _ _ _ _ _ z=>z
theorem num_all (k:Nat):IsNumOk (run (k + 1) .is_number_):=fun d h=>is_number_ok h
theorem within_all (k:Nat):WithinOk (run (k + 2) .is_number_within_):=within_ok (num_all k)
theorem sign_all (k:Nat):SignOk (run (k + 1) .is_sign_):=is_sign_ok
theorem text_all (k:Nat):TextOk (run (k + 2) .fits_text_):=fits_text_ok (sign_all k)
theorem fits_all:∀(n k:Nat),2 * n + 3≤k→FitsOk (run k .fits_) n
 | 0,k,_=>fun s hs=>absurd s.depth_pos (by omega)
 | n + 1,k,h=>by
   obtain ⟨j,rfl⟩:∃j,k=j + 4:=⟨k - 4,by omega⟩
   have ih:=fits_all n (j + 2) (by omega)
   exact fits_ok (fits_choice_ok ih (within_all j)) (fits_pair_ok ih) (fits_list_ok ih) (text_all (j + 1)) (within_all (j + 1))
theorem take_all (k:Nat):PTakeOk (run (k + 1) .f_law_take):=ptake6_ok
theorem sh_all:∀(n k:Nat),n + 3≤k→PSh6 (run k .f_law_shape) n
 | 0,k,_=>fun d k r S hd=>absurd hd (Nat.not_lt_zero _)
 | n + 1,k,h=>by
   obtain ⟨j,rfl⟩:∃j,k=j + 2:=⟨k - 2,by omega⟩
   exact psh6_ok (take_all j) (.inr (sh_all n (j + 1) (by omega)))
theorem val_all:∀(n k:Nat),n + 3≤k→PVal6 (run k .f_law_value) n
 | 0,k,_=>fun s k r S hs=>absurd s.depth_pos (by omega)
 | n + 1,k,h=>by
   obtain ⟨j,rfl⟩:∃j,k=j + 2:=⟨k - 2,by omega⟩
   exact pval6_ok (take_all j) psgs_ok (.inr (val_all n (j + 1) (by omega)))
theorem show_all:∀(n k:Nat),n + 1≤k→ShowOk (run k .show_fitting_) n
 | 0,k,_=>ShowOk.zero
 | n + 1,k,h=>by
   obtain ⟨j,rfl⟩:∃j,k=j + 1:=⟨k - 1,by omega⟩
   exact show_ok (show_all n j (by omega))
theorem worth_all:∀(n k:Nat),n + 1≤k→ShowOk (run k .f_law_worth) n
 | 0,k,_=>ShowOk.zero
 | n + 1,k,h=>by
   obtain ⟨j,rfl⟩:∃j,k=j + 1:=⟨k - 1,by omega⟩
   exact worth_ok (worth_all n j (by omega))
theorem sp_all:∀(n k:Nat),2 * n + 10≤k→PSp6 (run k .f_law_spoilt) n
 | 0,k,_=>fun s v k r S hs=>absurd s.depth_pos (by omega)
 | n + 1,k,h=>by
   obtain ⟨j,rfl⟩:∃j,k=j + 3:=⟨k - 3,by omega⟩
   exact psp6_ok (podd6_ok (take_all j) (val_all n (j + 1) (by omega))) (take_all (j + 1)) (sp_all n (j + 2) (by omega))
theorem sv_all (k:Nat) (h:40≤k):SVX (run k .show_value_) 6:=by
 obtain ⟨j,rfl⟩:∃j,k=j + 1:=⟨k - 1,by omega⟩
 exact svx_ok (show_all 6 j (by omega)) (fits_all 6 j (by omega))
theorem law_true (ns:List Int) (h:ns.length≤63):∃S',run 100 .law_ [.scr ns] []=some (.bl true,S'):=by
 obtain ⟨r,S',e,p⟩:=k66_ok (sv_all 99 (by decide)) (sp_all 6 99 (by decide)) (ref6_ok kinds6_ok (sv_all 98 (by decide))) (worth_all 6 99 (by decide)) (val_all 6 99 (by decide)) (pdeep6_ok (take_all 97) (sh_all 3 98 (by decide))) (ppool6_ok pnth_ok) h
 subst p
 exact ⟨S',e⟩
end K66
def PySem.W.Fast.tw12983064741666300029:Unit:=()
def PySem.W.Fast.tw261857337181486912:Unit:=()
def PySem.W.Fast.tw2700983904774202027:Unit:=()
def PySem.W.Fast.tw137332951733378285:Unit:=()
def PySem.W.Fast.tw1429618456132333066:Unit:=()
def PySem.W.Fast.tw16258221554487376595:Unit:=()
def PySem.W.Fast.tw8434434211158421982:Unit:=()
def PySem.W.Fast.tw13380619751148350091:Unit:=()
def PySem.W.Fast.tw3818042357845358053:Unit:=()
def PySem.W.Fast.tw7800058556538654910:Unit:=()
def PySem.W.Fast.tw13032728668764623038:Unit:=()
def PySem.W.Fast.tw15066690179646792324:Unit:=()
def PySem.W.Fast.tw16757278902856853461:Unit:=()
def PySem.W.Fast.tw12610370924568452239:Unit:=()
def PySem.W.Fast.tw3370230687491807328:Unit:=()
def PySem.W.Fast.tw11808892917202368799:Unit:=()
def PySem.W.Fast.tw7624982464613437639:Unit:=()
def PySem.W.Fast.tw16813498741165755768:Unit:=()
def PySem.W.Fast.tw273920540169107297:Unit:=()
def PySem.W.Fast.tw13130843488310799399:Unit:=()
def PySem.W.Fast.tw292835009858656408:Unit:=()
def PySem.W.Fast.tw2320984652561664124:Unit:=()
def PySem.W.Fast.tw7850314327210416504:Unit:=()
def PySem.W.Fast.tw10087261812783086725:Unit:=()
def PySem.W.Fast.tw11852153706869809763:Unit:=()
def PySem.W.Fast.tw16931183438780070011:Unit:=()
def PySem.W.Fast.tw502581560597428736:Unit:=()
def PySem.W.Fast.tw6343143656460142243:Unit:=()
def PySem.W.Fast.tw5625021010903446182:Unit:=()
def PySem.W.Fast.tw10346436167991783189:Unit:=()
def PySem.W.Fast.tw17839746078608340614:Unit:=()
def PySem.W.Fast.tw8623959273182000112:Unit:=()
def PySem.W.Fast.tw12178904468307269472:Unit:=()
def PySem.W.Fast.tw18090942864577068555:Unit:=()
def PySem.W.Fast.tw10412435085709195036:Unit:=()
def PySem.W.Fast.tw14132196663906121438:Unit:=()
def PySem.W.Fast.tw16924702693249900946:Unit:=()
def PySem.W.Fast.tw6865821728068917066:Unit:=()
def PySem.W.Fast.tw2420244587598440695:Unit:=()
def PySem.W.Fast.tw8607509658844884923:Unit:=()
def PySem.W.Fast.tw13056927971990518644:Unit:=()
def PySem.W.Fast.tw4163272884106421700:Unit:=()
def PySem.W.Fast.tw9718998896284390157:Unit:=()
open PySem PySem.W PyProof.Rows
set_option maxRecDepth 100000 in
set_option maxHeartbeats 0 in
theorem PySem.Challenge.cw_wireparley_k66_values_that_do_not_fit_holds : PySem.Challenge.rw_wireparley_k66_values_that_do_not_fit.Holds := by
 w_on;o_law;z_head;(case hw=>w_witness2)
 k_fill
 refine K66.walk (l:=PySem.Challenge.rw_wireparley_k66_values_that_do_not_fit) 100 ⟨rfl,by decide,by decide⟩ rfl rfl (fun _=>rfl) ?T K66.law_true ?F
 case T=>
  intro P
  refine' L2.tkof_le ?e ?l
  (case e=>k_is)
  (case l=>decide)
 case F=>
  intro w mg fa h KX G hmg
  refine' K66.fin_mk KX G hmg ?H ?z_ValueError ?z_bool ?z_int ?z_isinstance ?z_len ?z_list ?z_max ?z_min ?z_ord ?z_range ?z_str ?z_tuple ?g_FIRST_SIGN ?g_LAST_SIGN ?g_PERCENT_SIGN ?g_QUOTE ?n0 ?xm
  (case H=>intro x;cases x <;> (refine' K66.at_mk ?a ?l ?c ?k;(case a=>k_is);(case l=>k_is);(case c=>k_is);(case k=>k_is)))
  (case z_ValueError=>k_is)
  (case z_bool=>k_is)
  (case z_int=>k_is)
  (case z_isinstance=>k_is)
  (case z_len=>k_is)
  (case z_list=>k_is)
  (case z_max=>k_is)
  (case z_min=>k_is)
  (case z_ord=>k_is)
  (case z_range=>k_is)
  (case z_str=>k_is)
  (case z_tuple=>k_is)
  (case g_FIRST_SIGN=>k_is)
  (case g_LAST_SIGN=>k_is)
  (case g_PERCENT_SIGN=>k_is)
  (case g_QUOTE=>k_is)
  (case n0=>decide)
  (case xm=>refine' K66.xm_all KX G ?x_p ?x_a1 ?x_a2 ?x_a3 ?x_a4 ?x_a5 ?x_a6 ?x_a7 ?x_q ?x_nd ?x_n1;(case x_p=>k_is);(case x_a1=>k_is);(case x_a2=>k_is);(case x_a3=>k_is);(case x_a4=>k_is);(case x_a5=>k_is);(case x_a6=>k_is);(case x_a7=>k_is);(case x_q=>kernel_rfl);(case x_nd=>decide);(case x_n1=>kernel_rfl))
