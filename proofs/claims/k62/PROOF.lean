import PyProof.Rows.All
import Wide.All
import OpenK.AllK
import Wide.FinOn
import Lean
import PyProof.EqAt
import PyProof.EqKinds
import PyProof.TupleCall
import KE.KLam
import PyProof.NeKinds
import PyProof.ListMulRoad
import PyProof.MaxThree
import PyProof.Rows.StrJoinMade
import PyProof.ListStr
import PyProof.Rows.MinMaxN
import PyProof.Rows.Range3
import PyProof.ListRange
import PyProof.Rows.SetFrom
import PyProof.Rows.StrCase
import PyProof.SumAny
import PyProof.AutoIntG2
import PyProof.AutoListH
import PyProof.EnumStmt
import PyProof.EnumFor
import PyProof.EnumMake
import PyProof.Rows.EnumRows
import PyProof.ConsumeS
import PyProof.Rows.SortWalk
import KE.KDictSum
import PyProof.ZipIter
import KE.KEqDict
import PyProof.ExcClass2
import PyProof.RaisesMany
import PyProof.ExcBaseAll.ValueError
import PyProof.RulesDel
import PyProof.RulesAs
import PyProof.ExcArgs
import PyProof.StrReplace2
import PyProof.StrOps
import PyProof.StrCalls2
import PyProof.StrLawsReplace
import PyProof.Rows.StrWeight2
import PyProof.Rows.StrSplitJoin
import PyProof.Rows.StrItems
import KE.KIntText
import PyProof.Rows.StrNews2
import PyProof.Rows.StrRules
import OpenK.KCell
import PyProof.StrLawsIn
import PyProof.Rows.StrClose
import KE.IntTextLaws
import PyProof.StrLawsFrom
import PySem.Challenge.RW_wireparley_k62_values_written
set_option bootstrap.genMatcherCode false
set_option genSizeOf false
noncomputable section
set_option Elab.async false
set_option linter.all false
set_option maxRecDepth 100000
namespace L2
open PySem PySem.Spec PyProof.Rows
abbrev Key:=Sum Int Str
def GP:Key→Value→Bool
 | .inl k,v=>Value.isInt k v
 | .inr x,v=>Value.isStrOf x v
def VQ (w:World):Key→Int
 | .inl k=>hashInt k
 | .inr x=>hashStr w x
theorem BZ:∀{k:Key} {v:Value},GP k v=true→(∃i t,k=Sum.inl i∧v=Value.int i t)∨(∃x t,k=Sum.inr x∧v=Value.str x t)
 | .inl i,v,h=>by
   obtain ⟨t,e⟩:=Value.isInt_shape (k:=i) (v:=v) h
   exact .inl ⟨i,t,rfl,e⟩
 | .inr x,v,h=>by
   obtain ⟨t,e⟩:=Value.isStrOf_shape (x:=x) (v:=v) h
   exact .inr ⟨x,t,rfl,e⟩
theorem NR (i:Int) (t:Tok):GP (.inl i) (.int i t)=true:=by simp [GP,Value.isInt]
theorem NS (x:Str) (t:Tok):GP (.inr x) (.str x t)=true:=by simp [GP,Value.isStrOf]
theorem SZ (a b:Int):decide ((Sum.inl a:Key)=Sum.inl b)=(a == b):=by
 by_cases e:a=b
 ·subst e;simp
 ·have h:¬(Sum.inl a:Key)=Sum.inl b:=fun q=>e (Sum.inl.inj q)
  rw [decide_eq_false h]
  exact (beq_eq_false_iff_ne.mpr e).symm
theorem Ta (a b:Str):decide ((Sum.inr a:Key)=Sum.inr b)=decide (a=b):=by
 by_cases e:a=b
 ·subst e;simp
 ·have h:¬(Sum.inr a:Key)=Sum.inr b:=fun q=>e (Sum.inr.inj q)
  rw [decide_eq_false h,decide_eq_false e]
theorem S8 (a:Int) (b:Str):decide ((Sum.inl a:Key)=Sum.inr b)=false:=decide_eq_false (fun q=>nomatch q)
theorem S9 (a:Str) (b:Int):decide ((Sum.inr a:Key)=Sum.inl b)=false:=decide_eq_false (fun q=>nomatch q)
def CS (prog:Program) (w:World):PySem.KeyKind prog w Key where
 is:=GP
 hash:=VQ w
 inj:=fun v a b ha hb=>by
  rcases BZ ha with ⟨i,t,rfl,rfl⟩ | ⟨x,t,rfl,rfl⟩
  ·rcases BZ hb with ⟨j,u,rfl,e⟩ | ⟨y,u,rfl,e⟩
   ·injection e with e1 _;rw [e1]
   ·exact nomatch e
  ·rcases BZ hb with ⟨j,u,rfl,e⟩ | ⟨y,u,rfl,e⟩
   ·exact nomatch e
   ·injection e with e1 _;rw [e1]
 byValue:=fun k v h=>by
  rcases BZ h with ⟨i,t,rfl,rfl⟩ | ⟨x,t,rfl,rfl⟩ <;> rfl
 pyHash:=fun hv h=>by
  rcases BZ hv with ⟨i,t,rfl,rfl⟩ | ⟨x,t,rfl,rfl⟩
  ·exact wpAny_pyHash_int h
  ·exact wpAny_pyHash_str h
 eqBool:=fun hu hv h=>by
  rcases BZ hu with ⟨i,t,rfl,rfl⟩ | ⟨x,t,rfl,rfl⟩
  ·rcases BZ hv with ⟨j,u,rfl,rfl⟩ | ⟨y,u,rfl,rfl⟩
   ·rw [SZ] at h;exact wpAny_eqBool_int h
   ·rw [S8] at h;exact SeqAt.EqAt.int_str i t y u _ _ _ _ h
  ·rcases BZ hv with ⟨j,u,rfl,rfl⟩ | ⟨y,u,rfl,rfl⟩
   ·rw [S9] at h;exact SeqAt.EqAt.str_int x t j u _ _ _ _ h
   ·rw [Ta] at h;exact wpAny_eqBool_str h
 «strs»:=fun k x t v h=>by
  rcases BZ h with ⟨i,u,rfl,e⟩ | ⟨y,u,rfl,e⟩
  ·exact nomatch e
  ·injection e with e1 _
   subst e1
   cases v <;> rfl
theorem LL (prog:Program) (w:World) (i:Int) (t:Tok):(CS prog w).is (.inl i) (.int i t)=true:=NR i t
theorem LM (prog:Program) (w:World) (x:Str) (t:Tok):(CS prog w).is (.inr x) (.str x t)=true:=NS x t
inductive V where
 | non | bl (b:Bool) | int (i:Int) | str (x:Str) | byt (b:Array UInt8) | flt (b:UInt64) | ref (a:Addr) | ty (n:String)
 deriving DecidableEq
def RelV:V→Value→Prop
 | .non,u=>u=Value.none
 | .bl b,u=>u=Value.bool b
 | .int i,u=>∃t,u=Value.int i t
 | .str x,u=>∃t,u=Value.str x t
 | .byt b,u=>∃t,u=Value.bytes b t
 | .flt b,u=>∃t,u=Value.float b t
 | .ref a,u=>u=Value.ref a
 | .ty n,u=>u=Value.type n
abbrev Vals:List V→List Value→Prop:=Paired RelV
theorem Vals.length {xs:List V} {us:List Value} (r:Vals xs us):xs.length=us.length:=Paired.length r
theorem Vals.get:∀{xs:List V} {us:List Value} {i:Nat} {x:V},Vals xs us→xs[i]?=some x→∃u,us[i]?=some u∧RelV x u
 | _,_,_,_,.nil,e=>by simp at e
 | _,_,0,_,.cons r _,e=>by simp at e;subst e;exact ⟨_,rfl,r⟩
 | _,_,i + 1,x,.cons _ t,e=>by
   obtain ⟨u,h1,h2⟩:=Vals.get (i:=i) (x:=x) t (by simpa using e)
   exact ⟨u,by simpa using h1,h2⟩
theorem Vals.append:∀{xs ys:List V} {us ws:List Value},Vals xs us→Vals ys ws→Vals (xs++ys) (us++ws)
 | _,_,_,_,.nil,s=>s
 | _,_,_,_,.cons r t,s=>.cons r (Vals.append t s)
theorem Vals.take:∀{xs:List V} {us:List Value} (n:Nat),Vals xs us→Vals (xs.take n) (us.take n)
 | _,_,0,_=>.nil
 | _,_,_ + 1,.nil=>.nil
 | _,_,n + 1,.cons r t=>.cons r (Vals.take n t)
theorem Vals.drop:∀{xs:List V} {us:List Value} (n:Nat),Vals xs us→Vals (xs.drop n) (us.drop n)
 | _,_,0,r=>r
 | _,_,_ + 1,.nil=>.nil
 | _,_,n + 1,.cons _ t=>Vals.drop n t
def RelO:Option V→Option Value→Prop
 | some v,some u=>RelV v u
 | none,none=>True
 | _,_=>False
def KV {κ:Type}:List (κ×V)→List (κ×Value)→Prop:=Paired fun (p:κ×V) (q:κ×Value)=>p.1=q.1∧RelV p.2 q.2
def kV:Key→V
 | .inl i=>.int i
 | .inr x=>.str x
inductive HO where
 /-- a list -/
 | lst (xs:List V)
 /-- a tuple (never changes) -/
 | tup (xs:List V)
 /-- a dict whose keys are ints and texts;one whose keys are tuples of ints and texts (the empty one is both) -/
 | dK (kvs:List (Key×V)) | dT (kvs:List (List Key×V))
 /-- a set of ints: its members,its size -/
 | set (S:Int→Bool) (n:Nat)
 /-- an instance of the class at C,its dict at dx,its attributes -/
 | ins (C dx:Addr) (fs:List (Str×V))
 /-- the dict of the instance at x -/
 | own (x:Addr)
 /-- the dict of an exception -/
 | xd (fs:List (Str×V))
 /-- a bound method,f of x -/
 | met (f x:Addr)
 /-- a range object lo,lo + 1,.. below hi -/
 | rng (lo hi:Int)
 /-- a thing that is known to the object (the script;a dict while a loop walks it): read,never written while it is so -/
 | frz (o:Obj) (u:HO)
 /-- a code object's table -/
 | tbl (ps:Array Value)
 /-- any other thing,by what is true of its one object (a def of one's own: SetO a S n:=HO.ext fun h=>..) -/
 | ext (φ:Heap→Prop)
abbrev Hp:=Addr→Option HO
def upd (H:Hp) (a:Addr) (o:HO):Hp:=fun b=>if b=a then some o else H b
theorem AW {H:Hp} {a:Addr} {o:HO}:upd H a o a=some o:=by unfold upd;rw [if_pos rfl]
theorem AA {H:Hp} {a b:Addr} {o:HO} (h:b≠a):upd H a o b=H b:=by unfold upd;rw [if_neg h]
theorem Bk {H:Hp} {a b:Addr} {o:HO} (h:H a=some o) (h':H b=none):a≠b:=by
 intro e;subst e;rw [h] at h';cases h'
section
variable (P:Program) (w:World)
def ObjOk (H:Hp) (h:Heap) (a:Addr):HO→Prop
 | .lst xs=>xs.length≤sizeLine∧∃(its:List Value) (n:Nat),Vals xs its∧h.get? a=some { cls:=.type "list",data:=.seq its.toArray n }
 | .tup xs=>xs.length≤sizeLine∧∃its:List Value,Vals xs its∧IsTup h a its.toArray
 | .dK kvs=>kvs.length≤sizeLine∧(a == sysModules)=false∧∃vs,KV kvs vs∧h.DictOf (CS P w) a vs
 | .dT kvs=>kvs.length≤sizeLine∧(a == sysModules)=false∧∃xs:List (List Key×Addr×Value),
    Paired (fun (p:List Key×V) (q:List Key×Addr×Value)=>p.1=q.1∧H q.2.1=some (.tup (p.1.map kV))∧RelV p.2 q.2.2) kvs xs∧
    ∃o es ep,h.get? a=some o∧o.ExactDict∧o.data = .dict es ep∧es.toList=xs.map (entryOfKey (tupleKind (CS P w)))∧(xs.map (·.1)).Nodup
 | .set S n=>h.SetOf (intKind P w) a S n
 | .ins C dx fs=>H dx=some (.own a)∧fs.length≤1000∧dx≠a∧h.get? a=some (PySem.W.instObj C dx)∧
    ∃mA,h.Ns1 dx mA∧(∀f,RelO (fs.lookup f) (mA f))∧PySem.Within mA (fs.map (·.1))
 | .own _=>∃o,h.get? a=some o
 | .xd fs=>∃mA,h.Ns1 a mA∧∀f,RelO (fs.lookup f) (mA f)
 | .rng lo hi=>∃t u v,h.get? a=some { cls:=.type "range",data:=.fields #[.int lo t,.int hi u,.int 1 v] }
 | .frz o u=>h.get? a=some o∧ObjOk H h a u
 | .tbl ps=>h.get? a=some { cls:=.none,data:=.fields ps }
 | .met f x=>h.get? a=some (PySem.W.methodObj (.ref f) (.ref x))
 | .ext φ=>φ h∧(∃o,h.get? a=some o)∧∀h1 h2:Heap,φ h1→(∀o,h1.get? a=some o→h2.get? a=some o)→φ h2
def HOk (H:Hp) (h:Heap):Prop:=∀a o,H a=some o→ObjOk P w H h a o
end
section
variable {P:Program} {w:World} {H H':Hp} {h h':Heap} {a:Addr} {o:HO}
theorem ObjOk.lt (x:ObjOk P w H h a o):a < h.objs.size:=by
 cases o with
 | lst xs=>obtain ⟨_,_,_,_,e⟩:=x;exact Heap.lt_size e
 | tup xs=>obtain ⟨_,_,_,p⟩:=x;exact p.lt
 | dK kvs=>obtain ⟨_,_,_,_,o,_,_,e,_⟩:=x;exact Heap.lt_size e
 | dT kvs=>obtain ⟨_,_,_,_,o,_,_,e,_⟩:=x;exact Heap.lt_size e
 | set S n=>obtain ⟨o,_,_,_,e,_⟩:=x;exact Heap.lt_size e
 | ins C dx fs=>obtain ⟨_,_,_,e,_⟩:=x;exact Heap.lt_size e
 | own y=>obtain ⟨_,e⟩:=x;exact Heap.lt_size e
 | xd fs=>obtain ⟨_,⟨_,_,_,e,_⟩,_⟩:=x;exact Heap.lt_size e
 | rng lo hi=>obtain ⟨_,_,_,e⟩:=x;exact Heap.lt_size e
 | frz ob u=>obtain ⟨e,_⟩:=x;exact Heap.lt_size e
 | tbl ps=>exact Heap.lt_size (show h.get? a=some _ from x)
 | met f y=>exact Heap.lt_size (show h.get? a=some _ from x)
 | ext φ=>obtain ⟨_,⟨_,e⟩,_⟩:=x;exact Heap.lt_size e
theorem Paired.mapP {α β:Type} {F G:α→β→Prop}:∀{l₁:List α} {l₂:List β},Paired F l₁ l₂→(∀a b,F a b→G a b)→Paired G l₁ l₂
 | _,_,.nil,_=>.nil
 | _,_,.cons r t,f=>.cons (f _ _ r) (Paired.mapP t f)
theorem ObjOk.stay (x:ObjOk P w H h a o) (k:∀b u,(b=a∨H b=some (.own a))→h.get? b=some u→h'.get? b=some u)
 (ho:∀b,H b=some (.own a)→H' b=some (.own a)) (ht:∀b xs,H b=some (.tup xs)→H' b=some (.tup xs)):ObjOk P w H' h' a o:=by
 induction o with
 | lst xs=>obtain ⟨z,its,n,r,e⟩:=x;exact ⟨z,its,n,r,k _ _ (.inl rfl) e⟩
 | tup xs=>obtain ⟨z,its,r,ob,e,c⟩:=x;exact ⟨z,its,r,ob,k _ _ (.inl rfl) e,c⟩
 | dK kvs=>obtain ⟨z,y,vs,r,ob,es,ep,e,c⟩:=x;exact ⟨z,y,vs,r,ob,es,ep,k _ _ (.inl rfl) e,c⟩
 | dT kvs=>
   obtain ⟨z,y,xs,r,ob,es,ep,e,c⟩:=x
   exact ⟨z,y,xs,Paired.mapP r fun p q z=>⟨z.1,ht _ _ z.2.1,z.2.2⟩,ob,es,ep,k _ _ (.inl rfl) e,c⟩
 | set S n=>obtain ⟨ob,es,ep,t,e,c⟩:=x;exact ⟨ob,es,ep,t,k _ _ (.inl rfl) e,c⟩
 | ins C dx fs=>
   obtain ⟨d,z,ne,e,mA,⟨od,es,ep,e2,c⟩,r⟩:=x
   exact ⟨ho _ d,z,ne,k _ _ (.inl rfl) e,mA,⟨od,es,ep,k _ _ (.inr d) e2,c⟩,r⟩
 | own y=>obtain ⟨ob,e⟩:=x;exact ⟨ob,k _ _ (.inl rfl) e⟩
 | xd fs=>obtain ⟨mA,⟨od,es,ep,e,c⟩,r⟩:=x;exact ⟨mA,⟨od,es,ep,k _ _ (.inl rfl) e,c⟩,r⟩
 | rng lo hi=>obtain ⟨t,u,v,e⟩:=x;exact ⟨t,u,v,k _ _ (.inl rfl) e⟩
 | frz ob u ih=>obtain ⟨e,q⟩:=x;exact ⟨k _ _ (.inl rfl) e,ih q⟩
 | tbl ps=>
   have e:h.get? a=some { cls:=.none,data:=.fields ps }:=x
   show h'.get? a=some { cls:=.none,data:=.fields ps }
   exact k a _ (.inl rfl) e
 | met f y=>
   have e:h.get? a=some (PySem.W.methodObj (.ref f) (.ref y)):=x
   show h'.get? a=some (PySem.W.methodObj (.ref f) (.ref y))
   exact k a _ (.inl rfl) e
 | ext φ=>obtain ⟨p,⟨o,e⟩,st⟩:=x;exact ⟨st _ _ p fun o q=>k _ _ (.inl rfl) q,⟨o,k _ _ (.inl rfl) e⟩,st⟩
theorem HOk.lt (x:HOk P w H h) (e:H a=some o):a < h.objs.size:=(x a o e).lt
theorem HOk.fresh (x:HOk P w H h) (e:h.objs.size≤a):H a=none:=by
 cases q:H a with
 | none=>rfl
 | some u=>exact absurd (Nat.lt_of_lt_of_le (x.lt q) e) (Nat.lt_irrefl _)
theorem HOk.kept (x:HOk P w H h) (k:∀b u,h.get? b=some u→h'.get? b=some u):HOk P w H h':=fun a o e=>
 (x a o e).stay (fun b u _ q=>k b u q) (fun _ q=>q) fun _ _ q=>q
theorem HOk.laid (x:HOk P w H h) (k:∀b u,h.get? b=some u→h'.get? b=some u) (hp:h.objs.size≤a) (new:ObjOk P w (upd H a o) h' a o):HOk P w (upd H a o) h':=fun b u e=>by
 have hn:=x.fresh hp
 by_cases hb:b=a
 ·subst hb;rw [AW] at e;cases e;exact new
 ·rw [AA hb] at e
  exact (x b u e).stay (fun c v _ q=>k c v q) (fun c q=>by rw [AA (Bk q hn)];exact q) fun c xs q=>by rw [AA (Bk q hn)];exact q
end
def Rd (H:Hp) (a:Addr) (u:HO):Prop:=H a=some u∨∃o,H a=some (.frz o u)
theorem Rd.ok {P:Program} {w:World} {H:Hp} {h:Heap} {a:Addr} {u:HO} (r:Rd H a u) (x:HOk P w H h):ObjOk P w H h a u:=by
 rcases r with r | ⟨o,r⟩
 ·exact x a u r
 ·obtain ⟨_,q⟩:=x a _ r
  exact q
def Mut:Option HO→Prop
 | some (.lst _)=>True
 | some (.dK _)=>True
 | some (.dT _)=>True
 | some (.set _ _)=>True
 | some (.ins _ _ _)=>True
 | some (.ext _)=>True
 | _=>False
section
variable {P:Program} {w:World} {H:Hp} {h h':Heap} {x e:Addr} {o':HO}
theorem HOk.write (ok:HOk P w H h) (mu:Mut (H x)) (he:e=x∨H e=some (.own x)) (k:∀b u,b≠e→h.get? b=some u→h'.get? b=some u) (heo:∃u,h'.get? e=some u)
 (new:ObjOk P w (upd H x o') h' x o'):HOk P w (upd H x o') h':=fun b u q=>by
 have nown:∀c y,H c=some (.own y)→c≠x:=fun c y r z=>by subst z;rw [r] at mu;exact mu
 have ntup:∀c xs,H c=some (.tup xs)→c≠x:=fun c xs r z=>by subst z;rw [r] at mu;exact mu
 by_cases hb:b=x
 ·subst hb;rw [AW] at q;cases q;exact new
 ·rw [AA hb] at q
  by_cases hbe:b=e
  ·have q':H b=some (.own x):=by
    rcases he with z | z
    ·exact absurd (hbe.trans z) hb
    ·rw [hbe];exact z
   rw [q] at q';cases q'
   obtain ⟨v,hv⟩:=heo
   exact ⟨v,by rw [hbe];exact hv⟩
  ·refine (ok b u q).stay (fun c v hc r=>k c v ?_ r) (fun c r=>by rw [AA (nown c b r)];exact r) fun c xs r=>by rw [AA (ntup c xs r)];exact r
   rcases hc with rfl | hc
   ·exact hbe
   ·rintro rfl
    rcases he with z | z
    ·exact nown c b hc z
    ·rw [hc] at z;cases z;exact hb rfl
end
structure Un (fs ex:List Addr) (H H':Hp) (h h':Heap):Prop where
 keep:∀b o,h.get? b=some o→H b=none→b∉fs→b∉ex→h'.get? b=some o
 slot:∀b o,h.get? b=some o→H b=none→b∈fs→b∉ex→∃sl,h'.get? b=some { o with slots:=sl }
 free:∀b o,h.get? b=some o→H b=none→b∉ex→H' b=none
 there:∀b o,h.get? b=some o→b∉ex→∃o',h'.get? b=some o'
 tups:∀b xs,H b=some (.tup xs)→H' b=some (.tup xs)
 frzs:∀b o u,H b=some (.frz o u)→H' b=some (.frz o u)
 tbls:∀b ps,H b=some (.tbl ps)→∃more,H' b=some (.tbl (ps++more))
section
variable {fs fs' ex ex':List Addr} {H H1 H2:Hp} {h h1 h2 h':Heap} {a x e:Addr} {o:HO}
theorem Un.any (u:Un fs ex H H1 h h1) {b:Addr} {ob:Obj} (q:h.get? b=some ob) (n:H b=none) (hx:b∉ex):∃sl,h1.get? b=some { ob with slots:=sl }:=by
 by_cases hb:b∈fs
 ·exact u.slot b ob q n hb hx
 ·exact ⟨ob.slots,u.keep b ob q n hb hx⟩
theorem Un.kept (k:∀b u,h.get? b=some u→h'.get? b=some u):Un fs ex H H h h':=
 ⟨fun b ob q _ _ _=>k b ob q,fun b ob q _ _ _=>⟨ob.slots,k b ob q⟩,fun _ _ _ n _=>n,fun b ob q _=>⟨ob,k b ob q⟩,fun _ _ q=>q,fun _ _ _ q=>q,fun _ ps q=>⟨#[],by rw [q];simp⟩⟩
theorem Un.refl:Un fs ex H H h h:=Un.kept fun _ _ q=>q
theorem Un.laid (k:∀b u,h.get? b=some u→h'.get? b=some u) (hp:h.objs.size≤a) (hn:H a=none):Un fs ex H (upd H a o) h h' where
 keep:=fun b u q _ _ _=>k b u q
 slot:=fun b u q _ _ _=>⟨u.slots,k b u q⟩
 free:=fun b u q n _=>by rw [AA (Nat.ne_of_lt (Nat.lt_of_lt_of_le (Heap.lt_size q) hp))];exact n
 there:=fun b u q _=>⟨u,k b u q⟩
 tups:=fun b xs q=>by rw [AA (Bk q hn)];exact q
 frzs:=fun b u xs q=>by rw [AA (Bk q hn)];exact q
 tbls:=fun b ps q=>⟨#[],by rw [AA (Bk q hn),q];simp⟩
theorem Un.write (mu:Mut (H x)) (he:e=x∨H e=some (.own x)) (k:∀b u,b≠e→h.get? b=some u→h'.get? b=some u) (heo:∃u,h'.get? e=some u):Un fs ex H (upd H x o) h h':=by
 have hx:∀b,H b=none→b≠x:=fun b n z=>by subst z;rw [n] at mu;exact mu
 have hb:∀b,H b=none→b≠e:=fun b n z=>by
  subst z
  rcases he with r | r
  ·exact hx b n r
  ·rw [n] at r;cases r
 have hm:∀b u,H b=some u→¬Mut (some u)→b≠x:=fun b u q nm z=>by subst z;rw [q] at mu;exact nm mu
 refine ⟨fun b u q n _ _=>k b u (hb b n) q,fun b u q n _ _=>⟨u.slots,k b u (hb b n) q⟩,fun b u q n _=>by rw [AA (hx b n)];exact n,fun b u q _=>?_,
  fun b xs q=>by rw [AA (hm b _ q fun z=>z)];exact q,fun b u xs q=>by rw [AA (hm b _ q fun z=>z)];exact q,fun b ps q=>⟨#[],by rw [AA (hm b _ q fun z=>z),q];simp⟩⟩
 by_cases hbe:b=e
 ·subst hbe;exact heo
 ·exact ⟨u,k b u hbe q⟩
end
def trk (h:Heap) (H:Hp):List Addr:=(List.range h.objs.size).filter fun a=>(H a).isSome
def Fj (h:Heap) (H:Hp):Heap:=PySem.W.hideAll h (trk h H)
theorem NN (h:Heap) (H:Hp):(Fj h H).objs.size=h.objs.size:=PySem.W.hideAll_size _ _
theorem O5 {h:Heap} {H:Hp} {b:Addr} {o:Obj} (e:h.get? b=some o) (n:H b=none):(Fj h H).get? b=some o:=
 PySem.W.hideAll_get _ e fun hm=>by
  have q:(H b).isSome=true:=(List.mem_filter.mp hm).2
  rw [n] at q;simp at q
theorem Ri {h:Heap} {H:Hp} {b:Addr} {o:Obj} (e:(Fj h H).get? b=some o):h.get? b=some o∧H b=none:=by
 have e':h.get? b=some o:=PySem.W.of_hideAll (trk h H) e
 refine ⟨e',?_⟩
 cases q:H b with
 | none=>rfl
 | some x=>
   have hm:b∈trk h H:=List.mem_filter.mpr ⟨List.mem_range.mpr (Heap.lt_size e'),by simp [q]⟩
   have z:(Fj h H).get? b=none:=PySem.W.hideAll_none (trk h H) hm
   rw [z] at e;cases e
def QF (g h:Heap) (L:Addr):List (Addr×Obj):=(List.range h.objs.size).filterMap fun a=>if a=L∨(g.get? a).isSome=true then none else (h.get? a).map fun o=>(a,o)
def rest (g h:Heap) (L d:Addr):List (Addr×Obj):=(QF g h L).filter fun p=>decide (p.1≠d)
structure Mod (K:PySem.W.Frag) (mg:Str→Option Value) (base:Heap):Prop where
 kin:K.In base
 glob:base.Ns mainGlobals mg
 blt:∃mb,base.Ns builtinsNs mb∧∀x:Str,x≠"__name__"→mb x=bootBuiltins x
 nolimit:base.NoLimit
structure Cx where
 prog:Program
 w:World
 K:PySem.W.Frag
 mg:Str→Option Value
 base:Heap
 A:Around
 N:List Str
 s₀:Shared
 H₀:Hp
 env:Env
 outer:List Env
 stack:List Env
 ex:List Addr
 fn:Str→Bool
 calm:Bool
 pn:List (Addr×Obj)
 xe:Value→Shared→Prop
def frs (l:List Env):List Addr:=l.filterMap (·.frame)
abbrev Cx.fs (X:Cx):List Addr:=frs X.outer
def Vis (sc:Scope) (x:Str):Prop:=sc.names.lookup x=some .local∨sc.names.lookup x=some .cell∨sc.names.lookup x=some .free
def D8:List Str:=["text", "depth", "s"]
def Loc (sc:Scope) (x:Str):Prop:=sc.names.lookup x=some .local∨(sc.names.lookup x=some .cell∧x∉D8)
def Vp (env:Env) (h:Heap) (m:Str→Option Value) (x:Str) (u:Value):Prop:=
 (env.kindOf x=some .local∧m x=some u)∨((env.kindOf x=some .cell∨env.kindOf x=some .free)∧∃c,env.cells.lookup x=some c∧h.IsCell c (some u))
structure Cx.Ok (X:Cx):Prop where
 mod:Mod X.K X.mg X.base
 kind:X.env.scope.kind = .function
 glob:X.env.globals=mainGlobals
 blt:X.env.builtins=builtinsNs
 above:X.s₀.heap.objs.size≤X.env.locals
 inj:∀x y c,X.env.cells.lookup x=some c→X.env.cells.lookup y=some c→x=y
 has:∀x,(X.env.kindOf x=some .cell∨X.env.kindOf x=some .free)→∃c,X.env.cells.lookup x=some c
 cab:∀x c,X.fn x=true→X.env.cells.lookup x=some c→X.s₀.heap.objs.size≤c
 hd:X.calm=true→X.A.handled=none
 frames:X.A.frames=some X.stack
 stk:X.stack=X.outer∨(X.stack=X.env :: X.outer∧X.env.frame=some X.env.locals)
 exf:∀b∈X.ex,b≠X.env.locals∧∀x c,X.env.cells.lookup x=some c→c≠b
 bs:∀b o,X.base.get? b=some o→X.s₀.heap.get? b=some o∧X.H₀ b=none
 bsz:X.base.objs.size≤X.s₀.heap.objs.size
 noex:∀b o,X.base.get? b=some o→b∉X.ex
 exfs:∀b∈X.ex,b∉X.fs
 funs:X.s₀.heap.FunFrames X.base X.outer
 frf:∀b∈X.fs,X.H₀ b=none
def Fi (K:PySem.W.Frag):Nat:=match PySem.W.nsIn K mainGlobals "QUOTE" with
 | some (some (.str _ t))=>t + 1
 | _=>0
structure Inv (X:Cx) (pins:List (Addr×Obj)) (σ:List (Option V)) (H:Hp) (s:Shared):Prop where
 ok:X.Ok
 os:s.os=X.s₀.os
 bare:AllBare s.gens
 base:Un X.fs X.ex X.H₀ H X.s₀.heap s.heap
 loc:∃m,s.heap.Ns X.env.locals m∧∀(i:Nat) (x:Str) (v:V),X.N[i]?=some x→σ[i]?=some (some v)→Vis X.env.scope x→∃u,RelV v u∧Vp X.env s.heap m x u
 cell:∀x c,X.env.cells.lookup x=some c→∃v,s.heap.IsCell c v
 free:H X.env.locals=none
 freeC:∀x c,X.env.cells.lookup x=some c→H c=none∨(x∈D8∧∃o u,H c=some (.frz o u))
 pin:∀p∈X.pn++pins,s.heap.get? p.1=some p.2∧H p.1=none∧p.1≠X.env.locals∧p.1∉X.fs∧∀v,p.2.data≠.cell v
 hok:HOk X.prog X.w H s.heap
 len:σ.length=X.N.length
 tk:Fi X.K≤s.toks
section
variable {X:Cx} {pins:List (Addr×Obj)} {σ:List (Option V)} {H H':Hp} {s:Shared} {h':Heap}
theorem Cx.Ok.nofr (ok:X.Ok) {b:Addr} {o:Obj} (e:X.base.get? b=some o):b∉X.fs:=fun hb=>by
 have:=(ok.funs.mem hb).1
 rw [e] at this;cases this
theorem Inv.bs (I:Inv X pins σ H s):∀b o,X.base.get? b=some o→s.heap.get? b=some o∧H b=none:=fun b o e=>
 ⟨I.base.keep b o (I.ok.bs b o e).1 (I.ok.bs b o e).2 (I.ok.nofr e) (I.ok.noex b o e),I.base.free b o (I.ok.bs b o e).1 (I.ok.bs b o e).2 (I.ok.noex b o e)⟩
theorem Inv.bk (I:Inv X pins σ H s):∀b o,X.base.get? b=some o→s.heap.get? b=some o:=fun b o e=>(I.bs b o e).1
theorem Inv.mod (I:Inv X pins σ H s):Mod X.K X.mg X.base:=I.ok.mod
theorem Inv.kIn (I:Inv X pins σ H s):X.K.In s.heap:=I.ok.mod.kin.keeps I.bk
theorem Inv.lt (I:Inv X pins σ H s):X.env.locals < s.heap.objs.size:=let ⟨_,hn,_⟩:=I.loc;hn.lt
theorem Inv.sz (I:Inv X pins σ H s):X.s₀.heap.objs.size≤s.heap.objs.size:=Nat.le_trans I.ok.above (Nat.le_of_lt I.lt)
theorem Inv.nofs (I:Inv X pins σ H s) {a:Addr} (h:s.heap.objs.size≤a):a∉X.fs:=fun hb=>by
 obtain ⟨_,o,ho,_⟩:=I.ok.funs.mem hb
 exact absurd (Nat.lt_of_lt_of_le (Heap.lt_size ho) (Nat.le_trans I.sz h)) (Nat.lt_irrefl _)
theorem Inv.cne (I:Inv X pins σ H s):∀x c,X.env.cells.lookup x=some c→c≠X.env.locals:=fun x c e z=>by
 obtain ⟨v,o,ho,hd⟩:=I.cell x c e
 obtain ⟨m,⟨o',es,ep,ho',hd',_⟩,_⟩:=I.loc
 rw [z,ho'] at ho;cases ho;rw [hd'] at hd;cases hd
theorem Inv.funs (I:Inv X pins σ H s):s.heap.FunFrames X.base X.outer:=by
 have all:∀(l:List Env),(∀b∈frs l,b∈X.fs)→X.s₀.heap.FunFrames X.base l→s.heap.FunFrames X.base l:=by
  intro l
  induction l with
  | nil=>intro _ _;trivial
  | cons env r ih=>
    intro hs hl
    obtain ⟨hk,⟨L,o,hf,hn,ho,hd⟩,hr⟩:=hl
    have hL:L∈X.fs:=hs L (by unfold frs;rw [List.filterMap_cons,hf];exact List.mem_cons_self)
    obtain ⟨sl,e⟩:=I.base.slot L o ho (I.ok.frf L hL) hL fun z=>I.ok.exfs L z hL
    exact ⟨hk,⟨L,_,hf,hn,e,hd⟩,ih (fun b hb=>hs b (by unfold frs;rw [List.filterMap_cons,hf];exact List.mem_cons_of_mem _ hb)) hr⟩
 exact all X.outer (fun _ hb=>hb) I.ok.funs
theorem Inv.stack (I:Inv X pins σ H s):s.heap.FunFrames X.base X.stack:=by
 rcases I.ok.stk with e | ⟨e,hf⟩
 ·rw [e];exact I.funs
 ·rw [e]
  obtain ⟨m,hn,_⟩:=I.loc
  refine .cons (by rw [I.ok.kind];decide) hf hn ?_ I.funs
  exact Heap.get?_none_of_le (Nat.le_trans I.ok.bsz I.ok.above)
theorem Inv.stkSub (I:Inv X pins σ H s):∀b∈frs X.stack,b∈X.env.locals :: X.fs:=fun b hb=>by
 rcases I.ok.stk with e | ⟨e,hf⟩
 ·rw [e] at hb;exact List.mem_cons_of_mem _ hb
 ·rw [e] at hb
  unfold frs at hb
  rw [List.filterMap_cons,hf] at hb
  exact hb
theorem Inv.stkFree (I:Inv X pins σ H s):∀b∈frs X.stack,H b=none:=fun b hb=>by
 rcases List.mem_cons.mp (I.stkSub b hb) with e | hb
 ·rw [e];exact I.free
 ·obtain ⟨_,o,ho,_⟩:=I.ok.funs.mem hb
  exact I.base.free b o ho (I.ok.frf b hb) fun z=>I.ok.exfs b z hb
theorem Inv.step {g':Array GenState} {t':Nat} {d':Drawn} {ch:List Addr} (I:Inv X pins σ H s)
 (hch:∀b∈ch,(b∈X.ex∨X.s₀.heap.objs.size≤b)∧b≠X.env.locals∧(∀x c,X.env.cells.lookup x=some c→c≠b)∧∀p∈X.pn++pins,p.1≠b)
 (keep:∀b o,b≠X.env.locals→b∉X.fs→b∉ch→s.heap.get? b=some o→H b=none→h'.get? b=some o)
 (slot:∀b o,b≠X.env.locals→b∈X.fs→b∉ch→s.heap.get? b=some o→H b=none→∃sl,h'.get? b=some { o with slots:=sl }) (free:∀b o,b∉ch→s.heap.get? b=some o→H b=none→H' b=none)
 (there:∀b o,b∉ch→s.heap.get? b=some o→∃o',h'.get? b=some o')
 (tups:∀b xs,H b=some (.tup xs)→H' b=some (.tup xs)) (frzs:∀b o u,H b=some (.frz o u)→H' b=some (.frz o u)) (tbls:∀b ps,H b=some (.tbl ps)→∃more,H' b=some (.tbl (ps++more)))
 (ns:∀m,s.heap.Ns X.env.locals m→h'.Ns X.env.locals m) (hok:HOk X.prog X.w H' h') (hg:AllBare g') (ht:s.toks≤t':=by first | exact Nat.le_refl _ | assumption | lia | (dsimp only;lia)) :
 Inv X pins σ H' { s with heap:=h',gens:=g',drawn:=d',toks:=t' }:=by
 have neL:∀b o,X.s₀.heap.get? b=some o→b≠X.env.locals:=fun b o e=>Nat.ne_of_lt (Nat.lt_of_lt_of_le (Heap.lt_size e) I.ok.above)
 have neC:∀b o,X.s₀.heap.get? b=some o→b∉X.ex→b∉ch:=fun b o e hx hb=>by
  rcases (hch b hb).1 with z | z
  ·exact hx z
  ·exact absurd (Nat.lt_of_lt_of_le (Heap.lt_size e) z) (Nat.lt_irrefl _)
 have cellK:∀x c,X.env.cells.lookup x=some c→∀v,s.heap.IsCell c v→h'.IsCell c v:=fun x c e v ⟨o,ho,hd⟩=>by
  have nch:c∉ch:=fun z=>(hch c z).2.2.1 x c e rfl
  rcases I.freeC x c e with hn | ⟨_,of,uf,hf⟩
  ·by_cases hc:c∈X.fs
   ·obtain ⟨sl,q⟩:=slot c o (I.cne x c e) hc nch ho hn
    exact ⟨_,q,hd⟩
   ·exact ⟨o,keep c o (I.cne x c e) hc nch ho hn,hd⟩
  ·have q1:=(I.hok c _ hf).1
   rw [ho] at q1;cases q1
   exact ⟨o,(hok c _ (frzs c _ _ hf)).1,hd⟩
 refine ⟨I.ok,I.os,hg,⟨fun b o e n hb hx=>?_,fun b o e n hb hx=>?_,fun b o e n hx=>?_,fun b o e hx=>?_,fun b xs e=>tups b xs (I.base.tups b xs e),fun b o xs e=>frzs b o xs (I.base.frzs b o xs e),fun b ps e=>?_⟩,?_,fun x c e=>?_,?_,fun x c e=>?_,fun p hp=>?_,hok,I.len,Nat.le_trans I.tk ht⟩
 ·exact keep b o (neL b o e) hb (neC b o e hx) (I.base.keep b o e n hb hx) (I.base.free b o e n hx)
 ·obtain ⟨sl,e1⟩:=I.base.slot b o e n hb hx
  obtain ⟨sl',e2⟩:=slot b _ (neL b o e) hb (neC b o e hx) e1 (I.base.free b o e n hx)
  exact ⟨sl',e2⟩
 ·obtain ⟨o',e1⟩:=I.base.there b o e hx
  exact free b o' (neC b o e hx) e1 (I.base.free b o e n hx)
 ·obtain ⟨o',e1⟩:=I.base.there b o e hx
  exact there b o' (neC b o e hx) e1
 ·obtain ⟨m1,e1⟩:=I.base.tbls b ps e
  obtain ⟨m2,e2⟩:=tbls b _ e1
  exact ⟨m1++m2,by rw [e2,Array.append_assoc]⟩
 ·obtain ⟨m,hn,hl⟩:=I.loc
  refine ⟨m,ns m hn,fun i x v e1 e2 e3=>?_⟩
  obtain ⟨u,r,l⟩:=hl i x v e1 e2 e3
  refine ⟨u,r,?_⟩
  rcases l with l | ⟨k,c,e,z⟩
  ·exact .inl l
  ·exact .inr ⟨k,c,e,cellK x c e _ z⟩
 ·obtain ⟨v,z⟩:=I.cell x c e
  exact ⟨v,cellK x c e v z⟩
 ·obtain ⟨m,⟨o,_,_,ho,_⟩,_⟩:=I.loc
  exact free _ o (fun z=>(hch _ z).2.1 rfl) ho I.free
 ·obtain ⟨v,o,ho,hd⟩:=I.cell x c e
  exact (I.freeC x c e).elim (fun hn=>.inl (free c o (fun z=>(hch c z).2.2.1 x c e rfl) ho hn)) fun ⟨hz,of,uf,hf⟩=>.inr ⟨hz,of,uf,frzs c _ _ hf⟩
 ·obtain ⟨e,n,ne,nf,d⟩:=I.pin p hp
  have nch:p.1∉ch:=fun z=>(hch p.1 z).2.2.2 p hp rfl
  exact ⟨keep p.1 p.2 ne nf nch e n,free p.1 p.2 nch e n,ne,nf,d⟩
theorem Inv.un {t':Nat} (I:Inv X pins σ H s) (u:Un X.fs [] H H' s.heap h') (hok:HOk X.prog X.w H' h') (ht:s.toks≤t':=by first | exact Nat.le_refl _ | assumption | lia | (dsimp only;lia)):Inv X pins σ H' { s with heap:=h',toks:=t' }:=by
 obtain ⟨m,⟨o,es,ep,ho,r⟩,_⟩:=id I.loc
 obtain ⟨sl,hL⟩:=u.any ho I.free (by simp)
 exact I.step (g':=s.gens) (d':=s.drawn) (ch:=[]) (fun _ z=>nomatch z) (fun b o _ hb _ e n=>u.keep b o e n hb (by simp)) (fun b o _ hb _ e n=>u.slot b o e n hb (by simp)) (fun b o _ e n=>u.free b o e n (by simp)) (fun b o _ e=>u.there b o e (by simp)) u.tups u.frzs u.tbls (fun m' hm=>by
  obtain ⟨o',es',ep',ho',r'⟩:=hm
  rw [ho] at ho';cases ho'
  exact ⟨_,es',ep',hL,r'⟩) hok I.bare
theorem Inv.call {g':Array GenState} {t':Nat} {d':Drawn} {ch:List Addr} (I:Inv X pins σ H s) (u:Un (frs X.stack) ch H H' s.heap h') (hok:HOk X.prog X.w H' h') (hg:AllBare g')
 (hch:∀b∈ch,(b∈X.ex∨X.s₀.heap.objs.size≤b)∧b≠X.env.locals∧(∀x c,X.env.cells.lookup x=some c→c≠b)∧∀p∈X.pn++pins,p.1≠b) (ht:s.toks≤t':=by first | exact Nat.le_refl _ | assumption | lia | (dsimp only;lia)) :
 Inv X pins σ H' { s with heap:=h',gens:=g',drawn:=d',toks:=t' }:=by
 obtain ⟨m,⟨o,es,ep,ho,r⟩,_⟩:=id I.loc
 obtain ⟨sl,hL⟩:=u.any ho I.free fun z=>(hch _ z).2.1 rfl
 exact I.step (ch:=ch) hch (fun b o hL hb hc e n=>u.keep b o e n (fun z=>(List.mem_cons.mp (I.stkSub b z)).elim hL hb) hc) (fun b o _ _ hc e n=>u.any e n hc) (fun b o hc e n=>u.free b o e n hc) (fun b o hc e=>u.there b o e hc) u.tups u.frzs u.tbls (fun m' hm=>by
  obtain ⟨o',es',ep',ho',r'⟩:=hm
  rw [ho] at ho';cases ho'
  exact ⟨_,es',ep',hL,r'⟩) hok hg
theorem Inv.turned {t':Nat} {it:Addr} (I:Inv X pins σ H s) (k:∀b o,b≠it→s.heap.get? b=some o→h'.get? b=some o) (hn:H it=none) (hL:it≠X.env.locals)
 (h1:it∈X.ex∨X.s₀.heap.objs.size≤it) (h2:∀x c,X.env.cells.lookup x=some c→c≠it) (h3:∀p∈X.pn++pins,p.1≠it) (ht:s.toks≤t':=by first | exact Nat.le_refl _ | assumption | lia | (dsimp only;lia)):Inv X pins σ H { s with heap:=h',toks:=t' }:=by
 have nit:∀b u,H b=some u→b≠it:=fun b u e z=>by rw [z,hn] at e;cases e
 refine I.step (g':=s.gens) (d':=s.drawn) (ch:=[it]) (fun b hb=>?_) (fun b o _ _ hc e _=>k b o (fun z=>hc (by simp [z])) e) (fun b o _ _ hc e _=>⟨o.slots,k b o (fun z=>hc (by simp [z])) e⟩) (fun _ _ _ _ n=>n)
  (fun b o hc e=>⟨o,k b o (fun z=>hc (by simp [z])) e⟩) (fun _ _ e=>e) (fun _ _ _ e=>e) (fun b ps e=>⟨#[],by rw [e];simp⟩) (fun m hm=>?_) (fun b u e=>?_) I.bare
 ·have e:b=it:=by simpa using hb
  subst e
  exact ⟨h1,hL,h2,h3⟩
 ·obtain ⟨o,es,ep,ho,r⟩:=hm
  exact ⟨o,es,ep,k _ o (Ne.symm hL) ho,r⟩
 ·refine (I.hok b u e).stay (fun c v hc q=>k c v ?_ q) (fun _ q=>q) fun _ _ q=>q
  rcases hc with z | z
  ·rw [z];exact nit b u e
  ·exact nit c _ z
theorem Inv.tok (I:Inv X pins σ H s) (t:Nat) (ht:s.toks≤t:=by first | exact Nat.le_refl _ | assumption | lia | (dsimp only;lia)):Inv X pins σ H { s with toks:=t }:=I.un (h':=s.heap) (t':=t) Un.refl I.hok
theorem Inv.kept {t':Nat} (I:Inv X pins σ H s) (k:∀b u,s.heap.get? b=some u→h'.get? b=some u) (ht:s.toks≤t':=by first | exact Nat.le_refl _ | assumption | lia | (dsimp only;lia)):Inv X pins σ H { s with heap:=h',toks:=t' }:=I.un (Un.kept k) (I.hok.kept k)
theorem Inv.laid {a:Addr} {o:HO} {t':Nat} (I:Inv X pins σ H s) (k:∀b u,s.heap.get? b=some u→h'.get? b=some u) (hp:s.heap.objs.size≤a) (new:ObjOk X.prog X.w (upd H a o) h' a o) (ht:s.toks≤t':=by first | exact Nat.le_refl _ | assumption | lia | (dsimp only;lia)) :
 Inv X pins σ (upd H a o) { s with heap:=h',toks:=t' }:=I.un (Un.laid k hp (I.hok.fresh hp)) (I.hok.laid k hp new)
theorem Inv.write {x e:Addr} {o:HO} {t':Nat} (I:Inv X pins σ H s) (mu:Mut (H x)) (he:e=x∨H e=some (.own x)) (k:∀b u,b≠e→s.heap.get? b=some u→h'.get? b=some u) (heo:∃u,h'.get? e=some u)
 (new:ObjOk X.prog X.w (upd H x o) h' x o) (ht:s.toks≤t':=by first | exact Nat.le_refl _ | assumption | lia | (dsimp only;lia)):Inv X pins σ (upd H x o) { s with heap:=h',toks:=t' }:=I.un (Un.write mu he k heo) (I.hok.write mu he k heo new)
theorem Inv.pins_of {pins':List (Addr×Obj)} (I:Inv X pins σ H s) (h:∀p∈pins',s.heap.get? p.1=some p.2∧H p.1=none∧p.1≠X.env.locals∧p.1∉X.fs∧∀v,p.2.data≠.cell v):Inv X pins' σ H s:=
 ⟨I.ok,I.os,I.bare,I.base,I.loc,I.cell,I.free,I.freeC,fun p hp=>(List.mem_append.mp hp).elim (fun z=>I.pin p (List.mem_append_left _ z)) (h p),I.hok,I.len,I.tk⟩
theorem KW {N:List Str} (hN:N.Nodup) {i j:Nat} {x:Str} (a:N[i]?=some x) (b:N[j]?=some x):i=j:=by
 obtain ⟨h1,e1⟩:=List.getElem?_eq_some_iff.mp a
 obtain ⟨h2,e2⟩:=List.getElem?_eq_some_iff.mp b
 exact (List.getElem_inj hN).mp (e1.trans e2.symm)
theorem Jy {M:Model} {A:Around} {E:Value→Shared→Prop} {i:Nat} {x:Str} {v:V} {u:Value} {Q:Unit→Shared→Prop} (I:Inv X pins σ H s) (hN:X.N.Nodup) (hi:X.N[i]?=some x) (hx:Loc X.env.scope x) (r:RelV v u)
 (h:∀s',Inv X pins (σ.set i (some v)) H s'→(∃a,Heap.SameBut a s.heap s'.heap∧(a=X.env.locals∨X.env.cells.lookup x=some a))→Q () s') (hf:X.fn x=true∨X.env.scope.names.lookup x=some .local:=by first | exact .inl rfl | exact .inr rfl | assumption):wpAny M A (storeName X.env x u) Q E s:=by
 obtain ⟨m,hn,hl⟩:=id I.loc
 have hcls:(X.env.scope.kind == .class || (X.env.scope.kind == .module && X.env.locals != X.env.globals))=false:=by rw [I.ok.kind];rfl
 have hiσ:i < σ.length:=by rw [I.len];exact (List.getElem?_eq_some_iff.mp hi).1
 have cne:=I.cne
 have tracked:∀{a:Addr} {h':Heap},(∃o,s.heap.get? a=some o∧H a=none)→Heap.SameBut a s.heap h'→HOk X.prog X.w H h':=fun {a h'} ha hs b ob e=>by
  obtain ⟨_,_,hfree⟩:=ha
  refine (I.hok b ob e).stay (fun c w' hc q=>(hs.2 c ?_).trans q) (fun _ q=>q) fun _ _ q=>q
  rintro rfl
  rcases hc with rfl | hc
  ·rw [hfree] at e;cases e
  ·rw [hfree] at hc;cases hc
 rcases hx with hk | hk
 ·refine wpAny_storeName_local hk hn (fun h' hn' hs=>?_) hcls
  obtain ⟨oL,_,_,hoL,_⟩:=id hn
  refine h _ ⟨I.ok,I.os,I.bare,⟨fun b o e n hb hx=>?_,fun b o e n hb hx=>?_,I.base.free,fun b o e hx=>?_,I.base.tups,I.base.frzs,I.base.tbls⟩,⟨_,hn',fun j y v' e1 e2 e3=>?_⟩,fun y c e=>?_,I.free,I.freeC,fun p hp=>?_,tracked ⟨oL,hoL,I.free⟩ hs,by simpa using I.len,(by have:=I.tk;first | exact this | (dsimp only;lia))⟩ ⟨_,hs,.inl rfl⟩
  ·exact (hs.2 b (Nat.ne_of_lt (Nat.lt_of_lt_of_le (Heap.lt_size e) I.ok.above))).trans (I.base.keep b o e n hb hx)
  ·obtain ⟨sl,e1⟩:=I.base.slot b o e n hb hx
   exact ⟨sl,(hs.2 b (Nat.ne_of_lt (Nat.lt_of_lt_of_le (Heap.lt_size e) I.ok.above))).trans e1⟩
  ·obtain ⟨o',e1⟩:=I.base.there b o e hx
   exact ⟨o',(hs.2 b (Nat.ne_of_lt (Nat.lt_of_lt_of_le (Heap.lt_size e) I.ok.above))).trans e1⟩
  ·by_cases hj:j=i
   ·subst hj
    rw [hi] at e1;cases e1
    rw [List.getElem?_set_self hiσ] at e2
    cases e2
    exact ⟨u,r,.inl ⟨hk,by simp⟩⟩
   ·rw [List.getElem?_set_ne (Ne.symm hj)] at e2
    obtain ⟨u',r',q⟩:=hl j y v' e1 e2 e3
    refine ⟨u',r',?_⟩
    rcases q with ⟨k,e⟩ | ⟨k,c,e,z⟩
    ·refine .inl ⟨k,?_⟩
     have:y≠x:=fun e=>hj (KW hN e1 (e ▸ hi))
     simp [this,e]
    ·exact .inr ⟨k,c,e,z.sameBut hs (cne y c e)⟩
  ·obtain ⟨w',z⟩:=I.cell y c e
   exact ⟨w',z.sameBut hs (cne y c e)⟩
  ·obtain ⟨e,n,ne,nf,d⟩:=I.pin p hp
   exact ⟨(hs.2 p.1 ne).trans e,n,ne,nf,d⟩
 ·obtain ⟨hk,hnf⟩:=hk
  have hfn:X.fn x=true:=by
   rcases hf with z | z
   ·exact z
   ·rw [z] at hk;cases hk
  obtain ⟨c,hc⟩:=I.ok.has x (.inl hk)
  obtain ⟨w',z⟩:=I.cell x c hc
  refine wpAny_storeName_cell I.ok.kind hk hc z (fun h' hc' hs=>?_)
  obtain ⟨oc,hoc,hocd⟩:=id z
  refine h { s with heap:=h' } ⟨I.ok,I.os,I.bare,⟨fun b o e n hb hx=>?_,fun b o e n hb hx=>?_,I.base.free,fun b o e hx=>?_,I.base.tups,I.base.frzs,I.base.tbls⟩,⟨m,hn.sameBut hs (Ne.symm (cne x c hc)),fun j y v' e1 e2 e3=>?_⟩,fun y c' e=>?_,I.free,I.freeC,fun p hp=>?_,tracked ⟨oc,hoc,(I.freeC x c hc).resolve_right fun q=>hnf q.1⟩ hs,by simpa using I.len,(by have:=I.tk;first | exact this | (dsimp only;lia))⟩ ⟨c,hs,.inr hc⟩
  ·exact (hs.2 b (Nat.ne_of_lt (Nat.lt_of_lt_of_le (Heap.lt_size e) (I.ok.cab x c hfn hc)))).trans (I.base.keep b o e n hb hx)
  ·obtain ⟨sl,e1⟩:=I.base.slot b o e n hb hx
   exact ⟨sl,(hs.2 b (Nat.ne_of_lt (Nat.lt_of_lt_of_le (Heap.lt_size e) (I.ok.cab x c hfn hc)))).trans e1⟩
  ·obtain ⟨o',e1⟩:=I.base.there b o e hx
   exact ⟨o',(hs.2 b (Nat.ne_of_lt (Nat.lt_of_lt_of_le (Heap.lt_size e) (I.ok.cab x c hfn hc)))).trans e1⟩
  ·by_cases hj:j=i
   ·subst hj
    rw [hi] at e1;cases e1
    rw [List.getElem?_set_self hiσ] at e2
    cases e2
    exact ⟨u,r,.inr ⟨.inl hk,c,hc,hc'⟩⟩
   ·rw [List.getElem?_set_ne (Ne.symm hj)] at e2
    obtain ⟨u',r',q⟩:=hl j y v' e1 e2 e3
    refine ⟨u',r',?_⟩
    rcases q with q | ⟨k,c',e,z'⟩
    ·exact .inl q
    ·refine .inr ⟨k,c',e,z'.sameBut hs ?_⟩
     rintro rfl
     exact hj (KW hN e1 (I.ok.inj _ _ _ e hc ▸ hi))
  ·by_cases hcc:c'=c
   ·subst hcc;exact ⟨_,hc'⟩
   ·obtain ⟨w2,z2⟩:=I.cell y c' e
    exact ⟨w2,z2.sameBut hs hcc⟩
  ·obtain ⟨e,n,ne,nf,d⟩:=I.pin p hp
   refine ⟨(hs.2 p.1 ?_).trans e,n,ne,nf,d⟩
   intro q
   rw [q,hoc] at e
   have q':oc=p.2:=Option.some.inj e
   exact d w' (by rw [←q'];exact hocd)
theorem Lj {M:Model} {A:Around} {E:Value→Shared→Prop} {i:Nat} {x:Str} {v:V} {u:Value} {Q:Unit→Shared→Prop} (I:Inv X pins σ H s) (hN:X.N.Nodup) (hi:X.N[i]?=some x) (hx:Loc X.env.scope x) (r:RelV v u)
 (h:∀s',Inv X pins (σ.set i (some v)) H s'→Q () s') (hf:X.fn x=true∨X.env.scope.names.lookup x=some .local:=by first | exact .inl rfl | exact .inr rfl | assumption):wpAny M A (storeName X.env x u) Q E s:=
 Jy I hN hi hx r (fun s' I' _=>h s' I') hf
theorem Inv.call' {s':Shared} {ch:List Addr} (I:Inv X pins σ H s) (ho:s'.os=s.os) (u:Un (frs X.stack) ch H H' s.heap s'.heap) (hok:HOk X.prog X.w H' s'.heap) (hg:AllBare s'.gens)
 (hch:∀b∈ch,(b∈X.ex∨X.s₀.heap.objs.size≤b)∧b≠X.env.locals∧(∀x c,X.env.cells.lookup x=some c→c≠b)∧∀p∈X.pn++pins,p.1≠b) (ht:Fi X.K≤s'.toks):Inv X pins σ H' s':=by
 obtain ⟨h',g',d',t',o'⟩:=s'
 have e:o'=s.os:=ho
 subst e
 have J:=I.call (g':=g') (t':=s.toks) (d':=d') u hok hg hch
 exact ⟨J.ok,J.os,J.bare,J.base,J.loc,J.cell,J.free,J.freeC,J.pin,J.hok,J.len,ht⟩
end
abbrev XK:=Value→Option Addr→Hp→Prop
abbrev St:=List (Option V)
abbrev VK:=V→Hp→Prop
abbrev TE:=St→Hp→VK→Prop
abbrev TT:=St→Hp→(Bool→Hp→Prop)→Prop
abbrev TA:=St→Hp→(List V→Hp→Prop)→Prop
structure Ends where
 nx:St→Hp→Prop
 rt:VK
 bk:St→Hp→Prop:=fun _ _=>False
 ct:St→Hp→Prop:=fun _ _=>False
abbrev TS:=Ends→St→Hp→Prop
inductive EP (X:Cx) (pins:List (Addr×Obj)) (σ:St) (Q:VK) (u:Value) (s':Shared):Prop where
 | mk (v:V) (H':Hp) (i:Inv X pins σ H' s') (r:RelV v u) (q:Q v H'):EP X pins σ Q u s'
inductive TP (X:Cx) (pins:List (Addr×Obj)) (σ:St) (Q:Bool→Hp→Prop) (b:Bool) (s':Shared):Prop where
 | mk (H':Hp) (i:Inv X pins σ H' s') (q:Q b H'):TP X pins σ Q b s'
inductive AP (X:Cx) (pins:List (Addr×Obj)) (σ:St) (Q:List V→Hp→Prop) (us:List Value) (s':Shared):Prop where
 | mk (vs:List V) (H':Hp) (i:Inv X pins σ H' s') (r:Vals vs us) (q:Q vs H'):AP X pins σ Q us s'
def SP (X:Cx) (pins:List (Addr×Obj)) (D:Ends) (f:Flow) (s':Shared):Prop:=
 match f with
 | .next=>∃σ' H',Inv X pins σ' H' s'∧D.nx σ' H'
 | .brk=>∃σ' H',Inv X pins σ' H' s'∧D.bk σ' H'
 | .cont=>∃σ' H',Inv X pins σ' H' s'∧D.ct σ' H'
 | .ret u=>∃v σ' H',Inv X pins σ' H' s'∧RelV v u∧D.rt v H'
def PE (X:Cx) (e:Expr) (t:TE):Prop:=
 ∀(pins:List (Addr×Obj)) (s:Shared) (σ:St) (H:Hp) (Q:VK),Inv X pins σ H s→t σ H Q→wpAny (model X.prog X.w) X.A (eval e X.env) (EP X pins σ Q) X.xe s
def PT (X:Cx) (e:Expr) (t:TT):Prop:=
 ∀(pins:List (Addr×Obj)) (s:Shared) (σ:St) (H:Hp) (Q:Bool→Hp→Prop),Inv X pins σ H s→t σ H Q→wpAny (model X.prog X.w) X.A (isTrue e X.env (eval e X.env)) (TP X pins σ Q) X.xe s
def PW (X:Cx) (e:Expr) (t:TT):Prop:=
 ∀(whole:Sem Value) (pins:List (Addr×Obj)) (s:Shared) (σ:St) (H:Hp) (Q:Bool→Hp→Prop),Inv X pins σ H s→t σ H Q→wpAny (model X.prog X.w) X.A (isTrue e X.env whole) (TP X pins σ Q) X.xe s
theorem PW.pt {X:Cx} {e:Expr} {t:TT} (h:PW X e t):PT X e t:=h _
def PA (X:Cx) (es:List Expr) (t:TA):Prop:=
 ∀(pos:Pos) (pins:List (Addr×Obj)) (s:Shared) (σ:St) (H:Hp) (Q:List V→Hp→Prop),Inv X pins σ H s→t σ H Q→wpAny (model X.prog X.w) X.A (spliced (backTo pos (starEach es X.env))) (AP X pins σ Q) X.xe s
def PS (X:Cx) (st:Stmt) (t:TS):Prop:=
 ∀(pins:List (Addr×Obj)) (s:Shared) (σ:St) (H:Hp) (D:Ends),Inv X pins σ H s→t D σ H→wpAny (model X.prog X.w) X.A (exec st X.env) (SP X pins D) X.xe s
def PSs (X:Cx) (st:List Stmt) (t:TS):Prop:=
 ∀(pins:List (Addr×Obj)) (s:Shared) (σ:St) (H:Hp) (D:Ends),Inv X pins σ H s→t D σ H→wpAny (model X.prog X.w) X.A (execs st X.env) (SP X pins D) X.xe s
theorem thn {α:Type} {t:Sem α} {Q Q':α→Shared→Prop} {M:Model} {A:Around} {E:Value→Shared→Prop} {s:Shared} (h:wpAny M A t Q E s) (hQ:∀a s,Q a s→Q' a s):wpAny M A t Q' E s:=wpAny_mono h hQ fun _ _ x=>x
section
variable {X:Cx}
def Uc (i:Nat):TE:=fun σ H Q=>∃v,σ[i]?=some (some v)∧Q v H
def tC (v:V):TE:=fun _ H Q=>Q v H
theorem N7 {i:Nat} {x:Str} {pos:Pos} (hN:X.N[i]?=some x) (hv:Vis X.env.scope x) (hd:(x == ("__debug__" : Str))=false:=by decide) (hcd:(x == ("__classdict__" : Str))=false:=by decide):PE X (.Name x pos) (Uc i):=by
 intro pins s σ H Q I h
 obtain ⟨v,e,h⟩:=h
 obtain ⟨m,hn,hl⟩:=I.loc
 obtain ⟨u,r,l⟩:=hl i x v hN e hv
 have fin:EP X pins σ Q u s:=⟨v,H,I,r,h⟩
 rcases l with ⟨hk,hm⟩ | ⟨hk,c,hc,hcell⟩
 ·exact wpAny_Name (wpAny_loadName_local I.ok.kind hk hn hm fin) hd
 ·rcases hk with hk | hk
  ·exact wpAny_Name (wpAny_loadName_cell I.ok.kind hk hc hcell fin) hd
  ·exact wpAny_Name (wpAny_loadName_free I.ok.kind hk hc hcell fin hcd) hd
theorem Tm {i j pos}:PE X (.Constant (.int i) j pos) (tC (.int i)):=fun _ _ _ H _ I h=>wpAny_Constant_int ⟨.int i,H,I.tok _,⟨_,rfl⟩,h⟩
theorem Uz {b j pos}:PE X (.Constant (.bool b) j pos) (tC (.bl b)):=fun _ _ _ H _ I h=>Constant_bool ⟨.bl b,H,I,rfl,h⟩
theorem Tp {j pos}:PE X (.Constant .none j pos) (tC .non):=fun _ _ _ H _ I h=>Constant_none ⟨.non,H,I,rfl,h⟩
theorem N6 {x j pos}:PE X (.Constant (.str x) j pos) (tC (.str x)):=fun _ _ _ H _ I h=>Calls.Constant_str ⟨.str x,H,I.tok _,⟨_,rfl⟩,h⟩
def Gl (X:Cx) (x:Str):Prop:=X.env.kindOf x=some .globalImplicit
theorem EI {E:Value→Shared→Prop} {pins:List (Addr×Obj)} {s:Shared} {σ:St} {H:Hp} {x:Str} {u:Value} {pos:Pos} {Q:Value→Shared→Prop} (I:Inv X pins σ H s) (hg:Gl X x) (hm:X.mg x=some u) (h:Q u s)
 (hd:(x == ("__debug__" : Str))=false:=by decide):wpAny (model X.prog X.w) X.A (eval (.Name x pos) X.env) Q E s:=
 Calls.Name_function_global I.ok.kind hg (Calls.loadGlobal_global (by rw [I.ok.glob];exact I.mod.glob.keeps I.bk) hm h) hd
theorem HL {E:Value→Shared→Prop} {pins:List (Addr×Obj)} {s:Shared} {σ:St} {H:Hp} {x:Str} {u:Value} {pos:Pos} {Q:Value→Shared→Prop} (I:Inv X pins σ H s) (hg:Gl X x) (hm:X.mg x=none) (hv:bootBuiltins x=some u) (h:Q u s)
 (hn:x≠"__name__":=by decide) (hd:(x == ("__debug__" : Str))=false:=by decide):wpAny (model X.prog X.w) X.A (eval (.Name x pos) X.env) Q E s:=by
 obtain ⟨mb,h1,h2⟩:=I.mod.blt
 exact Calls.Name_function_global I.ok.kind hg (Calls.loadGlobal_builtin (by rw [I.ok.glob];exact I.mod.glob.keeps I.bk) hm (by rw [I.ok.blt];exact h1.keeps I.bk) ((h2 x hn).trans hv) h) hd
theorem Mi {x:Str} {v:V} {u:Value} {pos:Pos} (hg:Gl X x) (hm:X.mg x=some u) (r:RelV v u) (hd:(x == ("__debug__" : Str))=false:=by decide):PE X (.Name x pos) (tC v):=
 fun _ _ _ H _ I h=>EI I hg hm ⟨v,H,I,r,h⟩ hd
theorem Rp {x:Str} {v:V} {u:Value} {pos:Pos} (hg:Gl X x) (hm:X.mg x=none) (hv:bootBuiltins x=some u) (r:RelV v u) (hn:x≠"__name__":=by decide) (hd:(x == ("__debug__" : Str))=false:=by decide):PE X (.Name x pos) (tC v):=
 fun _ _ _ H _ I h=>HL I hg hm hv ⟨v,H,I,r,h⟩ hn hd
variable {a b:Expr} {ta tb:TE} {pos:Pos}
def tB (t:TE):TT:=fun σ H Q=>t σ H fun x H1=>∃c,x = .bl c∧Q c H1
theorem Tx {e:Expr} {t:TE} (h:PE X e t) (he:∀whole,isTrue e X.env whole=(do let v ←whole;standAt e.pos;holding [v] (truthy v)):=by intro _;rfl):PT X e (tB t):=by
 intro pins s σ H Q I hw
 refine isTrue_plain (thn (h pins s σ H _ I hw) fun v s1 ⟨x,H1,I1,r1,q1⟩=>?_) (he _)
 obtain ⟨d,rfl,q⟩:=q1
 cases r1
 exact wpAny_truthy_bool ⟨H1,I1,q⟩
variable {tA tB':TT} {rest:List Expr}
def VX (t u:TT):TT:=fun σ H Q=>t σ H fun c H1=>if c=true then u σ H1 Q else Q false H1
def tOr (t u:TT):TT:=fun σ H Q=>t σ H fun c H1=>if c=true then Q true H1 else u σ H1 Q
def V0 (t:TT):TT:=fun σ H Q=>t σ H fun c H1=>Q (!c) H1
theorem RV (ha:PT X a tA):PW X (.BoolOp .And [a] pos) tA:=by
 intro wh pins s σ H Q I h
 refine isTrue_and (thn (ha pins s σ H Q I h) fun c s1 e=>?_)
 cases c with
 | true=>exact isTrue_and_nil e
 | false=>exact e
theorem Tz (ha:PT X a tA):PW X (.BoolOp .Or [a] pos) tA:=by
 intro wh pins s σ H Q I h
 refine isTrue_or (thn (ha pins s σ H Q I h) fun c s1 e=>?_)
 cases c with
 | false=>exact isTrue_or_nil e
 | true=>exact e
theorem Ty (ha:PT X a tA) (hb:PW X (.BoolOp .And (b :: rest) pos) tB'):PW X (.BoolOp .And (a :: b :: rest) pos) (VX tA tB'):=by
 intro wh pins s σ H Q I h
 refine isTrue_and (thn (ha pins s σ H _ I h) fun c s1 ⟨H1,I1,q1⟩=>?_)
 cases c with
 | true=>exact hb wh pins s1 σ H1 Q I1 q1
 | false=>exact ⟨H1,I1,q1⟩
theorem UE (ha:PT X a tA) (hb:PW X (.BoolOp .Or (b :: rest) pos) tB'):PW X (.BoolOp .Or (a :: b :: rest) pos) (tOr tA tB'):=by
 intro wh pins s σ H Q I h
 refine isTrue_or (thn (ha pins s σ H _ I h) fun c s1 ⟨H1,I1,q1⟩=>?_)
 cases c with
 | true=>exact ⟨H1,I1,q1⟩
 | false=>exact hb wh pins s1 σ H1 Q I1 q1
theorem Tw (ha:PT X a tA):PT X (.UnaryOp .Not a pos) (V0 tA):=by
 intro pins s σ H Q I h
 refine isTrue_not (thn (ha pins s σ H (fun c H1=>Q (!c) H1) I h) fun c s1 z=>?_)
 obtain ⟨H1,I1,q1⟩:=z
 exact ⟨H1,I1,q1⟩
def UI (ta tb:TE):TE:=fun σ H Q=>ta σ H fun x H1=>∃c,x = .bl c∧if c=true then tb σ H1 Q else Q (.bl false) H1
def UM (ta:TE):TE:=fun σ H Q=>ta σ H fun x H1=>∃c,x = .bl c∧Q (.bl (!c)) H1
theorem Tr {op} {t:TE} (h:PE X a t):PE X (.BoolOp op [a] pos) t:=fun pins s σ H Q I hw=>BoolOp_one (h pins s σ H Q I hw)
theorem Tl (ha:PE X a ta) (hb:PE X (.BoolOp .And (b :: rest) pos) tb):PE X (.BoolOp .And (a :: b :: rest) pos) (UI ta tb):=by
 intro pins s σ H Q I h
 refine BoolOp_and (thn (ha pins s σ H _ I h) fun v s1 ⟨x,H1,I1,r1,q1⟩=>?_)
 obtain ⟨c,rfl,q1⟩:=q1
 cases r1
 refine wpAny_truthy_bool ?_
 cases c with
 | true=>exact hb pins s1 σ H1 Q I1 q1
 | false=>exact ⟨.bl false,H1,I1,rfl,q1⟩
theorem Tq (ha:PE X a ta):PE X (.UnaryOp .Not a pos) (UM ta):=by
 intro pins s σ H Q I h
 refine UnaryOp_ (thn (ha pins s σ H _ I h) fun v s1 ⟨x,H1,I1,r1,q1⟩=>?_)
 obtain ⟨c,rfl,q1⟩:=q1
 cases r1
 exact not_of (wpAny_truthy_bool ⟨.bl (!c),H1,I1,rfl,q1⟩)
def tIf (t:TT) (ta tb:TE):TE:=fun σ H Q=>t σ H fun c H1=>if c=true then ta σ H1 Q else tb σ H1 Q
theorem Pj {c:Expr} (hc:PT X c tA) (ha:PE X a ta) (hb:PE X b tb):PE X (.IfExp c a b pos) (tIf tA ta tb):=by
 intro pins s σ H Q I h
 refine wpAny_IfExp (thn (hc pins s σ H _ I h) fun d s1 ⟨H1,I1,q1⟩=>?_)
 cases d with
 | true=>exact ha pins s1 σ H1 Q I1 q1
 | false=>exact hb pins s1 σ H1 Q I1 q1
end
def SqL (K:PySem.W.Frag) (H:Hp) (a:Addr) (xs:List V):Prop:=
 Rd H a (.lst xs)∨
  ∃(o:Obj) (its:Array Value) (n:Nat),K.lookup a=some o∧o.cls = .type "list"∧o.dict=none∧o.data = .seq its n∧its.size≤sizeLine∧Vals xs its.toList
def SqT (K:PySem.W.Frag) (H:Hp) (a:Addr) (xs:List V):Prop:=
 Rd H a (.tup xs)∨
  ∃(o:Obj) (its:Array Value) (n:Nat),K.lookup a=some o∧o.cls = .type "tuple"∧o.data = .seq its n∧its.size≤sizeLine∧Vals xs its.toList
def Vz:Value→Option V
 | .none=>some .non
 | .bool b=>some (.bl b)
 | .int i _=>some (.int i)
 | .str x _=>some (.str x)
 | .bytes b _=>some (.byt b)
 | .float b _=>some (.flt b)
 | .ref a=>some (.ref a)
 | .type n=>some (.ty n)
 | _=>none
theorem RelV.abs {x:V} {u:Value} (r:RelV x u):Vz u=some x:=by
 cases x with
 | non=>cases r;rfl
 | bl _=>cases r;rfl
 | int _=>obtain ⟨t,rfl⟩:=r;rfl
 | str _=>obtain ⟨t,rfl⟩:=r;rfl
 | byt _=>obtain ⟨t,rfl⟩:=r;rfl
 | flt _=>obtain ⟨t,rfl⟩:=r;rfl
 | ref _=>cases r;rfl
 | ty _=>cases r;rfl
theorem RelV.inj {x y:V} {u:Value} (r:RelV x u) (q:RelV y u):x=y:=Option.some.inj (r.abs.symm.trans q.abs)
theorem Vals.inj:∀{xs ys:List V} {us:List Value},Vals xs us→Vals ys us→xs=ys
 | _,_,_,.nil,.nil=>rfl
 | _,_,_,.cons r t,.cons r' t'=>by rw [r.inj r',Vals.inj t t']
section
variable {X:Cx} {pins:List (Addr×Obj)} {σ:St} {H:Hp} {s:Shared} {a:Addr} {xs ys:List V}
theorem SqL.of {K:PySem.W.Frag} (h:H a=some (.lst xs)):SqL K H a xs:=.inl (.inl h)
theorem SqT.of {K:PySem.W.Frag} (h:H a=some (.tup xs)):SqT K H a xs:=.inl (.inl h)
theorem Inv.list (I:Inv X pins σ H s) (h:SqL X.K H a xs):∃its:List Value,Vals xs its∧PlainL s.heap a its.toArray∧xs.length≤sizeLine:=by
 rcases h with h | ⟨o,its,n,hk,hc,hd,hs,hz,r⟩
 ·obtain ⟨z,its,n,r,e⟩:=h.ok I.hok
  exact ⟨its,r,⟨_,n,e,rfl,rfl,rfl⟩,z⟩
 ·refine ⟨its.toList,r,⟨o,n,I.kIn a o hk,hc,hd,by simpa using hs⟩,?_⟩
  have e:=r.length
  simp only [Array.length_toList] at e
  lia
theorem Inv.tuple (I:Inv X pins σ H s) (h:SqT X.K H a xs):∃its:List Value,Vals xs its∧IsTup s.heap a its.toArray∧xs.length≤sizeLine:=by
 rcases h with h | ⟨o,its,n,hk,hc,hs,hz,r⟩
 ·obtain ⟨z,its,r,p⟩:=h.ok I.hok
  exact ⟨its,r,p,z⟩
 ·refine ⟨its.toList,r,⟨o,I.kIn a o hk,hc,n,by simpa using hs⟩,?_⟩
  have e:=r.length
  simp only [Array.length_toList] at e
  lia
theorem Inv.list_inj (I:Inv X pins σ H s) (h:SqL X.K H a xs) (h':SqL X.K H a ys):xs=ys:=by
 obtain ⟨its,r,⟨o,n,e,_,_,d⟩,_⟩:=I.list h
 obtain ⟨its',r',⟨o',n',e',_,_,d'⟩,_⟩:=I.list h'
 rw [e] at e';cases e'
 rw [d] at d'
 injection d' with d1 _
 have:its=its':=by simpa using congrArg Array.toList d1
 subst this
 exact r.inj r'
theorem Inv.tuple_inj (I:Inv X pins σ H s) (h:SqT X.K H a xs) (h':SqT X.K H a ys):xs=ys:=by
 obtain ⟨its,r,⟨o,e,_,n,d⟩,_⟩:=I.tuple h
 obtain ⟨its',r',⟨o',e',_,n',d'⟩,_⟩:=I.tuple h'
 rw [e] at e';cases e'
 rw [d] at d'
 injection d' with d1 _
 have:its=its':=by simpa using congrArg Array.toList d1
 subst this
 exact r.inj r'
end
abbrev Cx.wish (X:Cx) (E:Value→Shared→Prop):Cx:={ X with xe:=E }
abbrev Cx.nox (X:Cx):Cx:=X.wish fun _ _=>False
theorem Cx.Ok.wish {X:Cx} (ok:X.Ok) (E:Value→Shared→Prop):(X.wish E).Ok:=
 ⟨ok.mod,ok.kind,ok.glob,ok.blt,ok.above,ok.inj,ok.has,ok.cab,ok.hd,ok.frames,ok.stk,ok.exf,ok.bs,ok.bsz,ok.noex,ok.exfs,ok.funs,ok.frf⟩
theorem Cx.Ok.unwish {X:Cx} {E:Value→Shared→Prop} (ok:(X.wish E).Ok):X.Ok:=
 ⟨ok.mod,ok.kind,ok.glob,ok.blt,ok.above,ok.inj,ok.has,ok.cab,ok.hd,ok.frames,ok.stk,ok.exf,ok.bs,ok.bsz,ok.noex,ok.exfs,ok.funs,ok.frf⟩
section
variable {X:Cx} {pins:List (Addr×Obj)} {σ:St} {H:Hp} {s:Shared} {E:Value→Shared→Prop}
theorem Inv.wish (I:Inv X pins σ H s) (E:Value→Shared→Prop):Inv (X.wish E) pins σ H s:=⟨I.ok.wish E,I.os,I.bare,I.base,I.loc,I.cell,I.free,I.freeC,I.pin,I.hok,I.len,I.tk⟩
theorem Inv.unwish (I:Inv (X.wish E) pins σ H s):Inv X pins σ H s:=⟨I.ok.unwish,I.os,I.bare,I.base,I.loc,I.cell,I.free,I.freeC,I.pin,I.hok,I.len,I.tk⟩
theorem SP.unwish {D:Ends} {f:Flow} {s':Shared} (h:SP (X.wish E) pins D f s'):SP X pins D f s':=by
 cases f with
 | next=>obtain ⟨σ',H',I,q⟩:=h;exact ⟨σ',H',I.unwish,q⟩
 | brk=>obtain ⟨σ',H',I,q⟩:=h;exact ⟨σ',H',I.unwish,q⟩
 | cont=>obtain ⟨σ',H',I,q⟩:=h;exact ⟨σ',H',I.unwish,q⟩
 | ret u=>obtain ⟨v,σ',H',I,r,q⟩:=h;exact ⟨v,σ',H',I.unwish,r,q⟩
theorem PSs.nox {st:List Stmt} {t:TS} (h:PSs X.nox st t):PSs X st t:=fun pins s σ H D I hw=>
 wpAny_mono (h pins s σ H D (I.wish _) hw) (fun _ _ q=>q.unwish) fun _ _ z=>False.elim z
end
section
variable {X:Cx} {st:Stmt} {rest:List Stmt} {t u:TS} {e:Expr} {te:TE} {pos:Pos}
def UL:TS:=fun D σ H=>D.nx σ H
def V2 (t u:TS):TS:=fun D σ H=>t { D with nx:=u D } σ H
theorem RN:PSs X [] UL:=fun _ _ σ H _ I h=>wpAny_execs_nil ⟨σ,H,I,h⟩
theorem Pw (h1:PS X st t) (h2:PSs X rest u):PSs X (st :: rest) (V2 t u):=by
 intro pins s σ H D I h
 refine wpAny_execs_cons (thn (h1 pins s σ H { D with nx:=u D } I h) fun f s1 q=>?_)
 cases f with
 | next=>
   obtain ⟨σ',H',I',q⟩:=q
   exact h2 pins s1 σ' H' D I' q
 | ret v=>exact q
 | brk=>exact q
 | cont=>exact q
theorem RQ (h1:PS X st t):PSs X [st] t:=by
 intro pins s σ H D I h
 refine wpAny_execs_cons (thn (h1 pins s σ H D I h) fun f s1 q=>?_)
 cases f with
 | next=>exact wpAny_execs_nil q
 | ret v=>exact q
 | brk=>exact q
 | cont=>exact q
theorem Inv.quiet {pins:List (Addr×Obj)} {σ:St} {H:Hp} {s:Shared} (I:Inv X pins σ H s):interactive X.env=false:=by simp [interactive,I.ok.kind]
def Qv (te:TE):TS:=fun D σ H=>te σ H fun _ H1=>D.nx σ H1
theorem Mj (he:PE X e te) (hs:swapsWith e none pos.line X.env=pure false:=by rfl):PS X (.Expr e pos) (Qv te):=by
 intro pins s σ H D I h
 exact wpAny_Expr_any (thn (he pins s σ H _ I h) fun v s1 ⟨x,H1,I1,r1,q1⟩=>⟨σ,H1,I1,q1⟩) I.quiet hs
def V1 (te:TE):TS:=fun D σ H=>te σ H D.rt
theorem Tv (he:PE X e te):PS X (.Return (some e) pos) (V1 te):=by
 intro pins s σ H D I h
 exact wpAny_Return_some (thn (he pins s σ H _ I h) fun v s1 ⟨x,H1,I1,r1,q1⟩=>⟨x,σ,H1,I1,r1,q1⟩)
def VY (c:TT) (t u:TS):TS:=fun D σ H=>c σ H fun b H1=>if b=true then t D σ H1 else u D σ H1
theorem UD {c:Expr} {a b:List Stmt} {tc:TT} (hc:PT X c tc) (ha:PSs X a t) (hb:PSs X b u):PS X (.If c a b pos) (VY tc t u):=by
 intro pins s σ H D I h
 refine wpAny_If (thn (hc pins s σ H _ I h) fun d s1 ⟨H1,I1,q1⟩=>?_)
 cases d with
 | true=>exact ha pins s1 σ H1 D I1 q1
 | false=>exact hb pins s1 σ H1 D I1 q1
end
abbrev TG:=V→St→Hp→(St→Hp→Prop)→Prop
abbrev TGs:=List V→St→Hp→(St→Hp→Prop)→Prop
def PG (X:Cx) (target:Expr) (t:TG):Prop:=
 ∀(pins:List (Addr×Obj)) (s:Shared) (σ:St) (H:Hp) (v:V) (u:Value) (Q:St→Hp→Prop),Inv X pins σ H s→RelV v u→t v σ H Q→
  wpAny (model X.prog X.w) X.A (assign target X.env u) (fun _ s'=>∃σ' H',Inv X pins σ' H' s'∧Q σ' H') X.xe s
def PGs (X:Cx) (ts:List Expr) (t:TGs):Prop:=
 ∀(pins:List (Addr×Obj)) (s:Shared) (σ:St) (H:Hp) (vs:List V) (us:List Value) (Q:St→Hp→Prop),Inv X pins σ H s→Vals vs us→t vs σ H Q→
  wpAny (model X.prog X.w) X.A (assignInOrder ((assignEach ts X.env).map (·.2)) us) (fun _ s'=>∃σ' H',Inv X pins σ' H' s'∧Q σ' H') X.xe s
abbrev OK:=V→V→V→Hp→(Hp→Prop)→Prop
def Sw (X:Cx) (t:OK):Prop:=
 ∀(pins:List (Addr×Obj)) (s:Shared) (σ:St) (H:Hp) (o i v:V) (ov iv u:Value) (Q:Hp→Prop),Inv X pins σ H s→RelV o ov→RelV i iv→RelV v u→t o i v H Q→
  wpAny (model X.prog X.w) X.A (setItem ov iv u) (fun _ s'=>∃H',Inv X pins σ H' s'∧Q H') X.xe s
section
variable {X:Cx} {pos:Pos}
def HE (i:Nat):TG:=fun v σ H Q=>Q (σ.set i (some v)) H
theorem Rv {i:Nat} {x:Str} (hN:X.N.Nodup) (hi:X.N[i]?=some x) (hx:Loc X.env.scope x) (hf:X.fn x=true∨X.env.scope.names.lookup x=some .local:=by first | exact .inl rfl | exact .inr rfl | assumption):PG X (.Name x pos) (HE i):=by
 intro pins s σ H v u Q I r h
 exact wpAny_assign_Name (Lj I hN hi hx r (fun s' I'=>⟨_,H,I',h⟩) hf)
def VL:TGs:=fun vs σ H Q=>vs=[]∧Q σ H
def Qg (t:TG) (u:TGs):TGs:=fun vs σ H Q=>∃v r,vs=v :: r∧t v σ H fun σ' H'=>u r σ' H' Q
theorem Rw:PGs X [] VL:=by
 intro pins s σ H vs us Q I r h
 obtain ⟨e,h⟩:=h
 subst e
 cases r
 exact assignInOrder_nil ⟨σ,H,I,h⟩
theorem Pl {e:Expr} {es:List Expr} {t:TG} {u:TGs} (h1:PG X e t) (h2:PGs X es u)
 (hs:(assignEach (e :: es) X.env).map (·.2)=assign e X.env :: (assignEach es X.env).map (·.2):=by rfl):PGs X (e :: es) (Qg t u):=by
 intro pins s σ H vs us Q I r h
 obtain ⟨v,vr,e1,h⟩:=h
 subst e1
 cases r with
 | cons r rr=>
   rw [hs]
   refine assignInOrder_cons (thn (h1 pins s σ H _ _ _ I r h) fun _ s1 ⟨σ1,H1,I1,q1⟩=>?_)
   exact h2 pins s1 σ1 H1 _ _ Q I1 rr q1
def VN (K:PySem.W.Frag) (n:Nat) (t:TGs):TG:=fun v σ H Q=>∃a xs,v = .ref a∧SqT K H a xs∧xs.length=n∧t xs σ H Q
theorem Tu {es:List Expr} {k:Nat} {t:TGs} {n:Nat} (hc:X.calm=true) (h:PGs X es t)
 (hn:(assignEach es X.env).length=n:=by rfl) (hst:(assignEach es X.env).findIdx? (·.1)=none:=by rfl):PG X (.Tuple es k pos) (VN X.K n t):=by
 intro pins s σ H v u Q I r hw
 obtain ⟨a,xs,e1,hq,hl,hw⟩:=hw
 subst e1
 cases r
 obtain ⟨its,rv,ht,hz⟩:=I.tuple hq
 refine assign_Tuple_tuple (I.ok.hd hc) ht (by simp [hn,←hl,rv.length]) hst fun h' hx=>?_
 have I1:Inv X pins σ H { s with heap:=h' }:=I.kept (t':=s.toks) fun b o e=>hx b o (Nat.ne_of_lt (Heap.lt_size e)) e
 exact h pins _ σ H xs _ Q I1 (by simpa using rv) hw
def VM (to ti:TE) (t:OK):TG:=fun v σ H Q=>to σ H fun o H1=>ti σ H1 fun i H2=>t o i v H2 fun H3=>Q σ H3
theorem Tt {o i:Expr} {to ti:TE} {t:OK} (ho:PE X o to) (hi:PE X i ti) (hs:Sw X t)
 (ha:∀v,assign (.Subscript o i pos) X.env v=(do
   let ov ←holding [v] (eval o X.env)
   let iv ←holding [v,ov] (eval i X.env)
   standAt pos
   holding [v,ov,iv] (setItem ov iv v)
   release [v,ov,iv] []):=by intro _;rfl):PG X (.Subscript o i pos) (VM to ti t):=by
 intro pins s σ H v u Q I r h
 rw [ha]
 refine wpAny_bind (wpAny_holding (thn (ho pins s σ H _ I h) fun ov s1 ⟨x,H1,I1,r1,q1⟩=>?_))
 refine wpAny_bind (wpAny_holding (thn (hi pins s1 σ H1 _ I1 q1) fun iv s2 ⟨y,H2,I2,r2,q2⟩=>?_))
 refine wpAny_bind (wpAny_standAt (wpAny_bind (wpAny_holding (thn (hs pins s2 σ H2 x y v ov iv u _ I2 r1 r2 r q2) fun _ s3 ⟨H3,I3,q3⟩=>?_))))
 exact wpAny_release ⟨σ,H3,I3,q3⟩
def Ln (te:TE) (g:TG):TS:=fun D σ H=>te σ H fun x H1=>g x σ H1 D.nx
theorem Oc {tg e:Expr} {te:TE} {g:TG} (he:PE X e te) (hg:PG X tg g) (hs:swapsWithSole [tg] e pos.line X.env=pure false:=by rfl) (hw:swappedStores [tg] e X.env=pure none:=by rfl)
 (h1:(assignEach [tg] X.env).map (·.2)=[assign tg X.env]:=by rfl):PS X (.Assign [tg] e pos) (Ln te g):=by
 intro pins s σ H D I h
 refine wpAny_Assign_stores (thn (he pins s σ H _ I h) fun v s1 ⟨x,H1,I1,r1,q1⟩=>?_) hs hw
 rw [h1]
 exact thn (hg pins s1 σ H1 x v _ I1 r1 q1) fun _ s2 q=>q
theorem Oe {i:Nat} {x:Str} {e:Expr} {te:TE} {pos':Pos} (hN:X.N.Nodup) (hi:X.N[i]?=some x) (hx:Loc X.env.scope x) (he:PE X e te) (hs:swapsWith e (some (.Name x pos')) pos.line X.env=pure false:=by rfl) (hf:X.fn x=true∨X.env.scope.names.lookup x=some .local:=by first | exact .inl rfl | exact .inr rfl | assumption) :
 PS X (.Assign [.Name x pos'] e pos) (Ln te (HE i)):=by
 intro pins s σ H D I h
 refine wpAny_Assign_Name (thn (he pins s σ H _ I h) fun v s1 ⟨y,H1,I1,r1,q1⟩=>?_) hs
 exact Lj I1 hN hi hx r1 (fun s2 I2=>⟨_,H1,I2,q1⟩) hf
end
section
variable {X:Cx} {pos:Pos}
def Ou (c:TT) (tb:TS):TS:=fun D σ H=>∃W:Nat→St→Hp→Prop,(∃m,W m σ H)∧∀m σ H,W m σ H→
 c σ H fun b H1=>if b=true then ∃N:St→Hp→Prop,(∀σ' H',N σ' H'→∃m',m' < m∧W m' σ' H')∧tb { D with nx:=N,ct:=N,bk:=D.nx } σ H1 else D.nx σ H1
theorem Pv {c:Expr} {body:List Stmt} {tc:TT} {tb:TS} (hp:PassesOwn (model X.prog X.w) X.A X.env X.xe) (hc:PT X c tc) (hb:PSs X body tb):PS X (.While c body [] pos) (Ou tc tb):=by
 intro pins s σ H D I h
 obtain ⟨W,⟨m0,w0⟩,turn⟩:=h
 refine wpAny_While (codeAny_whileLoop (fun n s'=>∃σ' H',Inv X pins σ' H' s'∧W n σ' H') ?_ m0 ⟨σ,H,I,w0⟩)
 rintro n s1 ⟨σ1,H1,I1,w1⟩
 refine wpAny_passesOwn hp (thn (hc pins s1 σ1 H1 _ I1 (turn n σ1 H1 w1)) fun b s2 ⟨H2,I2,q2⟩=>?_)
 cases b with
 | true=>
   obtain ⟨N,hN,q2⟩:=q2
   rw [if_pos rfl]
   refine wpAny_passesOwn hp (thn (hb pins s2 σ1 H2 _ I2 q2) fun f s3 q3=>?_)
   cases f with
   | next=>
     obtain ⟨σ3,H3,I3,n3⟩:=q3
     obtain ⟨m',hm,w3⟩:=hN σ3 H3 n3
     exact ⟨m',hm,σ3,H3,I3,w3⟩
   | cont=>
     obtain ⟨σ3,H3,I3,n3⟩:=q3
     obtain ⟨m',hm,w3⟩:=hN σ3 H3 n3
     exact ⟨m',hm,σ3,H3,I3,w3⟩
   | brk=>exact q3
   | ret v=>exact q3
 | false=>
   rw [if_neg Bool.false_ne_true]
   exact wpAny_execs_nil ⟨σ1,H2,I2,q2⟩
end
structure It where
 go:Nat→Hp→Prop
 yld:Nat→Hp→V→Hp→Prop
 stop:Nat→Hp→Prop
def FpOk (X:Cx) (pins:List (Addr×Obj)) (H:Hp) (b:Addr):Prop:=
 H b=none∧b≠X.env.locals∧b∉X.fs∧(b∈X.ex∨X.s₀.heap.objs.size≤b)∧(∀x c,X.env.cells.lookup x=some c→c≠b)∧∀p∈X.pn++pins,p.1≠b
theorem Inv.fpOk {X:Cx} {pins:List (Addr×Obj)} {σ:St} {H H':Hp} {s:Shared} {b:Addr} (I:Inv X pins σ H s) (hb:s.heap.objs.size≤b) (hn:H' b=none):FpOk X pins H' b:=by
 refine ⟨hn,Nat.ne_of_gt (Nat.lt_of_lt_of_le I.lt hb),I.nofs hb,.inr (Nat.le_trans I.sz hb),fun x c e z=>?_,fun p hp z=>?_⟩
 ·obtain ⟨v,q⟩:=I.cell x c e
  exact absurd (Nat.lt_of_lt_of_le q.lt (by rw [z];exact hb)) (Nat.lt_irrefl _)
 ·exact absurd (Nat.lt_of_lt_of_le (Heap.lt_size (I.pin p hp).1) (by rw [z];exact hb)) (Nat.lt_irrefl _)
structure Turn (P:Program) (w:World) (K:PySem.W.Frag) (tg:Expr) (J:It) (fp:List Addr) (it:Addr) (tn:Nat→Heap→Prop):Prop where
 mem:it∈fp
 obj:∀i h,tn i h→∀b∈fp,∃o,h.get? b=some o∧∀v,o.data≠.cell v
 keep:∀i h h',tn i h→(∀b∈fp,∀o,h.get? b=some o→h'.get? b=some o)→tn i h'
 item:∀(X:Cx),X.prog=P→X.w=w→X.K=K→X.calm=true→∀(i:Nat) (pins:List (Addr×Obj)) (s:Shared) (σ:St) (H:Hp) (E:Value→Shared→Prop),Inv X pins σ H s→(∀b∈fp,FpOk X pins H b)→tn i s.heap→J.go i H→
  wpAny (model P w) X.A (pyNext (.ref it)) (fun r s1=>∃u,r=some u∧
   wpAny (model P w) X.A (letOwnedTupleGo tg (.ref it) u) (fun _ s2=>∃x H',Inv X pins σ H' s2∧RelV x u∧J.yld i H x H'∧tn (i + 1) s2.heap∧∀b∈fp,H' b=none) E s1) E s
 done:∀(X:Cx),X.prog=P→X.w=w→X.K=K→X.calm=true→∀(i:Nat) (pins:List (Addr×Obj)) (s:Shared) (σ:St) (H:Hp) (E:Value→Shared→Prop),Inv X pins σ H s→(∀b∈fp,FpOk X pins H b)→tn i s.heap→J.stop i H→
  wpAny (model P w) X.A (pyNext (.ref it)) (fun r s1=>r=none∧Inv X pins σ H s1) E s
 self:∀(A:Around) (i:Nat) (s:Shared) (Q:Value→Shared→Prop) (E:Value→Shared→Prop),tn i s.heap→Q (.ref it) s→wpAny (model P w) A (pyIter (.ref it)) Q E s
abbrev TI:=St→Hp→(It→Hp→Prop)→Prop
def PIE (X:Cx) (pins:List (Addr×Obj)) (σ:St) (tg:Expr) (R:It→Hp→Prop) (itv:Value) (s2:Shared):Prop:=
 ∃(it:Addr) (fp:List Addr) (tn:Nat→Heap→Prop) (J:It) (H':Hp),itv = .ref it∧Inv X pins σ H' s2∧Turn X.prog X.w X.K tg J fp it tn∧tn 0 s2.heap∧(∀b∈fp,FpOk X pins H' b)∧R J H'
def PI (X:Cx) (tg iter:Expr) (wi:TI):Prop:=
 ∀(pins:List (Addr×Obj)) (s:Shared) (σ:St) (H:Hp) (R:It→Hp→Prop),Inv X pins σ H s→wi σ H R→
  wpAny (model X.prog X.w) X.A (eval iter X.env) (fun v s1=>wpAny (model X.prog X.w) X.A (pyIter v) (PIE X pins σ tg R) X.xe s1) X.xe s
theorem J8 {M:Model} {A:Around} {E:Value→Shared→Prop} {s:Shared} {tg:Expr} {it:Addr} {u:Value} {o:Obj} {n:String} {vs:Array Value} {Q:Unit→Shared→Prop} (ho:s.heap.get? it=some o) (hc:o.cls = .type n) (hd:o.data = .fields vs)
 (hn:["enumerate", "zip", "dict_itemiterator", "dict_reverseitemiterator", "odict_iterator", "itertools.zip_longest", "itertools.pairwise"].contains n=false) (hQ:Q () s):wpAny M A (letOwnedTupleGo tg (.ref it) u) Q E s:=by
 unfold letOwnedTupleGo
 cases tg <;> first
  | exact wpAny_pure hQ
  | (cases u <;> first
      | exact wpAny_pure hQ
      | (refine wpAny_bind (wpAny_load ho ?_)
         rw [hc,hd]
         show wpAny M A (if (["enumerate", "zip", "dict_itemiterator", "dict_reverseitemiterator", "odict_iterator", "itertools.zip_longest", "itertools.pairwise"].contains n && vs[0]? == some (rawInt _))=true then _ else _) Q E s
         rw [if_neg (by intro h;rw [hn,Bool.false_and] at h;cases h)]
         exact wpAny_pure hQ))
def Itl (K:PySem.W.Frag) (a:Addr):It:=
 ⟨fun i H=>∃xs x,SqL K H a xs∧xs[i]?=some x,fun i H x H'=>H'=H∧∀xs,SqL K H a xs→xs[i]?=some x,fun i H=>∃xs,SqL K H a xs∧xs.length≤i⟩
def Itt (K:PySem.W.Frag) (a:Addr):It:=
 ⟨fun i H=>∃xs x,SqT K H a xs∧xs[i]?=some x,fun i H x H'=>H'=H∧∀xs,SqT K H a xs→xs[i]?=some x,fun i H=>∃xs,SqT K H a xs∧xs.length≤i⟩
def Itr (lo:Int) (n:Nat):It:=⟨fun i _=>i < n,fun i H x H'=>H'=H∧x = .int (lo + i),fun i _=>n≤i⟩
theorem Ox {P:Program} {w:World} {K:PySem.W.Frag} {tg:Expr} (a it:Addr):Turn P w K tg (Itl K a) [it] it (fun i h=>h.IsListIter it a i) where
 mem:=by simp
 obj:=fun i h st b hb=>by
  have e:b=it:=by simpa using hb
  subst e
  obtain ⟨o,e,c,d⟩:=st
  exact ⟨o,e,fun v z=>by rw [d] at z;cases z⟩
 keep:=fun i h h' st k=>st.at fun o e=>k it (by simp) o e
 item:=by
  intro X hP hw hK hc i pins s σ H E I hf st hg
  subst hP hw hK
  obtain ⟨xs,x,hq,hx⟩:=hg
  obtain ⟨its,rv,p,hz⟩:=I.list hq
  obtain ⟨u,hu,ru⟩:=rv.get hx
  obtain ⟨f0,f1,f2,f3,f4,f5⟩:=hf it (by simp)
  refine wpAny_pyNext_list_item st p.isList (x:=u) (by simpa using hu) fun h' st' sb=>?_
  have I1:Inv X pins σ H { s with heap:=h' }:=I.turned (t':=s.toks) (fun b o hb e=>(sb.2 b hb).trans e) f0 f1 f3 f4 f5
  obtain ⟨o,e,c,d⟩:=id st'
  exact ⟨u,rfl,J8 (s:={ s with heap:=h' }) e c d (by decide) ⟨x,H,I1,ru,⟨rfl,fun ys hy=>by rw [I.list_inj hy hq];exact hx⟩,st',fun b hb=>(hf b hb).1⟩⟩
 done:=by
  intro X hP hw hK hc i pins s σ H E I hf st hg
  subst hP hw hK
  obtain ⟨xs,hq,hx⟩:=hg
  obtain ⟨its,rv,p,hz⟩:=I.list hq
  obtain ⟨f0,f1,f2,f3,f4,f5⟩:=hf it (by simp)
  have hl:=rv.length
  exact wpAny_pyNext_list_end (I.ok.hd hc) st p.isList (by simp;lia) fun h' eb=>⟨rfl,I.turned (t':=s.toks) (fun b o hb e=>eb b o hb e) f0 f1 f3 f4 f5⟩
 self:=fun _ _ _ _ _ st h=>wpAny_pyIter_listiter st h
theorem Nd {P:Program} {w:World} {K:PySem.W.Frag} {tg:Expr} (a it:Addr):Turn P w K tg (Itt K a) [it] it (fun i h=>h.IsTupleIter it a i) where
 mem:=by simp
 obj:=fun i h st b hb=>by
  have e:b=it:=by simpa using hb
  subst e
  obtain ⟨o,e,c,d⟩:=st
  exact ⟨o,e,fun v z=>by rw [d] at z;cases z⟩
 keep:=fun i h h' st k=>st.at fun o e=>k it (by simp) o e
 item:=by
  intro X hP hw hK hc i pins s σ H E I hf st hg
  subst hP hw hK
  obtain ⟨xs,x,hq,hx⟩:=hg
  obtain ⟨its,rv,p,hz⟩:=I.tuple hq
  obtain ⟨u,hu,ru⟩:=rv.get hx
  obtain ⟨f0,f1,f2,f3,f4,f5⟩:=hf it (by simp)
  refine wpAny_pyNext_tuple_item st (show s.heap.IsTuple a its.toArray from p) (x:=u) (by simpa using hu) fun h' st' sb=>?_
  have I1:Inv X pins σ H { s with heap:=h' }:=I.turned (t':=s.toks) (fun b o hb e=>(sb.2 b hb).trans e) f0 f1 f3 f4 f5
  obtain ⟨o,e,c,d⟩:=id st'
  exact ⟨u,rfl,J8 (s:={ s with heap:=h' }) e c d (by decide) ⟨x,H,I1,ru,⟨rfl,fun ys hy=>by rw [I.tuple_inj hy hq];exact hx⟩,st',fun b hb=>(hf b hb).1⟩⟩
 done:=by
  intro X hP hw hK hc i pins s σ H E I hf st hg
  subst hP hw hK
  obtain ⟨xs,hq,hx⟩:=hg
  obtain ⟨its,rv,p,hz⟩:=I.tuple hq
  obtain ⟨f0,f1,f2,f3,f4,f5⟩:=hf it (by simp)
  have hl:=rv.length
  exact wpAny_pyNext_tuple_end (I.ok.hd hc) st (show s.heap.IsTuple a its.toArray from p) (by simp;lia) fun h' eb=>⟨rfl,I.turned (t':=s.toks) (fun b o hb e=>eb b o hb e) f0 f1 f3 f4 f5⟩
 self:=fun _ _ _ _ _ st h=>wpAny_pyIter_tupleiter st h
theorem Nc {P:Program} {w:World} {K:PySem.W.Frag} {tg:Expr} (it:Addr) (lo:Int) (n:Nat):Turn P w K tg (Itr lo n) [it] it (fun i h=>IsRangeIter h it (lo + (i:Nat) * 1) ((n:Int) - (i:Nat)) 1) where
 mem:=by simp
 obj:=fun i h st b hb=>by
  have e:b=it:=by simpa using hb
  subst e
  exact ⟨_,st,fun v z=>by
   have z':Data.fields _=Data.cell v:=z
   cases z'⟩
 keep:=fun i h h' st k=>k it (by simp) _ st
 item:=by
  intro X hP hw hK hc i pins s σ H E I hf st hg
  subst hP hw hK
  obtain ⟨f0,f1,f2,f3,f4,f5⟩:=hf it (by simp)
  have W:=Walks.range (prog:=X.prog) (w:=X.w) (I.ok.hd hc) it lo 1 n
  refine wpAny_with_toks (Nat.le_refl s.toks) (W.item i s _ _ hg st fun v h' tk hv st' kk htk=>?_)
  obtain ⟨t,rfl⟩:=hv
  have I1:Inv X pins σ H { s with heap:=h',toks:=tk }:=I.turned (fun b o hb e=>kk b o (by simpa using hb) e) f0 f1 f3 f4 f5
  refine ⟨_,rfl,J8 (s:={ s with heap:=h',toks:=tk }) (n:="range_iterator") st' rfl rfl (by decide) ⟨.int (lo + i),H,I1,⟨t,?_⟩,⟨rfl,rfl⟩,st',fun b hb=>(hf b hb).1⟩⟩
  rw [Int.mul_one]
 done:=by
  intro X hP hw hK hc i pins s σ H E I hf st hg
  subst hP hw hK
  obtain ⟨f0,f1,f2,f3,f4,f5⟩:=hf it (by simp)
  exact wpAny_pyNext_range_end (I.ok.hd hc) st (by have:n≤i:=hg;lia) fun h' eb=>⟨rfl,I.turned (t':=s.toks) (fun b o hb e=>eb b o hb e) f0 f1 f3 f4 f5⟩
 self:=fun _ _ _ _ _ st h=>wpAny_pyIter_rangeiter st h
section
variable {X:Cx} {tg:Expr}
theorem PF {pins:List (Addr×Obj)} {σ:St} {H:Hp} {s:Shared} {R:It→Hp→Prop} {E:Value→Shared→Prop} {lo hi:Int} {t u v:Tok} {tk:Nat} (I:Inv X pins σ H s) (h1 : -(2 ^ 62)≤lo) (h2:lo < 2 ^ 62) (h3 : -(2 ^ 62)≤hi) (h4:hi < 2 ^ 62)
 (q:R (Itr lo (hi - lo).toNat) H) (ht:s.toks≤tk:=by first | exact Nat.le_refl _ | assumption | lia | (dsimp only;lia)):wpAny (model X.prog X.w) X.A (pyIter (.ref s.heap.objs.size)) (PIE X pins σ tg R) E { s with heap:=s.heap.push { cls:=.type "range",data:=.fields #[.int lo t,.int hi u,.int 1 v] },toks:=tk }:=by
 refine wpAny_pyIter_range (IsRange.new ..) (small_one h1 h2 h3 h4) ?_
 have I1:Inv X pins σ H { s with heap:=s.heap.push { cls:=.type "range",data:=.fields #[.int lo t,.int hi u,.int 1 v] },toks:=tk }:=I.kept fun b o e=>Heap.get?_push_of_some _ e
 refine ⟨(s.heap.push { cls:=.type "range",data:=.fields #[.int lo t,.int hi u,.int 1 v] }).objs.size,[(s.heap.push { cls:=.type "range",data:=.fields #[.int lo t,.int hi u,.int 1 v] }).objs.size],_,_,H,rfl,
  I1.kept (t':=tk) fun b o e=>Heap.get?_push_of_some _ e,Nc _ lo (hi - lo).toNat,?_,fun b hb=>?_,q⟩
 ·have e1:lo + ((0:Nat):Int) * 1=lo:=by simp
  have e2:(((hi - lo).toNat:Nat):Int) - ((0:Nat):Int)=Builtin.Range.rangeSize lo hi 1:=by rw [rangeSize_one];split <;> lia
  show IsRangeIter _ _ (lo + ((0:Nat):Int) * 1) ((((hi - lo).toNat:Nat):Int) - ((0:Nat):Int)) 1
  rw [e1,e2]
  exact Heap.get?_push_size _ rfl
 ·have e:b=(s.heap.push { cls:=.type "range",data:=.fields #[.int lo t,.int hi u,.int 1 v] }).objs.size:=by simpa using hb
  subst e
  exact I1.fpOk (Nat.le_refl _) (I1.hok.fresh (Nat.le_refl _))
def Uw (ta:TA):TI:=fun σ H R=>ta σ H fun vs H1=>∃j:Int,vs=[.int j]∧-(2 ^ 62)≤j∧j < 2 ^ 62∧R (Itr 0 j.toNat) H1
theorem N9 {a:Expr} {ta:TA} {p pos:Pos} (hg:Gl X "range") (hm:X.mg "range" = none) (ha:PA X [a] ta) (hs:starEach [a] X.env=[(false,eval a X.env)]:=by rfl):PI X tg (.Call (.Name "range" p) [a] [] pos) (Uw ta):=by
 intro pins s σ H R I h
 refine Call_ (HL I hg hm boot_range (PyProof.Rows.callWith_type1 (thn (ha pos pins s σ H _ I h) fun us s1 ⟨vs,H1,I1,r1,q1⟩=>?_) hs rfl))
 obtain ⟨j,e,q1,q2,q⟩:=q1
 subst e
 cases r1 with
 | cons r rr=>
   cases rr
   obtain ⟨t,rfl⟩:=r
   exact call_range_1 (PF I1 (by lia) (by lia) q1 q2 (by simpa using q))
def PR (wi:TI) (g:TG) (tb:TS):TS:=fun D σ H=>wi σ H fun J H1=>∃W:Nat→Nat→St→Hp→Prop,(∃m,W 0 m σ H1)∧∀i m σ H,W i m σ H→
 (J.stop i H∧D.nx σ H)∨(J.go i H∧∃N:St→Hp→Prop,(∀σ' H',N σ' H'→∃m',m' < m∧W (i + 1) m' σ' H')∧∀x H',J.yld i H x H'→g x σ H' fun σ2 H2=>tb { D with nx:=N,ct:=N,bk:=D.nx } σ2 H2)
def GB (fp:List Addr) (h:Heap):List (Addr×Obj):=fp.filterMap fun b=>(h.get? b).map fun o=>(b,o)
theorem EE {fp:List Addr} {h:Heap} {b:Addr} {o:Obj} (hb:b∈fp) (e:h.get? b=some o):(b,o)∈GB fp h:=List.mem_filterMap.mpr ⟨b,hb,by rw [e];rfl⟩
theorem N2 {fp:List Addr} {h:Heap} {p:Addr×Obj} (hp:p∈GB fp h):p.1∈fp∧h.get? p.1=some p.2:=by
 obtain ⟨b,hb,e⟩:=List.mem_filterMap.mp hp
 cases q:h.get? b with
 | none=>rw [q] at e;cases e
 | some o=>
   rw [q] at e
   have e':(b,o)=p:=Option.some.inj e
   subst e'
   exact ⟨hb,q⟩
theorem Inv.pinned {pins:List (Addr×Obj)} {σ:St} {H:Hp} {s:Shared} {fp:List Addr} (I:Inv X pins σ H s) (hf:∀b∈fp,FpOk X pins H b) (ho:∀b∈fp,∃o,s.heap.get? b=some o∧∀v,o.data≠.cell v):Inv X (pins++GB fp s.heap) σ H s:=
 I.pins_of fun p hp=>(List.mem_append.mp hp).elim (fun z=>I.pin p (List.mem_append_right _ z)) fun z=>by
  obtain ⟨hb,e⟩:=N2 z
  obtain ⟨f0,f1,f2,_⟩:=hf p.1 hb
  obtain ⟨o,e',d⟩:=ho p.1 hb
  rw [e] at e';cases e'
  exact ⟨e,f0,f1,f2,d⟩
theorem Inv.unpinned {pins pl:List (Addr×Obj)} {σ:St} {H:Hp} {s:Shared} (I:Inv X (pins++pl) σ H s):Inv X pins σ H s:=I.pins_of fun p hp=>I.pin p (List.mem_append_right _ (List.mem_append_left _ hp))
theorem Od {iter:Expr} {body:List Stmt} {wi:TI} {g:TG} {tb:TS} {pos:Pos} (hp:PassesOwn (model X.prog X.w) X.A X.env X.xe) (hc:X.calm=true) (hi:PI X tg iter wi) (hg:PG X tg g) (hb:PSs X body tb)
 (hs:∀x,foldedSetIterable iter X.env x=pure x:=by intro _;rfl):PS X (.For tg iter body [] pos) (PR wi g tb):=by
 intro pins s σ H D I h
 refine wpAny_For (thn (hi pins s σ H _ I h) fun v s1 h1=>thn h1 fun itv s2 h2=>?_) hs
 obtain ⟨it,fp,tn,J,H2,e,I2,T,st2,f2,W,⟨m0,w0⟩,turn⟩:=h2
 subst e
 -- what stays true of the iterator's objects through the loop
 have stat:∀{H':Hp},(∀b∈fp,H' b=none)→∀b∈fp,FpOk X pins H' b:=fun hn b hb=>⟨hn b hb,(f2 b hb).2⟩
 refine codeAny_forLoop_any (fun n s'=>∃i σ' H',Inv X pins σ' H' s'∧tn i s'.heap∧(∀b∈fp,H' b=none)∧W i n σ' H') ?_ m0 ⟨0,σ,H2,I2,st2,fun b hb=>(f2 b hb).1,w0⟩
 rintro n s3 ⟨i,σ3,H3,I3,st3,fr3,w3⟩
 rcases turn i n σ3 H3 w3 with ⟨stop,qn⟩ | ⟨go,N,hN,step⟩
 ·refine wpAny_passesOwn hp (thn (T.done X rfl rfl rfl hc i pins s3 σ3 H3 X.xe I3 (stat fr3) st3 stop) fun r s4 ⟨hr,I4⟩=>?_)
  subst hr
  exact wpAny_execs_nil ⟨σ3,H3,I4,qn⟩
 ·refine wpAny_passesOwn hp (thn (T.item X rfl rfl rfl hc i pins s3 σ3 H3 X.xe I3 (stat fr3) st3 go) fun r s4 ⟨u,hr,h4⟩=>?_)
  subst hr
  refine wpAny_passesOwn hp (thn h4 fun _ s5 ⟨x,H5,I5,r5,y5,st5,fr5⟩=>?_)
  have I5':=I5.pinned (stat fr5) (T.obj _ _ st5)
  refine wpAny_passesOwn hp (thn (hg _ s5 σ3 H5 x u _ I5' r5 (step x H5 y5)) fun _ s6 ⟨σ6,H6,I6,q6⟩=>?_)
  refine wpAny_passesOwn hp (thn (hb _ s6 σ6 H6 _ I6 q6) fun f s7 q7=>?_)
  have again:∀{σ7:St} {H7:Hp},Inv X (pins++GB fp s5.heap) σ7 H7 s7→N σ7 H7→∃m,m < n∧∃i σ' H',Inv X pins σ' H' s7∧tn i s7.heap∧(∀b∈fp,H' b=none)∧W i m σ' H':=fun {σ7 H7} I7 n7=>by
   obtain ⟨m',hm,w7⟩:=hN σ7 H7 n7
   refine ⟨m',hm,i + 1,σ7,H7,I7.unpinned,T.keep _ _ _ st5 fun b hb o e=>(I7.pin (b,o) (List.mem_append_right _ (List.mem_append_right _ (EE hb e)))).1,fun b hb=>?_,w7⟩
   obtain ⟨o,e,d⟩:=T.obj _ _ st5 b hb
   exact (I7.pin (b,o) (List.mem_append_right _ (List.mem_append_right _ (EE hb e)))).2.1
  cases f with
  | next=>obtain ⟨σ7,H7,I7,n7⟩:=q7;exact again I7 n7
  | cont=>obtain ⟨σ7,H7,I7,n7⟩:=q7;exact again I7 n7
  | brk=>obtain ⟨σ7,H7,I7,q7⟩:=q7;exact ⟨σ7,H7,I7.unpinned,q7⟩
  | ret v=>obtain ⟨x7,σ7,H7,I7,r7,q7⟩:=q7;exact ⟨x7,σ7,H7,I7.unpinned,r7,q7⟩
end
abbrev R2:=V→V→Hp→VK→Prop
def OpR (X:Cx) (f:Value→Value→Sem Value) (r:R2):Prop:=
 ∀(pins:List (Addr×Obj)) (s:Shared) (σ:St) (H:Hp) (x y:V) (v u:Value) (Q:VK),Inv X pins σ H s→RelV x v→RelV y u→r x y H Q→
  wpAny (model X.prog X.w) X.A (f v u) (EP X pins σ Q) X.xe s
def UnR (X:Cx) (f:Value→Sem Value) (r:V→Hp→VK→Prop):Prop:=
 ∀(pins:List (Addr×Obj)) (s:Shared) (σ:St) (H:Hp) (x:V) (v:Value) (Q:VK),Inv X pins σ H s→RelV x v→r x H Q→
  wpAny (model X.prog X.w) X.A (f v) (EP X pins σ Q) X.xe s
def Cb (X:Cx) (f:Value) (r:List V→Hp→VK→Prop):Prop:=
 ∀(pins:List (Addr×Obj)) (s:Shared) (σ:St) (H:Hp) (xs:List V) (us:List Value) (Q:VK),Inv X pins σ H s→Vals xs us→r xs H Q→
  wpAny (model X.prog X.w) X.A (call f us) (EP X pins σ Q) X.xe s
def tOp (r:R2) (ta tb:TE):TE:=fun σ H Q=>ta σ H fun x H1=>tb σ H1 fun y H2=>r x y H2 Q
def tUn (r:V→Hp→VK→Prop) (ta:TE):TE:=fun σ H Q=>ta σ H fun x H1=>r x H1 Q
def rI (C:Int→Int→Prop) (g:Int→Int→V):R2:=fun x y H Q=>∃i j,x = .int i∧y = .int j∧C i j∧Q (g i j) H
def rI0 (g:Int→Int→V):R2:=fun x y H Q=>∃i j,x = .int i∧y = .int j∧Q (g i j) H
def rU (g:Int→V):V→Hp→VK→Prop:=fun x H Q=>∃i,x = .int i∧Q (g i) H
section
variable {X:Cx} {a b c:Expr} {ta tb tc:TE} {pos:Pos}
theorem OM (ha:PE X a ta) (hb:PE X b tb) {pins:List (Addr×Obj)} {s:Shared} {σ:St} {H:Hp} {R:V→V→Hp→Prop} (I:Inv X pins σ H s)
 (h:ta σ H fun x H1=>tb σ H1 fun y H2=>R x y H2) {Q:Value→Shared→Prop} {f:Value→Value→Sem Value}
 (hf:∀v u s2 x y H2,Inv X pins σ H2 s2→RelV x v→RelV y u→R x y H2→wpAny (model X.prog X.w) X.A (f v u) Q X.xe s2) :
 wpAny (model X.prog X.w) X.A (eval a X.env) (fun v s₁=>wpAny (model X.prog X.w) X.A (eval b X.env) (fun u s₂=>wpAny (model X.prog X.w) X.A (f v u) Q X.xe s₂) X.xe s₁) X.xe s:=by
 refine thn (ha pins s σ H _ I h) fun v s1 ⟨x,H1,I1,r1,q1⟩=>?_
 refine thn (hb pins s1 σ H1 _ I1 q1) fun u s2 ⟨y,H2,I2,r2,q2⟩=>?_
 exact hf v u s2 x y H2 I2 r1 r2 q2
theorem Qh {op:Operator} {r:R2} (ho:OpR X (binaryOp op) r) (ha:PE X a ta) (hb:PE X b tb):PE X (.BinOp a op b pos) (tOp r ta tb):=by
 intro pins s σ H Q I h
 exact wpAny_BinOp (OM ha hb I h fun v u s2 x y H2 I2 rx ry q=>ho pins s2 σ H2 x y v u Q I2 rx ry q)
theorem UB {op:UnaryOp} {r:V→Hp→VK→Prop} (ho:UnR X (unaryOp op) r) (ha:PE X a ta):PE X (.UnaryOp op a pos) (tUn r ta):=by
 intro pins s σ H Q I h
 exact UnaryOp_ (thn (ha pins s σ H _ I h) fun v s1 ⟨x,H1,I1,r1,q1⟩=>ho pins s1 σ H1 x v Q I1 r1 q1)
theorem opI {f:Value→Value→Sem Value} {C:Int→Int→Prop} {g:Int→Int→Int}
 (rule:∀(i j:Int) (t u:Tok) (s:Shared) (Q:Value→Shared→Prop) (E:Value→Shared→Prop),C i j→Q (.int (g i j) s.toks) { s with toks:=s.toks + 1 }→wpAny (model X.prog X.w) X.A (f (.int i t) (.int j u)) Q E s) :
 OpR X f (rI C fun i j=>.int (g i j)):=by
 intro pins s σ H x y v u Q I rx ry h
 obtain ⟨i,j,rfl,rfl,hc,q⟩:=h
 obtain ⟨t,rfl⟩:=rx
 obtain ⟨t',rfl⟩:=ry
 exact rule i j t t' s _ _ hc ⟨.int (g i j),H,I.tok _,⟨_,rfl⟩,q⟩
theorem Tg {f:Value→Value→Sem Value} {g:Int→Int→Int}
 (rule:∀(i j:Int) (t u:Tok) (s:Shared) (Q:Value→Shared→Prop) (E:Value→Shared→Prop),Q (.int (g i j) s.toks) { s with toks:=s.toks + 1 }→wpAny (model X.prog X.w) X.A (f (.int i t) (.int j u)) Q E s) :
 OpR X f (rI0 fun i j=>.int (g i j)):=by
 intro pins s σ H x y v u Q I rx ry h
 obtain ⟨i,j,rfl,rfl,q⟩:=h
 obtain ⟨t,rfl⟩:=rx
 obtain ⟨t',rfl⟩:=ry
 exact rule i j t t' s _ _ ⟨.int (g i j),H,I.tok _,⟨_,rfl⟩,q⟩
theorem M2 {f:Value→Value→Sem Value} {g:Int→Int→Bool}
 (rule:∀(i j:Int) (t u:Tok) (s:Shared) (Q:Value→Shared→Prop) (E:Value→Shared→Prop),Q (.bool (g i j)) s→wpAny (model X.prog X.w) X.A (f (.int i t) (.int j u)) Q E s) :
 OpR X f (rI0 fun i j=>.bl (g i j)):=by
 intro pins s σ H x y v u Q I rx ry h
 obtain ⟨i,j,rfl,rfl,q⟩:=h
 obtain ⟨t,rfl⟩:=rx
 obtain ⟨t',rfl⟩:=ry
 exact rule i j t t' s _ _ ⟨.bl (g i j),H,I,rfl,q⟩
def Sr (i j:Int):Prop:=0 < j∧j < 1073741824
def Ss (i j:Int):Prop:=0≤j∧j≤1000000∧i.natAbs < 2 ^ 64
def CMul (i j:Int):Prop:=(-(2 ^ 64) < i∧i < 2 ^ 64)∨(-(2 ^ 64) < j∧j < 2 ^ 64)
theorem CMul.ok {i j:Int} (h:CMul i j):IntMulOk i j:=by
 rcases h with ⟨h1,h2⟩ | ⟨h1,h2⟩
 ·exact .of_left (intBits_le_64 h1 h2)
 ·exact .of_right (intBits_le_64 h1 h2)
theorem op_add:OpR X (binaryOp .Add) (rI0 fun i j=>.int (i + j)):=Tg fun _ _ _ _ _ _ _ q=>add_int q
theorem BU:OpR X (binaryOp .Sub) (rI0 fun i j=>.int (i - j)):=Tg fun _ _ _ _ _ _ _ q=>sub_int q
theorem op_mul:OpR X (binaryOp .Mult) (rI CMul fun i j=>.int (i * j)):=opI fun _ _ _ _ _ _ _ hc q=>mul_int q hc.ok
theorem Rm:OpR X (binaryOp .FloorDiv) (rI Sr fun i j=>.int (i / j)):=opI fun i j _ _ _ _ _ hc q=>by
 have h1:(0:Int) < j:=hc.1
 have h2:j < 1073741824:=hc.2
 exact floordiv_int (by lia) (by rw [Int.fdiv_eq_ediv_of_nonneg i (by lia)];exact q) (.inl (PyProof.noPylong_small (by lia)))
theorem Gz:OpR X (binaryOp .Mod) (rI (fun _ j=>0 < j) fun i j=>.int (i % j)):=opI fun i j _ _ _ _ _ hc q=>by
 have h1:(0:Int) < j:=hc
 exact mod_int' (by lia) (by rw [Int.fmod_eq_emod_of_nonneg i (by lia)];exact q)
theorem CK:OpR X (binaryOp .Pow) (rI Ss fun i j=>.int (i ^ j.toNat)):=opI fun _ _ _ _ _ _ _ hc q=>pow_int_small hc.1 hc.2.1 hc.2.2 q
theorem unI {f:Value→Sem Value} {g:Int→Int}
 (rule:∀(i:Int) (t:Tok) (s:Shared) (Q:Value→Shared→Prop) (E:Value→Shared→Prop),Q (.int (g i) s.toks) { s with toks:=s.toks + 1 }→wpAny (model X.prog X.w) X.A (f (.int i t)) Q E s) :
 UnR X f (rU fun i=>.int (g i)):=by
 intro pins s σ H x v Q I rx h
 obtain ⟨i,rfl,q⟩:=h
 obtain ⟨t,rfl⟩:=rx
 exact rule i t s _ _ ⟨.int (g i),H,I.tok _,⟨_,rfl⟩,q⟩
theorem Ue:UnR X (unaryOp .USub) (rU fun i=>.int (-i)):=unI fun _ _ _ _ _ q=>neg_int q
end
section
variable {X:Cx} {a b c:Expr} {ta tb tc:TE} {pos:Pos}
theorem op_lt:OpR X (compareOp .Lt) (rI0 fun i j=>.bl (decide (i < j))):=M2 fun _ _ _ _ _ _ _ q=>lt_int q
theorem op_le:OpR X (compareOp .LtE) (rI0 fun i j=>.bl (decide (i≤j))):=M2 fun _ _ _ _ _ _ _ q=>le_int q
theorem op_gt:OpR X (compareOp .Gt) (rI0 fun i j=>.bl (decide (j < i))):=M2 fun _ _ _ _ _ _ _ q=>gt_int q
theorem op_ge:OpR X (compareOp .GtE) (rI0 fun i j=>.bl (decide (j≤i))):=M2 fun _ _ _ _ _ _ _ q=>ge_int q
theorem OpR.or {f:Value→Value→Sem Value} {r r':R2} (h:OpR X f r) (h':OpR X f r'):OpR X f (fun x y H Q=>r x y H Q∨r' x y H Q):=by
 intro pins s σ H x y v u Q I rx ry q
 rcases q with q | q
 ·exact h pins s σ H x y v u Q I rx ry q
 ·exact h' pins s σ H x y v u Q I rx ry q
theorem AV (b:Expr) {op:CmpOp} (h:op≠.In:=by decide) (h2:op≠.NotIn:=by decide):behindInMarks op b=false:=by
 have e1:(op == CmpOp.In)=false:=by cases op <;> first | rfl | exact absurd rfl h
 have e2:(op == CmpOp.NotIn)=false:=by cases op <;> first | rfl | exact absurd rfl h2
 cases b <;> simp [behindInMarks,e1,e2]
theorem Rr {op:CmpOp} {r:R2} (ho:OpR X (compareOp op) r) (ha:PE X a ta) (hb:PE X b tb) (hm:behindInMarks op b=false):PE X (.Compare a [op] [b] pos) (tOp r ta tb):=by
 intro pins s σ H Q I h
 exact wpAny_Compare1 (OM ha hb I h fun v u s2 x y H2 I2 rx ry q=>ho pins s2 σ H2 x y v u Q I2 rx ry q) hm
def Qw (t:TE):TT:=fun σ H Q=>t σ H fun x H'=>∃k,x = .bl k∧Q k H'
theorem RU {op:CmpOp} {r:R2} (ho:OpR X (compareOp op) r) (ha:PE X a ta) (hb:PE X b tb) (hm:behindInMarks op b=false):PT X (.Compare a [op] [b] pos) (Qw (tOp r ta tb)):=by
 intro pins s σ H Q I h
 refine wpAny_isTrue_Compare1 (thn (ha pins s σ H _ I h) fun v s1 ⟨x,H1,I1,r1,q1⟩=>thn (hb pins s1 σ H1 _ I1 q1) fun u s2 ⟨y,H2,I2,r2,q2⟩=>
  thn (ho pins s2 σ H2 x y v u _ I2 r1 r2 q2) fun c s3 ⟨z,H3,I3,r3,k,e,q3⟩=>?_) hm
 subst e
 cases r3
 exact wpAny_truthy_bool ⟨H3,I3,q3⟩
def Lo (r r':R2) (ta tb tc:TE):TE:=fun σ H Q=>ta σ H fun x H1=>tb σ H1 fun y H2=>r x y H2 fun z H3=>∃k,z = .bl k∧
 (if k=true then tc σ H3 fun w' H4=>r' y w' H4 Q else Q (.bl false) H3)
theorem Pi {op op':CmpOp} {r r':R2} (ho:OpR X (compareOp op) r) (ho':OpR X (compareOp op') r') (ha:PE X a ta) (hb:PE X b tb) (hc:PE X c tc)
 (hm:lastMarks [op,op'] [b,c]=false:=by with_unfolding_all rfl):PE X (.Compare a [op,op'] [b,c] pos) (Lo r r' ta tb tc):=by
 intro pins s σ H Q I h
 refine Compare_chain (thn (ha pins s σ H _ I h) fun v s1 ⟨x,H1,I1,r1,q1⟩=>chain_link (thn (hb pins s1 σ H1 _ I1 q1) fun u s2 ⟨y,H2,I2,r2,q2⟩=>
  thn (ho pins s2 σ H2 x y v u _ I2 r1 r2 q2) fun d s3 ⟨z,H3,I3,r3,k,e,q3⟩=>?_)) hm
 subst e
 cases r3
 refine wpAny_truthy_bool ?_
 cases k with
 | false=>exact ite_ff ⟨.bl false,H3,I3,rfl,q3⟩
 | true=>exact ite_tt (chain_last (thn (hc pins s3 σ H3 _ I3 q3) fun w' s4 ⟨z',H4,I4,r4,q4⟩=>ho' pins s4 σ H4 y z' u w' Q I4 r2 r4 q4))
theorem Px {op op':CmpOp} {r r':R2} (ho:OpR X (compareOp op) r) (ho':OpR X (compareOp op') r') (ha:PE X a ta) (hb:PE X b tb) (hc:PE X c tc)
 (hm:lastMarks [op,op'] [b,c]=false:=by with_unfolding_all rfl):PT X (.Compare a [op,op'] [b,c] pos) (Qw (Lo r r' ta tb tc)):=by
 intro pins s σ H Q I h
 refine isTrue_chain (thn (ha pins s σ H _ I h) fun v s1 ⟨x,H1,I1,r1,q1⟩=>test_link (thn (hb pins s1 σ H1 _ I1 q1) fun u s2 ⟨y,H2,I2,r2,q2⟩=>
  thn (ho pins s2 σ H2 x y v u _ I2 r1 r2 q2) fun d s3 ⟨z,H3,I3,r3,k,e,q3⟩=>?_)) hm
 subst e
 cases r3
 refine wpAny_truthy_bool ?_
 cases k with
 | false=>
   obtain ⟨k',e',q'⟩:=q3
   cases e'
   exact ite_ff ⟨H3,I3,q'⟩
 | true=>
   refine ite_tt (test_last (thn (hc pins s3 σ H3 _ I3 q3) fun w' s4 ⟨z',H4,I4,r4,q4⟩=>thn (ho' pins s4 σ H4 y z' u w' _ I4 r2 r4 q4) fun d' s5 ⟨z2,H5,I5,r5,k2,e2,q5⟩=>?_))
   subst e2
   cases r5
   exact wpAny_truthy_bool ⟨H5,I5,q5⟩
theorem HM:(sizeLine:Nat) < 2 ^ 63:=by rw [sizeLine_eq];decide
theorem op_add_str:OpR X (binaryOp .Add) (fun x y H Q=>∃i j,x = .str i∧y = .str j∧i.length + j.length≤sizeLine∧Q (.str (i++j)) H):=by
 intro pins s σ H x y v u Q I rx ry h
 obtain ⟨i,j,rfl,rfl,hz,q⟩:=h
 obtain ⟨t,rfl⟩:=rx
 obtain ⟨t',rfl⟩:=ry
 exact wpAny_with_toks (Nat.le_refl s.toks) (add_str (fun t' tk ht=>⟨.str (i++j),H,I.tok _,⟨_,rfl⟩,q⟩) hz)
theorem DE {x:V} {us:List Value} (r:Vals [x] us):∃u,us=[u]∧RelV x u:=by
 cases r with
 | cons r1 r2=>cases r2;exact ⟨_,rfl,r1⟩
theorem GY {x y:V} {us:List Value} (r:Vals [x,y] us):∃u w',us=[u,w']∧RelV x u∧RelV y w':=by
 cases r with
 | cons r1 r2=>
   cases r2 with
   | cons r3 r4=>cases r4;exact ⟨_,_,rfl,r1,r3⟩
theorem Gn (hc:X.calm=true):Cb X (.builtin "min") (fun xs H Q=>∃i j,xs=[.int i,.int j]∧Q (.int (if j < i then j else i)) H):=by
 intro pins s σ H xs us Q I r h
 obtain ⟨i,j,rfl,q⟩:=h
 obtain ⟨u,w',rfl,⟨t,rfl⟩,⟨t',rfl⟩⟩:=GY r
 refine wpAny_with_toks (Nat.le_refl s.toks) (min_two_ints (I.ok.hd hc) fun h' tk k ht=>⟨_,H,I.kept k,?_,q⟩)
 by_cases hj:j < i
 ·rw [if_pos hj,if_pos hj];exact ⟨_,rfl⟩
 ·rw [if_neg hj,if_neg hj];exact ⟨_,rfl⟩
theorem Jn:Cb X (.type "int") (fun xs H Q=>(∃i,xs=[.int i]∧Q (.int i) H)∨∃k,xs=[.bl k]∧Q (.int (if k then 1 else 0)) H):=by
 intro pins s σ H xs us Q I r h
 rcases h with ⟨i,rfl,q⟩ | ⟨k,rfl,q⟩
 ·obtain ⟨u,rfl,t,rfl⟩:=DE r
  exact call_int_int ⟨.int i,H,I,⟨_,rfl⟩,q⟩
 ·obtain ⟨u,rfl,r1⟩:=DE r
  cases r1
  exact call_int_bool ⟨.int (if k then 1 else 0),H,I.tok _,⟨_,rfl⟩,q⟩
theorem C6:Cb X (.type "str") (fun xs H Q=>∃i,xs=[.int i]∧i.natAbs.log2 < 1920∧Q (.str (toString i)) H):=by
 intro pins s σ H xs us Q I r h
 obtain ⟨i,rfl,hz,q⟩:=h
 obtain ⟨u,rfl,t,rfl⟩:=DE r
 exact PySem.P.str_of_int hz ⟨.str _,H,I.tok _,⟨_,rfl⟩,q⟩
theorem OO:Cb X (.builtin "ord") (fun xs H Q=>∃x,xs=[.str x]∧x.length=1∧Q (.int (x.cps.getD 0 0:Nat)) H):=by
 intro pins s σ H xs us Q I r h
 obtain ⟨x,rfl,hz,q⟩:=h
 obtain ⟨u,rfl,t,rfl⟩:=DE r
 exact ord_of_one hz ⟨.int _,H,I.tok _,⟨_,rfl⟩,q⟩
def Sv (K:PySem.W.Frag) (x:V) (H:Hp) (n:Nat):Prop:=
 match x with
 | .str y=>y.length≤sizeLine∧n=y.length
 | .byt y=>y.size≤sizeLine∧n=y.size
 | .ref p=>(∃xs,SqL K H p xs∧n=xs.length)∨∃xs,SqT K H p xs∧n=xs.length
 | _=>False
theorem BI:Cb X (.builtin "len") (fun xs H Q=>∃x n,xs=[x]∧Sv X.K x H n∧Q (.int n) H):=by
 intro pins s σ H xs us Q I r h
 obtain ⟨x,n,rfl,e,q⟩:=h
 obtain ⟨u,rfl,rx⟩:=DE r
 have hl:=HM
 have hs:sizeLine=16777216:=sizeLine_eq
 cases x with
 | str y=>
   obtain ⟨t,rfl⟩:=rx
   obtain ⟨hy,e'⟩:y.length≤sizeLine∧n=y.length:=e
   subst e'
   exact len_str (by lia) ⟨.int _,H,I.tok _,⟨_,rfl⟩,q⟩
 | byt y=>
   obtain ⟨t,rfl⟩:=rx
   obtain ⟨hy,e'⟩:y.size≤sizeLine∧n=y.size:=e
   subst e'
   exact PySem.W.len_bytes (by lia) ⟨.int _,H,I.tok _,⟨_,rfl⟩,q⟩
 | ref p=>
   cases rx
   have e':(∃xs,SqL X.K H p xs∧n=xs.length)∨∃xs,SqT X.K H p xs∧n=xs.length:=e
   rcases e' with ⟨xs,hx,e'⟩ | ⟨xs,hx,e'⟩
   ·subst e'
    obtain ⟨its,r',pl,hz⟩:=I.list hx
    have hlen:=r'.length
    exact Calls.call_len_list pl.isList (by simp only [List.size_toArray];lia) ⟨.int xs.length,H,I.tok _,⟨_,by simp only [List.size_toArray];rw [hlen]⟩,q⟩
   ·subst e'
    obtain ⟨its,r',pl,hz⟩:=I.tuple hx
    have hlen:=r'.length
    exact len_tuple pl (by simp only [List.size_toArray];lia) ⟨.int xs.length,H,I.tok _,⟨_,by simp only [List.size_toArray];rw [hlen]⟩,q⟩
 | _=>exact (show False from e).elim
end
structure ObjM (h:Heap) (x dx C:Addr) (mA:Str→Option Value):Prop where
 obj:h.get? x=some (PySem.W.instObj C dx)
 ns:h.Ns1 dx mA
 ne:dx≠x
theorem NY {h:Heap} {dx:Addr} {mA:Str→Option Value} (n:h.Ns1 dx mA):∃od,h.get? dx=some od∧∀name,PySem.W.lookIn name od=some (mA name):=by
 obtain ⟨o,es,ep,ho,hd,hk,_,hm⟩:=n
 refine ⟨o,ho,fun name=>?_⟩
 have e:=hm name
 unfold nsFind findBy at e
 rw [←Array.find?_toList] at e
 unfold PySem.W.lookIn
 rw [hd]
 dsimp only
 split
 ·rename_i y q
  rw [q] at e
  exact congrArg some e
 ·rename_i q
  rw [q] at e
  have a:es.toList.any (·.refKey)=false:=by
   rw [List.any_eq_false]
   intro y hy
   obtain ⟨z,t,hkey⟩:=hk y (Array.mem_toList_iff.mp hy)
   simp [DictEntry.refKey,hkey]
  have a':¬es.toList.any (·.refKey)=true:=by rw [a];exact Bool.false_ne_true
  rw [if_neg a']
  exact congrArg some e
theorem ObjM.look {h:Heap} {x dx C:Addr} {mA:Str→Option Value} (I:ObjM h x dx C mA):∃od,PySem.W.InstAt h x (PySem.W.instObj C dx) C (some od)∧∀name,PySem.W.lookIn name od=some (mA name):=
 let ⟨od,ho,hl⟩:=NY I.ns
 ⟨od,⟨I.obj,rfl,rfl,ho⟩,hl⟩
section
variable {prog:Program} {w:World} {A:Around} {E:Value→Shared→Prop} {s:Shared} {K:PySem.W.Frag} {x dx C f:Addr} {mA:Str→Option Value} {name:Str} {v:Value}
end
theorem RelO.some_of {v:V} {o:Option Value} (r:RelO (some v) o):∃u,o=some u∧RelV v u:=by
 cases o with
 | none=>exact (show False from r).elim
 | some u=>exact ⟨u,rfl,r⟩
section
variable {P:Program} {w:World} {H H':Hp} {h h':Heap} {a C dx:Addr} {fs fs':List (Str×V)}
theorem Q5 (hok:HOk P w H h) (e:H a=some (.ins C dx fs)):∃mA,ObjM h a dx C mA∧(∀f,RelO (fs.lookup f) (mA f))∧PySem.Within mA (fs.map (·.1))∧fs.length≤1000∧H dx=some (.own a):=by
 obtain ⟨d,z,ne,ob,mA,n,r,q⟩:=(show ObjOk P w H h a (.ins C dx fs) from hok a _ e)
 exact ⟨mA,⟨ob,n,ne⟩,r,q,z,d⟩
end
structure Cls (K:PySem.W.Frag) (C:Addr):Prop where
 pg:PySem.W.plainGet K C Str.empty=true
 hd:PySem.W.hasDictIn K C=true
 po:PySem.W.plainOver K C=true
 sa:PySem.W.findIn K (.ref C) "__setattr__" = some (some (.builtin "object.__setattr__"))
theorem Cls.get {K:PySem.W.Frag} {C:Addr} (c:Cls K C) (f:Str):PySem.W.plainGet K C f=true:=c.pg
structure Con (K:PySem.W.Frag) (C:Addr) (f:Str) (v:V) (u:Value):Prop where
 at_:PySem.W.findIn K (.ref C) f=some (some u)
 rel:RelV v u
 get:PySem.W.specialIn K u "__get__" = some none
 cp:PySem.W.copiedNames.contains f=false
structure Meth (K:PySem.W.Frag) (C:Addr) (m:Str) (f:Addr):Prop where
 at_:PySem.W.findIn K (.ref C) m=some (some (.ref f))
 fn:PySem.W.isFn K (.ref f)=true
 kp:PySem.W.keepIn K (.ref f)=true
section
variable {X:Cx} {pins:List (Addr×Obj)} {σ:St} {H:Hp} {s:Shared} {a C dx:Addr} {fs:List (Str×V)} {f:Str} {v:V} {A:Around} {E:Value→Shared→Prop}
end
section
variable {X:Cx} {o e value:Expr} {f:Str} {pos pos' tpos:Pos} {ta tv:TE}
end
section
variable {X:Cx} {pins:List (Addr×Obj)} {σ:St} {H:Hp} {s:Shared} {A:Around} {E:Value→Shared→Prop} {Q:Value→Shared→Prop} {c:Value} {b:Bool}
inductive TyOf (K:PySem.W.Frag) (H:Hp):V→Value→Prop where
 | non:TyOf K H .non (.type "NoneType")
 | bl (x:Bool):TyOf K H (.bl x) (.type "bool")
 | int (i:Int):TyOf K H (.int i) (.type "int")
 | str (x:Str):TyOf K H (.str x) (.type "str")
 | flt (x:UInt64):TyOf K H (.flt x) (.type "float")
 | lst {a:Addr} {xs:List V} (e:H a=some (.lst xs)):TyOf K H (.ref a) (.type "list")
 | frz {a:Addr} {o:Obj} {xs:List V} (e:H a=some (.frz o (.lst xs))):TyOf K H (.ref a) (.type "list")
 | tup {a:Addr} {xs:List V} (e:H a=some (.tup xs)):TyOf K H (.ref a) (.type "tuple")
 | dK {a:Addr} {kvs:List (Key×V)} (e:H a=some (.dK kvs)):TyOf K H (.ref a) (.type "dict")
 | dT {a:Addr} {kvs:List (List Key×V)} (e:H a=some (.dT kvs)):TyOf K H (.ref a) (.type "dict")
 | ins {a C dx:Addr} {fs:List (Str×V)} (e:H a=some (.ins C dx fs)) (cl:Cls K C) (ha:PySem.W.findIn K (.ref C) "__class__" = some (some (.builtin "object.__class__")))
    (hn:PySem.W.specialIn K (.builtin "object.__class__") "__get__" = some (some (.builtin "getset_descriptor.__get__"))) (htk:PySem.W.takesIn K (.builtin "object.__class__")=some true)
    (hm:PySem.W.mroIn K C (.type "object")=some true):TyOf K H (.ref a) (.ref C)
theorem NQ {x:V} {u t:Value} (I:Inv X pins σ H s) (rx:RelV x u) (ty:TyOf X.K H x t) (e:PySem.W.kitOne X.K t c=some b) (h:∀tk,Q (.bool b) { s with toks:=tk }) :
 wpAny (model X.prog X.w) A (call (.builtin "isinstance") [u,c]) Q E s:=by
 cases ty with
 | non=>cases (show u=Value.none from rx);exact PySem.W.kia_one PySem.W.kitx_none I.kIn True.intro e (fun z=>nomatch z) h
 | bl y=>cases (show u=Value.bool y from rx);exact PySem.W.kia_one PySem.W.kitx_bool I.kIn True.intro e (fun z=>nomatch z) h
 | int i=>obtain ⟨t,q⟩:=(show ∃t,u=Value.int i t from rx);cases q;exact PySem.W.kia_one PySem.W.kitx_int I.kIn True.intro e (fun z=>nomatch z) h
 | str y=>obtain ⟨t,q⟩:=(show ∃t,u=Value.str y t from rx);cases q;exact PySem.W.kia_one PySem.W.kitx_str I.kIn True.intro e (fun z=>nomatch z) h
 | flt y=>obtain ⟨t,q⟩:=(show ∃t,u=Value.float y t from rx);cases q;exact PySem.W.kia_one PySem.W.kitx_float I.kIn True.intro e (fun z=>nomatch z) h
 | @lst a xs ea=>
   cases (show u=Value.ref a from rx)
   obtain ⟨_,_,n,_,h1⟩:=(show ObjOk X.prog X.w H s.heap a (.lst xs) from I.hok a _ ea)
   exact PySem.W.kia_one PySem.W.kitx_list I.kIn ⟨_,h1,rfl⟩ e (fun z=>nomatch z) h
 | @frz a ob xs ea=>
   cases (show u=Value.ref a from rx)
   obtain ⟨_,_,_,n,_,h1⟩:=(show ObjOk X.prog X.w H s.heap a (.frz ob (.lst xs)) from I.hok a _ ea)
   exact PySem.W.kia_one PySem.W.kitx_list I.kIn ⟨_,h1,rfl⟩ e (fun z=>nomatch z) h
 | @tup a xs ea=>
   cases (show u=Value.ref a from rx)
   obtain ⟨_,_,_,p⟩:=(show ObjOk X.prog X.w H s.heap a (.tup xs) from I.hok a _ ea)
   obtain ⟨o,h1,h2,_⟩:=p
   exact PySem.W.kia_one PySem.W.kitx_tuple I.kIn ⟨o,h1,h2⟩ e (fun z=>nomatch z) h
 | @dK a kvs ea=>
   cases (show u=Value.ref a from rx)
   obtain ⟨_,_,vs,_,p⟩:=(show ObjOk X.prog X.w H s.heap a (.dK kvs) from I.hok a _ ea)
   obtain ⟨o,es,ep,h1,h2,_⟩:=p
   exact PySem.W.kia_one PySem.W.kitx_dict I.kIn ⟨o,h1,h2.1⟩ e (fun z=>nomatch z) h
 | @dT a kvs ea=>
   cases (show u=Value.ref a from rx)
   obtain ⟨_,_,xs,_,o,es,ep,h1,h2,_⟩:=(show ObjOk X.prog X.w H s.heap a (.dT kvs) from I.hok a _ ea)
   exact PySem.W.kia_one PySem.W.kitx_dict I.kIn ⟨o,h1,h2.1⟩ e (fun z=>nomatch z) h
 | @ins a C dx fs ea cl ha hn htk hm=>
   cases (show u=Value.ref a from rx)
   obtain ⟨mA,O,_⟩:=Q5 I.hok ea
   obtain ⟨od,J,_⟩:=O.look
   exact PySem.W.kia_one (PySem.W.kitx_own (cl.get _) cl.hd ha hn htk hm) I.kIn J e (fun z=>nomatch z) h
end
structure Room (k:Nat) (A:Around):Prop where
 hd:A.handled=none
 dp:A.depth + 3 * k + 5 < recursionLimit
 un:A.units + 16 * k + 200 < cLine
theorem Room.deeper {k:Nat} {A:Around} (r:Room (k + 1) A) (env:Env):Room k (A.deeper env):=
 ⟨r.hd,by have:=r.dp;show A.depth + 1 + 3 * k + 5 < _;lia,by have:=r.un;show A.units + 3 + 16 * k + 200 < _;lia⟩
theorem Room.depth {k:Nat} {A:Around} (r:Room k A):A.depth < recursionLimit:=by have:=r.dp;lia
theorem Room.units {k:Nat} {A:Around} (r:Room k A):A.units + 64 < cLine:=by have:=r.un;lia
def Ub:TA:=fun _ H Q=>Q [] H
def UJ (ta:TE) (tr:TA):TA:=fun σ H Q=>ta σ H fun x H1=>tr σ H1 fun xs H2=>Q (x :: xs) H2
section
variable {X:Cx} {e:Expr} {es:List Expr} {te:TE} {t:TA} {pos:Pos}
theorem Tk:PA X [] Ub:=fun _ _ _ _ H Q I h=>Calls.spliced_nil ⟨[],H,I,.nil,h⟩
theorem Ro (ha:PE X e te) (hr:PA X es t) (hs:starEach (e :: es) X.env=(false,eval e X.env) :: starEach es X.env:=by rfl):PA X (e :: es) (UJ te t):=by
 intro pos pins s σ H Q I h
 rw [hs]
 show wpAny _ _ (spliced ((false,eval e X.env) :: backTo pos (starEach es X.env))) _ _ s
 refine Calls.spliced_cons (thn (ha pins s σ H _ I h) fun u s1 ⟨x,H1,I1,r1,q1⟩=>?_)
 exact thn (hr pos pins s1 σ H1 _ I1 q1) fun us s2 ⟨xs,H2,I2,r2,q2⟩=>⟨x :: xs,H2,I2,.cons r1 r2,q2⟩
def V3 (t:TA):TE:=fun σ H Q=>t σ H fun xs H1=>xs.length≤sizeLine∧∀p,H1 p=none→Q (.ref p) (upd H1 p (.tup xs))
def VZ (t:TA):TE:=fun σ H Q=>t σ H fun xs H1=>xs.length≤sizeLine∧∀p,H1 p=none→Q (.ref p) (upd H1 p (.lst xs))
theorem Ts {x1} (h:PA X es t):PE X (.Tuple es x1 pos) (V3 t):=by
 intro pins s σ H Q I hq
 refine wpAny_Tuple_spliced (thn (h pos pins s σ H _ I hq) fun us s1 ⟨xs,H1,I1,r,z,q⟩=>⟨by rw [←r.length];exact z,?_⟩)
 have hf:H1 s1.heap.objs.size=none:=I1.hok.fresh (Nat.le_refl _)
 refine ⟨.ref s1.heap.objs.size,upd H1 s1.heap.objs.size (.tup xs),I1.laid (t':=s1.toks) (fun b u e=>Heap.get?_push_of_some _ e) (Nat.le_refl _) ?_,rfl,q _ hf⟩
 exact ⟨z,us,r,⟨_,Heap.get?_push_size _ rfl,rfl,_,rfl⟩⟩
theorem To (h:PA X es t):PE X (.List es pos) (VZ t):=by
 intro pins s σ H Q I hq
 refine wpAny_List_spliced (thn (h pos pins s σ H _ I hq) fun us s1 ⟨xs,H1,I1,r,z,q⟩=>⟨by rw [←r.length];exact z,?_⟩)
 have hf:H1 s1.heap.objs.size=none:=I1.hok.fresh (Nat.le_refl _)
 refine ⟨.ref s1.heap.objs.size,upd H1 s1.heap.objs.size (.lst xs),I1.laid (t':=s1.toks) (fun b u e=>Heap.get?_push_of_some _ e) (Nat.le_refl _) ?_,rfl,q _ hf⟩
 exact ⟨z,us,0,r,Heap.get?_push_size _ rfl⟩
end
abbrev Sp:=List V→Hp→VK→XK→Prop
abbrev CXT:=List Env→Hp→Shared→XK→Value→Shared→Prop
structure Env0 (P:Program) (w:World) (K:PySem.W.Frag) (mg:Str→Option Value) (base:Heap) (A:Around) (outer:List Env) (s:Shared) (H:Hp):Prop where
 frames:A.frames=some outer
 mod:Mod K mg base
 bs:∀b o,base.get? b=some o→s.heap.get? b=some o∧H b=none
 bsz:base.objs.size≤s.heap.objs.size
 funs:s.heap.FunFrames base outer
 frf:∀b∈frs outer,H b=none
 hok:HOk P w H s.heap
 bare:AllBare s.gens
 tk:Fi K≤s.toks
def CE (outer:List Env) (P:Program) (w:World) (H:Hp) (s:Shared) (Q:VK) (u:Value) (s':Shared):Prop:=
 ∃v H',s'.os=s.os∧AllBare s'.gens∧Un (frs outer) [] H H' s.heap s'.heap∧HOk P w H' s'.heap∧RelV v u∧Q v H'
def CR (CX:CXT) (outer:List Env) (P:Program) (w:World) (H:Hp) (s:Shared) (Q:VK) (E:XK) (r:Result) (s':Shared):Prop:=
 match r with
 | .ok (.ret u)=>CE outer P w H s Q u s'
 | .ok _=>False
 | .error e=>CX outer H s E e s'
structure FnOk (P:Program) (w:World) (K:PySem.W.Frag) (mg:Str→Option Value) (base:Heap) (CX:CXT) (k:Nat) (f:Addr) (fd:FuncData) (ps:List Str) (sp:Sp):Prop where
 len:∀vs H Q E,sp vs H Q E→vs.length=ps.length
 run:∀(A:Around) (outer:List Env) (s:Shared) (H:Hp) (args:Args) (us:List Value) (vs:List V) (Q:VK) (E:XK),Room k A→Env0 P w K mg base A outer s H→BindsTo s fd args (ps.zip us)→Vals vs us→sp vs H Q E→
  codeAny (model P w) A (.call (.ref f) args) (CR CX outer P w H s Q E) s
section
variable {X:Cx} {pins:List (Addr×Obj)} {σ:St} {H:Hp} {s s':Shared}
theorem Inv.env0 (I:Inv X pins σ H s):Env0 X.prog X.w X.K X.mg X.base X.A X.stack s H:=
 ⟨I.ok.frames,I.ok.mod,I.bs,Nat.le_trans I.ok.bsz I.sz,I.stack,I.stkFree,I.hok,I.bare,I.tk⟩
theorem Inv.after {Q:VK} {u:Value} (I:Inv X pins σ H s) (h:CE X.stack X.prog X.w H s Q u s') (ht:s.toks≤s'.toks):EP X pins σ Q u s':=by
 obtain ⟨v,H',os,bare,un,hok,r,q⟩:=h
 obtain ⟨hh,g,d,t,os'⟩:=s'
 obtain rfl:os'=s.os:=os
 exact ⟨v,H',I.call (h':=hh) (g':=g) (d':=d) (t':=t) (ch:=[]) un hok bare (fun b z=>absurd z (by simp)),r,q⟩
end
def Qu (sp:Sp) (dvs:List V) (E:XK) (t:TA):TE:=fun σ H Q=>t σ H fun vs H1=>sp (vs++dvs) H1 Q E
def Binds (K:PySem.W.Frag) (fd:FuncData) (ps:List Str) (ds:List Value):Prop:=
 ∀(s:Shared) (us:List Value),K.In s.heap→(us++ds).length=ps.length→BindsTo s fd ⟨us,[]⟩ (ps.zip (us++ds))
theorem Binds.all {K:PySem.W.Frag} {fd:FuncData} {ps:List Str} (h:∀us:List Value,us.length=ps.length→bindArgs fd ⟨us,[]⟩=pure (ps.zip us)):Binds K fd ps []:=fun s us _ hl=>by
 rw [List.append_nil] at hl ⊢
 exact .of_eq (h us hl)
def Hu (CX:CXT) (X:Cx) (E:XK):Prop:=∀(pins:List (Addr×Obj)) (σ:St) (H:Hp) (s:Shared) (e:Value) (s':Shared),Inv X pins σ H s→s.toks≤s'.toks→CX X.stack H s E e s'→X.xe e s'
section
variable {X:Cx} {CX:CXT} {k:Nat} {f C:Addr} {fd:FuncData} {ps:List Str} {sp:Sp} {dvs:List V} {ds:List Value} {E:XK} {x m:Str} {p pos apos:Pos} {e o:Expr} {es:List Expr} {ta:TE} {t:TA}
theorem Lc {pins:List (Addr×Obj)} {σ:St} {H:Hp} {s:Shared} {Q:VK} {us:List Value} {vs:List V} (F:FnOk X.prog X.w X.K X.mg X.base CX k f fd ps sp) (hr:Room k X.A) (hb:Binds X.K fd ps ds) (hd:Vals dvs ds) (hx:Hu CX X E)
 (I:Inv X pins σ H s) (r:Vals vs us) (h:sp (vs++dvs) H Q E):wpAny (model X.prog X.w) X.A (call (.ref f) us) (EP X pins σ Q) X.xe s:=by
 have r2:Vals (vs++dvs) (us++ds):=r.append hd
 have hl:(us++ds).length=ps.length:=by rw [←r2.length];exact F.len _ _ _ _ h
 refine wpAny_call (codeAny_mono (codeAny_toks_of (Nat.le_refl s.toks) (F.run X.A X.stack s H ⟨us,[]⟩ (us++ds) (vs++dvs) Q E hr I.env0 (hb s us I.kIn hl) r2 h)) fun r s' ⟨ht,hq⟩=>?_)
 cases r with
 | error e=>exact hx pins σ H s e s' I ht hq
 | ok fl=>
   cases fl with
   | ret u=>exact I.after hq ht
   | next=>exact False.elim hq
   | brk=>exact False.elim hq
   | cont=>exact False.elim hq
theorem Rq (F:FnOk X.prog X.w X.K X.mg X.base CX k f fd ps sp) (hr:Room k X.A) (hg:Gl X x) (hm:X.mg x=some (.ref f)) (hk:PySem.W.keepIn X.K (.ref f)=true) (hb:Binds X.K fd ps ds) (hd:Vals dvs ds) (hx:Hu CX X E)
 (ha:PA X (e :: es) t) (hdb:(x == ("__debug__" : Str))=false:=by decide) (he:starEach (e :: es) X.env=(false,eval e X.env) :: starEach es X.env:=by rfl) (hpl:(backTo pos (starEach es X.env)).any (·.1)=false:=by rfl) :
 PE X (.Call (.Name x p) (e :: es) [] pos) (Qu sp dvs E t):=by
 intro pins s σ H Q I h
 refine wpAny_Call_Name_kw (EI I hg hm ?_ hdb)
 refine PySem.W.callWith_K (h₀:=X.base) I.ok.mod.kin hk (thn (ha pos pins s σ H _ I h) fun us s1 ⟨vs,H1,I1,r,q⟩=>⟨I1.kIn,?_⟩) he hpl
 exact Lc F hr hb hd hx I1 r q
theorem Pf (F:FnOk X.prog X.w X.K X.mg X.base CX k f fd ps sp) (hr:Room k X.A) (hg:Gl X x) (hm:X.mg x=some (.ref f)) (hk:PySem.W.keepIn X.K (.ref f)=true) (hb:Binds X.K fd ps ds) (hd:Vals dvs ds) (hx:Hu CX X E)
 (hdb:(x == ("__debug__" : Str))=false:=by decide):PE X (.Call (.Name x p) [] [] pos) (Qu sp dvs E Ub):=by
 intro pins s σ H Q I h
 refine wpAny_Call_Name_kw (EI I hg hm ?_ hdb)
 exact PySem.W.callWith_K0 I.kIn hk (Lc (us:=[]) F hr hb hd hx I .nil h)
structure Mk (K:PySem.W.Frag) (C f:Addr):Prop where
 makes:PySem.W.makesIn K C=true
 init:PySem.W.findIn K (.ref C) "__init__" = some (some (.ref f))
 fn:PySem.W.isFn K (.ref f)=true
 kp:PySem.W.keepIn K (.ref C)=true
end
section
variable {X:Cx} {CX:CXT} {k:Nat} {f C:Addr} {fd:FuncData} {ps ks:List Str} {sp:Sp} {E:XK} {x m:Str} {p pos apos kpos:Pos} {e o:Expr} {es:List Expr} {kws:List Keyword} {te ta:TE} {t tk:TA} {nm:Option Str}
structure KBinds (K:PySem.W.Frag) (fd:FuncData) (ps ks:List Str) (g:List Value→List Value→List Value) (gV:List V→List V→List V):Prop where
 to:∀(s:Shared) (us ws:List Value),K.In s.heap→(g us ws).length=ps.length→BindsTo s fd ⟨us,ks.zip ws⟩ (ps.zip (g us ws))
 rel:∀{vs:List V} {us:List Value} {zs:List V} {ws:List Value},Vals vs us→Vals zs ws→Vals (gV vs zs) (g us ws)
variable {g:List Value→List Value→List Value} {gV:List V→List V→List V}
end
structure FnScope (N P:List Str) (sc:Scope):Prop where
 kind:sc.kind = .function
 co:sc.isCoroutine=false
 gen:sc.isGenerator=false
 nd:N.Nodup
 pre:N.take P.length=P
 par:∀x∈P,sc.names.lookup x=some .local∨sc.names.lookup x=some .cell
 nofree:∀y∈sc.names,y.2≠.free
theorem Jl {kindOf:Str→Option NameKind} {x:Str}:∀{binds:List (Str×Value)} {m:Str→Option Value},(∀v,(x,v)∉binds)→bindL kindOf binds m x=m x
 | [],_,_=>rfl
 | (n,v) :: r,m,h=>by
   unfold bindL
   rw [Jl fun w hw=>h w (List.mem_cons_of_mem _ hw)]
   split
   ·have:x≠n:=by rintro rfl;exact h v List.mem_cons_self
    simp [this]
   ·rfl
theorem Jj {kindOf:Str→Option NameKind} {x:Str}:∀{binds:List (Str×Value)} {m:Str→Option Value},(∀v,(x,v)∉binds)→bindC kindOf binds m x=m x
 | [],_,_=>rfl
 | (n,v) :: r,m,h=>by
   unfold bindC
   rw [Jj fun w hw=>h w (List.mem_cons_of_mem _ hw)]
   split
   ·rfl
   ·have:x≠n:=by rintro rfl;exact h v List.mem_cons_self
    simp [this]
theorem Jk {kindOf:Str→Option NameKind} {x:Str} {v:Value}:∀{P:List Str} {vs:List Value} {i:Nat} {m:Str→Option Value},P.Nodup→P[i]?=some x→vs[i]?=some v→kindOf x=some .local→
 bindL kindOf (P.zip vs) m x=some v
 | [],_,_,_,_,h,_,_=>by simp at h
 | _ :: _,[],_,_,_,_,h,_=>by simp at h
 | p :: P,w :: vs,0,m,nd,h1,h2,hk=>by
   simp at h1 h2;subst h1;subst h2
   show bindL kindOf ((p,w) :: P.zip vs) m p=_
   unfold bindL
   rw [Jl fun v hv=>(List.nodup_cons.mp nd).1 (List.of_mem_zip hv).1,if_pos hk]
   simp
 | p :: P,w :: vs,i + 1,m,nd,h1,h2,hk=>by
   show bindL kindOf ((p,w) :: P.zip vs) m x=_
   unfold bindL
   exact Jk (i:=i) (List.nodup_cons.mp nd).2 (by simpa using h1) (by simpa using h2) hk
theorem Ji {kindOf:Str→Option NameKind} {x:Str} {v:Value}:∀{P:List Str} {vs:List Value} {i:Nat} {m:Str→Option Value},P.Nodup→P[i]?=some x→vs[i]?=some v→kindOf x≠some .local→
 bindC kindOf (P.zip vs) m x=some v
 | [],_,_,_,_,h,_,_=>by simp at h
 | _ :: _,[],_,_,_,_,h,_=>by simp at h
 | p :: P,w :: vs,0,m,nd,h1,h2,hk=>by
   simp at h1 h2;subst h1;subst h2
   show bindC kindOf ((p,w) :: P.zip vs) m p=_
   unfold bindC
   rw [Jj fun v hv=>(List.nodup_cons.mp nd).1 (List.of_mem_zip hv).1,if_neg hk]
   simp
 | p :: P,w :: vs,i + 1,m,nd,h1,h2,hk=>by
   show bindC kindOf ((p,w) :: P.zip vs) m x=_
   unfold bindC
   exact Ji (i:=i) (List.nodup_cons.mp nd).2 (by simpa using h1) (by simpa using h2) hk
def Dl (N:List Str) (vs:List V):St:=vs.map some++List.replicate (N.length - vs.length) none
def FP (CX:CXT) (P:Program) (w:World) (K:PySem.W.Frag) (mg:Str→Option Value) (base:Heap) (N:List Str) (qual:Str) (scope:Scope) (f:Addr) (cd:Value) (A:Around) (outer:List Env) (s:Shared) (H:Hp) (E:XK):Cx where
 prog:=P
 w:=w
 K:=K
 mg:=mg
 base:=base
 A:=A.deeper (envOfC qual scope s.heap.objs.size f cd)
 N:=N
 s₀:=s
 H₀:=H
 env:=envOfC qual scope s.heap.objs.size f cd
 outer:=outer
 stack:=envOfC qual scope s.heap.objs.size f cd :: outer
 ex:=[]
 calm:=true
 fn:=fun _=>true
 pn:=[]
 xe:=fun e s'=>wpAny (model P w) (A.deeper (envOfC qual scope s.heap.objs.size f cd)) (leaving (envOfC qual scope s.heap.objs.size f cd) e) (fun _ s''=>CX outer H s E e s'') (fun e' s''=>CX outer H s E e' s'') s'
theorem Kz {sc:Scope} {n:Nat} {x:Str} (h:sc.names.lookup x=some .cell):∃c,(cellsFrom n sc.names []).lookup x=some c:=by
 have q:=PySem.W.cellsFrom_some sc.names n [] (.inl h)
 exact Option.isSome_iff_exists.mp q
theorem NO {CX:CXT} {P:Program} {w:World} {K:PySem.W.Frag} {mg:Str→Option Value} {base:Heap} {N ps:List Str} {qual:Str} {scope:Scope} {f:Addr} {cd:Value} {A:Around} {outer:List Env} {s s1:Shared} {H:Hp} {E:XK} {us:List Value} {vs:List V}
 (S:FnScope N ps scope) (hd:A.handled=none) (e0:Env0 P w K mg base A outer s H) (hl:vs.length=ps.length) (r:Vals vs us)
 (x:InCallC s s.heap.objs.size (bindL (envOfC qual scope s.heap.objs.size f cd).kindOf (ps.zip us) fun _=>none) (cellsFrom (s.heap.objs.size + 1) scope.names []) (bindC (envOfC qual scope s.heap.objs.size f cd).kindOf (ps.zip us) fun _=>none) s1) (ht:s.toks≤s1.toks) :
 Inv (FP CX P w K mg base N qual scope f cd A outer s H E) [] (Dl N vs) H s1:=by
 have hpl:ps.length≤N.length:=by have:=congrArg List.length S.pre;rw [List.length_take] at this;lia
 obtain ⟨h1,tk,rfl,hk⟩:=x.done
 have noA:∀b:Addr,b∉(FP CX P w K mg base N qual scope f cd A outer s H E).ex:=fun b z=>absurd (show b∈([]:List Addr) from z) (by simp)
 refine ⟨⟨e0.mod,S.kind,rfl,rfl,Nat.le_refl _,fun y z c h1 h2=>?_,fun y hy=>?_,fun y c _ h=>?_,fun _=>hd,Around.frames_deeper e0.frames,.inr ⟨rfl,rfl⟩,fun b z=>absurd z (noA b),e0.bs,e0.bsz,fun b _ _=>noA b,fun b z=>absurd z (noA b),e0.funs,e0.frf⟩,
  rfl,e0.bare,Un.kept hk,⟨_,x.toInCall.ns,fun i y v h1 h2 h3=>?_⟩,fun y c h=>⟨_,x.cell y c h⟩,e0.hok.fresh (Nat.le_refl _),fun y c h=>?_,fun p hp=>absurd (show p∈([]:List (Addr×Obj)) from hp) (by simp),e0.hok.kept hk,?_,Nat.le_trans e0.tk ht⟩
 ·exact name_of_addr x.apart (PySem.mem_of_lookup h1) (PySem.mem_of_lookup h2)
 ·have hy:scope.names.lookup y=some .cell∨scope.names.lookup y=some .free:=hy
  rcases hy with hy | hy
  ·exact Kz hy
  ·exact absurd rfl (S.nofree _ (PySem.mem_of_lookup hy))
 ·exact Nat.le_of_lt (x.above y c (PySem.mem_of_lookup h))
 ·have hi:i < vs.length:=by
   unfold Dl at h2
   by_cases hi:i < vs.length
   ·exact hi
   ·rw [List.getElem?_append_right (by simpa using hi)] at h2
    rw [List.getElem?_replicate] at h2
    split at h2 <;> cases h2
  have ha:vs[i]?=some v:=by
   unfold Dl at h2
   rw [List.getElem?_append_left (by simpa using hi),List.getElem?_map] at h2
   cases e:vs[i]? with
   | none=>rw [e] at h2;cases h2
   | some a=>rw [e] at h2;cases h2;rfl
  obtain ⟨u,hu,rv⟩:=r.get ha
  have hp:ps[i]?=some y:=by
   rw [←S.pre,List.getElem?_take_of_lt (by lia)];exact h1
  have ndP:ps.Nodup:=by rw [←S.pre];exact S.nd.sublist (List.take_sublist _ _)
  refine ⟨u,rv,?_⟩
  rcases S.par y (List.mem_of_getElem? hp) with k | k
  ·exact .inl ⟨k,Jk ndP hp hu k⟩
  ·obtain ⟨c,e⟩:=Kz (n:=s.heap.objs.size + 1) k
   refine .inr ⟨.inl k,c,e,?_⟩
   have q:=x.cell y c e
   rw [Ji ndP hp hu (by show scope.names.lookup y≠_;rw [k];decide)] at q
   exact q
 ·exact .inl (e0.hok.fresh (Nat.le_of_lt (x.above y c (PySem.mem_of_lookup h))))
 ·unfold Dl
  show _=N.length
  rw [List.length_append,List.length_map,List.length_replicate]
  lia
theorem Qf {CX:CXT} {P:Program} {w:World} {K:PySem.W.Frag} {mg:Str→Option Value} {base:Heap} {k:Nat} {f:Addr} {name qual:Str} {params:Arguments} {body:List Stmt} {scope:Scope} {dV kV doc pm cdv ct oc:Value} {an od:Option Addr}
 {osl:Array (Option Value)} {N ps:List Str} {sp:Sp} (lk:K.lookup f=some ⟨oc,od,.func (PySem.W.fnOf name qual params body scope dV kV doc pm an cdv ct),osl⟩) (hcd:PySem.W.codeIn K cdv qual=true) (S:FnScope N ps scope)
 (len:∀vs H Q E,sp vs H Q E→vs.length=ps.length)
 (hbody:∀(A:Around) (outer:List Env) (s:Shared) (H:Hp) (vs:List V) (Q:VK) (E:XK),Room k (A.deeper (envOfC qual scope s.heap.objs.size f cdv))→sp vs H Q E→
   ∃t,PSs (FP CX P w K mg base N qual scope f cdv A outer s H E) body t∧t { nx:=fun _ H'=>Q .non H',rt:=Q } (Dl N vs) H) :
 FnOk P w K mg base CX (k + 1) f (PySem.W.fnOf name qual params body scope dV kV doc pm an cdv ct) ps sp:=by
 refine ⟨len,fun A outer s H args us vs Q E hr e0 hb r hsp=>?_⟩
 have hl:=len _ _ _ _ hsp
 have KX:K.In s.heap:=e0.mod.kin.keeps fun b o e=>(e0.bs b o e).1
 have lim:s.heap.NoLimit:=e0.mod.nolimit.keeps fun b o e=>(e0.bs b o e).1
 have hkind:∀y∈ps.zip us,scope.names.lookup y.1=some .local∨(scope.names.lookup y.1=some .cell∧((cellsFrom (s.heap.objs.size + 1) scope.names []).lookup y.1).isSome=true):=fun ⟨n,v⟩ hy=>by
  rcases S.par n (List.of_mem_zip hy).1 with q | q
  ·exact .inl q
  ·exact .inr ⟨q,PySem.W.cellsFrom_some _ _ _ (.inl q)⟩
 refine codeAny_call_function hr.depth (KX _ _ lk) rfl S.co S.gen rfl (PySem.W.codeRec_of KX hcd) (hb _ _ _ _ ?_)
 refine wpAny_with_toks (Nat.le_refl s.toks) (wpAny_newFunctionEnv_cells S.kind hkind fun env he s1 x htk=>?_)
 subst he
 refine ⟨lim.keeps x.toInCall.keep,codeAny_func ?_⟩
 obtain ⟨t,ht,hq⟩:=hbody A outer s H vs Q E (hr.deeper _) hsp
 have I:Inv (FP CX P w K mg base N qual scope f cdv A outer s H E) [] (Dl N vs) H s1:=NO S hr.hd e0 hl r x htk
 refine wpAny_mono (ht [] s1 (Dl N vs) H _ I hq) (fun fl s' hs=>?_) fun e s' hs=>hs
 have fin:∀{σ':St} {H':Hp} {v:V} {u:Value},Inv (FP CX P w K mg base N qual scope f cdv A outer s H E) [] σ' H' s'→RelV v u→Q v H'→CE outer P w H s Q u s':=
  fun {σ' H' v u} J rv q=>⟨v,H',J.os,J.bare,J.base,J.hok,rv,q⟩
 cases fl with
 | ret u=>
   obtain ⟨v,σ',H',J,rv,q⟩:=hs
   exact fin J rv q
 | next=>
   obtain ⟨σ',H',J,q⟩:=hs
   exact fin (v:=V.non) (u:=Value.none) J rfl q
 | brk=>
   obtain ⟨_,_,_,q⟩:=hs
   exact False.elim q
 | cont=>
   obtain ⟨_,_,_,q⟩:=hs
   exact False.elim q
section
variable {X:Cx} {x:Str} {p pos:Pos} {e:Expr} {es:List Expr} {t:TA} {id T:String} {r:List V→Hp→VK→Prop}
def tCB (r:List V→Hp→VK→Prop) (t:TA):TE:=fun σ H Q=>t σ H fun vs H1=>r vs H1 Q
theorem Pg (hc:Cb X (.builtin id) r) (hg:Gl X x) (hm:X.mg x=none) (hv:bootBuiltins x=some (.builtin id)) (ha:PA X (e :: es) t) (hn:x≠"__name__":=by decide) (hdb:(x == ("__debug__" : Str))=false:=by decide)
 (he:starEach (e :: es) X.env=(false,eval e X.env) :: starEach es X.env:=by rfl) (hpl:(backTo pos (starEach es X.env)).any (·.1)=false:=by rfl):PE X (.Call (.Name x p) (e :: es) [] pos) (tCB r t):=by
 intro pins s σ H Q I h
 refine wpAny_Call_Name_kw (HL I hg hm hv ?_ hn hdb)
 exact PyProof.Rows.callWith_builtin1 (thn (ha pos pins s σ H _ I h) fun us s1 ⟨vs,H1,I1,r1,q1⟩=>hc pins s1 σ H1 vs us Q I1 r1 q1) he hpl
theorem Ju (hc:Cb X (.type T) r) (hg:Gl X x) (hm:X.mg x=none) (hv:bootBuiltins x=some (.type T)) (ha:PA X (e :: es) t) (hn:x≠"__name__":=by decide) (hdb:(x == ("__debug__" : Str))=false:=by decide)
 (he:starEach (e :: es) X.env=(false,eval e X.env) :: starEach es X.env:=by rfl) (hpl:(backTo pos (starEach es X.env)).any (·.1)=false:=by rfl):PE X (.Call (.Name x p) (e :: es) [] pos) (tCB r t):=by
 intro pins s σ H Q I h
 refine wpAny_Call_Name_kw (HL I hg hm hv ?_ hn hdb)
 exact PyProof.Rows.callWith_type1 (thn (ha pos pins s σ H _ I h) fun us s1 ⟨vs,H1,I1,r1,q1⟩=>hc pins s1 σ H1 vs us Q I1 r1 q1) he hpl
end
end L2
namespace HT
open PySem PyProof.Rows
section
open PySem.SeqAt
open PySem.AutoSeq1 (wpAny_loadPart')
open PySem.MeetsSeq PySem.MeetsSeq2 PySem.MeetsSeq3
end
section
variable {prog:Program} {w:World} {A:Around} {E:Value→Shared→Prop} {s:Shared}
theorem QM {t b:Addr} {vs ws:List Value} {Q:Value→Shared→Prop} (ht:IsTup s.heap t vs.toArray) (hb:IsTup s.heap b ws.toArray) (hv:vs≠[])
 (h1:ws=[]→Q (.ref t) s) (h2:ws≠[]→Q (.ref s.heap.objs.size) { s with heap:=s.heap.push { cls:=.type "tuple",data:=.seq (vs++ws).toArray } })
 (hsz:vs.length + ws.length≤sizeLine):wpAny (model prog w) A (binaryOp .Add (.ref t) (.ref b)) Q E s:=by
 obtain ⟨⟨cls,dd,data,sl⟩,ho,hc,n,hd⟩:=id ht
 obtain ⟨⟨cls2,dd2,data2,sl2⟩,ho2,hc2,n2,hd2⟩:=id hb
 simp only at hc hd hc2 hd2
 subst hc hd hc2 hd2
 have e:vs.toArray++ws.toArray=(vs++ws).toArray:=by simp
 by_cases hw:ws=[]
 ·exact concat_meets ⟨_,ho,rfl⟩ ⟨_,ho2,rfl⟩ noFill_tuple_add seq_tuple_add PySem.F.slot_tuple_add PySem.F.entry_tuple_add (PySem.F.args_tuple_add_2 _ _)
   (tuple_addW1 t b vs.toArray ws.toArray n n2 dd dd2 sl sl2 (by simpa using hv) (by simp [hw])) ⟨ho,ho2,h1 hw⟩
 ·refine concat_meets ⟨_,ho,rfl⟩ ⟨_,ho2,rfl⟩ noFill_tuple_add seq_tuple_add PySem.F.slot_tuple_add PySem.F.entry_tuple_add (PySem.F.args_tuple_add_2 _ _)
   (tuple_addW2 t b vs.toArray ws.toArray n n2 dd dd2 sl sl2 (by simpa using hv) (by simpa using hw) (by rw [List.size_toArray,List.size_toArray];exact hsz)) ⟨ho,ho2,?_⟩
  rw [e]
  exact h2 hw
def sIx (n d:Nat):Option Int→Nat
 | none=>d
 | some v=>if v < 0 then (v + (n:Int)).toNat else min v.toNat n
theorem TX (n d:Nat) (hd:d≤n) (o:Option Int):sIx n d o≤n:=by
 cases o with
 | none=>exact hd
 | some v=>
   show (if v < 0 then (v + (n:Int)).toNat else min v.toNat n)≤n
   by_cases hv:v < 0
   ·rw [if_pos hv];lia
   ·rw [if_neg hv];exact Nat.min_le_right _ _
theorem L7 (v:Int) (n d:Nat):(if v < 0 then max (v + (n:Int)) 0 else min v (n:Int))=((sIx n d (some v):Nat):Int):=by
 show (if v < 0 then max (v + (n:Int)) 0 else min v (n:Int))=(((if v < 0 then (v + (n:Int)).toNat else min v.toNat n):Nat):Int)
 by_cases hv:v < 0
 ·simp only [if_pos hv];lia
 ·simp only [if_neg hv];lia
theorem MG (lo hi:Option Int) (n:Nat):Builtin.Slice.sliceAdjust lo hi 1 (n:Int)=(((sIx n 0 lo:Nat):Int),((sIx n n hi:Nat):Int)):=by
 have h1:¬((1:Int) < 0):=by lia
 unfold Builtin.Slice.sliceAdjust
 simp only [h1,if_false]
 refine Prod.ext ?_ ?_
 ·cases lo with
  | none=>rfl
  | some v=>exact L7 v n 0
 ·cases hi with
  | none=>rfl
  | some v=>exact L7 v n n
theorem M5 (i j:Nat):Builtin.Slice.slicePlaces (i:Int) (j:Int) 1=j - i:=by
 unfold Builtin.Slice.slicePlaces
 have h1:(1:Int) > 0:=by lia
 simp only [h1,if_true,Int.ediv_one]
 split <;> lia
theorem HZ {v:Value} {o:Option Int} {Q:Option Int→Shared→Prop} (p:IsPart v o) (h:Q o s):wpAny (model prog w) A (Builtin.Slice.slicePartIndex v) Q E s:=by
 cases p with
 | none=>exact slicePart_none h
 | int i t=>exact slicePart_int h
theorem E4 {sl:Addr} {vl vu:Value} {lo hi:Option Int} {n:Nat} {Q:Int×Int×Nat→Shared→Prop} (hs:s.heap.IsSliceOf sl vl vu .none) (pl:IsPart vl lo) (pu:IsPart vu hi)
 (h:Q (((sIx n 0 lo:Nat):Int),1,sIx n n hi - sIx n 0 lo) s):wpAny (model prog w) A (Builtin.Slice.sliceApplied (.ref sl) (pure (n:Int))) Q E s:=by
 obtain ⟨os,hos,hcs,hds⟩:=id hs
 unfold Builtin.Slice.sliceApplied Builtin.Slice.sliceFields
 refine wpAny_bind (wpAny_bind (wpAny_field hos hds (x:=vl) rfl (wpAny_bind (wpAny_field hos hds (x:=vu) rfl (wpAny_bind (wpAny_field hos hds (x:=.none) rfl (wpAny_pure ?_)))))))
 refine wpAny_bind (slicePart_none ?_)
 show wpAny _ _ (if ((1:Int) == 0)=true then _ else _) _ _ s
 rw [if_neg (by decide)]
 refine wpAny_bind (HZ pl (wpAny_bind (HZ pu (wpAny_bind (wpAny_pure ?_)))))
 show wpAny _ _ (match Builtin.Slice.sliceAdjust lo hi 1 (n:Int) with | (lo,hi)=>pure (lo,(1:Int),Builtin.Slice.slicePlaces lo hi 1)) _ _ s
 rw [MG lo hi n]
 show wpAny _ _ (pure (((sIx n 0 lo:Nat):Int),(1:Int),Builtin.Slice.slicePlaces ((sIx n 0 lo:Nat):Int) ((sIx n n hi:Nat):Int) 1)) _ _ s
 rw [M5]
 exact wpAny_pure h
theorem Pn (xs:Array Value) (i k:Nat):((List.range k).filterMap fun (m:Nat)=>xs[((i:Int) + (m:Int) * 1).toNat]?).toArray=((xs.toList.drop i).take k).toArray:=by
 have e:(fun (m:Nat)=>xs[((i:Int) + (m:Int) * 1).toNat]?)=fun m=>xs[i + m]?:=by
  funext m
  have:((i:Int) + (m:Int) * 1).toNat=i + m:=by lia
  rw [this]
 rw [e]
 have:=pick_run xs i k
 rw [List.filterMap_map] at this
 have e2:((fun x=>xs[x]?) ∘ fun x=>i + x)=fun m=>xs[i + m]?:=rfl
 rw [e2] at this
 rw [this]
theorem GZ {t sl:Addr} {items:Array Value} {vl vu:Value} {lo hi:Option Int} {Q:Value→Shared→Prop} (ht:IsTup s.heap t items) (hs:s.heap.IsSliceOf sl vl vu .none) (pl:IsPart vl lo) (pu:IsPart vu hi)
 (hw:¬(sIx items.size 0 lo=0∧sIx items.size items.size hi=items.size))
 (h:Q (.ref s.heap.objs.size) { s with heap:=s.heap.push { cls:=.type "tuple",data:=.seq ((items.toList.drop (sIx items.size 0 lo)).take (sIx items.size items.size hi - sIx items.size 0 lo)).toArray } })
 (hsz:items.size≤sizeLine):wpAny (model prog w) A (getItem (.ref t) (.ref sl)) Q E s:=by
 have htake:sizeOk (.seq ((items.toList.drop (sIx items.size 0 lo)).take (sIx items.size items.size hi - sIx items.size 0 lo)).toArray):=by
  show ((items.toList.drop (sIx items.size 0 lo)).take (sIx items.size items.size hi - sIx items.size 0 lo)).toArray.size≤sizeLine
  rw [List.size_toArray,List.length_take,List.length_drop,Array.length_toList]
  lia
 have hj:sIx items.size items.size hi≤items.size:=TX _ _ (Nat.le_refl _) hi
 obtain ⟨os,hos,hcs,hds⟩:=id hs
 have hTs:s.TypeIs (.ref sl) "slice":=⟨os,hos,hcs⟩
 unfold getItem
 try with_reducible refine wpAny_holding ?_
 first | refine wpAny_bind (wpAny_pure ?_) | skip
 refine wpAny_bind (wpAny_sequenceKey ht.typeIs (by decide) ?_)
 refine wpAny_bind (wpAny_callSpecial?_slot (name:=Str.ofString "__getitem__") ht.typeIs PyProof.Rows.slot_tuple_getitem
  (wpAny_call_entry PyProof.Rows.slot_tuple_getitem ht.typeIs entry_tuple_getitem ?_ (args_tuple_getitem _ _)))
 show wpAny _ _ (Builtin.Tuple.tupleItemsOf (.ref t) >>= _) _ _ s
 refine wpAny_bind (tupleItemsOf_ ht ?_)
 refine wpAny_bind (wpAny_typeOf hTs ?_)
 rw [if_pos (by decide)]
 refine wpAny_bind (E4 hs pl pu ?_)
 have hno:¬((((sIx items.size 0 lo:Nat):Int) == 0 && (1:Int) == 1 && (sIx items.size items.size hi - sIx items.size 0 lo) == items.size)=true):=by
  intro q
  rw [Bool.and_eq_true,Bool.and_eq_true] at q
  have q1:((sIx items.size 0 lo:Nat):Int)=0:=eq_of_beq q.1.1
  have q2:sIx items.size items.size hi - sIx items.size 0 lo=items.size:=eq_of_beq q.2
  exact hw ⟨by lia,by lia⟩
 show wpAny _ _ (if (((sIx items.size 0 lo:Nat):Int) == 0 && (1:Int) == 1 && (sIx items.size items.size hi - sIx items.size 0 lo) == items.size)=true then _ else _) _ _ s
 rw [if_neg hno,Pn]
 first
  | exact wpAny_bind (m:=Builtin.Tuple.tupleExact _) (wpAny_newObj_type (wpAny_pure ⟨_,rfl,wpAny_pure h⟩) htake)
  | exact wpAny_bind (m:=Builtin.Tuple.tupleExact _) (wpAny_newObj_type (wpAny_bind (wpAny_pure (wpAny_pure ⟨_,rfl,wpAny_pure h⟩))) htake)
  | exact wpAny_bind (wpAny_bind (m:=Builtin.Tuple.tupleExact _) (wpAny_newObj_type (wpAny_pure (wpAny_pure ⟨_,rfl,wpAny_pure h⟩)) htake))
  | exact wpAny_bind (wpAny_bind (m:=Builtin.Tuple.tupleExact _) (wpAny_newObj_type (wpAny_pure ⟨_,rfl,wpAny_pure h⟩) htake))
end
end HT
namespace L2
open PySem PySem.Spec PyProof.Rows
abbrev TO:=St→Hp→(Option Int→Hp→Prop)→Prop
def PO (X:Cx) (e:Option Expr) (t:TO):Prop:=
 ∀(pins:List (Addr×Obj)) (s:Shared) (σ:St) (H:Hp) (Q:Option Int→Hp→Prop),Inv X pins σ H s→t σ H Q→
  wpAny (model X.prog X.w) X.A (evalPart e X.env) (fun u s'=>∃o H',Inv X pins σ H' s'∧IsPart u o∧Q o H') X.xe s
def Sc:TO:=fun _ H Q=>Q none H
def UN (t:TE):TO:=fun σ H Q=>t σ H fun x H1=>∃i,x = .int i∧Q (some i) H1
section
variable {X:Cx} {e:Expr} {te:TE} {lo hi:Option Expr} {tl th:TO} {pos p2:Pos}
theorem RC:PO X none Sc:=by
 intro pins s σ H Q I h
 rw [evalPart_none]
 exact wpAny_pure ⟨none,H,I,.none,h⟩
theorem RD (h:PE X e te):PO X (some e) (UN te):=by
 intro pins s σ H Q I hw
 rw [evalPart_some]
 refine thn (h pins s σ H _ I hw) fun u s1 ⟨x,H1,I1,r1,q1⟩=>?_
 obtain ⟨i,rfl,q⟩:=q1
 obtain ⟨t,rfl⟩:=r1
 exact ⟨some i,H1,I1,.int i t,q⟩
def SlR (X:Cx) (r:V→Option Int→Option Int→Hp→VK→Prop):Prop:=
 ∀(pins:List (Addr×Obj)) (s:Shared) (σ:St) (H:Hp) (x:V) (v vl vu:Value) (lo hi:Option Int) (sl:Addr) (Q:VK),Inv X pins σ H s→RelV x v→s.heap.IsSliceOf sl vl vu .none→IsPart vl lo→IsPart vu hi→r x lo hi H Q→
  ∃T id,typeLookup (.type T) "__getitem__" = pure (some (.builtin id))∧s.TypeIs v T∧wpAny (model X.prog X.w) X.A (getItem v (.ref sl)) (EP X pins σ Q) X.xe s
theorem SlR.or {r r':V→Option Int→Option Int→Hp→VK→Prop} (h:SlR X r) (h':SlR X r'):SlR X (fun x lo hi H Q=>r x lo hi H Q∨r' x lo hi H Q):=by
 intro pins s σ H x v vl vu lo hi sl Q I rx hs pl pu q
 rcases q with q | q
 ·exact h pins s σ H x v vl vu lo hi sl Q I rx hs pl pu q
 ·exact h' pins s σ H x v vl vu lo hi sl Q I rx hs pl pu q
def tSl (r:V→Option Int→Option Int→Hp→VK→Prop) (te:TE) (tl th:TO):TE:=fun σ H Q=>te σ H fun x H1=>tl σ H1 fun l H2=>th σ H2 fun u H3=>r x l u H3 Q
theorem Pk {r:V→Option Int→Option Int→Hp→VK→Prop} (hr:SlR X r) (he:PE X e te) (hl:PO X lo tl) (hu:PO X hi th):PE X (.Subscript e (.Slice lo hi none p2) pos) (tSl r te tl th):=by
 intro pins s σ H Q I h
 refine Subscript_ (thn (he pins s σ H _ I h) fun v s1 ⟨x,H1,I1,r1,q1⟩=>?_)
 refine wpAny_Slice (thn (hl pins s1 σ H1 _ I1 q1) fun vl s2 ⟨l,H2,I2,pl,q2⟩=>thn (hu pins s2 σ H2 _ I2 q2) fun vu s3 ⟨u,H3,I3,pu,q3⟩=>?_)
 rw [evalPart_none]
 refine wpAny_pure ?_
 have I4:Inv X pins σ H3 { s3 with heap:=s3.heap.push { cls:=.type "slice",data:=.fields #[vl,vu,.none] } }:=I3.kept (t':=s3.toks) fun b ob q=>Heap.get?_push_of_some _ q
 obtain ⟨T,id,hT,ht,hg⟩:=hr pins { s3 with heap:=s3.heap.push { cls:=.type "slice",data:=.fields #[vl,vu,.none] } } σ H3 x v vl vu l u s3.heap.objs.size Q I4 r1 (Heap.IsSliceOf.new ..) pl pu q3
 show wpAny (model X.prog X.w) X.A (subscriptTail e (.Slice lo hi none p2) v (.ref s3.heap.objs.size)) (EP X pins σ Q) X.xe { s3 with heap:=s3.heap.push { cls:=.type "slice",data:=.fields #[vl,vu,.none] } }
 exact tail_any (ops:=[.ref s3.heap.objs.size,v]) ht hT hg (by with_unfolding_all rfl)
def FO (xs:List V) (lo hi:Option Int):List V:=(xs.drop (HT.sIx xs.length 0 lo)).take (HT.sIx xs.length xs.length hi - HT.sIx xs.length 0 lo)
theorem G0 (xs:List V) (lo hi:Option Int):(FO xs lo hi).length≤xs.length:=by
 unfold FO
 rw [List.length_take,List.length_drop]
 lia
def TR (K:PySem.W.Frag):V→Option Int→Option Int→Hp→VK→Prop:=fun x lo hi H Q=>∃a xs,x = .ref a∧SqT K H a xs∧
 ¬(HT.sIx xs.length 0 lo=0∧HT.sIx xs.length xs.length hi=xs.length)∧∀p,H p=none→Q (.ref p) (upd H p (.tup (FO xs lo hi)))
theorem T3:SlR X (TR X.K):=by
 intro pins s σ H x v vl vu lo hi sl Q I rx hs pl pu h
 obtain ⟨a,xs,rfl,hx,hw,q⟩:=h
 cases rx
 obtain ⟨its,r,ht,hz⟩:=I.tuple hx
 have hlen:its.toArray.size=xs.length:=by rw [List.size_toArray];exact r.length.symm
 refine ⟨"tuple",_,PyProof.Rows.slot_tuple_getitem.lookup,ht.typeIs,?_⟩
 refine HT.GZ ht hs pl pu (by rw [hlen];exact hw) ?_ (by rw [hlen];exact hz)
 rw [hlen]
 refine ⟨.ref s.heap.objs.size,_,I.laid (t':=s.toks) (o:=.tup (FO xs lo hi)) (fun b ob q=>Heap.get?_push_of_some _ q) (Nat.le_refl _) ?_,rfl,q _ (I.hok.fresh (Nat.le_refl _))⟩
 exact ⟨Nat.le_trans (G0 xs lo hi) hz,_,(r.drop (HT.sIx xs.length 0 lo)).take (HT.sIx xs.length xs.length hi - HT.sIx xs.length 0 lo),IsTup.new _ _⟩
def Ql (K:PySem.W.Frag):R2:=fun x y H Q=>∃a b xs ys,x = .ref a∧y = .ref b∧SqT K H a xs∧SqT K H b ys∧xs≠[]∧xs.length + ys.length≤sizeLine∧
 (ys=[]→Q (.ref a) H)∧(ys≠[]→∀p,H p=none→Q (.ref p) (upd H p (.tup (xs++ys))))
theorem Vals.nil_iff {xs:List V} {us:List Value} (r:Vals xs us):us=[]↔xs=[]:=by
 cases r with
 | nil=>simp
 | cons _ _=>simp
theorem Rl:OpR X (binaryOp .Add) (Ql X.K):=by
 intro pins s σ H x y v u Q I rx ry h
 obtain ⟨a,b,xs,ys,rfl,rfl,ha,hb,hx,hz,q1,q2⟩:=h
 cases rx
 cases ry
 obtain ⟨its,r1,p1,_⟩:=I.tuple ha
 obtain ⟨its2,r2,p2,_⟩:=I.tuple hb
 refine HT.QM p1 p2 (fun z=>hx (r1.nil_iff.mp z)) (fun z=>⟨.ref a,H,I,rfl,q1 (r2.nil_iff.mp z)⟩) (fun z=>?_) (by rw [←r1.length,←r2.length];exact hz)
 refine ⟨.ref s.heap.objs.size,_,I.laid (t':=s.toks) (o:=.tup (xs++ys)) (fun b ob q=>Heap.get?_push_of_some _ q) (Nat.le_refl _) ?_,rfl,q2 (fun w=>z (r2.nil_iff.mpr w)) _ (I.hok.fresh (Nat.le_refl _))⟩
 exact ⟨by rw [List.length_append];exact hz,_,r1.append r2,IsTup.new _ _⟩
end
def ixN (n:Nat) (i:Int):Option Nat:=if 0≤i then (if i < n then some i.toNat else none) else if -(n:Int)≤i then some (i + n).toNat else none
def atI {α:Type} (xs:List α) (i:Int):Option α:=(ixN xs.length i).bind fun j=>xs[j]?
theorem Q7 {n:Nat} {i:Int} {j:Nat} (h:ixN n i=some j):seqIndex? i n=some j∧j < n∧-(n:Int)≤i∧i < n:=by
 unfold ixN at h
 by_cases h0:0≤i
 ·rw [if_pos h0] at h
  by_cases h1:i < n
  ·rw [if_pos h1] at h
   have e:i.toNat=j:=Option.some.inj h
   exact ⟨by rw [seqIndex_of h0 h1,e],by lia,by lia,h1⟩
  ·rw [if_neg h1] at h;cases h
 ·rw [if_neg h0] at h
  by_cases h1 : -(n:Int)≤i
  ·rw [if_pos h1] at h
   have e:(i + n).toNat=j:=Option.some.inj h
   exact ⟨by rw [seqIndex_neg (by lia) h1,e],by lia,h1,by lia⟩
  ·rw [if_neg h1] at h;cases h
theorem Ik {α:Type} {xs:List α} {i:Int} {v:α} (h:atI xs i=some v):∃j,seqIndex? i xs.length=some j∧xs[j]?=some v∧j < xs.length∧-(xs.length:Int)≤i∧i < xs.length:=by
 unfold atI at h
 cases e:ixN xs.length i with
 | none=>rw [e] at h;cases h
 | some j=>
   rw [e] at h
   obtain ⟨h1,h2,h3,h4⟩:=Q7 e
   exact ⟨j,h1,h,h2,h3,h4⟩
theorem D6 {α:Type} {xs:List α} {j:Nat} {v:α} (h:xs[j]?=some v):atI xs (j:Int)=some v:=by
 have hj:j < xs.length:=(List.getElem?_eq_some_iff.mp h).1
 have e:ixN xs.length (j:Int)=some j:=by
  unfold ixN
  rw [if_pos (by lia),if_pos (by lia)];simp
 unfold atI;rw [e];exact h
def L1 (b:Expr):Prop:=∀o i,subscripted b false o i=operate [o,i] (getItem o i)
def IxR (X:Cx) (r:R2):Prop:=
 ∀(value slice:Expr) (pins:List (Addr×Obj)) (s:Shared) (σ:St) (H:Hp) (x y:V) (v u:Value) (Q:VK),Inv X pins σ H s→RelV x v→RelV y u→r x y H Q→
  subscripted slice false v u=operate [v,u] (getItem v u)→wpAny (model X.prog X.w) X.A (subscriptTail value slice v u) (EP X pins σ Q) X.xe s
def MtR (X:Cx) (id:String) (r:V→List V→Hp→VK→Prop):Prop:=
 ∀(pins:List (Addr×Obj)) (s:Shared) (σ:St) (H:Hp) (x:V) (xs:List V) (v:Value) (us:List Value) (Q:VK),Inv X pins σ H s→RelV x v→Vals xs us→r x xs H Q→
  wpAny (model X.prog X.w) X.A (call (.builtin id) (v :: us)) (EP X pins σ Q) X.xe s
section
variable {X:Cx} {a b:Expr} {ta tb:TE} {pos:Pos}
theorem IxR.or {r r':R2} (h:IxR X r) (h':IxR X r'):IxR X (fun x y H Q=>r x y H Q∨r' x y H Q):=by
 intro value slice pins s σ H x y v u Q I rx ry q hs
 rcases q with q | q
 ·exact h value slice pins s σ H x y v u Q I rx ry q hs
 ·exact h' value slice pins s σ H x y v u Q I rx ry q hs
theorem UA {r:R2} (hr:IxR X r) (ha:PE X a ta) (hb:PE X b tb) (hs:L1 b):PE X (.Subscript a b pos) (tOp r ta tb):=by
 intro pins s σ H Q I h
 exact Subscript_ (OM ha hb I h fun v u s2 x y H2 I2 rx ry q=>hr a b pins s2 σ H2 x y v u Q I2 rx ry q (hs _ _))
def TH (K:PySem.W.Frag):R2:=fun x y H Q=>∃p xs i v,x = .ref p∧y = .int i∧SqL K H p xs∧atI xs i=some v∧Q v H
def TK (K:PySem.W.Frag):R2:=fun x y H Q=>∃p xs i v,x = .ref p∧y = .int i∧SqT K H p xs∧atI xs i=some v∧Q v H
def TJ:R2:=fun x y H Q=>∃z i c,x = .str z∧y = .int i∧z.length≤sizeLine∧atI z.cps.toList i=some c∧Q (.str ⟨#[c]⟩) H
theorem ix_list:IxR X (TH X.K):=by
 intro value slice pins s σ H x y v u Q I rx ry h hs
 obtain ⟨p,xs,i,z,rfl,rfl,hq,he,q⟩:=h
 cases rx
 obtain ⟨t,rfl⟩:=ry
 obtain ⟨its,r,pl,hz⟩:=I.list hq
 obtain ⟨j,h1,h2,h3,h4,h5⟩:=Ik he
 obtain ⟨w,ew,rw'⟩:=r.get h2
 have hl:=r.length
 have hn:=HM
 have fin:EP X pins σ Q w s:=⟨z,H,I,rw',q⟩
 by_cases h0:0≤i
 ·have hj:i.toNat=j:=by
   rw [seqIndex_of h0 h5] at h1
   exact Option.some.inj h1
  exact item_listR pl.isList h0 (by lia) (by rw [hj];simpa using ew) fin hs
 ·have hj:(i + (its.toArray.size:Int)).toNat=j:=by
   rw [seqIndex_neg (by lia) h4] at h1
   rw [List.size_toArray,←hl]
   exact Option.some.inj h1
  exact subscriptTail_builtinR (x:=w) pl.isList.typeIs slot_list_getitem.lookup
   (wpAny_getItem_list_neg (Q:=fun r s'=>r=w∧EP X pins σ Q r s') pl.isList (by lia) (by rw [List.size_toArray] <;> lia) (by lia) (by rw [hj];simpa using ew) ⟨rfl,fin⟩) hs
theorem ix_tup:IxR X (TK X.K):=by
 intro value slice pins s σ H x y v u Q I rx ry h hs
 obtain ⟨p,xs,i,z,rfl,rfl,hq,he,q⟩:=h
 cases rx
 obtain ⟨t,rfl⟩:=ry
 obtain ⟨its,r,pl,hz⟩:=I.tuple hq
 obtain ⟨j,h1,h2,h3,h4,h5⟩:=Ik he
 obtain ⟨w,ew,rw'⟩:=r.get h2
 have hl:=r.length
 have hn:=HM
 have fin:EP X pins σ Q w s:=⟨z,H,I,rw',q⟩
 exact subscriptTail_builtinR (x:=w) pl.typeIs slot_tuple_getitem.lookup
  (getItem_tuple (j:=j) (Q:=fun r s'=>r=w∧EP X pins σ Q r s') pl (by lia) (by lia) (by rw [List.size_toArray,←hl];exact h1) (by simpa using ew) ⟨rfl,fin⟩) hs
theorem SX:IxR X TJ:=by
 intro value slice pins s σ H x y v u Q I rx ry h hs
 obtain ⟨z,i,c,rfl,rfl,hz,he,q⟩:=h
 obtain ⟨t,rfl⟩:=rx
 obtain ⟨t',rfl⟩:=ry
 obtain ⟨j,h1,h2,h3,h4,h5⟩:=Ik he
 have hl:z.cps.toList.length=z.length:=by simp [Str.length]
 rw [hl] at h1 h4 h5
 have hn:=HM
 exact tail_any (typeIs_str s z t) slot_str_getitem.lookup (getItem_str (c:=c) (by
  have e1:decide (i < -(2 ^ 63:Int))=false:=decide_eq_false (by lia)
  have e2:decide (i ≥ 2 ^ 63)=false:=decide_eq_false (by lia)
  rw [e1,e2,Bool.or_false]) (by rw [h1];simpa using h2) ⟨.str ⟨#[c]⟩,H,I.tok _,⟨_,rfl⟩,q⟩) hs
def rIx (K:PySem.W.Frag):R2:=fun x y H Q=>TH K x y H Q∨TK K x y H Q∨TJ x y H Q
theorem As:IxR X (rIx X.K):=ix_list.or (ix_tup.or SX)
theorem Li (lo hi:Option Int) (n:Nat):(sliceBounds lo hi none n).1=((HT.sIx n 0 lo:Nat):Int)∧(sliceBounds lo hi none n).2.1=((HT.sIx n n hi:Nat):Int)∧(sliceBounds lo hi none n).2.2=1:=by
 refine ⟨?_,?_,rfl⟩
 ·cases lo with
  | none=>simp [sliceBounds,HT.sIx]
  | some i=>
    simp only [sliceBounds,HT.sIx,Option.getD_none,show (1:Int) > 0 by decide,if_true]
    by_cases h:i < 0
    ·simp only [h,if_true] <;> lia
    ·simp only [h,if_false] <;> lia
 ·cases hi with
  | none=>simp [sliceBounds,HT.sIx]
  | some i=>
    simp only [sliceBounds,HT.sIx,Option.getD_none,show (1:Int) > 0 by decide,if_true]
    by_cases h:i < 0
    ·simp only [h,if_true] <;> lia
    ·simp only [h,if_false] <;> lia
theorem JX (its:List Value) (lo hi:Option Int):slicePick its.toArray lo hi none=((its.drop (HT.sIx its.length 0 lo)).take (HT.sIx its.length its.length hi - HT.sIx its.length 0 lo)).toArray:=by
 obtain ⟨h1,h2,h3⟩:=Li lo hi its.toArray.size
 unfold slicePick
 rw [h1,h2,h3]
 simp only [sliceRange_one,pick_run,List.size_toArray] <;> rfl
def TN (K:PySem.W.Frag):V→Option Int→Option Int→Hp→VK→Prop:=fun x lo hi H Q=>∃a xs,x = .ref a∧SqL K H a xs∧∀p,H p=none→Q (.ref p) (upd H p (.lst (FO xs lo hi)))
theorem sl_list:SlR X (TN X.K):=by
 intro pins s σ H x v vl vu lo hi sl Q I rx hs pl pu h
 obtain ⟨a,xs,rfl,hx,q⟩:=h
 cases rx
 obtain ⟨its,r,ht,hz⟩:=I.list hx
 have hlen:=r.length
 refine ⟨"list",_,slot_list_getitem.lookup,ht.isList.typeIs,?_⟩
 refine wpAny_getItem_list_slice ht.isList hs pl pu .none (by simp) ?_ (by rw [List.size_toArray] <;> lia)
 rw [JX,←hlen]
 refine ⟨.ref s.heap.objs.size,_,I.laid (t':=s.toks) (o:=.lst (FO xs lo hi)) (fun b ob q=>Heap.get?_push_of_some _ q) (Nat.le_refl _) ?_,rfl,q _ (I.hok.fresh (Nat.le_refl _))⟩
 exact ⟨Nat.le_trans (G0 xs lo hi) hz,_,0,(r.drop (HT.sIx xs.length 0 lo)).take (HT.sIx xs.length xs.length hi - HT.sIx xs.length 0 lo),Heap.get?_push_size _ rfl⟩
def EC:V→Bool
 | .non=>true
 | .bl _=>true
 | .int _=>true
 | .str _=>true
 | _=>false
def eqV:V→V→Bool
 | .non,.non=>true
 | .bl a,.bl b=>a == b
 | .bl a,.int b=>(if a then 1 else 0) == b
 | .int a,.bl b=>a == (if b then 1 else 0)
 | .int a,.int b=>a == b
 | .str a,.str b=>a == b
 | _,_=>false
theorem SJ {A:Around} {s:Shared} {y x:V} {u v:Value} (ry:RelV y u) (rx:RelV x v) (fy:EC y=true) (fx:EC x=true):SeqAt.EqAt A s u v (eqV y x):=by
 cases y with
 | non=>
   cases ry
   cases x with
   | non=>cases rx;exact SeqAt.EqAt.same _
   | bl b=>cases rx;exact SeqAt.EqAt.none_bool b
   | int b=>obtain ⟨t,rfl⟩:=rx;exact SeqAt.EqAt.none_int b t
   | str b=>obtain ⟨t,rfl⟩:=rx;exact SeqAt.EqAt.none_str b t
   | _=>exact absurd (show false=true from fx) Bool.false_ne_true
 | bl a=>
   cases ry
   cases x with
   | non=>cases rx;exact SeqAt.EqAt.bool_none a
   | bl b=>cases rx;exact SeqAt.EqAt.bool_bool a b
   | int b=>obtain ⟨t,rfl⟩:=rx;exact SeqAt.EqAt.bool_int a b t
   | str b=>obtain ⟨t,rfl⟩:=rx;exact SeqAt.EqAt.bool_str a b t
   | _=>exact absurd (show false=true from fx) Bool.false_ne_true
 | int a=>
   obtain ⟨t',rfl⟩:=ry
   cases x with
   | non=>cases rx;exact SeqAt.EqAt.int_none a t'
   | bl b=>cases rx;exact SeqAt.EqAt.int_bool a t' b
   | int b=>obtain ⟨t,rfl⟩:=rx;exact SeqAt.EqAt.int_int a t' b t
   | str b=>obtain ⟨t,rfl⟩:=rx;exact SeqAt.EqAt.int_str a t' b t
   | _=>exact absurd (show false=true from fx) Bool.false_ne_true
 | str a=>
   obtain ⟨t',rfl⟩:=ry
   cases x with
   | non=>cases rx;exact SeqAt.EqAt.str_none a t'
   | bl b=>cases rx;exact SeqAt.EqAt.str_bool a t' b
   | int b=>obtain ⟨t,rfl⟩:=rx;exact SeqAt.EqAt.str_int a t' b t
   | str b=>obtain ⟨t,rfl⟩:=rx;exact SeqAt.EqAt.str_str a t' b t
   | _=>exact absurd (show false=true from fx) Bool.false_ne_true
 | _=>exact absurd (show false=true from fy) Bool.false_ne_true
def eqU (x:V) (u:Value):Bool:=match u with
 | .none=>eqV .non x
 | .bool b=>eqV (.bl b) x
 | .int i _=>eqV (.int i) x
 | .str z _=>eqV (.str z) x
 | _=>false
theorem NF {x y:V} {u:Value} (r:RelV y u) (f:EC y=true):eqU x u=eqV y x:=by
 cases y with
 | non=>cases r;rfl
 | bl b=>cases r;rfl
 | int i=>obtain ⟨t,rfl⟩:=r;rfl
 | str z=>obtain ⟨t,rfl⟩:=r;rfl
 | _=>exact absurd (show false=true from f) Bool.false_ne_true
theorem Ij {x:V}:∀{xs:List V} {us:List Value},Vals xs us→xs.all EC=true→us.any (eqU x)=xs.any fun y=>eqV y x
 | _,_,.nil,_=>rfl
 | y :: xs,u :: us,.cons r t,f=>by
   rw [List.all_cons,Bool.and_eq_true] at f
   rw [List.any_cons,List.any_cons,NF r f.1,Ij t f.2]
theorem He {A:Around} {s:Shared} {x:V} {v:Value} (rx:RelV x v) (fx:EC x=true):∀{xs:List V} {us:List Value},Vals xs us→xs.all EC=true→∀u∈us,SeqAt.EqAt A s u v (eqU x u)
 | _,_,.nil,_=>fun u hu=>by cases hu
 | y :: xs,u :: us,.cons r t,f=>fun u' hu=>by
   rw [List.all_cons,Bool.and_eq_true] at f
   rcases List.mem_cons.mp hu with rfl | hu
   ·rw [NF r f.1];exact SJ r rx f.1 fx
   ·exact He rx fx t f.2 u' hu
def inV (x:V) (xs:List V):Bool:=xs.any fun y=>eqV y x
def rIn (K:PySem.W.Frag) (neg:Bool):R2:=fun x y H Q=>∃p xs,y = .ref p∧(SqL K H p xs∨SqT K H p xs)∧EC x=true∧xs.all EC=true∧Q (.bl (if neg then !inV x xs else inV x xs)) H
theorem N4:OpR X (compareOp .In) (rIn X.K false):=by
 intro pins s σ H x y v u Q I rx ry h
 obtain ⟨p,xs,rfl,hq,fx,fs,q⟩:=h
 cases ry
 rcases hq with hq | hq
 ·obtain ⟨its,r,pl,hz⟩:=I.list hq
  refine SeqAt.in_listAt (eqU x) pl.isList (fun w hw=>He rx fx r fs w (by simpa using hw)) ⟨.bl _,H,I,rfl,?_⟩
  rw [show its.toArray.any (eqU x)=its.any (eqU x) by simp,Ij r fs]
  exact q
 ·obtain ⟨its,r,pl,hz⟩:=I.tuple hq
  refine SeqAt.in_tupleAt (eqU x) pl (fun w hw=>He rx fx r fs w (by simpa using hw)) ⟨.bl _,H,I,rfl,?_⟩
  rw [show its.toArray.any (eqU x)=its.any (eqU x) by simp,Ij r fs]
  exact q
theorem DT:Cb X (.type "list") (fun xs H Q=>∃p ys,xs=[.ref p]∧(SqL X.K H p ys∨SqT X.K H p ys)∧∀l,H l=none→Q (.ref l) (upd H l (.lst ys))):=by
 intro pins s σ H xs us Q I r h
 obtain ⟨p,ys,rfl,hq,q⟩:=h
 obtain ⟨u,rfl,rx⟩:=DE r
 cases rx
 have fin:∀(its:List Value),Vals ys its→ys.length≤sizeLine→∀(h':Heap) (c':Nat),(∀b o',s.heap.get? b=some o'→h'.get? b=some o')→
  h'.get? s.heap.objs.size=some { cls:=.type "list",dict:=none,data:=.seq its.toArray c',slots:=#[] }→EP X pins σ Q (.ref s.heap.objs.size) { s with heap:=h' }:=fun its r' hz h' c' kp e=>
  ⟨.ref s.heap.objs.size,_,I.laid (t':=s.toks) kp (Nat.le_refl _) (show ObjOk X.prog X.w _ h' _ (.lst ys) from ⟨hz,its,c',r',e⟩),rfl,q _ (I.hok.fresh (Nat.le_refl _))⟩
 rcases hq with hq | hq
 ·obtain ⟨its,r',pl,hz⟩:=I.list hq
  have hlen:=r'.length
  obtain ⟨o,ho,hc,n,hd⟩:=pl.isList
  exact call_list_seq p (.inl rfl) ho hc hd (fun h' c' kp e=>fin its r' hz h' c' kp e) (by simp only [List.size_toArray] <;> lia)
 ·obtain ⟨its,r',pl,hz⟩:=I.tuple hq
  have hlen:=r'.length
  obtain ⟨o,ho,hc,n,hd⟩:=pl
  exact call_list_seq p (.inr rfl) ho hc hd (fun h' c' kp e=>fin its r' hz h' c' kp e) (by simp only [List.size_toArray] <;> lia)
theorem Gg:Cb X (.type "tuple") (fun xs H Q=>∃p ys,xs=[.ref p]∧((SqL X.K H p ys∧∀l,H l=none→Q (.ref l) (upd H l (.tup ys)))∨(SqT X.K H p ys∧Q (.ref p) H))):=by
 intro pins s σ H xs us Q I r h
 obtain ⟨p,ys,rfl,h⟩:=h
 obtain ⟨u,rfl,rx⟩:=DE r
 cases rx
 rcases h with ⟨hq,q⟩ | ⟨hq,q⟩
 ·obtain ⟨its,r',pl,hz⟩:=I.list hq
  have hlen:=r'.length
  refine call_tuple_list pl.isList (fun h' kp=>?_) (by simp only [List.size_toArray] <;> lia)
  have I1:Inv X pins σ H { s with heap:=h' }:=I.kept (t':=s.toks) kp
  have I2:Inv X pins σ (upd H h'.objs.size (.tup ys)) { s with heap:=h'.push { cls:=.type "tuple",data:=.seq its.toArray } }:=
   I1.laid (t':=s.toks) (fun b o e=>Heap.get?_push_of_some _ e) (Nat.le_refl _) (show ObjOk X.prog X.w _ _ _ (.tup ys) from ⟨hz,its,r',IsTup.new _ _⟩)
  exact ⟨.ref h'.objs.size,_,I2,rfl,q _ (I1.hok.fresh (Nat.le_refl _))⟩
 ·obtain ⟨its,r',pl,hz⟩:=I.tuple hq
  exact call_tuple_same pl ⟨.ref p,H,I,rfl,q⟩
def tyV (K:PySem.W.Frag) (T:String) (x:V) (H:Hp):Prop:=match x with
 | .str _=>T = "str"
 | .int _=>T = "int"
 | .ref p=>(T = "list"∧∃xs,SqL K H p xs)∨(T = "tuple"∧∃o,K.lookup p=some o∧o.cls = .type "tuple"∧o.dict=none)∨
    (T = "dict"∧((∃kvs,H p=some (.dK kvs))∨∃kvs,H p=some (.dT kvs)))∨(T = "set"∧∃S n,H p=some (.set S n))
 | _=>False
theorem Ud {pins:List (Addr×Obj)} {σ:St} {H:Hp} {s:Shared} {T:String} {x:V} {v:Value} (I:Inv X pins σ H s) (r:RelV x v) (ty:tyV X.K T x H) :
 s.TypeIs v T∧∀a,v = .ref a→∃ob,s.heap.get? a=some ob∧ob.dict=none:=by
 cases x with
 | str z=>
   obtain ⟨t,rfl⟩:=r
   cases (show T = "str" from ty)
   exact ⟨typeIs_str s z t,fun _ e=>nomatch e⟩
 | int i=>
   obtain ⟨t,rfl⟩:=r
   cases (show T = "int" from ty)
   exact ⟨typeIs_int s i t,fun _ e=>nomatch e⟩
 | ref p=>
   cases r
   rcases ty with ⟨rfl,xs,hq⟩ | ⟨rfl,o,hk,hc,hd⟩ | ⟨rfl,hk⟩ | ⟨rfl,S,n,hk⟩
   ·obtain ⟨its,_,pl,_⟩:=I.list hq
    refine ⟨pl.isList.typeIs,fun a e=>?_⟩
    cases e
    obtain ⟨o,n,e,c,hd,_⟩:=pl
    exact ⟨o,e,hd⟩
   ·refine ⟨⟨o,I.kIn p o hk,hc⟩,fun a e=>?_⟩
    cases e
    exact ⟨o,I.kIn _ o hk,hd⟩
   ·have z:∃o,s.heap.get? p=some o∧o.ExactDict:=by
     rcases hk with ⟨kvs,hk⟩ | ⟨kvs,hk⟩
     ·obtain ⟨_,_,_,_,o,_,_,e,ex,_⟩:=I.hok p _ hk
      exact ⟨o,e,ex⟩
     ·obtain ⟨_,_,_,_,o,_,_,e,ex,_⟩:=I.hok p _ hk
      exact ⟨o,e,ex⟩
    obtain ⟨o,e,ex⟩:=z
    refine ⟨⟨o,e,ex.1⟩,fun a e2=>?_⟩
    cases e2
    exact ⟨o,e,ex.2.1⟩
   ·obtain ⟨o,_,_,_,e,ex,_⟩:=I.hok p _ hk
    refine ⟨⟨o,e,ex.1⟩,fun a e2=>?_⟩
    cases e2
    exact ⟨o,e,ex.2.1⟩
 | _=>exact False.elim ty
def tBM (K:PySem.W.Frag) (T:String) (r:V→List V→Hp→VK→Prop) (to:TE) (t:TA):TE:=fun σ H Q=>to σ H fun x H1=>tyV K T x H1∧t σ H1 fun xs H2=>r x xs H2 Q
variable {o e:Expr} {es:List Expr} {to:TE} {t:TA} {name:Str} {apos cpos:Pos} {T id:String} {r:V→List V→Hp→VK→Prop}
theorem FX (pa:PlainAttrs T) (slot:Slot T name id) (hty:typeOf (.builtin id)=pure (.type "method_descriptor")) (hm:MtR X id r) (ho:PE X o to) (ha:PA X (e :: es) t)
 (hbase:attributeBase o name X.env (eval o X.env)=eval o X.env:=by rfl)
 (hfew:((backTo cpos (starEach (e :: es) X.env)).all (fun x=>!x.1) && (backToKw cpos (keywordEach [] X.env)).all (fun x=>x.1.isSome)
   && decide ((e :: es).length + ([]:List Keyword).length + (if ([]:List Keyword).isEmpty then 0 else 1) < 30))=true:=by rfl)
 (hline:(apos.endLine == cpos.line)=true:=by rfl) (hs:starEach (e :: es) X.env=(false,eval e X.env) :: starEach es X.env:=by rfl) (hplain:(backTo cpos (starEach es X.env)).any (·.1)=false:=by rfl) :
 PE X (.Call (.Attribute o name apos) (e :: es) [] cpos) (tBM X.K T r to t):=by
 intro pins s σ H Q I h
 refine wpAny_Call_method_late hbase hfew hline rfl (thn (ho pins s σ H _ I h) fun v s1 ⟨x,H1,I1,r1,ty,q1⟩=>?_)
 obtain ⟨h1,h2⟩:=Ud I1 r1 ty
 refine ⟨T,id,pa,slot,hty,h1,h2,?_⟩
 have hA:=ha cpos pins s1 σ H1 _ I1 q1
 rw [hs] at hA ⊢
 refine Calls.callWith_builtin (by show (false || (backTo cpos (starEach es X.env)).any (·.1))=false;rw [hplain] <;> rfl) (Calls.evalArgs_plain ?_)
 exact thn hA fun us s2 ⟨vs,H2,I2,r2,q2⟩=>hm pins s2 σ H2 x vs v us Q I2 r1 r2 q2
/- xs.append(e),list.index on a module's tuple .. are MtR facts of 06m -/
end
def MtM (X:Cx) (id:String) (r:V→List V→Hp→VK→Prop):Prop:=
 ∀(pins:List (Addr×Obj)) (s:Shared) (σ:St) (H:Hp) (x:V) (xs:List V) (v:Value) (us:List Value) (Q:VK),Inv X pins σ H s→RelV x v→Vals xs us→r x xs H Q→
  wpAny (model X.prog X.w) X.A (call (.builtin id) (v :: us)) (EP X pins σ Q) X.xe s
theorem Vals.one:∀{x:V} {us:List Value},Vals [x] us→∃u,us=[u]∧RelV x u
 | _,_,.cons r .nil=>⟨_,rfl,r⟩
theorem Vals.rep {xs:List V} {us:List Value} (h:Vals xs us):∀k:Nat,Vals (List.replicate k xs).flatten (List.replicate k us).flatten
 | 0=>.nil
 | k + 1=>by
   rw [List.replicate_succ,List.replicate_succ,List.flatten_cons,List.flatten_cons]
   exact Vals.append h (Vals.rep h k)
theorem Gu (its:List Value):∀(k:Nat) (acc:List Value),
 List.foldl (fun x1 x2=>x1++x2) acc.toArray (List.replicate k its.toArray)=(acc++(List.replicate k its).flatten).toArray
 | 0,acc=>by simp
 | k + 1,acc=>by
   have e:acc.toArray++its.toArray=(acc++its).toArray:=by simp
   have e2:(acc++its)++(List.replicate k its).flatten=acc++(List.replicate (k + 1) its).flatten:=by
    rw [List.replicate_succ,List.flatten_cons,List.append_assoc]
   rw [←e2,←Gu its k (acc++its),←e,List.replicate_succ,List.foldl_cons]
section
variable {X:Cx} {pins:List (Addr×Obj)} {σ:St} {H:Hp} {s:Shared} {l b:Addr} {xs ys zs:List V}
theorem Inv.lset {its its':List Value} {n:Nat} {f:Array Value→Array Value} {t':Nat} (I:Inv X pins σ H s) (hH:H l=some (.lst xs))
 (e:s.heap.get? l=some { cls:=.type "list",data:=.seq its.toArray n }) (hf:f its.toArray=its'.toArray) (hv:Vals ys its') (hz:ys.length≤sizeLine) (ht:s.toks≤t':=by first | exact Nat.le_refl _ | assumption | lia | (dsimp only;lia)) :
 Inv X pins σ (upd H l (.lst ys)) { s with heap:=s.heap.update l (Obj.mapSeq f),toks:=t' }:=by
 have q:=PySem.IsL.update e f
 rw [hf] at q
 refine I.write (x:=l) (e:=l) (by rw [hH];exact trivial) (.inl rfl) (fun b' u hb hu=>(Heap.get?_update_other s.heap (Obj.mapSeq f) (Ne.symm hb)).trans hu) ⟨_,q⟩ ?_
 exact ⟨hz,its',_,hv,q⟩
theorem Inv.lnew {its:List Value} {t':Nat} (I:Inv X pins σ H s) (hv:Vals ys its) (hz:ys.length≤sizeLine) (ht:s.toks≤t':=by first | exact Nat.le_refl _ | assumption | lia | (dsimp only;lia)) :
 Inv X pins σ (upd H s.heap.objs.size (.lst ys)) { s with heap:=s.heap.push { cls:=.type "list",data:=.seq its.toArray },toks:=t' }:=
 I.laid (fun _ _ q=>Heap.get?_push_of_some _ q) (Nat.le_refl _) ⟨hz,its,0,hv,Heap.get?_push_size _ rfl⟩
theorem Inv.fresh (I:Inv X pins σ H s):H s.heap.objs.size=none:=I.hok.fresh (Nat.le_refl _)
theorem Inv.lstM (I:Inv X pins σ H s) (hH:H l=some (.lst xs)):xs.length≤sizeLine∧∃(its:List Value) (n:Nat),Vals xs its∧xs.length=its.length∧s.heap.get? l=some { cls:=.type "list",data:=.seq its.toArray n }:=by
 obtain ⟨z,its,n,r,e⟩:=I.hok l _ hH
 exact ⟨z,its,n,r,r.length,e⟩
theorem Pc {n:Nat} (h:n≤sizeLine):Builtin.List.listTooLong n=false:=by
 unfold Builtin.List.listTooLong
 exact decide_eq_false (by lia)
end
section
variable {X:Cx}
def Mm:V→List V→Hp→VK→Prop:=fun x vs H Q=>∃l xs y,x = .ref l∧vs=[y]∧H l=some (.lst xs)∧xs.length < sizeLine∧Q .non (upd H l (.lst (xs++[y])))
theorem Js:MtM X "list.append" Mm:=by
 intro pins s σ H x vs v us Q I rx rv h
 obtain ⟨l,xs,y,rfl,rfl,hH,hz,q⟩:=h
 cases rx
 obtain ⟨u,rfl,ru⟩:=rv.one
 obtain ⟨z,its,n,r,hl,e⟩:=I.lstM hH
 refine call_meets F.slot_list_append ⟨_,e,rfl⟩ F.entry_list_append (F.args_list_append_2 _ _) (PySem.list_append l its.toArray n u (by rw [List.size_toArray];lia)) ⟨e,?_⟩
 refine ⟨.non,_,I.lset (its':=its++[u]) hH e (by simp) (r.append (.cons ru .nil)) ?_,rfl,q⟩
 rw [List.length_append,List.length_singleton]
 lia
def Pz:R2:=fun x y H Q=>∃l b xs zs,x = .ref l∧y = .ref b∧H l=some (.lst xs)∧H b=some (.lst zs)∧xs.length + zs.length≤sizeLine∧∀p,H p=none→Q (.ref p) (upd H p (.lst (xs++zs)))
theorem op_cat:OpR X (binaryOp .Add) Pz:=by
 intro pins s σ H x y v u Q I rx ry h
 obtain ⟨l,b,xs,zs,rfl,rfl,hH,hB,hz,q⟩:=h
 cases rx
 cases ry
 obtain ⟨z,its,n,r,hl,e⟩:=I.lstM hH
 obtain ⟨z2,its2,n2,r2,hl2,e2⟩:=I.lstM hB
 refine PySem.P.add_list e e2 ?_ (by rw [List.size_toArray,List.size_toArray];lia)
 have ea:its.toArray++its2.toArray=(its++its2).toArray:=by simp
 rw [ea]
 exact ⟨.ref _,_,I.lnew (t':=s.toks) (r.append r2) (by rw [List.length_append];lia),rfl,q _ I.fresh⟩
def TL:R2:=fun x y H Q=>∃l k xs,x = .ref l∧y = .int k∧H l=some (.lst xs)∧-(2 ^ 63)≤k∧k < 2 ^ 63∧xs.length * k.toNat≤sizeLine∧
 ∀p,H p=none→Q (.ref p) (upd H p (.lst (List.replicate k.toNat xs).flatten))
theorem ID {α:Type} (xs:List α) (k:Nat):(List.replicate k xs).flatten.length=k * xs.length:=by
 induction k with
 | zero=>simp
 | succ k ih=>rw [List.replicate_succ,List.flatten_cons,List.length_append,ih,Nat.succ_mul,Nat.add_comm]
theorem Tj:OpR X (binaryOp .Mult) TL:=by
 intro pins s σ H x y v u Q I rx ry h
 obtain ⟨l,k,xs,rfl,rfl,hH,h1,h2,hz,q⟩:=h
 cases rx
 obtain ⟨t,rfl⟩:=ry
 obtain ⟨z,its,n,r,hl,e⟩:=I.lstM hH
 have hlen:its.toArray.size * k.toNat≤sizeLine:=by rw [List.size_toArray,←hl];exact hz
 have hcap:¬its.toArray.size * k.toNat > (2 ^ 63 - 1) / 8:=by
  have:(sizeLine:Nat)≤(2 ^ 63 - 1) / 8:=by decide
  lia
 have hfit:¬(!Builtin.List.listFitsIndex k)=true:=by
  rw [fitsIndex_both h1 h2]
  exact Bool.false_ne_true
 have hlong:¬Builtin.List.listTooLong (its.toArray.size * k.toNat)=true:=by
  rw [Pc hlen]
  exact Bool.false_ne_true
 have hnew:List.foldl (fun x1 x2=>x1++x2) #[] (List.replicate (if its.toArray.isEmpty=true then 0 else k.toNat) its.toArray)=(List.replicate k.toNat its).flatten.toArray:=by
  have f0:∀m:Nat,List.foldl (fun x1 x2=>x1++x2) #[] (List.replicate m its.toArray)=(List.replicate m its).flatten.toArray:=fun m=>by
   have:=Gu its m []
   rw [List.nil_append] at this
   exact this
  rw [f0]
  cases its with
  | nil=>simp
  | cons a r'=>rw [if_neg (by simp)]
 refine wpAny_binaryOp_repeat_ref (T:="list") (U:="int") (by decide) ⟨_,e,rfl⟩ (fun s'=>typeIs_int s' k t) noFill_list_mul F.fills_int_mul F.slot_int_rmul repeat_list F.slot_int_index.lookup
  (call_meets F.slot_int_rmul (typeIs_int s k t) F.entry_int_rmul (F.args_int_rmul_2 _ _) (int___rmul___int_list k t l its.toArray n)
    ⟨e,rfl,⟨_,e,rfl⟩,call_meets F.slot_list_mul ⟨_,e,rfl⟩ F.entry_list_mul (F.args_list_mul_2 _ _) (AutoListH.list___mul___list_int_3 l its.toArray n k t hfit hcap hlong) ⟨e,?_⟩⟩)
 rw [hnew]
 exact ⟨.ref _,_,I.lnew (t':=s.toks) (r.rep k.toNat) (by rw [ID,Nat.mul_comm];exact hz),rfl,q _ I.fresh⟩
end
section
variable {prog:Program} {w:World} {A:Around} {E:Value→Shared→Prop} {s:Shared}
end
section
variable {X:Cx}
end
end L2
namespace Att
open PySem PySem.W PySem.Calls PyProof.Rows
theorem HG {P:Params} {h:Heap}:∀(ns:List Int) (vs:List Value),WellAll P h vs (ns.map WData.int)→IntsAre vs ns:=by
 intro ns
 induction ns with
 | nil=>
   intro vs w
   rw [List.map_nil] at w
   cases w
   exact .nil
 | cons n ns ih=>
   intro vs w
   rw [List.map_cons] at w
   cases w with
   | cons a b=>
     cases a
     exact .cons _ _ (ih _ b)
theorem script_of {l:OpenLaw} {n:Nat} (hn:l.most=some n) {P:Params} {h:Heap} {args:List WData} {vals:List Value}
 (hpre:l.row.toRowW.claim.pre args=true) (hwl:WellAll P h vals args) :
 ∃a vs ns,vals=[Value.ref a]∧args=[WData.list (ns.map WData.int)]∧h.get? a=some { cls:=.type "list",data:=.seq vs.toArray }∧IntsAre vs ns∧ns.length≤n:=by
 have hsh:WShape.hasAll [] args [.list .int]=true:=(pre_splitW hpre).1
 have hc:l.pre.holds [] { args:=args }=true:=(pre_splitW hpre).2
 obtain ⟨d,r,rfl,h1,h2⟩:=hasAllW_cons hsh
 obtain rfl:=hasAllW_nil h2
 obtain ⟨xs,rfl,h3⟩:=hasW_list h1
 obtain ⟨ns,rfl⟩:=items_int h3
 have hlen:ns.length≤n:=by
  unfold OpenLaw.pre at hc
  have h4:(WTm.not (.lt (.lit (.int (n:Int))) (.len (.arg 0)))).holds [] { args:=[.list (ns.map .int)] }=true:=by
   have h4:=(holds_andW hc).1
   rw [hn] at h4
   exact h4
  have h5:=condW_of h4 (w_not (w_lt w_lit (w_len_list (w_arg rfl))))
  rw [List.length_map] at h5
  refine Nat.le_of_not_lt fun q=>?_
  have q':(n:Int) < ((ns.length:Nat):Int):=by lia
  first
   | (rw [decide_eq_true q'] at h5;exact absurd h5 (by decide))
   | (simp at h5;lia)
 cases hwl with
 | cons w1 w2=>
   cases w2
   cases w1 with
   | list ho hall=>exact ⟨_,_,ns,rfl,rfl,ho,HG ns _ hall,hlen⟩
theorem post_true (l:OpenLaw) (args:List WData):l.row.toRowW.claim.post args (.bool true) args=true:=
 postW_of (r:=l.row.toRowW) (X:=(true == true))
  (show WShape.has [] (.bool true) .bool=true by first | rfl | decide | simp [WShape.has,WShape.arms,WShape.armsAll])
  (show (WTm.eq .res (.lit (.bool true))).value [] { args:=args,res:=some (.bool true),after:=args }=some (.bool (true == true)) from w_eq_bool (w_res rfl) w_lit) rfl
section
variable {prog:Program} {w:World} {A:Around} {E:Value→Shared→Prop} {s:Shared} {K:Frag}
def WO (h:Heap) (L d:Addr):List (Addr×Obj):=(List.range h.objs.size).filterMap fun a=>if a=L∨a=d then none else (h.get? a).map fun o=>(a,o)
end
end Att
namespace L2
open PySem PySem.Spec PyProof.Rows
theorem JB:∀{vs:List Value} {ns:List Int},IntsAre vs ns→Vals (ns.map V.int) vs
 | _,_,.nil=>.nil
 | _,_,.cons n t h=>.cons ⟨t,rfl⟩ (JB h)
def Fo (s:Stmt):Arguments:=match s with
 | .FunctionDef _ a _ _ _ _ _ _ _ _=>a
 | _=>{ posonlyargs:=[],args:=[],vararg:=none,kwonlyargs:=[],kw_defaults:=[],kwarg:=none,defaults:=[] }
def CO (s:Stmt):List Stmt:=match s with
 | .FunctionDef _ _ b _ _ _ _ _ _ _=>b
 | _=>[]
def AF (s:Stmt):Scope:=match s with
 | .FunctionDef _ _ _ _ _ _ sc _ _ _=>sc
 | _=>{ kind:=.function,names:=[],isGenerator:=false,isCoroutine:=false }
abbrev CX0:CXT:=fun _ _ _ _ _ _=>False
abbrev E0:XK:=fun _ _ _=>False
theorem M3 {X:Cx}:Hu CX0 X E0:=fun _ _ _ _ _ _ _ _ h=>h.elim
structure Fun (K:PySem.W.Frag) (x qual:Str) (st:Stmt) (f:Addr) (fd:FuncData):Prop where
 ex:∃(oc:Value) (od:Option Addr) (kV doc pm:Value) (an:Option Addr) (cdv ct:Value) (osl:Array (Option Value)),
  fd=PySem.W.fnOf x qual (Fo st) (CO st) (AF st) .none kV doc pm an cdv ct∧K.lookup f=some ⟨oc,od,.func fd,osl⟩∧PySem.W.codeIn K cdv qual=true
 kp:PySem.W.keepIn K (.ref f)=true
section
variable {P:Program} {w:World} {K:PySem.W.Frag} {mg:Str→Option Value} {base:Heap}
theorem Fun.ok {x qual:Str} {st:Stmt} {f:Addr} {fd:FuncData} {N ps:List Str} {k:Nat} {sp:Sp} (F:Fun K x qual st f fd) (S:FnScope N ps (AF st)) (len:∀vs H Q E,sp vs H Q E→vs.length=ps.length)
 (hbody:∀(cdv:Value) (A:Around) (outer:List Env) (s:Shared) (H:Hp) (vs:List V) (Q:VK) (E:XK),Room k (A.deeper (envOfC qual (AF st) s.heap.objs.size f cdv))→sp vs H Q E→
   ∃t,PSs (FP CX0 P w K mg base N qual (AF st) f cdv A outer s H E).nox (CO st) t∧t { nx:=fun _ H'=>Q .non H',rt:=Q } (Dl N vs) H):FnOk P w K mg base CX0 (k + 1) f fd ps sp:=by
 obtain ⟨oc,od,kV,doc,pm,an,cdv,ct,osl,rfl,lk,hcd⟩:=F.ex
 refine Qf lk hcd S len fun A outer s H vs Q E hr hsp=>?_
 obtain ⟨t,h,q⟩:=hbody cdv A outer s H vs Q E hr hsp
 exact ⟨t,h.nox,q⟩
theorem Fun.binds {x qual:Str} {st:Stmt} {f:Addr} {fd:FuncData} {ps:List Str} (F:Fun K x qual st f fd)
 (h:∀(kV doc pm:Value) (an:Option Addr) (cdv ct:Value) (us:List Value),us.length=ps.length→bindArgs (PySem.W.fnOf x qual (Fo st) (CO st) (AF st) .none kV doc pm an cdv ct) ⟨us,[]⟩=pure (ps.zip us)):Binds K fd ps []:=by
 obtain ⟨oc,od,kV,doc,pm,an,cdv,ct,osl,rfl,lk,hcd⟩:=F.ex
 exact .all (h kV doc pm an cdv ct)
theorem NL {x qual:Str} {st:Stmt} {f:Addr} {oc:Value} {od an:Option Addr} {osl:Array (Option Value)} {kV doc pm cdv ct:Value} (l:K.lookup f=some ⟨oc,od,.func (PySem.W.fnOf x qual (Fo st) (CO st) (AF st) .none kV doc pm an cdv ct),osl⟩)
 (c:PySem.W.codeIn K cdv qual=true) (k:PySem.W.keepIn K (.ref f)=true):Fun K x qual st f (PySem.W.fnOf x qual (Fo st) (CO st) (AF st) .none kV doc pm an cdv ct):=⟨⟨oc,od,kV,doc,pm,an,cdv,ct,osl,rfl,l,c⟩,k⟩
end
section
variable {X:Cx}
end
def W1 (H H':Hp):Prop:=∀b o,H b=some o→H' b=some o
section
variable {κ:Type} [DecidableEq κ]
def EA (kvs:List (κ×V)) (k:κ):Option V:=(kvs.find? fun kv=>decide (kv.1=k)).map (·.2)
def Do (kvs:List (κ×V)) (k:κ) (v:V):List (κ×V):=
 if (kvs.any fun kv=>decide (kv.1=k))=true then kvs.map (fun kv=>if kv.1=k then (kv.1,v) else kv) else kvs++[(k,v)]
def WV (kvs:List (κ×V)) (k:κ):List (κ×V):=kvs.filter fun kv=>decide (kv.1≠k)
theorem Lv {p:κ×V} {r:List (κ×V)} {k:κ} (e:p.1=k):EA (p :: r) k=some p.2:=by simp [EA,List.find?_cons,e]
theorem Lu {p:κ×V} {r:List (κ×V)} {k:κ} (e:¬p.1=k):EA (p :: r) k=EA r k:=by simp [EA,List.find?_cons,e]
theorem G1 (kvs:List (κ×V)) (k:κ) (v:V):(Do kvs k v).length≤kvs.length + 1:=by
 unfold Do
 split
 ·rw [List.length_map];lia
 ·rw [List.length_append,List.length_cons,List.length_nil];lia
theorem KV.val {kvs:List (κ×V)} {vs:List (κ×Value)} (r:KV kvs vs) (k:κ):RelO (EA kvs k) (valueAt vs k):=by
 unfold KV at r
 induction r with
 | nil=>exact True.intro
 | @cons p q ps qs h t ih=>
   obtain ⟨h1,h2⟩:=h
   by_cases e:p.1=k
   ·have e':q.1=k:=h1.symm.trans e
    have b:valueAt (q :: qs) k=some q.2:=by simp [valueAt,List.find?_cons,e']
    rw [Lv e,b];exact h2
   ·have e':¬q.1=k:=fun z=>e (h1.trans z)
    have b:valueAt (q :: qs) k=valueAt qs k:=by simp [valueAt,List.find?_cons,e']
    rw [Lu e,b];exact ih
theorem KV.any {kvs:List (κ×V)} {vs:List (κ×Value)} (r:KV kvs vs) (k:κ):(kvs.any fun kv=>decide (kv.1=k))=vs.any fun kv=>decide (kv.1=k):=by
 unfold KV at r
 induction r with
 | nil=>rfl
 | cons h t ih=>rw [List.any_cons,List.any_cons,ih,h.1]
theorem KV.repl {kvs:List (κ×V)} {vs:List (κ×Value)} (r:KV kvs vs) (k:κ) {y:V} {u:Value} (ry:RelV y u) :
 KV (kvs.map fun kv=>if kv.1=k then (kv.1,y) else kv) (vs.map fun kv=>if kv.1=k then (kv.1,u) else kv):=by
 unfold KV at r ⊢
 induction r with
 | nil=>exact .nil
 | @cons p q ps qs h t ih=>
   rw [List.map_cons,List.map_cons]
   refine .cons ?_ ih
   obtain ⟨h1,h2⟩:=h
   by_cases e:p.1=k
   ·rw [if_pos e,if_pos (h1.symm.trans e)];exact ⟨h1,ry⟩
   ·rw [if_neg e,if_neg (fun z=>e (h1.trans z))];exact ⟨h1,h2⟩
theorem KV.put {kvs:List (κ×V)} {vs:List (κ×Value)} (r:KV kvs vs) (k:κ) {y:V} {u:Value} (ry:RelV y u):KV (Do kvs k y) (stored vs k u):=by
 unfold Do stored
 rw [r.any k]
 by_cases e:(vs.any fun kv=>decide (kv.1=k))=true
 ·rw [if_pos e,if_pos e];exact r.repl k ry
 ·rw [if_neg e,if_neg e];exact Paired.snoc r ⟨rfl,ry⟩
theorem KV.length {kvs:List (κ×V)} {vs:List (κ×Value)} (r:KV kvs vs):kvs.length=vs.length:=Paired.length r
end
theorem MV {P:Program} {w:World} {k:Key} {u:Value} (r:RelV (kV k) u):(CS P w).is k u=true:=by
 cases k with
 | inl i=>obtain ⟨t,e⟩:=(show ∃t,u=Value.int i t from r);subst e;exact LL P w i t
 | inr x=>obtain ⟨t,e⟩:=(show ∃t,u=Value.str x t from r);subst e;exact LM P w x t
abbrev KT (H:Hp):List (List Key×V)→List (List Key×Addr×Value)→Prop:=Paired fun p q=>p.1=q.1∧H q.2.1=some (.tup (p.1.map kV))∧RelV p.2 q.2.2
section
variable {P:Program} {w:World} {H:Hp} {h:Heap} {a:Addr}
theorem UH {u:HO} (ok:HOk P w H h) (e:Rd H a u):ObjOk P w H h a u:=e.ok ok
theorem Ur {kvs:List (Key×V)} (ok:HOk P w H h) (e:Rd H a (.dK kvs)):kvs.length≤sizeLine∧(a == sysModules)=false∧∃vs,KV kvs vs∧h.DictOf (CS P w) a vs:=
 show ObjOk P w H h a (.dK kvs) from UH ok e
theorem MO {kvs:List (Key×V)} (ok:HOk P w H h) (e:H a=some (.dK kvs)):kvs.length≤sizeLine∧(a == sysModules)=false∧∃vs,KV kvs vs∧h.DictOf (CS P w) a vs:=Ur ok (.inl e)
end
def DGet (H:Hp) (a:Addr) (y:V) (r:Option V):Prop:=
 (∃kvs k,Rd H a (.dK kvs)∧y=kV k∧r=EA kvs k)∨∃kvs k b,Rd H a (.dT kvs)∧y = .ref b∧H b=some (.tup (k.map kV))∧r=EA kvs k
def WZ (H:Hp) (a:Addr) (y v:V) (H':Hp):Prop:=
 (∃kvs k,H a=some (.dK kvs)∧y=kV k∧kvs.length < sizeLine∧H'=upd H a (.dK (Do kvs k v)))∨
 ∃kvs k b,H a=some (.dT kvs)∧y = .ref b∧H b=some (.tup (k.map kV))∧kvs.length < sizeLine∧H'=upd H a (.dT (Do kvs k v))
theorem DGet.k {H:Hp} {a:Addr} {kvs:List (Key×V)} {k:Key} (e:H a=some (.dK kvs)):DGet H a (kV k) (EA kvs k):=.inl ⟨kvs,k,.inl e,rfl,rfl⟩
section
variable {X:Cx} {pins:List (Addr×Obj)} {σ:St} {H:Hp} {s:Shared} {a:Addr} {y v:V} {u r:Value} {o:Option V} {A:Around} {E:Value→Shared→Prop}
theorem Inv.big (I:Inv X pins σ H s):sysModules < s.heap.objs.size:=by
 have h:mainGlobals < s.heap.objs.size:=(I.mod.glob.keeps I.bk).lt
 exact Nat.lt_trans (by decide) h
theorem L9 {h':Heap} {t':Nat} {ob:HO} (I:Inv X pins σ H s) (mu:Mut (H a)) (hs:Heap.SameBut a s.heap h') (he:∃q,h'.get? a=some q) (new:ObjOk X.prog X.w (upd H a ob) h' a ob) (ht:s.toks≤t':=by first | exact Nat.le_refl _ | assumption | lia | (dsimp only;lia)) :
 Inv X pins σ (upd H a ob) { s with heap:=h',toks:=t' }:=
 I.write (x:=a) (e:=a) mu (.inl rfl) (fun b q hb z=>(hs.2 b hb).trans z) he new
theorem ND {P:Program} {w:World} {H':Hp} {h':Heap} {kvs:List (Key×V)} {vs:List (Key×Value)} (z:kvs.length≤sizeLine) (hd:(a == sysModules)=false) (rel:KV kvs vs) (dd:h'.DictOf (CS P w) a vs) :
 ObjOk P w H' h' a (.dK kvs):=⟨z,hd,vs,rel,dd⟩
end
section
variable {X:Cx} {pins:List (Addr×Obj)} {σ:St} {H:Hp} {s:Shared} {a:Addr} {kvs:List (Key×V)} {k:Key} {u:Value} {A:Around} {E:Value→Shared→Prop}
end
section
variable {X:Cx} {o i e value:Expr} {pos pos' tpos:Pos} {td ty tv:TE}
end
theorem OT {P:Program} {w:World} {H:Hp} (h:Heap) (hb:sysModules < h.objs.size):ObjOk P w H (h.push { cls:=.type "dict",data:=.dict #[] }) h.objs.size (.dK []):=
 ⟨Nat.zero_le _,beq_eq_false_iff_ne.mpr (Ne.symm (Nat.ne_of_lt hb)),[],.nil,Heap.DictOf.new h⟩
section
variable {X:Cx} {pos:Pos}
end
def Ic:List (TE×TE)→St→Hp→(List (V×V)→Hp→Prop)→Prop
 | [],_,H,Q=>Q [] H
 | (tk,tv) :: r,σ,H,Q=>tk σ H fun x H1=>tv σ H1 fun y H2=>Ic r σ H2 fun ps H3=>Q ((x,y) :: ps) H3
abbrev VV:List (V×V)→List (Value×Value)→Prop:=Paired fun p q=>RelV p.1 q.1∧RelV p.2 q.2
def PPs (X:Cx) (pos:Pos) (keys:List (Option Expr)) (values:List Expr) (trs:List (TE×TE)):Prop:=
 ∀(pins:List (Addr×Obj)) (s:Shared) (σ:St) (H:Hp) (Q:List (V×V)→Hp→Prop),Inv X pins σ H s→Ic trs σ H Q→
  wpAny (model X.prog X.w) X.A (evalPairs (pairTrees keys values X.env pos)) (fun vs s'=>∃ps H',Inv X pins σ H' s'∧VV ps vs∧Q ps H') X.xe s
theorem RJ {X:Cx} {pos:Pos}:PPs X pos [] [] []:=fun pins s σ H Q I h=>pairTrees_nil_walk ⟨[],H,I,.nil,h⟩
theorem Ps {X:Cx} {pos:Pos} {k v:Expr} {ks:List (Option Expr)} {vs:List Expr} {tk tv:TE} {trs:List (TE×TE)} (hk:PE X k tk) (hv:PE X v tv) (hr:PPs X pos ks vs trs) :
 PPs X pos (some k :: ks) (v :: vs) ((tk,tv) :: trs):=fun pins s σ H Q I h=>
 pairTrees_cons_walk (thn (hk pins s σ H _ I h) fun u s1 ⟨x,H1,I1,rx,q1⟩=>thn (hv pins s1 σ H1 _ I1 q1) fun w2 s2 ⟨y,H2,I2,ry,q2⟩=>
  thn (hr pins s2 σ H2 _ I2 q2) fun ws s3 ⟨ps,H3,I3,rel,q3⟩=>⟨(x,y) :: ps,H3,I3,.cons ⟨rx,ry⟩ rel,q3⟩)
def EY (kvs more:List (Key×V)):List (Key×V):=more.foldl (fun acc kv=>Do acc kv.1 kv.2) kvs
theorem KV.merge:∀{more:List (Key×V)} {rs:List (Key×Value)} {kvs:List (Key×V)} {vs:List (Key×Value)},KV more rs→KV kvs vs→KV (EY kvs more) (merged vs rs):=by
 intro more rs kvs vs r
 unfold KV at r
 induction r generalizing kvs vs with
 | nil=>intro q;exact q
 | @cons p q ps qs h t ih=>
   intro r0
   have e:KV (Do kvs p.1 p.2) (stored vs q.1 q.2):=by
    have:=r0.put p.1 h.2
    rw [←h.1];exact this
   exact ih e
theorem Gh:∀(more kvs:List (Key×V)),(EY kvs more).length≤kvs.length + more.length
 | [],kvs=>by show kvs.length≤kvs.length + 0;lia
 | p :: r,kvs=>by
   have h1:=Gh r (Do kvs p.1 p.2)
   have h2:=G1 kvs p.1 p.2
   show (EY (Do kvs p.1 p.2) r).length≤_
   rw [List.length_cons];lia
theorem Hw {P:Program} {w:World}:∀{kvs:List (Key×V)} {ws:List (Value×Value)},VV (kvs.map fun kv=>(kV kv.1,kv.2)) ws→∃rs,Carries (CS P w) ws rs∧KV kvs rs
 | [],_,r=>by rw [List.map_nil] at r;cases r;exact ⟨[],True.intro,.nil⟩
 | p :: kvs,_,r=>by
   rw [List.map_cons] at r
   cases r with
   | @cons a b as bs h t=>
     obtain ⟨rs,c,q⟩:=Hw (P:=P) (w:=w) t
     obtain ⟨b1,b2⟩:=b
     exact ⟨(p.1,b2) :: rs,⟨MV h.1,rfl,c⟩,.cons ⟨rfl,h.2⟩ q⟩
def UK (trs:List (TE×TE)):TE:=fun σ H Q=>∀p,H p=none→Ic trs σ (upd H p (.dK [])) fun ps H2=>H2 p=some (.dK [])∧∃kvs:List (Key×V),ps=kvs.map (fun kv=>(kV kv.1,kv.2))∧kvs.length≤15∧Q (.ref p) (upd H2 p (.dK (EY [] kvs)))
theorem Rt {X:Cx} {pos:Pos} {keys:List (Option Expr)} {values:List Expr} {trs:List (TE×TE)} (h:PPs X pos keys values trs) (hall:keys.all (·.isSome)=true) (hl:keys.length=values.length) (h0:keys≠[])
 (h15:keys.length≤15):PE X (.Dict keys values pos) (UK trs):=by
 intro pins s σ H Q I q
 have hn:=I.hok.fresh (Nat.le_refl s.heap.objs.size)
 have I1:=I.laid (a:=s.heap.objs.size) (o:=.dK []) (h':=s.heap.push { cls:=.type "dict",data:=.dict #[] }) (t':=s.toks) (fun _ _ q=>Heap.get?_push_of_some _ q) (Nat.le_refl _) (OT s.heap I.big)
 refine wpAny_Dict_walk (knd:=CS X.prog X.w) hall hl h0 h15 (thn (h pins _ σ _ _ I1 (q _ hn)) fun ws s2 ⟨ps,H2,I2,rel,e,kvs,ep,lk,q2⟩=>?_)
 subst ep
 obtain ⟨rs,c,rk⟩:=Hw (P:=X.prog) (w:=X.w) rel
 obtain ⟨z,hd,vs0,r0,dd⟩:=MO I2.hok e
 cases r0
 refine ⟨rs,c,dd,fun h' dd' hs=>⟨.ref s.heap.objs.size,_,?_,rfl,q2⟩⟩
 have hz:(EY [] kvs).length≤sizeLine:=by
  have h1:=Gh kvs []
  rw [List.length_nil] at h1
  rw [sizeLine_eq];lia
 have he:∃q,h'.get? s.heap.objs.size=some q:=let ⟨q,_,_,hq,_⟩:=dd';⟨q,hq⟩
 exact L9 I2 (by rw [e];exact True.intro) hs he (ND hz hd (rk.merge .nil) dd')
theorem EO {env:Env}:∀(l:List (Str×NameKind)) (cs:List (Str×Addr)),(∀x c,cs.lookup x=some c→env.cells.lookup x=some c)→(∀y∈l,y.2 = .free→∃c,env.cells.lookup y.1=some c)→
 ∃cl,(forIn l cs fun (x:Str×NameKind) r=>(match x with | (name,kind)=>if (kind == NameKind.free)=true then do let c ←cellOf env name;pure (ForInStep.yield ((name,c) :: r)) else pure (ForInStep.yield r):Sem (ForInStep (List (Str×Addr)))))=pure cl∧
  (∀x c,cl.lookup x=some c→env.cells.lookup x=some c)∧(∀x c,cs.lookup x=some c→∃c',cl.lookup x=some c')∧∀y∈l,y.2 = .free→∃c,cl.lookup y.1=some c
 | [],cs,h,_=>⟨cs,rfl,h,fun _ c e=>⟨c,e⟩,fun _ z=>nomatch z⟩
 | (n,k) :: l,cs,h,hf=>by
   by_cases hk:k = .free
   ·subst hk
    obtain ⟨c,hc⟩:=hf (n,.free) List.mem_cons_self rfl
    have hc':env.cells.lookup n=some c:=hc
    have e:cellOf env n=pure c:=by unfold cellOf;rw [hc']
    obtain ⟨cl,e1,e2,e3,e4⟩:=EO l ((n,c) :: cs) (fun x c' q=>by
     rw [List.lookup_cons] at q
     by_cases hx:(x == n)=true
     ·rw [hx] at q;cases q;rw [eq_of_beq hx];exact hc'
     ·rw [Bool.eq_false_iff.mpr hx] at q;exact h x c' q) (fun y hy=>hf y (List.mem_cons_of_mem _ hy))
    have self:((n,c) :: cs).lookup n=some c:=by rw [List.lookup_cons,beq_self_eq_true]
    refine ⟨cl,?_,e2,fun x c' q=>?_,fun y hy hyf=>?_⟩
    ·rw [List.forIn_cons]
     simp only [beq_self_eq_true,if_true,e]
     exact e1
    ·by_cases hx:(x == n)=true
     ·rw [eq_of_beq hx];exact e3 n c self
     ·exact e3 x c' (by rw [List.lookup_cons,Bool.eq_false_iff.mpr hx];exact q)
    ·rcases List.mem_cons.mp hy with z | z
     ·subst z;exact e3 n c self
     ·exact e4 y z hyf
   ·have hb:(k == NameKind.free)=false:=by simpa using hk
    obtain ⟨cl,e1,e2,e3,e4⟩:=EO l cs h (fun y hy=>hf y (List.mem_cons_of_mem _ hy))
    refine ⟨cl,?_,e2,e3,fun y hy hyf=>?_⟩
    ·rw [List.forIn_cons]
     simp only [hb,Bool.false_eq_true,if_false]
     exact e1
    ·rcases List.mem_cons.mp hy with z | z
     ·subst z;exact absurd hyf hk
     ·exact e4 y z hyf
theorem Hx {scope:Scope} {env:Env} (h:∀y∈scope.names,y.2 = .free→∃c,env.cells.lookup y.1=some c) :
 ∃cl,closureFor scope env=pure cl∧(∀x c,cl.lookup x=some c→env.cells.lookup x=some c)∧∀y∈scope.names,y.2 = .free→∃c,cl.lookup y.1=some c:=by
 obtain ⟨cl,e1,e2,_,e4⟩:=EO (env:=env) scope.names [] (fun _ _ q=>nomatch q) h
 refine ⟨cl,?_,e2,e4⟩
 simp only [closureFor]
 first | (rw [e1];rfl) | (simp only [e1];rfl) | (trace_state;exact e1)
theorem KC {prog:Program} {w:World} {A:Around} {R:Result→Shared→Prop} {s:Shared} {elt target iter:Expr} {ifs:List Expr} {scope:Scope} {pos:Pos} {it acc:Value} {env:Env} (I:Nat→Shared→Prop)
 (turn:∀n s,I n s→wpAny (model prog w) A (pyNext it) (fun r s₁=>match r with
   | none=>R (.ok .next) s₁
   | some v=>wpAny (model prog w) A (letOwnedTupleGo target it v) (fun _ s₁'=>wpAny (model prog w) A (assign target env v) (fun _ s₂=>
      wpAny (model prog w) A (forIn ifs true fun c r=>if r=true then do let ok ←isTrue c env (eval c env);pure (ForInStep.yield ok) else pure (ForInStep.yield r)) (fun ok s₃=>
       if ok=true then wpAny (model prog w) A (eval elt env) (fun x s₄=>
        wpAny (model prog w) A (call (.builtin "list.append") [acc,x]) (fun _ s₅=>∃m,m < n∧I m s₅) (fun _ _=>False) s₄) (fun _ _=>False) s₃
       else ∃m,m < n∧I m s₃) (fun _ _=>False) s₂) (fun _ _=>False) s₁') (fun _ _=>False) s₁) (fun _ _=>False) s)
 (n:Nat) (h:I n s) :
 codeAny (model prog w) A (.compLoop (.ListComp elt [⟨target,iter,ifs,0⟩] scope pos) 0 it acc env) R s:=by
 refine codeAny_loop rfl I (fun n s hI=>?_) n h
 show wpAny _ A ((compTurn (.ListComp elt [⟨target,iter,ifs,0⟩] scope pos) 0 it acc env).onRaise (fun x=>do noteFrame x env;theTreesLotGoes x)) _ _ s
 refine wpAny_noted ?_
 rw [compTurn_list]
 refine wpAny_bind (wpAny_standAt (wpAny_bind (wpAny_mono (turn n s hI) (fun r s₁ h₁=>?_) fun _ _ h'=>h'.elim)))
 cases r with
 | none=>exact wpAny_pure h₁
 | some v=>
   refine wpAny_bind (wpAny_mono h₁ (fun _ s₁' h₁'=>?_) fun _ _ h'=>h'.elim)
   refine wpAny_bind (wpAny_mono h₁' (fun _ s₂ h₂=>wpAny_bind (wpAny_mono h₂ (fun ok s₃ h₃=>?_) fun _ _ h'=>h'.elim)) fun _ _ h'=>h'.elim)
   cases ok with
   | false=>exact wpAny_pure ⟨rfl,h₃⟩
   | true=>
     exact wpAny_bind (wpAny_bind (wpAny_mono h₃ (fun x s₄ h₄=>wpAny_bind (wpAny_mono h₄ (fun _ s₅ h₅=>wpAny_pure (wpAny_pure ⟨rfl,h₅⟩)) fun _ _ h'=>h'.elim)) fun _ _ h'=>h'.elim))
end L2
set_option maxHeartbeats 2000000
namespace L2
open PySem PySem.Spec PyProof.Rows
def Cd (X:Cx) (N':List Str) (scope:Scope) (cl:List (Str×Addr)) (C:Addr) (s2:Shared) (H2:Hp) (fp:List Addr):Cx where
 prog:=X.prog
 w:=X.w
 K:=X.K
 mg:=X.mg
 base:=X.base
 A:=X.A
 N:=N'
 s₀:=s2
 H₀:=H2
 env:=compEnvC scope cl C X.env
 outer:=X.stack
 stack:=X.stack
 ex:=fp
 fn:=fun _=>false
 calm:=X.calm
 pn:=[]
 xe:=fun _ _=>False
theorem G2 (h:Str→NameKind→NameKind) (x:Str):∀l:List (Str×NameKind),(l.map fun p=>(p.1,h p.1 p.2)).lookup x=(l.lookup x).map (h x)
 | []=>rfl
 | (n,k) :: l=>by
   show List.lookup x ((n,h n k) :: _)=_
   rw [List.lookup_cons,List.lookup_cons]
   by_cases hx:(x == n)=true
   ·rw [hx,eq_of_beq hx];rfl
   ·rw [Bool.eq_false_iff.mpr hx];exact G2 h x l
theorem Fy (scope:Scope) (env:Env) (x:Str):(relabel scope env).names.lookup x=(scope.names.lookup x).map fun k=>if (k == .free && env.scope.kind == .function && env.kindOf x == some .cell)=true then .cell else k:=by
 rw [←G2 (fun n k=>if (k == NameKind.free && env.scope.kind == .function && env.kindOf n == some .cell)=true then .cell else k) x scope.names]
 unfold relabel
 dsimp only
 congr 1
 apply List.map_congr_left
 intro p _
 obtain ⟨n,k⟩:=p
 dsimp only
 split <;> rfl
theorem Cu {x:Str} {k:NameKind}:∀{l:List (Str×NameKind)},l.lookup x=some k→(x,k)∈l
 | (n,k') :: l,h=>by
   rw [List.lookup_cons] at h
   by_cases hx:(x == n)=true
   ·rw [hx] at h;cases h;rw [eq_of_beq hx];exact List.mem_cons_self
   ·rw [Bool.eq_false_iff.mpr hx] at h;exact List.mem_cons_of_mem _ (Cu h)
theorem K6 {scope:Scope} {env:Env} {x:Str} (hcell:∀y∈scope.names,y.2≠.cell) (h:(relabel scope env).names.lookup x=some .cell∨(relabel scope env).names.lookup x=some .free):scope.names.lookup x=some .free:=by
 rw [Fy] at h
 cases e:scope.names.lookup x with
 | none=>rw [e] at h;rcases h with h | h <;> cases h
 | some k=>
   by_cases hk:k = .free
   ·rw [hk]
   ·have hb:(k == NameKind.free)=false:=by simpa using hk
    rw [e] at h
    simp only [Option.map_some,hb,Bool.false_and,Bool.false_eq_true,if_false] at h
    rcases h with h | h
    ·cases h;exact absurd rfl (hcell _ (Cu e))
    ·cases h;exact absurd rfl hk
def PIf (X:Cx) (ifs:List Expr) (t:TT):Prop:=
 ∀(pins:List (Addr×Obj)) (s:Shared) (σ:St) (H:Hp) (Q:Bool→Hp→Prop),Inv X pins σ H s→t σ H Q→
  wpAny (model X.prog X.w) X.A (forIn ifs true fun c r=>if r=true then do let ok ←isTrue c X.env (eval c X.env);pure (ForInStep.yield ok) else pure (ForInStep.yield r)) (TP X pins σ Q) X.xe s
def UO:TT:=fun _ H Q=>Q true H
theorem Rx {X:Cx}:PIf X [] UO:=fun _ _ _ H _ I h=>wpAny_tests_nil ⟨H,I,h⟩
theorem Ry {X:Cx} {c:Expr} {t:TT} (h:PT X c t):PIf X [c] t:=fun pins s σ H Q I q=>wpAny_tests_one (h pins s σ H Q I q)
def Ot (J:It) (g:TG) (tt:TT) (te:TE) (σ₀:St) (H1:Hp) (Fin:List V→Hp→Prop):Prop:=
 ∃W:Nat→Nat→List V→St→Hp→Prop,(∃m,W 0 m [] σ₀ H1)∧∀i m acc σ' H',W i m acc σ' H'→acc.length≤sizeLine∧
  ((J.stop i H'∧Fin acc H')∨
    (J.go i H'∧∀x H2,J.yld i H' x H2→g x σ' H2 fun σ3 H3=>tt σ3 H3 fun b H4=>if b=true then te σ3 H4 fun v H5=>∃m',m' < m∧W (i + 1) m' (acc++[v]) σ3 H5 else ∃m',m' < m∧W (i + 1) m' acc σ3 H4))
def Nb (wi:TI) (g:TG) (tt:TT) (te:TE) (σf:St→St):TE:=fun σ H Q=>wi σ H fun J H1=>Ot J g tt te (σf σ) H1 fun acc H'=>∀p,H' p=none→acc.length≤sizeLine→Q (.ref p) (upd H' p (.lst acc))
structure CmpOk (X:Cx) (scope:Scope) (N':List Str) (σf:St→St):Prop where
 kind:scope.kind = .function
 cell:∀y∈scope.names,y.2≠.cell
 loc:∀y∈scope.names,y.2 = .local→scope.names.lookup y.1=some .local
 free:∀y∈scope.names,y.2 = .free→X.env.kindOf y.1=some .cell∨X.env.kindOf y.1=some .free
 len:∀σ:St,σ.length=X.N.length→(σf σ).length=N'.length
 vals:∀(σ:St) (j:Nat) (x:Str) (v:V),N'[j]?=some x→(σf σ)[j]?=some (some v)→∃i:Nat,X.N[i]?=some x∧σ[i]?=some (some v)∧scope.names.lookup x=some .free
section
variable {X:Cx} {tg elt iter:Expr} {ifs:List Expr} {scope:Scope} {pos:Pos} {N':List Str} {wi:TI} {g:TG} {tt:TT} {te:TE} {σf:St→St}
theorem SH {pins:List (Addr×Obj)} {σ:St} {H2:Hp} {s2:Shared} {cl:List (Str×Addr)} {C:Addr} {fp:List Addr} (O:CmpOk X scope N' σf) (I2:Inv X pins σ H2 s2) (f2:∀b∈fp,FpOk X pins H2 b) (hC:s2.heap.objs.size≤C)
 (hlt:∀b∈fp,b < s2.heap.objs.size) (e2:∀x c,cl.lookup x=some c→X.env.cells.lookup x=some c) (e4:∀y∈scope.names,y.2 = .free→∃c,cl.lookup y.1=some c):(Cd X N' scope cl C s2 H2 fp).Ok where
 mod:=I2.ok.mod
 kind:=O.kind
 glob:=I2.ok.glob
 blt:=I2.ok.blt
 above:=hC
 inj:=fun x y c h1 h2=>I2.ok.inj x y c (e2 x c h1) (e2 y c h2)
 has:=fun x h=>by
  have q:=K6 (env:=X.env) (x:=x) O.cell h
  exact e4 _ (Cu q) rfl
 cab:=fun x c h _=>nomatch h
 hd:=I2.ok.hd
 frames:=I2.ok.frames
 stk:=.inl rfl
 exf:=fun b hb=>⟨Nat.ne_of_lt (Nat.lt_of_lt_of_le (hlt b hb) hC),fun x c e=>(f2 b hb).2.2.2.2.1 x c (e2 x c e)⟩
 bs:=I2.bs
 bsz:=Nat.le_trans I2.ok.bsz I2.sz
 noex:=fun b o e hb=>by
  rcases (f2 b hb).2.2.2.1 with z | z
  ·exact I2.ok.noex b o e z
  ·exact absurd (Nat.lt_of_lt_of_le (Heap.lt_size (I2.ok.bs b o e).1) z) (Nat.lt_irrefl _)
 exfs:=fun b hb z=>by
  rcases List.mem_cons.mp (I2.stkSub b z) with q | q
  ·exact (f2 b hb).2.1 q
  ·exact (f2 b hb).2.2.1 q
 funs:=I2.stack
 frf:=I2.stkFree
theorem T6 {pins:List (Addr×Obj)} {σ:St} {H2:Hp} {s2:Shared} (I2:Inv X pins σ H2 s2) {a:Addr} (h:s2.heap.objs.size≤a):a∉frs X.stack:=fun hb=>by
 rcases List.mem_cons.mp (I2.stkSub a hb) with q | q
 ·exact absurd (Nat.lt_of_lt_of_le I2.lt h) (by rw [q];exact Nat.lt_irrefl _)
 ·exact I2.nofs h q
theorem Kp {pins:List (Addr×Obj)} {σ:St} {H2:Hp} {s2:Shared} {cl:List (Str×Addr)} {fp:List Addr} {it:Addr} {tn:Nat→Heap→Prop} {J:It} {Fin:List V→Hp→Prop} {RR:Value→Addr→Result→Shared→Prop} {E:Value→Shared→Prop} (O:CmpOk X scope N' σf) (hc:X.calm=true)
 (I2:Inv X pins σ H2 s2) (T:Turn X.prog X.w X.K tg J fp it tn) (st2:tn 0 s2.heap) (f2:∀b∈fp,FpOk X pins H2 b)
 (e2:∀x c,cl.lookup x=some c→X.env.cells.lookup x=some c) (e4:∀y∈scope.names,y.2 = .free→∃c,cl.lookup y.1=some c)
 (hg:∀C,PG (Cd X N' scope cl C s2 H2 fp) tg g) (ht:∀C,PIf (Cd X N' scope cl C s2 H2 fp) ifs tt) (he:∀C,PE (Cd X N' scope cl C s2 H2 fp) elt te)
 (B:Ot J g tt te (σf σ) H2 Fin)
 (fin:∀C s' σ' H' acc m,s2.heap.objs.size≤C→C≠s2.heap.objs.size→Inv (Cd X N' scope cl C s2 H2 fp) [] σ' H' s'→H' s2.heap.objs.size=none→acc.length≤sizeLine→(∃its n,Vals acc its∧s'.heap.get? s2.heap.objs.size=some { cls:=.type "list",data:=.seq its.toArray n })→Fin acc H'→s'.heap.Ns C m→
   RR (.ref s2.heap.objs.size) C (.ok .next) s') :
 wpAny (model X.prog X.w) X.A (newList []) (fun acc s₃=>wpAny (model X.prog X.w) X.A (newFunctionEnv scope X.env.globals cl [] X.env.qual none .none (some X.env)) (fun cenv s₄=>
  codeAny (model X.prog X.w) X.A (.compStart (.ListComp elt [⟨tg,iter,ifs,0⟩] scope pos) 0 (.ref it) acc { cenv with scope:=relabel scope X.env }) (RR acc cenv.locals) s₄) E s₃) E s2:=by
 refine wpAny_newObj_type (wpAny_newFunctionEnv O.cell (by intro y hy;simp at hy) (fun h₁ hns₁ hsb₁=>?_) O.kind)
 dsimp only at hns₁ hsb₁ ⊢
 generalize hH2:s2.heap.push { cls:=.type "list",dict:=none,data:=.seq ([]:List Value).toArray }=HP at hns₁ hsb₁ ⊢
 have hC:HP.objs.size=s2.heap.objs.size + 1:=by rw [←hH2,Heap.size_push]
 generalize hDD:s2.heap.objs.size=DD at *
 generalize hCC:HP.objs.size=CC at *
 have hDC:DD≠CC:=by rw [hC];exact Nat.ne_of_lt (Nat.lt_succ_self _)
 have hCle:s2.heap.objs.size≤CC:=by rw [hC,hDD];exact Nat.le_succ _
 have hlt:∀b∈fp,b < s2.heap.objs.size:=fun b hb=>by obtain ⟨o,e,_⟩:=T.obj _ _ st2 b hb;exact Heap.lt_size e
 have hlt':∀b∈fp,b < DD:=fun b hb=>by rw [←hDD];exact hlt b hb
 have below:∀b,b < DD→b≠CC∧b≠DD:=fun b hb=>⟨by rw [hC];exact Nat.ne_of_lt (Nat.lt_succ_of_lt hb),Nat.ne_of_lt hb⟩
 have old:∀b o,s2.heap.get? b=some o→h₁.get? b=some o:=fun b o e=>hsb₁.extBut b o (below b (by rw [←hDD];exact Heap.lt_size e)).1 (Heap.get?_push_of_some _ (hH2 ▸ Heap.get?_push_of_some _ e))
 have hacc:h₁.get? DD=some { cls:=.type "list",data:=.seq ([]:List Value).toArray }:=by
  refine hsb₁.extBut _ _ hDC (Heap.get?_push_of_some _ ?_)
  rw [←hH2,←hDD]
  exact Heap.get?_push_size _ rfl
 have ok:=SH (cl:=cl) (C:=CC) O I2 f2 hCle hlt e2 e4
 have hfs:DD∉frs X.stack:=T6 I2 (by rw [hDD];exact Nat.le_refl _)
 obtain ⟨W,⟨m0,w0⟩,turn⟩:=B
 let X':Cx:=Cd X N' scope cl CC s2 H2 fp
 have I0:Inv X' [] (σf σ) H2 { s2 with heap:=h₁,toks:=s2.toks + ([]:List (Str×Value)).length }:=by
  refine ⟨ok,rfl,I2.bare,Un.kept old,⟨_,hns₁,fun j x v q1 q2 q3=>?_⟩,fun x c e=>?_,I2.hok.fresh hCle,fun x c e=>I2.freeC x c (e2 x c e),(fun p hp=>nomatch hp),I2.hok.kept old,O.len σ I2.len,Nat.le_trans I2.tk (Nat.le_add_right _ _)⟩
  ·obtain ⟨i,n1,n2,n3⟩:=O.vals σ j x v q1 q2
   obtain ⟨m,_,hl⟩:=I2.loc
   have hfr:=O.free _ (Cu n3) rfl
   obtain ⟨u,r,l⟩:=hl i x v n1 n2 (.inr hfr)
   refine ⟨u,r,?_⟩
   rcases l with ⟨k,_⟩ | ⟨_,c,ec,hcell⟩
   ·rcases hfr with z | z <;> (have z':=k.symm.trans z;cases z')
   ·obtain ⟨c',ec'⟩:=e4 _ (Cu n3) rfl
    have z:=e2 _ _ ec'
    have ez:X.env.cells.lookup x=some c':=z
    rw [ec] at ez
    cases ez
    refine .inr ⟨?_,c,ec',?_⟩
    ·show (relabel scope X.env).names.lookup x=some .cell∨(relabel scope X.env).names.lookup x=some .free
     rw [Fy,n3]
     simp only [Option.map_some]
     split
     ·exact .inl rfl
     ·exact .inr rfl
    ·obtain ⟨o,ho,hd⟩:=hcell
     exact ⟨o,old _ _ ho,hd⟩
  ·obtain ⟨v,o,ho,hd⟩:=I2.cell x c (e2 x c e)
   exact ⟨v,o,old _ _ ho,hd⟩
 have loop:∀s₃:Shared,s₃ = { s2 with heap:=h₁,toks:=s2.toks + ([]:List (Str×Value)).length }→
  codeAny (model X.prog X.w) X.A (.compLoop (.ListComp elt [⟨tg,iter,ifs,0⟩] scope pos) 0 (.ref it) (.ref DD) (compEnvC scope cl CC X.env)) (RR (.ref DD) CC) s₃:=by
  rintro s₃ rfl
  refine KC (fun n s'=>∃i acc its nn σ' H',Inv X' [] σ' H' s'∧tn i s'.heap∧(∀b∈fp,H' b=none)∧Vals acc its∧s'.heap.get? DD=some { cls:=.type "list",data:=.seq its.toArray nn }∧H' DD=none∧W i n acc σ' H') ?_ m0
   ⟨0,[],[],0,σf σ,H2,I0,T.keep _ _ _ st2 (fun b _ o e=>old b o e),fun b hb=>(f2 b hb).1,.nil,hacc,I2.hok.fresh (by rw [hDD];exact Nat.le_refl _),w0⟩
  rintro n s' ⟨i,acc,its,nn,σ3,H3,I3,st3,fr3,hv,hD,hDn,w3⟩
  have I3p:Inv X' [(DD,({ cls:=.type "list",data:=.seq its.toArray nn }:Obj))] σ3 H3 s':=I3.pins_of fun p hp=>by
   have e:p=(DD,({ cls:=.type "list",data:=.seq its.toArray nn }:Obj)):=by simpa using hp
   subst e
   exact ⟨hD,hDn,hDC,hfs,fun v z=>nomatch z⟩
  have stat:∀{pins':List (Addr×Obj)} {H':Hp},(∀p∈pins',p.1=DD)→(∀b∈fp,H' b=none)→∀b∈fp,FpOk X' pins' H' b:=fun {pins' H'} hp hn b hb=>
   ⟨hn b hb,(ok.exf b hb).1,ok.exfs b hb,.inl hb,(ok.exf b hb).2,fun p hp' z=>by
    have e:p.1=DD:=hp p (by simpa [X',Cd] using hp')
    exact absurd (hlt' b hb) (by rw [←z,e];exact Nat.lt_irrefl _)⟩
  have one:∀p∈[(DD,({ cls:=.type "list",data:=.seq its.toArray nn }:Obj))],p.1=DD:=fun p hp=>by
   have e:p=(DD,({ cls:=.type "list",data:=.seq its.toArray nn }:Obj)):=by simpa using hp
   rw [e]
  obtain ⟨hz,tr⟩:=turn i n acc σ3 H3 w3
  rcases tr with ⟨stop,qf⟩ | ⟨go,step⟩
  ·refine thn (T.done X' rfl rfl rfl hc i _ s' σ3 H3 (fun _ _=>False) I3p (stat one fr3) st3 stop) fun r s4 ⟨hr,I4⟩=>?_
   subst hr
   obtain ⟨m4,hm4,_⟩:=I4.loc
   have pD:=(I4.pin (DD,({ cls:=.type "list",data:=.seq its.toArray nn }:Obj)) (by simp [X',Cd])).1
   have I4':Inv X' [] σ3 H3 s4:=I4.pins_of fun p hp=>nomatch hp
   exact fin CC s4 σ3 H3 acc m4 (by rw [hDD] at hCle;exact hCle) (Ne.symm hDC) I4' hDn hz ⟨its,nn,hv,pD⟩ qf hm4
  ·refine thn (T.item X' rfl rfl rfl hc i _ s' σ3 H3 (fun _ _=>False) I3p (stat one fr3) st3 go) fun r s4 ⟨u,hr,h4⟩=>?_
   subst hr
   refine thn h4 fun _ s5 ⟨x,H5,I5,r5,y5,st5,fr5⟩=>?_
   have I5':=I5.pinned (stat one fr5) (T.obj _ _ st5)
   refine thn (hg CC _ s5 σ3 H5 x u _ I5' r5 (step x H5 y5)) fun _ s6 ⟨σ6,H6,I6,q6⟩=>?_
   refine thn (ht CC _ s6 σ6 H6 _ I6 q6) fun b s7 ⟨H7,I7,q7⟩=>?_
   have back:∀{H8:Hp} {s8:Shared},Inv X' ([(DD,({ cls:=.type "list",data:=.seq its.toArray nn }:Obj))]++GB fp s5.heap) σ6 H8 s8→
    s8.heap.get? DD=some { cls:=.type "list",data:=.seq its.toArray nn }∧H8 DD=none∧tn (i + 1) s8.heap∧(∀b∈fp,H8 b=none)∧Inv X' [] σ6 H8 s8:=fun {H8 s8} I8=>by
    have p1:=I8.pin (DD,({ cls:=.type "list",data:=.seq its.toArray nn }:Obj)) (by simp [X',Cd])
    refine ⟨p1.1,p1.2.1,T.keep _ _ _ st5 fun b hb o e=>(I8.pin (b,o) (List.mem_append_right _ (List.mem_append_right _ (EE hb e)))).1,fun b hb=>?_,I8.pins_of fun p hp=>nomatch hp⟩
    obtain ⟨o,e,_⟩:=T.obj _ _ st5 b hb
    exact (I8.pin (b,o) (List.mem_append_right _ (List.mem_append_right _ (EE hb e)))).2.1
   cases b with
   | false=>
     rw [if_neg Bool.false_ne_true] at q7 ⊢
     obtain ⟨m',hm,w7⟩:=q7
     obtain ⟨a1,a2,a3,a4,a5⟩:=back I7
     exact ⟨m',hm,i + 1,acc,its,nn,σ6,H7,a5,a3,a4,hv,a1,a2,w7⟩
   | true=>
     rw [if_pos rfl] at q7 ⊢
     refine thn (he CC _ s7 σ6 H7 _ I7 q7) fun y s8 ⟨v8,H8,I8,r8,m',hm,w8⟩=>?_
     obtain ⟨a1,a2,a3,a4,a5⟩:=back I8
     have hsz:its.toArray.size≤sizeLine:=by
      have e:=hv.length
      simpa [e] using hz
     refine wpAny_list_append_plain (hsz:=hsz) ⟨nn,a1⟩ fun h9 hl9 hs9=>?_
     obtain ⟨n9,e9⟩:=hl9
     have e9':h9.get? DD=some { cls:=.type "list",data:=.seq (its++[y]).toArray n9 }:=by simpa using e9
     refine ⟨m',hm,i + 1,acc++[v8],its++[y],n9,σ6,H8,a5.turned (t':=s8.toks) (h':=h9) (it:=DD) (fun b o hb e=>hs9.extBut b o hb e) a2 hDC (.inr (show s2.heap.objs.size≤DD by rw [hDD];exact Nat.le_refl _)) (fun x' c e z=>?_) (fun p hp=>nomatch hp),T.keep _ _ _ a3 fun b hb o e=>hs9.extBut b o (Nat.ne_of_lt (hlt' b hb)) e,a4,hv.append (.cons r8 .nil),e9',a2,w8⟩
     obtain ⟨v,o,ho,hd⟩:=I2.cell x' c (e2 x' c e)
     have:=Heap.lt_size ho
     rw [hDD,z] at this
     exact Nat.lt_irrefl _ this
 exact codeAny_compStart_list (loop _ rfl) (T.self _ 0 _ _ _ (T.keep _ _ _ st2 fun b _ o e=>old b o e) (loop _ rfl))
end
section
variable {X:Cx} {tg elt iter:Expr} {ifs:List Expr} {scope:Scope} {pos:Pos} {N':List Str} {wi:TI} {g:TG} {tt:TT} {te:TE} {σf:St→St}
theorem Jp {pins:List (Addr×Obj)} {σ σ':St} {H2 H':Hp} {s2 s':Shared} {cl:List (Str×Addr)} {fp:List Addr} {C:Addr} {acc:List V} {its:List Value} {n:Nat} {h':Heap} (I2:Inv X pins σ H2 s2) (f2:∀b∈fp,FpOk X pins H2 b)
 (hC:s2.heap.objs.size≤C) (hCD:C≠s2.heap.objs.size) (I':Inv (Cd X N' scope cl C s2 H2 fp) [] σ' H' s') (hDn:H' s2.heap.objs.size=none) (hz:acc.length≤sizeLine) (hv:Vals acc its)
 (hD:s'.heap.get? s2.heap.objs.size=some { cls:=.type "list",data:=.seq its.toArray n }) (hs:Heap.SameBut C s'.heap h') :
 Inv X pins σ (upd H' s2.heap.objs.size (.lst acc)) { s' with heap:=h' }:=by
 have U:=I'.base
 have lt:∀b o,s2.heap.get? b=some o→b≠C∧b≠s2.heap.objs.size:=fun b o e=>⟨Nat.ne_of_lt (Nat.lt_of_lt_of_le (Heap.lt_size e) hC),Nat.ne_of_lt (Heap.lt_size e)⟩
 have neD:∀b u,H' b=some u→b≠s2.heap.objs.size:=fun b u e=>Bk e hDn
 have neC:∀b u,H' b=some u→b≠C:=fun b u e=>Bk e I'.free
 refine I2.call' (s':={ s' with heap:=h' }) (ch:=fp) I'.os ⟨fun b o e n hb hx=>?_,fun b o e n hb hx=>?_,fun b o e n hx=>?_,fun b o e hx=>?_,fun b xs e=>?_,fun b o u e=>?_,fun b ps e=>?_⟩ ?_ I'.bare (fun b hb=>⟨(f2 b hb).2.2.2.1,(f2 b hb).2.1,(f2 b hb).2.2.2.2.1,(f2 b hb).2.2.2.2.2⟩) I'.tk
 ·exact hs.extBut b o (lt b o e).1 (U.keep b o e n hb hx)
 ·obtain ⟨sl,q⟩:=U.slot b o e n hb hx
  exact ⟨sl,hs.extBut b _ (lt b o e).1 q⟩
 ·rw [AA (lt b o e).2];exact U.free b o e n hx
 ·obtain ⟨o',q⟩:=U.there b o e hx
  exact ⟨o',hs.extBut b _ (lt b o e).1 q⟩
 ·have q:=U.tups b xs e;rw [AA (neD b _ q)];exact q
 ·have q:=U.frzs b o u e;rw [AA (neD b _ q)];exact q
 ·obtain ⟨m,q⟩:=U.tbls b ps e
  exact ⟨m,by rw [AA (neD b _ q)];exact q⟩
 ·intro b u e
  by_cases hb:b=s2.heap.objs.size
  ·subst hb
   rw [AW] at e
   cases e
   exact ⟨hz,its,n,hv,hs.extBut _ _ (Ne.symm hCD) hD⟩
  ·rw [AA hb] at e
   refine (I'.hok b u e).stay (fun c v hc q=>hs.extBut c v ?_ q) (fun c q=>by rw [AA (neD c _ q)];exact q) fun c xs q=>by rw [AA (neD c _ q)];exact q
   rcases hc with z | z
   ·rw [z];exact neC b u e
   ·exact neC c _ z
theorem Rs (O:CmpOk X scope N' σf) (hc:X.calm=true) (hi:PI X tg iter wi)
 (hg:∀cl C s2 H2 fp,PG (Cd X N' scope cl C s2 H2 fp) tg g) (ht:∀cl C s2 H2 fp,PIf (Cd X N' scope cl C s2 H2 fp) ifs tt) (he:∀cl C s2 H2 fp,PE (Cd X N' scope cl C s2 H2 fp) elt te)
 (hs:∀x,foldedSetIterable iter X.env x=pure x:=by intro _;rfl):PE X (.ListComp elt [⟨tg,iter,ifs,0⟩] scope pos) (Nb wi g tt te σf):=by
 intro pins s σ H Q I h
 obtain ⟨cl,e1,e2,e4⟩:=Hx (scope:=scope) (env:=X.env) fun y hy hf=>I.ok.has y.1 (O.free y hy hf)
 rw [eval_ListComp]
 refine wpAny_comprehension_free (use:=none) rfl hs e1 O.kind O.loc (thn (hi pins s σ H _ I h) fun v s1 h1=>thn h1 fun itv s2 h2=>?_)
 obtain ⟨it,fp,tn,J,H2,rfl,I2,T,st2,f2,B⟩:=h2
 refine Kp (RR:=fun acc C=>compPost (model X.prog X.w) X.A X.xe none (EP X pins σ Q) acc C) O hc I2 T st2 f2 e2 e4 (fun C=>hg cl C s2 H2 fp) (fun C=>ht cl C s2 H2 fp) (fun C=>he cl C s2 H2 fp) B ?_
 intro C s' σ' H' acc m hC hCD I' hDn hz hL fin hn
 obtain ⟨its,n,hv,hD⟩:=hL
 refine ⟨m,hn,fun h' hs'=>?_⟩
 exact ⟨.ref s2.heap.objs.size,upd H' _ (.lst acc),Jp I2 f2 hC hCD I' hDn hz hv hD hs',rfl,fin _ hDn hz⟩
theorem RK {i:Nat} {y:Str} {py spos:Pos} (O:CmpOk X scope N' σf) (hc:X.calm=true) (hN:X.N.Nodup) (hiN:X.N[i]?=some y) (hx:X.env.scope.names.lookup y=some .local) (hi:PI X tg iter wi)
 (hg:∀cl C s2 H2 fp,PG (Cd X N' scope cl C s2 H2 fp) tg g) (ht:∀cl C s2 H2 fp,PIf (Cd X N' scope cl C s2 H2 fp) ifs tt) (he:∀cl C s2 H2 fp,PE (Cd X N' scope cl C s2 H2 fp) elt te)
 (hsw:swapsWith (.ListComp elt [⟨tg,iter,ifs,0⟩] scope pos) (some (.Name y py)) spos.line X.env=pure true:=by rfl)
 (hs:∀x,foldedSetIterable iter X.env x=pure x:=by intro _;rfl):PS X (.Assign [.Name y py] (.ListComp elt [⟨tg,iter,ifs,0⟩] scope pos) spos) (Ln (Nb wi g tt te σf) (HE i)):=by
 intro pins s σ H D I h
 obtain ⟨cl,e1,e2,e4⟩:=Hx (scope:=scope) (env:=X.env) fun y hy hf=>I.ok.has y.1 (O.free y hy hf)
 rw [exec_Assign_Name_used _ _ _ _ hsw]
 refine wpAny_bind (wpAny_standAt (wpAny_bind ?_))
 show wpAny _ X.A (do let _ ←comprehension (.ListComp elt [⟨tg,iter,ifs,0⟩] scope pos) scope X.env _ (newList []) false (eval iter X.env) (some (assign (.Name y py) X.env))) _ _ s
 refine wpAny_bind (thn (wpAny_comprehension_free (use:=some (assign (.Name y py) X.env)) (Q:=fun _ s'=>SP X pins D .next s') rfl hs e1 O.kind O.loc (thn (hi pins s σ H _ I h) fun v s1 h1=>thn h1 fun itv s2 h2=>?_)) (fun _ s' hq=>wpAny_pure (wpAny_pure hq)))
 obtain ⟨it,fp,tn,J,H2,rfl,I2,T,st2,f2,B⟩:=h2
 refine Kp (RR:=fun acc C=>compPost (model X.prog X.w) X.A X.xe (some (assign (.Name y py) X.env)) (fun _ s'=>SP X pins D .next s') acc C) O hc I2 T st2 f2 e2 e4 (fun C=>hg cl C s2 H2 fp) (fun C=>ht cl C s2 H2 fp) (fun C=>he cl C s2 H2 fp) B ?_
 intro C s' σ' H' acc m hC hCD I' hDn hz hL fin hn
 obtain ⟨its,n,hv,hD⟩:=hL
 show wpAny _ X.A (assign (.Name y py) X.env (.ref s2.heap.objs.size)) _ _ _
 have I3:=Jp I2 f2 hC hCD I' hDn hz hv hD (Heap.SameBut.refl ..)
 refine wpAny_assign_Name (Jy I3 hN hiN (.inl hx) (v:=.ref s2.heap.objs.size) rfl (fun s4 I4 ⟨a,hsb,ha⟩=>?_) (.inr hx))
 have hCL:C≠X.env.locals:=Nat.ne_of_gt (Nat.lt_of_lt_of_le I2.lt hC)
 have hCc:∀x c,X.env.cells.lookup x=some c→c≠C:=fun x c e z=>by
  obtain ⟨v,q⟩:=I2.cell x c e
  exact absurd (Nat.lt_of_lt_of_le q.lt (by rw [z];exact hC)) (Nat.lt_irrefl _)
 have hCa:C≠a:=by
  rcases ha with z | z
  ·rw [z];exact hCL
  ·exact fun q=>hCc _ _ z q.symm
 refine ⟨m,hn.sameBut hsb hCa,fun h' hs'=>?_⟩
 have hnC:(upd H' s2.heap.objs.size (.lst acc)) C=none:=by rw [AA hCD];exact I'.free
 refine ⟨_,_,I4.turned (t':=s4.toks) (h':=h') (it:=C) (fun b o hb e=>hs'.extBut b o hb e) hnC hCL (.inr (Nat.le_trans I2.sz hC)) hCc (fun p hp z=>?_),fin _ hDn hz⟩
 exact absurd (Nat.lt_of_lt_of_le (Heap.lt_size (I2.pin p hp).1) (by rw [z];exact hC)) (Nat.lt_irrefl _)
end
end L2
set_option autoImplicit false
namespace F2
open PySem L2 PySem.Spec
inductive D where
 | non | bl (b:Bool) | int (i:Int) | str (x:Str) | tup (xs:List D) | lst (xs:List D) | scr (ns:List Int) | dic | obj (k:Nat) | ty (n:String) | exc (n:Str) (xs:List D)
def nfz:HO→Bool
 | .frz _ _=>false
 | _=>true
abbrev NFz:={ o:HO // nfz o=true }
structure Cf where
 ι:List Addr
 O:Addr→Prop
def Cf.A (c:Cf) (a:Addr):Prop:=a∈c.ι∨c.O a
def Scr (K:PySem.W.Frag) (c:Cf) (H:Hp) (a:Addr) (vs:List V):Prop:=
 ((∃o,H a=some (.frz o (.lst vs)))∧¬c.A a)∨
   ∃(o:Obj) (its:Array Value) (n:Nat),K.lookup a=some o∧o.cls = .type "list"∧o.dict=none∧o.data = .seq its n∧its.size≤sizeLine∧Vals vs its.toList
def XIs (qx:Bool) (x C:Addr) (dx:Option Addr) (h:Heap):Prop:=∃(o:Obj) (vs:Array Value),h.get? x=some o∧o.cls = .ref C∧o.dict=dx∧o.data = .fields vs∧(qx=true→vs[2]?=some .none∧4 < vs.size)
def SR (n:Str):List Str:=if n = "NoTalk" then ["at"] else if n = "Broken" then ["at", "side"] else []
def XFld (c:Cf) (H:Hp) (dx:Option Addr) (ns:List Str) (vs:List V):Prop:=match dx with
 | none=>vs=[]
 | some d=>H d=some (.xd (ns.zip vs))∧¬c.A d
mutual
inductive Rep (K:PySem.W.Frag) (c:Cf) (H:Hp):V→D→Prop where
 | non:Rep K c H .non .non
 | bl (b:Bool):Rep K c H (.bl b) (.bl b)
 | int (i:Int):Rep K c H (.int i) (.int i)
 | str (x:Str):Rep K c H (.str x) (.str x)
 | ty (n:String):Rep K c H (.ty n) (.ty n)
 | tup {a:Addr} {vs:List V} {ds:List D}:H a=some (.tup vs)→¬c.A a→Reps K c H vs ds→Rep K c H (.ref a) (.tup ds)
 | lst {a:Addr} {vs:List V} {ds:List D}:H a=some (.lst vs)→¬c.A a→Reps K c H vs ds→Rep K c H (.ref a) (.lst ds)
 | scr {a:Addr} {ns:List Int}:Scr K c H a (ns.map V.int)→Rep K c H (.ref a) (.scr ns)
 | dic {a:Addr}:H a=some (.dK [])→¬c.A a→Rep K c H (.ref a) .dic
 | obj {a:Addr} {k:Nat}:c.ι[k]?=some a→Rep K c H (.ref a) (.obj k)
 | exc {qx:Bool} {x C:Addr} {dx:Option Addr} {n:Str} {vs:List V} {ds:List D}:PySem.W.nsIn K mainGlobals n=some (some (.ref C))→H x=some (.ext (XIs qx x C dx))→¬c.A x→XFld c H dx (SR n) vs→Reps K c H vs ds→Rep K c H (.ref x) (.exc n ds)
inductive Reps (K:PySem.W.Frag) (c:Cf) (H:Hp):List V→List D→Prop where
 | nil:Reps K c H [] []
 | cons {v:V} {d:D} {vs:List V} {ds:List D}:Rep K c H v d→Reps K c H vs ds→Reps K c H (v :: vs) (d :: ds)
end
structure Ext (c:Cf) (H:Hp) (c':Cf) (H':Hp):Prop where
 keep:∀b o,H b=some o→¬c.A b→H' b=some o
 av:∀b o,H b=some o→c'.A b→c.A b
 io:∀(k:Nat) (a:Addr),c.ι[k]?=some a→c'.ι[k]?=some a
theorem Ext.refl {c:Cf} {H:Hp}:Ext c H c H:=⟨fun _ _ h _=>h,fun _ _ _ h=>h,fun _ _ h=>h⟩
theorem Ext.trans {c c1 c2:Cf} {H H1 H2:Hp} (a:Ext c H c1 H1) (b:Ext c1 H1 c2 H2):Ext c H c2 H2:=by
 refine ⟨fun x o h n=>?_,fun x o h n=>?_,fun k x h=>b.io k x (a.io k x h)⟩
 ·exact b.keep x o (a.keep x o h n) fun z=>n (a.av x o h z)
 ·by_cases q:c.A x
  ·exact q
  ·exact a.av x o h (b.av x o (a.keep x o h q) n)
theorem Scr.mono {K:PySem.W.Frag} {c c':Cf} {H H':Hp} {a:Addr} {vs:List V} (e:Ext c H c' H') (h:Scr K c H a vs):Scr K c' H' a vs:=by
 rcases h with ⟨⟨o,h⟩,n⟩ | h
 ·exact .inl ⟨⟨o,e.keep _ _ h n⟩,fun z=>n (e.av _ _ h z)⟩
 ·exact .inr h
theorem Scr.sq {K:PySem.W.Frag} {c:Cf} {H:Hp} {a:Addr} {vs:List V} (h:Scr K c H a vs):SqL K H a vs:=by
 rcases h with ⟨h,_⟩ | h
 ·exact .inl (.inr h)
 ·exact .inr h
theorem XFld.mono {c c':Cf} {H H':Hp} {dx:Option Addr} {ns:List Str} {vs:List V} (e:Ext c H c' H') (h:XFld c H dx ns vs):XFld c' H' dx ns vs:=by
 cases dx with
 | none=>exact h
 | some d=>exact ⟨e.keep _ _ h.1 h.2,fun z=>h.2 (e.av _ _ h.1 z)⟩
mutual
theorem Rep.mono {K:PySem.W.Frag} {c c':Cf} {H H':Hp} (e:Ext c H c' H'):∀{v:V} {d:D},Rep K c H v d→Rep K c' H' v d
 | _,_,.non=>.non
 | _,_,.bl b=>.bl b
 | _,_,.int i=>.int i
 | _,_,.str x=>.str x
 | _,_,.ty n=>.ty n
 | _,_,.tup h n r=>.tup (e.keep _ _ h n) (fun z=>n (e.av _ _ h z)) (Reps.mono e r)
 | _,_,.lst h n r=>.lst (e.keep _ _ h n) (fun z=>n (e.av _ _ h z)) (Reps.mono e r)
 | _,_,.scr h=>.scr (h.mono e)
 | _,_,.dic h n=>.dic (e.keep _ _ h n) (fun z=>n (e.av _ _ h z))
 | _,_,.obj h=>.obj (e.io _ _ h)
 | _,_,.exc g h n f r=>.exc g (e.keep _ _ h n) (fun z=>n (e.av _ _ h z)) (f.mono e) (Reps.mono e r)
theorem Reps.mono {K:PySem.W.Frag} {c c':Cf} {H H':Hp} (e:Ext c H c' H'):∀{vs:List V} {ds:List D},Reps K c H vs ds→Reps K c' H' vs ds
 | _,_,.nil=>.nil
 | _,_,.cons h t=>.cons (Rep.mono e h) (Reps.mono e t)
end
section
variable {K:PySem.W.Frag} {c:Cf} {H:Hp}
theorem Reps.length:∀{vs:List V} {ds:List D},Reps K c H vs ds→vs.length=ds.length
 | _,_,.nil=>rfl
 | _,_,.cons _ t=>by simp [Reps.length t]
theorem Reps.get:∀{vs:List V} {ds:List D} {i:Nat} {v:V} {d:D},Reps K c H vs ds→vs[i]?=some v→ds[i]?=some d→Rep K c H v d
 | _,_,_,_,_,.nil,e,_=>by simp at e
 | _,_,0,_,_,.cons r _,e,e'=>by simp at e e';subst e e';exact r
 | _,_,i + 1,_,_,.cons _ t,e,e'=>Reps.get (i:=i) t (by simpa using e) (by simpa using e')
theorem Reps.at:∀{vs:List V} {ds:List D} {i:Nat} {d:D},Reps K c H vs ds→ds[i]?=some d→∃v,vs[i]?=some v∧Rep K c H v d
 | _,_,_,_,.nil,e=>by simp at e
 | _,_,0,_,.cons r _,e=>by simp at e;subst e;exact ⟨_,rfl,r⟩
 | _,_,i + 1,_,.cons _ t,e=>by
   obtain ⟨v,h1,h2⟩:=Reps.at (i:=i) t (by simpa using e)
   exact ⟨v,by simpa using h1,h2⟩
theorem Reps.append:∀{vs ws:List V} {ds es:List D},Reps K c H vs ds→Reps K c H ws es→Reps K c H (vs++ws) (ds++es)
 | _,_,_,_,.nil,s=>s
 | _,_,_,_,.cons r t,s=>.cons r (Reps.append t s)
theorem Reps.take:∀{vs:List V} {ds:List D} (n:Nat),Reps K c H vs ds→Reps K c H (vs.take n) (ds.take n)
 | _,_,0,_=>.nil
 | _,_,_ + 1,.nil=>.nil
 | _,_,n + 1,.cons r t=>.cons r (Reps.take n t)
theorem Reps.drop:∀{vs:List V} {ds:List D} (n:Nat),Reps K c H vs ds→Reps K c H (vs.drop n) (ds.drop n)
 | _,_,0,r=>r
 | _,_,_ + 1,.nil=>.nil
 | _,_,n + 1,.cons _ t=>Reps.drop n t
theorem Reps.ints:∀ns:List Int,Reps K c H (ns.map V.int) (ns.map D.int)
 | []=>.nil
 | n :: r=>.cons (.int n) (Reps.ints r)
theorem Reps.rep {vs:List V} {ds:List D} (h:Reps K c H vs ds):∀k:Nat,Reps K c H (List.replicate k vs).flatten (List.replicate k ds).flatten
 | 0=>.nil
 | k + 1=>by
   rw [List.replicate_succ,List.replicate_succ,List.flatten_cons,List.flatten_cons]
   exact h.append (Reps.rep h k)
end
structure LamD where
 qual:Str
 params:Arguments
 body:Expr
 scope:Scope
 names:List Str
abbrev FS (o:Obj):HO:=.frz o (.own 0)
def Nj (oc:Obj) (qual:Str):Prop:=∃vs t,oc.data = .fields vs∧vs[1]?=some (.str qual t)
inductive Ob where
 | lst (xs:List D)
 | dct (kvs:List (Key×D))
 | ins (n:Str) (fs:List (Str×D))
 /-- a code object's table with at most the one lambda in it;a lambda,with what it captured -/
 | tab (P line col:Nat) (qual:Str)
 | fn (L:LamD) (ds:List D)
inductive Sl where
 | val (d:D)
 | own (xs:List D)
structure T where
 env:List (Option Sl)
 S:List Ob
def KVR (K:PySem.W.Frag) (c:Cf) (H:Hp):List (Key×V)→List (Key×D)→Prop:=Paired fun p q=>p.1=q.1∧Rep K c H p.2 q.2
def VA:List Str:=["Reader", "Side", "Lasting", "Parley", "Listener", "Relay", "Desk"]
def atN:List Str:=["grammar", "standing", "wires", "places", "side", "said", "taken", "handed", "left", "right", "under_way", "grammars", "standings", "heard", "left_grammar", "right_grammar", "rows", "pair", "broken", "parley"]
def Vo (K:PySem.W.Frag) (c:Cf) (H:Hp):List (Str×V)→List (Str×D)→Prop:=Paired fun p q=>p.1=q.1∧Rep K c H p.2 q.2
def CellR (K:PySem.W.Frag) (c:Cf) (H:Hp):List Addr→List D→Prop:=Paired fun b d=>∃(o:Obj) (w:HO) (v:V) (u:Value),H b=some (.frz o w)∧o.data = .cell (some u)∧RelV v u∧Rep K c H v d∧¬c.A b
def CodR (c:Cf) (H:Hp) (c':Addr) (qual:Str):Prop:=∃oc,H c'=some (FS oc)∧Nj oc qual∧¬c.A c'
theorem CodR.mono {c c1:Cf} {H H1:Hp} {c':Addr} {qual:Str} (e:Ext c H c1 H1) (h:CodR c H c' qual):CodR c1 H1 c' qual:=by
 obtain ⟨oc,h1,h2,h3⟩:=h
 exact ⟨oc,e.keep _ _ h1 h3,h2,fun z=>h3 (e.av _ _ h1 z)⟩
theorem CellR.mono {K:PySem.W.Frag} {c c1:Cf} {H H1:Hp} {cs:List Addr} {ds:List D} (e:Ext c H c1 H1) (h:CellR K c H cs ds):CellR K c1 H1 cs ds:=
 Paired.mapP h fun b d ⟨o,w,v,u,h1,h2,h3,h4,h5⟩=>⟨o,w,v,u,e.keep _ _ h1 h5,h2,h3,h4.mono e,fun z=>h5 (e.av _ _ h1 z)⟩
def ObR (K:PySem.W.Frag) (c:Cf) (H:Hp) (a:Addr):Ob→Prop
 | .lst ds=>∃vs,H a=some (.lst vs)∧Reps K c H vs ds
 | .dct kvs=>∃us,H a=some (.dK us)∧KVR K c H us kvs
 | .ins n fs=>(n∈VA∧∀p∈fs,p.1∈atN)∧∃C dx us,PySem.W.nsIn K mainGlobals n=some (some (.ref C))∧H a=some (.ins C dx us)∧Vo K c H us fs
 | .tab P line col qual=>a=P∧∃ps,H a=some (.tbl ps)∧(ps=#[]∨∃c',ps=#[rawInt line,rawInt col,.ref c']∧CodR c H c' qual)
 | .fn L ds=>∃(c':Addr) (ctv pm:Value) (cs:List Addr),H a=some (FS (PySem.W.kla_obj "<lambda>" L.qual L.params L.body L.scope (L.names.zip cs) pm c' ctv))∧(cs.length=L.names.length∧cs.Nodup)∧CodR c H c' L.qual∧CellR K c H cs ds
theorem ObR.mono {K:PySem.W.Frag} {c c':Cf} {H H':Hp} {a:Addr} {o:Ob} (e:Ext c H c' H') (h:ObR K c H a o) (ha:H' a=H a):ObR K c' H' a o:=by
 cases o with
 | lst ds=>obtain ⟨vs,h1,h2⟩:=h;exact ⟨vs,ha.trans h1,h2.mono e⟩
 | dct kvs=>obtain ⟨us,h1,h2⟩:=h;exact ⟨us,ha.trans h1,Paired.mapP h2 fun _ _ z=>⟨z.1,z.2.mono e⟩⟩
 | ins n fs=>obtain ⟨h0,C,dx,us,g,h1,h2⟩:=h;exact ⟨h0,C,dx,us,g,ha.trans h1,Paired.mapP h2 fun _ _ z=>⟨z.1,z.2.mono e⟩⟩
 | tab P line col qual=>obtain ⟨h0,ps,h1,h2⟩:=h;exact ⟨h0,ps,ha.trans h1,h2.imp id fun ⟨c',h3,h4⟩=>⟨c',h3,h4.mono e⟩⟩
 | fn L ds=>obtain ⟨c',ctv,pm,cs,h1,h2,h3,h4⟩:=h;exact ⟨c',ctv,pm,cs,ha.trans h1,h2,h3.mono e,h4.mono e⟩
theorem ObR.some {K:PySem.W.Frag} {c:Cf} {H:Hp} {a:Addr} {o:Ob} (h:ObR K c H a o):∃u,H a=some u:=by
 cases o with
 | lst ds=>obtain ⟨vs,h1,_⟩:=h;exact ⟨_,h1⟩
 | dct kvs=>obtain ⟨us,h1,_⟩:=h;exact ⟨_,h1⟩
 | ins n fs=>obtain ⟨_,_,_,_,_,h1,_⟩:=h;exact ⟨_,h1⟩
 | tab P line col qual=>obtain ⟨_,_,h1,_⟩:=h;exact ⟨_,h1⟩
 | fn L ds=>obtain ⟨_,_,_,_,h1,_⟩:=h;exact ⟨_,h1⟩
structure SInv (K:PySem.W.Frag) (c:Cf) (S:List Ob) (H:Hp):Prop where
 len:c.ι.length=S.length
 nd:c.ι.Nodup
 obs:∀(k:Nat) (a:Addr) (o:Ob),c.ι[k]?=some a→S[k]?=some o→ObR K c H a o
 trk:∀b,c.O b→∃o:NFz,H b=some o.1
 dis:∀b,c.O b→b∉c.ι
theorem SInv.trkA {K:PySem.W.Frag} {c:Cf} {S:List Ob} {H:Hp} (s:SInv K c S H) {b:Addr} (h:c.A b):∃o,H b=some o:=by
 rcases h with h | h
 ·obtain ⟨k,hk,e⟩:=List.mem_iff_getElem.mp h
  have e1:c.ι[k]?=some b:=by rw [List.getElem?_eq_getElem hk,e]
  have hk':k < S.length:=by rw [←s.len];exact hk
  exact (s.obs k b _ e1 (List.getElem?_eq_getElem hk')).some
 ·obtain ⟨o,e⟩:=s.trk b h;exact ⟨o.1,e⟩
theorem SInv.free {K:PySem.W.Frag} {c:Cf} {S:List Ob} {H:Hp} (s:SInv K c S H) {b:Addr} (h:H b=none):¬c.A b:=fun z=>by
 obtain ⟨o,e⟩:=s.trkA z
 rw [h] at e;cases e
structure FInv (K:PySem.W.Frag) (Oo:Addr→Prop) (c:Cf) (t:T) (σ:St) (H:Hp):Prop where
 s:SInv K c t.S H
 len:t.env.length=σ.length
 sub:∀b,Oo b→c.O b
 val:∀(i:Nat) (d:D),t.env[i]?=some (some (.val d))→∃v,σ[i]?=some (some v)∧Rep K c H v d
 own:∀(i:Nat) (ds:List D),t.env[i]?=some (some (.own ds))→∃a vs,σ[i]?=some (some (.ref a))∧c.O a∧¬Oo a∧H a=some (.lst vs)∧Reps K c H vs ds
 inj:∀(i j:Nat) (ds es:List D) (a:Addr),t.env[i]?=some (some (.own ds))→t.env[j]?=some (some (.own es))→σ[i]?=some (some (.ref a))→σ[j]?=some (some (.ref a))→i=j
structure Stp (Oo:Addr→Prop) (c:Cf) (H:Hp) (c':Cf) (H':Hp):Prop where
 ext:Ext c H c' H'
 oo:∀b,Oo b→H' b=H b
theorem Stp.refl {Oo:Addr→Prop} {c:Cf} {H:Hp}:Stp Oo c H c H:=⟨.refl,fun _ _=>rfl⟩
theorem Stp.trans {Oo:Addr→Prop} {c c1 c2:Cf} {H H1 H2:Hp} (a:Stp Oo c H c1 H1) (b:Stp Oo c1 H1 c2 H2):Stp Oo c H c2 H2:=
 ⟨a.ext.trans b.ext,fun x h=>(b.oo x h).trans (a.oo x h)⟩
section
variable {K:PySem.W.Frag} {Oo:Addr→Prop} {c:Cf} {t:T} {σ:St} {H:Hp}
theorem Ext.laid {S:List Ob} (s:SInv K c S H) {p:Addr} {o:HO} (h:H p=none):Ext c H c (upd H p o):=
 ⟨fun b u e _=>by rw [AA (Bk e h)];exact e,fun _ _ _ z=>z,fun _ _ e=>e⟩
theorem SInv.laid {S:List Ob} (s:SInv K c S H) {p:Addr} {o:HO} (h:H p=none):SInv K c S (upd H p o):=
 ⟨s.len,s.nd,fun k a u e1 e2=>by
  have q:=s.obs k a u e1 e2
  obtain ⟨w,hw⟩:=q.some
  exact q.mono (Ext.laid s h) (AA (Bk hw h)),
  fun b z=>by obtain ⟨u,e⟩:=s.trk b z;exact ⟨u,by rw [AA (Bk e h)];exact e⟩,s.dis⟩
theorem FInv.laid (f:FInv K Oo c t σ H) {p:Addr} {o:HO} (h:H p=none):FInv K Oo c t σ (upd H p o):=by
 have e:=Ext.laid (o:=o) f.s h
 refine ⟨f.s.laid h,f.len,f.sub,fun i d q=>?_,fun i ds q=>?_,f.inj⟩
 ·obtain ⟨v,h1,h2⟩:=f.val i d q
  exact ⟨v,h1,h2.mono e⟩
 ·obtain ⟨a,vs,h1,h2,h3,h4,h5⟩:=f.own i ds q
  exact ⟨a,vs,h1,h2,h3,by rw [AA (Bk h4 h)];exact h4,h5.mono e⟩
theorem FInv.stp_laid (f:FInv K Oo c t σ H) {p:Addr} {o:HO} (h:H p=none):Stp Oo c H c (upd H p o):=
 ⟨Ext.laid f.s h,fun b z=>by obtain ⟨u,e⟩:=f.s.trk b (f.sub b z);exact AA (Bk e h)⟩
theorem FInv.set (f:FInv K Oo c t σ H) {i:Nat} {v:V} {d:D} (r:Rep K c H v d):FInv K Oo c { t with env:=t.env.set i (some (.val d)) } (σ.set i (some v)) H:=by
 have neq:∀{j:Nat} {x:Sl},(t.env.set i (some (.val d)))[j]?=some (some x)→(j=i∧x = .val d∧j < t.env.length)∨(j≠i∧t.env[j]?=some (some x)):=fun {j x} q=>by
  by_cases h:j=i
  ·subst h
   rw [List.getElem?_set] at q
   split at q
   ·split at q
    ·next h1=>injection q with q;injection q with q;exact .inl ⟨rfl,q.symm,h1⟩
    ·cases q
   ·next h1=>exact absurd rfl h1
  ·rw [List.getElem?_set_ne (Ne.symm h)] at q
   exact .inr ⟨h,q⟩
 refine ⟨f.s,by simp [f.len],f.sub,fun j e q=>?_,fun j ds q=>?_,fun j k ds es a q1 q2 q3 q4=>?_⟩
 ·rcases neq q with ⟨rfl,z,hl⟩ | ⟨h,q⟩
  ·cases z
   exact ⟨v,by rw [List.getElem?_set_self (by rw [←f.len];exact hl)],r⟩
  ·obtain ⟨u,h1,h2⟩:=f.val j e q
   exact ⟨u,by rw [List.getElem?_set_ne (Ne.symm h)];exact h1,h2⟩
 ·rcases neq q with ⟨rfl,z,_⟩ | ⟨h,q⟩
  ·cases z
  ·obtain ⟨a,vs,h1,h2⟩:=f.own j ds q
   exact ⟨a,vs,by rw [List.getElem?_set_ne (Ne.symm h)];exact h1,h2⟩
 ·rcases neq q1 with ⟨_,z,_⟩ | ⟨h,q1⟩
  ·cases z
  rcases neq q2 with ⟨_,z,_⟩ | ⟨h',q2⟩
  ·cases z
  rw [List.getElem?_set_ne (Ne.symm h)] at q3
  rw [List.getElem?_set_ne (Ne.symm h')] at q4
  exact f.inj j k ds es a q1 q2 q3 q4
theorem FInv.setOwn (f:FInv K Oo c t σ H) {i:Nat} {p:Addr} {vs:List V} {ds:List D} (h:H p=none) (r:Reps K c H vs ds) :
 ∃c',FInv K Oo c' { t with env:=t.env.set i (some (.own ds)) } (σ.set i (some (.ref p))) (upd H p (.lst vs))∧Stp Oo c H c' (upd H p (.lst vs)):=by
 let c':Cf:=⟨c.ι,fun b=>c.O b∨b=p⟩
 have nA:¬c.A p:=f.s.free h
 have ext:Ext c H c' (upd H p (.lst vs)):=by
  refine ⟨fun b u e _=>by rw [AA (Bk e h)];exact e,fun b u e z=>?_,fun _ _ e=>e⟩
  rcases z with z | z | z
  ·exact .inl z
  ·exact .inr z
  ·subst z;rw [h] at e;cases e
 have stp:Stp Oo c H c' (upd H p (.lst vs)):=⟨ext,fun b z=>by obtain ⟨u,e⟩:=f.s.trk b (f.sub b z);exact AA (Bk e h)⟩
 have sinv:SInv K c' t.S (upd H p (.lst vs)):=by
  refine ⟨f.s.len,f.s.nd,fun k a u e1 e2=>?_,fun b z=>?_,fun b z hb=>?_⟩
  ·have q:=f.s.obs k a u e1 e2
   obtain ⟨w,hw⟩:=q.some
   exact q.mono ext (AA (Bk hw h))
  ·rcases z with z | z
   ·obtain ⟨u,e⟩:=f.s.trk b z;exact ⟨u,by rw [AA (Bk e h)];exact e⟩
   ·subst z;exact ⟨⟨.lst vs,rfl⟩,AW⟩
  ·rcases z with z | z
   ·exact f.s.dis b z hb
   ·subst z;exact nA (.inl hb)
 have neq:∀{j:Nat} {x:Sl},(t.env.set i (some (.own ds)))[j]?=some (some x)→(j=i∧x = .own ds∧j < t.env.length)∨(j≠i∧t.env[j]?=some (some x)):=fun {j x} q=>by
  by_cases h:j=i
  ·subst h
   rw [List.getElem?_set] at q
   split at q
   ·split at q
    ·next h1=>injection q with q;injection q with q;exact .inl ⟨rfl,q.symm,h1⟩
    ·cases q
   ·next h1=>exact absurd rfl h1
  ·rw [List.getElem?_set_ne (Ne.symm h)] at q
   exact .inr ⟨h,q⟩
 have fresh:∀(j:Nat) (es:List D),t.env[j]?=some (some (.own es))→σ[j]?≠some (some (.ref p)):=fun j es q z=>by
  obtain ⟨a,vs',h1,_,_,h4,_⟩:=f.own j es q
  rw [h1] at z;injection z with z;injection z with z;injection z with z;subst z;rw [h] at h4;cases h4
 refine ⟨c',⟨sinv,by simp [f.len],fun b z=>.inl (f.sub b z),fun j e q=>?_,fun j es q=>?_,fun j k ds' es a q1 q2 q3 q4=>?_⟩,stp⟩
 ·rcases neq q with ⟨_,z,_⟩ | ⟨hn,q⟩
  ·cases z
  ·obtain ⟨u,h1,h2⟩:=f.val j e q
   exact ⟨u,by rw [List.getElem?_set_ne (Ne.symm hn)];exact h1,h2.mono ext⟩
 ·rcases neq q with ⟨rfl,z,hl⟩ | ⟨hn,q⟩
  ·cases z
   refine ⟨p,vs,by rw [List.getElem?_set_self (by rw [←f.len];exact hl)],.inr rfl,fun z=>?_,AW,r.mono ext⟩
   obtain ⟨u,e⟩:=f.s.trk p (f.sub p z)
   rw [h] at e;cases e
  ·obtain ⟨a,ws,h1,h2,h3,h4,h5⟩:=f.own j es q
   exact ⟨a,ws,by rw [List.getElem?_set_ne (Ne.symm hn)];exact h1,.inl h2,h3,by rw [AA (Bk h4 h)];exact h4,h5.mono ext⟩
 ·rcases neq q1 with ⟨z1,z2,l1⟩ | ⟨n1,r1⟩
  ·rcases neq q2 with ⟨y1,_,_⟩ | ⟨n2,r2⟩
   ·rw [z1,y1]
   ·subst z1
    rw [List.getElem?_set_self (by rw [←f.len];exact l1)] at q3
    injection q3 with q3;injection q3 with q3;injection q3 with q3;subst q3
    rw [List.getElem?_set_ne (Ne.symm n2)] at q4
    exact absurd q4 (fresh k es r2)
  ·rcases neq q2 with ⟨y1,y2,l2⟩ | ⟨n2,r2⟩
   ·subst y1
    rw [List.getElem?_set_self (by rw [←f.len];exact l2)] at q4
    injection q4 with q4;injection q4 with q4;injection q4 with q4;subst q4
    rw [List.getElem?_set_ne (Ne.symm n1)] at q3
    exact absurd q3 (fresh j ds' r1)
   ·rw [List.getElem?_set_ne (Ne.symm n1)] at q3
    rw [List.getElem?_set_ne (Ne.symm n2)] at q4
    exact f.inj j k ds' es a r1 r2 q3 q4
theorem FInv.frz (f:FInv K Oo c t σ H) {i:Nat} {ds:List D} (q:t.env[i]?=some (some (.own ds))) :
 ∃c' v,FInv K Oo c' { t with env:=t.env.set i (some (.val (.lst ds))) } σ H∧Stp Oo c H c' H∧σ[i]?=some (some v)∧Rep K c' H v (.lst ds):=by
 obtain ⟨a,vs,h1,h2,h3,h4,h5⟩:=f.own i ds q
 let c':Cf:=⟨c.ι,fun b=>c.O b∧b≠a⟩
 have ext:Ext c H c' H:=⟨fun _ _ e _=>e,fun b u e z=>z.elim .inl fun w=>.inr w.1,fun _ _ e=>e⟩
 have sinv:SInv K c' t.S H:=⟨f.s.len,f.s.nd,fun k b u e1 e2=>(f.s.obs k b u e1 e2).mono ext rfl,fun b z=>f.s.trk b z.1,fun b z=>f.s.dis b z.1⟩
 have nA:¬c'.A a:=fun z=>z.elim (fun w=>f.s.dis a h2 w) fun w=>w.2 rfl
 have hσ:σ.set i (some (.ref a))=σ:=by
  apply List.ext_getElem?
  intro j
  by_cases hj:j=i
  ·subst hj
   rw [List.getElem?_set_self (by have:=(List.getElem?_eq_some_iff.mp h1).1;exact this),h1]
  ·rw [List.getElem?_set_ne (Ne.symm hj)]
 have r:Rep K c' H (.ref a) (.lst ds):=.lst h4 nA (h5.mono ext)
 have f0:FInv K Oo c' { t with env:=t.env.set i (some (.val (.lst ds))) } σ H:=by
  have neq:∀{j:Nat} {x:Sl},(t.env.set i (some (.val (.lst ds))))[j]?=some (some x)→(j=i∧x = .val (.lst ds))∨(j≠i∧t.env[j]?=some (some x)):=fun {j x} q=>by
   by_cases h:j=i
   ·subst h
    rw [List.getElem?_set] at q
    split at q
    ·split at q
     ·injection q with q;injection q with q;exact .inl ⟨rfl,q.symm⟩
     ·cases q
    ·next h1=>exact absurd rfl h1
   ·rw [List.getElem?_set_ne (Ne.symm h)] at q
    exact .inr ⟨h,q⟩
  refine ⟨sinv,by simp [f.len],fun b z=>⟨f.sub b z,fun w=>h3 (w ▸ z)⟩,fun j e q'=>?_,fun j es q'=>?_,fun j k ds' es b q1 q2 q3 q4=>?_⟩
  ·rcases neq q' with ⟨rfl,z⟩ | ⟨hn,q'⟩
   ·cases z;exact ⟨_,h1,r⟩
   ·obtain ⟨u,w1,w2⟩:=f.val j e q'
    exact ⟨u,w1,w2.mono ext⟩
  ·rcases neq q' with ⟨_,z⟩ | ⟨hn,q'⟩
   ·cases z
   ·obtain ⟨b,ws,w1,w2,w3,w4,w5⟩:=f.own j es q'
    refine ⟨b,ws,w1,⟨w2,fun z=>?_⟩,w3,w4,w5.mono ext⟩
    subst z
    exact hn (f.inj j i es ds b q' q w1 h1)
  ·rcases neq q1 with ⟨_,z⟩ | ⟨_,q1⟩
   ·cases z
   rcases neq q2 with ⟨_,z⟩ | ⟨_,q2⟩
   ·cases z
   exact f.inj j k ds' es b q1 q2 q3 q4
 exact ⟨c',_,f0,⟨ext,fun _ _=>rfl⟩,h1,r⟩
theorem FInv.wrOwn (f:FInv K Oo c t σ H) {i:Nat} {ds ds':List D} {vs':List V} {a:Addr} (q:t.env[i]?=some (some (.own ds))) (h1:σ[i]?=some (some (.ref a))) (r:Reps K c H vs' ds') :
 FInv K Oo c { t with env:=t.env.set i (some (.own ds')) } σ (upd H a (.lst vs'))∧Stp Oo c H c (upd H a (.lst vs')):=by
 obtain ⟨a',vs,g1,h2,h3,h4,h5⟩:=f.own i ds q
 rw [h1] at g1;injection g1 with g1;injection g1 with g1;injection g1 with g1;subst g1
 have ext:Ext c H c (upd H a (.lst vs')):=⟨fun b u e n=>by rw [AA (fun (z:b=a)=>n (.inr (by rw [z];exact h2)))];exact e,fun _ _ _ z=>z,fun _ _ e=>e⟩
 have stp:Stp Oo c H c (upd H a (.lst vs')):=⟨ext,fun b z=>AA fun w=>h3 (w ▸ z)⟩
 have sinv:SInv K c t.S (upd H a (.lst vs')):=by
  refine ⟨f.s.len,f.s.nd,fun k b u e1 e2=>(f.s.obs k b u e1 e2).mono ext (AA fun z=>f.s.dis a h2 (z ▸ List.mem_of_getElem? e1)),fun b z=>?_,f.s.dis⟩
  by_cases hb:b=a
  ·subst hb;exact ⟨⟨.lst vs',rfl⟩,AW⟩
  ·obtain ⟨u,e⟩:=f.s.trk b z;exact ⟨u,by rw [AA hb];exact e⟩
 have neq:∀{j:Nat} {x:Sl},(t.env.set i (some (.own ds')))[j]?=some (some x)→(j=i∧x = .own ds')∨(j≠i∧t.env[j]?=some (some x)):=fun {j x} q=>by
  by_cases h:j=i
  ·subst h
   rw [List.getElem?_set] at q
   split at q
   ·split at q
    ·injection q with q;injection q with q;exact .inl ⟨rfl,q.symm⟩
    ·cases q
   ·next h1=>exact absurd rfl h1
  ·rw [List.getElem?_set_ne (Ne.symm h)] at q
   exact .inr ⟨h,q⟩
 refine ⟨⟨sinv,by simp [f.len],f.sub,fun j e q'=>?_,fun j es q'=>?_,fun j k es es' b q1 q2 q3 q4=>?_⟩,stp⟩
 ·rcases neq q' with ⟨_,z⟩ | ⟨_,q'⟩
  ·cases z
  ·obtain ⟨u,w1,w2⟩:=f.val j e q'
   exact ⟨u,w1,w2.mono ext⟩
 ·rcases neq q' with ⟨rfl,z⟩ | ⟨hn,q'⟩
  ·cases z;exact ⟨a,vs',h1,h2,h3,AW,r.mono ext⟩
  ·obtain ⟨b,ws,w1,w2,w3,w4,w5⟩:=f.own j es q'
   have hb:b≠a:=fun z=>by subst z;exact hn (f.inj j i es ds b q' q w1 h1)
   exact ⟨b,ws,w1,w2,w3,by rw [AA hb];exact w4,w5.mono ext⟩
 ·have old:∀{j:Nat} {x:List D},(t.env.set i (some (.own ds')))[j]?=some (some (.own x))→∃y,t.env[j]?=some (some (.own y)):=fun {j x} q'=>by
   rcases neq q' with ⟨rfl,_⟩ | ⟨_,q'⟩
   ·exact ⟨ds,q⟩
   ·exact ⟨x,q'⟩
  obtain ⟨y1,z1⟩:=old q1
  obtain ⟨y2,z2⟩:=old q2
  exact f.inj j k y1 y2 b z1 z2 q3 q4
theorem FInv.wrObj (f:FInv K Oo c t σ H) {k:Nat} {a:Addr} {o:Ob} {u:HO} (e:c.ι[k]?=some a) (r:∀c' H',Ext c H c' H'→H' a=some u→ObR K c' H' a o) :
 FInv K Oo c { t with S:=t.S.set k o } σ (upd H a u)∧Stp Oo c H c (upd H a u):=by
 have hA:a∈c.ι:=List.mem_of_getElem? e
 have ext:Ext c H c (upd H a u):=⟨fun b w h n=>by rw [AA (fun (z:b=a)=>n (.inl (by rw [z];exact hA)))];exact h,fun _ _ _ z=>z,fun _ _ e=>e⟩
 have neO:∀b,c.O b→b≠a:=fun b z w=>f.s.dis b z (w ▸ hA)
 have stp:Stp Oo c H c (upd H a u):=⟨ext,fun b z=>AA (neO b (f.sub b z))⟩
 have sinv:SInv K c (t.S.set k o) (upd H a u):=by
  refine ⟨by simp [f.s.len],f.s.nd,fun j b o' e1 e2=>?_,fun b z=>?_,f.s.dis⟩
  ·by_cases hj:j=k
   ·subst hj
    rw [e] at e1;cases e1
    have hl:j < t.S.length:=by rw [←f.s.len];exact (List.getElem?_eq_some_iff.mp e).1
    rw [List.getElem?_set_self hl] at e2;cases e2
    exact r c _ ext AW
   ·rw [List.getElem?_set_ne (Ne.symm hj)] at e2
    refine (f.s.obs j b o' e1 e2).mono ext (AA fun z=>?_)
    subst z
    obtain ⟨l1,g1⟩:=List.getElem?_eq_some_iff.mp e1
    obtain ⟨l2,g2⟩:=List.getElem?_eq_some_iff.mp e
    exact hj ((List.getElem_inj f.s.nd).mp (g1.trans g2.symm))
  ·obtain ⟨w,h⟩:=f.s.trk b z;exact ⟨w,by rw [AA (neO b z)];exact h⟩
 refine ⟨⟨sinv,f.len,f.sub,fun i d q=>?_,fun i ds q=>?_,f.inj⟩,stp⟩
 ·obtain ⟨v,h1,h2⟩:=f.val i d q
  exact ⟨v,h1,h2.mono ext⟩
 ·obtain ⟨b,vs,h1,h2,h3,h4,h5⟩:=f.own i ds q
  exact ⟨b,vs,h1,h2,h3,by rw [AA (neO b h2)];exact h4,h5.mono ext⟩
theorem FInv.newObj (f:FInv K Oo c t σ H) {p:Addr} {o:Ob} {u:HO} (h:H p=none) (r:∀c' H',Ext c H c' H'→H' p=some u→ObR K c' H' p o) :
 ∃c',FInv K Oo c' { t with S:=t.S++[o] } σ (upd H p u)∧Stp Oo c H c' (upd H p u)∧c'.ι[t.S.length]?=some p:=by
 let c':Cf:=⟨c.ι++[p],c.O⟩
 have nA:¬c.A p:=f.s.free h
 have ext:Ext c H c' (upd H p u):=by
  refine ⟨fun b w e _=>by rw [AA (Bk e h)];exact e,fun b w e z=>?_,fun k a e=>?_⟩
  ·rcases z with z | z
   ·rcases List.mem_append.mp z with z | z
    ·exact .inl z
    ·rw [List.mem_singleton] at z;subst z;rw [h] at e;cases e
   ·exact .inr z
  ·show (c.ι++[p])[k]?=some a
   rw [List.getElem?_append_left (List.getElem?_eq_some_iff.mp e).1];exact e
 have stp:Stp Oo c H c' (upd H p u):=⟨ext,fun b z=>by obtain ⟨w,e⟩:=f.s.trk b (f.sub b z);exact AA (Bk e h)⟩
 have at_:(c.ι++[p])[t.S.length]?=some p:=by rw [←f.s.len,List.getElem?_append_right (Nat.le_refl _)];simp
 have sinv:SInv K c' (t.S++[o]) (upd H p u):=by
  refine ⟨by simp [c',f.s.len],?_,fun j b o' e1 e2=>?_,fun b z=>?_,fun b z hb=>?_⟩
  ·show (c.ι++[p]).Nodup
   exact List.nodup_append.mpr ⟨f.s.nd,by simp,fun x hx y hy z=>by rw [List.mem_singleton] at hy;subst z;subst hy;exact nA (.inl hx)⟩
  ·have hlt:j < (t.S++[o]).length:=(List.getElem?_eq_some_iff.mp e2).1
   by_cases hj:j < t.S.length
   ·have e1':c.ι[j]?=some b:=by
     have q:(c.ι++[p])[j]?=some b:=e1
     rw [List.getElem?_append_left (by rw [f.s.len];exact hj)] at q;exact q
    rw [List.getElem?_append_left hj] at e2
    have q:=f.s.obs j b o' e1' e2
    obtain ⟨w,hw⟩:=q.some
    exact q.mono ext (AA (Bk hw h))
   ·have hj':j=t.S.length:=by simp at hlt;lia
    subst hj'
    rw [at_] at e1;cases e1
    rw [List.getElem?_append_right (Nat.le_refl _)] at e2
    simp at e2;subst e2
    exact r c' _ ext AW
  ·obtain ⟨w,e⟩:=f.s.trk b z;exact ⟨w,by rw [AA (Bk e h)];exact e⟩
  ·rcases List.mem_append.mp hb with w | w
   ·exact f.s.dis b z w
   ·rw [List.mem_singleton] at w;subst w;exact nA (.inr z)
 refine ⟨c',⟨sinv,f.len,f.sub,fun i d q=>?_,fun i ds q=>?_,f.inj⟩,stp,at_⟩
 ·obtain ⟨v,h1,h2⟩:=f.val i d q
  exact ⟨v,h1,h2.mono ext⟩
 ·obtain ⟨b,vs,h1,h2,h3,h4,h5⟩:=f.own i ds q
  exact ⟨b,vs,h1,h2,h3,by rw [AA (Bk h4 h)];exact h4,h5.mono ext⟩
theorem FInv.after (f:FInv K Oo c t σ H) {c':Cf} {S':List Ob} {H':Hp} (s:SInv K c' S' H') (st:Stp c.O c H c' H') (ho:∀b,c'.O b↔c.O b):FInv K Oo c' { t with S:=S' } σ H'∧Stp Oo c H c' H':=by
 refine ⟨⟨s,f.len,fun b z=>(ho b).mpr (f.sub b z),fun i d q=>?_,fun i ds q=>?_,f.inj⟩,st.ext,fun b z=>st.oo b (f.sub b z)⟩
 ·obtain ⟨v,h1,h2⟩:=f.val i d q
  exact ⟨v,h1,h2.mono st.ext⟩
 ·obtain ⟨b,vs,h1,h2,h3,h4,h5⟩:=f.own i ds q
  exact ⟨b,vs,h1,(ho b).mpr h2,h3,(st.oo b h2).trans h4,h5.mono st.ext⟩
end
abbrev M (α:Type):=T→Option (α×T)
inductive Out where
 | next | brk | cont | ret (d:D)
def ret {α:Type} (a:α):M α:=fun t=>some (a,t)
def fail {α:Type}:M α:=fun _=>none
def bnd {α β:Type} (f:M α) (g:α→M β):M β:=fun t=>match f t with
 | some (a,t1)=>g a t1
 | none=>none
theorem Ao {α β:Type} {f:M α} {g:α→M β} {t:T} {z:β×T} (h:bnd f g t=some z):∃a t1,f t=some (a,t1)∧g a t1=some z:=by
 unfold bnd at h
 cases e:f t with
 | none=>rw [e] at h;cases h
 | some p=>obtain ⟨a,t1⟩:=p;rw [e] at h;exact ⟨a,t1,rfl,h⟩
def LIM:Nat:=100000
theorem Cr:LIM≤sizeLine:=by unfold LIM;decide
theorem Su:LIM < sizeLine:=by unfold LIM;decide
section
variable (K:PySem.W.Frag)
inductive RE (f:M D) (σ:L2.St) (H:Hp) (Q:VK):Prop where
 | mk (Oo:Addr→Prop) (c:Cf) (t:T) (fi:FInv K Oo c t σ H) (r:D) (t':T) (e:f t=some (r,t')) (k:∀v H' c',FInv K Oo c' t' σ H'→Stp Oo c H c' H'→Rep K c' H' v r→Q v H'):RE f σ H Q
inductive RT (f:M Bool) (σ:L2.St) (H:Hp) (Q:Bool→Hp→Prop):Prop where
 | mk (Oo:Addr→Prop) (c:Cf) (t:T) (fi:FInv K Oo c t σ H) (r:Bool) (t':T) (e:f t=some (r,t')) (k:∀H' c',FInv K Oo c' t' σ H'→Stp Oo c H c' H'→Q r H'):RT f σ H Q
inductive RA (f:M (List D)) (σ:L2.St) (H:Hp) (Q:List V→Hp→Prop):Prop where
 | mk (Oo:Addr→Prop) (c:Cf) (t:T) (fi:FInv K Oo c t σ H) (r:List D) (t':T) (e:f t=some (r,t')) (k:∀vs H' c',FInv K Oo c' t' σ H'→Stp Oo c H c' H'→Reps K c' H' vs r→Q vs H'):RA f σ H Q
inductive RF (f:M (List D)) (σ:L2.St) (H:Hp) (Q:VK):Prop where
 | mk (Oo:Addr→Prop) (c:Cf) (t:T) (fi:FInv K Oo c t σ H) (ds:List D) (t':T) (e:f t=some (ds,t')) (k:∀p vs H' c',FInv K Oo c' t' σ H'→Stp Oo c H c' H'→Reps K c' H' vs ds→H' p=none→Q (.ref p) (upd H' p (.lst vs))):RF f σ H Q
inductive RSg (μ:Cf→Hp→D→(V→Hp→Prop)→Prop) (f:M Out) (E:Ends) (σ:L2.St) (H:Hp):Prop where
 | mk (Oo:Addr→Prop) (c:Cf) (t:T) (fi:FInv K Oo c t σ H) (o:Out) (t':T) (e:f t=some (o,t')) (k:∀σ' H' c',FInv K Oo c' t' σ' H'→Stp Oo c H c' H'→
 match (generalizing:=false) o with
 | .next=>E.nx σ' H'
 | .brk=>E.bk σ' H'
 | .cont=>E.ct σ' H'
 | .ret r=>μ c' H' r E.rt):RSg μ f E σ H
def μR:Cf→Hp→D→(V→Hp→Prop)→Prop:=fun c H r rt=>∀v,Rep K c H v r→rt v H
abbrev RS (f:M Out):TS:=RSg K (μR K) f
inductive RG (f:D→M Unit) (v:V) (σ:L2.St) (H:Hp) (Q:L2.St→Hp→Prop):Prop where
 | mk (Oo:Addr→Prop) (c:Cf) (t:T) (d:D) (fi:FInv K Oo c t σ H) (r:Rep K c H v d) (t':T) (e:f d t=some ((),t')) (k:∀σ' H' c',FInv K Oo c' t' σ' H'→Stp Oo c H c' H'→Q σ' H'):RG f v σ H Q
structure ItOk (J:It) (c:Cf) (H:Hp) (ds:List D):Prop where
 go:∀c' H' (i:Nat),Ext c H c' H'→i < ds.length→J.go i H'
 yld:∀c' H' (i:Nat) x H'' d,Ext c H c' H'→ds[i]?=some d→J.yld i H' x H''→H''=H'∧Rep K c' H' x d
 stop:∀c' H',Ext c H c' H'→J.stop ds.length H'
inductive RI (f:M (List D)) (σ:L2.St) (H:Hp) (R:It→Hp→Prop):Prop where
 | mk (Oo:Addr→Prop) (c:Cf) (t:T) (fi:FInv K Oo c t σ H) (ds:List D) (t':T) (e:f t=some (ds,t')) (k:∀J H' c',FInv K Oo c' t' σ H'→Stp Oo c H c' H'→ItOk K J c' H' ds→R J H'):RI f σ H R
def Sy (R:V→Hp→VK→Prop) (h:D→M D):Prop:=∀{Oo:Addr→Prop} {c:Cf} {t:T} {σ:L2.St} {H:Hp} {x:V} {dx r:D} {t':T} {Q:VK},FInv K Oo c t σ H→Rep K c H x dx→h dx t=some (r,t')→
 (∀v H' c',FInv K Oo c' t' σ H'→Stp Oo c H c' H'→Rep K c' H' v r→Q v H')→R x H Q
def BJ (R:R2) (h:D→D→M D):Prop:=∀{Oo:Addr→Prop} {c:Cf} {t:T} {σ:L2.St} {H:Hp} {x y:V} {dx dy r:D} {t':T} {Q:VK},FInv K Oo c t σ H→Rep K c H x dx→Rep K c H y dy→h dx dy t=some (r,t')→
 (∀v H' c',FInv K Oo c' t' σ H'→Stp Oo c H c' H'→Rep K c' H' v r→Q v H')→R x y H Q
def DF (R:List V→Hp→VK→Prop) (h:List D→M D):Prop:=∀{Oo:Addr→Prop} {c:Cf} {t:T} {σ:L2.St} {H:Hp} {xs:List V} {ds:List D} {r:D} {t':T} {Q:VK},FInv K Oo c t σ H→Reps K c H xs ds→h ds t=some (r,t')→
 (∀v H' c',FInv K Oo c' t' σ H'→Stp Oo c H c' H'→Rep K c' H' v r→Q v H')→R xs H Q
def MB (R:R2) (h:D→D→M (List D)):Prop:=∀{Oo:Addr→Prop} {c:Cf} {t:T} {σ:L2.St} {H:Hp} {x y:V} {dx dy:D} {r:List D} {t':T} {Q:VK},FInv K Oo c t σ H→Rep K c H x dx→Rep K c H y dy→h dx dy t=some (r,t')→
 (∀p vs H' c',FInv K Oo c' t' σ H'→Stp Oo c H c' H'→Reps K c' H' vs r→H' p=none→Q (.ref p) (upd H' p (.lst vs)))→R x y H Q
def J1 (R:List V→Hp→VK→Prop) (h:List D→M (List D)):Prop:=∀{Oo:Addr→Prop} {c:Cf} {t:T} {σ:L2.St} {H:Hp} {xs:List V} {ds r:List D} {t':T} {Q:VK},FInv K Oo c t σ H→Reps K c H xs ds→h ds t=some (r,t')→
 (∀p vs H' c',FInv K Oo c' t' σ H'→Stp Oo c H c' H'→Reps K c' H' vs r→H' p=none→Q (.ref p) (upd H' p (.lst vs)))→R xs H Q
end
section
variable {X:Cx} {e a b:Expr} {pos:Pos}
theorem Bv {t t':TE} (h:PE X e t) (i:∀σ H Q,t' σ H Q→t σ H Q):PE X e t':=fun pins s σ H Q I q=>h pins s σ H Q I (i σ H Q q)
theorem Ht {t t':TT} (h:PT X e t) (i:∀σ H Q,t' σ H Q→t σ H Q):PT X e t':=fun pins s σ H Q I q=>h pins s σ H Q I (i σ H Q q)
theorem Nn {t t':TT} (h:PW X e t) (i:∀σ H Q,t' σ H Q→t σ H Q):PW X e t':=fun w pins s σ H Q I q=>h w pins s σ H Q I (i σ H Q q)
theorem Nk {es:List Expr} {t t':TA} (h:PA X es t) (i:∀σ H Q,t' σ H Q→t σ H Q):PA X es t':=fun pos pins s σ H Q I q=>h pos pins s σ H Q I (i σ H Q q)
theorem C4 {st:Stmt} {t t':TS} (h:PS X st t) (i:∀E σ H,t' E σ H→t E σ H):PS X st t':=fun pins s σ H E I q=>h pins s σ H E I (i E σ H q)
theorem LZ {st:List Stmt} {t t':TS} (h:PSs X st t) (i:∀E σ H,t' E σ H→t E σ H):PSs X st t':=fun pins s σ H E I q=>h pins s σ H E I (i E σ H q)
theorem Ki {t t':TG} (h:PG X e t) (i:∀v σ H Q,t' v σ H Q→t v σ H Q):PG X e t':=fun pins s σ H v u Q I r q=>h pins s σ H v u Q I r (i v σ H Q q)
theorem Kj {tg:Expr} {t t':TI} (h:PI X tg e t) (i:∀σ H R,t' σ H R→t σ H R):PI X tg e t':=fun pins s σ H R I q=>h pins s σ H R I (i σ H R q)
def fC (d:D):M D:=ret d
theorem G6 {v:V} {d:D} (h:PE X e (tC v)) (r:∀c H,Rep X.K c H v d):PE X e (RE X.K (fC d)):=
 Bv h fun σ H Q ⟨Oo,c,t,f,r',t',eq,k⟩=>by
  cases eq
  exact k v H c f .refl (r c H)
theorem Ag {i:Int} {j:Nat}:PE X (.Constant (.int i) j pos) (RE X.K (fC (.int i))):=G6 Tm fun _ _=>.int i
theorem B6 {i:Bool} {j:Nat}:PE X (.Constant (.bool i) j pos) (RE X.K (fC (.bl i))):=G6 Uz fun _ _=>.bl i
theorem Ar {i:Str} {j:Nat}:PE X (.Constant (.str i) j pos) (RE X.K (fC (.str i))):=G6 N6 fun _ _=>.str i
theorem Fq {j:Nat}:PE X (.Constant .none j pos) (RE X.K (fC .non)):=G6 Tp fun _ _=>.non
theorem GN {x:Str} {i:Int} {tk:Tok} (hg:Gl X x) (hm:X.mg x=some (.int i tk)) (hd:(x == ("__debug__" : Str))=false:=by decide):PE X (.Name x pos) (RE X.K (fC (.int i))):=
 G6 (Mi hg hm (v:=.int i) ⟨tk,rfl⟩ hd) fun _ _=>.int i
theorem C9 {x:Str} {y:Str} {tk:Tok} (hg:Gl X x) (hm:X.mg x=some (.str y tk)) (hd:(x == ("__debug__" : Str))=false:=by decide):PE X (.Name x pos) (RE X.K (fC (.str y))):=
 G6 (Mi hg hm (v:=.str y) ⟨tk,rfl⟩ hd) fun _ _=>.str y
theorem BF {x:Str} {n:String} (hg:Gl X x) (hm:X.mg x=none) (hv:bootBuiltins x=some (.type n)) (hn:x≠"__name__":=by decide) (hd:(x == ("__debug__" : Str))=false:=by decide):PE X (.Name x pos) (RE X.K (fC (.ty n))):=
 G6 (Rp hg hm hv (v:=.ty n) rfl hn hd) fun _ _=>.ty n
def Ad (i:Nat):M D:=fun t=>match t.env[i]? with
 | some (some (.val d))=>some (d,t)
 | some (some (.own ds))=>some (.lst ds,{ t with env:=t.env.set i (some (.val (.lst ds))) })
 | _=>none
theorem MP {i:Nat} {t t':T} {r:D} (h:Ad i t=some (r,t')):(t.env[i]?=some (some (.val r))∧t'=t)∨∃ds,t.env[i]?=some (some (.own ds))∧r = .lst ds∧t' = { t with env:=t.env.set i (some (.val (.lst ds))) }:=by
 unfold Ad at h
 cases e:t.env[i]? with
 | none=>rw [e] at h;cases h
 | some o=>
   cases o with
   | none=>rw [e] at h;cases h
   | some sl=>
     cases sl with
     | val d=>rw [e] at h;cases h;exact .inl ⟨rfl,rfl⟩
     | own ds=>rw [e] at h;cases h;exact .inr ⟨ds,rfl,rfl,rfl⟩
theorem Ac (i:Nat) {x:Str} (hN:X.N[i]?=some x:=by rfl) (hv:Vis X.env.scope x:=by first | exact Or.inl rfl | exact Or.inr (Or.inl rfl) | exact Or.inr (Or.inr rfl)) (hd:(x == ("__debug__" : Str))=false:=by decide)
 (hcd:(x == ("__classdict__" : Str))=false:=by decide):PE X (.Name x pos) (RE X.K (Ad i)):=
 Bv (N7 hN hv hd hcd) fun σ H Q ⟨Oo,c,t,f,r,t',eq,k⟩=>by
  rcases MP eq with ⟨q,rfl⟩ | ⟨ds,q,rfl,rfl⟩
  ·obtain ⟨v,h1,h2⟩:=f.val i r q
   exact ⟨v,h1,k v H c f .refl h2⟩
  ·obtain ⟨c',v,f',st,h1,h2⟩:=f.frz q
   exact ⟨v,h1,k v H c' f' st h2⟩
def Ai (f g:M D) (h:D→D→M D):M D:=bnd f fun x=>bnd g fun y=>h x y
theorem RE.two {K:PySem.W.Frag} {f g:M D} {h:D→D→M D} {R:R2} (s:BJ K R h) {σ:L2.St} {H:Hp} {Q:VK} (q:RE K (Ai f g h) σ H Q):tOp R (RE K f) (RE K g) σ H Q:=by
 obtain ⟨Oo,c,t,fi,r,t',eq,k⟩:=q
 obtain ⟨dx,t1,e1,eq⟩:=Ao eq
 obtain ⟨dy,t2,e2,eq⟩:=Ao eq
 exact ⟨Oo,c,t,fi,dx,t1,e1,fun x H1 c1 f1 s1 rx=>⟨Oo,c1,t1,f1,dy,t2,e2,fun y H2 c2 f2 s2 ry=>s f2 (rx.mono s2.ext) ry eq fun v H' c' f' s' rv=>k v H' c' f' ((s1.trans s2).trans s') rv⟩⟩
theorem Az {op:Operator} {R:R2} {f g:M D} {h:D→D→M D} (ho:OpR X (binaryOp op) R) (s:BJ X.K R h) (ha:PE X a (RE X.K f)) (hb:PE X b (RE X.K g)):PE X (.BinOp a op b pos) (RE X.K (Ai f g h)):=
 Bv (Qh ho ha hb) fun _ _ _ q=>RE.two s q
theorem Dt {op:CmpOp} {R:R2} {f g:M D} {h:D→D→M D} (ho:OpR X (compareOp op) R) (s:BJ X.K R h) (ha:PE X a (RE X.K f)) (hb:PE X b (RE X.K g)) (hm:behindInMarks op b=false):PE X (.Compare a [op] [b] pos) (RE X.K (Ai f g h)):=
 Bv (Rr ho ha hb hm) fun _ _ _ q=>RE.two s q
theorem AB {R:R2} {f g:M D} {h:D→D→M D} (hr:IxR X R) (s:BJ X.K R h) (ha:PE X a (RE X.K f)) (hb:PE X b (RE X.K g)) (hs:L1 b):PE X (.Subscript a b pos) (RE X.K (Ai f g h)):=
 Bv (UA hr ha hb hs) fun _ _ _ q=>RE.two s q
def fUn (f:M D) (h:D→M D):M D:=bnd f h
theorem Us {op:UnaryOp} {R:V→Hp→VK→Prop} {f:M D} {h:D→M D} (ho:UnR X (unaryOp op) R) (s:Sy X.K R h) (ha:PE X a (RE X.K f)):PE X (.UnaryOp op a pos) (RE X.K (fUn f h)):=
 Bv (UB ho ha) fun σ H Q ⟨Oo,c,t,fi,r,t',eq,k⟩=>by
  obtain ⟨dx,t1,e1,eq⟩:=Ao eq
  exact ⟨Oo,c,t,fi,dx,t1,e1,fun x H1 c1 f1 s1 rx=>s f1 rx eq fun v H' c' f' s' rv=>k v H' c' f' (s1.trans s') rv⟩
def toB:D→M Bool
 | .bl b=>ret b
 | _=>fail
def AI (f:M D):M Bool:=bnd f toB
theorem Hq {d:D} {t:T} {z:Bool×T} (h:toB d t=some z):∃b,d = .bl b∧z=(b,t):=by
 cases d with
 | bl b=>cases h;exact ⟨b,rfl,rfl⟩
 | _=>cases h
theorem RT.val {K:PySem.W.Frag} {f:M D} {σ:L2.St} {H:Hp} {Q:Bool→Hp→Prop} (q:RT K (AI f) σ H Q):RE K f σ H fun x H1=>∃k,x = .bl k∧Q k H1:=by
 obtain ⟨Oo,c,t,fi,r,t',eq,k⟩:=q
 obtain ⟨d,t1,e1,eq⟩:=Ao eq
 obtain ⟨b,rfl,z⟩:=Hq eq
 cases z
 refine ⟨Oo,c,t,fi,_,t',e1,fun v H1 c1 f1 s1 rv=>?_⟩
 cases rv
 exact ⟨r,rfl,k H1 c1 f1 s1⟩
theorem Bl {f:M D} (h:PE X e (RE X.K f)) (he:∀whole,isTrue e X.env whole=(do let v ←whole;standAt e.pos;holding [v] (truthy v)):=by intro _;rfl):PT X e (RT X.K (AI f)):=
 Ht (Tx h he) fun _ _ _ q=>RT.val q
theorem A4 {op:CmpOp} {R:R2} {f g:M D} {h:D→D→M D} (ho:OpR X (compareOp op) R) (s:BJ X.K R h) (ha:PE X a (RE X.K f)) (hb:PE X b (RE X.K g)) (hm:behindInMarks op b=false):PT X (.Compare a [op] [b] pos) (RT X.K (AI (Ai f g h))):=
 Ht (RU ho ha hb hm) fun σ H Q q=>RE.two s (RT.val q)
def Dr (f g w:M D) (h h':D→D→M D):M D:=bnd f fun x=>bnd g fun y=>bnd (AI (h x y)) fun k=>if k=true then bnd w fun z=>h' y z else ret (.bl false)
theorem RE.chain {K:PySem.W.Frag} {f g w:M D} {h h':D→D→M D} {R R':R2} (s:BJ K R h) (s':BJ K R' h') {σ:L2.St} {H:Hp} {Q:VK} (q:RE K (Dr f g w h h') σ H Q):Lo R R' (RE K f) (RE K g) (RE K w) σ H Q:=by
 obtain ⟨Oo,c,t,fi,r,t',eq,k⟩:=q
 obtain ⟨dx,t1,e1,eq⟩:=Ao eq
 obtain ⟨dy,t2,e2,eq⟩:=Ao eq
 obtain ⟨kb,t3,e3,eq⟩:=Ao eq
 obtain ⟨d3,t3',e3',e3⟩:=Ao e3
 obtain ⟨b3,rfl,z⟩:=Hq e3
 cases z
 refine ⟨Oo,c,t,fi,dx,t1,e1,fun x H1 c1 f1 s1 rx=>⟨Oo,c1,t1,f1,dy,t2,e2,fun y H2 c2 f2 s2 ry=>s f2 (rx.mono s2.ext) ry e3' fun v H3 c3 f3 s3 rv=>?_⟩⟩
 cases rv
 refine ⟨kb,rfl,?_⟩
 cases kb with
 | false=>
   rw [if_neg Bool.false_ne_true] at eq ⊢
   cases eq
   exact k _ H3 c3 f3 ((s1.trans s2).trans s3) (.bl false)
 | true=>
   rw [if_pos rfl] at eq ⊢
   obtain ⟨dz,t4,e4,eq⟩:=Ao eq
   exact ⟨Oo,c3,t3,f3,dz,t4,e4,fun w' H4 c4 f4 s4 rw'=>s' f4 (ry.mono (s3.trans s4).ext) rw' eq fun v H' c' f' s' rv=>k v H' c' f' ((((s1.trans s2).trans s3).trans s4).trans s') rv⟩
theorem KI {d:Expr} {op op':CmpOp} {R R':R2} {f g w:M D} {h h':D→D→M D} (ho:OpR X (compareOp op) R) (ho':OpR X (compareOp op') R') (s:BJ X.K R h) (s':BJ X.K R' h') (ha:PE X a (RE X.K f)) (hb:PE X b (RE X.K g)) (hd:PE X d (RE X.K w))
 (hm:lastMarks [op,op'] [b,d]=false:=by with_unfolding_all rfl):PE X (.Compare a [op,op'] [b,d] pos) (RE X.K (Dr f g w h h')):=
 Bv (Pi ho ho' ha hb hd hm) fun _ _ _ q=>RE.chain s s' q
theorem OZ {d:Expr} {op op':CmpOp} {R R':R2} {f g w:M D} {h h':D→D→M D} (ho:OpR X (compareOp op) R) (ho':OpR X (compareOp op') R') (s:BJ X.K R h) (s':BJ X.K R' h') (ha:PE X a (RE X.K f)) (hb:PE X b (RE X.K g)) (hd:PE X d (RE X.K w))
 (hm:lastMarks [op,op'] [b,d]=false:=by with_unfolding_all rfl):PT X (.Compare a [op,op'] [b,d] pos) (RT X.K (AI (Dr f g w h h'))):=
 Ht (Px ho ho' ha hb hd hm) fun σ H Q q=>RE.chain s s' (RT.val q)
def KG (f g:M Bool):M Bool:=bnd f fun k=>if k=true then g else ret false
def fOr (f g:M Bool):M Bool:=bnd f fun k=>if k=true then ret true else g
def BO (f:M Bool):M Bool:=bnd f fun k=>ret (!k)
def Dz (f g:M D):M D:=bnd (AI f) fun k=>if k=true then g else ret (.bl false)
def SL (f g:M D):M D:=bnd (AI f) fun k=>if k=true then ret (.bl true) else g
def GM (f:M D):M D:=bnd (AI f) fun k=>ret (.bl (!k))
def fIf (f:M Bool) (g h:M D):M D:=bnd f fun k=>if k=true then g else h
variable {f g:M Bool} {u v w:M D} {rest:List Expr}
theorem DW (h:PW X e (RT X.K f)):PT X e (RT X.K f):=h.pt
theorem Q1 (ha:PT X a (RT X.K f)):PW X (.BoolOp .And [a] pos) (RT X.K f):=RV ha
theorem Du (ha:PT X a (RT X.K f)):PW X (.BoolOp .Or [a] pos) (RT X.K f):=Tz ha
theorem ST (ha:PT X a (RT X.K f)) (hb:PW X (.BoolOp .And (b :: rest) pos) (RT X.K g)):PW X (.BoolOp .And (a :: b :: rest) pos) (RT X.K (KG f g)):=
 Nn (Ty ha hb) fun σ H Q ⟨Oo,c,t,fi,r,t',eq,k⟩=>by
  obtain ⟨kb,t1,e1,eq⟩:=Ao eq
  refine ⟨Oo,c,t,fi,kb,t1,e1,fun H1 c1 f1 s1=>?_⟩
  cases kb with
  | false=>rw [if_neg Bool.false_ne_true] at eq ⊢;cases eq;exact k H1 c1 f1 s1
  | true=>rw [if_pos rfl] at eq ⊢;exact ⟨Oo,c1,t1,f1,r,t',eq,fun H2 c2 f2 s2=>k H2 c2 f2 (s1.trans s2)⟩
theorem DX (ha:PT X a (RT X.K f)) (hb:PW X (.BoolOp .Or (b :: rest) pos) (RT X.K g)):PW X (.BoolOp .Or (a :: b :: rest) pos) (RT X.K (fOr f g)):=
 Nn (UE ha hb) fun σ H Q ⟨Oo,c,t,fi,r,t',eq,k⟩=>by
  obtain ⟨kb,t1,e1,eq⟩:=Ao eq
  refine ⟨Oo,c,t,fi,kb,t1,e1,fun H1 c1 f1 s1=>?_⟩
  cases kb with
  | true=>rw [if_pos rfl] at eq ⊢;cases eq;exact k H1 c1 f1 s1
  | false=>rw [if_neg Bool.false_ne_true] at eq ⊢;exact ⟨Oo,c1,t1,f1,r,t',eq,fun H2 c2 f2 s2=>k H2 c2 f2 (s1.trans s2)⟩
theorem BE (ha:PT X a (RT X.K f)):PT X (.UnaryOp .Not a pos) (RT X.K (BO f)):=
 Ht (Tw ha) fun σ H Q ⟨Oo,c,t,fi,r,t',eq,k⟩=>by
  obtain ⟨kb,t1,e1,eq⟩:=Ao eq
  cases eq
  exact ⟨Oo,c,t,fi,kb,_,e1,fun H1 c1 f1 s1=>k H1 c1 f1 s1⟩
theorem Lp {f:M D} {t:T} {kb:Bool} {t1:T} (h:AI f t=some (kb,t1)):f t=some (.bl kb,t1):=by
 obtain ⟨d,t2,e1,e2⟩:=Ao h
 obtain ⟨b,rfl,z⟩:=Hq e2
 cases z
 exact e1
theorem Fr {op:PySem.BoolOp} (h:PE X a (RE X.K u)):PE X (.BoolOp op [a] pos) (RE X.K u):=Tr h
theorem El (ha:PE X a (RE X.K u)) (hb:PE X (.BoolOp .And (b :: rest) pos) (RE X.K v)):PE X (.BoolOp .And (a :: b :: rest) pos) (RE X.K (Dz u v)):=
 Bv (Tl ha hb) fun σ H Q ⟨Oo,c,t,fi,r,t',eq,k⟩=>by
  obtain ⟨kb,t1,e1,eq⟩:=Ao eq
  refine ⟨Oo,c,t,fi,_,t1,Lp e1,fun x H1 c1 f1 s1 rx=>?_⟩
  cases rx
  refine ⟨kb,rfl,?_⟩
  cases kb with
  | false=>rw [if_neg Bool.false_ne_true] at eq ⊢;cases eq;exact k _ H1 c1 f1 s1 (.bl false)
  | true=>rw [if_pos rfl] at eq ⊢;exact ⟨Oo,c1,t1,f1,r,t',eq,fun y H2 c2 f2 s2 ry=>k y H2 c2 f2 (s1.trans s2) ry⟩
theorem NG (ha:PE X a (RE X.K u)):PE X (.UnaryOp .Not a pos) (RE X.K (GM u)):=
 Bv (Tq ha) fun σ H Q ⟨Oo,c,t,fi,r,t',eq,k⟩=>by
  obtain ⟨kb,t1,e1,eq⟩:=Ao eq
  cases eq
  refine ⟨Oo,c,t,fi,_,_,Lp e1,fun x H1 c1 f1 s1 rx=>?_⟩
  cases rx
  exact ⟨kb,rfl,k _ H1 c1 f1 s1 (.bl (!kb))⟩
theorem OX {d:Expr} (hc:PT X d (RT X.K f)) (ha:PE X a (RE X.K u)) (hb:PE X b (RE X.K v)):PE X (.IfExp d a b pos) (RE X.K (fIf f u v)):=
 Bv (Pj hc ha hb) fun σ H Q ⟨Oo,c,t,fi,r,t',eq,k⟩=>by
  obtain ⟨kb,t1,e1,eq⟩:=Ao eq
  refine ⟨Oo,c,t,fi,kb,t1,e1,fun H1 c1 f1 s1=>?_⟩
  cases kb with
  | false=>rw [if_neg Bool.false_ne_true] at eq ⊢;exact ⟨Oo,c1,t1,f1,r,t',eq,fun y H2 c2 f2 s2 ry=>k y H2 c2 f2 (s1.trans s2) ry⟩
  | true=>rw [if_pos rfl] at eq ⊢;exact ⟨Oo,c1,t1,f1,r,t',eq,fun y H2 c2 f2 s2 ry=>k y H2 c2 f2 (s1.trans s2) ry⟩
end
section
variable {X:Cx} {e a b:Expr} {es:List Expr} {pos:Pos}
def Ah:M (List D):=ret []
def Ab (f:M D) (g:M (List D)):M (List D):=bnd f fun d=>bnd g fun ds=>ret (d :: ds)
theorem Ae:PA X [] (RA X.K Ah):=Nk Tk fun σ H Q ⟨Oo,c,t,fi,r,t',eq,k⟩=>by
 cases eq
 exact k [] H c fi .refl .nil
theorem QO {f:M D} {g:M (List D)} (ha:PE X e (RE X.K f)) (hr:PA X es (RA X.K g)) (hs:starEach (e :: es) X.env=(false,eval e X.env) :: starEach es X.env:=by rfl):PA X (e :: es) (RA X.K (Ab f g)):=
 Nk (Ro ha hr hs) fun σ H Q ⟨Oo,c,t,fi,r,t',eq,k⟩=>by
  obtain ⟨d,t1,e1,eq⟩:=Ao eq
  obtain ⟨ds,t2,e2,eq⟩:=Ao eq
  cases eq
  exact ⟨Oo,c,t,fi,d,t1,e1,fun x H1 c1 f1 s1 rx=>⟨Oo,c1,t1,f1,ds,_,e2,fun xs H2 c2 f2 s2 rxs=>k _ H2 c2 f2 (s1.trans s2) (.cons (rx.mono s2.ext) rxs)⟩⟩
def lim {α:Type} (n:Nat) (a:α):M α:=fun t=>if n≤LIM then some (a,t) else none
theorem DG {α:Type} {n:Nat} {a:α} {t:T} {z:α×T} (h:lim n a t=some z):n≤LIM∧z=(a,t):=by
 unfold lim at h
 split at h
 ·next h1=>cases h;exact ⟨h1,rfl⟩
 ·cases h
def Bz (f:M (List D)):M D:=bnd f fun ds=>lim ds.length (.tup ds)
theorem Bg {x1:Nat} {f:M (List D)} (h:PA X es (RA X.K f)):PE X (.Tuple es x1 pos) (RE X.K (Bz f)):=
 Bv (Ts h) fun σ H Q ⟨Oo,c,t,fi,r,t',eq,k⟩=>by
  obtain ⟨ds,t1,e1,eq⟩:=Ao eq
  obtain ⟨hl,z⟩:=DG eq
  cases z
  refine ⟨Oo,c,t,fi,ds,_,e1,fun xs H1 c1 f1 s1 rxs=>⟨by rw [rxs.length];exact Nat.le_trans hl Cr,fun p hp=>?_⟩⟩
  exact k _ _ c1 (f1.laid hp) (s1.trans (f1.stp_laid hp)) (.tup AW (f1.s.free hp) (rxs.mono (Ext.laid f1.s hp)))
def BN (f:M (List D)):M (List D):=bnd f fun ds=>lim ds.length ds
theorem BB {f:M (List D)} (h:PA X es (RA X.K f)):PE X (.List es pos) (RF X.K (BN f)):=
 Bv (To h) fun σ H Q ⟨Oo,c,t,fi,r,t',eq,k⟩=>by
  obtain ⟨ds,t1,e1,eq⟩:=Ao eq
  obtain ⟨hl,z⟩:=DG eq
  cases z
  exact ⟨Oo,c,t,fi,_,_,e1,fun xs H1 c1 f1 s1 rxs=>⟨by rw [rxs.length];exact Nat.le_trans hl Cr,fun p hp=>k p xs H1 c1 f1 s1 rxs hp⟩⟩
def Bf (f:M (List D)):M D:=bnd f fun ds=>ret (.lst ds)
theorem A1 {f:M (List D)} (h:PE X e (RF X.K f)):PE X e (RE X.K (Bf f)):=
 Bv h fun σ H Q ⟨Oo,c,t,fi,r,t',eq,k⟩=>by
  obtain ⟨ds,t1,e1,eq⟩:=Ao eq
  cases eq
  exact ⟨Oo,c,t,fi,ds,_,e1,fun p xs H1 c1 f1 s1 rxs hp=>k _ _ c1 (f1.laid hp) (s1.trans (f1.stp_laid hp)) (.lst AW (f1.s.free hp) (rxs.mono (Ext.laid f1.s hp)))⟩
def M0 (o:Ob):M D:=fun t=>some (.obj t.S.length,{ t with S:=t.S++[o] })
def Ix (f:M (List D)):M D:=bnd f fun ds=>M0 (.lst ds)
theorem NH {f:M (List D)} (h:PE X e (RF X.K f)):PE X e (RE X.K (Ix f)):=
 Bv h fun σ H Q ⟨Oo,c,t,fi,r,t',eq,k⟩=>by
  obtain ⟨ds,t1,e1,eq⟩:=Ao eq
  cases eq
  refine ⟨Oo,c,t,fi,ds,_,e1,fun p xs H1 c1 f1 s1 rxs hp=>?_⟩
  obtain ⟨c2,f2,s2,e2⟩:=f1.newObj (o:=.lst ds) (u:=.lst xs) hp fun c' H' ex hu=>⟨xs,hu,rxs.mono ex⟩
  exact k _ _ c2 f2 (s1.trans s2) (.obj e2)
abbrev Fn:=List D→List Ob→Option (D×List Ob)
inductive spF (K:PySem.W.Frag) (f:Fn) (vs:List V) (H:Hp) (Q:VK) (E:XK):Prop where
 | mk (c:Cf) (ds:List D) (S:List Ob) (si:SInv K c S H) (rs:Reps K c H vs ds) (r:D) (S':List Ob) (e:f ds S=some (r,S')) (k:∀v H' c',SInv K c' S' H'→Stp c.O c H c' H'→(∀b,c'.O b↔c.O b)→Rep K c' H' v r→Q v H'):spF K f vs H Q E
def An (g:Fn) (f:M (List D)):M D:=bnd f fun ds t=>match g ds t.S with
 | some (r,S')=>some (r,{ t with S:=S' })
 | none=>none
theorem Go {g:Fn} {ds:List D} {t:T} {r:D} {t':T} (h:(match g ds t.S with | some (r,S')=>some (r,{ t with S:=S' }) | none=>none:Option (D×T))=some (r,t')):∃S',g ds t.S=some (r,S')∧t' = { t with S:=S' }:=by
 cases e:g ds t.S with
 | none=>rw [e] at h;cases h
 | some p=>obtain ⟨r',S'⟩:=p;rw [e] at h;cases h;exact ⟨S',rfl,rfl⟩
theorem QP {k:Nat} {fa:Addr} {fd:FuncData} {ps:List Str} {g:Fn} {f:M (List D)} {x:Str} {p:Pos} (F:FnOk X.prog X.w X.K X.mg X.base CX0 k fa fd ps (spF X.K g)) (hr:Room k X.A) (hg:Gl X x) (hm:X.mg x=some (.ref fa)) (hk:PySem.W.keepIn X.K (.ref fa)=true) (hb:Binds X.K fd ps [])
 (ha:PA X (e :: es) (RA X.K f)) (hdb:(x == ("__debug__" : Str))=false:=by decide) (he:starEach (e :: es) X.env=(false,eval e X.env) :: starEach es X.env:=by rfl) (hpl:(backTo pos (starEach es X.env)).any (·.1)=false:=by rfl) :
 PE X (.Call (.Name x p) (e :: es) [] pos) (RE X.K (An g f)):=
 Bv (Rq F hr hg hm hk hb .nil M3 ha hdb he hpl) fun σ H Q ⟨Oo,c,t,fi,r,t',eq,kk⟩=>by
  obtain ⟨ds,t1,e1,eq⟩:=Ao eq
  obtain ⟨S',e2,rfl⟩:=Go eq
  refine ⟨Oo,c,t,fi,ds,t1,e1,fun vs H1 c1 f1 s1 rvs=>?_⟩
  show spF X.K g (vs++[]) H1 Q E0
  rw [List.append_nil]
  refine ⟨c1,ds,t1.S,f1.s,rvs,r,S',e2,fun v H' c' si st ho rv=>?_⟩
  obtain ⟨f2,s2⟩:=f1.after si st ho
  exact kk v H' c' f2 (s1.trans s2) rv
def fB (f:M (List D)) (h:List D→M D):M D:=bnd f h
theorem RE.callB {K:PySem.W.Frag} {f:M (List D)} {h:List D→M D} {R:List V→Hp→VK→Prop} (s:DF K R h) {σ:L2.St} {H:Hp} {Q:VK} (q:RE K (fB f h) σ H Q):tCB R (RA K f) σ H Q:=by
 obtain ⟨Oo,c,t,fi,r,t',eq,k⟩:=q
 obtain ⟨ds,t1,e1,eq⟩:=Ao eq
 exact ⟨Oo,c,t,fi,ds,t1,e1,fun xs H1 c1 f1 s1 rxs=>s f1 rxs eq fun v H' c' f' s' rv=>k v H' c' f' (s1.trans s') rv⟩
def fBF (f:M (List D)) (h:List D→M (List D)):M (List D):=bnd f h
theorem RF.callB {K:PySem.W.Frag} {f:M (List D)} {h:List D→M (List D)} {R:List V→Hp→VK→Prop} (s:J1 K R h) {σ:L2.St} {H:Hp} {Q:VK} (q:RF K (fBF f h) σ H Q):tCB R (RA K f) σ H Q:=by
 obtain ⟨Oo,c,t,fi,r,t',eq,k⟩:=q
 obtain ⟨ds,t1,e1,eq⟩:=Ao eq
 exact ⟨Oo,c,t,fi,ds,t1,e1,fun xs H1 c1 f1 s1 rxs=>s f1 rxs eq fun p vs H' c' f' s' rv hp=>k p vs H' c' f' (s1.trans s') rv hp⟩
theorem RF.two {K:PySem.W.Frag} {f g:M D} {h:D→D→M (List D)} {R:R2} (s:MB K R h) {σ:L2.St} {H:Hp} {Q:VK} (q:RF K (bnd f fun x=>bnd g fun y=>h x y) σ H Q):tOp R (RE K f) (RE K g) σ H Q:=by
 obtain ⟨Oo,c,t,fi,r,t',eq,k⟩:=q
 obtain ⟨dx,t1,e1,eq⟩:=Ao eq
 obtain ⟨dy,t2,e2,eq⟩:=Ao eq
 exact ⟨Oo,c,t,fi,dx,t1,e1,fun x H1 c1 f1 s1 rx=>⟨Oo,c1,t1,f1,dy,t2,e2,fun y H2 c2 f2 s2 ry=>s f2 (rx.mono s2.ext) ry eq fun p vs H' c' f' s' rv hp=>k p vs H' c' f' ((s1.trans s2).trans s') rv hp⟩⟩
end
section
variable {X:Cx} {e a b:Expr} {pos:Pos} {st:Stmt} {sts:List Stmt}
def Aw (f g:M Out):M Out:=fun t=>match f t with
 | some (.next,t1)=>g t1
 | z=>z
def AN:M Out:=ret .next
theorem AC {μ:Cf→Hp→D→(V→Hp→Prop)→Prop}:PSs X [] (RSg X.K μ AN):=LZ RN fun E σ H ⟨Oo,c,t,fi,o,t',eq,k⟩=>by
 cases eq
 exact k σ H c fi .refl
theorem Aj {μ:Cf→Hp→D→(V→Hp→Prop)→Prop} {f g:M Out} (h1:PS X st (RSg X.K μ f)) (h2:PSs X sts (RSg X.K μ g)):PSs X (st :: sts) (RSg X.K μ (Aw f g)):=
 LZ (Pw h1 h2) fun E σ H ⟨Oo,c,t,fi,o,t',eq,k⟩=>by
  unfold Aw at eq
  cases e1:f t with
  | none=>rw [e1] at eq;cases eq
  | some p=>
    obtain ⟨o1,t1⟩:=p
    rw [e1] at eq
    refine ⟨Oo,c,t,fi,o1,t1,e1,fun σ1 H1 c1 f1 s1=>?_⟩
    cases o1 with
    | next=>exact ⟨Oo,c1,t1,f1,o,t',eq,fun σ2 H2 c2 f2 s2=>k σ2 H2 c2 f2 (s1.trans s2)⟩
    | brk=>cases eq;exact k σ1 H1 c1 f1 s1
    | cont=>cases eq;exact k σ1 H1 c1 f1 s1
    | ret d=>cases eq;exact k σ1 H1 c1 f1 s1
theorem Al {μ:Cf→Hp→D→(V→Hp→Prop)→Prop} {f:M Out} (h1:PS X st (RSg X.K μ f)):PSs X [st] (RSg X.K μ f):=RQ h1
def AM (f:M D):M Out:=bnd f fun d=>ret (.ret d)
theorem Ay {f:M D} (h:PE X e (RE X.K f)):PS X (.Return (some e) pos) (RS X.K (AM f)):=
 C4 (Tv h) fun E σ H ⟨Oo,c,t,fi,o,t',eq,k⟩=>by
  obtain ⟨d,t1,e1,eq⟩:=Ao eq
  cases eq
  exact ⟨Oo,c,t,fi,d,_,e1,fun v H1 c1 f1 s1 rv=>k σ H1 c1 f1 s1 v rv⟩
def Ec (f:M D):M Out:=bnd f fun _=>ret .next
theorem Ft {μ:Cf→Hp→D→(V→Hp→Prop)→Prop} {f:M D} (h:PE X e (RE X.K f)) (hs:swapsWith e none pos.line X.env=pure false:=by rfl):PS X (.Expr e pos) (RSg X.K μ (Ec f)):=
 C4 (Mj h hs) fun E σ H ⟨Oo,c,t,fi,o,t',eq,k⟩=>by
  obtain ⟨d,t1,e1,eq⟩:=Ao eq
  cases eq
  exact ⟨Oo,c,t,fi,d,_,e1,fun v H1 c1 f1 s1 rv=>k σ H1 c1 f1 s1⟩
def ifS (f:M Bool) (g h:M Out):M Out:=bnd f fun k=>if k=true then g else h
theorem AS {μ:Cf→Hp→D→(V→Hp→Prop)→Prop} {f:M Bool} {g h:M Out} {sa sb:List Stmt} (hc:PT X e (RT X.K f)) (ha:PSs X sa (RSg X.K μ g)) (hb:PSs X sb (RSg X.K μ h)):PS X (.If e sa sb pos) (RSg X.K μ (ifS f g h)):=
 C4 (UD hc ha hb) fun E σ H ⟨Oo,c,t,fi,o,t',eq,k⟩=>by
  obtain ⟨kb,t1,e1,eq⟩:=Ao eq
  refine ⟨Oo,c,t,fi,kb,t1,e1,fun H1 c1 f1 s1=>?_⟩
  cases kb with
  | true=>rw [if_pos rfl] at eq ⊢;exact ⟨Oo,c1,t1,f1,o,t',eq,fun σ2 H2 c2 f2 s2=>k σ2 H2 c2 f2 (s1.trans s2)⟩
  | false=>rw [if_neg Bool.false_ne_true] at eq ⊢;exact ⟨Oo,c1,t1,f1,o,t',eq,fun σ2 H2 c2 f2 s2=>k σ2 H2 c2 f2 (s1.trans s2)⟩
def BP (i:Nat) (d:D):M Unit:=fun t=>some ((),{ t with env:=t.env.set i (some (.val d)) })
def A9 (i:Nat) (f:M D):M Out:=bnd f fun d=>bnd (BP i d) fun _=>ret .next
theorem RS.set {μ:Cf→Hp→D→(V→Hp→Prop)→Prop} {K:PySem.W.Frag} {i:Nat} {f:M D} {E:Ends} {σ:L2.St} {H:Hp} (q:RSg K μ (A9 i f) E σ H):Ln (RE K f) (HE i) E σ H:=by
 obtain ⟨Oo,c,t,fi,o,t',eq,k⟩:=q
 obtain ⟨d,t1,e1,eq⟩:=Ao eq
 cases eq
 exact ⟨Oo,c,t,fi,d,t1,e1,fun v H1 c1 f1 s1 rv=>k _ H1 c1 (f1.set rv) s1⟩
theorem AT {μ:Cf→Hp→D→(V→Hp→Prop)→Prop} {i:Nat} {x:Str} {f:M D} {pos':Pos} (hN:X.N.Nodup) (hi:X.N[i]?=some x) (hx:Loc X.env.scope x) (he:PE X e (RE X.K f)) (hs:swapsWith e (some (.Name x pos')) pos.line X.env=pure false:=by rfl) (hf:X.fn x=true∨X.env.scope.names.lookup x=some .local:=by first | exact .inl rfl | exact .inr rfl | assumption) :
 PS X (.Assign [.Name x pos'] e pos) (RSg X.K μ (A9 i f)):=C4 (Oe hN hi hx he hs hf) fun _ _ _ q=>RS.set q
def GA (i:Nat) (f:M (List D)):M Out:=bnd f fun ds t=>some (.next,{ t with env:=t.env.set i (some (.own ds)) })
theorem RS.own {μ:Cf→Hp→D→(V→Hp→Prop)→Prop} {K:PySem.W.Frag} {i:Nat} {f:M (List D)} {E:Ends} {σ:L2.St} {H:Hp} (q:RSg K μ (GA i f) E σ H):Ln (RF K f) (HE i) E σ H:=by
 obtain ⟨Oo,c,t,fi,o,t',eq,k⟩:=q
 obtain ⟨ds,t1,e1,eq⟩:=Ao eq
 cases eq
 refine ⟨Oo,c,t,fi,ds,t1,e1,fun p vs H1 c1 f1 s1 rv hp=>?_⟩
 obtain ⟨c2,f2,s2⟩:=f1.setOwn (i:=i) hp rv
 exact k _ _ c2 f2 (s1.trans s2)
theorem NK {μ:Cf→Hp→D→(V→Hp→Prop)→Prop} {i:Nat} {x:Str} {f:M (List D)} {pos':Pos} (hN:X.N.Nodup) (hi:X.N[i]?=some x) (hx:Loc X.env.scope x) (he:PE X e (RF X.K f)) (hs:swapsWith e (some (.Name x pos')) pos.line X.env=pure false:=by rfl) (hf:X.fn x=true∨X.env.scope.names.lookup x=some .local:=by first | exact .inl rfl | exact .inr rfl | assumption) :
 PS X (.Assign [.Name x pos'] e pos) (RSg X.K μ (GA i f)):=C4 (Oe hN hi hx he hs hf) fun _ _ _ q=>RS.own q
theorem BG {i:Nat} {x:Str} (hN:X.N.Nodup) (hi:X.N[i]?=some x) (hx:Loc X.env.scope x) (hf:X.fn x=true∨X.env.scope.names.lookup x=some .local:=by first | exact .inl rfl | exact .inr rfl | assumption):PG X (.Name x pos) (RG X.K (BP i)):=
 Ki (Rv hN hi hx hf) fun v σ H Q ⟨Oo,c,t,d,fi,rv,t',eq,k⟩=>by
  cases eq
  exact k _ H c (fi.set rv) .refl
def Gk (f:M D) (g:D→M Unit):M Out:=bnd f fun d=>bnd (g d) fun _=>ret .next
theorem HD {μ:Cf→Hp→D→(V→Hp→Prop)→Prop} {tg:Expr} {f:M D} {g:D→M Unit} (he:PE X e (RE X.K f)) (hg:PG X tg (RG X.K g)) (hs:swapsWithSole [tg] e pos.line X.env=pure false:=by rfl) (hw:swappedStores [tg] e X.env=pure none:=by rfl) (hp:(assignEach [tg] X.env).map (·.2)=[assign tg X.env]:=by rfl) :
 PS X (.Assign [tg] e pos) (RSg X.K μ (Gk f g)):=
 C4 (by first | exact Oc he hg hs hw | exact Oc he hg hs hw hp) fun E σ H ⟨Oo,c,t,fi,o,t',eq,k⟩=>by
  obtain ⟨d,t1,e1,eq⟩:=Ao eq
  obtain ⟨u,t2,e2,eq⟩:=Ao eq
  cases eq
  exact ⟨Oo,c,t,fi,d,t1,e1,fun v H1 c1 f1 s1 rv=>⟨Oo,c1,t1,d,f1,rv,_,e2,fun σ2 H2 c2 f2 s2=>k σ2 H2 c2 f2 (s1.trans s2)⟩⟩
inductive RGs (K:PySem.W.Frag) (f:List D→M Unit) (vs:List V) (σ:L2.St) (H:Hp) (Q:L2.St→Hp→Prop):Prop where
 | mk (Oo:Addr→Prop) (c:Cf) (t:T) (ds:List D) (fi:FInv K Oo c t σ H) (r:Reps K c H vs ds) (t':T) (e:f ds t=some ((),t')) (k:∀σ' H' c',FInv K Oo c' t' σ' H'→Stp Oo c H c' H'→Q σ' H'):RGs K f vs σ H Q
theorem LY {ts:List Expr} {t t':TGs} (h:PGs X ts t) (i:∀v σ H Q,t' v σ H Q→t v σ H Q):PGs X ts t':=fun pins s σ H vs us Q I r q=>h pins s σ H vs us Q I r (i vs σ H Q q)
def HU:List D→M Unit
 | []=>ret ()
 | _=>fail
def D9 (f:D→M Unit) (g:List D→M Unit):List D→M Unit
 | d :: ds=>bnd (f d) fun _=>g ds
 | []=>fail
theorem QT:PGs X [] (RGs X.K HU):=LY Rw fun vs σ H Q ⟨Oo,c,t,ds,fi,rv,t',eq,k⟩=>by
 cases rv with
 | nil=>cases eq;exact ⟨rfl,k σ H c fi .refl⟩
 | cons _ _=>cases eq
theorem RGs.cons {K:PySem.W.Frag} {f:D→M Unit} {g:List D→M Unit} {vs:List V} {σ:L2.St} {H:Hp} {Q:L2.St→Hp→Prop} (q:RGs K (D9 f g) vs σ H Q):Qg (RG K f) (RGs K g) vs σ H Q:=by
 obtain ⟨Oo,c,t,ds,fi,rv,t',eq,k⟩:=q
 cases rv with
 | nil=>cases eq
 | cons r rs=>
   obtain ⟨u,t1,e1,eq⟩:=Ao eq
   exact ⟨_,_,rfl,Oo,c,t,_,fi,r,t1,e1,fun σ1 H1 c1 f1 s1=>⟨Oo,c1,t1,_,f1,rs.mono s1.ext,t',eq,fun σ2 H2 c2 f2 s2=>k σ2 H2 c2 f2 (s1.trans s2)⟩⟩
def unT (n:Nat) (g:List D→M Unit):D→M Unit
 | .tup ds=>if ds.length=n then g ds else fail
 | _=>fail
def Cs (st:D→M Unit) (b:M Out):List D→M Out
 | []=>ret .next
 | d :: r=>fun t=>match st d t with
   | none=>none
   | some (_,t1)=>match b t1 with
     | some (.next,t2)=>Cs st b r t2
     | some (.cont,t2)=>Cs st b r t2
     | some (.brk,t2)=>some (.next,t2)
     | some (.ret x,t2)=>some (.ret x,t2)
     | none=>none
def Ew (f:M (List D)) (st:D→M Unit) (b:M Out):M Out:=bnd f fun ds=>Cs st b ds
theorem RS.for {μ:Cf→Hp→D→(V→Hp→Prop)→Prop} {K:PySem.W.Frag} {f:M (List D)} {g:D→M Unit} {b:M Out} {E:Ends} {σ:L2.St} {H:Hp} (q:RSg K μ (Ew f g b) E σ H):PR (RI K f) (RG K g) (RSg K μ b) E σ H:=by
 obtain ⟨Oo,c,t,fi,o,t',eq,k⟩:=q
 obtain ⟨ds,t1,e1,eq⟩:=Ao eq
 refine ⟨Oo,c,t,fi,ds,t1,e1,fun J H1 c1 f1 s1 it=>?_⟩
 refine ⟨fun i m σ' H'=>m=ds.length - i∧i≤ds.length∧∃c' t2,FInv K Oo c' t2 σ' H'∧Stp Oo c1 H1 c' H'∧Cs g b (ds.drop i) t2=some (o,t'),⟨_,rfl,Nat.zero_le _,c1,t1,f1,.refl,by rw [List.drop_zero];exact eq⟩,?_⟩
 rintro i m σ' H' ⟨rfl,hi,c',t2,f2,s2,e2⟩
 by_cases hlt:i < ds.length
 ·refine .inr ⟨it.go c' H' i s2.ext hlt,fun σ3 H3=>∃c3 t3,FInv K Oo c3 t3 σ3 H3∧Stp Oo c1 H1 c3 H3∧Cs g b (ds.drop (i + 1)) t3=some (o,t'),fun σ3 H3 h=>⟨ds.length - (i + 1),by lia,rfl,hlt,h⟩,fun x H'' hy=>?_⟩
  obtain ⟨rfl,rx⟩:=it.yld c' H' i x H'' _ s2.ext (List.getElem?_eq_getElem hlt) hy
  rw [List.drop_eq_getElem_cons hlt] at e2
  unfold Cs at e2
  cases e3:g ds[i] t2 with
  | none=>rw [e3] at e2;cases e2
  | some p=>
    obtain ⟨u,t3⟩:=p
    rw [e3] at e2
    try dsimp only at e2
    refine ⟨Oo,c',t2,_,f2,rx,t3,e3,fun σ3 H3 c3 f3 s3=>?_⟩
    cases e4:b t3 with
    | none=>rw [e4] at e2;cases e2
    | some p=>
      obtain ⟨o4,t4⟩:=p
      rw [e4] at e2
      try dsimp only at e2
      refine ⟨Oo,c3,t3,f3,o4,t4,e4,fun σ5 H5 c5 f5 s5=>?_⟩
      have s':=(s2.trans s3).trans s5
      cases o4 with
      | next=>exact ⟨c5,t4,f5,s',e2⟩
      | cont=>exact ⟨c5,t4,f5,s',e2⟩
      | brk=>cases e2;exact k σ5 H5 c5 f5 (s1.trans s')
      | ret r=>cases e2;exact k σ5 H5 c5 f5 (s1.trans s')
 ·have hi':i=ds.length:=by lia
  subst hi'
  rw [List.drop_length] at e2
  cases e2
  exact .inl ⟨it.stop c' H' s2.ext,k σ' H' c' f2 (s1.trans s2)⟩
theorem EV {μ:Cf→Hp→D→(V→Hp→Prop)→Prop} {tg iter:Expr} {body:List Stmt} {f:M (List D)} {g:D→M Unit} {b:M Out} (hp:PassesOwn (model X.prog X.w) X.A X.env X.xe) (hc:X.calm=true) (hi:PI X tg iter (RI X.K f)) (hg:PG X tg (RG X.K g)) (hb:PSs X body (RSg X.K μ b))
 (hs:∀x,foldedSetIterable iter X.env x=pure x:=by intro _;rfl):PS X (.For tg iter body [] pos) (RSg X.K μ (Ew f g b)):=
 C4 (Od hp hc hi hg hb hs) fun _ _ _ q=>RS.for q
theorem ItOk.lst {K:PySem.W.Frag} {c:Cf} {H:Hp} {p:Addr} {ds:List D} (r:∀c' H',Ext c H c' H'→∃vs,SqL K H' p vs∧Reps K c' H' vs ds):ItOk K (Itl K p) c H ds:=by
 refine ⟨fun c' H' i ex hi=>?_,fun c' H' i x H'' d ex hd hy=>?_,fun c' H' ex=>?_⟩
 ·obtain ⟨vs,h1,h2⟩:=r c' H' ex
  obtain ⟨v,e,_⟩:=h2.at (List.getElem?_eq_getElem hi)
  exact ⟨vs,v,h1,e⟩
 ·obtain ⟨vs,h1,h2⟩:=r c' H' ex
  obtain ⟨rfl,h⟩:=hy
  exact ⟨rfl,h2.get (h vs h1) hd⟩
 ·obtain ⟨vs,h1,h2⟩:=r c' H' ex
  exact ⟨vs,h1,by rw [h2.length];exact Nat.le_refl _⟩
theorem ItOk.tup {K:PySem.W.Frag} {c:Cf} {H:Hp} {p:Addr} {ds:List D} (r:∀c' H',Ext c H c' H'→∃vs,SqT K H' p vs∧Reps K c' H' vs ds):ItOk K (Itt K p) c H ds:=by
 refine ⟨fun c' H' i ex hi=>?_,fun c' H' i x H'' d ex hd hy=>?_,fun c' H' ex=>?_⟩
 ·obtain ⟨vs,h1,h2⟩:=r c' H' ex
  obtain ⟨v,e,_⟩:=h2.at (List.getElem?_eq_getElem hi)
  exact ⟨vs,v,h1,e⟩
 ·obtain ⟨vs,h1,h2⟩:=r c' H' ex
  obtain ⟨rfl,h⟩:=hy
  exact ⟨rfl,h2.get (h vs h1) hd⟩
 ·obtain ⟨vs,h1,h2⟩:=r c' H' ex
  exact ⟨vs,h1,by rw [h2.length];exact Nat.le_refl _⟩
end
theorem FInv.leave {K:PySem.W.Frag} {Oo:Addr→Prop} {c:Cf} {t:T} {σ:L2.St} {H:Hp} (f:FInv K Oo c t σ H):SInv K ⟨c.ι,Oo⟩ t.S H∧Ext c H ⟨c.ι,Oo⟩ H:=by
 have ext:Ext c H ⟨c.ι,Oo⟩ H:=⟨fun _ _ e _=>e,fun b o _ z=>z.elim .inl fun w=>.inr (f.sub b w),fun _ _ e=>e⟩
 exact ⟨⟨f.s.len,f.s.nd,fun k a o e1 e2=>(f.s.obs k a o e1 e2).mono ext rfl,fun b z=>f.s.trk b (f.sub b z),fun b z=>f.s.dis b (f.sub b z)⟩,ext⟩
def env0 (m:Nat) (ds:List D):List (Option Sl):=ds.map (fun d=>some (.val d))++List.replicate (m - ds.length) none
def fnOf (n m:Nat) (g:M Out):Fn:=fun ds S=>if ds.length=n then (match g ⟨env0 m ds,S⟩ with
 | some (.ret r,t)=>some (r,t.S)
 | some (.next,t)=>some (.non,t.S)
 | _=>none) else none
theorem FQ {K:PySem.W.Frag} {c:Cf} {S:List Ob} {H:Hp} {vs:List V} {ds:List D} {N:List Str} (s:SInv K c S H) (r:Reps K c H vs ds):FInv K c.O c ⟨env0 N.length ds,S⟩ (L2.Dl N vs) H:=by
 have hlen:vs.length=ds.length:=r.length
 have none_:∀{i:Nat} {x:Sl},(env0 N.length ds)[i]?=some (some x)→∃d,ds[i]?=some d∧x = .val d:=fun {i x} q=>by
  unfold env0 at q
  by_cases hi:i < ds.length
  ·rw [List.getElem?_append_left (by simpa using hi),List.getElem?_map,List.getElem?_eq_getElem hi] at q
   simp at q
   exact ⟨ds[i],List.getElem?_eq_getElem hi,q.symm⟩
  ·rw [List.getElem?_append_right (by simpa using hi),List.getElem?_replicate] at q
   split at q <;> simp at q
 refine ⟨s,by simp [env0,L2.Dl,hlen],fun _ z=>z,fun i d q=>?_,fun i es q=>?_,fun i j es _ a q _ _ _=>?_⟩
 ·obtain ⟨d',h1,h2⟩:=none_ q
  cases h2
  obtain ⟨v,h3,h4⟩:=r.at h1
  refine ⟨v,?_,h4⟩
  unfold L2.Dl
  have hi:=(List.getElem?_eq_some_iff.mp h3).1
  rw [List.getElem?_append_left (by simpa using hi),List.getElem?_map,h3]
  rfl
 ·obtain ⟨_,_,h2⟩:=none_ q;cases h2
 ·obtain ⟨_,_,h2⟩:=none_ q;cases h2
theorem Uv {P:Program} {w:World} {K:PySem.W.Frag} {mg:Str→Option Value} {base:Heap} {x qual:Str} {st:Stmt} {fa:Addr} {fd:FuncData} {N ps:List Str} {k:Nat} {g:M Out} (F:Fun K x qual st fa fd) (S:FnScope N ps (AF st))
 (hb:∀(cdv:Value) (A:Around) (outer:List Env) (s:Shared) (H:Hp) (E:XK),Room k (A.deeper (PyProof.Rows.envOfC qual (AF st) s.heap.objs.size fa cdv))→
   PSs (FP CX0 P w K mg base N qual (AF st) fa cdv A outer s H E).nox (CO st) (RS K g)):FnOk P w K mg base CX0 (k + 1) fa fd ps (spF K (fnOf ps.length N.length g)):=by
 have hlen:∀{ds:List D} {S:List Ob} {z:D×List Ob},fnOf ps.length N.length g ds S=some z→ds.length=ps.length:=fun {ds S z} h=>by
  unfold fnOf at h
  split at h
  ·next h1=>exact h1
  ·cases h
 refine F.ok S (fun vs H Q E h=>?_) (fun cdv A outer s H vs Q E hr h=>?_)
 ·obtain ⟨c,ds,S,si,rs,r,S',e,_⟩:=h
  rw [rs.length];exact hlen e
 obtain ⟨c,ds,S0,si,rs,r,S',e,kk⟩:=h
 refine ⟨RS K g,hb cdv A outer s H E hr,?_⟩
 have hl:=hlen e
 unfold fnOf at e
 rw [if_pos hl] at e
 cases eg:g ⟨env0 N.length ds,S0⟩ with
 | none=>rw [eg] at e;cases e
 | some p=>
   obtain ⟨o,t⟩:=p
   rw [eg] at e
   refine ⟨c.O,c,_,FQ si rs,o,t,eg,fun σ' H' c' f' s'=>?_⟩
   obtain ⟨si',ext'⟩:=f'.leave
   have st':Stp c.O c H ⟨c'.ι,c.O⟩ H':=⟨s'.ext.trans ext',s'.oo⟩
   cases o with
   | next=>cases e;exact kk .non H' _ si' st' (fun _=>Iff.rfl) .non
   | ret d=>cases e;exact fun v rv=>kk v H' _ si' st' (fun _=>Iff.rfl) (rv.mono ext')
   | brk=>cases e
   | cont=>cases e
section
variable {X:Cx} {e a b:Expr} {pos:Pos}
def items:D→M (List D)
 | .lst ds=>ret ds
 | .tup ds=>ret ds
 | .scr ns=>ret (ns.map .int)
 | _=>fail
def CJ (lo:Int) (n:Nat):List D:=(List.range n).map fun i=>.int (lo + (i:Nat))
theorem ItOk.rng {K:PySem.W.Frag} {c:Cf} {H:Hp} {lo:Int} {n:Nat}:ItOk K (Itr lo n) c H (CJ lo n):=by
 refine ⟨fun c' H' i ex hi=>?_,fun c' H' i x H'' d ex hd hy=>?_,fun c' H' ex=>?_⟩
 ·have:i < n:=by simpa [CJ] using hi
  exact this
 ·obtain ⟨rfl,rfl⟩:=hy
  refine ⟨rfl,?_⟩
  have hi:i < n:=by
   have:=(List.getElem?_eq_some_iff.mp hd).1
   simpa [CJ] using this
  have:d = .int (lo + (i:Nat)):=by
   rw [CJ,List.getElem?_map,List.getElem?_range hi] at hd
   simpa using hd.symm
  rw [this]
  exact .int _
 ·show n≤(CJ lo n).length
  simp [CJ]
def B5 (i:Int):Bool:=decide (-(2 ^ 62)≤i) && decide (i < 2 ^ 62)
def IV:List D→M (List D)
 | [.int j]=>fun t=>if B5 j=true then some (CJ 0 j.toNat,t) else none
 | _=>fail
def PH:List D→M (List D)
 | [.int i,.int j]=>fun t=>if (B5 i && B5 j)=true then some (CJ i (j - i).toNat,t) else none
 | _=>fail
def Cw (f:M (List D)):M (List D):=bnd f IV
def Qe (f:M (List D)):M (List D):=bnd f PH
theorem Fg {i:Int} (h:B5 i=true) : -(2 ^ 62)≤i∧i < 2 ^ 62:=by
 unfold B5 at h
 rw [Bool.and_eq_true] at h
 exact ⟨of_decide_eq_true h.1,of_decide_eq_true h.2⟩
theorem NI {tg:Expr} {f:M (List D)} {p:Pos} (hg:Gl X "range") (hm:X.mg "range" = none) (ha:PA X [a] (RA X.K f)) (hs:starEach [a] X.env=[(false,eval a X.env)]:=by rfl):PI X tg (.Call (.Name "range" p) [a] [] pos) (RI X.K (Cw f)):=
 Kj (N9 hg hm ha hs) fun σ H R ⟨Oo,c,t,fi,ds,t',eq,k⟩=>by
  obtain ⟨xs,t1,e1,eq⟩:=Ao eq
  refine ⟨Oo,c,t,fi,xs,t1,e1,fun vs H1 c1 f1 s1 rv=>?_⟩
  unfold IV at eq
  split at eq
  ·next j=>
   split at eq
   ·next hs=>
    cases eq
    cases rv with
    | cons r rs=>
      cases rs
      cases r
      obtain ⟨h1,h2⟩:=Fg hs
      exact ⟨j,rfl,h1,h2,k _ H1 c1 f1 s1 ItOk.rng⟩
   ·cases eq
  ·cases eq
def Cc (st:D→M Unit) (tst:M Bool) (elt:M D):List D→M (List D)
 | []=>ret []
 | d :: r=>bnd (st d) fun _=>bnd tst fun k=>if k=true then bnd elt fun x=>bnd (Cc st tst elt r) fun xs=>ret (x :: xs) else Cc st tst elt r
def UP:Option (Option Sl)→Option Sl
 | some (some (.val d))=>some (.val d)
 | _=>none
def cenv (n:Nat) (fr:List Nat) (env:List (Option Sl)):List (Option Sl):=List.replicate n none++fr.map fun i=>UP env[i]?
def FN (n:Nat) (fr:List Nat) (σ:L2.St):L2.St:=List.replicate n none++fr.map fun i=>(σ[i]?).join
def Cj (n:Nat) (fr:List Nat) (f:M (List D)) (st:D→M Unit) (tst:M Bool) (elt:M D):M (List D):=bnd f fun ds t=>match Cc st tst elt ds ⟨cenv n fr t.env,t.S⟩ with
 | some (xs,t')=>if xs.length≤LIM then some (xs,{ t with S:=t'.S }) else none
 | none=>none
theorem G5 {n:Nat} {fr:List Nat} {env:List (Option Sl)} {j:Nat} {x:Sl} (h:(cenv n fr env)[j]?=some (some x)):∃i d,n≤j∧fr[j - n]?=some i∧env[i]?=some (some (.val d))∧x = .val d:=by
 unfold cenv at h
 by_cases hj:j < n
 ·rw [List.getElem?_append_left (by simpa using hj),List.getElem?_replicate] at h
  split at h <;> simp at h
 ·rw [List.getElem?_append_right (by simpa using hj),List.length_replicate,List.getElem?_map] at h
  cases e:fr[j - n]? with
  | none=>rw [e] at h;simp at h
  | some i=>
    rw [e] at h
    simp only [Option.map_some,Option.some.injEq] at h
    cases e2:env[i]? with
    | none=>rw [e2] at h;cases h
    | some o=>
      cases o with
      | none=>rw [e2] at h;cases h
      | some sl=>
        cases sl with
        | own _=>rw [e2] at h;cases h
        | val d=>rw [e2] at h;cases h;exact ⟨i,d,by lia,rfl,e2,rfl⟩
theorem MQ {K:PySem.W.Frag} {Oo:Addr→Prop} {c:Cf} {t:T} {σ:L2.St} {H:Hp} {n:Nat} {fr:List Nat} (f:FInv K Oo c t σ H):FInv K c.O c ⟨cenv n fr t.env,t.S⟩ (FN n fr σ) H:=by
 refine ⟨f.s,by simp [cenv,FN],fun _ z=>z,fun j d q=>?_,fun j es q=>?_,fun j _ es _ _ q _ _ _=>?_⟩
 ·obtain ⟨i,d',h0,h1,h2,h3⟩:=G5 q
  cases h3
  obtain ⟨v,h4,h5⟩:=f.val i d h2
  refine ⟨v,?_,h5⟩
  unfold FN
  rw [List.getElem?_append_right (by simpa using h0),List.length_replicate,List.getElem?_map,h1]
  simp [h4]
 ·obtain ⟨_,_,_,_,_,h⟩:=G5 q;cases h
 ·obtain ⟨_,_,_,_,_,h⟩:=G5 q;cases h
theorem RF.comp {K:PySem.W.Frag} {n:Nat} {fr:List Nat} {f:M (List D)} {st:D→M Unit} {tst:M Bool} {elt:M D} {σ:L2.St} {H:Hp} {Q:VK} (q:RF K (Cj n fr f st tst elt) σ H Q):Nb (RI K f) (RG K st) (RT K tst) (RE K elt) (FN n fr) σ H Q:=by
 obtain ⟨Oo,c,t,fi,xs,t',eq,k⟩:=q
 obtain ⟨ds,t1,e1,eq⟩:=Ao eq
 refine ⟨Oo,c,t,fi,ds,t1,e1,fun J H1 c1 f1 s1 it=>?_⟩
 cases e3:Cc st tst elt ds ⟨cenv n fr t1.env,t1.S⟩ with
 | none=>rw [e3] at eq;cases eq
 | some p=>
   obtain ⟨ys,t3⟩:=p
   rw [e3] at eq
   dsimp only at eq
   split at eq
   case isFalse=>cases eq
   next hl=>
   cases eq
   refine ⟨fun i m acc σ' H'=>m=ds.length - i∧i≤ds.length∧∃c' t2 zs rest,FInv K c1.O c' t2 σ' H'∧Stp c1.O c1 H1 c' H'∧Reps K c' H' acc zs∧Cc st tst elt (ds.drop i) t2=some (rest,t3)∧xs=zs++rest,
    ⟨_,rfl,Nat.zero_le _,c1,_,[],xs,MQ f1,.refl,.nil,by rw [List.drop_zero];exact e3,rfl⟩,?_⟩
   rintro i m acc σ' H' ⟨rfl,hi,c',t2,zs,rest,f2,s2,ra,e2,ez⟩
   have hacc:acc.length≤sizeLine:=by
    have:zs.length≤xs.length:=by rw [ez,List.length_append];exact Nat.le_add_right _ _
    rw [ra.length]
    exact Nat.le_trans this (Nat.le_trans hl Cr)
   refine ⟨hacc,?_⟩
   by_cases hlt:i < ds.length
   ·refine .inr ⟨it.go c' H' i s2.ext hlt,fun x H'' hy=>?_⟩
    obtain ⟨rfl,rx⟩:=it.yld c' H' i x H'' _ s2.ext (List.getElem?_eq_getElem hlt) hy
    rw [List.drop_eq_getElem_cons hlt] at e2
    unfold Cc at e2
    obtain ⟨u,t4,e4,e2⟩:=Ao e2
    obtain ⟨kb,t5,e5,e2⟩:=Ao e2
    refine ⟨c1.O,c',t2,_,f2,rx,t4,e4,fun σ3 H3 c3 f3 s3=>⟨c1.O,c3,t4,f3,kb,t5,e5,fun H4 c4 f4 s4=>?_⟩⟩
    cases kb with
    | false=>
      rw [if_neg Bool.false_ne_true] at e2 ⊢
      exact ⟨ds.length - (i + 1),by lia,rfl,hlt,c4,t5,zs,rest,f4,(s2.trans s3).trans s4,ra.mono (s3.trans s4).ext,e2,ez⟩
    | true=>
      rw [if_pos rfl] at e2 ⊢
      obtain ⟨x6,t6,e6,e2⟩:=Ao e2
      obtain ⟨r7,t7,e7,e2⟩:=Ao e2
      cases e2
      refine ⟨c1.O,c4,t5,f4,x6,t6,e6,fun v H5 c5 f5 s5 rv=>?_⟩
      exact ⟨ds.length - (i + 1),by lia,rfl,hlt,c5,t6,zs++[x6],r7,f5,((s2.trans s3).trans s4).trans s5,(ra.mono ((s3.trans s4).trans s5).ext).append (.cons rv .nil),e7,by rw [ez,List.append_assoc];rfl⟩
   ·have hi':i=ds.length:=by lia
    subst hi'
    rw [List.drop_length] at e2
    cases e2
    refine .inl ⟨it.stop c' H' s2.ext,fun p hp _=>?_⟩
    obtain ⟨si,ext⟩:=f2.leave
    obtain ⟨f6,s6⟩:=f1.after si ⟨s2.ext.trans ext,s2.oo⟩ (fun _=>Iff.rfl)
    rw [List.append_nil] at ez
    subst ez
    exact k p acc H' _ f6 (s1.trans s6) (ra.mono ext) hp
end
end F2
namespace F2
open PySem L2 PySem.Spec PySem.SeqAt
def eq0:D→D→Option Bool
 | .non,.non=>some true
 | .bl a,.bl b=>some (a == b)
 | .int a,.int b=>some (a == b)
 | .str a,.str b=>some (a == b)
 | .bl a,.int b=>some ((if a then (1:Int) else 0) == b)
 | .int a,.bl b=>some (a == (if b then (1:Int) else 0))
 | .non,.bl _=>some false | .non,.int _=>some false | .non,.str _=>some false | .non,.lst _=>some false | .non,.tup _=>some false
 | .bl _,.non=>some false | .bl _,.str _=>some false | .bl _,.lst _=>some false | .bl _,.tup _=>some false
 | .int _,.non=>some false | .int _,.str _=>some false | .int _,.lst _=>some false | .int _,.tup _=>some false
 | .str _,.non=>some false | .str _,.bl _=>some false | .str _,.int _=>some false | .str _,.lst _=>some false | .str _,.tup _=>some false
 | .lst _,.non=>some false | .lst _,.bl _=>some false | .lst _,.int _=>some false | .lst _,.str _=>some false | .lst _,.tup _=>some false
 | .tup _,.non=>some false | .tup _,.bl _=>some false | .tup _,.int _=>some false | .tup _,.str _=>some false | .tup _,.lst _=>some false
 | _,_=>none
def Co (f:D→D→Option Bool):List D→List D→Option Bool
 | x :: xs,y :: ys=>match f x y,Co f xs ys with
   | some a,some b=>some (a && b)
   | _,_=>none
 | _,_=>some true
def eqN:Nat→D→D→Option Bool
 | 0,x,y=>eq0 x y
 | n + 1,.tup xs,.tup ys=>(Co (eqN n) xs ys).map fun b=>b && xs.length == ys.length
 | n + 1,.lst xs,.lst ys=>if xs.length=ys.length then Co (eqN n) xs ys else some false
 | _ + 1,x,y=>eq0 x y
def ej (f:D→D→Option Bool) (xs ys:List D) (j:Nat):Bool:=match xs[j]?,ys[j]? with
 | some d,some e=>(f d e).getD true
 | _,_=>true
theorem C8 {f:D→D→Option Bool}:∀{xs ys:List D} {b:Bool},Co f xs ys=some b→b=(List.range (min xs.length ys.length)).all (ej f xs ys)∧∀(j:Nat) d e,xs[j]?=some d→ys[j]?=some e→∃k,f d e=some k
 | [],ys,b,h=>by
   have h:some true=some b:=by simpa [Co] using h
   cases h
   refine ⟨by simp,fun j d e q _=>by simp at q⟩
 | x :: xs,[],b,h=>by
   have h:some true=some b:=by simpa [Co] using h
   cases h
   refine ⟨by simp,fun j d e _ q=>by simp at q⟩
 | x :: xs,y :: ys,b,h=>by
   unfold Co at h
   cases e1:f x y with
   | none=>rw [e1] at h;cases h
   | some a=>
     cases e2:Co f xs ys with
     | none=>rw [e1,e2] at h;cases h
     | some c=>
       rw [e1,e2] at h
       cases h
       obtain ⟨h1,h2⟩:=C8 e2
       refine ⟨?_,fun j d e q1 q2=>?_⟩
       ·have hm:min (x :: xs).length (y :: ys).length=min xs.length ys.length + 1:=by simp [Nat.succ_min_succ]
        rw [hm,List.range_succ_eq_map,List.all_cons,List.all_map,h1]
        have:ej f (x :: xs) (y :: ys) 0=a:=by simp [ej,e1]
        rw [this]
        rfl
       ·cases j with
        | zero=>simp at q1 q2;subst q1 q2;exact ⟨a,e1⟩
        | succ j=>exact h2 j d e (by simpa using q1) (by simpa using q2)
theorem BR {P:Program} {w:World} {H:Hp} {h:Heap} {a:Addr} {vs:List V} (o:HOk P w H h) (e:H a=some (.lst vs)):∃its:List Value,Vals vs its∧h.IsList a its.toArray:=by
 obtain ⟨_,its,n,r,q⟩:=o a _ e
 exact ⟨its,r,_,q,rfl,n,rfl⟩
theorem B3 {P:Program} {w:World} {H:Hp} {h:Heap} {a:Addr} {vs:List V} (o:HOk P w H h) (e:H a=some (.tup vs)):∃its:List Value,Vals vs its∧h.IsTuple a its.toArray:=by
 obtain ⟨_,its,r,q⟩:=o a _ e
 exact ⟨its,r,q⟩
theorem Ie {vs:List V} {its:List Value} {j:Nat} (r:Vals vs its) (h:j < its.toArray.size):∃v,vs[j]?=some v∧RelV v its.toArray[j]:=by
 have h':j < its.length:=by simpa using h
 have hl:j < vs.length:=by rw [r.length];exact h'
 obtain ⟨u,e1,e2⟩:=r.get (List.getElem?_eq_getElem hl)
 refine ⟨vs[j],List.getElem?_eq_getElem hl,?_⟩
 rw [List.getElem?_eq_getElem h'] at e1
 cases e1
 simpa using e2
theorem NE {f:D→D→Option Bool} {xs ys:List D} {b:Bool} (h:Co f xs ys=some b) (ht:∀(j:Nat) d e k,xs[j]?=some d→ys[j]?=some e→f d e=some k→k=true):b=true:=by
 obtain ⟨h1,h2⟩:=C8 h
 rw [h1,List.all_eq_true]
 intro j hj
 have hj':=List.mem_range.mp hj
 have l1:j < xs.length:=by lia
 have l2:j < ys.length:=by lia
 obtain ⟨k,ek⟩:=h2 j _ _ (List.getElem?_eq_getElem l1) (List.getElem?_eq_getElem l2)
 have:=ht j _ _ k (List.getElem?_eq_getElem l1) (List.getElem?_eq_getElem l2) ek
 unfold ej
 rw [List.getElem?_eq_getElem l1,List.getElem?_eq_getElem l2]
 simp [ek,this]
theorem Iv {K:PySem.W.Frag} {c:Cf} {H:Hp}:∀(n:Nat) {v:V} {d e:D} {b:Bool},Rep K c H v d→Rep K c H v e→eqN n d e=some b→b=true
 | n,v,d,e,b,rd,re,q=>by
   have items:∀{m:Nat} {vs:List V} {ds es:List D} {b':Bool},n=m + 1→Reps K c H vs ds→Reps K c H vs es→Co (eqN m) ds es=some b'→b'=true:=fun {m vs ds es b'} hm r1 r2 e'=>
    NE e' fun j d e k q1 q2 ek=>by
     obtain ⟨v,g1,g2⟩:=r1.at q1
     exact Iv m g2 (r2.get g1 q2) ek
   cases rd with
   | non=>cases re;cases n <;> cases q <;> rfl
   | bl k=>cases re;cases n <;> cases q <;> simp
   | int k=>cases re;cases n <;> cases q <;> simp
   | str k=>cases re;cases n <;> cases q <;> simp
   | ty k=>cases re;cases n <;> cases q
   | lst h1 h2 h3=>
     cases re with
     | lst g1 g2 g3=>
       rw [h1] at g1;cases g1
       cases n with
       | zero=>cases q
       | succ m=>
         have hl:_=_:=h3.length.symm.trans g3.length
         have q:(if _ then Co (eqN m) _ _ else some false)=some b:=q
         rw [if_pos hl] at q
         exact items rfl h3 g3 q
     | tup g1 g2 g3=>rw [h1] at g1;cases g1
     | _=>cases n <;> cases q
   | tup h1 h2 h3=>
     cases re with
     | tup g1 g2 g3=>
       rw [h1] at g1;cases g1
       cases n with
       | zero=>cases q
       | succ m=>
         have hl:_=_:=h3.length.symm.trans g3.length
         have q:(Co (eqN m) _ _).map (fun b=>b && _)=some b:=q
         obtain ⟨b',e1,e2⟩:=Option.map_eq_some_iff.mp q
         rw [←e2,items rfl h3 g3 e1,hl]
         simp
     | lst g1 g2 g3=>rw [h1] at g1;cases g1
     | _=>cases n <;> cases q
   | _=>cases re <;> cases n <;> cases q
theorem Iu {P:Program} {w:World} {K:PySem.W.Frag} {c:Cf} {H:Hp} {s:Shared} (hok:HOk P w H s.heap):∀(n:Nat) {A:Around} {x y:V} {u v:Value} {dx dy:D} {b:Bool},RelV x u→RelV y v→Rep K c H x dx→Rep K c H y dy→eqN n dx dy=some b→A.units + n < cLine→
 RcAt A s u v b∧(EqAt A s u v b)
 | n,A,x,y,u,v,dx,dy,b,ru,rv,rx,ry,e,hu=>by
   have items:∀{m:Nat} {vs ws:List V} {is js:List Value} {ds es:List D} {b':Bool},n=m + 1→Vals vs is→Vals ws js→Reps K c H vs ds→Reps K c H ws es→Co (eqN m) ds es=some b'→
    ∀j (h1:j < is.toArray.size) (h2:j < js.toArray.size),EqAt A.in1 s is.toArray[j] js.toArray[j] (ej (eqN m) ds es j):=fun {m vs ws is js ds es b'} hm r1 r2 q1 q2 e' j h1 h2=>by
    obtain ⟨v1,a1,a2⟩:=Ie r1 h1
    obtain ⟨v2,b1,b2⟩:=Ie r2 h2
    obtain ⟨l1,g1⟩:=List.getElem?_eq_some_iff.mp a1
    obtain ⟨l2,g2⟩:=List.getElem?_eq_some_iff.mp b1
    have k1:ds[j]?=some (ds[j]'(by rw [←q1.length];exact l1)):=List.getElem?_eq_getElem _
    have k2:es[j]?=some (es[j]'(by rw [←q2.length];exact l2)):=List.getElem?_eq_getElem _
    obtain ⟨kk,ek⟩:=(C8 e').2 j _ _ k1 k2
    have:ej (eqN m) ds es j=kk:=by unfold ej;rw [k1,k2];simp [ek]
    rw [this]
    have hu':A.in1.units + m < cLine:=by
     have:A.in1.units=A.units + 1:=by first | rfl | exact Around.units_in1 _ | simp [Around.in1,Around.units]
     lia
    exact (Iu hok m a2 b2 (q1.get a1 k1) (q2.get b1 k2) ek hu').2
   have hu0:A.units < cLine:=by lia
   have conc:∀{p q:Addr} {k:Bool},p≠q→RcAt A s (.ref p) (.ref q) k→RcAt A s (.ref p) (.ref q) k∧EqAt A s (.ref p) (.ref q) k:=fun hn h=>⟨h,EqAt.of_refs hn h⟩
   cases rx with
   | non=>
     cases ru
     cases ry with
     | non=>cases rv;cases n <;> cases e <;> exact ⟨RcAt.none_none,EqAt.same _⟩
     | bl k=>cases rv;cases n <;> cases e <;> exact ⟨RcAt.none_bool _,EqAt.none_bool _⟩
     | int k=>obtain ⟨t,rfl⟩:=rv;cases n <;> cases e <;> exact ⟨RcAt.none_int _ _,EqAt.none_int _ _⟩
     | str k=>obtain ⟨t,rfl⟩:=rv;cases n <;> cases e <;> exact ⟨RcAt.none_str _ _,EqAt.none_str _ _⟩
     | lst h1 h2 h3=>cases rv;obtain ⟨its,r,l⟩:=BR hok h1;cases n <;> cases e <;> exact ⟨RcAt.none_list l hu0,EqAt.none_list l hu0⟩
     | tup h1 h2 h3=>cases rv;obtain ⟨its,r,l⟩:=B3 hok h1;cases n <;> cases e <;> exact ⟨RcAt.none_tuple l hu0,EqAt.none_tuple l hu0⟩
     | _=>cases n <;> cases e
   | bl k'=>
     cases ru
     cases ry with
     | non=>cases rv;cases n <;> cases e <;> exact ⟨RcAt.bool_none _,EqAt.bool_none _⟩
     | bl k=>cases rv;cases n <;> cases e <;> exact ⟨RcAt.bool_bool _ _,EqAt.bool_bool _ _⟩
     | int k=>obtain ⟨t,rfl⟩:=rv;cases n <;> cases e <;> exact ⟨RcAt.bool_int _ _ _,EqAt.bool_int _ _ _⟩
     | str k=>obtain ⟨t,rfl⟩:=rv;cases n <;> cases e <;> exact ⟨RcAt.bool_str _ _ _,EqAt.bool_str _ _ _⟩
     | lst h1 h2 h3=>cases rv;obtain ⟨its,r,l⟩:=BR hok h1;cases n <;> cases e <;> exact ⟨RcAt.bool_list _ l hu0,EqAt.bool_list _ l hu0⟩
     | tup h1 h2 h3=>cases rv;obtain ⟨its,r,l⟩:=B3 hok h1;cases n <;> cases e <;> exact ⟨RcAt.bool_tuple _ l hu0,EqAt.bool_tuple _ l hu0⟩
     | _=>cases n <;> cases e
   | int k'=>
     obtain ⟨t',rfl⟩:=ru
     cases ry with
     | non=>cases rv;cases n <;> cases e <;> exact ⟨RcAt.int_none _ _,EqAt.int_none _ _⟩
     | bl k=>cases rv;cases n <;> cases e <;> exact ⟨RcAt.int_bool _ _ _,EqAt.int_bool _ _ _⟩
     | int k=>obtain ⟨t,rfl⟩:=rv;cases n <;> cases e <;> exact ⟨RcAt.int_int _ _ _ _,EqAt.int_int _ _ _ _⟩
     | str k=>obtain ⟨t,rfl⟩:=rv;cases n <;> cases e <;> exact ⟨RcAt.int_str _ _ _ _,EqAt.int_str _ _ _ _⟩
     | lst h1 h2 h3=>cases rv;obtain ⟨its,r,l⟩:=BR hok h1;cases n <;> cases e <;> exact ⟨RcAt.int_list _ _ l hu0,EqAt.int_list _ _ l hu0⟩
     | tup h1 h2 h3=>cases rv;obtain ⟨its,r,l⟩:=B3 hok h1;cases n <;> cases e <;> exact ⟨RcAt.int_tuple _ _ l hu0,EqAt.int_tuple _ _ l hu0⟩
     | _=>cases n <;> cases e
   | str k'=>
     obtain ⟨t',rfl⟩:=ru
     cases ry with
     | non=>cases rv;cases n <;> cases e <;> exact ⟨RcAt.str_none _ _,EqAt.str_none _ _⟩
     | bl k=>cases rv;cases n <;> cases e <;> exact ⟨RcAt.str_bool _ _ _,EqAt.str_bool _ _ _⟩
     | int k=>obtain ⟨t,rfl⟩:=rv;cases n <;> cases e <;> exact ⟨RcAt.str_int _ _ _ _,EqAt.str_int _ _ _ _⟩
     | str k=>obtain ⟨t,rfl⟩:=rv;cases n <;> cases e <;> exact ⟨RcAt.str_str _ _ _ _,EqAt.str_str _ _ _ _⟩
     | lst h1 h2 h3=>cases rv;obtain ⟨its,r,l⟩:=BR hok h1;cases n <;> cases e <;> exact ⟨RcAt.str_list _ _ l hu0,EqAt.str_list _ _ l hu0⟩
     | tup h1 h2 h3=>cases rv;obtain ⟨its,r,l⟩:=B3 hok h1;cases n <;> cases e <;> exact ⟨RcAt.str_tuple _ _ l hu0,EqAt.str_tuple _ _ l hu0⟩
     | _=>cases n <;> cases e
   | @lst p vs ds g1 g2 g3=>
     cases ru
     obtain ⟨is,r1,l1⟩:=BR hok g1
     cases ry with
     | non=>cases rv;cases n <;> cases e <;> exact ⟨RcAt.list_none l1 hu0,EqAt.list_none l1 hu0⟩
     | bl k=>cases rv;cases n <;> cases e <;> exact ⟨RcAt.list_bool _ l1 hu0,EqAt.list_bool _ l1 hu0⟩
     | int k=>obtain ⟨t,rfl⟩:=rv;cases n <;> cases e <;> exact ⟨RcAt.list_int _ _ l1 hu0,EqAt.list_int _ _ l1 hu0⟩
     | str k=>obtain ⟨t,rfl⟩:=rv;cases n <;> cases e <;> exact ⟨RcAt.list_str _ _ l1 hu0,EqAt.list_str _ _ l1 hu0⟩
     | @tup q ws es h1 h2 h3=>cases rv;obtain ⟨js,r2,l2⟩:=B3 hok h1;cases n <;> cases e <;> exact ⟨RcAt.list_tuple l1 l2 hu0,EqAt.list_tuple l1 l2 hu0⟩
     | @lst q ws es h1 h2 h3=>
       cases rv
       obtain ⟨js,r2,l2⟩:=BR hok h1
       cases n with
       | zero=>cases e
       | succ m=>
         have hs1:is.toArray.size=ds.length:=by rw [←g3.length,r1.length];simp
         have hs2:js.toArray.size=es.length:=by rw [←h3.length,r2.length];simp
         have e:(if ds.length=es.length then Co (eqN m) ds es else some false)=some b:=e
         by_cases hl:ds.length=es.length
         ·rw [if_pos hl] at e
          have hsz:is.toArray.size=js.toArray.size:=by rw [hs1,hs2,hl]
          have rc:=RcAt.lists l1 l2 hsz hu0 (items rfl r1 r2 g3 h3 e)
          have eb:(List.range is.toArray.size).all (ej (eqN m) ds es)=b:=by rw [(C8 e).1,hs1,←hl,Nat.min_self]
          rw [eb] at rc
          by_cases hpq:p=q
          ·refine ⟨rc,?_⟩
           subst hpq
           have:=Iv (m + 1) (Rep.lst g1 g2 g3) (Rep.lst h1 h2 h3) (by show (if ds.length=es.length then Co (eqN m) ds es else some false)=some b;rw [if_pos hl];exact e)
           rw [this]
           exact EqAt.same _
          ·exact conc hpq rc
         ·rw [if_neg hl] at e
          cases e
          have hsz:(is.toArray.size != js.toArray.size)=true:=by rw [hs1,hs2];simpa using hl
          refine conc (fun z=>hl ?_) (RcAt.lists_lengths l1 l2 hsz hu0)
          subst z
          rw [g1] at h1;cases h1
          rw [←g3.length,←h3.length]
     | _=>cases n <;> cases e
   | @tup p vs ds g1 g2 g3=>
     cases ru
     obtain ⟨is,r1,l1⟩:=B3 hok g1
     cases ry with
     | non=>cases rv;cases n <;> cases e <;> exact ⟨RcAt.tuple_none l1 hu0,EqAt.tuple_none l1 hu0⟩
     | bl k=>cases rv;cases n <;> cases e <;> exact ⟨RcAt.tuple_bool _ l1 hu0,EqAt.tuple_bool _ l1 hu0⟩
     | int k=>obtain ⟨t,rfl⟩:=rv;cases n <;> cases e <;> exact ⟨RcAt.tuple_int _ _ l1 hu0,EqAt.tuple_int _ _ l1 hu0⟩
     | str k=>obtain ⟨t,rfl⟩:=rv;cases n <;> cases e <;> exact ⟨RcAt.tuple_str _ _ l1 hu0,EqAt.tuple_str _ _ l1 hu0⟩
     | @lst q ws es h1 h2 h3=>cases rv;obtain ⟨js,r2,l2⟩:=BR hok h1;cases n <;> cases e <;> exact ⟨RcAt.tuple_list l1 l2 hu0,EqAt.tuple_list l1 l2 hu0⟩
     | @tup q ws es h1 h2 h3=>
       cases rv
       obtain ⟨js,r2,l2⟩:=B3 hok h1
       cases n with
       | zero=>cases e
       | succ m=>
         have hs1:is.toArray.size=ds.length:=by rw [←g3.length,r1.length];simp
         have hs2:js.toArray.size=es.length:=by rw [←h3.length,r2.length];simp
         have e0:=e
         have e:(Co (eqN m) ds es).map (fun b=>b && ds.length == es.length)=some b:=e
         obtain ⟨b',e1,e2⟩:=Option.map_eq_some_iff.mp e
         have rc:=RcAt.tuples l1 l2 hu0 (items rfl r1 r2 g3 h3 e1)
         have eb:((List.range (min is.toArray.size js.toArray.size)).all (ej (eqN m) ds es) && is.toArray.size == js.toArray.size)=b:=by rw [hs1,hs2,←(C8 e1).1];exact e2
         rw [eb] at rc
         by_cases hpq:p=q
         ·refine ⟨rc,?_⟩
          subst hpq
          have:=Iv (m + 1) (Rep.tup g1 g2 g3) (Rep.tup h1 h2 h3) e0
          rw [this]
          exact EqAt.same _
         ·exact conc hpq rc
     | _=>cases n <;> cases e
   | _=>cases ry <;> cases n <;> cases e
theorem Rf {P:Program} {w:World} {K:PySem.W.Frag} {c:Cf} {H:Hp} {s:Shared} (hok:HOk P w H s.heap) (n:Nat) {A:Around} {x y:V} {u v:Value} {dx dy:D} {b:Bool} (ru:RelV x u) (rv:RelV y v) (rx:Rep K c H x dx) (ry:Rep K c H y dy) (e:eqN n dx dy=some b) (hu:A.units + n < cLine) :
 RcNeAt A s u v (!b):=by
 have items:∀{m:Nat} {vs ws:List V} {is js:List Value} {ds es:List D} {b':Bool},n=m + 1→Vals vs is→Vals ws js→Reps K c H vs ds→Reps K c H ws es→Co (eqN m) ds es=some b'→
  ∀j (h1:j < is.toArray.size) (h2:j < js.toArray.size),EqAt A.in1 s is.toArray[j] js.toArray[j] (ej (eqN m) ds es j):=fun {m vs ws is js ds es b'} hm r1 r2 q1 q2 e' j h1 h2=>by
  obtain ⟨v1,a1,a2⟩:=Ie r1 h1
  obtain ⟨v2,b1,b2⟩:=Ie r2 h2
  obtain ⟨l1,g1⟩:=List.getElem?_eq_some_iff.mp a1
  obtain ⟨l2,g2⟩:=List.getElem?_eq_some_iff.mp b1
  have k1:ds[j]?=some (ds[j]'(by rw [←q1.length];exact l1)):=List.getElem?_eq_getElem _
  have k2:es[j]?=some (es[j]'(by rw [←q2.length];exact l2)):=List.getElem?_eq_getElem _
  obtain ⟨kk,ek⟩:=(C8 e').2 j _ _ k1 k2
  have:ej (eqN m) ds es j=kk:=by unfold ej;rw [k1,k2];simp [ek]
  rw [this]
  have hu':A.in1.units + m < cLine:=by
   have:A.in1.units=A.units + 1:=rfl
   lia
  exact (Iu hok m a2 b2 (q1.get a1 k1) (q2.get b1 k2) ek hu').2
 have hu0:A.units < cLine:=by lia
 cases rx with
 | non=>
   cases ru
   cases ry with
   | non=>cases rv;cases n <;> cases e <;> exact RcNeAt.none_none
   | bl k=>cases rv;cases n <;> cases e <;> exact RcNeAt.none_bool _
   | int k=>obtain ⟨t,rfl⟩:=rv;cases n <;> cases e <;> exact RcNeAt.none_int _ _
   | str k=>obtain ⟨t,rfl⟩:=rv;cases n <;> cases e <;> exact RcNeAt.none_str _ _
   | lst h1 h2 h3=>cases rv;obtain ⟨its,r,l⟩:=BR hok h1;cases n <;> cases e <;> exact RcNeAt.none_list l hu0
   | tup h1 h2 h3=>cases rv;obtain ⟨its,r,l⟩:=B3 hok h1;cases n <;> cases e <;> exact RcNeAt.none_tuple l hu0
   | _=>cases n <;> cases e
 | bl k'=>
   cases ru
   cases ry with
   | non=>cases rv;cases n <;> cases e <;> exact RcNeAt.bool_none _
   | bl k=>cases rv;cases n <;> cases e <;> exact RcNeAt.bool_bool _ _
   | int k=>obtain ⟨t,rfl⟩:=rv;cases n <;> cases e <;> exact RcNeAt.bool_int _ _ _
   | str k=>obtain ⟨t,rfl⟩:=rv;cases n <;> cases e <;> exact RcNeAt.bool_str _ _ _
   | lst h1 h2 h3=>cases rv;obtain ⟨its,r,l⟩:=BR hok h1;cases n <;> cases e <;> exact RcNeAt.bool_list _ l hu0
   | tup h1 h2 h3=>cases rv;obtain ⟨its,r,l⟩:=B3 hok h1;cases n <;> cases e <;> exact RcNeAt.bool_tuple _ l hu0
   | _=>cases n <;> cases e
 | int k'=>
   obtain ⟨t',rfl⟩:=ru
   cases ry with
   | non=>cases rv;cases n <;> cases e <;> exact RcNeAt.int_none _ _
   | bl k=>cases rv;cases n <;> cases e <;> exact RcNeAt.int_bool _ _ _
   | int k=>obtain ⟨t,rfl⟩:=rv;cases n <;> cases e <;> exact RcNeAt.int_int _ _ _ _
   | str k=>obtain ⟨t,rfl⟩:=rv;cases n <;> cases e <;> exact RcNeAt.int_str _ _ _ _
   | lst h1 h2 h3=>cases rv;obtain ⟨its,r,l⟩:=BR hok h1;cases n <;> cases e <;> exact RcNeAt.int_list _ _ l hu0
   | tup h1 h2 h3=>cases rv;obtain ⟨its,r,l⟩:=B3 hok h1;cases n <;> cases e <;> exact RcNeAt.int_tuple _ _ l hu0
   | _=>cases n <;> cases e
 | str k'=>
   obtain ⟨t',rfl⟩:=ru
   cases ry with
   | non=>cases rv;cases n <;> cases e <;> exact RcNeAt.str_none _ _
   | bl k=>cases rv;cases n <;> cases e <;> exact RcNeAt.str_bool _ _ _
   | int k=>obtain ⟨t,rfl⟩:=rv;cases n <;> cases e <;> exact RcNeAt.str_int _ _ _ _
   | str k=>obtain ⟨t,rfl⟩:=rv;cases n <;> cases e <;> exact RcNeAt.str_str _ _ _ _
   | lst h1 h2 h3=>cases rv;obtain ⟨its,r,l⟩:=BR hok h1;cases n <;> cases e <;> exact RcNeAt.str_list _ _ l hu0
   | tup h1 h2 h3=>cases rv;obtain ⟨its,r,l⟩:=B3 hok h1;cases n <;> cases e <;> exact RcNeAt.str_tuple _ _ l hu0
   | _=>cases n <;> cases e
 | @lst p vs ds g1 g2 g3=>
   cases ru
   obtain ⟨is,r1,l1⟩:=BR hok g1
   cases ry with
   | non=>cases rv;cases n <;> cases e <;> exact RcNeAt.list_none l1 hu0
   | bl k=>cases rv;cases n <;> cases e <;> exact RcNeAt.list_bool _ l1 hu0
   | int k=>obtain ⟨t,rfl⟩:=rv;cases n <;> cases e <;> exact RcNeAt.list_int _ _ l1 hu0
   | str k=>obtain ⟨t,rfl⟩:=rv;cases n <;> cases e <;> exact RcNeAt.list_str _ _ l1 hu0
   | @tup q ws es h1 h2 h3=>cases rv;obtain ⟨js,r2,l2⟩:=B3 hok h1;cases n <;> cases e <;> exact RcNeAt.list_tuple l1 l2 hu0
   | @lst q ws es h1 h2 h3=>
     cases rv
     obtain ⟨js,r2,l2⟩:=BR hok h1
     cases n with
     | zero=>cases e
     | succ m=>
       have hs1:is.toArray.size=ds.length:=by rw [←g3.length,r1.length];simp
       have hs2:js.toArray.size=es.length:=by rw [←h3.length,r2.length];simp
       have e:(if ds.length=es.length then Co (eqN m) ds es else some false)=some b:=e
       by_cases hl:ds.length=es.length
       ·rw [if_pos hl] at e
        have hsz:is.toArray.size=js.toArray.size:=by rw [hs1,hs2,hl]
        have rc:=RcNeAt.lists l1 l2 hsz hu0 (items rfl r1 r2 g3 h3 e)
        have eb:(List.range is.toArray.size).all (ej (eqN m) ds es)=b:=by rw [(C8 e).1,hs1,←hl,Nat.min_self]
        rw [eb] at rc
        exact rc
       ·rw [if_neg hl] at e
        cases e
        exact RcNeAt.lists_lengths l1 l2 (by rw [hs1,hs2];simpa using hl) hu0
   | _=>cases n <;> cases e
 | @tup p vs ds g1 g2 g3=>
   cases ru
   obtain ⟨is,r1,l1⟩:=B3 hok g1
   cases ry with
   | non=>cases rv;cases n <;> cases e <;> exact RcNeAt.tuple_none l1 hu0
   | bl k=>cases rv;cases n <;> cases e <;> exact RcNeAt.tuple_bool _ l1 hu0
   | int k=>obtain ⟨t,rfl⟩:=rv;cases n <;> cases e <;> exact RcNeAt.tuple_int _ _ l1 hu0
   | str k=>obtain ⟨t,rfl⟩:=rv;cases n <;> cases e <;> exact RcNeAt.tuple_str _ _ l1 hu0
   | @lst q ws es h1 h2 h3=>cases rv;obtain ⟨js,r2,l2⟩:=BR hok h1;cases n <;> cases e <;> exact RcNeAt.tuple_list l1 l2 hu0
   | @tup q ws es h1 h2 h3=>
     cases rv
     obtain ⟨js,r2,l2⟩:=B3 hok h1
     cases n with
     | zero=>cases e
     | succ m=>
       have hs1:is.toArray.size=ds.length:=by rw [←g3.length,r1.length];simp
       have hs2:js.toArray.size=es.length:=by rw [←h3.length,r2.length];simp
       have e:(Co (eqN m) ds es).map (fun b=>b && ds.length == es.length)=some b:=e
       obtain ⟨b',e1,e2⟩:=Option.map_eq_some_iff.mp e
       have rc:=RcNeAt.tuples l1 l2 hu0 (items rfl r1 r2 g3 h3 e1)
       have eb:((List.range (min is.toArray.size js.toArray.size)).all (ej (eqN m) ds es) && is.toArray.size == js.toArray.size)=b:=by rw [hs1,hs2,←(C8 e1).1];exact e2
       rw [eb] at rc
       exact rc
   | _=>cases n <;> cases e
 | _=>cases ry <;> cases n <;> cases e
def EQD:Nat:=40
def neD (x y:D):M D:=fun t=>(eqN EQD x y).map fun b=>(.bl (!b),t)
def PB (K:PySem.W.Frag) (g:Bool→Bool):R2:=fun x y H Q=>∃c dx dy b,Rep K c H x dx∧Rep K c H y dy∧eqN EQD dx dy=some b∧Q (.bl (g b)) H
theorem Bx {X:Cx} (hu:X.A.units + 64 < cLine):OpR X (compareOp .Eq) (PB X.K id):=by
 intro pins s σ H x y v u Q I rx ry h
 obtain ⟨c,dx,dy,b,q1,q2,e,q⟩:=h
 have hu':X.A.units + EQD < cLine:=by unfold EQD;lia
 exact (Iu I.hok EQD rx ry q1 q2 e hu').1 X.prog X.w _ _ ⟨.bl b,H,I,rfl,q⟩
theorem Dc {X:Cx} (hu:X.A.units + 64 < cLine):OpR X (compareOp .NotEq) (PB X.K (!·)):=by
 intro pins s σ H x y v u Q I rx ry h
 obtain ⟨c,dx,dy,b,q1,q2,e,q⟩:=h
 have hu':X.A.units + EQD < cLine:=by unfold EQD;lia
 exact Rf I.hok EQD rx ry q1 q2 e hu' X.prog X.w _ _ ⟨.bl (!b),H,I,rfl,q⟩
end F2
set_option maxHeartbeats 4000000
namespace F2
open PySem L2 PySem.Spec
section
variable {K:PySem.W.Frag}
def i2 (g:Int→Int→D):D→D→M D
 | .int i,.int j=>ret (g i j)
 | _,_=>fail
theorem SV {g:Int→Int→D} {x y:D} {t:T} {z:D×T} (h:i2 g x y t=some z):∃i j,x = .int i∧y = .int j∧z=(g i j,t):=by
 cases x with
 | int i=>cases y with
   | int j=>cases h;exact ⟨i,j,rfl,rfl,rfl⟩
   | _=>cases h
 | _=>cases h
theorem TY {gV:Int→Int→V} {g:Int→Int→D} (hr:∀i j c H,Rep K c H (gV i j) (g i j)):BJ K (rI0 gV) (i2 g):=fun {Oo c t σ H x y dx dy r t' Q} f rx ry eq k=>by
 obtain ⟨i,j,rfl,rfl,z⟩:=SV eq
 cases z
 cases rx
 cases ry
 exact ⟨i,j,rfl,rfl,k _ H c f .refl (hr i j c H)⟩
def i2C (C:Int→Int→Bool) (g:Int→Int→D):D→D→M D
 | .int i,.int j=>fun t=>if C i j=true then some (g i j,t) else none
 | _,_=>fail
theorem Q4 {C:Int→Int→Bool} {g:Int→Int→D} {x y:D} {t:T} {z:D×T} (h:i2C C g x y t=some z):∃i j,x = .int i∧y = .int j∧C i j=true∧z=(g i j,t):=by
 cases x with
 | int i=>cases y with
   | int j=>
     unfold i2C at h
     dsimp only at h
     by_cases hc:C i j=true
     ·rw [if_pos hc] at h;cases h;exact ⟨i,j,rfl,rfl,hc,rfl⟩
     ·rw [if_neg hc] at h;cases h
   | _=>cases h
 | _=>cases h
theorem FB {P:Int→Int→Prop} {C:Int→Int→Bool} {gV:Int→Int→V} {g:Int→Int→D} (hP:∀i j,C i j=true→P i j) (hr:∀i j c H,Rep K c H (gV i j) (g i j)):BJ K (rI P gV) (i2C C g):=fun {Oo c t σ H x y dx dy r t' Q} f rx ry eq k=>by
 obtain ⟨i,j,rfl,rfl,hc,z⟩:=Q4 eq
 cases z
 cases rx
 cases ry
 exact ⟨i,j,rfl,rfl,hP i j hc,k _ H c f .refl (hr i j c H)⟩
def Ce:=i2 fun i j=>.int (i - j)
def J4 (_ j:Int):Bool:=decide (0 < j) && decide (j < 1073741824)
def HA:=i2C J4 fun i j=>.int (i / j)
def FU:=i2C (fun _ j=>decide (0 < j)) fun i j=>.int (i % j)
def J9 (i j:Int):Bool:=decide (0≤j) && decide (j≤1000000) && decide (i.natAbs < 2 ^ 64)
def DH:=i2C J9 fun i j=>.int (i ^ j.toNat)
def FV (i j:Int):Bool:=(decide (-(2 ^ 64) < i) && decide (i < 2 ^ 64)) || (decide (-(2 ^ 64) < j) && decide (j < 2 ^ 64))
theorem BM:BJ K (rI0 fun i j=>.int (i - j)) Ce:=TY fun i j _ _=>.int _
theorem PK:BJ K (rI Sr fun i j=>.int (i / j)) HA:=FB (fun i j h=>by
 unfold J4 at h;rw [Bool.and_eq_true] at h;exact ⟨of_decide_eq_true h.1,of_decide_eq_true h.2⟩) fun i j _ _=>.int _
theorem FD:BJ K (rI (fun _ j=>0 < j) fun i j=>.int (i % j)) FU:=FB (fun i j h=>of_decide_eq_true h) fun i j _ _=>.int _
theorem Ci:BJ K (rI Ss fun i j=>.int (i ^ j.toNat)) DH:=FB (fun i j h=>by
 unfold J9 at h;rw [Bool.and_eq_true,Bool.and_eq_true] at h;exact ⟨of_decide_eq_true h.1.1,of_decide_eq_true h.1.2,of_decide_eq_true h.2⟩) fun i j _ _=>.int _
theorem N0 {i j:Int} (h:FV i j=true):CMul i j:=by
 unfold FV at h
 rw [Bool.or_eq_true,Bool.and_eq_true,Bool.and_eq_true] at h
 rcases h with h | h
 ·exact .inl ⟨of_decide_eq_true h.1,of_decide_eq_true h.2⟩
 ·exact .inr ⟨of_decide_eq_true h.1,of_decide_eq_true h.2⟩
def MZ:D→M D
 | .int i=>ret (.int (-i))
 | _=>fail
theorem R6:Sy K (rU fun i=>.int (-i)) MZ:=fun {Oo c t σ H x dx r t' Q} f rx eq k=>by
 cases rx with
 | int i=>cases eq;exact ⟨i,rfl,k _ H c f .refl (.int _)⟩
 | _=>cases eq
def OL:D→D→M D
 | .int i,.int j=>ret (.int (i + j))
 | .str x,.str y=>lim (x.length + y.length) (.str (x++y))
 | .lst xs,.lst ys=>lim (xs.length + ys.length) (.lst (xs++ys))
 | .tup xs,.tup ys=>fun t=>if xs.isEmpty=false∧xs.length + ys.length≤LIM then some (.tup (xs++ys),t) else none
 | _,_=>fail
def RY:R2:=fun x y H Q=>∃i j,x = .str i∧y = .str j∧i.length + j.length≤sizeLine∧Q (.str (i++j)) H
def M7 (K:PySem.W.Frag):R2:=fun x y H Q=>rI0 (fun i j=>.int (i + j)) x y H Q∨(RY x y H Q∨(Pz x y H Q∨Ql K x y H Q))
theorem op_add4 {X:Cx}:OpR X (binaryOp .Add) (M7 X.K):=op_add.or (op_add_str.or (op_cat.or Rl))
theorem R1:BJ K (M7 K) OL:=fun {Oo c t σ H x y dx dy r t' Q} f rx ry eq k=>by
 cases rx with
 | int i=>
   cases ry with
   | int j=>cases eq;exact .inl ⟨i,j,rfl,rfl,k _ H c f .refl (.int _)⟩
   | _=>cases eq
 | str i=>
   cases ry with
   | str j=>
     obtain ⟨h,z⟩:=DG eq
     cases z
     exact .inr (.inl ⟨i,j,rfl,rfl,Nat.le_trans h Cr,k _ H c f .refl (.str _)⟩)
   | _=>cases eq
 | @lst a vs ds h1 h2 h3=>
   cases ry with
   | @lst b ws es g1 g2 g3=>
     obtain ⟨h,z⟩:=DG eq
     cases z
     refine .inr (.inr (.inl ⟨a,b,vs,ws,rfl,rfl,h1,g1,?_,fun p hp=>?_⟩))
     ·rw [h3.length,g3.length];exact Nat.le_trans h Cr
     ·exact k _ _ c (f.laid hp) (f.stp_laid hp) (.lst AW (f.s.free hp) ((h3.append g3).mono (Ext.laid f.s hp)))
   | _=>cases eq
 | @tup a vs ds h1 h2 h3=>
   cases ry with
   | @tup b ws es g1 g2 g3=>
     unfold OL at eq
     dsimp only at eq
     split at eq
     ·next h=>
      cases eq
      have hne:vs≠[]:=fun z=>by
       have:=h3.length
       rw [z] at this
       have h0:ds.length=0:=this.symm
       have:ds=[]:=List.length_eq_zero_iff.mp h0
       rw [this] at h
       simp at h
      refine .inr (.inr (.inr ⟨a,b,vs,ws,rfl,rfl,SqT.of h1,SqT.of g1,hne,?_,fun z=>?_,fun z p hp=>?_⟩))
      ·rw [h3.length,g3.length];exact Nat.le_trans h.2 Cr
      ·subst z
       have:es=[]:=List.length_eq_zero_iff.mp g3.length.symm
       subst this
       rw [List.append_nil] at k
       exact k _ H c f .refl (.tup h1 h2 h3)
      ·exact k _ _ c (f.laid hp) (f.stp_laid hp) (.tup AW (f.s.free hp) ((h3.append g3).mono (Ext.laid f.s hp)))
     ·cases eq
   | _=>cases eq
 | _=>cases eq
def Im:D→D→M (List D)
 | .lst xs,.lst ys=>lim (xs.length + ys.length) (xs++ys)
 | _,_=>fail
theorem PJ:MB K Pz Im:=fun {Oo c t σ H x y dx dy r t' Q} f rx ry eq k=>by
 cases rx with
 | @lst a vs ds h1 h2 h3=>
   cases ry with
   | @lst b ws es g1 g2 g3=>
     obtain ⟨h,z⟩:=DG eq
     cases z
     refine ⟨a,b,vs,ws,rfl,rfl,h1,g1,?_,fun p hp=>k p _ H c f .refl (h3.append g3) hp⟩
     rw [h3.length,g3.length];exact Nat.le_trans h Cr
   | _=>cases eq
 | _=>cases eq
def isC:D→D→M D
 | x,.non=>fun t=>some (.bl (match x with | .non=>true | _=>false),t)
 | x,.bl b=>fun t=>some (.bl (match x with | .bl c=>c == b | _=>false),t)
 | _,_=>fail
def NP (x y:D):M D:=bnd (isC x y) fun d=>match d with | .bl b=>ret (.bl (!b)) | _=>fail
def rIs (g:Bool→Bool):R2:=fun x y H Q=>(y = .non∨∃b,y = .bl b)∧Q (.bl (g (decide (x=y)))) H
theorem QJ {x y:V} {v u:Value} (rx:RelV x v) (ry:RelV y u) (hy:y = .non∨∃b,y = .bl b):plainIs v u=true∧(v == u)=decide (x=y):=by
 rcases hy with rfl | ⟨b,rfl⟩
 ·cases ry
  cases x with
  | non=>cases rx;exact ⟨rfl,by simp⟩
  | bl _=>cases rx;exact ⟨rfl,by simp⟩
  | int _=>obtain ⟨t,rfl⟩:=rx;exact ⟨rfl,by simp⟩
  | str _=>obtain ⟨t,rfl⟩:=rx;exact ⟨rfl,by simp⟩
  | byt _=>obtain ⟨t,rfl⟩:=rx;exact ⟨rfl,by simp⟩
  | flt _=>obtain ⟨t,rfl⟩:=rx;exact ⟨rfl,by simp⟩
  | ref _=>cases rx;exact ⟨rfl,by simp⟩
  | ty _=>cases rx;exact ⟨rfl,by simp⟩
 ·cases ry
  cases x with
  | non=>cases rx;exact ⟨rfl,by simp⟩
  | bl c=>cases rx;exact ⟨rfl,by simp;cases c <;> cases b <;> rfl⟩
  | int _=>obtain ⟨t,rfl⟩:=rx;exact ⟨rfl,by simp⟩
  | str _=>obtain ⟨t,rfl⟩:=rx;exact ⟨rfl,by simp⟩
  | byt _=>obtain ⟨t,rfl⟩:=rx;exact ⟨rfl,by simp⟩
  | flt _=>obtain ⟨t,rfl⟩:=rx;exact ⟨rfl,by simp⟩
  | ref _=>cases rx;exact ⟨rfl,by simp⟩
  | ty _=>cases rx;exact ⟨rfl,by simp⟩
theorem K2 {X:Cx}:OpR X (compareOp .Is) (rIs id):=by
 intro pins s σ H x y v u Q I rx ry h
 obtain ⟨hy,q⟩:=h
 obtain ⟨h1,h2⟩:=QJ rx ry hy
 exact wpAny_is_plain h1 ⟨.bl _,H,I,by rw [h2];rfl,q⟩
theorem Q6 {c:Cf} {H:Hp} {x y:V} {dx dy:D} {t:T} {z:D×T} (rx:Rep K c H x dx) (ry:Rep K c H y dy) (eq:isC dx dy t=some z):(y = .non∨∃b,y = .bl b)∧z=(.bl (decide (x=y)),t):=by
 cases ry with
 | non=>
   refine ⟨.inl rfl,?_⟩
   cases rx <;> (cases eq;simp)
 | bl b=>
   refine ⟨.inr ⟨b,rfl⟩,?_⟩
   cases rx <;> (cases eq;simp)
   next a=>cases a <;> cases b <;> rfl
 | _=>cases eq
theorem Ld:BJ K (rIs id) isC:=fun {Oo c t σ H x y dx dy r t' Q} f rx ry eq k=>by
 obtain ⟨h,z⟩:=Q6 rx ry eq
 cases z
 exact ⟨h,k _ H c f .refl (.bl _)⟩
def Fb:D→Bool
 | .non=>true | .bl _=>true | .int _=>true | .str _=>true | _=>false
def M9:D→Option (List D)
 | .lst ds=>some ds
 | .tup ds=>some ds
 | _=>none
def toV:D→V
 | .bl b=>.bl b | .int i=>.int i | .str x=>.str x | _=>.non
theorem FA {c:Cf} {H:Hp} {v:V} {d:D} (r:Rep K c H v d) (h:Fb d=true):v=toV d:=by cases r <;> first | rfl | cases h
theorem E1 {c:Cf} {H:Hp}:∀{vs:List V} {ds:List D},Reps K c H vs ds→ds.all Fb=true→vs=ds.map toV
 | _,_,.nil,_=>rfl
 | _,_,.cons r t,h=>by
   rw [List.all_cons,Bool.and_eq_true] at h
   rw [List.map_cons,FA r h.1,E1 t h.2]
theorem FR:∀d:D,EC (toV d)=true:=fun d=>by cases d <;> rfl
def inD (neg:Bool) (x y:D):M D:=fun t=>match M9 y with
 | some ds=>if Fb x=true∧ds.all Fb=true then some (.bl (if neg then !inV (toV x) (ds.map toV) else inV (toV x) (ds.map toV)),t) else none
 | none=>none
theorem TZ {neg:Bool}:BJ K (rIn K neg) (inD neg):=fun {Oo c t σ H x y dx dy r t' Q} f rx ry eq k=>by
 unfold inD at eq
 cases ry with
 | @lst a vs ds h1 h2 h3=>
   dsimp only [M9] at eq
   split at eq
   ·next h=>
    cases eq
    refine ⟨a,vs,rfl,.inl (SqL.of h1),?_,?_,?_⟩
    ·rw [FA rx h.1];exact FR _
    ·rw [E1 h3 h.2,List.all_map,List.all_eq_true];exact fun d _=>FR d
    ·rw [FA rx h.1,E1 h3 h.2];exact k _ H c f .refl (.bl _)
   ·cases eq
 | @tup a vs ds h1 h2 h3=>
   dsimp only [M9] at eq
   split at eq
   ·next h=>
    cases eq
    refine ⟨a,vs,rfl,.inr (SqT.of h1),?_,?_,?_⟩
    ·rw [FA rx h.1];exact FR _
    ·rw [E1 h3 h.2,List.all_map,List.all_eq_true];exact fun d _=>FR d
    ·rw [FA rx h.1,E1 h3 h.2];exact k _ H c f .refl (.bl _)
   ·cases eq
 | _=>cases eq
def ixD:D→D→M D
 | .lst ds,.int i=>fun t=>(atI ds i).map fun d=>(d,t)
 | .tup ds,.int i=>fun t=>(atI ds i).map fun d=>(d,t)
 | .scr ns,.int i=>fun t=>(atI ns i).map fun n=>(.int n,t)
 | .str x,.int i=>fun t=>if x.length≤LIM then (atI x.cps.toList i).map fun n=>(.str ⟨#[n]⟩,t) else none
 | .obj k,.int i=>fun t=>match t.S[k]? with
   | some (.lst ds)=>(atI ds i).map fun d=>(d,t)
   | _=>none
 | _,_=>fail
theorem G4 {c:Cf} {H:Hp} {vs:List V} {ds:List D} {i:Int} {d:D} (r:Reps K c H vs ds) (h:atI ds i=some d):∃v,atI vs i=some v∧Rep K c H v d:=by
 unfold atI at h ⊢
 obtain ⟨j,h1,h2⟩:=Option.bind_eq_some_iff.mp h
 obtain ⟨v,h3,h4⟩:=r.at h2
 exact ⟨v,by rw [r.length,h1];exact h3,h4⟩
theorem QG {α β:Type} (g:α→β) (xs:List α) (i:Int):atI (xs.map g) i=(atI xs i).map g:=by
 unfold atI
 rw [List.length_map]
 cases ixN xs.length i with
 | none=>rfl
 | some j=>simp
theorem Au:BJ K (rIx K) ixD:=fun {Oo c t σ H x y dx dy r t' Q} f rx ry eq k=>by
 cases ry with
 | int i=>
   cases rx with
   | @lst a vs ds h1 h2 h3=>
     obtain ⟨d,e1,e2⟩:=Option.map_eq_some_iff.mp eq
     cases e2
     obtain ⟨v,e3,e4⟩:=G4 h3 e1
     exact .inl ⟨a,vs,i,v,rfl,rfl,SqL.of h1,e3,k _ H c f .refl e4⟩
   | @tup a vs ds h1 h2 h3=>
     obtain ⟨d,e1,e2⟩:=Option.map_eq_some_iff.mp eq
     cases e2
     obtain ⟨v,e3,e4⟩:=G4 h3 e1
     exact .inr (.inl ⟨a,vs,i,v,rfl,rfl,SqT.of h1,e3,k _ H c f .refl e4⟩)
   | @scr a ns h1=>
     obtain ⟨n,e1,e2⟩:=Option.map_eq_some_iff.mp eq
     cases e2
     exact .inl ⟨a,_,i,.int n,rfl,rfl,h1.sq,by rw [QG,e1];rfl,k _ H c f .refl (.int n)⟩
   | str z=>
     unfold ixD at eq
     dsimp only at eq
     split at eq
     ·next hl=>
      obtain ⟨n,e1,e2⟩:=Option.map_eq_some_iff.mp eq
      cases e2
      exact .inr (.inr ⟨z,i,n,rfl,rfl,Nat.le_trans hl Cr,e1,k _ H c f .refl (.str _)⟩)
     ·cases eq
   | @obj a kk h1=>
     unfold ixD at eq
     dsimp only at eq
     cases es:t.S[kk]? with
     | none=>rw [es] at eq;cases eq
     | some o=>
       rw [es] at eq
       cases o with
       | dct _ | ins _ _ | tab _ _ _ _ | fn _ _=>cases eq
       | lst ds=>
         obtain ⟨d,e1,e2⟩:=Option.map_eq_some_iff.mp eq
         cases e2
         obtain ⟨vs,g1,g2⟩:=f.s.obs kk a _ h1 es
         obtain ⟨v,e3,e4⟩:=G4 g2 e1
         exact .inl ⟨a,vs,i,v,rfl,rfl,SqL.of g1,e3,k _ H c f .refl e4⟩
   | _=>cases eq
 | _=>cases rx <;> cases eq
end
section
variable {X:Cx} {e a b:Expr} {es:List Expr} {pos:Pos}
inductive RO (K:PySem.W.Frag) (f:M (Option Int)) (σ:L2.St) (H:Hp) (Q:Option Int→Hp→Prop):Prop where
 | mk (Oo:Addr→Prop) (c:Cf) (t:T) (fi:FInv K Oo c t σ H) (r:Option Int) (t':T) (e:f t=some (r,t')) (k:∀H' c',FInv K Oo c' t' σ H'→Stp Oo c H c' H'→Q r H'):RO K f σ H Q
theorem Nm {oe:Option Expr} {t t':TO} (h:PO X oe t) (i:∀σ H Q,t' σ H Q→t σ H Q):PO X oe t':=fun pins s σ H Q I q=>h pins s σ H Q I (i σ H Q q)
def fNo:M (Option Int):=ret none
def asI:D→M (Option Int)
 | .int i=>ret (some i)
 | _=>fail
def Ck (f:M D):M (Option Int):=bnd f asI
theorem QX:PO X none (RO X.K fNo):=Nm RC fun σ H Q ⟨Oo,c,t,fi,r,t',eq,k⟩=>by
 cases eq
 exact k H c fi .refl
theorem Dd {f:M D} (h:PE X e (RE X.K f)):PO X (some e) (RO X.K (Ck f)):=Nm (RD h) fun σ H Q ⟨Oo,c,t,fi,r,t',eq,k⟩=>by
 obtain ⟨d,t1,e1,eq⟩:=Ao eq
 refine ⟨Oo,c,t,fi,d,t1,e1,fun v H1 c1 f1 s1 rv=>?_⟩
 cases rv with
 | int i=>cases eq;exact ⟨i,rfl,k H1 c1 f1 s1⟩
 | _=>cases eq
def OI (K:PySem.W.Frag) (R:V→Option Int→Option Int→Hp→VK→Prop) (h:D→Option Int→Option Int→M D):Prop:=∀{Oo:Addr→Prop} {c:Cf} {t:T} {σ:L2.St} {H:Hp} {x:V} {dx r:D} {lo hi:Option Int} {t':T} {Q:VK},FInv K Oo c t σ H→Rep K c H x dx→h dx lo hi t=some (r,t')→
 (∀v H' c',FInv K Oo c' t' σ H'→Stp Oo c H c' H'→Rep K c' H' v r→Q v H')→R x lo hi H Q
def fSl (f:M D) (l u:M (Option Int)) (h:D→Option Int→Option Int→M D):M D:=bnd f fun x=>bnd l fun lo=>bnd u fun hi=>h x lo hi
theorem ER {R:V→Option Int→Option Int→Hp→VK→Prop} {h:D→Option Int→Option Int→M D} {f:M D} {l u:M (Option Int)} {lo hi:Option Expr} {p2:Pos} (hr:SlR X R) (s:OI X.K R h) (he:PE X e (RE X.K f)) (hl:PO X lo (RO X.K l)) (hu:PO X hi (RO X.K u)):PE X (.Subscript e (.Slice lo hi none p2) pos) (RE X.K (fSl f l u h)):=
 Bv (Pk hr he hl hu) fun σ H Q ⟨Oo,c,t,fi,r,t',eq,k⟩=>by
  obtain ⟨d,t1,e1,eq⟩:=Ao eq
  obtain ⟨ol,t2,e2,eq⟩:=Ao eq
  obtain ⟨oh,t3,e3,eq⟩:=Ao eq
  exact ⟨Oo,c,t,fi,d,t1,e1,fun v H1 c1 f1 s1 rv=>⟨Oo,c1,t1,f1,ol,t2,e2,fun H2 c2 f2 s2=>⟨Oo,c2,t2,f2,oh,t3,e3,fun H3 c3 f3 s3=>
   s f3 (rv.mono (s2.trans s3).ext) eq fun v H' c' f' s' rv'=>k v H' c' f' (((s1.trans s2).trans s3).trans s') rv'⟩⟩⟩
def cutD {α:Type} (xs:List α) (lo hi:Option Int):List α:=(xs.drop (HT.sIx xs.length 0 lo)).take (HT.sIx xs.length xs.length hi - HT.sIx xs.length 0 lo)
def slD:D→Option Int→Option Int→M D
 | .lst ds,lo,hi=>ret (.lst (cutD ds lo hi))
 | .scr ns,lo,hi=>ret (.lst ((cutD ns lo hi).map .int))
 | .tup ds,lo,hi=>fun t=>if HT.sIx ds.length 0 lo=0∧HT.sIx ds.length ds.length hi=ds.length then none else some (.tup (cutD ds lo hi),t)
 | _,_,_=>fail
theorem Hj {K:PySem.W.Frag} {c:Cf} {H:Hp} {vs:List V} {ds:List D} (r:Reps K c H vs ds) (lo hi:Option Int):Reps K c H (FO vs lo hi) (cutD ds lo hi):=by
 unfold FO cutD
 rw [r.length]
 exact (r.drop _).take _
theorem OQ {α β:Type} (g:α→β) (xs:List α) (lo hi:Option Int):cutD (xs.map g) lo hi=(cutD xs lo hi).map g:=by
 unfold cutD
 rw [List.length_map,List.map_take,List.map_drop]
theorem Ny (ns:List Int) (lo hi:Option Int):FO (ns.map V.int) lo hi=(cutD ns lo hi).map V.int:=OQ V.int ns lo hi
def PD (K:PySem.W.Frag):V→Option Int→Option Int→Hp→VK→Prop:=fun x lo hi H Q=>TN K x lo hi H Q∨TR K x lo hi H Q
theorem sl2:SlR X (PD X.K):=sl_list.or T3
theorem T0 {K:PySem.W.Frag}:OI K (PD K) slD:=fun {Oo c t σ H x dx r lo hi t' Q} f rx eq k=>by
 cases rx with
 | @lst p vs ds h1 h2 h3=>
   cases eq
   exact .inl ⟨p,vs,rfl,SqL.of h1,fun q hq=>k _ _ c (f.laid hq) (f.stp_laid hq) (.lst AW (f.s.free hq) ((Hj h3 lo hi).mono (Ext.laid f.s hq)))⟩
 | @scr p ns h1=>
   cases eq
   refine .inl ⟨p,_,rfl,h1.sq,fun q hq=>k _ _ c (f.laid hq) (f.stp_laid hq) (.lst AW (f.s.free hq) ?_)⟩
   rw [Ny]
   exact Reps.ints _
 | @tup p vs ds h1 h2 h3=>
   unfold slD at eq
   dsimp only at eq
   split at eq
   ·cases eq
   ·next hn=>
    cases eq
    exact .inr ⟨p,vs,rfl,SqT.of h1,by rw [h3.length];exact hn,fun q hq=>k _ _ c (f.laid hq) (f.stp_laid hq) (.tup AW (f.s.free hq) ((Hj h3 lo hi).mono (Ext.laid f.s hq)))⟩
 | _=>cases eq
theorem VG {id:String} {R:List V→Hp→VK→Prop} {h:List D→M D} {f:M (List D)} {x:Str} {p:Pos} (hc:Cb X (.builtin id) R) (s:DF X.K R h) (hg:Gl X x) (hm:X.mg x=none) (hv:bootBuiltins x=some (.builtin id)) (ha:PA X (e :: es) (RA X.K f)) (hn:x≠"__name__":=by decide) (hdb:(x == ("__debug__" : Str))=false:=by decide)
 (he:starEach (e :: es) X.env=(false,eval e X.env) :: starEach es X.env:=by rfl) (hpl:(backTo pos (starEach es X.env)).any (·.1)=false:=by rfl):PE X (.Call (.Name x p) (e :: es) [] pos) (RE X.K (fB f h)):=
 Bv (Pg hc hg hm hv ha hn hdb he hpl) fun _ _ _ q=>RE.callB s q
theorem VH {id:String} {R:List V→Hp→VK→Prop} {h:List D→M D} {f:M (List D)} {x:Str} {p:Pos} (hc:Cb X (.type id) R) (s:DF X.K R h) (hg:Gl X x) (hm:X.mg x=none) (hv:bootBuiltins x=some (.type id)) (ha:PA X (e :: es) (RA X.K f)) (hn:x≠"__name__":=by decide) (hdb:(x == ("__debug__" : Str))=false:=by decide)
 (he:starEach (e :: es) X.env=(false,eval e X.env) :: starEach es X.env:=by rfl) (hpl:(backTo pos (starEach es X.env)).any (·.1)=false:=by rfl):PE X (.Call (.Name x p) (e :: es) [] pos) (RE X.K (fB f h)):=
 Bv (Ju hc hg hm hv ha hn hdb he hpl) fun _ _ _ q=>RE.callB s q
theorem VI {id:String} {R:List V→Hp→VK→Prop} {h:List D→M (List D)} {f:M (List D)} {x:Str} {p:Pos} (hc:Cb X (.type id) R) (s:J1 X.K R h) (hg:Gl X x) (hm:X.mg x=none) (hv:bootBuiltins x=some (.type id)) (ha:PA X (e :: es) (RA X.K f)) (hn:x≠"__name__":=by decide) (hdb:(x == ("__debug__" : Str))=false:=by decide)
 (he:starEach (e :: es) X.env=(false,eval e X.env) :: starEach es X.env:=by rfl) (hpl:(backTo pos (starEach es X.env)).any (·.1)=false:=by rfl):PE X (.Call (.Name x p) (e :: es) [] pos) (RF X.K (fBF f h)):=
 Bv (Ju hc hg hm hv ha hn hdb he hpl) fun _ _ _ q=>RF.callB s q
theorem Ut {op:Operator} {R:R2} {f g:M D} {h:D→D→M (List D)} (ho:OpR X (binaryOp op) R) (s:MB X.K R h) (ha:PE X a (RE X.K f)) (hb:PE X b (RE X.K g)):PE X (.BinOp a op b pos) (RF X.K (bnd f fun x=>bnd g fun y=>h x y)):=
 Bv (Qh ho ha hb) fun _ _ _ q=>RF.two s q
end
section
variable {K:PySem.W.Frag}
theorem DC {c:Cf} {H:Hp} {xs:List V} {d:D} (r:Reps K c H xs [d]):∃v,xs=[v]∧Rep K c H v d:=by
 cases r with
 | cons r rs=>cases rs;exact ⟨_,rfl,r⟩
theorem HW {c:Cf} {H:Hp} {xs:List V} {d e:D} (r:Reps K c H xs [d,e]):∃v u,xs=[v,u]∧Rep K c H v d∧Rep K c H u e:=by
 cases r with
 | cons r rs=>
   obtain ⟨u,rfl,q⟩:=DC rs
   exact ⟨_,u,rfl,r,q⟩
def BK:List D→M D
 | [.lst ds]=>ret (.int ds.length)
 | [.tup ds]=>ret (.int ds.length)
 | [.scr ns]=>ret (.int ns.length)
 | [.str x]=>lim x.length (.int x.length)
 | [.obj k]=>fun t=>match t.S[k]? with
   | some (.lst ds)=>some (.int ds.length,t)
   | _=>none
 | _=>fail
theorem BQ:DF K (fun xs H Q=>∃x n,xs=[x]∧Sv K x H n∧Q (.int n) H) BK:=fun {Oo c t σ H xs ds r t' Q} f rx eq k=>by
 match ds,rx,eq with
 | [],_,eq=>cases eq
 | d0 :: _ :: _,_,eq=>cases d0 <;> cases eq
 | [d],rx,eq=>
   obtain ⟨v,rfl,rv⟩:=DC rx
   cases rv with
   | @lst a vs ds h1 h2 h3=>cases eq;exact ⟨_,ds.length,rfl,.inl ⟨vs,SqL.of h1,h3.length.symm⟩,k _ H c f .refl (.int _)⟩
   | @tup a vs ds h1 h2 h3=>cases eq;exact ⟨_,ds.length,rfl,.inr ⟨vs,SqT.of h1,h3.length.symm⟩,k _ H c f .refl (.int _)⟩
   | @scr a ns h1=>cases eq;exact ⟨_,ns.length,rfl,.inl ⟨_,h1.sq,by simp⟩,k _ H c f .refl (.int _)⟩
   | str x=>
     obtain ⟨hl,z⟩:=DG eq
     cases z
     exact ⟨_,x.length,rfl,⟨Nat.le_trans hl Cr,rfl⟩,k _ H c f .refl (.int _)⟩
   | @obj a kk h1=>
     unfold BK at eq
     dsimp only at eq
     cases es:t.S[kk]? with
     | none=>rw [es] at eq;cases eq
     | some o=>
       rw [es] at eq
       cases o with
       | dct _ | ins _ _ | tab _ _ _ _ | fn _ _=>cases eq
       | lst ds=>
         cases eq
         obtain ⟨vs,g1,g2⟩:=f.s.obs kk a _ h1 es
         exact ⟨_,ds.length,rfl,.inl ⟨vs,SqL.of g1,g2.length.symm⟩,k _ H c f .refl (.int _)⟩
   | _=>cases eq
def tyD:D→Option String
 | .non=>some "NoneType"
 | .bl _=>some "bool"
 | .int _=>some "int"
 | .str _=>some "str"
 | .lst _=>some "list"
 | .tup _=>some "tuple"
 | .dic=>some "dict"
 | _=>none
def CY (n m:String):Option Bool:=match m with
 | "int"=>some (n == "int" || n == "bool")
 | "bool"=>some (n == "bool")
 | "str"=>some (n == "str")
 | "list"=>some (n == "list")
 | "tuple"=>some (n == "tuple")
 | "dict"=>some (n == "dict")
 | _=>none
def CV:List D→M D
 | [d,.ty m]=>fun t=>match tyD d with
   | some n=>(CY n m).map fun b=>(.bl b,t)
   | none=>none
 | _=>fail
theorem GQ {d:D} {n m:String} {b:Bool} (h1:tyD d=some n) (h2:CY n m=some b):PySem.W.kitOne K (.type n) (.type m)=some b:=by
 have hm:m = "int"∨m = "bool"∨m = "str"∨m = "list"∨m = "tuple"∨m = "dict":=by
  unfold CY at h2
  split at h2 <;> simp_all
 have hn:n = "NoneType"∨n = "bool"∨n = "int"∨n = "str"∨n = "list"∨n = "tuple"∨n = "dict":=by
  cases d <;> simp [tyD] at h1 <;> simp [←h1]
 rcases hm with rfl | rfl | rfl | rfl | rfl | rfl <;> rcases hn with rfl | rfl | rfl | rfl | rfl | rfl | rfl <;> (cases h2;rfl)
def PC (K:PySem.W.Frag):List V→Hp→VK→Prop:=fun xs H Q=>∃x n t b,xs=[x,.ty n]∧TyOf K H x t∧PySem.W.kitOne K t (.type n)=some b∧Q (.bl b) H
theorem By {X:Cx}:Cb X (.builtin "isinstance") (PC X.K):=by
 intro pins s σ H xs us Q I r h
 obtain ⟨x,n,t,b,rfl,ty,e,q⟩:=h
 obtain ⟨u,w',rfl,rx,rt⟩:=GY r
 cases rt
 exact wpAny_with_toks (Nat.le_refl s.toks) (NQ I rx ty e fun tk ht=>⟨.bl b,H,I.tok tk,rfl,q⟩)
theorem CU:DF K (PC K) CV:=fun {Oo c t σ H xs ds r t' Q} f rx eq k=>by
 unfold CV at eq
 split at eq
 ·next d m=>
  obtain ⟨v,u,rfl,rv,ru⟩:=HW rx
  cases ru
  cases et:tyD d with
  | none=>rw [et] at eq;cases eq
  | some n=>
    rw [et] at eq
    obtain ⟨b,e1,e2⟩:=Option.map_eq_some_iff.mp eq
    cases e2
    refine ⟨v,m,.type n,b,rfl,?_,GQ et e1,k _ H c f .refl (.bl b)⟩
    cases rv <;> first | (cases et;first | exact .non | exact .bl _ | exact .int _ | exact .str _ | exact .lst ‹_› | exact .tup ‹_› | exact .dK ‹_›) | cases et
 ·cases eq
def Je:List D→M D
 | [.lst ds]=>ret (.tup ds)
 | [.tup ds]=>ret (.tup ds)
 | [.obj k]=>fun t=>match t.S[k]? with
   | some (.lst ds)=>some (.tup ds,t)
   | _=>none
 | _=>fail
theorem Mr:DF K (fun xs H Q=>∃p ys,xs=[.ref p]∧((SqL K H p ys∧∀l,H l=none→Q (.ref l) (upd H l (.tup ys)))∨(SqT K H p ys∧Q (.ref p) H))) Je:=fun {Oo c t σ H xs ds r t' Q} f rx eq k=>by
 match ds,rx,eq with
 | [],_,eq=>cases eq
 | d0 :: _ :: _,_,eq=>cases d0 <;> cases eq
 | [d],rx,eq=>
   obtain ⟨v,rfl,rv⟩:=DC rx
   cases rv with
   | @lst a vs ds h1 h2 h3=>cases eq;exact ⟨a,vs,rfl,.inl ⟨SqL.of h1,fun q hq=>k _ _ c (f.laid hq) (f.stp_laid hq) (.tup AW (f.s.free hq) (h3.mono (Ext.laid f.s hq)))⟩⟩
   | @tup a vs ds h1 h2 h3=>cases eq;exact ⟨a,vs,rfl,.inr ⟨SqT.of h1,k _ H c f .refl (.tup h1 h2 h3)⟩⟩
   | @obj a kk h1=>
     unfold Je at eq
     dsimp only at eq
     cases es:t.S[kk]? with
     | none=>rw [es] at eq;cases eq
     | some o=>
       rw [es] at eq
       cases o with
       | dct _ | ins _ _ | tab _ _ _ _ | fn _ _=>cases eq
       | lst ds=>
         cases eq
         obtain ⟨vs,g1,g2⟩:=f.s.obs kk a _ h1 es
         exact ⟨a,vs,rfl,.inl ⟨SqL.of g1,fun q hq=>k _ _ c (f.laid hq) (f.stp_laid hq) (.tup AW (f.s.free hq) (g2.mono (Ext.laid f.s hq)))⟩⟩
   | _=>cases eq
def Ey:List D→M (List D)
 | [.lst ds]=>ret ds
 | [.tup ds]=>ret ds
 | [.scr ns]=>ret (ns.map .int)
 | [.obj k]=>fun t=>match t.S[k]? with
   | some (.lst ds)=>some (ds,t)
   | _=>none
 | _=>fail
theorem GW:J1 K (fun xs H Q=>∃p ys,xs=[.ref p]∧(SqL K H p ys∨SqT K H p ys)∧∀l,H l=none→Q (.ref l) (upd H l (.lst ys))) Ey:=fun {Oo c t σ H xs ds r t' Q} f rx eq k=>by
 match ds,rx,eq with
 | [],_,eq=>cases eq
 | d0 :: _ :: _,_,eq=>cases d0 <;> cases eq
 | [d],rx,eq=>
   obtain ⟨v,rfl,rv⟩:=DC rx
   cases rv with
   | @lst a vs ds h1 h2 h3=>cases eq;exact ⟨a,vs,rfl,.inl (SqL.of h1),fun q hq=>k q vs H c f .refl h3 hq⟩
   | @tup a vs ds h1 h2 h3=>cases eq;exact ⟨a,vs,rfl,.inr (SqT.of h1),fun q hq=>k q vs H c f .refl h3 hq⟩
   | @scr a ns h1=>cases eq;exact ⟨a,_,rfl,.inl h1.sq,fun q hq=>k q _ H c f .refl (Reps.ints ns) hq⟩
   | @obj a kk h1=>
     unfold Ey at eq
     dsimp only at eq
     cases es:t.S[kk]? with
     | none=>rw [es] at eq;cases eq
     | some o=>
       rw [es] at eq
       cases o with
       | dct _ | ins _ _ | tab _ _ _ _ | fn _ _=>cases eq
       | lst ds=>
         cases eq
         obtain ⟨vs,g1,g2⟩:=f.s.obs kk a _ h1 es
         exact ⟨a,vs,rfl,.inl (SqL.of g1),fun q hq=>k q vs H c f .refl g2 hq⟩
   | _=>cases eq
def Iy:List D→M D
 | [.int i]=>ret (.int i)
 | [.bl b]=>ret (.int (if b then 1 else 0))
 | _=>fail
theorem Mq:DF K (fun xs H Q=>(∃i,xs=[.int i]∧Q (.int i) H)∨∃k,xs=[.bl k]∧Q (.int (if k then 1 else 0)) H) Iy:=fun {Oo c t σ H xs ds r t' Q} f rx eq k=>by
 match ds,rx,eq with
 | [],_,eq=>cases eq
 | d0 :: _ :: _,_,eq=>cases d0 <;> cases eq
 | [d],rx,eq=>
   obtain ⟨v,rfl,rv⟩:=DC rx
   cases rv with
   | int i=>cases eq;exact .inl ⟨i,rfl,k _ H c f .refl (.int _)⟩
   | bl b=>cases eq;exact .inr ⟨b,rfl,k _ H c f .refl (.int _)⟩
   | _=>cases eq
def Fl:List D→M D
 | [.int i]=>fun t=>if i.natAbs.log2 < 1920 then some (.str (toString i),t) else none
 | _=>fail
theorem FF:DF K (fun xs H Q=>∃i,xs=[.int i]∧i.natAbs.log2 < 1920∧Q (.str (toString i)) H) Fl:=fun {Oo c t σ H xs ds r t' Q} f rx eq k=>by
 match ds,rx,eq with
 | [],_,eq=>cases eq
 | d0 :: _ :: _,_,eq=>cases d0 <;> cases eq
 | [d],rx,eq=>
   obtain ⟨v,rfl,rv⟩:=DC rx
   cases rv with
   | int i=>
     unfold Fl at eq
     dsimp only at eq
     split at eq
     ·next h=>cases eq;exact ⟨i,rfl,h,k _ H c f .refl (.str _)⟩
     ·cases eq
   | _=>cases eq
def Vy:List D→M D
 | [.int i]=>ret (.int (if i < 0 then -i else i))
 | _=>fail
def Hf:List D→M D
 | [.int i,.int j]=>ret (.int (if j < i then j else i))
 | _=>fail
def VT:List D→M D
 | [.int i,.int j]=>ret (.int (if j > i then j else i))
 | _=>fail
theorem Ja:DF K (fun xs H Q=>∃i j,xs=[.int i,.int j]∧Q (.int (if j < i then j else i)) H) Hf:=fun {Oo c t σ H xs ds r t' Q} f rx eq k=>by
 unfold Hf at eq
 split at eq
 ·next i j=>
  obtain ⟨v,u,rfl,rv,ru⟩:=HW rx
  cases rv;cases ru;cases eq
  exact ⟨i,j,rfl,k _ H c f .refl (.int _)⟩
 ·cases eq
def K3:List D→M D
 | [.str x]=>fun t=>if x.length=1 then some (.int (x.cps.getD 0 0:Nat),t) else none
 | _=>fail
theorem R7:DF K (fun xs H Q=>∃x,xs=[.str x]∧x.length=1∧Q (.int (x.cps.getD 0 0:Nat)) H) K3:=fun {Oo c t σ H xs ds r t' Q} f rx eq k=>by
 match ds,rx,eq with
 | [],_,eq=>cases eq
 | d0 :: _ :: _,_,eq=>cases d0 <;> cases eq
 | [d],rx,eq=>
   obtain ⟨v,rfl,rv⟩:=DC rx
   cases rv with
   | str x=>
     unfold K3 at eq
     dsimp only at eq
     split at eq
     ·next h=>cases eq;exact ⟨x,rfl,h,k _ H c f .refl (.int _)⟩
     ·cases eq
   | _=>cases eq
end
end F2
namespace L2
open PySem PySem.Spec PyProof.Rows
open AutoSeq1 (wpAny_loadPart')
def Qk (K:PySem.W.Frag):R2:=fun x y H Q=>∃a b ys,x = .ref a∧y = .ref b∧SqT K H a []∧SqT K H b ys∧Q (.ref b) H
theorem Rk {X:Cx}:OpR X (binaryOp .Add) (Qk X.K):=by
 intro pins s σ H x y v u Q I rx ry h
 obtain ⟨a,b,ys,rfl,rfl,h1,h2,q⟩:=h
 cases rx
 cases ry
 obtain ⟨its,r,⟨⟨cls,dd,data,sl⟩,ho,hc,n,hd⟩,z⟩:=I.tuple h1
 obtain ⟨its2,r2,⟨⟨cls2,dd2,data2,sl2⟩,ho2,hc2,n2,hd2⟩,z2⟩:=I.tuple h2
 simp only at hc hd hc2 hd2
 subst hc hd hc2 hd2
 cases r
 exact concat_meets ⟨_,ho,rfl⟩ ⟨_,ho2,rfl⟩ noFill_tuple_add seq_tuple_add PySem.F.slot_tuple_add PySem.F.entry_tuple_add (PySem.F.args_tuple_add_2 _ _)
  (tuple_addW0 a b #[] its2.toArray n n2 dd dd2 sl sl2 rfl) ⟨ho,ho2,.ref b,H,I,rfl,q⟩
theorem Hg:fillsNumberSlot (.type "tuple") "mul" = pure false:=
 PySem.fillsNumberSlot_seq (id:="tuple.__mul__") (r:=some (.builtin "tuple.__rmul__")) F.slot_tuple_mul.lookup (by decide +kernel) F.slot_tuple_rmul.lookup (by decide +kernel)
theorem K8:seqRepeat? (.type "tuple")=pure (some (.builtin "tuple.__mul__")):=by
 unfold seqRepeat?
 rw [PySem.seqSlot_of (T:="tuple") (name:="__mul__") (id:="tuple.__mul__") F.slot_tuple_mul.lookup (by decide +kernel),PySem.seqSlot_of (T:="tuple") (name:="__rmul__") (id:="tuple.__rmul__") F.slot_tuple_rmul.lookup (by decide +kernel)]
 rfl
theorem IU (a:Int) (t:Tok) (l:Addr) (items:Array Value) (n:Nat) (dd:Option Addr) (sl:Array (Option Value)) :
 Meets (Builtin.«int.__rmul__» ⟨[.int a t,.ref l],[]⟩) (fun _ R s=>s.heap.get? l=some { cls:=.type "tuple",dict:=dd,data:=.seq items n,slots:=sl }∧R (.ok (.ret Value.notImplemented)) s):=
 .of_wp fun prog w A R s h=>by obtain ⟨hp,g,d,tk,os⟩:=s;obtain ⟨hl,h⟩:=h;wp_walk;exact ⟨_,rfl,h⟩
theorem LS (l:Addr) (items:Array Value) (n:Nat) (dd:Option Addr) (sl:Array (Option Value)) (x:Int) (u:Tok) (hc0:(decide (x < -(2 ^ 63)) || decide (x ≥ 2 ^ 63))=false) (hc1:(items.isEmpty || x == 1)=true) :
 Meets (Builtin.«tuple.__mul__» ⟨[.ref l,.int x u],[]⟩) (fun _ R s=>s.heap.get? l=some { cls:=.type "tuple",dict:=dd,data:=.seq items n,slots:=sl }∧R (.ok (.ret (Value.ref l))) s):=
 .of_wp fun prog w A R s h=>by
  obtain ⟨hp,g,d,tk,os⟩:=s;obtain ⟨hl,h⟩:=h;have f1:=AutoSeq1.idx_int;have f2:=AutoSeq1.sub_tuple_tuple;have f3:=AutoSeq1.sub_list_list;have f4:=AutoSeq1.sub_tuple_list;have f5:=AutoSeq1.sub_list_tuple
  wp_walk using wpAny_loadPart' hl
  refine wpAny_ite_split (fun z=>absurd z (by rw [hc0];decide)) fun _=>?_
  wp_walk using wpAny_loadPart' hl
  exact ⟨_,rfl,h⟩
theorem LU (l:Addr) (items:Array Value) (n:Nat) (dd:Option Addr) (sl:Array (Option Value)) (x:Int) (u:Tok) (hc0:(decide (x < -(2 ^ 63)) || decide (x ≥ 2 ^ 63))=false) (hc1:(items.isEmpty || x == 1)=false) (hc2:(decide (x≤0) || items.isEmpty)=true) :
 Meets (Builtin.«tuple.__mul__» ⟨[.ref l,.int x u],[]⟩) (fun _ R s=>s.heap.get? l=some { cls:=.type "tuple",dict:=dd,data:=.seq items n,slots:=sl }∧R (.ok (.ret (Value.ref s.heap.objs.size))) { s with heap:=s.heap.push { cls:=Value.type "tuple",data:=Data.seq #[] },toks:=s.toks }):=
 .of_wp fun prog w A R s h=>by
  obtain ⟨hp,g,d,tk,os⟩:=s;obtain ⟨hl,h⟩:=h;have f1:=AutoSeq1.idx_int;have f2:=AutoSeq1.sub_tuple_tuple;have f3:=AutoSeq1.sub_list_list;have f4:=AutoSeq1.sub_tuple_list;have f5:=AutoSeq1.sub_list_tuple
  wp_walk using wpAny_loadPart' hl
  refine wpAny_ite_split (fun z=>absurd z (by rw [hc0];decide)) fun _=>?_
  wp_walk using wpAny_loadPart' hl
  exact ⟨_,rfl,h⟩
theorem LV (l:Addr) (items:Array Value) (n:Nat) (dd:Option Addr) (sl:Array (Option Value)) (x:Int) (u:Tok) (hc0:(decide (x < -(2 ^ 63)) || decide (x ≥ 2 ^ 63))=false) (hc1:(items.isEmpty || x == 1)=false) (hc2:(decide (x≤0) || items.isEmpty)=false)
 (hc3:¬(items.size:Int) * x > (2 ^ 63 - 1) / 8) (hc4:Builtin.Tuple.tupleTooMany ((items.size:Int) * x)=false) (hsz:(List.foldl (fun x1 x2=>x1++x2) #[] (List.replicate x.toNat items)).size≤sizeLine) :
 Meets (Builtin.«tuple.__mul__» ⟨[.ref l,.int x u],[]⟩) (fun _ R s=>s.heap.get? l=some { cls:=.type "tuple",dict:=dd,data:=.seq items n,slots:=sl }∧R (.ok (.ret (Value.ref s.heap.objs.size))) { s with heap:=s.heap.push { cls:=Value.type "tuple",data:=Data.seq (List.foldl (fun x1 x2=>x1++x2) #[] (List.replicate x.toNat items)) },toks:=s.toks }):=
 .of_wp fun prog w A R s h=>by
  obtain ⟨hp,g,d,tk,os⟩:=s;obtain ⟨hl,h⟩:=h;have f1:=AutoSeq1.idx_int;have f2:=AutoSeq1.sub_tuple_tuple;have f3:=AutoSeq1.sub_list_list;have f4:=AutoSeq1.sub_tuple_list;have f5:=AutoSeq1.sub_list_tuple
  wp_walk using wpAny_loadPart' hl
  refine wpAny_ite_split (fun z=>absurd z (by rw [hc0];decide)) fun _=>?_
  wp_walk using wpAny_loadPart' hl
  refine wpAny_ite_split (fun z=>absurd z hc3) fun _=>?_
  wp_walk using wpAny_loadPart' hl
  exact ⟨_,rfl,h⟩
end L2
namespace L2
open PySem PySem.Spec PyProof.Rows
open AutoSeq1 (wpAny_loadPart')
def Qq (K:PySem.W.Frag):R2:=fun x y H Q=>∃a k xs,x = .ref a∧y = .int k∧SqT K H a xs∧-(2 ^ 62)≤k∧k < 2 ^ 62∧xs.length * k.toNat≤sizeLine∧
 ((xs=[]∨k=1)→Q (.ref a) H)∧(¬(xs=[]∨k=1)→∀p,H p=none→Q (.ref p) (upd H p (.tup (List.replicate k.toNat xs).flatten)))
theorem Inv.tnew {X:Cx} {pins:List (Addr×Obj)} {σ:L2.St} {H:Hp} {s:Shared} {ys:List V} {its:List Value} {t':Nat} (I:Inv X pins σ H s) (hv:Vals ys its) (hz:ys.length≤sizeLine) (ht:s.toks≤t':=by first | exact Nat.le_refl _ | assumption | lia | (dsimp only;lia)) :
 Inv X pins σ (upd H s.heap.objs.size (.tup ys)) { s with heap:=s.heap.push { cls:=.type "tuple",data:=.seq its.toArray },toks:=t' }:=
 I.laid (fun b u e=>Heap.get?_push_of_some _ e) (Nat.le_refl _) ⟨hz,its,hv,⟨_,Heap.get?_push_size _ rfl,rfl,_,rfl⟩⟩
theorem op_mulT {X:Cx}:OpR X (binaryOp .Mult) (Qq X.K):=by
 intro pins s σ H x y v u Q I rx ry h
 obtain ⟨a,k,xs,rfl,rfl,hq,h1,h2,hz,q1,q2⟩:=h
 cases rx
 obtain ⟨t,rfl⟩:=ry
 obtain ⟨its,r,⟨⟨cls,dd,data,sl⟩,ho,hc,n,hd⟩,z⟩:=I.tuple hq
 simp only at hc hd
 subst hc hd
 have hl:=r.length
 have hc0:(decide (k < -(2 ^ 63)) || decide (k ≥ 2 ^ 63))=false:=by
  rw [Bool.or_eq_false_iff];exact ⟨decide_eq_false (by lia),decide_eq_false (by lia)⟩
 refine wpAny_binaryOp_repeat_ref (T:="tuple") (U:="int") (by decide) ⟨_,ho,rfl⟩ (fun s'=>typeIs_int s' k t) Hg F.fills_int_mul F.slot_int_rmul K8 F.slot_int_index.lookup
  (call_meets F.slot_int_rmul (typeIs_int s k t) F.entry_int_rmul (F.args_int_rmul_2 _ _) (IU k t a its.toArray n dd sl) ⟨ho,rfl,⟨_,ho,rfl⟩,?_⟩)
 by_cases hs:xs=[]∨k=1
 ·have hc1:(its.toArray.isEmpty || k == 1)=true:=by
   rw [Bool.or_eq_true]
   rcases hs with z | z
   ·subst z;cases r;exact .inl rfl
   ·exact .inr (by simp [z])
  exact call_meets F.slot_tuple_mul ⟨_,ho,rfl⟩ F.entry_tuple_mul (F.args_tuple_mul_2 _ _) (LS a its.toArray n dd sl k t hc0 hc1) ⟨ho,.ref a,H,I,rfl,q1 hs⟩
 ·have hne:its≠[]:=fun z=>hs (.inl (by subst z;cases r;rfl))
  have hk1:k≠1:=fun z=>hs (.inr z)
  have hem:its.toArray.isEmpty=false:=by cases its with | nil=>exact absurd rfl hne | cons _ _=>rfl
  have hc1:(its.toArray.isEmpty || k == 1)=false:=by rw [hem];simpa using hk1
  by_cases hk:k≤0
  ·have hc2:(decide (k≤0) || its.toArray.isEmpty)=true:=by rw [decide_eq_true hk];rfl
   refine call_meets F.slot_tuple_mul ⟨_,ho,rfl⟩ F.entry_tuple_mul (F.args_tuple_mul_2 _ _) (LU a its.toArray n dd sl k t hc0 hc1 hc2) ⟨ho,?_⟩
   have hk0:k.toNat=0:=by lia
   refine ⟨.ref _,_,I.tnew (t':=s.toks) (ys:=[]) (its:=[]) .nil (Nat.zero_le _),rfl,?_⟩
   have:=q2 hs _ I.fresh
   rw [hk0] at this
   exact this
  ·have hc2:(decide (k≤0) || its.toArray.isEmpty)=false:=by rw [decide_eq_false hk,hem];rfl
   have hsz:its.length * k.toNat≤sizeLine:=by rw [←hl];exact hz
   have hmul:((its.toArray.size:Nat):Int) * k=((its.length * k.toNat:Nat):Int):=by
    rw [List.size_toArray,Int.natCast_mul,Int.toNat_of_nonneg (by lia)]
   have hline:(sizeLine:Nat)≤(2 ^ 63 - 1) / 8:=by decide
   have hc3:¬(its.toArray.size:Int) * k > (2 ^ 63 - 1) / 8:=by rw [hmul];lia
   have hc4:Builtin.Tuple.tupleTooMany ((its.toArray.size:Int) * k)=false:=by
    unfold Builtin.Tuple.tupleTooMany;rw [hmul];exact decide_eq_false (by lia)
   have f0:List.foldl (fun x1 x2=>x1++x2) #[] (List.replicate k.toNat its.toArray)=(List.replicate k.toNat its).flatten.toArray:=by
    have:=Gu its k.toNat []
    rw [List.nil_append] at this
    exact this
   have hfz:(List.foldl (fun x1 x2=>x1++x2) #[] (List.replicate k.toNat its.toArray)).size≤sizeLine:=by
    rw [f0,List.size_toArray,ID,Nat.mul_comm];exact hsz
   refine call_meets F.slot_tuple_mul ⟨_,ho,rfl⟩ F.entry_tuple_mul (F.args_tuple_mul_2 _ _) (LV a its.toArray n dd sl k t hc0 hc1 hc2 hc3 hc4 hfz) ⟨ho,?_⟩
   rw [f0]
   exact ⟨.ref _,_,I.tnew (t':=s.toks) (r.rep k.toNat) (by rw [ID,Nat.mul_comm];exact hz),rfl,q2 hs _ I.fresh⟩
section
variable {X:Cx} {a b c d:Expr} {ta tb tc td:TE} {pos:Pos}
end
end L2
namespace F2
open PySem L2 PySem.Spec
section
variable {K:PySem.W.Frag}
def A5 (x y:D):M D:=match x,y with
 | .tup [],.tup ys=>ret (.tup ys)
 | x,y=>OL x y
def Qj (K:PySem.W.Frag):R2:=fun x y H Q=>M7 K x y H Q∨Qk K x y H Q
theorem AL {X:Cx}:OpR X (binaryOp .Add) (Qj X.K):=op_add4.or Rk
theorem AG:BJ K (Qj K) A5:=fun {Oo c t σ H x y dx dy r t' Q} f rx ry eq k=>by
 unfold A5 at eq
 split at eq
 ·next ys=>
  cases eq
  cases rx with
  | tup h1 h2 h3=>
    cases h3
    cases ry with
    | tup g1 g2 g3=>exact .inr ⟨_,_,_,rfl,rfl,SqT.of h1,SqT.of g1,k _ H c f .refl (.tup g1 g2 g3)⟩
 ·exact .inl (R1 f rx ry eq k)
def KS:D→D→M D
 | .int i,.int j=>fun t=>if FV i j=true then some (.int (i * j),t) else none
 | .tup xs,.int k=>fun t=>if B5 k=true∧xs.length * k.toNat≤LIM then some (.tup (List.replicate k.toNat xs).flatten,t) else none
 | .lst xs,.int k=>fun t=>if B5 k=true∧xs.length * k.toNat≤LIM then some (.lst (List.replicate k.toNat xs).flatten,t) else none
 | _,_=>fail
def M8 (K:PySem.W.Frag):R2:=fun x y H Q=>rI CMul (fun i j=>.int (i * j)) x y H Q∨(Qq K x y H Q∨TL x y H Q)
theorem op_mul3 {X:Cx}:OpR X (binaryOp .Mult) (M8 X.K):=op_mul.or (op_mulT.or Tj)
theorem R5:BJ K (M8 K) KS:=fun {Oo c t σ H x y dx dy r t' Q} f rx ry eq k=>by
 cases ry with
 | int j=>
   cases rx with
   | int i=>
     unfold KS at eq
     dsimp only at eq
     split at eq
     ·next h=>cases eq;exact .inl ⟨i,j,rfl,rfl,N0 h,k _ H c f .refl (.int _)⟩
     ·cases eq
   | @tup a vs ds h1 h2 h3=>
     unfold KS at eq
     dsimp only at eq
     split at eq
     ·next h=>
      cases eq
      obtain ⟨g1,g2⟩:=Fg h.1
      refine .inr (.inl ⟨a,j,vs,rfl,rfl,SqT.of h1,g1,g2,by rw [h3.length];exact Nat.le_trans h.2 Cr,fun hs=>?_,fun hs p hp=>?_⟩)
      ·rcases hs with z | z
       ·subst z
        have:ds=[]:=List.length_eq_zero_iff.mp h3.length.symm
        subst this
        have e:(List.replicate j.toNat ([]:List D)).flatten=[]:=by simp
        rw [e] at k
        exact k _ H c f .refl (.tup h1 h2 h3)
       ·subst z
        have e:(List.replicate (1:Int).toNat ds).flatten=ds:=by simp
        rw [e] at k
        exact k _ H c f .refl (.tup h1 h2 h3)
      ·exact k _ _ c (f.laid hp) (f.stp_laid hp) (.tup AW (f.s.free hp) ((h3.rep j.toNat).mono (Ext.laid f.s hp)))
     ·cases eq
   | @lst a vs ds h1 h2 h3=>
     unfold KS at eq
     dsimp only at eq
     split at eq
     ·next h=>
      cases eq
      obtain ⟨g1,g2⟩:=Fg h.1
      refine .inr (.inr ⟨a,j,vs,rfl,rfl,h1,by lia,by lia,by rw [h3.length];exact Nat.le_trans h.2 Cr,fun p hp=>?_⟩)
      exact k _ _ c (f.laid hp) (f.stp_laid hp) (.lst AW (f.s.free hp) ((h3.rep j.toNat).mono (Ext.laid f.s hp)))
     ·cases eq
   | _=>cases eq
 | _=>cases rx <;> cases eq
end
section
variable {X:Cx} {e a b:Expr} {pos:Pos}
def D5 (xs:List D):List D→Option (List D)
 | [d]=>if xs.length < LIM then some (xs++[d]) else none
 | _=>none
def ownM (i:Nat) (h:List D→List D→Option (List D)) (g:M (List D)):M Out:=fun t=>match t.env[i]? with
 | some (some (.own _))=>bnd g (fun ds t1=>match t1.env[i]? with
   | some (some (.own xs))=>(h xs ds).map fun ys=>(.next,{ t1 with env:=t1.env.set i (some (.own ys)) })
   | _=>none) t
 | _=>none
def OJ (K:PySem.W.Frag) (R:V→List V→Hp→VK→Prop) (h:List D→List D→Option (List D)):Prop:=∀{c:Cf} {S:List Ob} {H:Hp} {a:Addr} {vs us:List V} {xs ds ys:List D} {Q:VK},SInv K c S H→H a=some (.lst vs)→Reps K c H vs xs→Reps K c H us ds→h xs ds=some ys→
 (∀ws,Reps K c H ws ys→Q .non (upd H a (.lst ws)))→R (.ref a) us H Q
theorem Mo {K:PySem.W.Frag}:OJ K Mm D5:=fun {c S H a vs us xs ds ys Q} s h r rs e k=>by
 unfold D5 at e
 split at e
 ·next d=>
  split at e
  ·next hl=>
   cases e
   obtain ⟨v,rfl,rv⟩:=DC rs
   exact ⟨a,vs,v,rfl,rfl,h,by rw [r.length];exact Nat.lt_of_lt_of_le hl Cr,k _ (r.append (.cons rv .nil))⟩
  ·cases e
 ·cases e
theorem RS.ownM {μ:Cf→Hp→D→(V→Hp→Prop)→Prop} {K:PySem.W.Frag} {i:Nat} {h:List D→List D→Option (List D)} {g:M (List D)} {R:V→List V→Hp→VK→Prop} (s:OJ K R h) {E:Ends} {σ:L2.St} {H:Hp} (q:RSg K μ (F2.ownM i h g) E σ H):Qv (tBM K "list" R (Uc i) (RA K g)) E σ H:=by
 obtain ⟨Oo,c,t,fi,o,t',eq,k⟩:=q
 unfold F2.ownM at eq
 split at eq
 ·next xs0 e0=>
  obtain ⟨ds,t1,e1,eq⟩:=Ao eq
  obtain ⟨a,vs0,h1,h2,h3,h4,h5⟩:=fi.own i xs0 e0
  refine ⟨.ref a,h1,.inl ⟨rfl,vs0,SqL.of h4⟩,Oo,c,t,fi,ds,t1,e1,fun us H1 c1 f1 s1 rus=>?_⟩
  split at eq
  ·next xs ex=>
   obtain ⟨ys,ey,ez⟩:=Option.map_eq_some_iff.mp eq
   cases ez
   obtain ⟨a',vs,g1,g2,g3,g4,g5⟩:=f1.own i xs ex
   rw [h1] at g1;injection g1 with g1;injection g1 with g1;injection g1 with g1;subst g1
   refine s f1.s g4 g5 rus ey fun ws rws=>?_
   obtain ⟨f2,s2⟩:=f1.wrOwn ex h1 rws
   exact k σ _ c1 f2 (s1.trans s2)
  ·cases eq
 ·cases eq
theorem NJ {μ:Cf→Hp→D→(V→Hp→Prop)→Prop} (i:Nat) {x:Str} {es:List Expr} {g:M (List D)} {px apos cpos:Pos} (ha:PA X (e :: es) (RA X.K g)) (hN:X.N[i]?=some x:=by rfl) (hv:Vis X.env.scope x:=by first | exact Or.inl rfl | exact Or.inr (Or.inl rfl) | exact Or.inr (Or.inr rfl)) (hd:(x == ("__debug__" : Str))=false:=by decide)
 (hcd:(x == ("__classdict__" : Str))=false:=by decide)
 (hbase:attributeBase (.Name x px) "append" X.env (eval (.Name x px) X.env)=eval (.Name x px) X.env:=by rfl)
 (hfew:((backTo cpos (starEach (e :: es) X.env)).all (fun x=>!x.1) && (backToKw cpos (keywordEach [] X.env)).all (fun x=>x.1.isSome) && decide ((e :: es).length + ([]:List Keyword).length + (if ([]:List Keyword).isEmpty then 0 else 1) < 30))=true:=by rfl)
 (hline:(apos.endLine == cpos.line)=true:=by rfl) (hs:starEach (e :: es) X.env=(false,eval e X.env) :: starEach es X.env:=by rfl) (hplain:(backTo cpos (starEach es X.env)).any (·.1)=false:=by rfl) :
 PS X (.Expr (.Call (.Attribute (.Name x px) "append" apos) (e :: es) [] cpos) pos) (RSg X.K μ (ownM i D5 g)):=
 C4 (Mj (FX PySem.F.plainAttrs_list PySem.F.slot_list_append PySem.F.type_list_append Js (N7 hN hv hd hcd) ha hbase hfew hline hs hplain)) fun _ _ _ q=>RS.ownM Mo q
def objM (h:List D→List D→Option (List D)) (f:M D) (g:M (List D)):M D:=bnd f fun o=>match o with
 | .obj k=>fun t=>match t.S[k]? with
   | some (.lst _)=>bnd g (fun ds t1=>match t1.S[k]? with
     | some (.lst xs)=>(h xs ds).map fun ys=>(.non,{ t1 with S:=t1.S.set k (.lst ys) })
     | _=>none) t
   | _=>none
 | _=>fail
theorem RE.objM {K:PySem.W.Frag} {h:List D→List D→Option (List D)} {f:M D} {g:M (List D)} {R:V→List V→Hp→VK→Prop} (s:OJ K R h) {σ:L2.St} {H:Hp} {Q:VK} (q:RE K (F2.objM h f g) σ H Q):tBM K "list" R (RE K f) (RA K g) σ H Q:=by
 obtain ⟨Oo,c,t,fi,r,t',eq,k⟩:=q
 obtain ⟨o,t0,e0,eq⟩:=Ao eq
 refine ⟨Oo,c,t,fi,o,t0,e0,fun x H0 c0 f0 s0 rx=>?_⟩
 cases rx with
 | @obj a kk hk=>
   dsimp only at eq
   split at eq
   ·next xs0 ex0=>
    obtain ⟨ds,t1,e1,eq⟩:=Ao eq
    obtain ⟨vs0,g0,g0'⟩:=f0.s.obs kk a _ hk ex0
    refine ⟨.inl ⟨rfl,vs0,SqL.of g0⟩,Oo,c0,t0,f0,ds,t1,e1,fun us H1 c1 f1 s1 rus=>?_⟩
    split at eq
    ·next xs ex=>
     obtain ⟨ys,ey,ez⟩:=Option.map_eq_some_iff.mp eq
     cases ez
     have hk1:=s1.ext.io _ _ hk
     obtain ⟨vs,g1,g2⟩:=f1.s.obs kk a _ hk1 ex
     refine s f1.s g1 g2 rus ey fun ws rws=>?_
     obtain ⟨f2,s2⟩:=f1.wrObj (o:=.lst ys) (u:=.lst ws) hk1 fun c' H' ext hu=>⟨ws,hu,rws.mono ext⟩
     exact k _ _ c1 f2 ((s0.trans s1).trans s2) .non
    ·cases eq
   ·cases eq
 | _=>cases eq
theorem Jq {o:Expr} {es:List Expr} {f:M D} {g:M (List D)} {apos cpos:Pos} (ho:PE X o (RE X.K f)) (ha:PA X (e :: es) (RA X.K g))
 (hbase:attributeBase o "append" X.env (eval o X.env)=eval o X.env:=by rfl)
 (hfew:((backTo cpos (starEach (e :: es) X.env)).all (fun x=>!x.1) && (backToKw cpos (keywordEach [] X.env)).all (fun x=>x.1.isSome) && decide ((e :: es).length + ([]:List Keyword).length + (if ([]:List Keyword).isEmpty then 0 else 1) < 30))=true:=by rfl)
 (hline:(apos.endLine == cpos.line)=true:=by rfl) (hs:starEach (e :: es) X.env=(false,eval e X.env) :: starEach es X.env:=by rfl) (hplain:(backTo cpos (starEach es X.env)).any (·.1)=false:=by rfl) :
 PE X (.Call (.Attribute o "append" apos) (e :: es) [] cpos) (RE X.K (objM D5 f g)):=
 Bv (FX PySem.F.plainAttrs_list PySem.F.slot_list_append PySem.F.type_list_append Js ho ha hbase hfew hline hs hplain) fun _ _ _ q=>RE.objM Mo q
def T5 (o i d:D):M Unit:=match o,i with
 | .obj k,.int j=>fun t=>match t.S[k]? with
   | some (.lst xs)=>(ixN xs.length j).map fun n=>((),{ t with S:=t.S.set k (.lst (xs.set n d)) })
   | _=>none
 | _,_=>fail
def stD (f g:M D) (d:D):M Unit:=bnd f fun o=>bnd g fun i=>T5 o i d
end
section
variable {X:Cx} {e a b tg iter elt:Expr} {ifs:List Expr} {pos:Pos} {scope:Scope} {N':List Str} {n:Nat} {fr:List Nat} {f:M (List D)} {st:D→M Unit} {tst:M Bool} {el:M D}
def DI:M Bool:=ret true
theorem CQ:PIf X [] (RT X.K DI):=fun pins s σ H Q I ⟨Oo,c,t,fi,r,t',eq,k⟩=>Rx pins s σ H Q I (by cases eq;exact k H c fi .refl)
theorem QV {g:M Bool} (h:PT X e (RT X.K g)):PIf X [e] (RT X.K g):=Ry h
theorem CP (O:CmpOk X scope N' (FN n fr)) (hc:X.calm=true) (hi:PI X tg iter (RI X.K f))
 (hg:∀cl C s2 H2 fp,PG (Cd X N' scope cl C s2 H2 fp) tg (RG X.K st)) (ht:∀cl C s2 H2 fp,PIf (Cd X N' scope cl C s2 H2 fp) ifs (RT X.K tst)) (he:∀cl C s2 H2 fp,PE (Cd X N' scope cl C s2 H2 fp) elt (RE X.K el))
 (hs:∀x,foldedSetIterable iter X.env x=pure x:=by intro _;rfl):PE X (.ListComp elt [⟨tg,iter,ifs,0⟩] scope pos) (RF X.K (Cj n fr f st tst el)):=
 Bv (Rs O hc hi hg ht he hs) fun _ _ _ q=>RF.comp q
theorem RF.ofPure {K:PySem.W.Frag} {f:M (List D)} {σ:L2.St} {H:Hp} {Q:VK} (q:RE K (Bf f) σ H Q):RF K f σ H Q:=by
 obtain ⟨Oo,c,t,fi,r,t',eq,k⟩:=q
 obtain ⟨ds,t1,e1,eq⟩:=Ao eq
 cases eq
 exact ⟨Oo,c,t,fi,ds,_,e1,fun p xs H1 c1 f1 s1 rxs hp=>k _ _ c1 (f1.laid hp) (s1.trans (f1.stp_laid hp)) (.lst AW (f1.s.free hp) (rxs.mono (Ext.laid f1.s hp)))⟩
theorem Q0 {μ:Cf→Hp→D→(V→Hp→Prop)→Prop} {i:Nat} {y:Str} {py spos:Pos} (O:CmpOk X scope N' (FN n fr)) (hc:X.calm=true) (hN:X.N.Nodup) (hiN:X.N[i]?=some y) (hx:X.env.scope.names.lookup y=some .local) (hi:PI X tg iter (RI X.K f))
 (hg:∀cl C s2 H2 fp,PG (Cd X N' scope cl C s2 H2 fp) tg (RG X.K st)) (ht:∀cl C s2 H2 fp,PIf (Cd X N' scope cl C s2 H2 fp) ifs (RT X.K tst)) (he:∀cl C s2 H2 fp,PE (Cd X N' scope cl C s2 H2 fp) elt (RE X.K el))
 (hsw:swapsWith (.ListComp elt [⟨tg,iter,ifs,0⟩] scope pos) (some (.Name y py)) spos.line X.env=pure true:=by rfl)
 (hs:∀x,foldedSetIterable iter X.env x=pure x:=by intro _;rfl):PS X (.Assign [.Name y py] (.ListComp elt [⟨tg,iter,ifs,0⟩] scope pos) spos) (RSg X.K μ (A9 i (Bf (Cj n fr f st tst el)))):=
 C4 (RK O hc hN hiN hx hi hg ht he hsw hs) fun E σ H q=>RF.comp (RF.ofPure (RS.set q))
theorem C7 (tgs:List Str) (frn:List (Nat×Str)) (hk:scope.kind = .function) (hcell:(scope.names.all fun y=>y.2 != .cell)=true) (hloc:(scope.names.all fun y=>y.2 != .local || scope.names.lookup y.1 == some .local)=true)
 (hfree:(scope.names.all fun y=>y.2 != .free || X.env.kindOf y.1 == some .cell || X.env.kindOf y.1 == some .free)=true)
 (hf:(frn.all fun p=>X.N[p.1]? == some p.2 && scope.names.lookup p.2 == some .free)=true):CmpOk X scope (tgs++frn.map (·.2)) (FN tgs.length (frn.map (·.1))):=by
 rw [List.all_eq_true] at hcell hloc hfree hf
 refine ⟨hk,fun y hy=>by simpa using hcell y hy,fun y hy hl=>?_,fun y hy hl=>?_,fun σ _=>by simp [FN],fun σ j x v h1 h2=>?_⟩
 ·have:=hloc y hy
  simpa [hl] using this
 ·have:=hfree y hy
  simpa [hl] using this
 ·unfold FN at h2
  by_cases hj:j < tgs.length
  ·rw [List.getElem?_append_left (by simpa using hj),List.getElem?_replicate] at h2
   split at h2 <;> simp at h2
  ·rw [List.getElem?_append_right (by simpa using hj),List.length_replicate,List.getElem?_map,List.getElem?_map] at h2
   rw [List.getElem?_append_right (by simpa using hj),List.getElem?_map] at h1
   cases e:frn[j - tgs.length]? with
   | none=>rw [e] at h1;cases h1
   | some p=>
     rw [e] at h1 h2
     simp only [Option.map_some,Option.some.injEq] at h1 h2
     have hp:=hf p (List.mem_of_getElem? e)
     rw [Bool.and_eq_true] at hp
     refine ⟨p.1,by rw [←h1];simpa using hp.1,?_,by rw [←h1];simpa using hp.2⟩
     cases e2:σ[p.1]? with
     | none=>rw [e2] at h2;cases h2
     | some o=>rw [e2] at h2;simpa using h2
end
mutual
def C3:D→Bool
 | .tup xs=>K5 xs
 | .lst xs=>K5 xs
 | .obj _=>false
 | .scr _=>false
 | .exc _ _=>false
 | _=>true
def K5:List D→Bool
 | []=>true
 | d :: r=>C3 d && K5 r
end
def c0:Cf:=⟨[],fun _=>False⟩
theorem MJ (a:Addr):¬c0.A a:=fun h=>h.elim (fun z=>nomatch z) fun z=>z
mutual
theorem Fz {K:PySem.W.Frag} {c:Cf} {H:Hp}:∀{v:V} {d:D},Rep K c H v d→C3 d=true→Rep K c0 H v d
 | _,_,.non,_=>.non
 | _,_,.bl b,_=>.bl b
 | _,_,.int i,_=>.int i
 | _,_,.str x,_=>.str x
 | _,_,.ty n,_=>.ty n
 | _,_,.tup h n r,p=>.tup h (MJ _) (GU r (by simpa [C3] using p))
 | _,_,.lst h n r,p=>.lst h (MJ _) (GU r (by simpa [C3] using p))
 | _,_,.scr h,p=>by simp [C3] at p
 | _,_,.dic h n,_=>.dic h (MJ _)
 | _,_,.obj h,p=>by simp [C3] at p
 | _,_,.exc _ _ _ _ _,p=>by simp [C3] at p
theorem GU {K:PySem.W.Frag} {c:Cf} {H:Hp}:∀{vs:List V} {ds:List D},Reps K c H vs ds→K5 ds=true→Reps K c0 H vs ds
 | _,_,.nil,_=>.nil
 | _,_,.cons h t,p=>by
   simp only [K5,Bool.and_eq_true] at p
   exact .cons (Fz h p.1) (GU t p.2)
end
def E2 (S:List Ob):D→D
 | .obj k=>match S[k]? with
   | some (.lst ds)=>.lst ds
   | _=>.obj k
 | d=>d
def KN:D→Bool
 | .obj _=>true
 | _=>false
def eqS (g:Bool→Bool) (x y:D):M D:=fun t=>
 if (KN x || KN y)=true then (if (C3 (E2 t.S x) && C3 (E2 t.S y))=true then (eqN EQD (E2 t.S x) (E2 t.S y)).map fun b=>(.bl (g b),t) else none)
 else (eqN EQD x y).map fun b=>(.bl (g b),t)
theorem K7 {K:PySem.W.Frag} {c:Cf} {S:List Ob} {H:Hp} {v:V} {d:D} (s:SInv K c S H) (r:Rep K c H v d) (p:C3 (E2 S d)=true):Rep K c0 H v (E2 S d):=by
 cases r with
 | @obj a k hk=>
   unfold E2 at p ⊢
   dsimp only at p ⊢
   split
   ·next ds e=>
    rw [e] at p
    obtain ⟨vs,h1,h2⟩:=s.obs k a _ hk e
    exact .lst h1 (MJ _) (GU h2 (by simpa [C3] using p))
   ·next h=>
    split at p
    ·next ds e=>exact absurd e (h ds)
    ·simp [C3] at p
 | non=>exact .non
 | bl b=>exact .bl b
 | int b=>exact .int b
 | str b=>exact .str b
 | ty b=>exact .ty b
 | tup h n q=>exact Fz (.tup h n q) p
 | lst h n q=>exact Fz (.lst h n q) p
 | scr h=>exact Fz (c:=c) (.scr h) p
 | dic h n=>exact Fz (.dic h n) p
 | exc a b n f q=>exact Fz (.exc a b n f q) p
theorem AY {K:PySem.W.Frag} {g:Bool→Bool}:BJ K (PB K g) (eqS g):=fun {Oo c t σ H x y dx dy r t' Q} f rx ry eq k=>by
 unfold eqS at eq
 split at eq
 ·split at eq
  ·next hp=>
   rw [Bool.and_eq_true] at hp
   obtain ⟨b,e1,e2⟩:=Option.map_eq_some_iff.mp eq
   cases e2
   exact ⟨c0,_,_,b,K7 f.s rx hp.1,K7 f.s ry hp.2,e1,k _ H c f .refl (.bl (g b))⟩
  ·cases eq
 ·obtain ⟨b,e1,e2⟩:=Option.map_eq_some_iff.mp eq
  cases e2
  exact ⟨c,dx,dy,b,rx,ry,e1,k _ H c f .refl (.bl (g b))⟩
end F2
namespace L2
open PySem PySem.Spec PyProof.Rows
section
variable {prog:Program} {w:World} {A:Around} {E:Value→Shared→Prop} {s:Shared}
theorem Hz {it l:Addr} {items:Array Value} (hne:l≠it):∀(n i:Nat) (s:Shared) (Q:List Value→Shared→Prop),s.heap.IsListIter it l i→s.heap.IsList l items→i + n≤items.size→
 (∀h',h'.IsListIter it l (i + n)→Heap.SameBut it s.heap h'→Q ((items.toList.drop i).take n) { s with heap:=h' })→wpAny (model prog w) A (draw (.ref it) n) Q E s
 | 0,i,s,Q,hit,_,_,hQ=>wpAny_pure (by simpa using hQ s.heap hit (Heap.SameBut.refl ..))
 | n + 1,i,s,Q,hit,ht,hle,hQ=>by
   have hlt:i < items.size:=by lia
   refine wpAny_bind (wpAny_pyNext_list_item hit ht (x:=items[i]) (by simp [hlt]) fun h1 hit1 hs1=>?_)
   refine wpAny_bind (wpAny_holding (Hz hne n (i + 1) _ _ hit1 (ht.extBut hs1.extBut hne) (by lia) fun h2 hit2 hs2=>wpAny_pure ?_))
   have hd:items.toList.drop i=items[i] :: items.toList.drop (i + 1):=by simp [List.drop_eq_getElem_cons,hlt]
   have:=hQ h2 (by rw [show i + (n + 1)=i + 1 + n by lia];exact hit2) (hs1.trans hs2)
   rw [hd,List.take_succ_cons] at this
   exact this
theorem Ls {l:Addr} {items:Array Value} {targets:List (Bool×(Value→Sem Unit))} {Q:Unit→Shared→Prop} (hh:A.handled=none) (ht:s.heap.IsList l items) (hn:targets.length=items.size) (hstar:targets.findIdx? (·.1)=none)
 (h:∀h',Heap.ExtBut s.heap.objs.size s.heap h'→wpAny (model prog w) A (assignInOrder (targets.map (·.2)) items.toList) Q E { s with heap:=h' }):wpAny (model prog w) A (unpack (.ref l) targets) Q E s:=by
 have hlt:l≠s.heap.objs.size:=by obtain ⟨o,ho,_⟩:=ht;exact Nat.ne_of_lt (Heap.lt_size ho)
 unfold unpack
 rw [hn,hstar]
 refine wpAny_bind (wpAny_holding ?_)
 unfold unpackItems
 refine wpAny_bind ?_
 unfold notIterableAtAll
 refine wpAny_bind (wpAny_specialOf ht.typeIs PySem.F.slot_list_iter.lookup ?_)
 refine wpAny_pure ?_
 simp only [Bool.false_eq_true,if_false]
 refine wpAny_bind (wpAny_holding (wpAny_pyIter_list ht ?_))
 have hp:Heap.IsList (s.heap.push { cls:=.type "list_iterator",data:=.fields #[.ref l,.int 0 0] }) l items:=by
  obtain ⟨o,ho,r⟩:=ht
  exact ⟨o,Heap.get?_push_of_some _ ho,r⟩
 refine wpAny_bind (wpAny_holding (Hz hlt items.size 0 _ _ ⟨_,Heap.get?_push_size _ rfl,rfl,rfl⟩ hp (by lia) fun h1 hit1 hs1=>?_))
 have hall:List.take items.size (List.drop 0 items.toList)=items.toList:=by
  rw [List.drop_zero];exact List.take_of_length_le (by simp)
 rw [hall]
 rw [if_neg (by simp)]
 have ht1:Heap.IsList h1 l items:=hp.extBut hs1.extBut hlt
 refine wpAny_bind (wpAny_holding (wpAny_pyNext_list_end hh hit1 ht1 (by simp) fun h2 he2=>?_))
 simp only [Option.isSome_none,Bool.false_eq_true,if_false]
 exact wpAny_pure (h h2 fun b o hb e=>he2 b o hb (hs1.extBut b o hb (Heap.get?_push_of_some _ e)))
end
section
variable {X:Cx} {pos:Pos}
def gUn (K:PySem.W.Frag) (n:Nat) (t:TGs):TG:=fun v σ H Q=>∃a xs,v = .ref a∧(SqT K H a xs∨SqL K H a xs)∧xs.length=n∧t xs σ H Q
theorem UC {es:List Expr} {k:Nat} {t:TGs} {n:Nat} (hc:X.calm=true) (h:PGs X es t)
 (hn:(assignEach es X.env).length=n:=by rfl) (hst:(assignEach es X.env).findIdx? (·.1)=none:=by rfl):PG X (.Tuple es k pos) (gUn X.K n t):=by
 intro pins s σ H v u Q I r hw
 obtain ⟨a,xs,e1,hq | hq,hl,hw⟩:=hw
 ·exact Tu hc h hn hst pins s σ H v u Q I r ⟨a,xs,e1,hq,hl,hw⟩
 ·subst e1
  cases r
  obtain ⟨its,rv,ht,hz⟩:=I.list hq
  rw [assign_Tuple]
  refine wpAny_bind (wpAny_standAt (Ls (I.ok.hd hc) ht.isList (by simp [hn,←hl,rv.length]) hst fun h' hx=>?_))
  have I1:Inv X pins σ H { s with heap:=h' }:=I.kept (t':=s.toks) fun b o e=>hx b o (Nat.ne_of_lt (Heap.lt_size e)) e
  exact h pins _ σ H xs _ Q I1 (by simpa using rv) hw
end
section
open HT
variable {prog:Program} {w:World} {A:Around} {E:Value→Shared→Prop} {s:Shared}
theorem Gi {t sl:Addr} {items:Array Value} {vl vu:Value} {lo hi:Option Int} {Q:Value→Shared→Prop} (ht:IsTup s.heap t items) (hs:s.heap.IsSliceOf sl vl vu .none) (pl:IsPart vl lo) (pu:IsPart vu hi)
 (hw:sIx items.size 0 lo=0∧sIx items.size items.size hi=items.size) (h:Q (.ref t) s):wpAny (model prog w) A (getItem (.ref t) (.ref sl)) Q E s:=by
 obtain ⟨os,hos,hcs,hds⟩:=id hs
 have hTs:s.TypeIs (.ref sl) "slice":=⟨os,hos,hcs⟩
 unfold getItem
 try with_reducible refine wpAny_holding ?_
 first | refine wpAny_bind (wpAny_pure ?_) | skip
 refine wpAny_bind (wpAny_sequenceKey ht.typeIs (by decide) ?_)
 refine wpAny_bind (wpAny_callSpecial?_slot (name:=Str.ofString "__getitem__") ht.typeIs PyProof.Rows.slot_tuple_getitem
  (wpAny_call_entry PyProof.Rows.slot_tuple_getitem ht.typeIs entry_tuple_getitem ?_ (args_tuple_getitem _ _)))
 show wpAny _ _ (Builtin.Tuple.tupleItemsOf (.ref t) >>= _) _ _ s
 refine wpAny_bind (tupleItemsOf_ ht ?_)
 refine wpAny_bind (wpAny_typeOf hTs ?_)
 rw [if_pos (by decide)]
 refine wpAny_bind (E4 hs pl pu ?_)
 have hyes:(((sIx items.size 0 lo:Nat):Int) == 0 && (1:Int) == 1 && (sIx items.size items.size hi - sIx items.size 0 lo) == items.size)=true:=by
  rw [hw.1,hw.2];simp
 show wpAny _ _ (if (((sIx items.size 0 lo:Nat):Int) == 0 && (1:Int) == 1 && (sIx items.size items.size hi - sIx items.size 0 lo) == items.size)=true then _ else _) _ _ s
 rw [if_pos hyes]
 refine wpAny_bind (m:=Builtin.Tuple.tupleIsExact _) ?_
 unfold Builtin.Tuple.tupleIsExact
 refine wpAny_bind (wpAny_typeOf ht.typeIs (wpAny_pure ?_))
 rw [if_pos (by decide)]
 first
  | exact wpAny_bind (wpAny_rule (wpAny_pure ⟨_,rfl,wpAny_pure h⟩))
  | exact wpAny_bind (wpAny_rule (wpAny_bind (wpAny_pure (wpAny_pure ⟨_,rfl,wpAny_pure h⟩))))
end
section
variable {X:Cx}
def TU (K:PySem.W.Frag):V→Option Int→Option Int→Hp→VK→Prop:=fun x lo hi H Q=>∃a xs,x = .ref a∧SqT K H a xs∧(HT.sIx xs.length 0 lo=0∧HT.sIx xs.length xs.length hi=xs.length)∧Q (.ref a) H
theorem Sb:SlR X (TU X.K):=by
 intro pins s σ H x v vl vu lo hi sl Q I rx hs pl pu h
 obtain ⟨a,xs,rfl,hx,hw,q⟩:=h
 cases rx
 obtain ⟨its,r,ht,hz⟩:=I.tuple hx
 have hlen:its.toArray.size=xs.length:=by rw [List.size_toArray];exact r.length.symm
 exact ⟨"tuple",_,PyProof.Rows.slot_tuple_getitem.lookup,ht.typeIs,Gi ht hs pl pu (by rw [hlen];exact hw) ⟨.ref a,H,I,rfl,q⟩⟩
end
def Its (z:Str):It:=⟨fun i _=>i < z.cps.size,fun i H x H'=>H'=H∧∃c,z.cps[i]?=some c∧x = .str ⟨#[c]⟩,fun i _=>i=z.cps.size⟩
theorem Lq {P:Program} {w:World} {K:PySem.W.Frag} {tg:Expr} {T:String} {x:Str} {t:Tok} (it:Addr) (hT:["enumerate", "zip", "dict_itemiterator", "dict_reverseitemiterator", "odict_iterator", "itertools.zip_longest", "itertools.pairwise"].contains T=false)
 (W:∀A:Around,A.handled=none→Walks P w A it [it] [it] x.cps.size (SignAt x) (fun i h=>h.IsStrIter it T x t i))
 (self:∀(A:Around) (i:Nat) (s:Shared) (Q:Value→Shared→Prop) (E:Value→Shared→Prop),s.heap.IsStrIter it T x t i→Q (.ref it) s→wpAny (model P w) A (pyIter (.ref it)) Q E s) :
 Turn P w K tg (Its x) [it] it (fun i h=>h.IsStrIter it T x t i) where
 mem:=by simp
 obj:=fun i h st b hb=>by
  have e:b=it:=by simpa using hb
  subst e
  obtain ⟨o,e,c,d⟩:=st
  exact ⟨o,e,fun v z=>by rw [d] at z;cases z⟩
 keep:=fun i h h' st k=>by
  obtain ⟨o,e,r⟩:=st
  exact ⟨o,k it (by simp) o e,r⟩
 item:=by
  intro X hP hw hK hc i pins s σ H E I hf st hg
  subst hP hw hK
  obtain ⟨f0,f1,f2,f3,f4,f5⟩:=hf it (by simp)
  refine wpAny_with_toks (Nat.le_refl s.toks) ((W X.A (I.ok.hd hc)).item i s _ _ hg st fun v h' tk hv st' kk ht=>?_)
  obtain ⟨c,u,hcc,rfl⟩:=hv
  have I1:Inv X pins σ H { s with heap:=h',toks:=tk }:=I.turned (fun b o hb e=>kk b o (by simpa using hb) e) f0 f1 f3 f4 f5
  obtain ⟨o,e,ec,ed⟩:=id st'
  exact ⟨_,rfl,J8 (s:={ s with heap:=h',toks:=tk }) e ec ed hT ⟨.str ⟨#[c]⟩,H,I1,⟨u,rfl⟩,⟨rfl,c,hcc,rfl⟩,st',fun b hb=>(hf b hb).1⟩⟩
 done:=by
  intro X hP hw hK hc i pins s σ H E I hf st hg
  subst hP hw hK
  obtain ⟨f0,f1,f2,f3,f4,f5⟩:=hf it (by simp)
  have hg':i=x.cps.size:=hg
  subst hg'
  exact wpAny_with_toks (Nat.le_refl s.toks) ((W X.A (I.ok.hd hc)).done s _ _ st fun h' tk kk ht=>⟨rfl,I.turned (fun b o hb e=>kk b o (by simpa using hb) e) f0 f1 f3 f4 f5⟩)
 self:=fun A i s Q E st h=>self A i s Q E st h
section
variable {X:Cx} {tg:Expr} {pos:Pos}
def VO (K:PySem.W.Frag) (tl:TE):TI:=fun σ H R=>tl σ H fun x H1=>(∃a,x = .ref a∧(∃xs,SqL K H1 a xs)∧R (Itl K a) H1)∨(∃a,x = .ref a∧(∃xs,SqT K H1 a xs)∧R (Itt K a) H1)∨∃z,x = .str z∧R (Its z) H1
theorem N8 {l:Expr} {tl:TE} (hl:PE X l tl):PI X tg l (VO X.K tl):=by
 intro pins s σ H R I h
 refine thn (hl pins s σ H _ I h) fun v s1 ⟨x,H1,I1,r1,q1⟩=>?_
 have fp:∀b∈[s1.heap.objs.size],FpOk X pins H1 b:=fun b hb=>by
  have e:b=s1.heap.objs.size:=by simpa using hb
  subst e
  exact I1.fpOk (Nat.le_refl _) (I1.hok.fresh (Nat.le_refl _))
 rcases q1 with ⟨a,rfl,⟨xs,hq⟩,q⟩ | ⟨a,rfl,⟨xs,hq⟩,q⟩ | ⟨z,rfl,q⟩
 ·cases r1
  obtain ⟨its,rv,p,hz⟩:=I1.list hq
  refine wpAny_pyIter_list p.isList ?_
  exact ⟨s1.heap.objs.size,[s1.heap.objs.size],_,_,H1,rfl,I1.kept (t':=s1.toks) fun b o e=>Heap.get?_push_of_some _ e,Ox a _,⟨_,Heap.get?_push_size _ rfl,rfl,rfl⟩,fp,q⟩
 ·cases r1
  obtain ⟨its,rv,p,hz⟩:=I1.tuple hq
  refine wpAny_pyIter_tuple (show s1.heap.IsTuple a its.toArray from p) ?_
  exact ⟨s1.heap.objs.size,[s1.heap.objs.size],_,_,H1,rfl,I1.kept (t':=s1.toks) fun b o e=>Heap.get?_push_of_some _ e,Nd a _,⟨_,Heap.get?_push_size _ rfl,rfl,rfl⟩,fp,q⟩
 ·obtain ⟨t,rfl⟩:=r1
  cases ha:z.cps.all (· < 128)
  ·refine wpAny_pyIter_wide ha ?_
   exact ⟨s1.heap.objs.size,[s1.heap.objs.size],_,_,H1,rfl,I1.kept (t':=s1.toks) fun b o e=>Heap.get?_push_of_some _ e,Lq (T:="str_iterator") (x:=z) (t:=t) _ (by decide) (fun A hA=>Walks.strWide hA _ z t) (fun _ _ _ _ _ st h=>wpAny_pyIter_striter_wide st h),⟨_,Heap.get?_push_size _ rfl,rfl,rfl⟩,fp,q⟩
  ·refine wpAny_pyIter_ascii ha ?_
   exact ⟨s1.heap.objs.size,[s1.heap.objs.size],_,_,H1,rfl,I1.kept (t':=s1.toks) fun b o e=>Heap.get?_push_of_some _ e,Lq (T:="str_ascii_iterator") (x:=z) (t:=t) _ (by decide) (fun A hA=>Walks.strAscii hA _ z t) (fun _ _ _ _ _ st h=>wpAny_pyIter_striter_ascii st h),⟨_,Heap.get?_push_size _ rfl,rfl,rfl⟩,fp,q⟩
def Qp:R2:=fun x y H Q=>∃z k,x = .str z∧y = .int k∧MulOk z k∧Q (.str (Txt.mul z k)) H
theorem Rn:OpR X (binaryOp .Mult) Qp:=by
 intro pins s σ H x y v u Q I rx ry h
 obtain ⟨z,k,rfl,rfl,hk,q⟩:=h
 obtain ⟨t,rfl⟩:=rx
 obtain ⟨t',rfl⟩:=ry
 exact wpAny_with_toks (Nat.le_refl s.toks) (SB.mul hk fun t2 tk ht=>⟨.str _,H,I.tok tk,⟨t2,rfl⟩,q⟩)
def TQ:V→Option Int→Option Int→Hp→VK→Prop:=fun x lo hi H Q=>∃z,x = .str z∧z.length≤sizeLine∧Q (.str (Txt.slice z lo hi)) H
theorem sl_str:SlR X TQ:=by
 intro pins s σ H x v vl vu lo hi sl Q I rx hs pl pu h
 obtain ⟨z,rfl,hz,q⟩:=h
 obtain ⟨t,rfl⟩:=rx
 refine ⟨"str",_,PySem.F.slot_str_getitem.lookup,typeIs_str _ _ _,?_⟩
 have part:∀{v:Value} {o:Option Int},IsPart v o→∃l:Option (Int×Tok),v=partValue l∧l.map (·.1)=o:=fun {v o} p=>by
  cases p with
  | none=>exact ⟨none,rfl,rfl⟩
  | int i t=>exact ⟨some (i,t),rfl,rfl⟩
 obtain ⟨l,rfl,el⟩:=part pl
 obtain ⟨u,rfl,eu⟩:=part pu
 refine wpAny_getItem_str_slice (l:=l) (u:=u) (st:=none) (by obtain ⟨o,h1,h2,h3⟩:=hs;exact ⟨o,h1,h2,h3⟩) rfl ?_
 unfold sliceMade slicePicked
 rw [el,eu]
 show (if ((1:Int) == 1 && (Builtin.Str.strSliceIndices lo hi 1 z.length).length == z.length)=true then Made.val (.str z t) else Made.str ⟨((Builtin.Str.strSliceIndices lo hi 1 z.length).filterMap (z.cps[·]?)).toArray⟩).post _ s
 have hle:=Txt.slice_le z lo hi
 unfold Txt.slice at q hle
 by_cases hc:((1:Int) == 1 && (Builtin.Str.strSliceIndices lo hi 1 z.length).length == z.length)=true
 ·rw [if_pos hc] at q ⊢
  exact ⟨.str z,H,I,⟨t,rfl⟩,q⟩
 ·rw [if_neg hc] at q hle ⊢
  exact ⟨Nat.le_trans hle hz,.str _,H,I.tok _,⟨_,rfl⟩,q⟩
def F0 (g:Int→Int→Bool) (h:List Nat→List Nat→Bool):R2:=fun x y H Q=>(∃i j,x = .int i∧y = .int j∧Q (.bl (g i j)) H)∨∃i j,x = .str i∧y = .str j∧Q (.bl (h i.cps.toList j.cps.toList)) H
theorem Gy:OpR X (compareOp .Lt) (F0 (fun i j=>decide (i < j)) fun i j=>decide (i < j)):=op_lt.or fun pins s σ H x y v u Q I rx ry h=>by
 obtain ⟨i,j,rfl,rfl,q⟩:=h
 obtain ⟨t,rfl⟩:=rx
 obtain ⟨t',rfl⟩:=ry
 exact P.lt_str ⟨.bl _,H,I,rfl,q⟩
theorem Fw:OpR X (compareOp .LtE) (F0 (fun i j=>decide (i≤j)) fun i j=>!(decide (j < i))):=op_le.or fun pins s σ H x y v u Q I rx ry h=>by
 obtain ⟨i,j,rfl,rfl,q⟩:=h
 obtain ⟨t,rfl⟩:=rx
 obtain ⟨t',rfl⟩:=ry
 exact P.le_str ⟨.bl _,H,I,rfl,q⟩
theorem N3:OpR X (compareOp .Gt) (F0 (fun i j=>decide (j < i)) fun i j=>decide (j < i)):=op_gt.or fun pins s σ H x y v u Q I rx ry h=>by
 obtain ⟨i,j,rfl,rfl,q⟩:=h
 obtain ⟨t,rfl⟩:=rx
 obtain ⟨t',rfl⟩:=ry
 exact P.gt_str ⟨.bl _,H,I,rfl,q⟩
theorem Th:OpR X (compareOp .GtE) (F0 (fun i j=>decide (j≤i)) fun i j=>!(decide (i < j))):=op_ge.or fun pins s σ H x y v u Q I rx ry h=>by
 obtain ⟨i,j,rfl,rfl,q⟩:=h
 obtain ⟨t,rfl⟩:=rx
 obtain ⟨t',rfl⟩:=ry
 exact P.ge_str ⟨.bl _,H,I,rfl,q⟩
end
end L2
namespace F2
open PySem L2 PySem.Spec
def Dv:D→M (List D)
 | .lst ds=>ret ds
 | .scr ns=>ret (ns.map .int)
 | .tup ds=>ret ds
 | .str x=>ret (x.cps.toList.map fun c=>.str ⟨#[c]⟩)
 | _=>fail
def Ev (f:M D):M (List D):=bnd f Dv
def Ez:D→D→M D
 | .str x,.int k=>fun t=>if B5 k=true∧x.length * k.toNat≤LIM∧k≤LIM∧x.length≤LIM then some (.str (Txt.mul x k),t) else none
 | x,y=>KS x y
def Dp:D→Option Int→Option Int→M D
 | .str x,lo,hi=>lim x.length (.str (Txt.slice x lo hi))
 | .tup ds,lo,hi=>ret (.tup (cutD ds lo hi))
 | x,lo,hi=>slD x lo hi
def KB (g:Int→Int→Bool) (h:List Nat→List Nat→Bool):D→D→M D
 | .int i,.int j=>ret (.bl (g i j))
 | .str x,.str y=>ret (.bl (h x.cps.toList y.cps.toList))
 | _,_=>fail
def ltA:=KB (fun i j=>decide (i < j)) (fun i j=>decide (i < j))
def leA:=KB (fun i j=>decide (i≤j)) (fun i j=>!(decide (j < i)))
def gtA:=KB (fun i j=>decide (j < i)) (fun i j=>decide (j < i))
def geA:=KB (fun i j=>decide (j≤i)) (fun i j=>!(decide (i < j)))
def unS (n:Nat) (g:List D→M Unit):D→M Unit
 | .tup ds=>if ds.length=n then g ds else fail
 | .lst ds=>if ds.length=n then g ds else fail
 | _=>fail
def VF:M D:=fC .dic
section
variable {X:Cx} {e a b:Expr} {pos:Pos} {st:Stmt}
theorem DM {μ:Cf→Hp→D→(V→Hp→Prop)→Prop}:PS X st (RSg X.K μ fail):=fun pins s σ H E I ⟨Oo,c,t,fi,o,t',eq,k⟩=>by cases eq
theorem ItOk.str {K:PySem.W.Frag} {c:Cf} {H:Hp} {x:Str}:ItOk K (Its x) c H (x.cps.toList.map fun c=>.str ⟨#[c]⟩):=by
 refine ⟨fun c' H' i ex hi=>?_,fun c' H' i y H'' d ex hd hy=>?_,fun c' H' ex=>?_⟩
 ·show i < x.cps.size
  simpa using hi
 ·obtain ⟨rfl,n,hn,rfl⟩:=hy
  refine ⟨rfl,?_⟩
  have:d = .str ⟨#[n]⟩:=by
   rw [List.getElem?_map] at hd
   have hn':x.cps.toList[i]?=some n:=by simpa using hn
   rw [hn'] at hd
   simpa using hd.symm
  rw [this]
  exact .str _
 ·show _=x.cps.size
  simp
theorem En {tg:Expr} {f:M D} (h:PE X e (RE X.K f)):PI X tg e (RI X.K (Ev f)):=
 Kj (N8 h) fun σ H R ⟨Oo,c,t,fi,ds,t',eq,k⟩=>by
  obtain ⟨d,t1,e1,eq⟩:=Ao eq
  refine ⟨Oo,c,t,fi,d,t1,e1,fun v H1 c1 f1 s1 rv=>?_⟩
  cases rv with
  | @lst p vs ds' h1 h2 h3=>
    cases eq
    exact .inl ⟨p,rfl,⟨vs,SqL.of h1⟩,k _ H1 c1 f1 s1 (ItOk.lst fun c' H' ex=>⟨vs,SqL.of (ex.keep _ _ h1 h2),h3.mono ex⟩)⟩
  | @scr p ns h1=>
    cases eq
    exact .inl ⟨p,rfl,⟨_,h1.sq⟩,k _ H1 c1 f1 s1 (ItOk.lst fun c' H' ex=>⟨_,(h1.mono ex).sq,Reps.ints ns⟩)⟩
  | @tup p vs ds' h1 h2 h3=>
    cases eq
    exact .inr (.inl ⟨p,rfl,⟨vs,SqT.of h1⟩,k _ H1 c1 f1 s1 (ItOk.tup fun c' H' ex=>⟨vs,SqT.of (ex.keep _ _ h1 h2),h3.mono ex⟩)⟩)
  | str x=>
    cases eq
    exact .inr (.inr ⟨x,rfl,k _ H1 c1 f1 s1 ItOk.str⟩)
  | _=>cases eq
theorem RG.un {K:PySem.W.Frag} {n:Nat} {g:List D→M Unit} {v:V} {σ:L2.St} {H:Hp} {Q:L2.St→Hp→Prop} (q:RG K (unS n g) v σ H Q):gUn K n (RGs K g) v σ H Q:=by
 obtain ⟨Oo,c,t,d,fi,rv,t',eq,k⟩:=q
 cases rv with
 | @tup a vs ds h1 h2 h3=>
   unfold unS at eq
   by_cases hn:ds.length=n
   ·dsimp only at eq
    rw [if_pos hn] at eq
    exact ⟨a,vs,rfl,.inl (SqT.of h1),by rw [h3.length];exact hn,Oo,c,t,ds,fi,h3,t',eq,k⟩
   ·dsimp only at eq
    rw [if_neg hn] at eq;cases eq
 | @lst a vs ds h1 h2 h3=>
   unfold unS at eq
   by_cases hn:ds.length=n
   ·dsimp only at eq
    rw [if_pos hn] at eq
    exact ⟨a,vs,rfl,.inr (SqL.of h1),by rw [h3.length];exact hn,Oo,c,t,ds,fi,h3,t',eq,k⟩
   ·dsimp only at eq
    rw [if_neg hn] at eq;cases eq
 | _=>cases eq
theorem Uu {es:List Expr} {k n:Nat} {g:List D→M Unit} (hc:X.calm=true) (h:PGs X es (RGs X.K g)) (hn:(assignEach es X.env).length=n:=by rfl) (hst:(assignEach es X.env).findIdx? (·.1)=none:=by rfl):PG X (.Tuple es k pos) (RG X.K (unS n g)):=
 Ki (UC hc h hn hst) fun _ _ _ _ q=>RG.un q
theorem KK {es:List Expr} {f:D→M Unit} {g:List D→M Unit} (h1:PG X e (RG X.K f)) (h2:PGs X es (RGs X.K g)) (hs:(assignEach (e :: es) X.env).map (·.2)=assign e X.env :: (assignEach es X.env).map (·.2):=by rfl):PGs X (e :: es) (RGs X.K (D9 f g)):=
 LY (Pl h1 h2 hs) fun _ _ _ _ q=>RGs.cons q
end
section
variable {K:PySem.W.Frag}
def Qo (K:PySem.W.Frag):R2:=fun x y H Q=>M8 K x y H Q∨Qp x y H Q
theorem GR {X:Cx}:OpR X (binaryOp .Mult) (Qo X.K):=op_mul3.or Rn
theorem LN {x:Str} {k:Int} (h:B5 k=true∧x.length * k.toNat≤LIM∧k≤LIM∧x.length≤LIM):MulOk x k:=by
 obtain ⟨g1,g2⟩:=Fg h.1
 have hL:LIM=100000:=rfl
 refine ⟨?_,fun h1 _=>?_,fun h1 _=>?_⟩
 ·rw [Bool.or_eq_false_iff];exact ⟨decide_eq_false (by lia),decide_eq_false (by lia)⟩
 ·have h2:k≤100000:=by have:=h.2.2.1;rw [hL] at this;exact this
  have h3:x.length≤100000:=by have:=h.2.2.2;rw [hL] at this;exact this
  have h4:(92233720368547:Int)≤(2 ^ 63 - 1) / k:=by
   rw [Int.le_ediv_iff_mul_le (by lia)]
   lia
  lia
 ·have h5:=h.2.1
  rw [hL] at h5
  unfold Builtin.Str.tooLong
  first | exact decide_eq_false (by unfold sizeLine;lia) | (unfold sizeLine;exact decide_eq_false (by lia))
theorem F4:BJ K (Qo K) Ez:=fun {Oo c t σ H x y dx dy r t' Q} f rx ry eq k=>by
 unfold Ez at eq
 split at eq
 ·next z kk=>
  split at eq
  ·next h=>
   cases eq
   cases rx
   cases ry
   exact .inr ⟨z,kk,rfl,rfl,LN h,k _ H c f .refl (.str _)⟩
  ·cases eq
 ·exact .inl (R5 f rx ry eq k)
def TM (K:PySem.W.Frag):V→Option Int→Option Int→Hp→VK→Prop:=fun x lo hi H Q=>PD K x lo hi H Q∨(TQ x lo hi H Q∨TU K x lo hi H Q)
theorem sl3 {X:Cx}:SlR X (TM X.K):=sl2.or (sl_str.or Sb)
theorem MN {α:Type} {xs:List α} {lo hi:Option Int} (h:HT.sIx xs.length 0 lo=0∧HT.sIx xs.length xs.length hi=xs.length):cutD xs lo hi=xs:=by
 unfold cutD;rw [h.1,h.2];simp
theorem FE:OI K (TM K) Dp:=fun {Oo c t σ H x dx r lo hi t' Q} f rx eq k=>by
 unfold Dp at eq
 split at eq
 ·next z=>
  obtain ⟨h,e⟩:=DG eq
  cases e
  cases rx
  exact .inr (.inl ⟨z,rfl,Nat.le_trans h Cr,k _ H c f .refl (.str _)⟩)
 ·next ds=>
  cases eq
  cases rx with
  | @tup p vs ds h1 h2 h3=>
    by_cases hw:HT.sIx ds.length 0 lo=0∧HT.sIx ds.length ds.length hi=ds.length
    ·rw [MN hw] at k
     exact .inr (.inr ⟨p,vs,rfl,SqT.of h1,by rw [h3.length];exact hw,k _ H c f .refl (.tup h1 h2 h3)⟩)
    ·exact .inl (.inr ⟨p,vs,rfl,SqT.of h1,by rw [h3.length];exact hw,fun q hq=>k _ _ c (f.laid hq) (f.stp_laid hq) (.tup AW (f.s.free hq) ((Hj h3 lo hi).mono (Ext.laid f.s hq)))⟩)
 ·exact .inl (T0 f rx eq k)
theorem GV {g:Int→Int→Bool} {h:List Nat→List Nat→Bool}:BJ K (F0 g h) (KB g h):=fun {Oo c t σ H x y dx dy r t' Q} f rx ry eq k=>by
 cases rx with
 | int i=>cases ry with
   | int j=>cases eq;exact .inl ⟨i,j,rfl,rfl,k _ H c f .refl (.bl _)⟩
   | _=>cases eq
 | str i=>cases ry with
   | str j=>cases eq;exact .inr ⟨i,j,rfl,rfl,k _ H c f .refl (.bl _)⟩
   | _=>cases eq
 | _=>cases eq
theorem FC:BJ K (F0 (fun i j=>decide (i < j)) fun i j=>decide (i < j)) ltA:=GV
theorem EJ:BJ K (F0 (fun i j=>decide (i≤j)) fun i j=>!(decide (j < i))) leA:=GV
theorem Mp:BJ K (F0 (fun i j=>decide (j < i)) fun i j=>decide (j < i)) gtA:=GV
theorem R3:BJ K (F0 (fun i j=>decide (j≤i)) fun i j=>!(decide (i < j))) geA:=GV
end
theorem Bu {P:Program} {w:World} {K:PySem.W.Frag} {mg:Str→Option Value} {base:Heap} {x qual:Str} {st:Stmt} {fa:Addr} {fd:FuncData} {N ps:List Str} {k n m:Nat} {g:M Out} (e1:ps.length=n) (e2:N.length=m) (F:Fun K x qual st fa fd) (S:FnScope N ps (AF st))
 (hb:∀(cdv:Value) (A:Around) (outer:List Env) (s:Shared) (H:Hp) (E:XK),Room k (A.deeper (PyProof.Rows.envOfC qual (AF st) s.heap.objs.size fa cdv))→
   PSs (FP CX0 P w K mg base N qual (AF st) fa cdv A outer s H E).nox (CO st) (RS K g)):FnOk P w K mg base CX0 (k + 1) fa fd ps (spF K (fnOf n m g)):=by
 subst e1 e2
 exact Uv F S hb
theorem Bp {P:Program} {w:World} {K:PySem.W.Frag} {mg:Str→Option Value} {base:Heap} {fa:Addr} {fd:FuncData} {ps:List Str} {k:Nat} {f g:Fn} (e:f=g) (h:FnOk P w K mg base CX0 k fa fd ps (spF K g)):FnOk P w K mg base CX0 k fa fd ps (spF K f):=by rw [e];exact h
theorem B0:bootBuiltins "len" = some (.builtin "len"):=by decide +kernel
theorem AR:bootBuiltins "isinstance" = some (.builtin "isinstance"):=by decide +kernel
theorem SG:bootBuiltins "ord" = some (.builtin "ord"):=by decide +kernel
theorem Kq:bootBuiltins "min" = some (.builtin "min"):=by decide +kernel
theorem EM:bootBuiltins "int" = some (.type "int"):=by decide +kernel
theorem C5:bootBuiltins "str" = some (.type "str"):=by decide +kernel
theorem L6:bootBuiltins "bool" = some (.type "bool"):=by decide +kernel
theorem BV:bootBuiltins "list" = some (.type "list"):=by decide +kernel
theorem Cv:bootBuiltins "tuple" = some (.type "tuple"):=by decide +kernel
def Db:Expr→Bool
 | .Starred _ _=>true
 | _=>false
theorem DO {e:Expr} {es:List Expr} {env:Env} (h:Db e=false):starEach (e :: es) env=(false,eval e env) :: starEach es env:=by
 cases e <;> first | rfl | cases h
def CT (es:List Expr):Bool:=es.all fun e=>!Db e
theorem Cp:∀{es:List Expr} {env:Env} {p:Pos},CT es=true→(backTo p (starEach es env)).any (·.1)=false∧(backTo p (starEach es env)).all (fun x=>!x.1)=true
 | [],env,p,_=>⟨rfl,rfl⟩
 | e :: es,env,p,h=>by
   have h':Db e=false∧CT es=true:=by
    rw [CT,List.all_cons,Bool.and_eq_true] at h
    exact ⟨by simpa using h.1,h.2⟩
   obtain ⟨h1,h2⟩:=Cp (es:=es) (env:=env) (p:=p) h'.2
   rw [DO h'.1]
   refine ⟨?_,?_⟩
   ·show (false || (backTo p (starEach es env)).any (·.1))=false
    rw [h1];rfl
   ·show (!false && (backTo p (starEach es env)).all (fun x=>!x.1))=true
    rw [h2];rfl
section
variable {X:Cx} {e a b:Expr} {es:List Expr} {pos:Pos}
theorem Aa {f:M D} {g:M (List D)} (ha:PE X e (RE X.K f)) (hr:PA X es (RA X.K g)) (hs:Db e=false:=by rfl):PA X (e :: es) (RA X.K (Ab f g)):=QO ha hr (DO hs)
theorem Ak {k:Nat} {fa:Addr} {fd:FuncData} {ps:List Str} {g:Fn} {f:M (List D)} {x:Str} {p:Pos} (F:FnOk X.prog X.w X.K X.mg X.base CX0 k fa fd ps (spF X.K g)) (hr:Room k X.A) (hg:Gl X x) (hm:X.mg x=some (.ref fa)) (hk:PySem.W.keepIn X.K (.ref fa)=true) (hb:Binds X.K fd ps [])
 (ha:PA X (e :: es) (RA X.K f)) (hdb:(x == ("__debug__" : Str))=false:=by decide) (h1:Db e=false:=by rfl) (h2:CT es=true:=by rfl) :
 PE X (.Call (.Name x p) (e :: es) [] pos) (RE X.K (An g f)):=QP F hr hg hm hk hb ha hdb (DO h1) (Cp h2).1
theorem Bd {id:String} {R:List V→Hp→VK→Prop} {h:List D→M D} {f:M (List D)} {x:Str} {p:Pos} (hc:Cb X (.builtin id) R) (s:DF X.K R h) (hg:Gl X x) (hm:X.mg x=none) (hv:bootBuiltins x=some (.builtin id)) (ha:PA X (e :: es) (RA X.K f)) (hn:x≠"__name__":=by decide) (hdb:(x == ("__debug__" : Str))=false:=by decide)
 (h1:Db e=false:=by rfl) (h2:CT es=true:=by rfl):PE X (.Call (.Name x p) (e :: es) [] pos) (RE X.K (fB f h)):=VG hc s hg hm hv ha hn hdb (DO h1) (Cp h2).1
theorem Ed {id:String} {R:List V→Hp→VK→Prop} {h:List D→M D} {f:M (List D)} {x:Str} {p:Pos} (hc:Cb X (.type id) R) (s:DF X.K R h) (hg:Gl X x) (hm:X.mg x=none) (hv:bootBuiltins x=some (.type id)) (ha:PA X (e :: es) (RA X.K f)) (hn:x≠"__name__":=by decide) (hdb:(x == ("__debug__" : Str))=false:=by decide)
 (h1:Db e=false:=by rfl) (h2:CT es=true:=by rfl):PE X (.Call (.Name x p) (e :: es) [] pos) (RE X.K (fB f h)):=VH hc s hg hm hv ha hn hdb (DO h1) (Cp h2).1
theorem J6 {id:String} {R:List V→Hp→VK→Prop} {h:List D→M (List D)} {f:M (List D)} {x:Str} {p:Pos} (hc:Cb X (.type id) R) (s:J1 X.K R h) (hg:Gl X x) (hm:X.mg x=none) (hv:bootBuiltins x=some (.type id)) (ha:PA X (e :: es) (RA X.K f)) (hn:x≠"__name__":=by decide) (hdb:(x == ("__debug__" : Str))=false:=by decide)
 (h1:Db e=false:=by rfl) (h2:CT es=true:=by rfl):PE X (.Call (.Name x p) (e :: es) [] pos) (RF X.K (fBF f h)):=VI hc s hg hm hv ha hn hdb (DO h1) (Cp h2).1
theorem BY {tg:Expr} {f:M (List D)} {p:Pos} (hg:Gl X "range") (hm:X.mg "range" = none) (ha:PA X [a] (RA X.K f)) (h1:Db a=false:=by rfl):PI X tg (.Call (.Name "range" p) [a] [] pos) (RI X.K (Cw f)):=NI hg hm ha (DO h1)
theorem SN {cpos:Pos} (h1:Db e=false) (h2:CT es=true) (h3:es.length < 20):((backTo cpos (starEach (e :: es) X.env)).all (fun x=>!x.1) && (backToKw cpos (keywordEach [] X.env)).all (fun x=>x.1.isSome) && decide ((e :: es).length + ([]:List Keyword).length + (if ([]:List Keyword).isEmpty then 0 else 1) < 30))=true:=by
 rw [(Cp (es:=e :: es) (env:=X.env) (p:=cpos) (by rw [CT,List.all_cons,h1];exact h2)).2]
 show (true && true && decide (es.length + 1 + 0 + 0 < 30))=true
 simp;lia
theorem MR {μ:Cf→Hp→D→(V→Hp→Prop)→Prop} (i:Nat) {x:Str} {g:M (List D)} {px apos cpos:Pos} (ha:PA X (e :: es) (RA X.K g)) (hN:X.N[i]?=some x:=by rfl) (hv:Vis X.env.scope x:=by first | exact Or.inl rfl | exact Or.inr (Or.inl rfl) | exact Or.inr (Or.inr rfl)) (hd:(x == ("__debug__" : Str))=false:=by decide)
 (hcd:(x == ("__classdict__" : Str))=false:=by decide) (hline:(apos.endLine == cpos.line)=true:=by rfl) (h1:Db e=false:=by rfl) (h2:CT es=true:=by rfl) (h3:es.length < 20:=by decide) :
 PS X (.Expr (.Call (.Attribute (.Name x px) "append" apos) (e :: es) [] cpos) pos) (RSg X.K μ (ownM i D5 g)):=NJ i ha hN hv hd hcd rfl (SN h1 h2 h3) hline (DO h1) (Cp h2).1
end
end F2
namespace HT
open PySem PySem.Spec L2 PyProof.Rows
section
variable {prog:Program} {w:World} {A:Around} {E:Value→Shared→Prop} {s:Shared}
end
end HT
namespace L2
open PySem PySem.Spec PyProof.Rows
section
variable {X:Cx} {e ek:Expr} {p2 pos:Pos} {te:TE} {tk:TO}
end
section
variable {X:Cx}
theorem Gp:∀{ys:List Str} {us:List Value},Vals (ys.map V.str) us→CarriedAll us (ys.map PyData.str)
 | [],_,r=>by cases r;exact .nil
 | _ :: _,_,r=>by
   cases r with
   | cons r1 r2=>obtain ⟨t,rfl⟩:=r1;exact .cons (.str _ _) (Gp r2)
def Qn (K:PySem.W.Frag):V→List V→Hp→VK→Prop:=fun x xs H Q=>∃z a ys,x = .str z∧xs=[.ref a]∧SqL K H a (ys.map V.str)∧(∀y∈ys,y.length≤8)∧z.length≤8∧ys.length≤1048576∧Q (.str (Txt.join z ys)) H
theorem Rc:MtR X "str.join" (Qn X.K):=by
 intro pins s σ H x xs v us Q I rx rs h
 obtain ⟨z,a,ys,rfl,rfl,ha,h1,h2,h3,q⟩:=h
 obtain ⟨t,rfl⟩:=rx
 obtain ⟨u,rfl,ru⟩:=DE rs
 cases ru
 obtain ⟨its,r,pl,_⟩:=I.list ha
 refine wpAny_with_toks (Nat.le_refl s.toks) (join_madeW (l:=ys) (g:=id) 8 pl.isList (by rw [List.map_id];exact Gp r) h1 h3 (by lia) fun t' k ht=>?_)
 rw [List.map_id]
 exact ⟨.str _,H,I.tok _,⟨_,rfl⟩,q⟩
end
section
variable {X:Cx}
end
section
variable {X:Cx}
end
end L2
namespace F2
open PySem L2 PySem.Spec
section
variable {X:Cx} {K:PySem.W.Frag}
def E5:List D→Option (List Str)
 | []=>some []
 | .str x :: r=>if x.length≤8 then (E5 r).map (x :: ·) else none
 | _=>none
def joinM (f:M D) (g:M (List D)):M D:=bnd f fun o=>bnd g fun as=>match o,as with
 | .str z,[.lst ds]=>fun t=>match E5 ds with
   | some ys=>if z.length≤8∧ys.length≤1048576 then some (.str (Txt.join z ys),t) else none
   | none=>none
 | _,_=>fail
theorem Lk {c:Cf} {H:Hp}:∀{ds:List D} {vs:List V} {ys:List Str},Reps K c H vs ds→E5 ds=some ys→vs=ys.map V.str∧∀y∈ys,y.length≤8
 | [],_,ys,r,e=>by
   cases r
   cases e
   exact ⟨rfl,fun _ h=>nomatch h⟩
 | d :: ds,_,ys,r,e=>by
   cases r with
   | cons r1 r2=>
     cases r1 with
     | str x=>
       unfold E5 at e
       split at e
       ·next hx=>
        obtain ⟨zs,e1,rfl⟩:=Option.map_eq_some_iff.mp e
        obtain ⟨h1,h2⟩:=Lk r2 e1
        refine ⟨by rw [h1];rfl,fun y hy=>?_⟩
        rcases List.mem_cons.mp hy with rfl | hy
        ·exact hx
        ·exact h2 y hy
       ·cases e
     | _=>cases e
theorem RE.joinM {f:M D} {g:M (List D)} {σ:L2.St} {H:Hp} {Q:VK} (q:RE K (F2.joinM f g) σ H Q):tBM K "str" (Qn K) (RE K f) (RA K g) σ H Q:=by
 obtain ⟨Oo,c,t,fi,r,t',eq,k⟩:=q
 obtain ⟨d,t1,e1,eq⟩:=Ao eq
 obtain ⟨as,t2,e2,eq⟩:=Ao eq
 refine ⟨Oo,c,t,fi,d,t1,e1,fun v H1 c1 f1 s1 rv=>?_⟩
 split at eq
 ·next z ds=>
  cases rv
  refine ⟨rfl,Oo,c1,t1,f1,_,t2,e2,fun us H2 c2 f2 s2 rus=>?_⟩
  obtain ⟨w,rfl,rw'⟩:=DC rus
  split at eq
  ·next ys ey=>
   split at eq
   ·next hz=>
    cases eq
    cases rw' with
    | @lst p vs ds h1 h2 h3=>
      obtain ⟨h4,h5⟩:=Lk h3 ey
      subst h4
      exact ⟨_,p,ys,rfl,rfl,SqL.of h1,h5,hz.1,hz.2,k _ _ c2 f2 (s1.trans s2) (.str _)⟩
   ·cases eq
  ·cases eq
 ·cases eq
theorem QR {o e:Expr} {es:List Expr} {f:M D} {g:M (List D)} {apos cpos:Pos} (ho:PE X o (RE X.K f)) (ha:PA X (e :: es) (RA X.K g))
 (hbase:attributeBase o "join" X.env (eval o X.env)=eval o X.env:=by rfl)
 (hfew:((backTo cpos (starEach (e :: es) X.env)).all (fun x=>!x.1) && (backToKw cpos (keywordEach [] X.env)).all (fun x=>x.1.isSome) && decide ((e :: es).length + ([]:List Keyword).length + (if ([]:List Keyword).isEmpty then 0 else 1) < 30))=true:=by rfl)
 (hline:(apos.endLine == cpos.line)=true:=by rfl) (hs:starEach (e :: es) X.env=(false,eval e X.env) :: starEach es X.env:=by rfl) (hplain:(backTo cpos (starEach es X.env)).any (·.1)=false:=by rfl) :
 PE X (.Call (.Attribute o "join" apos) (e :: es) [] cpos) (RE X.K (joinM f g)):=
 Bv (FX PySem.F.plainAttrs_str PySem.F.slot_str_join PySem.F.type_str_join Rc ho ha hbase hfew hline hs hplain) fun _ _ _ q=>RE.joinM q
end
end F2
namespace L2
open PySem PySem.Spec PyProof.Rows
def Oh:R2:=fun x y H Q=>∃a kvs k v,x = .ref a∧y = .str k∧H a=some (.dK kvs)∧EA kvs (Sum.inr k:Key)=some v∧Q v H
def TD:V→V→V→Hp→(Hp→Prop)→Prop:=fun o i v H Q=>∃a kvs k,o = .ref a∧i = .str k∧H a=some (.dK kvs)∧kvs.length < sizeLine∧Q (upd H a (.dK (Do kvs (Sum.inr k:Key) v)))
section
variable {X:Cx}
theorem HH:IxR X Oh:=by
 intro value slice pins s σ H x y v u Q I rx ry h hs
 obtain ⟨a,kvs,k,z,rfl,rfl,e,l,q⟩:=h
 cases rx
 obtain ⟨_,_,vs,rel,dd⟩:=MO I.hok e
 have g:DGet H a (kV (Sum.inr k:Key)) (some z):=by rw [←l];exact DGet.k e
 have hT:=dd.typeIs
 unfold subscriptTail
 refine wpAny_bind ?_
 rw [getitemInPython_of_ne hT.not_modules]
 refine wpAny_bind (wpAny_specialOf hT PySem.F.slot_dict_getitem.lookup ?_)
 have get:wpAny (model X.prog X.w) X.A (getItem (.ref a) u) (EP X pins σ Q) X.xe s:=by
  obtain ⟨w',hw,rw'⟩:=RelO.some_of (v:=z) (o:=valueAt vs (Sum.inr k:Key)) (by rw [←l];exact rel.val _)
  exact wpAny_getItem_of (MV (k:=(Sum.inr k:Key)) ry) dd.mapOf hw ⟨z,H,I.tok _,rw',q⟩
 have fin:wpAny (model X.prog X.w) X.A (subscripted slice false (.ref a) u) (fun r s₃=>wpAny (model X.prog X.w) X.A (letTemporaryGo value (.ref a) r >>= fun _=>pure r) (EP X pins σ Q) X.xe s₃) X.xe s:=by
  rw [hs]
  exact wpAny_operating (wpAny_mono get (fun r s₃ h₃=>wpAny_bind (wpAny_letTemporaryGo (wpAny_pure h₃))) fun _ _ x=>x)
 first
  | exact wpAny_pure (wpAny_bind fin)
  | exact wpAny_bind (wpAny_pure (wpAny_bind fin))
  | exact wpAny_bind fin
theorem R8:Sw X TD:=by
 intro pins s σ H o i v ov iv u Q I ro ri rv h
 obtain ⟨a,kvs,k,rfl,rfl,e,l,q⟩:=h
 cases ro
 obtain ⟨z,hd,vs,rel,dd⟩:=MO I.hok e
 have hz:vs.length≤sizeLine:=by rw [←rel.length];exact z
 have hl:(Do kvs (Sum.inr k:Key) v).length≤sizeLine:=by have:=G1 kvs (Sum.inr k:Key) v;lia
 refine wpAny_setItem_pairs (hsz:=hz) (MV (k:=(Sum.inr k:Key)) ri) dd fun h' dd' hs=>⟨_,?_,q⟩
 have he:∃q,h'.get? a=some q:=let ⟨q,_,_,hq,_⟩:=dd';⟨q,hq⟩
 exact L9 I (by rw [e];exact True.intro) hs he (ND hl hd (rel.put _ rv) dd')
end
end L2
namespace F2
open PySem L2 PySem.Spec
def Cq (kvs:List (Key×D)) (k:Key):Option D:=(kvs.find? fun kv=>decide (kv.1=k)).map (·.2)
def Cl (kvs:List (Key×D)) (k:Key) (d:D):List (Key×D):=
 if (kvs.any fun kv=>decide (kv.1=k))=true then kvs.map (fun kv=>if kv.1=k then (kv.1,d) else kv) else kvs++[(k,d)]
def Fa:D→D→M D
 | .obj n,.str x=>fun t=>match t.S[n]? with
   | some (.dct kvs)=>(Cq kvs (.inr x)).map fun d=>(d,t)
   | _=>none
 | _,_=>fail
def FG:D→D→D→M Unit
 | .obj n,.str x,d=>fun t=>match t.S[n]? with
   | some (.dct kvs)=>if kvs.length < LIM then some ((),{ t with S:=t.S.set n (.dct (Cl kvs (.inr x) d)) }) else none
   | _=>none
 | _,_,_=>fail
def H9 (f g:M D) (d:D):M Unit:=bnd f fun o=>bnd g fun i=>FG o i d
def Ds:List (Str×M D)→M (List (Key×D))
 | []=>ret []
 | (k,f) :: r=>bnd f fun d=>bnd (Ds r) fun ps=>ret ((.inr k,d) :: ps)
def Fv (ps:List (Key×D)):List (Key×D):=ps.foldl (fun acc kv=>Cl acc kv.1 kv.2) []
def Ir (n:Nat) (ps:List (Key×D)):M D:=fun t=>match t.S[n]? with
 | some (.dct [])=>if ps.length≤15 then some (.obj n,{ t with S:=t.S.set n (.dct (Fv ps)) }) else none
 | _=>none
def J5 (l:List (Str×M D)):M D:=fun t=>bnd (Ds l) (Ir t.S.length) { t with S:=t.S++[.dct []] }
section
variable {K:PySem.W.Frag} {c:Cf} {H:Hp}
theorem KVR.get {us:List (Key×V)} {kvs:List (Key×D)} (r:KVR K c H us kvs) (k:Key) {d:D} (e:Cq kvs k=some d):∃v,EA us k=some v∧Rep K c H v d:=by
 unfold KVR at r
 induction r with
 | nil=>simp [Cq] at e
 | @cons p q ps qs h t ih=>
   by_cases hk:p.1=k
   ·have hq:q.1=k:=h.1.symm.trans hk
    have:Cq (q :: qs) k=some q.2:=by simp [Cq,List.find?_cons,hq]
    rw [this] at e;cases e
    exact ⟨p.2,Lv hk,h.2⟩
   ·have hq:¬q.1=k:=fun z=>hk (h.1.trans z)
    have:Cq (q :: qs) k=Cq qs k:=by simp [Cq,List.find?_cons,hq]
    rw [this] at e
    rw [Lu hk]
    exact ih e
theorem KVR.any {us:List (Key×V)} {kvs:List (Key×D)} (r:KVR K c H us kvs) (k:Key):(us.any fun kv=>decide (kv.1=k))=(kvs.any fun kv=>decide (kv.1=k)):=by
 unfold KVR at r
 induction r with
 | nil=>rfl
 | @cons p q ps qs h t ih=>rw [List.any_cons,List.any_cons,ih,h.1]
theorem KVR.put {us:List (Key×V)} {kvs:List (Key×D)} (r:KVR K c H us kvs) (k:Key) {v:V} {d:D} (rv:Rep K c H v d):KVR K c H (Do us k v) (Cl kvs k d):=by
 unfold Do Cl
 rw [r.any k]
 by_cases q:(kvs.any fun kv=>decide (kv.1=k))=true
 ·rw [if_pos q,if_pos q]
  clear q
  unfold KVR at r ⊢
  induction r with
  | nil=>exact .nil
  | @cons p q ps qs h t ih=>
    rw [List.map_cons,List.map_cons]
    refine .cons ?_ ih
    by_cases e:p.1=k
    ·rw [if_pos e,if_pos (h.1.symm.trans e)];exact ⟨h.1,rv⟩
    ·rw [if_neg e,if_neg (fun z=>e (h.1.trans z))];exact h
 ·rw [if_neg q,if_neg q]
  exact Paired.snoc r ⟨rfl,rv⟩
theorem KVR.length {us:List (Key×V)} {kvs:List (Key×D)} (r:KVR K c H us kvs):us.length=kvs.length:=Paired.length r
theorem KVR.mono {c':Cf} {H':Hp} {us:List (Key×V)} {kvs:List (Key×D)} (e:Ext c H c' H') (r:KVR K c H us kvs):KVR K c' H' us kvs:=Paired.mapP r fun _ _ z=>⟨z.1,z.2.mono e⟩
theorem KVR.merge:∀{ps:List (Key×D)} {us:List (Key×V)} {acc:List (Key×D)} {ua:List (Key×V)},KVR K c H us ps→KVR K c H ua acc→KVR K c H (EY ua us) (ps.foldl (fun acc kv=>Cl acc kv.1 kv.2) acc):=by
 intro ps us acc ua r
 unfold KVR at r
 induction r generalizing acc ua with
 | nil=>intro q;exact q
 | @cons p q ps qs h t ih=>
   intro r0
   refine ih ?_
   show KVR K c H (Do ua p.1 p.2) (Cl acc q.1 q.2)
   have:=KVR.put r0 p.1 h.2
   rw [←h.1]
   exact this
theorem Ff:BJ K Oh Fa:=fun {Oo c t σ H x y dx dy r t' Q} f rx ry eq k=>by
 unfold Fa at eq
 split at eq
 ·next n z=>
  cases ry
  cases rx with
  | @obj a kk hk=>
    split at eq
    ·next kvs es=>
     obtain ⟨d,e1,e2⟩:=Option.map_eq_some_iff.mp eq
     cases e2
     obtain ⟨us,g1,g2⟩:=f.s.obs _ a _ hk es
     obtain ⟨v,e3,e4⟩:=g2.get _ e1
     exact ⟨a,us,z,v,rfl,rfl,g1,e3,k _ H c f .refl e4⟩
    ·cases eq
 ·cases eq
end
section
variable {X:Cx} {pos:Pos} {e:Expr}
theorem Gs {o i:Expr} {f g:M D} (ho:PE X o (RE X.K f)) (hi:PE X i (RE X.K g))
 (ha:∀v,assign (.Subscript o i pos) X.env v=(do
   let ov ←holding [v] (eval o X.env)
   let iv ←holding [v,ov] (eval i X.env)
   standAt pos
   holding [v,ov,iv] (setItem ov iv v)
   release [v,ov,iv] []):=by intro _;rfl):PG X (.Subscript o i pos) (RG X.K (H9 f g)):=
 Ki (Tt ho hi R8 ha) fun v σ H Q ⟨Oo,c,t,d,fi,rv,t',eq,k⟩=>by
  obtain ⟨d0,t1,e1,eq⟩:=Ao eq
  obtain ⟨di,t2,e2,eq⟩:=Ao eq
  refine ⟨Oo,c,t,fi,_,t1,e1,fun x H1 c1 f1 s1 rx=>⟨Oo,c1,t1,f1,di,t2,e2,fun y H2 c2 f2 s2 ry=>?_⟩⟩
  unfold FG at eq
  split at eq
  ·next n z dd=>
   cases ry
   cases rx with
   | @obj a kk hk=>
     split at eq
     ·next kvs es=>
      split at eq
      ·next hl=>
       cases eq
       have hk2:=s2.ext.io _ _ hk
       obtain ⟨us,g1,g2⟩:=f2.s.obs _ a _ hk2 es
       refine ⟨a,us,z,rfl,rfl,g1,by rw [g2.length];exact Nat.lt_trans hl Su,?_⟩
       have rv2:=rv.mono (s1.trans s2).ext
       obtain ⟨f3,s3⟩:=f2.wrObj (o:=.dct (Cl kvs (.inr z) d)) (u:=.dK (Do us (.inr z) v)) hk2 fun c' H' ext hu=>⟨_,hu,(g2.put _ rv2).mono ext⟩
       exact k σ _ c2 f3 ((s1.trans s2).trans s3)
      ·cases eq
     ·cases eq
  ·cases eq
def RP (K:PySem.W.Frag) (f:M (List (Key×D))) (σ:St) (H:Hp) (Q:List (V×V)→Hp→Prop):Prop:=
 ∃Oo c t,FInv K Oo c t σ H∧∃ps t',f t=some (ps,t')∧∀us H' c',FInv K Oo c' t' σ H'→Stp Oo c H c' H'→KVR K c' H' us ps→Q (us.map fun kv=>(kV kv.1,kv.2)) H'
def PPf (X:Cx) (pos:Pos) (keys:List (Option Expr)) (values:List Expr) (f:M (List (Key×D))):Prop:=
 ∃trs,PPs X pos keys values trs∧∀σ H Q,RP X.K f σ H Q→Ic trs σ H Q
theorem QY:PPf X pos [] [] (Ds []):=⟨[],RJ,fun σ H Q ⟨Oo,c,t,fi,ps,t',eq,k⟩=>by
 cases eq
 exact k [] H c fi .refl .nil⟩
theorem G9 {k:Str} {j:Nat} {kp:Pos} {v:Expr} {ks:List (Option Expr)} {vs:List Expr} {f:M D} {r:List (Str×M D)} (hv:PE X v (RE X.K f)) (hr:PPf X pos ks vs (Ds r)) :
 PPf X pos (some (.Constant (.str k) j kp) :: ks) (v :: vs) (Ds ((k,f) :: r)):=by
 obtain ⟨trs,h1,h2⟩:=hr
 refine ⟨_,Ps N6 hv h1,fun σ H Q ⟨Oo,c,t,fi,ps,t',eq,kk⟩=>?_⟩
 obtain ⟨d,t1,e1,eq⟩:=Ao eq
 obtain ⟨qs,t2,e2,eq⟩:=Ao eq
 cases eq
 refine ⟨Oo,c,t,fi,d,t1,e1,fun y H1 c1 f1 s1 ry=>?_⟩
 refine h2 σ H1 _ ⟨Oo,c1,t1,f1,qs,_,e2,fun us H2 c2 f2 s2 ru=>?_⟩
 exact kk ((.inr k,y) :: us) H2 c2 f2 (s1.trans s2) (.cons ⟨rfl,ry.mono s2.ext⟩ ru)
theorem QQ {keys:List (Option Expr)} {values:List Expr} {l:List (Str×M D)} (h:PPf X pos keys values (Ds l)) (hall:keys.all (·.isSome)=true:=by rfl) (hl:keys.length=values.length:=by rfl) (h0:keys≠[]:=by exact List.cons_ne_nil _ _)
 (h15:keys.length≤15:=by exact Nat.le_of_ble_eq_true rfl):PE X (.Dict keys values pos) (RE X.K (J5 l)):=by
 obtain ⟨trs,h1,h2⟩:=h
 refine Bv (Rt h1 hall hl h0 h15) fun σ H Q ⟨Oo,c,t,fi,r,t',eq,k⟩=>?_
 intro p hp
 obtain ⟨c1,f1,s1,e1⟩:=fi.newObj (o:=.dct []) (u:=.dK []) hp fun c' H' ex hu=>⟨[],hu,.nil⟩
 obtain ⟨ps,t2,e2,eq⟩:=Ao eq
 refine h2 σ _ _ ⟨Oo,c1,_,f1,ps,t2,e2,fun us H2 c2 f2 s2 ru=>?_⟩
 unfold Ir at eq
 split at eq
 ·next es=>
  split at eq
  ·next hl15=>
   cases eq
   have hk2:=s2.ext.io _ _ e1
   obtain ⟨u0,g1,g2⟩:=f2.s.obs _ p _ hk2 es
   cases g2
   refine ⟨g1,us,rfl,by rw [ru.length];exact hl15,?_⟩
   obtain ⟨f3,s3⟩:=f2.wrObj (o:=.dct (Fv ps)) (u:=.dK (EY [] us)) hk2 fun c' H' ext hu=>⟨_,hu,(KVR.merge ru .nil).mono ext⟩
   exact k _ _ c2 f3 (s1.trans (s2.trans s3)) (.obj hk2)
  ·cases eq
 ·cases eq
end
end F2
namespace L2
open PySem PySem.Spec PyProof.Rows
section
variable {X:Cx}
end
end L2
namespace F2
open PySem L2 PySem.Spec
section
variable {X:Cx} {pos:Pos} {e:Expr} {es:List Expr}
end
end F2
namespace L2
open PySem PySem.Spec PyProof.Rows
section
variable {prog:Program} {w:World} {A:Around} {I:Addr} {fp wr:List Addr} {G:Array GenState→Array GenState→Prop} {n:Nat} {P:Nat→Value→Prop} {St:Nat→Shared→Prop}
end
section
variable {X:Cx}
end
end L2
namespace F2
open PySem L2 PySem.Spec PyProof.Rows
section
variable {X:Cx} {pos:Pos} {e:Expr}
end
end F2
namespace F2
open PySem L2 PySem.Spec
def CM (f:M Bool) (b:M Out):Nat→M Out
 | 0=>fun _=>none
 | n + 1=>fun t=>match f t with
   | none=>none
   | some (false,t1)=>some (.next,t1)
   | some (true,t1)=>match b t1 with
     | some (.next,t2)=>CM f b n t2
     | some (.cont,t2)=>CM f b n t2
     | some (.brk,t2)=>some (.next,t2)
     | some (.ret x,t2)=>some (.ret x,t2)
     | none=>none
def E6:Nat:=1000000
def GH (f:M Bool) (b:M Out):M Out:=CM f b E6
theorem RS.while {μ:Cf→Hp→D→(V→Hp→Prop)→Prop} {K:PySem.W.Frag} {f:M Bool} {b:M Out} {E:Ends} {σ:L2.St} {H:Hp} (q:RSg K μ (GH f b) E σ H):Ou (RT K f) (RSg K μ b) E σ H:=by
 obtain ⟨Oo,c,t,fi,o,t',eq,k⟩:=q
 refine ⟨fun m σ' H'=>∃c' t2,FInv K Oo c' t2 σ' H'∧Stp Oo c H c' H'∧CM f b m t2=some (o,t'),⟨E6,c,t,fi,.refl,eq⟩,?_⟩
 rintro m σ' H' ⟨c',t2,f2,s2,e2⟩
 cases m with
 | zero=>cases e2
 | succ m=>
 rw [CM] at e2
 dsimp only at e2
 cases ef:f t2 with
 | none=>rw [ef] at e2;cases e2
 | some p=>
 obtain ⟨r,t3⟩:=p
 rw [ef] at e2
 refine ⟨Oo,c',t2,f2,r,t3,ef,fun H3 c3 f3 s3=>?_⟩
 cases r with
 | false=>
   cases e2
   exact k σ' H3 c3 f3 (s2.trans s3)
 | true=>
   rw [if_pos rfl]
   dsimp only at e2
   refine ⟨fun σ4 H4=>∃c4 t4,FInv K Oo c4 t4 σ4 H4∧Stp Oo c H c4 H4∧CM f b m t4=some (o,t'),fun σ4 H4 h=>⟨m,Nat.lt_succ_self m,h⟩,?_⟩
   cases eb:b t3 with
   | none=>rw [eb] at e2;cases e2
   | some p=>
   obtain ⟨ob,t4⟩:=p
   rw [eb] at e2
   refine ⟨Oo,c3,t3,f3,ob,t4,eb,fun σ4 H4 c4 f4 s4=>?_⟩
   cases ob with
   | next=>exact ⟨c4,t4,f4,(s2.trans s3).trans s4,e2⟩
   | cont=>exact ⟨c4,t4,f4,(s2.trans s3).trans s4,e2⟩
   | brk=>
     cases e2
     exact k σ4 H4 c4 f4 ((s2.trans s3).trans s4)
   | ret x=>
     cases e2
     exact k σ4 H4 c4 f4 ((s2.trans s3).trans s4)
section
variable {X:Cx} {pos:Pos}
theorem Ha {μ:Cf→Hp→D→(V→Hp→Prop)→Prop} {e:Expr} {body:List Stmt} {f:M Bool} {b:M Out} (hp:PassesOwn (model X.prog X.w) X.A X.env X.xe) (hc:PT X e (RT X.K f)) (hb:PSs X body (RSg X.K μ b)):PS X (.While e body [] pos) (RSg X.K μ (GH f b)):=
 C4 (Pv hp hc hb) fun _ _ _ q=>RS.while q
end
end F2
namespace L2
open PySem PySem.Spec PyProof.Rows
end L2
namespace F2
open PySem L2 PySem.Spec
end F2
namespace L2
open PySem PySem.Spec PyProof.Rows
section
variable {X:Cx} {tg:Expr}
end
end L2
namespace F2
open PySem L2 PySem.Spec
section
variable {X:Cx} {pos:Pos} {e:Expr} {es:List Expr}
end
section
variable {K:PySem.W.Frag} {Oo:Addr→Prop} {c:Cf} {t:T} {σ:L2.St} {H:Hp}
end
section
variable {X:Cx} {pos:Pos} {e:Expr} {es:List Expr}
inductive spFF (K:PySem.W.Frag) (f:Fn) (vs:List V) (H:Hp) (Q:VK) (E:XK):Prop where
 | mk (c:Cf) (ds:List D) (S:List Ob) (si:SInv K c S H) (rp:Reps K c H vs ds) (rs:List D) (S':List Ob) (e:f ds S=some (.lst rs,S')) (k:∀p us H' c',SInv K c' S' H'→Stp c.O c H c' H'→(∀b,c'.O b↔c.O b)→Reps K c' H' us rs→H' p=none→Q (.ref p) (upd H' p (.lst us))):spFF K f vs H Q E
end
end F2
namespace L2
open PySem PySem.Spec PyProof.Rows
section
variable {X:Cx}
end
end L2
namespace F2
open PySem L2 PySem.Spec
section
variable {X:Cx} {pos:Pos} {e:Expr} {es:List Expr}
end
section
variable {X:Cx} {b elt:Expr} {pos:Pos}
end
end F2
namespace L2
open PySem PySem.Spec PyProof.Rows
end L2
namespace F2
open PySem L2 PySem.Spec
structure ItOk2 (K:PySem.W.Frag) (J:It) (c:Cf) (H:Hp) (ds:List D):Prop where
 go:∀c' H' (i:Nat),Ext c H c' H'→i < ds.length→J.go i H'
 yld:∀c' H' (i:Nat) x H'' d,Ext c H c' H'→ds[i]?=some d→J.yld i H' x H''→∃p vs es,x = .ref p∧H' p=none∧H''=upd H' p (.tup vs)∧d = .tup es∧Reps K c' H' vs es
 stop:∀c' H',Ext c H c' H'→J.stop ds.length H'
inductive RI2 (K:PySem.W.Frag) (f:M (List D)) (σ:L2.St) (H:Hp) (R:It→Hp→Prop):Prop where
 | mk (Oo:Addr→Prop) (c:Cf) (t:T) (fi:FInv K Oo c t σ H) (ds:List D) (t':T) (e:f t=some (ds,t')) (k:∀J H' c',FInv K Oo c' t' σ H'→Stp Oo c H c' H'→ItOk2 K J c' H' ds→R J H'):RI2 K f σ H R
section
variable {X:Cx} {pos:Pos} {e:Expr}
end
end F2
namespace L2
open PySem PySem.Spec PyProof.Rows
section
variable {X:Cx}
end
end L2
namespace F2
open PySem L2 PySem.Spec
section
variable {X:Cx} {pos:Pos} {e:Expr} {es:List Expr}
end
end F2
namespace L2
open PySem PySem.Spec PyProof.Rows
section
variable {X:Cx} {e ek:Expr} {p2 pos:Pos} {te:TE} {tk:TO}
end
end L2
namespace F2
open PySem L2 PySem.Spec
section
variable {X:Cx}
end
end F2
namespace L2
open PySem PySem.Spec PyProof.Rows
section
variable {X:Cx}
end
end L2
namespace F2
open PySem L2 PySem.Spec
section
variable {X:Cx} {pos:Pos}
end
end F2
namespace L2
open PySem PySem.Spec PyProof.Rows
theorem JK {x y:Int} (h0:0 < y) (h1:y < 18446744073709551616):Builtin.divisionGoesByPylong x y=false:=by
 unfold Builtin.divisionGoesByPylong
 have hl:y.natAbs.log2 < 64:=(Nat.log2_lt (by lia)).mpr (by show y.natAbs < 2 ^ 64;lia)
 have e:(y == 0)=false:=by rw [beq_eq_false_iff_ne];lia
 simp only [e,Bool.false_eq_true,if_false]
 rw [Bool.and_eq_false_iff]
 left
 rw [decide_eq_false_iff_not]
 lia
def P5 (i j:Int):Prop:=0 < j∧j < 18446744073709551616
section
variable {X:Cx}
theorem Jm {i:Int} (h:i.natAbs < 2 ^ 512):Builtin.Int.intBits i≤2 ^ 20:=by
 unfold Builtin.Int.intBits
 split
 ·exact Nat.zero_le _
 ·next z=>
  have hz:i.natAbs≠0:=by
   intro e
   have:i=0:=by lia
   subst this
   exact z rfl
  have:=(Nat.log2_lt hz).mpr h
  lia
def P6 (i j:Int):Prop:=i.natAbs < 2 ^ 512∧j.natAbs < 2 ^ 512
theorem IT:OpR X (binaryOp .Mult) (rI P6 fun i j=>.int (i * j)):=opI fun _ _ _ _ _ _ _ hc q=>mul_int q (IntMulOk.of_bits (Jm hc.1) (Jm hc.2))
theorem K1:OpR X (binaryOp .FloorDiv) (rI P5 fun i j=>.int (i / j)):=opI fun i j _ _ _ _ _ hc q=>by
 have h1:(0:Int) < j:=hc.1
 exact floordiv_int (by lia) (by rw [Int.fdiv_eq_ediv_of_nonneg i (by lia)];exact q) (.inl (JK hc.1 hc.2))
end
end L2
namespace F2
open PySem L2 PySem.Spec
def KF (i j:Int):Bool:=decide (0 < j) && decide (j < 18446744073709551616)
def HB:=i2C KF fun i j=>.int (i / j)
theorem Jx {K:PySem.W.Frag}:BJ K (rI P5 fun i j=>.int (i / j)) HB:=FB (fun i j h=>by
 unfold KF at h
 rw [Bool.and_eq_true,decide_eq_true_eq,decide_eq_true_eq] at h
 exact h) fun _ _ _ _=>.int _
def KU (i j:Int):Bool:=decide (i.natAbs < 2 ^ 512) && decide (j.natAbs < 2 ^ 512)
def IE:=i2C KU fun i j=>.int (i * j)
theorem Hl {K:PySem.W.Frag}:BJ K (rI P6 fun i j=>.int (i * j)) IE:=FB (fun i j h=>by
 unfold KU at h
 rw [Bool.and_eq_true] at h
 exact ⟨of_decide_eq_true h.1,of_decide_eq_true h.2⟩) fun _ _ _ _=>.int _
end F2
namespace L2
open PySem PySem.Spec PyProof.Rows
section
variable {X:Cx}
end
section
variable {X:Cx}
end
section
variable {X:Cx}
end
end L2
namespace F2
open PySem L2 PySem.Spec
section
variable {X:Cx} {pos:Pos} {e:Expr} {es:List Expr}
end
end F2
namespace L2
open PySem PySem.Spec PyProof.Rows
section
variable {X:Cx}
end
end L2
namespace F2
open PySem L2 PySem.Spec
def MW:List (Key×D)→Option (List Int)
 | []=>some []
 | (.inl k,_) :: r=>(MW r).map (k :: ·)
 | _=>none
section
variable {K:PySem.W.Frag} {c:Cf} {H:Hp}
end
section
variable {X:Cx} {pos:Pos} {e b:Expr}
end
end F2
namespace L2
open PySem PySem.Spec PyProof.Rows
def tb (led:Bool) (pl:List Nat):SetTable:={ mask:=7,place:=pl.toArray,dummies:=#[],finger:=0,led:=led,moves:=0,plain:=true }
def pls:Nat→List (List Nat)
 | 0=>[[]]
 | k + 1=>(pls k).flatMap fun l=>(List.range 8).filterMap fun j=>if l.all (· < j) then some (l++[j]) else none
section
variable {P:Program} {w:World} {A:Around} {E:Value→Shared→Prop} {s:Shared}
end
section
variable {P:Program} {w:World} {A:Around} {I:Addr} {fp wr:List Addr} {G:Array GenState→Array GenState→Prop} {n:Nat} {Pr:Nat→Value→Prop} {St:Nat→Shared→Prop}
end
section
variable {P:Program} {w:World} {A:Around} {E:Value→Shared→Prop} {s:Shared}
end
section
variable {prog:Program} {w:World} {A:Around}
end
section
variable {X:Cx}
end
end L2
namespace F2
open PySem L2 PySem.Spec PyProof.Rows
section
variable {X:Cx} {pos:Pos} {e:Expr}
end
end F2
namespace L2
open PySem PySem.Spec PyProof.Rows
section
variable {P:Program} {w:World} {A:Around} {E:Value→Shared→Prop} {s:Shared}
structure ZT (h:Heap) (z TI TO i1 i2 t1 t2:Addr) (n:Nat):Prop where
 zz:IsZip h z TI TO .none
 ti:IsPair h TI (.ref i1) (.ref i2)
 ot:∃a b,IsPair h TO a b
 p1:h.IsTupleIter i1 t1 n
 p2:h.IsTupleIter i2 t2 n
end
section
variable {P:Program} {w:World} {A:Around} {E:Value→Shared→Prop} {s:Shared}
end
def Itz (K:PySem.W.Frag) (a b:Addr):It:=
 ⟨fun i H=>∃xs ys x y,SqT K H a xs∧SqT K H b ys∧xs[i]?=some x∧ys[i]?=some y,fun i H v H'=>∃p x y,v = .ref p∧H p=none∧(∀xs,SqT K H a xs→xs[i]?=some x)∧(∀ys,SqT K H b ys→ys[i]?=some y)∧H'=upd H p (.tup [x,y]),fun i H=>∃xs ys,SqT K H a xs∧SqT K H b ys∧(xs.length≤i∨ys.length≤i)⟩
end L2
namespace F2
open PySem L2 PySem.Spec
def WF:List D→List D→List D
 | x :: xs,y :: ys=>.tup [x,y] :: WF xs ys
 | _,_=>[]
section
variable {X:Cx} {e a b tg iter elt:Expr} {ifs:List Expr} {pos:Pos} {scope:Scope} {N':List Str} {n:Nat} {fr:List Nat} {f:M (List D)} {st:D→M Unit} {tst:M Bool} {el:M D}
end
def CW:List D→M D
 | [.obj k,.ty m]=>fun t=>match t.S[k]? with
   | some (.lst _)=>(CY "list" m).map fun b=>(.bl b,t)
   | _=>none
 | ds=>CV ds
theorem BX {K:PySem.W.Frag}:DF K (PC K) CW:=fun {Oo c t σ H xs ds r t' Q} f rx eq k=>by
 unfold CW at eq
 split at eq
 ·next n m=>
  obtain ⟨v,u,rfl,rv,ru⟩:=HW rx
  cases ru
  cases rv with
  | @obj a kk hk=>
  split at eq
  ·next ds es=>
   obtain ⟨b,e1,e2⟩:=Option.map_eq_some_iff.mp eq
   cases e2
   obtain ⟨us,g1,g2⟩:=f.s.obs _ a _ hk es
   exact ⟨.ref a,m,.type "list",b,rfl,.lst g1,GQ (d:=.lst []) rfl e1,k _ H c f .refl (.bl b)⟩
  ·cases eq
 ·exact CU f rx eq k
section
variable {X:Cx} {elt:Expr} {pos:Pos} {e:Expr} {es:List Expr}
end
end F2
namespace L2
open PySem PySem.Spec PyProof.Rows
section
variable {X:Cx} {pins:List (Addr×Obj)} {σ:St} {H:Hp} {s:Shared} {a:Addr} {kvs:List (Key×V)} {o:Obj}
end
section
variable {X:Cx}
end
section
variable {X:Cx}
end
end L2
namespace F2
open PySem L2 PySem.Spec SeqAt
def Ni (K:PySem.W.Frag) (H:Hp) (v w:V):Prop:=∃c dv dw,Rep K c H v dv∧Rep K c H w dw∧eqN EQD dv dw=some true
def Sq (K:PySem.W.Frag) (H:Hp) (v w:V):Prop:=Ni K H v w∨∃a b us ts,v = .ref a∧w = .ref b∧H a=some (.dK us)∧H b=some (.dK ts)∧us.length=ts.length∧(∀kv∈us,∃n:Int,kv.1=Sum.inl n)∧(∀kv∈ts,∃n:Int,kv.1=Sum.inl n)∧∀kv∈us,∃z,EA ts kv.1=some z∧Ni K H kv.2 z
def W6 (K:PySem.W.Frag) (b:Bool):R2:=fun x y H Q=>∃p q vs ws,x = .ref p∧y = .ref q∧H p=some (.lst vs)∧H q=some (.lst ws)∧vs.length=ws.length∧(∀(j:Nat) v w,vs[j]?=some v→ws[j]?=some w→Sq K H v w)∧Q (.bl b) H
def Ko (S:List Ob) (x y:D):Bool:=C3 (E2 S x) && C3 (E2 S y) && decide (eqN EQD (E2 S x) (E2 S y)=some true)
def WM (S:List Ob) (x y:D):Bool:=match x,y with
 | .obj m,.obj n=>match S[m]?,S[n]? with
   | some (.dct kvs),some (.dct lvs)=>kvs.length == lvs.length && (MW kvs).isSome && (MW lvs).isSome && kvs.all (fun kv=>match Cq lvs kv.1 with | some e=>Ko S kv.2 e | none=>false)
   | _,_=>Ko S x y
 | _,_=>Ko S x y
end F2
namespace F2
open PySem L2 PySem.Spec
section
variable {X:Cx} {pos:Pos}
end
end F2
namespace L2
open PySem PySem.Spec PyProof.Rows
structure ZL (h:Heap) (z TI TO i1 i2 t1 t2:Addr) (n:Nat):Prop where
 zz:IsZip h z TI TO .none
 ti:IsPair h TI (.ref i1) (.ref i2)
 ot:∃a b,IsPair h TO a b
 p1:h.IsListIter i1 t1 n
 p2:h.IsListIter i2 t2 n
end L2
namespace F2
open PySem L2 PySem.Spec
section
variable {X:Cx} {a b:Expr} {pos:Pos}
end
end F2
namespace L2
open PySem PySem.Spec PyProof.Rows PySem.W
section
variable {prog:Program} {w:World} {A:Around} {h:Heap} {g:Array GenState} {d:Drawn} {t:Nat} {os:OsState} {R:Result→Shared→Prop}
variable {nm q:Str} {C N fI:Addr} {bs bm bmB:List Value} {hdct:Bool} {sn:List Str} {sub:List Value} {ab:Bool} {col:Option Bool} {dd:Option Addr} {k0 k1 k2 k3 k5:Option Value} {B newId initId:String} {mN:Str→Option Value}
end
end L2
namespace L2
open PySem PySem.Spec PyProof.Rows PySem.W PySem.Builtin PySem.Builtin.ObjectAttr
section
variable {prog:Program} {w:World} {A:Around} {s:Shared} {K:PySem.W.Frag} {x C P tp:Addr} {R:Result→Shared→Prop} {name:Str} {v:Value} {tk:Tok} {cd:ClassData}
end
end L2
namespace L2
open PySem PySem.Spec PyProof.Rows PySem.W
variable {qx:Bool}
def SA (qx:Bool) (h:Heap) (x C:Addr) (dx:Option Addr) (tb:Value):Prop:=∃(o:Obj) (vs:Array Value),h.get? x=some o∧o.cls = .ref C∧o.dict=dx∧o.data = .fields vs∧vs[1]?=some tb∧(qx=true→vs[2]?=some .none∧4 < vs.size)
def XTb (h:Heap) (T:Addr):Prop:=∃(o:Obj) (ts:Array Value),h.get? T=some o∧o.data = .fields ts∧ts[3]?=some .none
structure XKeep (fs ch:List Addr) (h h':Heap):Prop where
 keep:∀b o,b∉ch→b∉fs→h.get? b=some o→h'.get? b=some o
 slot:∀b o,b∉ch→h.get? b=some o→∃sl,h'.get? b=some { o with slots:=sl }
section
variable {M:Model} {A:Around} {E:Value→Shared→Prop} {s:Shared} {env:Env} {outer:List Env} {base:Heap} {L x C:Addr} {dx:Option Addr} {tb:Value} {Q:Unit→Shared→Prop}
end
end L2
namespace L2
open PySem PySem.Spec PyProof.Rows PySem.W
variable {qx:Bool}
abbrev VE:List Value:=[.type "ValueError",.type "Exception",.type "BaseException",.type "object"]
structure XCl (K:PySem.W.Frag) (C:Addr) (bm:List Value):Prop where
 ex:∃cd dd k0 k1 k2 k3 k5,K.lookup C=some { cls:=.type "type",dict:=dd,data:=.cls cd,slots:=#[k0,k1,k2,k3,some (.builtin "ValueError.__new__"),k5] }∧cd.mro = .ref C :: bm∧cd.hasDel=false∧cd.hasDict=true∧nsOkIn K cd.ns=true
 tl:tailIn K VE bm=true
section
variable {M:Model} {A:Around} {E:Value→Shared→Prop} {env:Env} {K:PySem.W.Frag} {C:Addr} {bm:List Value} {s:Shared}
end
def CX1 (qx:Bool) (P:Program) (w:World):CXT:=fun outer H s E e s'=>∃(x C:Addr) (dx:Option Addr) (T:Addr) (H':Hp),e = .ref x∧s'.os=s.os∧AllBare s'.gens∧Un (frs outer) [] H H' s.heap s'.heap∧HOk P w H' s'.heap∧
 H' x=some (.ext (F2.XIs qx x C dx))∧s.heap.objs.size≤x∧s.heap.objs.size≤T∧T≠x∧H' T=none∧SA qx s'.heap x C dx (.ref T)∧XTb s'.heap T∧E (.ref x) dx H'
section
variable {X:Cx} {pins:List (Addr×Obj)} {σ:St} {H H':Hp} {s s':Shared} {h':Heap} {x C T:Addr} {dx:Option Addr} {ch:List Addr}
end
section
variable {P:Program} {w:World} {K:PySem.W.Frag} {mg:Str→Option Value} {base:Heap} {N:List Str} {qual:Str} {scope:Scope} {f:Addr} {cd:Value} {A:Around} {outer:List Env} {s₀:Shared} {H₀:Hp} {E:XK}
end
end L2
namespace L2
open PySem PySem.Spec PyProof.Rows PySem.W
structure XAt (K:PySem.W.Frag) (C P:Addr) (f:Str):Prop where
 cl:XCl K C (.ref P :: VE)
 set:findIn K (.ref C) "__setattr__" = some (some (.builtin "object.__setattr__"))
 no:findIn K (.ref C) f=some none
variable {qx:Bool}
structure XMk (K:PySem.W.Frag) (C P f:Addr):Prop where
 cl:XCl K C (.ref P :: VE)
 init:∃cd,clsIn K C=some cd∧nsIn K cd.ns "__init__" = some (some (.ref f))
 fn:isFn K (.ref f)=true
 kp:keepIn K (.ref C)=true
section
variable {X:Cx} {k:Nat} {f C P:Addr} {fd:FuncData} {pins:List (Addr×Obj)} {σ:St} {H:Hp} {s:Shared} {Q:Value→Shared→Prop} {us:List Value} {vs:List V} {a:Str} {ps:List Str} {v:V} {u:Value}
end
end L2
namespace L2
open PySem PySem.Spec PyProof.Rows PySem.W
variable {qx:Bool}
section
variable {M:Model} {A:Around} {E:Value→Shared→Prop} {K:PySem.W.Frag} {s:Shared} {x C C':Addr} {bm bm':List Value} {dx:Option Addr} {tb:Value}
end
end L2
namespace L2
open PySem PySem.Spec PyProof.Rows PySem.W
variable {qx:Bool}
def Vx (h:Heap) (T:Addr) (fl:Value):Prop:=∃(o:Obj) (ts:Array Value),h.get? T=some o∧o.data = .fields ts∧ts[3]?=some fl
section
variable {M:Model} {A:Around} {E:Value→Shared→Prop} {s:Shared} {env:Env} {outer:List Env} {base:Heap} {L x C:Addr} {dx:Option Addr} {tb:Value} {Q:Unit→Shared→Prop}
end
structure XOn (qx:Bool) (X:Cx) (pins:List (Addr×Obj)) (H:Hp) (s:Shared) (x C:Addr) (dx:Option Addr) (T:Option Addr) (fl:Value):Prop where
 hx:H x=some (.ext (F2.XIs qx x C dx))
 nx:X.s₀.heap.objs.size≤x
 rc:SA qx s.heap x C dx (match T with | some a=>.ref a | none=>.none)
 tb:∀a,T=some a→a≠x∧H a=none∧X.s₀.heap.objs.size≤a∧(a≠X.env.locals∧(∀y c,X.env.cells.lookup y=some c→c≠a)∧∀p∈X.pn++pins,p.1≠a)∧Vx s.heap a fl
 fo:fl = .none∨fl=rawInt X.env.locals
section
variable {M:Model} {A:Around} {Er:Value→Shared→Prop} {X:Cx} {pins:List (Addr×Obj)} {σ:St} {H:Hp} {s:Shared} {x C:Addr} {dx T:Option Addr} {fl:Value} {Q:Unit→Shared→Prop}
end
def XE (qx:Bool) (X:Cx) (E:St→XK):Value→Shared→Prop:=fun e s=>∃pins σ H x C dx T fl,e = .ref x∧Inv X pins σ H s∧XOn qx X pins H s x C dx T fl∧E σ (.ref x) dx H
section
variable {M:Model} {X:Cx} {E:St→XK}
end
section
variable {P:Program} {w:World} {K:PySem.W.Frag} {mg:Str→Option Value} {base:Heap}
end
section
variable {X:Cx} {CX:CXT} {k:Nat} {f:Addr} {fd:FuncData} {ps:List Str} {sp:Sp} {E:St→XK} {x:Str} {p pos:Pos} {e:Expr} {es:List Expr} {t:TA}
end
end L2
namespace L2
open PySem PySem.Spec PyProof.Rows PySem.W
variable {qx:Bool}
section
variable {prog:Program} {w:World} {A:Around} {E:Value→Shared→Prop} {h:Heap} {g:Array GenState} {d:Drawn} {t:Nat} {os:OsState} {Q:Value→Shared→Prop}
variable {nm q:Str} {C N:Addr} {bs bm bmB:List Value} {hdct:Bool} {sn:List Str} {sub:List Value} {ab:Bool} {col:Option Bool} {dd:Option Addr} {k0 k1 k2 k3 k5:Option Value} {B newId initId:String} {mN:Str→Option Value}
end
section
variable {X:Cx} {k:Nat} {f C P:Addr} {fd:FuncData} {a:Str} {ps:List Str} {n:Str} {p pos:Pos} {e:Expr} {es:List Expr}
end
end L2
namespace L2
open PySem PySem.Spec PyProof.Rows PySem.W
variable {qx:Bool}
section
variable {X:Cx} {pins:List (Addr×Obj)} {σ:St} {H:Hp} {s:Shared} {D:Ends}
end
section
variable {X:Cx} {n v:Str} {C':Addr} {bm':List Value} {p pos:Pos} {b₀:Stmt} {suite:List Stmt} {rest:List ExceptHandler} {ts:Addr→TS} {tr:Addr→Addr→Option Addr→TS} {i:Nat}
end
end L2
namespace F2
open PySem L2 PySem.Spec
variable {qx:Bool}
def Ef:D→Bool
 | .exc _ _=>true
 | _=>false
def exE (E:XK) (v:V) (H:Hp):Prop:=∀x dx,v = .ref x→E (.ref x) dx H
section
variable (K:PySem.W.Frag)
inductive RX (E:L2.St→XK) (f:M D) (σ:L2.St) (H:Hp) (Q:VK):Prop where
 | mk (Oo:Addr→Prop) (c:Cf) (t:T) (fi:FInv K Oo c t σ H) (r:D) (t':T) (e:f t=some (r,t')) (k:∀v H' c',FInv K Oo c' t' σ H'→Stp Oo c H c' H'→Rep K c' H' v r→if Ef r=true then exE (E σ) v H' else Q v H'):RX E f σ H Q
inductive RSX (E:L2.St→XK) (f:M Out) (D:Ends) (σ:L2.St) (H:Hp):Prop where
 | mk (Oo:Addr→Prop) (c:Cf) (t:T) (fi:FInv K Oo c t σ H) (o:Out) (t':T) (e:f t=some (o,t')) (k:∀σ' H' c',FInv K Oo c' t' σ' H'→Stp Oo c H c' H'→
 match (generalizing:=false) o with
 | .next=>D.nx σ' H'
 | .brk=>D.bk σ' H'
 | .cont=>D.ct σ' H'
 | .ret r=>∀v,Rep K c' H' v r→if Ef r=true then exE (E σ') v H' else D.rt v H'):RSX E f D σ H
inductive spX (f:Fn) (vs:List V) (H:Hp) (Q:VK) (E:XK):Prop where
 | mk (c:Cf) (ds:List D) (S:List Ob) (si:SInv K c S H) (rs:Reps K c H vs ds) (r:D) (S':List Ob) (e:f ds S=some (r,S')) (k:∀v H' c',SInv K c' S' H'→Stp c.O c H c' H'→(∀b,c'.O b↔c.O b)→Rep K c' H' v r→if Ef r=true then exE E v H' else Q v H'):spX f vs H Q E
end
def W5 (g:Fn):Fn:=fun ds S=>match g ds S with
 | some (r,S')=>if Ef r=true then none else some (r,S')
 | none=>none
section
variable {P:Program} {w:World} {K:PySem.W.Frag} {mg:Str→Option Value} {base:Heap}
end
section
variable {X:Cx} {e a b:Expr} {es:List Expr} {pos:Pos} {E:L2.St→XK} {st:Stmt}
def nxD (f:M D):M D:=bnd f fun d=>if Ef d=true then fail else ret d
def ON (g:M D) (h:D→M D):M D:=bnd g fun y=>if Ef y=true then ret y else nxD (h y)
def WX (f g:M D) (h:D→D→M D):M D:=bnd f fun x=>ON g fun y=>h x y
def WY (f g:M D) (h:D→D→M D):M D:=ON f fun x=>bnd g fun y=>h x y
def WN (g:Fn) (f:M D):M D:=ON f fun d t=>match g [d] t.S with
 | some (r,S')=>some (r,{ t with S:=S' })
 | none=>none
def W7 (i:Nat) (f:M D):M Out:=bnd f fun d=>if Ef d=true then ret (.ret d) else bnd (BP i d) fun _=>ret .next
def WW (f:M D):M Out:=bnd f fun d=>if Ef d=true then ret (.ret d) else ret .next
def W2 (f:M D) (g:D→M Unit):M Out:=bnd f fun d=>if Ef d=true then ret (.ret d) else bnd (g d) fun _=>ret .next
end
end F2
namespace L2
open PySem PySem.Spec PyProof.Rows PySem.W PySem.Builtin PySem.Builtin.ObjectAttr
structure XGet (K:PySem.W.Frag) (C:Addr):Prop where
 ga:findIn K (.ref C) "__getattribute__" = some (some (.builtin "BaseException.__getattribute__"))
 gt:findIn K (.ref C) "__getattr__" = some none
 mb:mroIn K C (.type "BaseException")=some true
 mo:mroIn K C (.type "object")=some true
 hd:hasDictIn K C=true
section
variable {prog:Program} {w:World} {A:Around} {E:Value→Shared→Prop} {s:Shared} {K:PySem.W.Frag} {x C:Addr} {ox:Obj} {od:Option Obj} {name:Str} {tk:Tok} {Q:Value→Shared→Prop} {R:Result→Shared→Prop}
end
end L2
namespace L2
open PySem PySem.Spec PyProof.Rows PySem.W
end L2
namespace F2
open PySem L2 PySem.Spec PySem.W
variable {qx:Bool}
abbrev Dn:List Str:=["NoValue", "Short", "Broken", "NoTalk", "NoName", "NoText", "NoRow"]
structure XM (K:PySem.W.Frag) (mg:Str→Option Value) (P:Addr) (ca:Str→Addr):Prop where
 pm:mg "ParleyError" = some (.ref P)
 pc:XCl K P VE
 ns:∀n∈Dn,nsIn K mainGlobals n=some (some (.ref (ca n)))
 ms:∀n∈Dn,mg n=some (.ref (ca n))
 cl:∀n∈Dn,XCl K (ca n) (.ref P :: VE)
 inj:∀n∈Dn,∀m∈Dn,ca n=ca m→n=m
 np:∀n∈Dn,ca n≠P
 kp:∀n∈Dn,keepIn K (.ref (ca n))=true
 gt:∀n∈Dn,XGet K (ca n)
 gc:∀n∈Dn,findIn K (.ref (ca n)) "__class__" = some (some (.builtin "object.__class__"))
 na:∀n∈Dn,findIn K (.ref (ca n)) "at" = some none
 nd:∀n∈Dn,findIn K (.ref (ca n)) "side" = some none
def PQ (n m:Str):Bool:=m == "ParleyError" || m == "ValueError" || n == m
section
variable {K:PySem.W.Frag} {mg:Str→Option Value} {P:Addr} {ca:Str→Addr}
end
section
variable {X:Cx} {e:Expr} {es:List Expr} {pos p pos2:Pos} {E:L2.St→XK} {P:Addr} {ca:Str→Addr}
def WQ (n:Str) (f:M (List D)):M Out:=bnd f fun ds=>match ds with
 | [d]=>ret (.ret (.exc n [d]))
 | _=>fail
def WP (n:Str) (f:M (List D)):M Out:=bnd f fun ds=>if ds.length≤1000 then ret (.ret (.exc n [])) else fail
end
section
variable {X:Cx} {pos p:Pos} {P:Addr} {ca:Str→Addr} {μ:Cf→Hp→D→(V→Hp→Prop)→Prop}
inductive RH (K:PySem.W.Frag) (ca:Str→Addr) (μ:Cf→Hp→D→(V→Hp→Prop)→Prop) (h:D→M Out) (x C:Addr) (dx:Option Addr) (E:Ends) (σ:L2.St) (H:Hp):Prop where
 | mk (Oo:Addr→Prop) (c:Cf) (t:T) (n:Str) (ds:List D) (fi:FInv K Oo c t σ H) (hn:n∈Dn) (hC:C=ca n) (rp:Rep K c H (.ref x) (.exc n ds)) (o:Out) (t':T) (e:h (.exc n ds) t=some (o,t')) (k:∀σ' H' c',FInv K Oo c' t' σ' H'→Stp Oo c H c' H'→
   match (generalizing:=false) o with
   | .next=>E.nx σ' H'
   | .brk=>E.bk σ' H'
   | .cont=>E.ct σ' H'
   | .ret r=>μ c' H' r E.rt):RH K ca μ h x C dx E σ H
def unE (i:Nat) (t:T):T:={ t with env:=t.env.set i none }
def hAs (n':Str) (i:Nat) (s:M Out) (r:D→M Out):D→M Out:=fun e t=>match e with
 | .exc n ds=>if PQ n n'=true then (match s { t with env:=t.env.set i (some (.val (.exc n ds))) } with
   | some (o,t2)=>some (o,unE i t2)
   | none=>none) else r (.exc n ds) t
 | _=>none
def hNo (n':Str) (s:M Out) (r:D→M Out):D→M Out:=fun e t=>match e with
 | .exc n ds=>if PQ n n'=true then s t else r (.exc n ds) t
 | _=>none
def W9 (b:M Out) (h:D→M Out):M Out:=fun t=>match b t with
 | some (.ret (.exc n ds),t1)=>if n∈Dn then h (.exc n ds) t1 else none
 | z=>z
end
end F2
namespace F2
open PySem L2 PySem.Spec PySem.W
variable {qx:Bool}
def W4 (n:Str):D→M D
 | .exc m _=>if m∈Dn then ret (.bl (PQ m n)) else fail
 | .non=>ret (.bl false)
 | .bl _=>ret (.bl false)
 | .int _=>ret (.bl false)
 | .str _=>ret (.bl false)
 | .lst _=>ret (.bl false)
 | .tup _=>ret (.bl false)
 | .dic=>ret (.bl false)
 | _=>fail
section
variable {X:Cx} {P:Addr} {ca:Str→Addr} {a:Expr} {f:M D} {p pos q:Pos}
def W3 (nm:Str):D→M D
 | .exc n ds=>if n∈Dn then (match ((SR n).zip ds).lookup nm with
   | some d=>ret d
   | none=>fail) else fail
 | _=>fail
end
end F2
namespace F2
open PySem L2 PySem.Spec PySem.W
variable {qx:Bool}
structure XOne (K:PySem.W.Frag) (P c:Addr):Prop where
 cl:XCl K c (.ref P :: VE)
 kp:keepIn K (.ref c)=true
 gt:XGet K c
 gc:findIn K (.ref c) "__class__" = some (some (.builtin "object.__class__"))
 na:findIn K (.ref c) "at" = some none
 nd:findIn K (.ref c) "side" = some none
end F2
namespace F2
open PySem L2 PySem.Spec PySem.W
inductive Kd where
 | pl | fr | ex | er
section
variable {X:Cx} {e a b:Expr} {pos:Pos} {f g:M D}
end
variable {qx:Bool}
section
variable {X:Cx} {P:Addr} {ca:Str→Addr} {a:Expr} {es:List Expr} {f:M D} {p pos q:Pos} {i:Nat} {ns:List Str}
end
end F2
namespace F2
open PySem L2 PySem.Spec SeqAt
end F2
namespace L2
open PySem PySem.Spec PyProof.Rows PySem.W PySem.Builtin PySem.Builtin.ObjectAttr
variable {qx:Bool}
section
variable {prog:Program} {w:World} {A:Around} {s:Shared} {K:PySem.W.Frag} {x C P dx:Addr} {ox:Obj} {od:Option Obj} {R:Result→Shared→Prop} {name:Str} {v:Value} {tk:Tok} {cd:ClassData}
end
section
variable {X:Cx} {k:Nat} {f C P:Addr} {fd:FuncData} {pins:List (Addr×Obj)} {σ:St} {H:Hp} {s:Shared} {Q:Value→Shared→Prop} {us:List Value} {vs:List V} {a b:Str} {ps:List Str} {v v2:V} {u u2:Value}
end
section
variable {X:Cx} {k:Nat} {f C P:Addr} {fd:FuncData} {a b:Str} {ps:List Str} {n:Str} {p pos:Pos} {e e':Expr}
end
end L2
namespace F2
open PySem L2 PySem.Spec PySem.W
variable {qx:Bool}
section
variable {X:Cx} {e e':Expr} {pos p pos2:Pos} {E:L2.St→XK} {P:Addr} {ca:Str→Addr}
end
end F2
namespace L2
open PySem PySem.Spec PyProof.Rows PySem.W
end L2
namespace F2
open PySem L2 PySem.Spec
section
variable {X:Cx} {a b:Expr} {pos:Pos}
end
end F2
namespace L2
open PySem PySem.Spec PyProof.Rows
abbrev q1:Str:="\""
abbrev q2:Str:=q1++q1
def Quo (K:PySem.W.Frag) (mg:Str→Option Value):Prop:=∃t,t≠0∧PySem.W.nsIn K mainGlobals "QUOTE" = some (some (.str q1 t))∧mg "QUOTE" = some (.str q1 t)
section
variable {X:Cx} {o:Expr} {to:TE} {p1 p2 p3 p4 apos cpos:Pos}
theorem Ru (hq:Quo X.K X.mg) (hg:Gl X "QUOTE") (ho:PE X o to)
 (hbase:attributeBase o "replace" X.env (eval o X.env)=eval o X.env:=by rfl)
 (hline:(apos.endLine == cpos.line)=true:=by rfl) :
 PE X (.Call (.Attribute o "replace" apos) [.Name "QUOTE" p1,.BinOp (.Name "QUOTE" p2) .Add (.Name "QUOTE" p3) p4] [] cpos)
  (fun σ H Q=>to σ H fun x H1=>∃z,x = .str z∧z.length≤100000∧Q (.str (Txt.replace z q1 q2)) H1):=by
 obtain ⟨t,h0,hn,hm⟩:=hq
 intro pins s σ H Q I h
 refine wpAny_Call_method_late hbase (by rfl) hline rfl (thn (ho pins s σ H _ I h) fun v s1 ⟨x,H1,I1,r1,z,ez,hz,q1'⟩=>?_)
 subst ez
 obtain ⟨tv,rfl⟩:=r1
 refine ⟨"str", "str.replace",PySem.F.plainAttrs_str,PySem.F.slot_str_replace,PySem.F.type_str_replace,typeIs_str _ _ _,(fun a e=>nomatch e),?_⟩
 have hT:t < s1.toks:=by
  have:=I1.tk
  unfold Fi at this
  rw [hn] at this
  exact this
 refine Calls.callWith_builtin rfl (Calls.evalArgs_plain ?_)
 show wpAny _ _ (spliced ((false,eval (.Name "QUOTE" p1) X.env) :: (false,_) :: [])) _ _ s1
 refine Calls.spliced_cons (EI I1 hg hm ?_ (by decide))
 refine Calls.spliced_cons ?_
 refine wpAny_BinOp (EI I1 hg hm (EI I1 hg hm ?_ (by decide)) (by decide))
 refine P.add_str ?_
 show (Made.str (q1++q1)).post _ s1
 refine ⟨by decide +kernel,?_⟩
 refine Calls.spliced_nil ?_
 have I2:=I1.tok (s1.toks + 1)
 refine wpAny_with_toks (Nat.le_refl (s1.toks + 1)) (SC.replaceW h0 (Nat.ne_of_gt (Nat.lt_of_le_of_lt (Nat.zero_le t) hT)) (Nat.ne_of_lt hT) (by decide +kernel) (by lia) (by decide +kernel) fun t' k ht=>?_)
 exact ⟨.str _,H1,I2.tok _,⟨_,rfl⟩,q1'⟩
theorem JC:∀(l:List (Str×Tok)),Vals ((l.map (·.1)).map V.str) (strValues l)
 | []=>.nil
 | (y,t) :: r=>.cons ⟨t,rfl⟩ (JC r)
def Ol:V→List V→Hp→VK→Prop:=fun x xs H Q=>∃z y,x = .str z∧xs=[.str y]∧(y.length == 0)=false∧z.length≤100000∧∀l,H l=none→Q (.ref l) (upd H l (.lst ((Txt.split z y).map V.str)))
theorem Pb:MtR X "str.split" Ol:=by
 intro pins s σ H x xs v us Q I rx rs h
 obtain ⟨z,y,rfl,rfl,hy,hz,q⟩:=h
 obtain ⟨t,rfl⟩:=rx
 obtain ⟨u,rfl,t2,rfl⟩:=DE rs
 have hl:sizeLine=16777216:=sizeLine_eq
 have hpl:(Builtin.Str.partsBetween z (Builtin.Str.occurrences z y 0 z.length (z.length + 1)) y.length).length≤z.length + 2:=by
  rw [len_partsBetween]
  have:=PySem.StrLaws.occ_length_le z y 0 z.length (z.length + 1)
  lia
 have fin:∀(l:List (Str×Tok)) (k:Nat),l.map (·.1)=Txt.split z y→s.toks≤k→EP X pins σ Q (.ref s.heap.objs.size) { s with toks:=k,heap:=s.heap.push { cls:=.type "list",data:=.seq (strValues l).toArray } }:=fun l k e hk=>by
  have hsp:(Txt.split z y).length≤z.length + 2:=split_le z y
  have I2:=I.lnew (t':=k) (its:=strValues l) (ys:=(Txt.split z y).map V.str) (by rw [←e];exact JC l) (by rw [List.length_map];lia)
  exact ⟨.ref _,_,I2,rfl,q _ I.fresh⟩
 cases h1:(decide (z.length < y.length) || decide (Builtin.Str.strKind z < Builtin.Str.strKind y))
 ·cases hf:(Builtin.Str.occurrences z y 0 z.length (z.length + 1)).isEmpty
  ·refine call_meets F.slot_str_split (typeIs_str _ _ _) F.entry_str_split (F.args_str_split_2 _ _) (meets_str_split_sep z y t t2 h1 hy hf (by lia) (by lia)) ?_
   have:=fin (numbered s.toks (Builtin.Str.partsBetween z (Builtin.Str.occurrences z y 0 z.length (z.length + 1)) y.length)) (s.toks + (Builtin.Str.partsBetween z (Builtin.Str.occurrences z y 0 z.length (z.length + 1)) y.length).length) ((numbered_texts _ _).trans ((if_neg (ne_true_of_eq_false h1)).trans (if_neg (ne_true_of_eq_false hf))).symm) (by lia)
   rw [←strsFrom_eq] at this
   exact this
  ·exact call_meets F.slot_str_split (typeIs_str _ _ _) F.entry_str_split (F.args_str_split_2 _ _) (meets_str_split_not_found z y t t2 h1 hy hf)
    (fin [(z,t)] s.toks ((if_neg (ne_true_of_eq_false h1)).trans (if_pos hf)).symm (Nat.le_refl _))
 ·exact call_meets F.slot_str_split (typeIs_str _ _ _) F.entry_str_split (F.args_str_split_2 _ _) (meets_str_split_cannot_occur z y t t2 h1)
   (fin [(z,t)] s.toks (if_pos h1).symm (Nat.le_refl _))
def Oj (K:PySem.W.Frag):V→List V→Hp→VK→Prop:=fun x xs H Q=>∃z a ys,x = .str z∧xs=[.ref a]∧SqL K H a (ys.map V.str)∧z.length≤16∧(ys.map (·.length)).sum + ys.length≤1048576∧Q (.str (Txt.join z ys)) H
theorem Ia:∀{ys:List Str} {us:List Value},Vals (ys.map V.str) us→StrsAre us ys
 | [],_,r=>by cases r;exact .nil
 | _ :: _,_,r=>by
   cases r with
   | cons r1 r2=>obtain ⟨t,rfl⟩:=r1;exact .cons _ _ (Ia r2)
theorem Pa:MtR X "str.join" (Oj X.K):=by
 intro pins s σ H x xs v us Q I rx rs h
 obtain ⟨z,a,ys,rfl,rfl,ha,h1,h2,q⟩:=h
 obtain ⟨t,rfl⟩:=rx
 obtain ⟨u,rfl,ru⟩:=DE rs
 cases ru
 obtain ⟨its,r,pl,_⟩:=I.list ha
 refine wpAny_with_toks (Nat.le_refl s.toks) (join_listW pl.isList (by simpa using Ia r) h1 h2 fun t' k ht=>?_)
 exact ⟨.str _,H,I.tok _,⟨_,rfl⟩,q⟩
end
end L2
namespace F2
open PySem L2 PySem.Spec PyProof.Rows
variable {K:PySem.W.Frag}
def HV:D→M D
 | .str z=>if z.length≤100000 then ret (.str (Txt.replace z q1 q2)) else fail
 | _=>fail
def splitM (f:M D) (g:M (List D)):M (List D):=bnd f fun o=>bnd g fun as=>match o,as with
 | .str z,[.str y]=>if (y.length == 0)=false∧z.length≤100000 then ret ((Txt.split z y).map D.str) else fail
 | _,_=>fail
def F7:List D→Option (List Str)
 | []=>some []
 | .str x :: r=>(F7 r).map (x :: ·)
 | _=>none
def joinW (f:M D) (g:M (List D)):M D:=bnd f fun o=>bnd g fun as=>match o,as with
 | .str z,[.lst ds]=>match F7 ds with
   | some ys=>if z.length≤16∧(ys.map (·.length)).sum + ys.length≤1048576 then ret (.str (Txt.join z ys)) else fail
   | none=>fail
 | _,_=>fail
theorem Jz {c:Cf} {H:Hp}:∀{ds:List D} {vs:List V} {ys:List Str},Reps K c H vs ds→F7 ds=some ys→vs=ys.map V.str
 | [],_,ys,r,e=>by
   cases r
   cases e
   rfl
 | d :: ds,_,ys,r,e=>by
   cases r with
   | cons r1 r2=>
     cases r1 with
     | str x=>
       obtain ⟨zs,e1,rfl⟩:=Option.map_eq_some_iff.mp e
       rw [Jz r2 e1];rfl
     | _=>cases e
theorem Jv {c:Cf} {H:Hp}:∀(ys:List Str),Reps K c H (ys.map V.str) (ys.map D.str)
 | []=>.nil
 | y :: r=>.cons (.str y) (Jv r)
theorem RE.joinW {f:M D} {g:M (List D)} {σ:L2.St} {H:Hp} {Q:VK} (q:RE K (F2.joinW f g) σ H Q):tBM K "str" (Oj K) (RE K f) (RA K g) σ H Q:=by
 obtain ⟨Oo,c,t,fi,r,t',eq,k⟩:=q
 obtain ⟨d,t1,e1,eq1⟩:=Ao eq
 clear eq
 obtain ⟨as,t2,e2,eq⟩:=Ao eq1
 clear eq1
 refine ⟨Oo,c,t,fi,d,t1,e1,fun v H1 c1 f1 s1 rv=>?_⟩
 split at eq
 ·next z ds=>
  cases rv
  refine ⟨rfl,Oo,c1,t1,f1,_,t2,e2,fun us H2 c2 f2 s2 rus=>?_⟩
  obtain ⟨w,rfl,rw'⟩:=DC rus
  cases ey:F7 ds with
  | none=>rw [ey] at eq;cases eq
  | some ys=>
    rw [ey] at eq
    dsimp only at eq
    by_cases hz:z.length≤16∧(ys.map (·.length)).sum + ys.length≤1048576
    ·rw [if_pos hz] at eq
     cases eq
     cases rw' with
     | @lst p vs ds h1 h2 h3=>
       have h4:=Jz h3 ey
       subst h4
       exact ⟨_,p,ys,rfl,rfl,SqL.of h1,hz.1,hz.2,k _ _ c2 f2 (s1.trans s2) (.str _)⟩
    ·rw [if_neg hz] at eq;cases eq
 ·cases eq
theorem RF.splitM {f:M D} {g:M (List D)} {σ:L2.St} {H:Hp} {Q:VK} (q:RF K (F2.splitM f g) σ H Q):tBM K "str" Ol (RE K f) (RA K g) σ H Q:=by
 obtain ⟨Oo,c,t,fi,r,t',eq,k⟩:=q
 obtain ⟨d,t1,e1,eq1⟩:=Ao eq
 clear eq
 obtain ⟨as,t2,e2,eq⟩:=Ao eq1
 clear eq1
 refine ⟨Oo,c,t,fi,d,t1,e1,fun v H1 c1 f1 s1 rv=>?_⟩
 split at eq
 ·next z y=>
  cases rv
  refine ⟨rfl,Oo,c1,t1,f1,_,t2,e2,fun us H2 c2 f2 s2 rus=>?_⟩
  obtain ⟨w,rfl,rw'⟩:=DC rus
  by_cases hz:(y.length == 0)=false∧z.length≤100000
  ·rw [if_pos hz] at eq
   cases eq
   cases rw'
   exact ⟨_,_,rfl,rfl,hz.1,hz.2,fun l hl=>k l _ H2 c2 f2 (s1.trans s2) (Jv _) hl⟩
  ·rw [if_neg hz] at eq;cases eq
 ·cases eq
section
variable {X:Cx} {o e:Expr} {es:List Expr} {f:M D} {g:M (List D)} {apos cpos p1 p2 p3 p4:Pos}
theorem OW {k:Nat} {fa:Addr} {fd:FuncData} {ps:List Str} {g:Fn} {x:Str} {p pos:Pos} (F:FnOk X.prog X.w X.K X.mg X.base CX0 k fa fd ps (spF X.K g)) (hr:Room k X.A) (hg:Gl X x) (hm:X.mg x=some (.ref fa)) (hk:PySem.W.keepIn X.K (.ref fa)=true) (hb:Binds X.K fd ps [])
 (hdb:(x == ("__debug__" : Str))=false:=by decide):PE X (.Call (.Name x p) [] [] pos) (RE X.K (An g Ah)):=
 Bv (Pf F hr hg hm hk hb .nil M3 hdb) fun σ H Q ⟨Oo,c,t,fi,r,t',eq,kk⟩=>by
  obtain ⟨ds,t1,e1,eq⟩:=Ao eq
  cases e1
  obtain ⟨S',e2,rfl⟩:=Go eq
  show spF X.K g ([]++[]) H Q E0
  refine ⟨c,[],t.S,fi.s,.nil,r,S',e2,fun v H' c' si st ho rv=>?_⟩
  obtain ⟨f2,s2⟩:=fi.after si st ho
  exact kk v H' c' f2 s2 rv
theorem G7 (ho:PE X o (RE X.K f)) (ha:PA X (e :: es) (RA X.K g))
 (hbase:attributeBase o "join" X.env (eval o X.env)=eval o X.env:=by rfl)
 (hfew:((backTo cpos (starEach (e :: es) X.env)).all (fun x=>!x.1) && (backToKw cpos (keywordEach [] X.env)).all (fun x=>x.1.isSome) && decide ((e :: es).length + ([]:List Keyword).length + (if ([]:List Keyword).isEmpty then 0 else 1) < 30))=true:=by rfl)
 (hline:(apos.endLine == cpos.line)=true:=by rfl) (hs:starEach (e :: es) X.env=(false,eval e X.env) :: starEach es X.env:=by rfl) (hplain:(backTo cpos (starEach es X.env)).any (·.1)=false:=by rfl) :
 PE X (.Call (.Attribute o "join" apos) (e :: es) [] cpos) (RE X.K (joinW f g)):=
 Bv (FX PySem.F.plainAttrs_str PySem.F.slot_str_join PySem.F.type_str_join Pa ho ha hbase hfew hline hs hplain) fun _ _ _ q=>RE.joinW q
theorem OY (ho:PE X o (RE X.K f)) (ha:PA X (e :: es) (RA X.K g))
 (hbase:attributeBase o "split" X.env (eval o X.env)=eval o X.env:=by rfl)
 (hfew:((backTo cpos (starEach (e :: es) X.env)).all (fun x=>!x.1) && (backToKw cpos (keywordEach [] X.env)).all (fun x=>x.1.isSome) && decide ((e :: es).length + ([]:List Keyword).length + (if ([]:List Keyword).isEmpty then 0 else 1) < 30))=true:=by rfl)
 (hline:(apos.endLine == cpos.line)=true:=by rfl) (hs:starEach (e :: es) X.env=(false,eval e X.env) :: starEach es X.env:=by rfl) (hplain:(backTo cpos (starEach es X.env)).any (·.1)=false:=by rfl) :
 PE X (.Call (.Attribute o "split" apos) (e :: es) [] cpos) (RF X.K (splitM f g)):=
 Bv (FX PySem.F.plainAttrs_str PySem.F.slot_str_split PySem.F.type_str_split Pb ho ha hbase hfew hline hs hplain) fun _ _ _ q=>RF.splitM q
theorem QS (hq:Quo X.K X.mg) (hg:Gl X "QUOTE") (ho:PE X o (RE X.K f))
 (hbase:attributeBase o "replace" X.env (eval o X.env)=eval o X.env:=by rfl) (hline:(apos.endLine == cpos.line)=true:=by rfl) :
 PE X (.Call (.Attribute o "replace" apos) [.Name "QUOTE" p1,.BinOp (.Name "QUOTE" p2) .Add (.Name "QUOTE" p3) p4] [] cpos) (RE X.K (fUn f HV)):=
 Bv (Ru hq hg ho hbase hline) fun σ H Q ⟨Oo,c,t,fi,r,t',eq,k⟩=>by
  obtain ⟨d,t1,e1,eq⟩:=Ao eq
  refine ⟨Oo,c,t,fi,d,t1,e1,fun v H1 c1 f1 s1 rv=>?_⟩
  unfold HV at eq
  split at eq
  ·next z=>
   by_cases hz:z.length≤100000
   ·rw [if_pos hz] at eq
    cases eq
    cases rv
    exact ⟨_,rfl,hz,k _ _ c1 f1 s1 (.str _)⟩
   ·rw [if_neg hz] at eq;cases eq
  ·cases eq
end
end F2
namespace L2
open PySem
theorem Sd {K:PySem.W.Frag} {x:Str} {t n:Nat} (e:PySem.W.nsIn K mainGlobals "QUOTE" = some (some (.str x t))) (h:t + 1≤n):Fi K≤n:=by
 unfold Fi;rw [e];exact h
end L2
namespace L2
open PySem PySem.Spec PyProof.Rows
section
variable {X:Cx}
def Mn:V→List V→Hp→VK→Prop:=fun x xs H Q=>∃z y i,x = .str z∧xs=[.str y,.int i]∧Q (.bl (Txt.startswith3 z y i)) H
theorem NZ:MtR X "str.startswith" Mn:=by
 intro pins s σ H x xs v us Q I rx rs h
 obtain ⟨z,y,i,rfl,rfl,q⟩:=h
 obtain ⟨t,rfl⟩:=rx
 obtain ⟨u1,u2,rfl,⟨t1,rfl⟩,⟨t2,rfl⟩⟩:=GY rs
 exact SC.startswith3 ⟨.bl _,H,I,rfl,q⟩
def Oi:V→List V→Hp→VK→Prop:=fun x xs H Q=>∃z y i,x = .str z∧xs=[.str y,.int i]∧Q (.int (Txt.find3 z y i)) H
theorem O9:MtR X "str.find" Oi:=by
 intro pins s σ H x xs v us Q I rx rs h
 obtain ⟨z,y,i,rfl,rfl,q⟩:=h
 obtain ⟨t,rfl⟩:=rx
 obtain ⟨u1,u2,rfl,⟨t1,rfl⟩,⟨t2,rfl⟩⟩:=GY rs
 exact SC.find3 ⟨.int _,H,I.tok _,⟨_,rfl⟩,q⟩
def inT (y x:Str):Bool:=!(Builtin.Str.occurrences x y 0 x.length 1).isEmpty
def TF:R2:=fun x y H Q=>∃a b,x = .str a∧y = .str b∧Q (.bl (inT a b)) H
theorem Ti:OpR X (compareOp .In) TF:=by
 intro pins s σ H x y v u Q I rx ry h
 obtain ⟨a,b,rfl,rfl,q⟩:=h
 obtain ⟨t1,rfl⟩:=rx
 obtain ⟨t2,rfl⟩:=ry
 exact PySem.P.in_str ⟨.bl _,H,I,rfl,q⟩
theorem Nu:Cb X (.type "int") (fun xs H Q=>∃x n,xs=[.str x]∧PySem.intText? x=some n∧x.length≤640∧Q (.int n) H):=by
 intro pins s σ H xs us Q I r h
 obtain ⟨x,n,rfl,hn,hl,q⟩:=h
 obtain ⟨u,rfl,t,rfl⟩:=DE r
 exact PySem.W.KIN.call_text hn hl ⟨.int _,H,I.tok _,⟨_,rfl⟩,q⟩
end
end L2
namespace F2
open PySem L2 PySem.Spec PyProof.Rows
section
variable {X:Cx} {K:PySem.W.Frag} {o e:Expr} {es:List Expr} {f:M D} {g:M (List D)} {apos cpos:Pos}
def startsM (f:M D) (g:M (List D)):M D:=bnd f fun o=>bnd g fun as=>match o,as with
 | .str z,[.str y,.int i]=>ret (.bl (Txt.startswith3 z y i))
 | _,_=>fail
def find3M (f:M D) (g:M (List D)):M D:=bnd f fun o=>bnd g fun as=>match o,as with
 | .str z,[.str y,.int i]=>ret (.int (Txt.find3 z y i))
 | _,_=>fail
theorem On {c:Cf} {H:Hp} {us:List V} {a b:D} (h:Reps K c H us [a,b]):∃u v,us=[u,v]∧Rep K c H u a∧Rep K c H v b:=by
 cases h with
 | cons r t=>cases t with
   | cons r2 t2=>cases t2;exact ⟨_,_,rfl,r,r2⟩
theorem RE.startsM {σ:L2.St} {H:Hp} {Q:VK} (q:RE K (F2.startsM f g) σ H Q):tBM K "str" Mn (RE K f) (RA K g) σ H Q:=by
 obtain ⟨Oo,c,t,fi,r,t',eq,k⟩:=q
 obtain ⟨d,t1,e1,eq⟩:=Ao eq
 obtain ⟨as,t2,e2,eq⟩:=Ao eq
 refine ⟨Oo,c,t,fi,d,t1,e1,fun v H1 c1 f1 s1 rv=>?_⟩
 split at eq
 ·next z y i=>
  cases rv
  refine ⟨rfl,Oo,c1,t1,f1,_,t2,e2,fun us H2 c2 f2 s2 rus=>?_⟩
  obtain ⟨w1,w2,rfl,r1,r2⟩:=On rus
  cases eq
  cases r1
  cases r2
  exact ⟨_,_,_,rfl,rfl,k _ _ c2 f2 (s1.trans s2) (.bl _)⟩
 ·cases eq
theorem RE.find3M {σ:L2.St} {H:Hp} {Q:VK} (q:RE K (F2.find3M f g) σ H Q):tBM K "str" Oi (RE K f) (RA K g) σ H Q:=by
 obtain ⟨Oo,c,t,fi,r,t',eq,k⟩:=q
 obtain ⟨d,t1,e1,eq⟩:=Ao eq
 obtain ⟨as,t2,e2,eq⟩:=Ao eq
 refine ⟨Oo,c,t,fi,d,t1,e1,fun v H1 c1 f1 s1 rv=>?_⟩
 split at eq
 ·next z y i=>
  cases rv
  refine ⟨rfl,Oo,c1,t1,f1,_,t2,e2,fun us H2 c2 f2 s2 rus=>?_⟩
  obtain ⟨w1,w2,rfl,r1,r2⟩:=On rus
  cases eq
  cases r1
  cases r2
  exact ⟨_,_,_,rfl,rfl,k _ _ c2 f2 (s1.trans s2) (.int _)⟩
 ·cases eq
theorem Em (ho:PE X o (RE X.K f)) (ha:PA X (e :: es) (RA X.K g))
 (hbase:attributeBase o "startswith" X.env (eval o X.env)=eval o X.env:=by rfl)
 (hfew:((backTo cpos (starEach (e :: es) X.env)).all (fun x=>!x.1) && (backToKw cpos (keywordEach [] X.env)).all (fun x=>x.1.isSome) && decide ((e :: es).length + ([]:List Keyword).length + (if ([]:List Keyword).isEmpty then 0 else 1) < 30))=true:=by rfl)
 (hline:(apos.endLine == cpos.line)=true:=by rfl) (hs:starEach (e :: es) X.env=(false,eval e X.env) :: starEach es X.env:=by rfl) (hplain:(backTo cpos (starEach es X.env)).any (·.1)=false:=by rfl) :
 PE X (.Call (.Attribute o "startswith" apos) (e :: es) [] cpos) (RE X.K (startsM f g)):=
 Bv (FX PySem.F.plainAttrs_str PySem.F.slot_str_startswith PySem.F.type_str_startswith NZ ho ha hbase hfew hline hs hplain) fun _ _ _ q=>RE.startsM q
theorem KJ (ho:PE X o (RE X.K f)) (ha:PA X (e :: es) (RA X.K g))
 (hbase:attributeBase o "find" X.env (eval o X.env)=eval o X.env:=by rfl)
 (hfew:((backTo cpos (starEach (e :: es) X.env)).all (fun x=>!x.1) && (backToKw cpos (keywordEach [] X.env)).all (fun x=>x.1.isSome) && decide ((e :: es).length + ([]:List Keyword).length + (if ([]:List Keyword).isEmpty then 0 else 1) < 30))=true:=by rfl)
 (hline:(apos.endLine == cpos.line)=true:=by rfl) (hs:starEach (e :: es) X.env=(false,eval e X.env) :: starEach es X.env:=by rfl) (hplain:(backTo cpos (starEach es X.env)).any (·.1)=false:=by rfl) :
 PE X (.Call (.Attribute o "find" apos) (e :: es) [] cpos) (RE X.K (find3M f g)):=
 Bv (FX PySem.F.plainAttrs_str PySem.F.slot_str_find PySem.F.type_str_find O9 ho ha hbase hfew hline hs hplain) fun _ _ _ q=>RE.find3M q
def MS (x y:D):M D:=fun t=>match x,y with
 | .str a,.str b=>some (.bl (inT a b),t)
 | _,_=>none
theorem R4:BJ K TF MS:=fun {Oo c t σ H x y dx dy r t' Q} f rx ry eq k=>by
 unfold MS at eq
 split at eq
 ·next a b=>
  cases eq
  cases rx
  cases ry
  exact ⟨_,_,rfl,rfl,k _ H c f .refl (.bl _)⟩
 ·cases eq
def Iz:List D→M D
 | [.str x]=>fun t=>match PySem.intText? x with
   | some n=>if x.length≤640 then some (.int n,t) else none
   | none=>none
 | _=>fail
theorem PL:DF K (fun xs H Q=>∃x n,xs=[.str x]∧PySem.intText? x=some n∧x.length≤640∧Q (.int n) H) Iz:=fun {Oo c t σ H xs ds r t' Q} f rx eq k=>by
 unfold Iz at eq
 split at eq
 ·next x=>
  obtain ⟨v,rfl,rv⟩:=DC rx
  cases en:PySem.intText? x with
  | none=>rw [en] at eq;cases eq
  | some n=>
    rw [en] at eq
    dsimp only at eq
    by_cases hz:x.length≤640
    ·rw [if_pos hz] at eq
     cases eq
     cases rv
     exact ⟨x,n,rfl,en,hz,k _ H c f .refl (.int _)⟩
    ·rw [if_neg hz] at eq;cases eq
 ·cases eq
end
end F2
namespace L2
open PySem PySem.Spec PyProof.Rows
section
variable {X:Cx} {pins:List (Addr×Obj)} {σ:St} {H:Hp} {s:Shared} {a:Addr} {o:Obj}
theorem Inv.track (I:Inv X pins σ H s) (h0:X.s₀.heap.objs.size≤a) (ho:s.heap.get? a=some o) (hn:H a=none) (hL:a≠X.env.locals) (hp:∀p∈X.pn++pins,p.1≠a) (hz:∀x,X.env.cells.lookup x=some a→x∈D8):Inv X pins σ (upd H a (.frz o (.own 0))) s:=by
 have ne:∀b u,H b=some u→b≠a:=fun b u e z=>by rw [z,hn] at e;cases e
 have nn:∀b u,H b=some u→upd H a (.frz o (.own 0)) b=some u:=fun b u e=>by rw [AA (ne b u e)];exact e
 refine ⟨I.ok,I.os,I.bare,⟨I.base.keep,I.base.slot,fun b ob q n hx=>?_,I.base.there,fun b xs q=>nn _ _ (I.base.tups b xs q),fun b ob u q=>nn _ _ (I.base.frzs b ob u q),fun b ps q=>?_⟩,I.loc,I.cell,by rw [AA hL.symm];exact I.free,fun x c q=>?_,fun p hp'=>?_,fun b u q=>?_,I.len,I.tk⟩
 ·rw [AA (Nat.ne_of_lt (Nat.lt_of_lt_of_le (Heap.lt_size q) h0))]
  exact I.base.free b ob q n hx
 ·obtain ⟨more,e⟩:=I.base.tbls b ps q
  exact ⟨more,nn _ _ e⟩
 ·by_cases hc:c=a
  ·subst hc
   exact .inr ⟨hz x q,o,_,AW⟩
  ·rw [AA hc]
   exact I.freeC x c q
 ·obtain ⟨q1,q2,q3⟩:=I.pin p hp'
  exact ⟨q1,by rw [AA (hp p hp')];exact q2,q3⟩
 ·by_cases hb:b=a
  ·subst hb
   rw [AW] at q;cases q
   exact ⟨ho,o,ho⟩
  ·rw [AA hb] at q
   exact (I.hok b u q).stay (fun _ _ _ z=>z) (fun c z=>nn _ _ z) fun c xs z=>nn _ _ z
theorem Inv.grow {ps more:Array Value} {h':Heap} {t':Nat} (I:Inv X pins σ H s) (e:H a=some (.tbl ps)) (k:∀b u,b≠a→s.heap.get? b=some u→h'.get? b=some u) (hP:h'.get? a=some { cls:=.none,data:=.fields (ps++more) })
 (ht:s.toks≤t':=by first | exact Nat.le_refl _ | assumption | lia | (dsimp only;lia)):Inv X pins σ (upd H a (.tbl (ps++more))) { s with heap:=h',toks:=t' }:=by
 have ne:∀b u,H b=some u→(∀ps,u≠.tbl ps)→b≠a:=fun b u q n z=>by
  rw [z,e] at q;cases q;exact n _ rfl
 have nf:∀b,H b=none→b≠a:=fun b q z=>by rw [z,e] at q;cases q
 refine I.un ⟨fun b u q n _ _=>k b u (nf b n) q,fun b u q n _ _=>⟨u.slots,k b u (nf b n) q⟩,fun b u q n _=>by rw [AA (nf b n)];exact n,fun b u q _=>?_,fun b xs q=>by rw [AA (ne b _ q (by simp))];exact q,fun b ob u q=>by rw [AA (ne b _ q (by simp))];exact q,fun b qs q=>?_⟩ (fun b u q=>?_) ht
 ·by_cases hb:b=a
  ·subst hb;exact ⟨_,hP⟩
  ·exact ⟨u,k b u hb q⟩
 ·by_cases hb:b=a
  ·subst hb
   rw [e] at q;cases q
   exact ⟨more,AW⟩
  ·exact ⟨#[],by rw [AA hb,q];simp⟩
 ·by_cases hb:b=a
  ·subst hb
   rw [AW] at q;cases q
   exact hP
  ·rw [AA hb] at q
   refine (I.hok b u q).stay (fun c v hc z=>k c v ?_ z) (fun c z=>?_) fun c xs z=>?_
   ·rcases hc with hc | hc
    ·rw [hc];exact hb
    ·exact ne c _ hc (by simp)
   ·rw [AA (ne c _ z (by simp))];exact z
   ·rw [AA (ne c _ z (by simp))];exact z
theorem PX {H:Hp} {a b:Addr} {x y:HO} (h:a≠b):upd (upd H b y) a x=upd (upd H a x) b y:=by
 funext d
 by_cases h1:d=a
 ·subst h1;rw [AW,AA h,AW]
 ·by_cases h2:d=b
  ·subst h2;rw [AA h1,AW,AW]
  ·rw [AA h1,AA h2,AA h2,AA h1]
def Kg (H H1:Hp):Prop:=∀b u,H b=some u→H1 b=some u
def CellsV (H:Hp):List Addr→List V→Prop:=Paired fun c v=>∃(o:Obj) (w:HO) (u:Value),H c=some (.frz o w)∧o.data = .cell (some u)∧RelV v u
theorem Inv.frzL:∀{l:List (Str×Addr)} {vs:List V},Paired (fun (p:Str×Addr) v=>X.env.cells.lookup p.1=some p.2∧X.fn p.1=true∧p.1∈D8∧∃u,RelV v u∧s.heap.IsCell p.2 (some u)) l vs→∀{H:Hp},Inv X pins σ H s→
 ∃H1,Inv X pins σ H1 s∧Kg H H1∧CellsV H1 (l.map (·.2)) vs
 | _,_,.nil,H,I=>⟨H,I,fun _ _ e=>e,.nil⟩
 | (x,c) :: l,v :: vs,.cons ⟨h1,h2,hz,u,h3,o,h4,h5⟩ t,H,I=>by
   have go:∃H1,Inv X pins σ H1 s∧Kg H H1∧∃w,H1 c=some (.frz o w):=by
    rcases I.freeC x c h1 with hn | ⟨_,of,uf,hf⟩
    ·refine ⟨_,I.track (I.ok.cab x c h2 h1) h4 hn (I.cne x c h1) (fun p hp z=>?_) (fun y hy=>(I.ok.inj x y c h1 hy) ▸ hz),fun b q e=>?_,_,AW⟩
     ·obtain ⟨q1,_,_,_,q5⟩:=I.pin p hp
      rw [z] at q1
      rw [h4] at q1
      cases q1
      exact q5 _ h5
     ·rw [AA (fun z=>by rw [z,hn] at e;cases e)];exact e
    ·have q1:=(I.hok c _ hf).1
     rw [h4] at q1;cases q1
     exact ⟨H,I,fun _ _ e=>e,uf,hf⟩
   obtain ⟨H1,I1,m1,w,e1⟩:=go
   obtain ⟨H2,I2,m2,c2⟩:=Inv.frzL t I1
   exact ⟨H2,I2,fun b q e=>m2 _ _ (m1 _ _ e),.cons ⟨o,w,u,m2 _ _ e1,h5,h3⟩ c2⟩
structure TabAt (base:Heap) (mg:Str→Option Value) (c P:Addr):Prop where
 hd:PySem.W.CodeHd base c P
 bl:base.BuiltinsAt mg P
 ne:mainGlobals≠P
def Nx (oc:Obj) (qual:Str):Prop:=∃vs t,oc.data = .fields vs∧vs[1]?=some (.str qual t)
abbrev K9 (pos:Pos) (c':Addr):Array Value:=#[rawInt pos.line,rawInt pos.col,.ref c']
def Ua (P:Addr) (qual:Str) (params:Arguments) (body:Expr) (scope:Scope) (pos:Pos) (names:List Str) (js:List Nat):TE:=fun σ H Q=>∃vs:List V,Paired (fun j v=>σ[j]?=some (some v)) js vs∧∃ps,H P=some (.tbl ps)∧
 ((ps=#[]∧∀H1 cs c' oc f pm ctv,Kg H H1→CellsV H1 cs vs→cs.length=names.length→cs.Nodup→H1 c'=none→Nx oc qual→H1 f=none→f≠c'→
    Q (.ref f) (upd (upd (upd H1 c' (.frz oc (.own 0))) P (.tbl (K9 pos c'))) f (.frz (PySem.W.kla_obj "<lambda>" qual params body scope (names.zip cs) pm c' ctv) (.own 0))))∨
  ∃c',ps=K9 pos c'∧∀H1 cs f pm ctv,Kg H H1→CellsV H1 cs vs→cs.length=names.length→cs.Nodup→H1 f=none→
   Q (.ref f) (upd H1 f (.frz (PySem.W.kla_obj "<lambda>" qual params body scope (names.zip cs) pm c' ctv) (.own 0))))
theorem Tn {c P:Addr} {params:Arguments} {body:Expr} {scope:Scope} {pos:Pos} {names:List Str} {cs:List Addr} {js:List Nat} (T:TabAt X.base X.mg c P) (hcode:X.env.code = .ref c) (hlen:cs.length=names.length) (hnd:cs.Nodup)
 (hcl:closureFor scope X.env=pure (names.zip cs)) (hdef:defaultsOf params X.env=([],[]))
 (hn:Paired (fun (p:Str×Addr) j=>X.N[j]?=some p.1∧X.env.kindOf p.1=some .cell∧X.env.cells.lookup p.1=some p.2∧X.fn p.1=true∧p.1∈D8) (names.zip cs) js) :
 PE X (.Lambda params body scope pos) (Ua P (X.env.qual++"<lambda>") params body scope pos names js):=by
 intro pins s σ H Q I h
 obtain ⟨vs,hvs,ps,hP,hh⟩:=h
 obtain ⟨m,hns,hl⟩:=id I.loc
 have cells:∀{l:List (Str×Addr)} {js:List Nat} {vs:List V},Paired (fun (p:Str×Addr) j=>X.N[j]?=some p.1∧X.env.kindOf p.1=some .cell∧X.env.cells.lookup p.1=some p.2∧X.fn p.1=true∧p.1∈D8) l js→Paired (fun j v=>σ[j]?=some (some v)) js vs→
  Paired (fun (p:Str×Addr) v=>X.env.cells.lookup p.1=some p.2∧X.fn p.1=true∧p.1∈D8∧∃u,RelV v u∧s.heap.IsCell p.2 (some u)) l vs:=by
  intro l js vs h1
  induction h1 generalizing vs with
  | nil=>intro h2;cases h2;exact .nil
  | cons a _ ih=>
    intro h2
    cases h2 with
    | cons b t=>
      refine .cons ⟨a.2.2.1,a.2.2.2.1,a.2.2.2.2,?_⟩ (ih t)
      obtain ⟨u,r,lk⟩:=hl _ _ _ a.1 b (.inr (.inl a.2.1))
      rcases lk with ⟨k,_⟩ | ⟨_,c1,e1,z⟩
      ·rw [a.2.1] at k;cases k
      ·rw [a.2.2.1] at e1;cases e1
       exact ⟨u,r,z⟩
 obtain ⟨H1,I1,m1,cv⟩:=I.frzL (cells hn hvs)
 have ecs:(names.zip cs).map (·.2)=cs:=by
  rw [show (fun (x:Str×Addr)=>x.2)=Prod.snd from rfl,List.map_snd_zip (Nat.le_of_eq hlen)]
 rw [ecs] at cv
 have hP1:=m1 _ _ hP
 have hPo:s.heap.get? P=some (PySem.W.tabObj ps):=I1.hok P _ hP1
 have hg:s.heap.Ns mainGlobals X.mg:=I.mod.glob.keeps I.bk
 have C:PySem.W.CodeHd s.heap c P:=T.hd.keeps I.bk
 obtain ⟨bm,ob,b1,b2,b3,b4,b5,b6⟩:=T.bl
 have hb:s.heap.BuiltinsAt X.mg P:=⟨bm,ob,b1,b2,b3,b4,I.bk _ _ b5,b6⟩
 refine PySem.W.kla_eval hdef ?_
 rcases hh with ⟨rfl,q⟩ | ⟨c',rfl,q⟩
 ·refine wpAny_with_toks (Nat.le_refl s.toks) (PySem.W.kla_makeFunction (mg:=X.mg) hcl I.ok.glob hg hcode C hPo trivial rfl T.ne hb fun c' ctv h' tk hx hge hlt hrec htb htk=>?_)
  have htk':s.toks≤tk:=htk
  obtain ⟨c2,oc,ws,tq,e2,hoc,hd,hv⟩:=hrec
  cases e2
  have htb':h'.get? P=some { cls:=.none,data:=.fields ((#[]:Array Value)++K9 pos c') }:=by simpa using htb
  have I2:=I1.grow (t':=tk) hP1 (fun b u nb e=>hx b u nb e) htb'
  have n1:H1 c'=none:=I1.hok.fresh hge
  have nP:c'≠P:=fun z=>by rw [z,hP1] at n1;cases n1
  have n2:upd H1 P (.tbl (#[]++K9 pos c')) c'=none:=by rw [AA nP];exact n1
  have I3:=I2.track (a:=c') (Nat.le_trans I1.sz hge) hoc n2 (Nat.ne_of_gt (Nat.lt_of_lt_of_le I1.lt hge)) (fun p hp z=>Nat.ne_of_lt (Nat.lt_of_lt_of_le (Heap.lt_size (I1.pin p hp).1) hge) z) (fun y hy=>by obtain ⟨_,oo,g1,_⟩:=I1.cell y c' hy;exact absurd (Heap.lt_size g1) (Nat.not_lt.mpr hge))
  have I4:=I3.laid (a:=h'.objs.size) (h':=h'.push (PySem.W.kla_obj "<lambda>" (X.env.qual++"<lambda>") params body scope (names.zip cs) ((X.mg "__name__").getD .none) c' ctv)) (t':=tk)
   (o:=.frz (PySem.W.kla_obj "<lambda>" (X.env.qual++"<lambda>") params body scope (names.zip cs) ((X.mg "__name__").getD .none) c' ctv) (.own 0)) (fun b u e=>Heap.get?_push_of_some _ e) (Nat.le_refl _) ⟨Heap.get?_push_size _ rfl,_,Heap.get?_push_size _ rfl⟩
  refine ⟨.ref h'.objs.size,_,I4,rfl,?_⟩
  have:=q H1 cs c' oc h'.objs.size ((X.mg "__name__").getD .none) ctv m1 cv hlen hnd n1 ⟨ws,tq,hd,hv⟩ (I1.hok.fresh (Nat.le_trans hge (Nat.le_of_lt hlt))) (Nat.ne_of_gt hlt)
  rw [PX nP]
  simpa using this
 ·refine wpAny_with_toks (Nat.le_refl s.toks) (PySem.W.kla_makeFunctionHit (mg:=X.mg) (cv:=.ref c') hcl I.ok.glob hg hcode C hPo ⟨⟩ (by simp [codeAmong,rawInt]) hb fun ctv h' tk hk hsz htk=>?_)
  have htk':s.toks≤tk:=htk
  have I2:=I1.kept (h':=h') (t':=tk) hk
  have I4:=I2.laid (a:=h'.objs.size) (h':=h'.push (PySem.W.kla_obj "<lambda>" (X.env.qual++"<lambda>") params body scope (names.zip cs) ((X.mg "__name__").getD .none) c' ctv)) (t':=tk)
   (o:=.frz (PySem.W.kla_obj "<lambda>" (X.env.qual++"<lambda>") params body scope (names.zip cs) ((X.mg "__name__").getD .none) c' ctv) (.own 0)) (fun b u e=>Heap.get?_push_of_some _ e) (Nat.le_refl _) ⟨Heap.get?_push_size _ rfl,_,Heap.get?_push_size _ rfl⟩
  exact ⟨.ref h'.objs.size,_,I4,rfl,q H1 cs h'.objs.size _ ctv m1 cv hlen hnd (I1.hok.fresh hsz)⟩
end
theorem CellsV.at {H:Hp}:∀{names:List Str} {cs:List Addr} {vs:List V} {j:Nat} {y:Str} {v:V},names.Nodup→cs.length=names.length→CellsV H cs vs→names[j]?=some y→vs[j]?=some v→
 ∃(c:Addr) (o:Obj) (w:HO) (u:Value),(names.zip cs).lookup y=some c∧H c=some (.frz o w)∧o.data = .cell (some u)∧RelV v u
 | [],_,_,_,_,_,_,_,_,e,_=>by simp at e
 | n :: names,[],_,_,_,_,_,hl,_,_,_=>by simp at hl
 | n :: names,c :: cs,v0 :: vs,0,y,v,nd,hl,.cons ⟨o,w,u,h1,h2,h3⟩ _,e,e'=>by
   simp at e e';subst e e'
   exact ⟨c,o,w,u,by simp [List.lookup],h1,h2,h3⟩
 | n :: names,c :: cs,v0 :: vs,j + 1,y,v,nd,hl,.cons _ t,e,e'=>by
   have ey:names[j]?=some y:=by simpa using e
   have ne:(y == n)=false:=by
    rw [beq_eq_false_iff_ne]
    rintro rfl
    exact (List.nodup_cons.mp nd).1 (List.mem_of_getElem? ey)
   obtain ⟨c1,o,w,u,h1,h2⟩:=CellsV.at (j:=j) (List.nodup_cons.mp nd).2 (by simpa using hl) t ey (by simpa using e')
   exact ⟨c1,o,w,u,by rw [List.zip_cons_cons,List.lookup_cons,ne];exact h1,h2⟩
theorem CellsV.mem {H:Hp}:∀{cs:List Addr} {vs:List V} {c:Addr},CellsV H cs vs→c∈cs→∃(o:Obj) (w:HO) (u:Value),H c=some (.frz o w)∧o.data = .cell (some u)
 | c0 :: cs,_,c,.cons ⟨o,w,u,h1,h2,_⟩ t,h=>by
   rcases List.mem_cons.mp h with rfl | h
   ·exact ⟨o,w,u,h1,h2⟩
   ·exact CellsV.mem t h
def GK (CX:CXT) (P:Program) (w:World) (K:PySem.W.Frag) (mg:Str→Option Value) (base:Heap) (N:List Str) (qual:Str) (scope:Scope) (f:Addr) (cd:Value) (cl:List (Str×Addr)) (A:Around) (outer:List Env) (s:Shared) (H:Hp) (E:XK):Cx where
 prog:=P
 w:=w
 K:=K
 mg:=mg
 base:=base
 A:=A.deeper (PySem.W.envX qual scope s.heap.objs.size f cd cl)
 N:=N
 s₀:=s
 H₀:=H
 env:=PySem.W.envX qual scope s.heap.objs.size f cd cl
 outer:=outer
 stack:=PySem.W.envX qual scope s.heap.objs.size f cd cl :: outer
 ex:=[]
 calm:=true
 fn:=fun _=>false
 pn:=[]
 xe:=fun e s'=>wpAny (model P w) (A.deeper (PySem.W.envX qual scope s.heap.objs.size f cd cl)) (leaving (PySem.W.envX qual scope s.heap.objs.size f cd cl) e) (fun _ s''=>CX outer H s E e s'') (fun e' s''=>CX outer H s E e' s'') s'
theorem NU {CX:CXT} {P:Program} {w:World} {K:PySem.W.Frag} {mg:Str→Option Value} {base:Heap} {qual:Str} {scope:Scope} {f:Addr} {cd:Value} {A:Around} {outer:List Env} {s:Shared} {H:Hp} {E:XK} {x:Str} {names:List Str} {cs:List Addr} {caps:List V} {v:V} {u:Value} {h1:Heap} {tk:Nat}
 (hk:scope.kind = .function) (hx:scope.names.lookup x=some .local) (hfr:∀y∈names,scope.names.lookup y=some .free) (hall:∀y,scope.names.lookup y=some .free→y∈names) (hcell:∀y∈scope.names,y.2≠.cell) (hnd:cs.Nodup) (nd:names.Nodup) (hlen:cs.length=names.length) (hfz:∀y∈names,y∈D8)
 (cv:CellsV H cs caps) (hd:A.handled=none) (e0:Env0 P w K mg base A outer s H) (r:RelV v u) (hns:h1.Ns s.heap.objs.size (fun y=>([(x,u)]:List (Str×Value)).reverse.lookup y)) (hk1:∀b o,s.heap.get? b=some o→h1.get? b=some o) (ht:s.toks≤tk) :
 Inv (GK CX P w K mg base (x :: names) qual scope f cd (names.zip cs) A outer s H E) [] (some v :: caps.map some) H { s with heap:=h1,toks:=tk }:=by
 have noA:∀b:Addr,b∉(GK CX P w K mg base (x :: names) qual scope f cd (names.zip cs) A outer s H E).ex:=fun b z=>absurd (show b∈([]:List Addr) from z) (by simp)
 have lc:caps.length=names.length:=by have:=cv.length;lia
 have csmem:∀{y:Str} {c:Addr},(names.zip cs).lookup y=some c→c∈cs:=fun e=>(List.of_mem_zip (PySem.mem_of_lookup e)).2
 have pw:∀{ns:List Str} {cs:List Addr},cs.Nodup→(ns.zip cs).Pairwise fun a b=>a.2≠b.2:=by
  intro ns
  induction ns with
  | nil=>intro cs _;simp
  | cons n ns ih=>
    intro cs hc
    cases cs with
    | nil=>simp
    | cons c cs=>
      rw [List.zip_cons_cons,List.pairwise_cons]
      exact ⟨fun a ha z=>(List.nodup_cons.mp hc).1 (by have:c=a.2:=z;rw [this];exact (List.of_mem_zip ha).2),ih (List.nodup_cons.mp hc).2⟩
 refine ⟨⟨e0.mod,hk,rfl,rfl,Nat.le_refl _,fun y z c h1 h2=>?_,fun y hy=>?_,fun y c z _=>absurd z (by intro q;cases q),fun _=>hd,Around.frames_deeper e0.frames,.inr ⟨rfl,rfl⟩,fun b z=>absurd z (noA b),e0.bs,e0.bsz,fun b _ _=>noA b,fun b z=>absurd z (noA b),e0.funs,e0.frf⟩,
  rfl,e0.bare,Un.kept hk1,⟨_,hns,fun i y v' q1 q2 q3=>?_⟩,fun y c h=>?_,e0.hok.fresh (Nat.le_refl _),fun y c h=>?_,fun p hp=>absurd (show p∈([]:List (Addr×Obj)) from hp) (by simp),e0.hok.kept hk1,?_,Nat.le_trans e0.tk ht⟩
 ·exact name_of_addr (pw hnd) (PySem.mem_of_lookup h1) (PySem.mem_of_lookup h2)
 ·have hy:scope.names.lookup y=some .cell∨scope.names.lookup y=some .free:=hy
  rcases hy with hy | hy
  ·exact absurd rfl (hcell _ (PySem.mem_of_lookup hy))
  ·have hm:=hall y hy
   obtain ⟨j,hj,ej⟩:=List.mem_iff_getElem.mp hm
   have e1:names[j]?=some y:=by rw [List.getElem?_eq_getElem hj,ej]
   obtain ⟨c,_,_,_,h,_⟩:=CellsV.at (j:=j) (v:=caps[j]'(by lia)) nd hlen cv e1 (List.getElem?_eq_getElem _)
   exact ⟨c,h⟩
 ·cases i with
  | zero=>
    have q1:some x=some y:=by simpa [GK] using q1
    have q2:some (some v)=some (some v'):=by simpa using q2
    cases q1;cases q2
    exact ⟨u,r,.inl ⟨hx,by simp [List.lookup]⟩⟩
  | succ j=>
    have q1:names[j]?=some y:=by simpa [GK] using q1
    have q2:caps[j]?=some v':=by
     rw [List.getElem?_cons_succ,List.getElem?_map] at q2
     cases e:caps[j]? with
     | none=>rw [e] at q2;cases q2
     | some a=>rw [e] at q2;cases q2;rfl
    obtain ⟨c,o,w',u',h,h2,h3,h4⟩:=cv.at nd hlen q1 q2
    exact ⟨u',h4,.inr ⟨.inr (hfr y (List.mem_of_getElem? q1)),c,h,o,hk1 _ _ (e0.hok c _ h2).1,h3⟩⟩
 ·obtain ⟨o,w',u',h2,h3⟩:=cv.mem (csmem h)
  exact ⟨_,o,hk1 _ _ (e0.hok c _ h2).1,h3⟩
 ·obtain ⟨o,w',u',h2,h3⟩:=cv.mem (csmem h)
  exact .inr ⟨hfz y (List.of_mem_zip (PySem.mem_of_lookup h)).1,o,w',h2⟩
 ·show _=(x :: names).length
  simp [lc]
theorem Tc {CX:CXT} {P:Program} {w:World} {K:PySem.W.Frag} {mg:Str→Option Value} {base:Heap} {k:Nat} {f c':Addr} {qual:Str} {params:Arguments} {body:Expr} {scope:Scope} {x:Str} {names:List Str} {cs:List Addr} {caps:List V} {pm ctv:Value} {sp:Sp}
 (hk:scope.kind = .function) (hco:scope.isCoroutine=false) (hgen:scope.isGenerator=false) (hx:scope.names.lookup x=some .local) (hfr:∀y∈names,scope.names.lookup y=some .free) (hall:∀y,scope.names.lookup y=some .free→y∈names)
 (hcell:∀y∈scope.names,y.2≠.cell) (hnd:cs.Nodup) (nd:names.Nodup) (hlen:cs.length=names.length) (hfz:∀y∈names,y∈D8)
 (hsp:∀vs H Q E,sp vs H Q E→vs.length=1∧(∃w0,H f=some (.frz (PySem.W.kla_obj "<lambda>" qual params body scope (names.zip cs) pm c' ctv) w0))∧(∃oc w1,H c'=some (.frz oc w1)∧Nx oc qual)∧CellsV H cs caps)
 (hbody:∀(A:Around) (outer:List Env) (s:Shared) (H:Hp) (v:V) (Q:VK) (E:XK),Room k (A.deeper (PySem.W.envX qual scope s.heap.objs.size f (.ref c') (names.zip cs)))→sp [v] H Q E→
   ∃t,PE (GK CX P w K mg base (x :: names) qual scope f (.ref c') (names.zip cs) A outer s H E) body t∧t (some v :: caps.map some) H Q) :
 FnOk P w K mg base CX (k + 1) f (PySem.W.kla_fn "<lambda>" qual params body scope (names.zip cs) pm (.ref c') ctv) [x] sp:=by
 refine ⟨fun vs H Q E q=>(hsp _ _ _ _ q).1,fun A outer s H args us vs Q E hr e0 hb r q=>?_⟩
 obtain ⟨hl,⟨w0,hf⟩,⟨oc,w1,hc,wsc,tq,hd,hv⟩,cv⟩:=hsp _ _ _ _ q
 obtain ⟨v,rfl⟩:∃v,vs=[v]:=List.length_eq_one_iff.mp hl
 obtain ⟨u,rfl,ru⟩:=DE r
 have lim:s.heap.NoLimit:=e0.mod.nolimit.keeps fun b o e=>(e0.bs b o e).1
 refine PySem.W.kla_callFunE hr.depth (e0.hok f _ hf).1 rfl hco hgen rfl ⟨c',oc,wsc,tq,rfl,(e0.hok c' _ hc).1,hd,hv⟩ (hb _ _ _ _ ?_)
 refine wpAny_newFunctionEnv hcell (fun y hy=>by simp at hy;subst hy;exact hx) (fun h1 hns hsb=>⟨lim.fresh _ hsb,?_⟩) hk
 have hk1:∀b o,s.heap.get? b=some o→h1.get? b=some o:=fun b o e=>hsb.extBut b o (Nat.ne_of_lt (Heap.lt_size e)) (Heap.get?_push_of_some _ e)
 show codeAny _ _ (.expr body (PySem.W.envX qual scope s.heap.objs.size f (.ref c') (names.zip cs))) _ _
 obtain ⟨t,ht,hq⟩:=hbody A outer s H v Q E (hr.deeper _) q
 have I:=NU (CX:=CX) (E:=E) (qual:=qual) (f:=f) (cd:=.ref c') hk hx hfr hall hcell hnd nd hlen hfz cv hr.hd e0 ru hns hk1 (Nat.le_add_right s.toks 1)
 refine PySem.W.kla_codeExpr (wpAny_mono (ht [] _ _ H Q I hq) (fun u' s' hs=>?_) fun e s' hs=>hs)
 obtain ⟨v',H',J,rv,q'⟩:=hs
 exact ⟨v',H',J.os,J.bare,J.base,J.hok,rv,q'⟩
end L2
namespace F2
open PySem L2 PySem.Spec PyProof.Rows
section
variable {K:PySem.W.Frag} {Oo:Addr→Prop} {c:Cf} {t:T} {σ:L2.St} {H H1:Hp}
theorem FInv.more (f:FInv K Oo c t σ H) (m:Kg H H1):FInv K Oo c t σ H1∧Stp Oo c H c H1:=by
 have ext:Ext c H c H1:=⟨fun b o e _=>m b o e,fun _ _ _ z=>z,fun _ _ e=>e⟩
 refine ⟨⟨⟨f.s.len,f.s.nd,fun k a u e1 e2=>?_,fun b z=>?_,f.s.dis⟩,f.len,f.sub,fun i d q=>?_,fun i ds q=>?_,f.inj⟩,ext,fun b z=>?_⟩
 ·have q:=f.s.obs k a u e1 e2
  obtain ⟨w,hw⟩:=q.some
  exact q.mono ext (by rw [hw,m _ _ hw])
 ·obtain ⟨u,e⟩:=f.s.trk b z;exact ⟨u,m _ _ e⟩
 ·obtain ⟨v,h1,h2⟩:=f.val i d q
  exact ⟨v,h1,h2.mono ext⟩
 ·obtain ⟨a,vs,h1,h2,h3,h4,h5⟩:=f.own i ds q
  exact ⟨a,vs,h1,h2,h3,m _ _ h4,h5.mono ext⟩
 ·obtain ⟨u,e⟩:=f.s.trk b (f.sub b z)
  rw [e,m _ _ e]
def Hv (env:List (Option Sl)):List Nat→Option (List D)
 | []=>some []
 | j :: js=>match env[j]?,Hv env js with
   | some (some (.val d)),some ds=>some (d :: ds)
   | _,_=>none
theorem Jo (f:FInv K Oo c t σ H):∀{js:List Nat} {ds:List D},Hv t.env js=some ds→∃vs,Paired (fun j v=>σ[j]?=some (some v)) js vs∧Reps K c H vs ds
 | [],ds,e=>by cases e;exact ⟨[],.nil,.nil⟩
 | j :: js,ds,e=>by
   unfold Hv at e
   split at e
   ·next d ds' h1 h2=>
    cases e
    obtain ⟨v,e1,r1⟩:=f.val j d h1
    obtain ⟨vs,p,r⟩:=Jo f h2
    exact ⟨v :: vs,.cons e1 p,.cons r1 r⟩
   ·cases e
def Iw (kt P line col:Nat) (L:LamD) (js:List Nat):M D:=fun t=>match t.S[kt]?,Hv t.env js with
 | some (.tab P' l k q),some ds=>if P'=P∧l=line∧k=col∧q=L.qual then some (.obj t.S.length,{ t with S:=t.S++[.fn L ds] }) else none
 | _,_=>none
theorem FInv.cellNo (f:FInv K Oo c t σ H) {b:Addr} {o:Obj} {w:HO} {u:Option Value} (h:H b=some (.frz o w)) (hd:o.data = .cell u):¬c.A b:=fun z=>by
 rcases z with z | z
 ·obtain ⟨k,hk,e⟩:=List.mem_iff_getElem.mp z
  have e1:c.ι[k]?=some b:=by rw [List.getElem?_eq_getElem hk,e]
  have hk':k < t.S.length:=by rw [←f.s.len];exact hk
  have q:=f.s.obs k b _ e1 (List.getElem?_eq_getElem hk')
  cases es:t.S[k] with
  | lst ds=>rw [es] at q;obtain ⟨vs,q,_⟩:=q;rw [h] at q;cases q
  | dct kvs=>rw [es] at q;obtain ⟨vs,q,_⟩:=q;rw [h] at q;cases q
  | ins n fs=>rw [es] at q;obtain ⟨_,_,_,_,_,q,_⟩:=q;rw [h] at q;cases q
  | tab P l k' qu=>rw [es] at q;obtain ⟨_,_,q,_⟩:=q;rw [h] at q;cases q
  | fn L ds=>rw [es] at q;obtain ⟨_,_,_,_,q,_⟩:=q;rw [h] at q;cases q;cases hd
 ·obtain ⟨u',e⟩:=f.s.trk b z
  rw [h] at e
  have:=u'.2
  rw [←Option.some.inj e] at this
  cases this
theorem Gq (f:FInv K Oo c t σ H):∀{cs:List Addr} {vs:List V} {ds:List D},CellsV H cs vs→Reps K c H vs ds→CellR K c H cs ds
 | [],_,_,.nil,.nil=>.nil
 | b :: cs,_,_,.cons ⟨o,w,u,h1,h2,h3⟩ t,.cons r rs=>.cons ⟨o,w,_,u,h1,h2,h3,r,f.cellNo h1 h2⟩ (Gq f t rs)
theorem PN {S:List Ob} {k:Nat} {o:Ob} (h:S[k]?=some o):S.set k o=S:=by
 apply List.ext_getElem?
 intro j
 by_cases hj:j=k
 ·subst hj;rw [List.getElem?_set_self (List.getElem?_eq_some_iff.mp h).1,h]
 ·rw [List.getElem?_set_ne (Ne.symm hj)]
theorem RE.lam {kt P:Nat} {pos:Pos} {L:LamD} {js:List Nat} {Q:VK} (q:RE K (Iw kt P pos.line pos.col L js) σ H Q):Ua P L.qual L.params L.body L.scope pos L.names js σ H Q:=by
 obtain ⟨Oo,c,t,fi,r,t',eq,k⟩:=q
 unfold Iw at eq
 split at eq
 ·next P' l kk qu ds hS hds=>
  split at eq
  ·next hc=>
   obtain ⟨rfl,rfl,rfl,rfl⟩:=hc
   cases eq
   obtain ⟨vs,pv,rv⟩:=Jo fi hds
   have hlt:kt < c.ι.length:=by rw [fi.s.len];exact (List.getElem?_eq_some_iff.mp hS).1
   have e1:c.ι[kt]?=some (c.ι[kt]):=List.getElem?_eq_getElem hlt
   obtain ⟨hp,ps,hP,hps⟩:=fi.s.obs kt _ _ e1 hS
   rw [hp] at e1 hP
   refine ⟨vs,pv,ps,hP,?_⟩
   rcases hps with rfl | ⟨c',rfl,hcod⟩
   ·refine .inl ⟨rfl,fun H1 cs c' oc f pm ctv m cv hl hnd n1 hco nf ne=>?_⟩
    obtain ⟨f1,s1⟩:=fi.more m
    have cr:=Gq f1 cv (rv.mono s1.ext)
    have f2:=f1.laid (o:=FS oc) n1
    have s2:=f1.stp_laid (o:=FS oc) n1
    have nA:¬c.A c':=f1.s.free n1
    have cod:CodR c (upd H1 c' (FS oc)) c' L.qual:=⟨oc,AW,hco,nA⟩
    obtain ⟨f3,s3⟩:=f2.wrObj (o:=.tab P' pos.line pos.col L.qual) (u:=.tbl (K9 pos c')) e1 fun c2 H2 ex h2=>⟨rfl,_,h2,.inr ⟨c',rfl,cod.mono ex⟩⟩
    rw [PN hS] at f3
    have nP:f≠P':=fun z=>by rw [z,m _ _ hP] at nf;cases nf
    obtain ⟨c4,f4,s4,e4⟩:=f3.newObj (p:=f) (o:=.fn L ds) (u:=FS (PySem.W.kla_obj "<lambda>" L.qual L.params L.body L.scope (L.names.zip cs) pm c' ctv)) (by rw [AA nP,AA ne];exact nf)
     fun c5 H5 ex h5=>⟨c',ctv,pm,cs,h5,⟨hl,hnd⟩,(cod.mono s3.ext).mono ex,((cr.mono s2.ext).mono s3.ext).mono ex⟩
    exact k _ _ c4 f4 (((s1.trans s2).trans s3).trans s4) (.obj e4)
   ·refine .inr ⟨c',rfl,fun H1 cs f pm ctv m cv hl hnd nf=>?_⟩
    obtain ⟨f1,s1⟩:=fi.more m
    have cr:=Gq f1 cv (rv.mono s1.ext)
    obtain ⟨c4,f4,s4,e4⟩:=f1.newObj (p:=f) (o:=.fn L ds) (u:=FS (PySem.W.kla_obj "<lambda>" L.qual L.params L.body L.scope (L.names.zip cs) pm c' ctv)) nf
     fun c5 H5 ex h5=>⟨c',ctv,pm,cs,h5,⟨hl,hnd⟩,(hcod.mono s1.ext).mono ex,cr.mono ex⟩
    exact k _ _ c4 f4 (s1.trans s4) (.obj e4)
  ·cases eq
 ·cases eq
end
end F2
namespace L2
open PySem PySem.Spec PyProof.Rows
section
variable {X:Cx} {x:Str} {p pos:Pos} {e:Expr} {es:List Expr} {t:TA}
theorem Mb {f:Addr} {h:Heap} {o:Obj} {fd:FuncData} (ho:h.get? f=some o) (hd:o.data = .func fd):PySem.W.FnAt f h:=by
 obtain ⟨oc,od,dt,sl⟩:=o
 cases hd
 exact ⟨oc,od,fd,sl,ho⟩
def T9 (X:Cx) (i:Nat) (t:TA):TE:=fun σ H Q=>∃f:Addr,σ[i]?=some (some (.ref f))∧(∃(fd:FuncData) (o:Obj) (w:HO),H f=some (.frz o w)∧o.data = .func fd)∧
 t σ H fun vs H1=>∃(fd:FuncData) (o:Obj) (w:HO) (k:Nat) (ps:List Str) (sp:Sp),H1 f=some (.frz o w)∧o.data = .func fd∧FnOk X.prog X.w X.K X.mg X.base CX0 k f fd ps sp∧Room k X.A∧Binds X.K fd ps []∧sp vs H1 Q E0
theorem Ph {i:Nat} (hN:X.N[i]?=some x) (hv:Vis X.env.scope x) (ha:PA X (e :: es) t) (hdb:(x == ("__debug__" : Str))=false:=by decide) (hcd:(x == ("__classdict__" : Str))=false:=by decide)
 (he:starEach (e :: es) X.env=(false,eval e X.env) :: starEach es X.env:=by rfl) (hpl:(backTo pos (starEach es X.env)).any (·.1)=false:=by rfl):PE X (.Call (.Name x p) (e :: es) [] pos) (T9 X i t):=by
 intro pins s σ H Q I h
 obtain ⟨f,h1,⟨fd,o,w,h2,h3⟩,h4⟩:=h
 obtain ⟨m,hn,hl⟩:=id I.loc
 obtain ⟨u,r,l⟩:=hl i x _ hN h1 hv
 cases r
 have go:wpAny (model X.prog X.w) X.A (callWith pos (.ref f) [] (backTo pos (starEach (e :: es) X.env)) []) (EP X pins σ Q) X.xe s:=by
  refine PySem.W.callWith_F (Mb (I.hok f _ h2).1 h3) (thn (ha pos pins s σ H _ I h4) fun us s1 ⟨vs,H1,I1,r1,fd1,o1,w1,k,ps,sp,q1,q2,F,hr,hb,q⟩=>⟨Mb (I1.hok f _ q1).1 q2,?_⟩) he hpl
  exact Lc (dvs:=[]) (ds:=[]) F hr hb .nil M3 I1 r1 (by rw [List.append_nil];exact q)
 rcases l with ⟨hk,hm⟩ | ⟨hk,c,hc,hcell⟩
 ·exact wpAny_Call_Name_kw (wpAny_Name (wpAny_loadName_local I.ok.kind hk hn hm go) hdb)
 ·rcases hk with hk | hk
  ·exact wpAny_Call_Name_kw (wpAny_Name (wpAny_loadName_cell I.ok.kind hk hc hcell go) hdb)
  ·exact wpAny_Call_Name_kw (wpAny_Name (wpAny_loadName_free I.ok.kind hk hc hcell go hcd) hdb)
end
end L2
namespace F2
open PySem L2 PySem.Spec PyProof.Rows
def Hb (n:Nat) (m:M D):List D→Fn:=fun caps ds S=>if ds.length=1 then (match m ⟨env0 n (ds++caps),S⟩ with
 | some (r,t)=>some (r,t.S)
 | none=>none) else none
inductive spV (K:PySem.W.Frag) (g:List D→Fn) (L:LamD) (f c':Addr) (pm ctv:Value) (cs:List Addr) (capsV:List V) (vs:List V) (H:Hp) (Q:VK) (E:XK):Prop where
 | mk (hl:vs.length=1) (hf:H f=some (FS (PySem.W.kla_obj "<lambda>" L.qual L.params L.body L.scope (L.names.zip cs) pm c' ctv))) (hc:∃oc,H c'=some (FS oc)∧Nj oc L.qual) (cv:CellsV H cs capsV)
    (c:Cf) (ds caps:List D) (S:List Ob) (si:SInv K c S H) (rs:Reps K c H vs ds) (rc:Reps K c H capsV caps) (r:D) (S':List Ob) (e:g caps ds S=some (r,S'))
    (k:∀v H' c',SInv K c' S' H'→Stp c.O c H c' H'→(∀b,c'.O b↔c.O b)→Rep K c' H' v r→Q v H'):spV K g L f c' pm ctv cs capsV vs H Q E
structure LamOk (L:LamD) (x:Str):Prop where
 kind:L.scope.kind = .function
 co:L.scope.isCoroutine=false
 gen:L.scope.isGenerator=false
 par:L.scope.names.lookup x=some .local
 fre:∀y∈L.names,L.scope.names.lookup y=some .free
 all:∀y,L.scope.names.lookup y=some .free→y∈L.names
 cel:∀y∈L.scope.names,y.2≠.cell
 nd:L.names.Nodup
 fz:∀y∈L.names,y∈D8
theorem Td {P:Program} {w:World} {K:PySem.W.Frag} {mg:Str→Option Value} {base:Heap} {k:Nat} {L:LamD} {x:Str} {m:M D} {f c':Addr} {pm ctv:Value} {cs:List Addr} {capsV:List V} (O:LamOk L x) (hnd:cs.Nodup) (hlen:cs.length=L.names.length)
 (hm:∀(A:Around) (outer:List Env) (s:Shared) (H:Hp) (E:XK),Room k (A.deeper (PySem.W.envX L.qual L.scope s.heap.objs.size f (.ref c') (L.names.zip cs)))→
   PE (GK CX0 P w K mg base (x :: L.names) L.qual L.scope f (.ref c') (L.names.zip cs) A outer s H E) L.body (RE K m)) :
 FnOk P w K mg base CX0 (k + 1) f (PySem.W.kla_fn "<lambda>" L.qual L.params L.body L.scope (L.names.zip cs) pm (.ref c') ctv) [x] (spV K (Hb (L.names.length + 1) m) L f c' pm ctv cs capsV):=by
 refine Tc (caps:=capsV) O.kind O.co O.gen O.par O.fre O.all O.cel hnd O.nd hlen O.fz (fun vs H Q E q=>?_) fun A outer s H v Q E hr q=>⟨_,hm A outer s H E hr,?_⟩
 ·obtain ⟨hl,hf,⟨oc,hc,hco⟩,cv,_⟩:=q
  exact ⟨hl,⟨_,hf⟩,⟨oc,_,hc,hco⟩,cv⟩
 ·obtain ⟨hl,hf,hc,cv,c,ds,caps,S,si,rs,rc,r,S',e,kk⟩:=q
  have lc:capsV.length=L.names.length:=by have:=cv.length;lia
  have eσ:(some v :: capsV.map some:L2.St)=L2.Dl (x :: L.names) ([v]++capsV):=by
   unfold L2.Dl
   simp [lc]
  unfold Hb at e
  split at e
  ·cases em:m ⟨env0 (L.names.length + 1) (ds++caps),S⟩ with
   | none=>rw [em] at e;cases e
   | some p=>
     obtain ⟨r',t'⟩:=p
     rw [em] at e
     cases e
     rw [eσ]
     have fi:=FQ (N:=x :: L.names) si (rs.append rc)
     refine ⟨c.O,c,_,fi,r,t',em,fun v' H' c2 f2 s2 rv=>?_⟩
     obtain ⟨s3,e3⟩:=f2.leave
     exact kk v' H' ⟨c2.ι,c.O⟩ s3 ⟨s2.ext.trans e3,s2.oo⟩ (fun _=>.rfl) (rv.mono e3)
  ·cases e
def Fp (i:Nat) (L:LamD) (g:List D→Fn) (f:M (List D)):M D:=fun t0=>match t0.env[i]? with
 | some (some (.val (.obj k)))=>match t0.S[k]? with
   | some (.fn _ _)=>bnd f (fun ds t=>match t.S[k]? with
     | some (.fn L' caps)=>@ite _ (L'=L) (Classical.propDecidable _) (match g caps ds t.S with | some (r,S')=>some (r,{ t with S:=S' }) | none=>none) none
     | _=>none) t0
   | _=>none
 | _=>none
theorem CellR.vals {K:PySem.W.Frag} {c:Cf} {H:Hp}:∀{cs:List Addr} {ds:List D},CellR K c H cs ds→∃vs,CellsV H cs vs∧Reps K c H vs ds
 | [],_,.nil=>⟨[],.nil,.nil⟩
 | _ :: _,_,.cons ⟨o,w,v,u,h1,h2,h3,h4,_⟩ t=>by
   obtain ⟨vs,a,b⟩:=CellR.vals t
   exact ⟨v :: vs,.cons ⟨o,w,u,h1,h2,h3⟩ a,.cons h4 b⟩
section
variable {X:Cx} {x y:Str} {p pos:Pos} {e:Expr} {es:List Expr}
theorem O0 {n:Nat} {m:M D} {caps ds:List D} {S:List Ob} {z:D×List Ob} (e:Hb n m caps ds S=some z):ds.length=1:=by
 unfold Hb at e
 split at e
 ·assumption
 ·cases e
theorem KH {i k:Nat} {L:LamD} {g:List D→Fn} {f:M (List D)} (hg:∀{caps ds:List D} {S:List Ob} {z:D×List Ob},g caps ds S=some z→ds.length=1)
 (hF:∀(fa c':Addr) (pm ctv:Value) (cs:List Addr) (capsV:List V),cs.Nodup→cs.length=L.names.length→FnOk X.prog X.w X.K X.mg X.base CX0 k fa (PySem.W.kla_fn "<lambda>" L.qual L.params L.body L.scope (L.names.zip cs) pm (.ref c') ctv) [x] (spV X.K g L fa c' pm ctv cs capsV))
 (hr:Room k X.A) (hb:∀(c':Addr) (pm ctv:Value) (cs:List Addr),Binds X.K (PySem.W.kla_fn "<lambda>" L.qual L.params L.body L.scope (L.names.zip cs) pm (.ref c') ctv) [x] [])
 (hN:X.N[i]?=some y) (hv:Vis X.env.scope y) (ha:PA X (e :: es) (RA X.K f)) (hdb:(y == ("__debug__" : Str))=false:=by decide) (hcd:(y == ("__classdict__" : Str))=false:=by decide)
 (he:starEach (e :: es) X.env=(false,eval e X.env) :: starEach es X.env:=by rfl) (hpl:(backTo pos (starEach es X.env)).any (·.1)=false:=by rfl) :
 PE X (.Call (.Name y p) (e :: es) [] pos) (RE X.K (Fp i L g f)):=
 Bv (Ph hN hv ha hdb hcd he hpl) fun σ H Q ⟨Oo,c,t,fi,r,t',eq,kk⟩=>by
  unfold Fp at eq
  split at eq
  ·next kN henv=>
   split at eq
   ·next L0 caps0 hS0=>
    obtain ⟨v,e1,rv⟩:=fi.val i _ henv
    cases rv with
    | @obj a _ hι=>
      obtain ⟨_,_,_,_,hH,_⟩:=fi.s.obs kN a _ hι hS0
      obtain ⟨ds,t1,ef,eq⟩:=Ao eq
      refine ⟨a,e1,⟨_,_,_,hH,rfl⟩,Oo,c,t,fi,ds,t1,ef,fun vs H1 c1 f1 s1 rvs=>?_⟩
      split at eq
      ·next L' caps hS1=>
       by_cases hL:L'=L
       ·subst hL
        rw [if_pos rfl] at eq
        obtain ⟨S',e2,rfl⟩:=Go eq
        obtain ⟨c',ctv,pm,cs,hH1,⟨hl,hnd⟩,⟨oc,hc1,hc2,_⟩,hcell⟩:=f1.s.obs kN a _ (s1.ext.io _ _ hι) hS1
        obtain ⟨capsV,cv,rc⟩:=hcell.vals
        have hd1:ds.length=1:=hg e2
        refine ⟨_,_,_,k,[x],_,hH1,rfl,hF a c' pm ctv cs capsV hnd hl,hr,hb c' pm ctv cs,?_⟩
        refine ⟨rvs.length.trans hd1,hH1,⟨oc,hc1,hc2⟩,cv,c1,ds,caps,t1.S,f1.s,rvs,rc,r,S',e2,fun v' H' c2 si st ho rv'=>?_⟩
        obtain ⟨f2,s2⟩:=f1.after si st ho
        exact kk v' H' c2 f2 (s1.trans s2) rv'
       ·rw [if_neg hL] at eq;cases eq
      ·cases eq
   ·cases eq
  ·cases eq
theorem SM {kt c P:Nat} {L:LamD} {cs:List Addr} {js:List Nat} (T:TabAt X.base X.mg c P) (hcode:X.env.code = .ref c) (hq:L.qual=X.env.qual++"<lambda>") (hlen:cs.length=L.names.length) (hnd:cs.Nodup)
 (hcl:closureFor L.scope X.env=pure (L.names.zip cs)) (hdef:defaultsOf L.params X.env=([],[]))
 (hn:Paired (fun (p:Str×Addr) j=>X.N[j]?=some p.1∧X.env.kindOf p.1=some .cell∧X.env.cells.lookup p.1=some p.2∧X.fn p.1=true∧p.1∈D8) (L.names.zip cs) js) :
 PE X (.Lambda L.params L.body L.scope pos) (RE X.K (Iw kt P pos.line pos.col L js)):=
 Bv (Tn T hcode hlen hnd hcl hdef hn) fun σ H Q q=>by rw [←hq];exact RE.lam q
end
end F2
namespace L2
open PySem PySem.Spec PyProof.Rows
def JZ (Pt:Addr) (H:Hp):Prop:=∀b,H b=none∨(∃o xs,H b=some (.frz o (.lst xs)))∨(b=Pt∧H b=some (.tbl #[]))
theorem NV {P:Program} {w:World} {K:PySem.W.Frag} {mg mb:Str→Option Value} {CX:CXT} {k:Nat} {fa a c Pt:Addr} {fd:FuncData} {x:Str} {sp:Sp} {s₁:Shared} {vs:List Value} {ns:List Int}
 (KX:K.In s₁.heap) (hns:s₁.heap.Ns mainGlobals mg) (hb:s₁.heap.Ns builtinsNs mb) (hbb:∀x:Str,x≠"__name__"→mb x=bootBuiltins x) (hlim:s₁.heap.NoLimit) (hg:s₁.gens=#[])
 (ha:s₁.heap.get? a=some { cls:=.type "list",data:=.seq vs.toArray }) (hi:IntsAre vs ns) (hl:ns.length≤sizeLine) (hr:Room k callerA)
 (hP:s₁.heap.get? Pt=some { cls:=.none,data:=.fields #[] }) (hKP:K.lookup Pt=none) (T:TabAt s₁.heap mg c Pt)
 (F:∀base:Heap,K.In base→base.Ns mainGlobals mg→TabAt base mg c Pt→FnOk P w K mg base CX k fa fd [x] sp) (hbind:∀(s:Shared) (u:Value),BindsTo s fd ⟨[u],[]⟩ [(x,u)])
 (hsp:∀H:Hp,JZ Pt H→H Pt=some (.tbl #[])→SqL K H a (ns.map V.int)→sp [.ref a] H (fun v _=>v = .bl true) fun _ _ _=>False)
 (hCX:∀H e s',CX [] H s₁ (fun _ _ _=>False) e s'→False) (htk:Fi K≤s₁.toks) :
 codeAny (model P w) callerA (.call (.ref fa) ⟨[.ref a],[]⟩) (fun r s'=>r = .ok (.ret (.bool true))∧OldK s₁.heap s'.heap∧s'.os=s₁.os∧AllBare s'.gens) s₁:=by
 have rv:=JB hi
 have lenV:=hi.length
 have neP:a≠Pt:=fun z=>by rw [z,hP] at ha;cases ha
 have core:∀H:Hp,JZ Pt H→H Pt=some (.tbl #[])→SqL K H a (ns.map V.int)→HOk P w H s₁.heap→(∀b,H b≠none→b=a∨b=Pt)→(H a≠none→K.lookup a=none)→
  codeAny (model P w) callerA (.call (.ref fa) ⟨[.ref a],[]⟩) (fun r s'=>r = .ok (.ret (.bool true))∧OldK s₁.heap s'.heap∧s'.os=s₁.os∧AllBare s'.gens) s₁:=by
  intro H hO hHP hS hok hA hK
  have base_of:∀{b:Addr} {o:Obj},s₁.heap.get? b=some o→H b=none→(Fj s₁.heap H).get? b=some o:=fun e n=>O5 e n
  have noB:∀{b:Addr} {o:Obj},s₁.heap.get? b=some o→o.cls≠.none→o.cls≠.type "list"→H b=none:=fun {b o} e d1 d2=>by
   cases q:H b with
   | none=>rfl
   | some u=>
     rcases hA b (by rw [q];simp) with e' | e'
     ·subst e';rw [ha] at e;cases e;exact absurd rfl d2
     ·subst e';rw [hP] at e;cases e;exact absurd rfl d1
  have noA:∀{b:Addr} {o:Obj} {es:Array DictEntry} {ep:Nat},s₁.heap.get? b=some o→o.data = .dict es ep→H b=none:=fun {b o es ep} e d=>by
   cases q:H b with
   | none=>rfl
   | some u=>
     rcases hA b (by rw [q];simp) with e' | e'
     ·subst e'
      rw [ha] at e;cases e
      have d':Data.seq vs.toArray _=Data.dict es ep:=d
      cases d'
     ·subst e'
      rw [hP] at e;cases e
      have d':Data.fields #[]=Data.dict es ep:=d
      cases d'
  have nsK:∀{b:Addr} {m:Str→Option Value},s₁.heap.Ns b m→(Fj s₁.heap H).Ns b m:=fun {b m} ⟨o,es,ep,e,d,r⟩=>⟨o,es,ep,base_of e (noA e d),d,r⟩
  have hKb:K.In (Fj s₁.heap H):=fun b o e=>base_of (KX b o e) (by
   cases q:H b with
   | none=>rfl
   | some u=>
     rcases hA b (by rw [q];simp) with e' | e'
     ·subst e'
      rw [hK (by rw [q];simp)] at e;cases e
     ·subst e'
      rw [hKP] at e;cases e)
  have hT:TabAt (Fj s₁.heap H) mg c Pt:=by
   obtain ⟨⟨o,ws,f1,f2,f3,f4,f5,f6,f7,g1,g2,g3⟩,⟨bm,ob,b1,b2,b3,b4,b5,b6,b7⟩,ne⟩:=T
   exact ⟨⟨o,ws,f1,f2,f3,f4,f5,f6,f7,base_of g1 (noB g1 (by rw [g2];simp) (by rw [g2];decide)),g2,g3⟩,⟨bm,ob,b1,b2,b3,b4,base_of b5 (noB b5 (by rw [b6];simp) (by rw [b6];decide)),b6,b7⟩,ne⟩
  have hM:Mod K mg (Fj s₁.heap H):=⟨hKb,nsK hns,⟨mb,nsK hb,hbb⟩,let ⟨mc,h1,h2⟩:=hlim;⟨mc,nsK h1,h2⟩⟩
  have e0:Env0 P w K mg (Fj s₁.heap H) callerA [] s₁ H:=⟨rfl,hM,fun b o e=>Ri e,Nat.le_of_eq (NN _ _),trivial,fun b hb=>absurd (show b∈([]:List Addr) from hb) (by simp),hok,.of_eq hg,htk⟩
  refine codeAny_mono ((F _ hKb (nsK hns) hT).run callerA [] s₁ H ⟨[.ref a],[]⟩ [.ref a] [.ref a] _ _ hr e0 (hbind s₁ (.ref a)) (.cons rfl .nil) (hsp H hO hHP hS)) fun r s' h=>?_
  cases r with
  | error e=>exact (hCX H e s' h).elim
  | ok fl=>
    cases fl with
    | next=>exact False.elim h
    | brk=>exact False.elim h
    | cont=>exact False.elim h
    | ret u=>
      obtain ⟨v,H',os,bare,un,hok',r',q⟩:=h
      have q':v = .bl true:=q
      subst q'
      obtain rfl:u=Value.bool true:=r'
      refine ⟨rfl,⟨fun b o e=>?_,fun b o e=>un.there b o e (by simp)⟩,os,bare⟩
      rcases hO b with z | ⟨ob,xs,z⟩ | ⟨rfl,z⟩
      ·exact .inl (un.keep b o e z (by intro z;exact absurd (show b∈([]:List Addr) from z) (by simp)) (by simp))
      ·have z2:=un.frzs b ob _ z
       obtain ⟨e1,_⟩:=hok b _ z
       obtain ⟨e2,_⟩:=hok' b _ z2
       rw [e] at e1;cases e1
       exact .inl e2
      ·obtain ⟨more,z2⟩:=un.tbls b _ z
       have e2:s'.heap.get? b=some { cls:=.none,data:=.fields (#[]++more) }:=hok' b _ z2
       rw [hP] at e;cases e
       obtain ⟨oc,ws,_,_,_,_,_,_,_,g1,g2,g3,g4,_⟩:=T.hd
       exact .inr (.inl ⟨⟨c,oc,ws,g1,g2,g3,g4⟩,rfl,#[],more,rfl,e2⟩)
 cases hk:K.lookup a with
 | some o=>
   have e:=KX a o hk
   rw [ha] at e
   cases e
   refine core (upd (fun _=>none) Pt (.tbl #[])) (fun b=>?_) AW (.inr ⟨_,vs.toArray,_,hk,rfl,rfl,rfl,by rw [List.size_toArray,lenV];exact hl,by simpa using rv⟩) (fun b u z=>?_) (fun b z=>?_) fun z=>absurd (AA neP) z
   ·by_cases hb:b=Pt
    ·subst hb;exact .inr (.inr ⟨rfl,AW⟩)
    ·exact .inl (AA hb)
   ·by_cases hb:b=Pt
    ·subst hb;rw [AW] at z;cases z;exact hP
    ·rw [AA hb] at z;cases z
   ·by_cases hb:b=Pt
    ·exact .inr hb
    ·exact absurd (AA hb) z
 | none=>
   refine core (upd (fun b=>if b=a then some (.frz { cls:=.type "list",data:=.seq vs.toArray } (.lst (ns.map V.int))) else none) Pt (.tbl #[])) (fun b=>?_) AW (.inl (.inr ⟨{ cls:=.type "list",data:=.seq vs.toArray },(AA neP).trans (if_pos rfl)⟩)) (fun b u z=>?_) (fun b z=>?_) fun _=>hk
   ·by_cases hb:b=Pt
    ·subst hb;exact .inr (.inr ⟨rfl,AW⟩)
    ·rw [AA hb]
     by_cases hb:b=a
     ·exact .inr (.inl ⟨_,_,if_pos hb⟩)
     ·exact .inl (if_neg hb)
   ·by_cases hb:b=Pt
    ·subst hb;rw [AW] at z;cases z;exact hP
    ·rw [AA hb] at z
     by_cases hb:b=a
     ·have z':=(if_pos hb).symm.trans z
      cases z'
      subst hb
      exact ⟨ha,by rw [List.length_map];exact hl,vs,_,rv,ha⟩
     ·have z':=(if_neg hb).symm.trans z
      cases z'
   ·by_cases hb:b=Pt
    ·exact .inr hb
    ·rw [AA hb] at z
     by_cases hb:b=a
     ·exact .inl hb
     ·exact absurd (if_neg hb) z
theorem P1 {c Pt:Addr} {l:PySem.W.OpenLaw} {n k:Nat} {q:Program} {loose:List Str} {XP:(Str→Option Value)→Heap→Prop} {α:Type} {Yf:Shared→α} {Ya:World→α} {d:DefRec} {K:Params→PySem.W.Frag} {CX:World→CXT} {sp:World→Sp} {x:Str}
 (hn:l.most=some n) (hn2:n≤sizeLine) (hdf:d.params.defaults=[]) (hr:Room k callerA)
 (hY:∀(w:World) (s:Shared),Yf s=Ya w→(K w.params).In s.heap∧Fi (K w.params)≤s.toks∧s.heap.get? Pt=some { cls:=.none,data:=.fields #[] }∧PySem.W.CodeHd s.heap c Pt)
 (hKP:∀w:World,(K w.params).lookup Pt=none)
 (F:∀(w:World) (mg:Str→Option Value) (fa:Addr) (h:Heap),(K w.params).In h→h.Ns mainGlobals mg→mg d.name=some (.ref fa)→
   ∃fd:FuncData,(∀(s:Shared) (u:Value),BindsTo s fd ⟨[u],[]⟩ [(x,u)])∧
    ∀base:Heap,(K w.params).In base→base.Ns mainGlobals mg→TabAt base mg c Pt→FnOk l.prog w (K w.params) mg base (CX w) k fa fd [x] (sp w))
 (hsp:∀(w:World) (H:Hp) (a:Addr) (ns:List Int),ns.length≤n→JZ Pt H→H Pt=some (.tbl #[])→SqL (K w.params) H a (ns.map V.int)→sp w [.ref a] H (fun v _=>v = .bl true) fun _ _ _=>False)
 (hCX:∀(w:World) (H:Hp) (s:Shared) (e:Value) (s':Shared),CX w [] H s (fun _ _ _=>False) e s'→False) :
 PySem.W.WalkX q loose XP Yf Ya l.row.toRowW d [] (fun f vs=>PySem.call f vs):=by
 intro w t₀ t₁ mg mb G Y fa o pm cd doc dV kV ho hd hcd hD hmg hg args vals as L hpre hlay hrd hwl hlo
 have e1:dV = .none:=PySem.W.Dflts.none hD hdf
 have e2:kV = .none:=PySem.W.Dflts.noKw hD
 subst e1;subst e2
 obtain ⟨a,us,ns,rfl,rfl,hobj,hints,hlen⟩:=Att.script_of hn hpre hwl
 have KX:=(hY w t₀ Y).1.keeps L.keeps
 have tt:Fi (K w.params)≤t₁.toks:=by
  obtain ⟨ord,_,z⟩:=L.laid
  exact Nat.le_trans (hY w t₀ Y).2.1 (PySem.W.layAllW_grows _ _ _ z).toks
 have hP:=L.keeps _ _ (hY w t₀ Y).2.2.1
 have hgP:mainGlobals≠Pt:=fun q=>by
  obtain ⟨o,es,ep,e,hd,_⟩:=G.T.g
  rw [q,hP] at e;cases e;cases hd
 have T:TabAt t₁.heap mg c Pt:=by
  obtain ⟨bm,ob,b1,b2,b3,b4,b5,b6⟩:=G.T.bmain
  refine ⟨(hY w t₀ Y).2.2.2.keeps L.keeps,⟨bm,ob,b1,b2,fun q=>?_,fun q=>?_,b3,b4,b5,b6⟩,hgP⟩
  ·obtain ⟨o,es,ep,e,hd,_⟩:=G.T.g
   rw [q,e] at b3;cases b3;rw [hd] at b6;cases b6
  ·rw [q,hP] at b3;cases b3;cases b4
 obtain ⟨fd,hb,hF⟩:=F w mg fa _ KX G.T.g hmg
 refine PySem.W.enter_call (codeAny_mono (NV KX G.T.g G.T.b G.T.builtins G.T.nolimit hg hobj hints (Nat.le_trans hlen hn2) hr hP (hKP w) T hF hb (fun H hO hT hS=>hsp w H a ns hlen hO hT hS) (fun H e s'=>hCX w H t₁ e s') tt) fun r s' hq=>?_)
 obtain ⟨rfl,h2,h3,h4⟩:=hq
 exact ⟨.inl ⟨.bool true,.bool true,[],rfl,fun _=>rfl,.bool true,Att.post_true l _,fun _=>⟨List.Pairwise.nil,fun _ hm=>(nomatch hm)⟩⟩,h2,h3,h4⟩
def wo (Pt:Addr) (K:PySem.W.Frag):PySem.W.Frag:=K.filter fun p=>!(p.1 == Pt)
theorem Jf {Pt:Addr}:∀{K:PySem.W.Frag},(wo Pt K).lookup Pt=none
 | []=>rfl
 | (b,o) :: r=>by
   have ih:=Jf (Pt:=Pt) (K:=r)
   unfold wo at ih ⊢
   rw [List.filter_cons]
   by_cases h:b=Pt
   ·subst h;simpa using ih
   ·have h1:(Pt == b)=false:=by rw [beq_eq_false_iff_ne];exact fun z=>h z.symm
    have h2:(b == Pt)=false:=by rw [beq_eq_false_iff_ne];exact h
    simp only [h2,Bool.not_false,if_true,List.lookup_cons,h1]
    exact ih
theorem Ih {Pt a:Addr} (n:a≠Pt):∀{K:PySem.W.Frag},(wo Pt K).lookup a=K.lookup a
 | []=>rfl
 | (b,o) :: r=>by
   have ih:=Ih n (K:=r)
   unfold wo at ih ⊢
   rw [List.filter_cons]
   by_cases h:b=Pt
   ·subst h
    have h1:(a == b)=false:=by rw [beq_eq_false_iff_ne];exact n
    simp only [beq_self_eq_true,Bool.not_true,Bool.false_eq_true,if_false,List.lookup_cons,h1]
    exact ih
   ·have h2:(b == Pt)=false:=by rw [beq_eq_false_iff_ne];exact h
    simp only [h2,Bool.not_false,if_true,List.lookup_cons]
    rw [ih]
def DQ (K:PySem.W.Frag) (Pt:Addr):Prop:=K.lookup Pt=some { cls:=.none,data:=.fields #[] }
section
variable {K:PySem.W.Frag} {Pt:Addr} (T:DQ K Pt)
include T
theorem LD {a:Addr} {oc:Value} {od:Option Addr} {fd:FuncData} {sl:Array (Option Value)} (e:K.lookup a=some ⟨oc,od,.func fd,sl⟩):(wo Pt K).lookup a=some ⟨oc,od,.func fd,sl⟩:=by
 rw [Ih]
 ·exact e
 ·rintro rfl
  unfold DQ at T
  rw [T] at e;cases e
theorem B8 {g:Addr} {n:Str} {x:Option Value} (e:PySem.W.nsIn K g n=some x):PySem.W.nsIn (wo Pt K) g n=some x:=by
 unfold PySem.W.nsIn at e ⊢
 rw [Ih]
 ·exact e
 ·rintro rfl
  unfold DQ at T
  rw [T] at e;cases e
theorem Sn {cd:Value} {q:Str} (e:PySem.W.codeIn K cd q=true):PySem.W.codeIn (wo Pt K) cd q=true:=by
 unfold PySem.W.codeIn at e ⊢
 split at e
 ·next c=>
  rw [Ih]
  ·exact e
  ·rintro rfl
   unfold DQ at T
   rw [T] at e
   simp at e
 ·cases e
theorem So {f:Addr} {oc:Value} {od:Option Addr} {fd:FuncData} {sl:Array (Option Value)} (e:K.lookup f=some ⟨oc,od,.func fd,sl⟩):PySem.W.keepIn (wo Pt K) (.ref f)=true:=by
 have:=LD T e
 unfold PySem.W.keepIn
 dsimp only
 rw [this]
end
theorem Vj {K:PySem.W.Frag} {Pt:Addr} {h:Heap} (X:K.In h):(wo Pt K).In h:=fun a o e=>by
 by_cases n:a=Pt
 ·subst n;rw [Jf] at e;cases e
 ·rw [Ih n] at e;exact X a o e
def Ip (K:PySem.W.Frag) (c P:Addr):Bool:=match K.lookup c with
 | some ⟨.type t,_,.fields vs,_⟩=>t == "code" && (match (vs[11]? : Option Value) with | some (.ref p)=>p == P | _=>false) && (match (vs.getD 18 .none:Value) with | .str _ _=>true | _=>false) &&
    (match (vs.getD 7 .none:Value) with | .int _ _=>true | _=>false) && (match (vs.getD 9 .none:Value) with | .bool _=>true | _=>false) && (match (vs.getD 10 .none:Value) with | .int _ _=>true | _=>false) && !(c == P)
 | _=>false
theorem Nw {K:PySem.W.Frag} {c P:Addr} {h:Heap} (X:K.In h) (e:Ip K c P=true):PySem.W.CodeHd h c P:=by
 unfold Ip at e
 split at e
 ·next t od vs sl hl=>
  simp only [Bool.and_eq_true] at e
  obtain ⟨⟨⟨⟨⟨⟨e1,e2⟩,e3⟩,e4⟩,e5⟩,e6⟩,e7⟩:=e
  split at e2
  ·next p hp=>
   split at e3
   ·next fl tf h3=>
    split at e4
    ·next fg tg h4=>
     split at e5
     ·next b h5=>
      split at e6
      ·next x tt h6=>
       have e2':p=P:=by simpa using e2
       subst e2'
       have t1:t = "code":=by simpa using e1
       subst t1
       exact ⟨_,vs,fl,tf,fg,tg,b,x,tt,X _ _ hl,rfl,rfl,hp,by rw [Array.getD_eq_getD_getElem?,hp];rfl,h3,h4,h5,h6,by simpa using e7⟩
      ·cases e6
     ·cases e5
    ·cases e4
   ·cases e3
  ·cases e2
 ·cases e
end L2
namespace F2
open PySem L2 PySem.Spec PyProof.Rows
theorem SS {P:Program} {w:World} {K:PySem.W.Frag} {mg:Str→Option Value} {base:Heap} {x qual:Str} {st:Stmt} {fa:Addr} {fd:FuncData} {N ps:List Str} {k n m:Nat} {g:M Out} {cd:Value} (e1:ps.length=n) (e2:N.length=m) (F:Fun K x qual st fa fd) (hc:fd.code=cd) (S:FnScope N ps (AF st))
 (hb:∀(A:Around) (outer:List Env) (s:Shared) (H:Hp) (E:XK),Room k (A.deeper (PyProof.Rows.envOfC qual (AF st) s.heap.objs.size fa cd))→
   PSs (FP CX0 P w K mg base N qual (AF st) fa cd A outer s H E).nox (CO st) (RS K g)):FnOk P w K mg base CX0 (k + 1) fa fd ps (spF K (fnOf n m g)):=by
 subst e1 e2
 have hlen:∀{ds:List D} {S:List Ob} {z:D×List Ob},fnOf ps.length N.length g ds S=some z→ds.length=ps.length:=fun {ds S z} h=>by
  unfold fnOf at h
  split at h
  ·next h1=>exact h1
  ·cases h
 obtain ⟨oc,od,kV,doc,pm,an,cdv,ct,osl,rfl,lk,hcd⟩:=F.ex
 have hcv:cdv=cd:=hc
 subst hcv
 refine Qf lk hcd S (fun vs H Q E h=>?_) fun A outer s H vs Q E hr h=>?_
 ·obtain ⟨c,ds,S,si,rs,r,S',e,_⟩:=h
  rw [rs.length];exact hlen e
 obtain ⟨c,ds,S0,si,rs,r,S',e,kk⟩:=h
 refine ⟨RS K g,(hb A outer s H E hr).nox,?_⟩
 have hl:=hlen e
 unfold fnOf at e
 rw [if_pos hl] at e
 cases eg:g ⟨env0 N.length ds,S0⟩ with
 | none=>rw [eg] at e;cases e
 | some p=>
   obtain ⟨o,t⟩:=p
   rw [eg] at e
   refine ⟨c.O,c,_,FQ si rs,o,t,eg,fun σ' H' c' f' s'=>?_⟩
   obtain ⟨si',ext'⟩:=f'.leave
   have st':Stp c.O c H ⟨c'.ι,c.O⟩ H':=⟨s'.ext.trans ext',s'.oo⟩
   cases o with
   | next=>cases e;exact kk .non H' _ si' st' (fun _=>Iff.rfl) .non
   | ret d=>cases e;exact fun v rv=>kk v H' _ si' st' (fun _=>Iff.rfl) (rv.mono ext')
   | brk=>cases e
   | cont=>cases e
theorem MX {K:PySem.W.Frag} {H:Hp} {a Pt l col:Nat} {qual:Str} {ns:List Int} {f:Fn} {S':List Ob} (hO:JZ Pt H) (hP:H Pt=some (.tbl #[])) (hS:SqL K H a (ns.map V.int)) (e:f [.scr ns] [.tab Pt l col qual]=some (.bl true,S')):spF K f [.ref a] H (fun v _=>v = .bl true) fun _ _ _=>False:=by
 refine ⟨⟨[Pt],fun _=>False⟩,[.scr ns],[.tab Pt l col qual],⟨rfl,by simp,fun k a o h1 h2=>?_,fun b z=>z.elim,fun b z=>z.elim⟩,.cons (.scr ?_) .nil,.bl true,S',e,fun v H' c' _ _ _ rv=>by cases rv;rfl⟩
 ·cases k with
  | zero=>
    have h1:some Pt=some a:=by simpa using h1
    have h2:some (Ob.tab Pt l col qual)=some o:=by simpa using h2
    cases h1;cases h2
    exact ⟨rfl,_,hP,.inl rfl⟩
  | succ k=>simp at h1
 ·have nA:∀{x:HO},H a=some x→(∀ps,x≠.tbl ps)→¬(Cf.mk [Pt] fun _=>False).A a:=fun {x} q n z=>by
   rcases z with z | z
   ·have z:a=Pt:=by simpa using z
    rw [z,hP] at q;cases q;exact n _ rfl
   ·exact z
  rcases hS with (h | ⟨o,h⟩) | h
  ·rcases hO a with z | ⟨o,xs,z⟩ | ⟨z,z2⟩
   ·rw [z] at h;cases h
   ·rw [z] at h;cases h
   ·rw [z2] at h;cases h
  ·exact .inl ⟨⟨o,h⟩,nA h (by simp)⟩
  ·exact .inr h
def Kf (P:Program) (w:World) (K:PySem.W.Frag) (mg:Str→Option Value) (base:Heap) (k:Nat) (L:LamD) (x:Str) (g:List D→Fn):Prop:=
 ∀(fa c':Addr) (pm ctv:Value) (cs:List Addr) (capsV:List V),cs.Nodup→cs.length=L.names.length→FnOk P w K mg base CX0 k fa (PySem.W.kla_fn "<lambda>" L.qual L.params L.body L.scope (L.names.zip cs) pm (.ref c') ctv) [x] (spV K g L fa c' pm ctv cs capsV)
def Ux (q:Str) (names:List Str):Expr→LamD
 | .Lambda a b s _=>⟨q,a,b,s,names⟩
 | e=>⟨q,⟨[],[],none,[],[],none,[]⟩,e,default,names⟩
def stE:Stmt→Expr
 | .Assign _ v _=>v
 | .Return (some v) _=>v
 | _=>.Name "" ⟨0,0,0,0⟩
def QL (i:Nat):Expr→Expr
 | .Call _ as _ _=>as.getD i (.Name "" ⟨0,0,0,0⟩)
 | e=>e
section
variable {K:PySem.W.Frag}
end
abbrev Gd:=Option (Nat×List D)
def Gon (g:Gd) (S:List Ob):Prop:=∀k xs,g=some (k,xs)→S[k]?=some (.lst xs)
def chk (g:Gd):M Unit:=fun t=>@ite _ (Gon g t.S) (Classical.propDecidable _) (some ((),t)) none
theorem KA {g:Gd} {t t':T} {u:Unit} (h:chk g t=some (u,t')):Gon g t.S∧t'=t:=by
 unfold chk at h
 split at h
 ·next q=>cases h;exact ⟨q,rfl⟩
 ·cases h
theorem Nv {g:Gd} {t:T} (h:Gon g t.S):chk g t=some ((),t):=by unfold chk;rw [if_pos h]
structure ItOk3 (K:PySem.W.Frag) (J:It) (g:Gd) (c:Cf) (H:Hp) (ds:List D):Prop where
 go:∀c' H' S' (i:Nat),Ext c H c' H'→SInv K c' S' H'→Gon g S'→i < ds.length→J.go i H'
 yld:∀c' H' S' (i:Nat) x H'' d,Ext c H c' H'→SInv K c' S' H'→Gon g S'→ds[i]?=some d→J.yld i H' x H''→∃p vs es,x = .ref p∧H' p=none∧H''=upd H' p (.tup vs)∧d = .tup es∧Reps K c' H' vs es
 stop:∀c' H' S',Ext c H c' H'→SInv K c' S' H'→Gon g S'→J.stop ds.length H'
inductive RI3 (K:PySem.W.Frag) (f:M (Gd×List D)) (σ:L2.St) (H:Hp) (R:It→Hp→Prop):Prop where
 | mk (Oo:Addr→Prop) (c:Cf) (t:T) (fi:FInv K Oo c t σ H) (p:Gd×List D) (t':T) (e:f t=some (p,t')) (k:∀J H' c',FInv K Oo c' t' σ H'→Stp Oo c H c' H'→ItOk3 K J p.1 c' H' p.2→R J H'):RI3 K f σ H R
section
variable {X:Cx} {e a b tg iter elt:Expr} {ifs:List Expr} {pos:Pos} {scope:Scope} {N':List Str} {n:Nat} {fr:List Nat} {st:D→M Unit} {tst:M Bool} {el:M D}
end
structure ItOkG (K:PySem.W.Frag) (J:It) (g:Gd) (c:Cf) (H:Hp) (ds:List D):Prop where
 go:∀c' H' S' (i:Nat),Ext c H c' H'→SInv K c' S' H'→Gon g S'→i < ds.length→J.go i H'
 yld:∀c' H' S' (i:Nat) x H'' d,Ext c H c' H'→SInv K c' S' H'→Gon g S'→ds[i]?=some d→J.yld i H' x H''→H''=H'∧Rep K c' H' x d
 stop:∀c' H' S',Ext c H c' H'→SInv K c' S' H'→Gon g S'→J.stop ds.length H'
theorem ItOk.toG {K:PySem.W.Frag} {J:It} {g:Gd} {c:Cf} {H:Hp} {ds:List D} (h:ItOk K J c H ds):ItOkG K J g c H ds:=
 ⟨fun c' H' _ i e _ _=>h.go c' H' i e,fun c' H' _ i x H'' d e _ _=>h.yld c' H' i x H'' d e,fun c' H' _ e _ _=>h.stop c' H' e⟩
def RIG (K:PySem.W.Frag) (f:M (Gd×List D)):TI:=fun σ H R=>∃Oo c t,FInv K Oo c t σ H∧∃p t',f t=some (p,t')∧∀J H' c',FInv K Oo c' t' σ H'→Stp Oo c H c' H'→ItOkG K J p.1 c' H' p.2→R J H'
def forG (g:Gd) (st:D→M Unit) (b:M Out):List D→M Out
 | []=>bnd (chk g) fun _=>ret .next
 | d :: r=>bnd (chk g) fun _=>bnd (st d) fun _=>bnd b fun o=>match o with
   | .next=>forG g st b r
   | .cont=>forG g st b r
   | .brk=>ret .next
   | .ret x=>ret (.ret x)
def J7 (f:M (Gd×List D)) (st:D→M Unit) (b:M Out):M Out:=bnd f fun p=>forG p.1 st b p.2
theorem RS.forG {μ:Cf→Hp→D→(V→Hp→Prop)→Prop} {K:PySem.W.Frag} {f:M (Gd×List D)} {st:D→M Unit} {b:M Out} {E:Ends} {σ:L2.St} {H:Hp} (q:RSg K μ (J7 f st b) E σ H):PR (RIG K f) (RG K st) (RSg K μ b) E σ H:=by
 obtain ⟨Oo,c,t,fi,o,t',eq,k⟩:=q
 obtain ⟨pg,t1,e1,eq⟩:=Ao eq
 refine ⟨Oo,c,t,fi,pg,t1,e1,fun J H1 c1 f1 s1 it=>?_⟩
 obtain ⟨g,ds⟩:=pg
 dsimp only at eq it
 refine ⟨fun i m σ' H'=>m=ds.length - i∧i≤ds.length∧∃c' t2,FInv K Oo c' t2 σ' H'∧Stp Oo c1 H1 c' H'∧F2.forG g st b (ds.drop i) t2=some (o,t'),⟨_,rfl,Nat.zero_le _,c1,t1,f1,.refl,by rw [List.drop_zero];exact eq⟩,?_⟩
 rintro i m σ' H' ⟨rfl,hi,c',t2,f2,s2,e2⟩
 by_cases hlt:i < ds.length
 ·rw [List.drop_eq_getElem_cons hlt] at e2
  unfold F2.forG at e2
  obtain ⟨u0,t0,e0,e2⟩:=Ao e2
  obtain ⟨hon,ht0⟩:=KA e0
  rw [ht0] at e2
  clear e0 ht0
  refine .inr ⟨it.go c' H' _ i s2.ext f2.s hon hlt,fun σ3 H3=>∃c3 t3,FInv K Oo c3 t3 σ3 H3∧Stp Oo c1 H1 c3 H3∧F2.forG g st b (ds.drop (i + 1)) t3=some (o,t'),fun σ3 H3 h=>⟨ds.length - (i + 1),by lia,rfl,hlt,h⟩,fun x H'' hy=>?_⟩
  obtain ⟨rfl,rx⟩:=it.yld c' H' _ i x H'' _ s2.ext f2.s hon (List.getElem?_eq_getElem hlt) hy
  obtain ⟨u,t3,e3,e2⟩:=Ao e2
  obtain ⟨o4,t4,e4,e2⟩:=Ao e2
  refine ⟨Oo,c',t2,_,f2,rx,t3,e3,fun σ3 H3 c3 f3 s3=>?_⟩
  refine ⟨Oo,c3,t3,f3,o4,t4,e4,fun σ5 H5 c5 f5 s5=>?_⟩
  have s':=(s2.trans s3).trans s5
  cases o4 with
  | next=>exact ⟨c5,t4,f5,s',e2⟩
  | cont=>exact ⟨c5,t4,f5,s',e2⟩
  | brk=>cases e2;exact k σ5 H5 c5 f5 (s1.trans s')
  | ret r=>cases e2;exact k σ5 H5 c5 f5 (s1.trans s')
 ·have hi':i=ds.length:=by lia
  subst hi'
  rw [List.drop_length] at e2
  unfold F2.forG at e2
  obtain ⟨u0,t0,e0,e2⟩:=Ao e2
  obtain ⟨hon,ht0⟩:=KA e0
  rw [ht0] at e2
  clear e0 ht0
  cases e2
  exact .inl ⟨it.stop c' H' _ s2.ext f2.s hon,k σ' H' c' f2 (s1.trans s2)⟩
def Fu:D→M (Gd×List D)
 | .obj k=>fun t=>match t.S[k]? with
   | some (.lst ds)=>some ((some (k,ds),ds),t)
   | _=>none
 | d=>bnd (Dv d) fun ds=>ret (none,ds)
def OV (f:M D):M (Gd×List D):=bnd f Fu
theorem ItOkG.lst {K:PySem.W.Frag} {g:Gd} {c:Cf} {H:Hp} {p:Addr} {ds:List D} (r:∀c' H' S',Ext c H c' H'→SInv K c' S' H'→Gon g S'→∃vs,SqL K H' p vs∧Reps K c' H' vs ds):ItOkG K (Itl K p) g c H ds:=by
 refine ⟨fun c' H' S' i ex si on hi=>?_,fun c' H' S' i x H'' d ex si on hd hy=>?_,fun c' H' S' ex si on=>?_⟩
 ·obtain ⟨vs,h1,h2⟩:=r c' H' S' ex si on
  obtain ⟨v,e,_⟩:=h2.at (List.getElem?_eq_getElem hi)
  exact ⟨vs,v,h1,e⟩
 ·obtain ⟨vs,h1,h2⟩:=r c' H' S' ex si on
  obtain ⟨rfl,hx⟩:=hy
  exact ⟨rfl,h2.get (hx vs h1) hd⟩
 ·obtain ⟨vs,h1,h2⟩:=r c' H' S' ex si on
  exact ⟨vs,h1,by rw [h2.length];exact Nat.le_refl _⟩
section
variable {X:Cx} {e a b tg iter elt:Expr} {ifs:List Expr} {pos:Pos} {scope:Scope} {N':List Str} {n:Nat} {fr:List Nat} {st:D→M Unit} {tst:M Bool} {el:M D}
theorem QZ {μ:Cf→Hp→D→(V→Hp→Prop)→Prop} {body:List Stmt} {f:M (Gd×List D)} {b:M Out} (hp:PassesOwn (model X.prog X.w) X.A X.env X.xe) (hc:X.calm=true) (hi:PI X tg iter (RIG X.K f)) (hg:PG X tg (RG X.K st)) (hb:PSs X body (RSg X.K μ b))
 (hs:∀x,foldedSetIterable iter X.env x=pure x:=by intro _;rfl):PS X (.For tg iter body [] pos) (RSg X.K μ (J7 f st b)):=
 C4 (Od hp hc hi hg hb hs) fun _ _ _ q=>RS.forG q
theorem QU {f:M D} (h:PE X e (RE X.K f)):PI X tg e (RIG X.K (OV f)):=
 Kj (N8 h) fun σ H R z=>by
  obtain ⟨Oo,c,t,fi,ds,t',eq,k⟩:=z
  obtain ⟨d,t1,e1,eq⟩:=Ao eq
  refine ⟨Oo,c,t,fi,d,t1,e1,fun v H1 c1 f1 s1 rv=>?_⟩
  cases rv with
  | @obj a kk hk=>
    unfold Fu at eq
    dsimp only at eq
    split at eq
    ·next es hS=>
     cases eq
     obtain ⟨ws,g1,g3⟩:=f1.s.obs kk a _ hk hS
     refine .inl ⟨a,rfl,⟨ws,SqL.of g1⟩,k _ H1 c1 f1 s1 (ItOkG.lst fun c' H' S' ex si on=>?_)⟩
     obtain ⟨us,q1,q2⟩:=si.obs kk a _ (ex.io _ _ hk) (on kk es rfl)
     exact ⟨us,SqL.of q1,q2⟩
    ·cases eq
  | @lst p vs ds' h1 h2 h3=>
    cases eq
    exact .inl ⟨p,rfl,⟨vs,SqL.of h1⟩,k _ H1 c1 f1 s1 (ItOk.toG (ItOk.lst fun c' H' ex=>⟨vs,SqL.of (ex.keep _ _ h1 h2),h3.mono ex⟩))⟩
  | @scr p ns h1=>
    cases eq
    exact .inl ⟨p,rfl,⟨_,h1.sq⟩,k _ H1 c1 f1 s1 (ItOk.toG (ItOk.lst fun c' H' ex=>⟨_,(h1.mono ex).sq,Reps.ints ns⟩))⟩
  | @tup p vs ds' h1 h2 h3=>
    cases eq
    exact .inr (.inl ⟨p,rfl,⟨vs,SqT.of h1⟩,k _ H1 c1 f1 s1 (ItOk.toG (ItOk.tup fun c' H' ex=>⟨vs,SqT.of (ex.keep _ _ h1 h2),h3.mono ex⟩))⟩)
  | str x=>
    cases eq
    exact .inr (.inr ⟨x,rfl,k _ H1 c1 f1 s1 (ItOk.toG ItOk.str)⟩)
  | _=>cases eq
end
theorem MU {X:Cx} {pins:List (Addr×Obj)} {σ:L2.St} {H:Hp} {s:Shared} {A:Around} {E:Value→Shared→Prop} {Q:Value→Shared→Prop} {b:Bool} {x:V} {u:Value} {T:String} {tp:Addr} {dd:Option Addr} {its:List Value} {n:Nat} {sl:Array (Option Value)} (I:Inv X pins σ H s) (rx:RelV x u) (ty:TyOf X.K H x (.type T)) (htp:s.heap.get? tp=some ⟨.type "tuple",dd,.seq its.toArray n,sl⟩)
 (e:PySem.W.kitAny X.K (.type T) its=some b) (h:∀tk,Q (.bool b) { s with toks:=tk }):wpAny (model X.prog X.w) A (call (.builtin "isinstance") [u,.ref tp]) Q E s:=by
 cases ty with
 | non=>cases (show u=Value.none from rx);exact PySem.W.kia_tup PySem.W.kitx_none I.kIn True.intro htp e (fun z=>nomatch z) h
 | bl y=>cases (show u=Value.bool y from rx);exact PySem.W.kia_tup PySem.W.kitx_bool I.kIn True.intro htp e (fun z=>nomatch z) h
 | int i=>obtain ⟨t,q⟩:=(show ∃t,u=Value.int i t from rx);cases q;exact PySem.W.kia_tup PySem.W.kitx_int I.kIn True.intro htp e (fun z=>nomatch z) h
 | str y=>obtain ⟨t,q⟩:=(show ∃t,u=Value.str y t from rx);cases q;exact PySem.W.kia_tup PySem.W.kitx_str I.kIn True.intro htp e (fun z=>nomatch z) h
 | flt y=>obtain ⟨t,q⟩:=(show ∃t,u=Value.float y t from rx);cases q;exact PySem.W.kia_tup PySem.W.kitx_float I.kIn True.intro htp e (fun z=>nomatch z) h
 | @lst a xs ea=>
   cases (show u=Value.ref a from rx)
   obtain ⟨_,_,n,_,h1⟩:=(show ObjOk X.prog X.w H s.heap a (.lst xs) from I.hok a _ ea)
   exact PySem.W.kia_tup PySem.W.kitx_list I.kIn ⟨_,h1,rfl⟩ htp e (fun z=>nomatch z) h
 | @frz a ob xs ea=>
   cases (show u=Value.ref a from rx)
   obtain ⟨_,_,_,n,_,h1⟩:=(show ObjOk X.prog X.w H s.heap a (.frz ob (.lst xs)) from I.hok a _ ea)
   exact PySem.W.kia_tup PySem.W.kitx_list I.kIn ⟨_,h1,rfl⟩ htp e (fun z=>nomatch z) h
 | @tup a xs ea=>
   cases (show u=Value.ref a from rx)
   obtain ⟨_,_,_,p⟩:=(show ObjOk X.prog X.w H s.heap a (.tup xs) from I.hok a _ ea)
   obtain ⟨o,h1,h2,_⟩:=p
   exact PySem.W.kia_tup PySem.W.kitx_tuple I.kIn ⟨o,h1,h2⟩ htp e (fun z=>nomatch z) h
 | @dK a kvs ea=>
   cases (show u=Value.ref a from rx)
   obtain ⟨_,_,vs,_,p⟩:=(show ObjOk X.prog X.w H s.heap a (.dK kvs) from I.hok a _ ea)
   obtain ⟨o,es,ep,h1,h2,_⟩:=p
   exact PySem.W.kia_tup PySem.W.kitx_dict I.kIn ⟨o,h1,h2.1⟩ htp e (fun z=>nomatch z) h
 | @dT a kvs ea=>
   cases (show u=Value.ref a from rx)
   obtain ⟨_,_,xs,_,o,es,ep,h1,h2,_⟩:=(show ObjOk X.prog X.w H s.heap a (.dT kvs) from I.hok a _ ea)
   exact PySem.W.kia_tup PySem.W.kitx_dict I.kIn ⟨o,h1,h2.1⟩ htp e (fun z=>nomatch z) h
def Qm (K:PySem.W.Frag):List V→Hp→VK→Prop:=fun xs H Q=>∃x p n1 n2 T b,xs=[x,.ref p]∧H p=some (.tup [.ty n1,.ty n2])∧TyOf K H x (.type T)∧PySem.W.kitAny K (.type T) [.type n1,.type n2]=some b∧Q (.bl b) H
theorem E8 {X:Cx}:Cb X (.builtin "isinstance") (Qm X.K):=by
 intro pins s σ H xs us Q I r h
 obtain ⟨x,p,n1,n2,T,b,rfl,hp,ty,e,q⟩:=h
 obtain ⟨u,w',rfl,rx,rt⟩:=GY r
 cases (show w'=Value.ref p from rt)
 obtain ⟨_,its,rv,hit⟩:=(show ObjOk X.prog X.w H s.heap p (.tup [.ty n1,.ty n2]) from I.hok p _ hp)
 obtain ⟨u1,u2,rfl,r1,r2⟩:=GY rv
 cases (show u1=Value.type n1 from r1)
 cases (show u2=Value.type n2 from r2)
 obtain ⟨o,h1,h2,n,h3⟩:=hit
 obtain ⟨oc,od,oda,osl⟩:=o
 dsimp only at h2 h3
 subst h2 h3
 exact wpAny_with_toks (Nat.le_refl s.toks) (MU I rx ty h1 e fun tk ht=>⟨.bl b,H,I.tok tk,rfl,q⟩)
def Fk:List D→M D
 | [d,.tup [.ty m1,.ty m2]]=>fun t=>match d with
   | .obj k=>match t.S[k]? with
     | some (.lst _)=>match CY "list" m1,CY "list" m2 with
       | some b1,some b2=>some (.bl (b1 || b2),t)
       | _,_=>none
     | _=>none
   | d=>match tyD d with
     | some n=>match CY n m1,CY n m2 with
       | some b1,some b2=>some (.bl (b1 || b2),t)
       | _,_=>none
     | none=>none
 | _=>fail
theorem Me {K:PySem.W.Frag} {d:D} {n m1 m2:String} {b1 b2:Bool} (h:tyD d=some n) (h1:CY n m1=some b1) (h2:CY n m2=some b2):PySem.W.kitAny K (.type n) [.type m1,.type m2]=some (b1 || b2):=by
 rw [PySem.W.kitAny,GQ h h1]
 cases b1 with
 | true=>rfl
 | false=>rw [PySem.W.kitAny,GQ h h2];cases b2 <;> rfl
theorem F3 {K:PySem.W.Frag}:DF K (Qm K) Fk:=fun {Oo c t σ H xs ds r t' Q} f rx eq k=>by
 unfold Fk at eq
 split at eq
 ·next d m1 m2=>
  obtain ⟨v,u,rfl,rv,ru⟩:=HW rx
  cases ru with
  | @tup p ws _ g1 g2 g3=>
  obtain ⟨w1,w2,rfl,r1,r2⟩:=HW g3
  cases r1
  cases r2
  split at eq
  ·next kk=>
   cases rv with
   | @obj a _ hk=>
   split at eq
   ·next xs hS=>
    obtain ⟨vs,q1,q2⟩:=f.s.obs kk a _ hk hS
    split at eq
    ·next b1 b2 e1 e2=>
     cases eq
     exact ⟨_,p,m1,m2, "list",_,rfl,g1,.lst q1,Me (d:=.lst xs) rfl e1 e2,k _ H c f .refl (.bl _)⟩
    ·cases eq
   ·cases eq
  ·next nk=>
   split at eq
   ·next n et=>
    split at eq
    ·next b1 b2 e1 e2=>
     cases eq
     refine ⟨v,p,m1,m2,n,_,rfl,g1,?_,Me et e1 e2,k _ H c f .refl (.bl _)⟩
     cases rv <;> first | (cases et;first | exact .non | exact .bl _ | exact .int _ | exact .str _ | exact .lst ‹_› | exact .tup ‹_› | exact .dK ‹_›) | cases et
    ·cases eq
   ·cases eq
 ·cases eq
end F2
namespace LW
open PySem L2 F2
def Cm (Kx:Fn):M Out:=
 (AM (Dz (An Kx (Ab (Ad 0) Ah)) (Dr (Ad 1) (Ad 0) (Ad 2) leA leA)))
def HQ (Il Kv Ku Kw BT:Fn):M Out:=
 (Aw (A9 2 (Ai (Ad 0) (fC (.int 0)) ixD))
 (Aw (ifS (AI (Ai (Ad 2) (fC (.str "nothing")) (eqS id)))
   (AM (Ai (Ad 1) (fC .non) isC))
   AN)
 (Aw (ifS (AI (Ai (Ad 2) (fC (.str "number")) (eqS id)))
   (AM (An BT (Ab (Ad 1) (Ab (Ai (Ad 0) (fC (.int 1)) ixD) (Ab (Ai (Ad 0) (fC (.int 2)) ixD) Ah)))))
   AN)
 (Aw (ifS (AI (Ai (Ad 2) (fC (.str "text")) (eqS id)))
   (AM (An Kw (Ab (Ad 0) (Ab (Ad 1) Ah))))
   AN)
 (Aw (ifS (AI (Ai (Ad 2) (fC (.str "list")) (eqS id)))
   (AM (An Ku (Ab (Ad 0) (Ab (Ad 1) Ah))))
   AN)
 (Aw (ifS (AI (Ai (Ad 2) (fC (.str "pair")) (eqS id)))
   (AM (An Kv (Ab (Ad 0) (Ab (Ad 1) Ah))))
   AN)
 (AM (An Il (Ab (Ad 0) (Ab (Ad 1) Ah))))))))))
def Fc:M Out:=
 (AM (Dz (Dr (fC (.int 32)) (Ad 0) (fC (.int 126)) leA leA) (Ai (Ad 0) (fC (.int 37)) (eqS fun b=>!b))))
def Di (B2:Fn):M Out:=
 (Aw (ifS (AI (Ai (Ad 0) (fC .non) isC))
   (AM (fC (.str "-")))
   AN)
 (Aw (ifS (AI (fB (Ab (Ad 0) (Ab (fC (.ty "str")) Ah)) CV))
   (AM (Ai (Ai (fC (.str "\"")) (fUn (Ad 0) HV) A5) (fC (.str "\"")) A5))
   AN)
 (Aw (ifS (AI (fB (Ab (Ad 0) (Ab (fC (.ty "list")) Ah)) CV))
   (AM (Ai (Ai (fC (.str "[")) (joinW (fC (.str ",")) (Ab (Bf (Cj 1 [] (Ev (Ad 0)) (BP 0) DI (An B2 (Ab (Ad 0) Ah)))) Ah)) A5) (fC (.str "]")) A5))
   AN)
 (Aw (ifS (BO (AI (fB (Ab (Ad 0) (Ab (fC (.ty "tuple")) Ah)) CV)))
   (AM (fB (Ab (Ad 0) Ah) Fl))
   AN)
 (Aw (ifS (AI (Ai (fB (Ab (Ad 0) Ah) BK) (fC (.int 2)) (eqS id)))
   (AM (Ai (Ai (Ai (Ai (fC (.str "(")) (An B2 (Ab (Ai (Ad 0) (fC (.int 0)) ixD) Ah)) A5) (fC (.str ",")) A5) (An B2 (Ab (Ai (Ad 0) (fC (.int 1)) ixD) Ah)) A5) (fC (.str ")")) A5))
   AN)
 (AM (Ai (Ai (Ai (fC (.str "#")) (fB (Ab (Ai (Ad 0) (fC (.int 1)) ixD) Ah) Fl) A5) (fC (.str ":")) A5) (An B2 (Ab (Ai (Ad 0) (fC (.int 2)) ixD) Ah)) A5)))))))
def Eh:M Out:=
 (Aw (Ew (Ev (fSl (Ad 0) (Ck (Ad 1)) (Ck (Ai (Ad 1) (fC (.int 1)) A5)) Dp)) (BP 2)
   (AM (Ad 2)))
 (AM (fC (.int 0))))
def C0 (LG:Fn):M Out:=
 (Aw (A9 2 (An LG (Ab (Ad 0) (Ab (Ad 1) Ah))))
 (AM (J5 [("rest",(Ad 2)),("mixed",(Ai (Ad 2) (Ai (fC (.int 10)) (fC (.int 18)) DH) ltA)),("count",(Ai (fC (.int 7)) (Ai (fC (.int 3)) (Ad 1) Ez) A5))])))
def C1:M Out:=
 (Aw (A9 2 (Ai (Ad 0) (fC (.str "rest")) Fa))
 (Aw (ifS (BO (AI (Ai (Ad 0) (fC (.str "mixed")) Fa)))
   (Aw (Gk (Ai (Ad 2) (Ad 1) HB) (H9 (Ad 0) (fC (.str "rest"))))
 (AM (Ai (Ad 2) (Ad 1) FU)))
   AN)
 (Aw (Gk (Ai (Ai (Ad 0) (fC (.str "count")) Fa) (fC (.int 1)) A5) (H9 (Ad 0) (fC (.str "count"))))
 (Aw (A9 2 (Ai (Ai (Ad 2) (fC (.int 1000000000303)) FU) (Ai (fC (.int 90007)) (Ai (Ad 0) (fC (.str "count")) Fa) IE) A5))
 (Aw (A9 2 (Ai (Ai (Ad 2) (Ai (Ad 2) (fC (.int 53)) A5) IE) (fC (.int 1000000000331)) FU))
 (Aw (A9 2 (Ai (Ai (Ad 2) (Ad 2) IE) (fC (.int 999999999877)) FU))
 (Aw (Gk (Ad 2) (H9 (Ad 0) (fC (.str "rest"))))
 (AM (Ai (Ai (Ad 2) (fC (.int 13)) HB) (Ad 1) FU)))))))))
def CB (Cg AH:Fn):M Out:=
 (Aw (A9 2 (An AH (Ab (Ad 0) (Ab (fC (.int 9)) Ah))))
 (Aw (ifS (AI (Ai (Ad 2) (fC (.int 0)) (eqS id)))
   (AM (Bz (Ab (fC (.str "nothing")) Ah)))
   AN)
 (Aw (ifS (AI (Ai (Ad 2) (fC (.int 1)) (eqS id)))
   (AM (Bz (Ab (fC (.str "text")) (Ab (Ai (Bf (BN (Ab (fC (.int 0)) (Ab (fC (.int 1)) (Ab (fC (.int 5)) (Ab (fC (.int 250)) (Ab (An AH (Ab (Ad 0) (Ab (fC (.int 251)) Ah))) Ah))))))) (An AH (Ab (Ad 0) (Ab (fC (.int 5)) Ah))) ixD) Ah))))
   AN)
 (Aw (ifS (fOr (AI (Ai (Ad 1) (fC (.int 0)) (eqS id))) (AI (Ai (Ad 2) (fC (.int 4)) ltA)))
   (Aw (A9 3 (Ai (Bf (BN (Ab (fC (.int 0)) (Ab (Ai (An AH (Ab (Ad 0) (Ab (fC (.int 19)) Ah))) (fC (.int 9)) Ce) (Ab (Ai (An AH (Ab (Ad 0) (Ab (Ai (fC (.int 10)) (fC (.int 11)) DH) Ah))) (Ai (fC (.int 10)) (fC (.int 10)) DH) Ce) Ah))))) (An AH (Ab (Ad 0) (Ab (fC (.int 3)) Ah))) ixD))
 (AM (Bz (Ab (fC (.str "number")) (Ab (Ad 3) (Ab (Ai (Ad 3) (Ai (Bf (BN (Ab (fC (.int 0)) (Ab (fC (.int 1)) (Ab (fC (.int 9)) (Ab (fC (.int 255)) (Ab (fC (.int 256)) (Ab (fC (.int 70000)) (Ab (Ai (fC (.int 10)) (fC (.int 17)) DH) Ah))))))))) (An AH (Ab (Ad 0) (Ab (fC (.int 7)) Ah))) ixD) A5) Ah))))))
   AN)
 (Aw (ifS (AI (Ai (Ad 2) (fC (.int 6)) ltA))
   (AM (Bz (Ab (fC (.str "list")) (Ab (An Cg (Ab (Ad 0) (Ab (Ai (Ad 1) (fC (.int 1)) Ce) Ah))) (Ab (Ai (Bf (BN (Ab (fC (.int 0)) (Ab (fC (.int 1)) (Ab (fC (.int 3)) (Ab (fC (.int 250)) (Ab (An AH (Ab (Ad 0) (Ab (fC (.int 199)) Ah))) Ah))))))) (An AH (Ab (Ad 0) (Ab (fC (.int 5)) Ah))) ixD) Ah)))))
   AN)
 (Aw (ifS (AI (Ai (Ad 2) (fC (.int 7)) ltA))
   (AM (Bz (Ab (fC (.str "pair")) (Ab (An Cg (Ab (Ad 0) (Ab (Ai (Ad 1) (fC (.int 1)) Ce) Ah))) (Ab (An Cg (Ab (Ad 0) (Ab (Ai (Ad 1) (fC (.int 1)) Ce) Ah))) Ah)))))
   AN)
 (Aw (A9 4 (Ai (fC (.int 1)) (An AH (Ab (Ad 0) (Ab (Ai (Bf (BN (Ab (fC (.int 3)) (Ab (fC (.int 9)) Ah)))) (fB (Ab (Ai (Ad 1) (fC (.int 1)) (eqS id)) Ah) Iy) ixD) Ah))) A5))
 (AM (Bz (Ab (fC (.str "choice")) (Ab (fB (Ab (Bf (Cj 1 [0,1] (Cw (Ab (Ad 4) Ah)) (BP 0) DI (An Cg (Ab (Ad 1) (Ab (Ai (Ad 2) (fC (.int 1)) Ce) Ah))))) Ah) Je) Ah)))))))))))
def CZ (AH Cg:Fn):M Out:=
 (Aw (A9 1 (An Cg (Ab (Ad 0) (Ab (fC (.int 2)) Ah))))
 (Aw (Ew (Cw (Ab (Ai (Bf (BN (Ab (fC (.int 0)) (Ab (fC (.int 0)) (Ab (fC (.int 1)) (Ab (fC (.int 3)) Ah)))))) (An AH (Ab (Ad 0) (Ab (fC (.int 4)) Ah))) ixD) Ah)) (BP 2)
   (Aw (A9 3 (Bf (BN (Ab (Bz (Ab (fC (.str "list")) (Ab (Ad 1) (Ab (Ai (Bf (BN (Ab (fC (.int 1)) (Ab (fC (.int 2)) (Ab (fC (.int 2)) Ah))))) (An AH (Ab (Ad 0) (Ab (fC (.int 3)) Ah))) ixD) Ah)))) (Ab (Bz (Ab (fC (.str "pair")) (Ab (Ad 1) (Ab (Bz (Ab (fC (.str "nothing")) Ah)) Ah)))) Ah)))))
 (A9 1 (Ai (Ai (Ad 3) (Bf (BN (Ab (Bz (Ab (fC (.str "choice")) (Ab (Bz (Ab (Bz (Ab (fC (.str "nothing")) Ah)) (Ab (Ad 1) Ah))) Ah))) Ah))) A5) (An AH (Ab (Ad 0) (Ab (fC (.int 3)) Ah))) ixD))))
 (AM (Ad 1))))
def CD:M Out:=
 (AM (fC (.str " !\"#$&'()*+,-./0123456789:;<=>?@ABCDEFGHIJKLMNOPQRSTUVWXYZ[\\]^_`abcdefghijklmnopqrstuvwxyz{|}~")))
def CH (Ch AH JI:Fn):M Out:=
 (Aw (ifS (AI (Ai (Ai (Ad 1) (fC (.int 0)) ixD) (fC (.str "nothing")) (eqS id)))
   (AM (fC .non))
   AN)
 (Aw (ifS (AI (Ai (Ai (Ad 1) (fC (.int 0)) ixD) (fC (.str "number")) (eqS id)))
   (AM (Ai (Bf (BN (Ab (Ai (Ad 1) (fC (.int 1)) ixD) (Ab (Ai (Ad 1) (fC (.int 2)) ixD) (Ab (Ai (Ai (Ad 1) (fC (.int 1)) ixD) (An AH (Ab (Ad 0) (Ab (Ai (Ai (Ai (Ad 1) (fC (.int 2)) ixD) (Ai (Ad 1) (fC (.int 1)) ixD) Ce) (fC (.int 1)) A5) Ah))) A5) Ah))))) (An AH (Ab (Ad 0) (Ab (fC (.int 3)) Ah))) ixD))
   AN)
 (Aw (ifS (AI (Ai (Ai (Ad 1) (fC (.int 0)) ixD) (fC (.str "text")) (eqS id)))
   (Aw (A9 2 (fC (.str "ab \",)]([#:-;>0'~Z")))
 (Aw (ifS (AI (Ai (An AH (Ab (Ad 0) (Ab (fC (.int 2)) Ah))) (fC (.int 0)) (eqS id)))
   (A9 2 (An JI Ah))
   AN)
 (Aw (A9 3 (An AH (Ab (Ad 0) (Ab (Ai (fB (Ab (Ai (Ad 1) (fC (.int 1)) ixD) (Ab (fC (.int 7)) Ah)) Hf) (fC (.int 1)) A5) Ah))))
 (AM (joinM (fC (.str "")) (Ab (Bf (Cj 1 [2,0] (Cw (Ab (Ad 3) Ah)) (BP 0) DI (Ai (Ad 1) (An AH (Ab (Ad 2) (Ab (fB (Ab (Ad 1) Ah) BK) Ah))) ixD))) Ah))))))
   AN)
 (Aw (ifS (AI (Ai (Ai (Ad 1) (fC (.int 0)) ixD) (fC (.str "list")) (eqS id)))
   (Aw (A9 4 (Ai (Bf (BN (Ab (fC (.int 3)) (Ab (fC (.int 1)) Ah)))) (fB (Ab (Ai (Ai (Ai (Ad 1) (fC (.int 1)) ixD) (fC (.int 0)) ixD) (Bf (BN (Ab (fC (.str "list")) (Ab (fC (.str "pair")) (Ab (fC (.str "choice")) Ah))))) (inD false)) Ah) Iy) ixD))
 (AM (Bf (Cj 1 [0,1] (Cw (Ab (An AH (Ab (Ad 0) (Ab (Ai (fB (Ab (Ai (Ad 1) (fC (.int 2)) ixD) (Ab (Ad 4) Ah)) Hf) (fC (.int 1)) A5) Ah))) Ah)) (BP 0) DI (An Ch (Ab (Ad 1) (Ab (Ai (Ad 2) (fC (.int 1)) ixD) Ah)))))))
   AN)
 (Aw (ifS (AI (Ai (Ai (Ad 1) (fC (.int 0)) ixD) (fC (.str "pair")) (eqS id)))
   (AM (Bz (Ab (An Ch (Ab (Ad 0) (Ab (Ai (Ad 1) (fC (.int 1)) ixD) Ah))) (Ab (An Ch (Ab (Ad 0) (Ab (Ai (Ad 1) (fC (.int 2)) ixD) Ah))) Ah))))
   AN)
 (Aw (A9 5 (An AH (Ab (Ad 0) (Ab (fB (Ab (Ai (Ad 1) (fC (.int 1)) ixD) Ah) BK) Ah))))
 (AM (Bz (Ab (fC (.str "of")) (Ab (Ad 5) (Ab (An Ch (Ab (Ad 0) (Ab (Ai (Ai (Ad 1) (fC (.int 1)) ixD) (Ad 5) ixD) Ah))) Ah)))))))))))
def DB (BS:Fn):M Out:=
 (Aw (ifS (AI (Ai (Ad 0) (fC .non) isC))
   (AM (fC (.str "-")))
   AN)
 (Aw (ifS (AI (fB (Ab (Ad 0) (Ab (fC (.ty "str")) Ah)) CV))
   (AM (Ai (Ai (fC (.str "\"")) (joinW (fC (.str "\"\"")) (Ab (Bf (splitM (Ad 0) (Ab (fC (.str "\"")) Ah))) Ah)) A5) (fC (.str "\"")) A5))
   AN)
 (Aw (ifS (AI (fB (Ab (Ad 0) (Ab (fC (.ty "list")) Ah)) CV))
   (AM (Ai (Ai (fC (.str "[")) (joinW (fC (.str ",")) (Ab (Bf (Cj 1 [] (Ev (Ad 0)) (BP 0) DI (An BS (Ab (Ad 0) Ah)))) Ah)) A5) (fC (.str "]")) A5))
   AN)
 (Aw (ifS (AI (fB (Ab (Ad 0) (Ab (fC (.ty "int")) Ah)) CV))
   (AM (fB (Ab (Ad 0) Ah) Fl))
   AN)
 (Aw (ifS (AI (Ai (fB (Ab (Ad 0) Ah) BK) (fC (.int 3)) (eqS id)))
   (AM (Ai (Ai (Ai (fC (.str "#")) (fB (Ab (Ai (Ad 0) (fC (.int 1)) ixD) Ah) Fl) A5) (fC (.str ":")) A5) (An BS (Ab (Ai (Ad 0) (fC (.int 2)) ixD) Ah)) A5))
   AN)
 (AM (Ai (Ai (Ai (Ai (fC (.str "(")) (An BS (Ab (Ai (Ad 0) (fC (.int 0)) ixD) Ah)) A5) (fC (.str ",")) A5) (An BS (Ab (Ai (Ad 0) (fC (.int 1)) ixD) Ah)) A5) (fC (.str ")")) A5)))))))
def D0:M Out:=
 (ifS (BO (AI (fB (Ab (Ad 0) (Ab (fC (.ty "str")) Ah)) CV)))
   fail
   AN)
def Ei (JF:Fn):M Out:=
 (Aw (A9 2 (fIf (AI (startsM (Ad 0) (Ab (fC (.str "-")) (Ab (Ad 1) Ah)))) (Ai (Ad 1) (fC (.int 1)) A5) (Ad 1)))
 (Aw (A9 3 (An JF (Ab (Ad 0) (Ab (Ad 2) (Ab (fC (.str "0123456789")) Ah)))))
 (Aw (ifS (BO (AI (Dr (fC (.int 1)) (Ai (Ad 3) (Ad 2) Ce) (fC (.int 18)) leA leA)))
   fail
   AN)
 (Aw (A9 4 (fB (Ab (fSl (Ad 0) (Ck (Ad 1)) (Ck (Ad 3)) Dp) Ah) Iz))
 (Aw (ifS (AI (Ai (fB (Ab (Ad 4) Ah) Fl) (fSl (Ad 0) (Ck (Ad 1)) (Ck (Ad 3)) Dp) (eqS fun b=>!b)))
   fail
   AN)
 (AM (Bz (Ab (Ad 4) (Ab (Ad 3) Ah)))))))))
def DA:M Out:=
 (Aw (ifS (BO (AI (startsM (Ad 0) (Ab (Ad 2) (Ab (Ad 1) Ah)))))
   fail
   AN)
 (AM (Ai (Ad 1) (fC (.int 1)) A5)))
def DZ:M Out:=
 (Aw (A9 3 (Ad 1))
 (Aw (GH (KG (AI (Ai (Ad 3) (fB (Ab (Ad 0) Ah) BK) ltA)) (AI (Ai (Ai (Ad 0) (Ad 3) ixD) (Ad 2) MS)))
   (A9 3 (Ai (Ad 3) (fC (.int 1)) A5)))
 (AM (Ad 3))))
def Dh:M Out:=
 (AM (Dz (fB (Ab (Ad 0) (Ab (fC (.ty "int")) Ah)) CW) (GM (fB (Ab (Ad 0) (Ab (fC (.ty "bool")) Ah)) CW))))
def Dg (MK:Fn):M Out:=
 (Aw (ifS (fOr (BO (AI (fB (Ab (Ad 1) (Ab (fC (.ty "str")) Ah)) CW))) (AI (Ai (fB (Ab (Ad 1) Ah) BK) (Ai (Ad 0) (fC (.int 1)) ixD) gtA)))
   (AM (fC (.bl false)))
   AN)
 (Aw (Ew (Ev (Ad 1)) (BP 2)
   (ifS (BO (AI (An MK (Ab (fB (Ab (Ad 2) Ah) K3) Ah))))
   (AM (fC (.bl false)))
   AN))
 (AM (fC (.bl true)))))
def De (CN:Fn):M Out:=
 (Aw (ifS (fOr (BO (AI (fB (Ab (Ad 1) (Ab (fC (.ty "list")) Ah)) CW))) (AI (Ai (fB (Ab (Ad 1) Ah) BK) (Ai (Ad 0) (fC (.int 2)) ixD) gtA)))
   (AM (fC (.bl false)))
   AN)
 (Aw (J7 (OV (Ad 1)) (BP 2)
   (ifS (BO (AI (An CN (Ab (Ai (Ad 0) (fC (.int 1)) ixD) (Ab (Ad 2) Ah)))))
   (AM (fC (.bl false)))
   AN))
 (AM (fC (.bl true)))))
def Df (CN:Fn):M Out:=
 (Aw (ifS (fOr (BO (AI (fB (Ab (Ad 1) (Ab (fC (.ty "tuple")) Ah)) CW))) (AI (Ai (fB (Ab (Ad 1) Ah) BK) (fC (.int 2)) (eqS fun b=>!b))))
   (AM (fC (.bl false)))
   AN)
 (AM (Dz (An CN (Ab (Ai (Ad 0) (fC (.int 1)) ixD) (Ab (Ai (Ad 1) (fC (.int 0)) ixD) Ah))) (An CN (Ab (Ai (Ad 0) (fC (.int 2)) ixD) (Ab (Ai (Ad 1) (fC (.int 1)) ixD) Ah))))))
def CI (CN BT:Fn):M Out:=
 (Aw (ifS (fOr (BO (AI (fB (Ab (Ad 1) (Ab (fC (.ty "tuple")) Ah)) CW))) (AI (Ai (fB (Ab (Ad 1) Ah) BK) (fC (.int 3)) (eqS fun b=>!b))))
   (AM (fC (.bl false)))
   AN)
 (Aw (ifS (fOr (BO (AI (fB (Ab (Ai (Ad 1) (fC (.int 0)) ixD) (Ab (fC (.ty "str")) Ah)) CV))) (AI (Ai (Ai (Ad 1) (fC (.int 0)) ixD) (fC (.str "of")) (eqS fun b=>!b))))
   (AM (fC (.bl false)))
   AN)
 (Aw (ifS (BO (AI (An BT (Ab (Ai (Ad 1) (fC (.int 1)) ixD) (Ab (fC (.int 0)) (Ab (Ai (fB (Ab (Ai (Ad 0) (fC (.int 1)) ixD) Ah) BK) (fC (.int 1)) Ce) Ah))))))
   (AM (fC (.bl false)))
   AN)
 (AM (An CN (Ab (Ai (Ai (Ad 0) (fC (.int 1)) ixD) (Ai (Ad 1) (fC (.int 1)) ixD) ixD) (Ab (Ai (Ad 1) (fC (.int 2)) ixD) Ah)))))))
def C2 (B2 CN:Fn):M Out:=
 (Aw (ifS (BO (AI (An CN (Ab (Ad 0) (Ab (Ad 1) Ah)))))
   fail
   AN)
 (AM (An B2 (Ab (Ad 1) Ah))))
def D1 (CN B9 JG:Fn):M Out:=
 (Aw (Ec (An JG (Ab (Ad 1) Ah)))
 (Aw (A9 2 (An B9 (Ab (Ad 0) (Ab (Ad 1) (Ab (fC (.int 0)) Ah)))))
 (Aw (ifS (fOr (AI (Ai (Ai (Ad 2) (fC (.int 1)) ixD) (fB (Ab (Ad 1) Ah) BK) (eqS fun b=>!b))) (BO (AI (An CN (Ab (Ad 0) (Ab (Ai (Ad 2) (fC (.int 0)) ixD) Ah))))))
   fail
   AN)
 (AM (Ai (Ad 2) (fC (.int 0)) ixD)))))
def ED (Ks MM ML Ky EN Bq:Fn):M Out:=
 (Aw (A9 3 (Ai (Ad 0) (fC (.int 0)) ixD))
 (Aw (ifS (AI (Ai (Ad 3) (fC (.str "nothing")) (eqS id)))
   (AM (Bz (Ab (fC .non) (Ab (An Bq (Ab (Ad 1) (Ab (Ad 2) (Ab (fC (.str "-")) Ah)))) Ah))))
   AN)
 (Aw (ifS (AI (Ai (Ad 3) (fC (.str "number")) (eqS id)))
   (AM (An EN (Ab (Ad 1) (Ab (Ad 2) Ah))))
   AN)
 (Aw (ifS (AI (Ai (Ad 3) (fC (.str "text")) (eqS id)))
   (AM (An Ky (Ab (Ad 1) (Ab (Ad 2) Ah))))
   AN)
 (Aw (ifS (AI (Ai (Ad 3) (fC (.str "list")) (eqS id)))
   (AM (An ML (Ab (Ad 0) (Ab (Ad 1) (Ab (Ad 2) Ah)))))
   AN)
 (Aw (ifS (AI (Ai (Ad 3) (fC (.str "pair")) (eqS id)))
   (AM (An MM (Ab (Ad 0) (Ab (Ad 1) (Ab (Ad 2) Ah)))))
   AN)
 (AM (An Ks (Ab (Ad 0) (Ab (Ad 1) (Ab (Ad 2) Ah)))))))))))
def Fd (L:LamD) (Pt ln cl:Nat) (Nt Bq:Fn):M Out:=
 (Aw (A9 3 (An Bq (Ab (Ad 1) (Ab (Ad 2) (Ab (fC (.str "[")) Ah)))))
 (Aw (ifS (AI (startsM (Ad 1) (Ab (fC (.str "]")) (Ab (Ad 3) Ah))))
   (AM (Bz (Ab (Ix (BN Ah)) (Ab (Ai (Ad 3) (fC (.int 1)) A5) Ah))))
   AN)
 (AM (An Nt (Ab (Ad 1) (Ab (Ad 3) (Ab (fC (.str "]")) (Ab (Iw 0 Pt ln cl L [1,0]) Ah))))))))
def Fe (Bq B9:Fn):M Out:=
 (Aw (A9 3 (An B9 (Ab (Ai (Ad 0) (fC (.int 1)) ixD) (Ab (Ad 1) (Ab (An Bq (Ab (Ad 1) (Ab (Ad 2) (Ab (fC (.str "(")) Ah)))) Ah)))))
 (Aw (A9 4 (An B9 (Ab (Ai (Ad 0) (fC (.int 2)) ixD) (Ab (Ad 1) (Ab (An Bq (Ab (Ad 1) (Ab (Ai (Ad 3) (fC (.int 1)) ixD) (Ab (fC (.str ",")) Ah)))) Ah)))))
 (AM (Bz (Ab (Bz (Ab (Ai (Ad 3) (fC (.int 0)) ixD) (Ab (Ai (Ad 4) (fC (.int 0)) ixD) Ah))) (Ab (An Bq (Ab (Ad 1) (Ab (Ai (Ad 4) (fC (.int 1)) ixD) (Ab (fC (.str ")")) Ah)))) Ah))))))
def Eg (Bq B9 BT EN:Fn):M Out:=
 (Aw (A9 3 (An EN (Ab (Ad 1) (Ab (An Bq (Ab (Ad 1) (Ab (Ad 2) (Ab (fC (.str "#")) Ah)))) Ah))))
 (Aw (ifS (BO (AI (An BT (Ab (Ai (Ad 3) (fC (.int 0)) ixD) (Ab (fC (.int 0)) (Ab (Ai (fB (Ab (Ai (Ad 0) (fC (.int 1)) ixD) Ah) BK) (fC (.int 1)) Ce) Ah))))))
   fail
   AN)
 (Aw (A9 4 (An B9 (Ab (Ai (Ai (Ad 0) (fC (.int 1)) ixD) (Ai (Ad 3) (fC (.int 0)) ixD) ixD) (Ab (Ad 1) (Ab (An Bq (Ab (Ad 1) (Ab (Ai (Ad 3) (fC (.int 1)) ixD) (Ab (fC (.str ":")) Ah)))) Ah)))))
 (AM (Bz (Ab (Bz (Ab (fC (.str "of")) (Ab (Ai (Ad 3) (fC (.int 0)) ixD) (Ab (Ai (Ad 4) (fC (.int 0)) ixD) Ah)))) (Ab (Ai (Ad 4) (fC (.int 1)) ixD) Ah)))))))
def Ek (L:LamD) (Qc:List D→Fn) (Bq:Fn):M Out:=
 (Aw (A9 4 (Fp 3 L Qc (Ab (Ad 1) Ah)))
 (Aw (A9 5 (Ix (BN (Ab (Ai (Ad 4) (fC (.int 0)) ixD) Ah))))
 (Aw (GH (AI (startsM (Ad 0) (Ab (fC (.str ",")) (Ab (Ai (Ad 4) (fC (.int 1)) ixD) Ah))))
   (Aw (A9 4 (Fp 3 L Qc (Ab (Ai (Ai (Ad 4) (fC (.int 1)) ixD) (fC (.int 1)) A5) Ah)))
 (Ec (objM D5 (Ad 5) (Ab (Ai (Ad 4) (fC (.int 0)) ixD) Ah)))))
 (AM (Bz (Ab (Ad 5) (Ab (An Bq (Ab (Ad 0) (Ab (Ai (Ad 4) (fC (.int 1)) ixD) (Ab (Ad 2) Ah)))) Ah)))))))
def Ej (Bq:Fn):M Out:=
 (Aw (A9 2 (An Bq (Ab (Ad 0) (Ab (Ad 1) (Ab (fC (.str "\"")) Ah)))))
 (Aw (A9 3 (fC (.str "")))
 (Aw (A9 4 (find3M (Ad 0) (Ab (fC (.str "\"")) (Ab (Ad 2) Ah))))
 (Aw (GH (AI (Ai (Ad 4) (fC (.int 0)) geA))
   (Aw (A9 3 (Ai (Ad 3) (fSl (Ad 0) (Ck (Ad 2)) (Ck (Ad 4)) Dp) A5))
 (Aw (ifS (BO (AI (startsM (Ad 0) (Ab (fC (.str "\"")) (Ab (Ai (Ad 4) (fC (.int 1)) A5) Ah)))))
   (AM (Bz (Ab (Ad 3) (Ab (Ai (Ad 4) (fC (.int 1)) A5) Ah))))
   AN)
 (Aw (A9 3 (Ai (Ad 3) (fC (.str "\"")) A5))
 (Aw (A9 2 (Ai (Ad 4) (fC (.int 2)) A5))
 (A9 4 (find3M (Ad 0) (Ab (fC (.str "\"")) (Ab (Ad 2) Ah)))))))))
 fail))))
def Cy (Dw:Fn):M Out:=
 (Aw (ifS (AI (fB (Ab (Ad 0) (Ab (Bz (Ab (fC (.ty "list")) (Ab (fC (.ty "tuple")) Ah))) Ah)) Fk))
   (Aw (ifS (fOr (AI (Ai (fB (Ab (Ad 0) (Ab (fC (.ty "list")) Ah)) CW) (fB (Ab (Ad 1) (Ab (fC (.ty "list")) Ah)) CW) (eqS fun b=>!b))) (BO (AI (fB (Ab (Ad 1) (Ab (Bz (Ab (fC (.ty "list")) (Ab (fC (.ty "tuple")) Ah))) Ah)) Fk))))
   (AM (fC (.bl false)))
   AN)
 (Aw (ifS (AI (Ai (fB (Ab (Ad 0) Ah) BK) (fB (Ab (Ad 1) Ah) BK) (eqS fun b=>!b)))
   (AM (fC (.bl false)))
   AN)
 (AM (Ai (Bf (Cj 1 [0,1] (Cw (Ab (fB (Ab (Ad 0) Ah) BK) Ah)) (BP 0) (BO (AI (An Dw (Ab (Ai (Ad 1) (Ad 0) ixD) (Ab (Ai (Ad 2) (Ad 0) ixD) Ah))))) (Ad 0))) (Bf (BN Ah)) (eqS id)))))
   AN)
 (AM (Dz (GM (fB (Ab (Ad 1) (Ab (fC (.ty "bool")) Ah)) CW)) (Dz (Ai (fB (Ab (Ad 0) (Ab (fC (.ty "int")) Ah)) CW) (fB (Ab (Ad 1) (Ab (fC (.ty "int")) Ah)) CW) (eqS id)) (Ai (Ad 0) (Ad 1) (eqS id))))))
def CF (Dy:Fn):M Out:=
 (Aw (GA 1 (BN Ah))
 (Aw (ifS (AI (fB (Ab (Ad 0) (Ab (Bz (Ab (fC (.ty "list")) (Ab (fC (.ty "tuple")) Ah))) Ah)) Fk))
   (Ew (Ev (Bf (fBF (Ab (Ad 0) Ah) Ey))) (BP 2)
   (GA 1 (bnd (Ad 1) fun x=>bnd (An Dy (Ab (Ad 2) Ah)) fun y=>Im x y)))
   AN)
 (Aw (ifS (AI (fB (Ab (Ad 0) (Ab (fC (.ty "list")) Ah)) CW))
   (ownM 1 D5 (Ab (fB (Ab (Ad 0) Ah) BK) Ah))
   AN)
 (AM (Ad 1)))))
def CG (Eu:Fn):M Out:=
 (Aw (ifS (AI (fB (Ab (Ad 0) (Ab (Bz (Ab (fC (.ty "list")) (Ab (fC (.ty "tuple")) Ah))) Ah)) Fk))
   (Ew (Ev (Bf (fBF (Ab (Ad 0) Ah) Ey))) (BP 1)
   (Ec (An Eu (Ab (Ad 1) Ah))))
   AN)
 (ifS (AI (fB (Ab (Ad 0) (Ab (fC (.ty "list")) Ah)) CW))
   (Ec (objM D5 (Ad 0) (Ab (fC (.str "q")) Ah)))
   AN))
def CA (BS Ge Dw Gf Dy Eu:Fn):M Out:=
 (Aw (A9 2 (An BS (Ab (Ad 1) Ah)))
 (Aw (A9 3 (An Gf (Ab (Ad 0) (Ab (Ad 1) Ah))))
 (Aw (ifS (fOr (BO (AI (fB (Ab (Ad 3) (Ab (fC (.ty "str")) Ah)) CV))) (fOr (AI (Ai (Ad 3) (Ad 2) (eqS fun b=>!b))) (AI (Ai (An BS (Ab (Ad 1) Ah)) (Ad 2) (eqS fun b=>!b)))))
   (AM (fC (.bl false)))
   AN)
 (Aw (A9 4 (An Ge (Ab (Ad 0) (Ab (Ad 2) Ah))))
 (Aw (ifS (BO (AI (An Dw (Ab (Ad 1) (Ab (Ad 4) Ah)))))
   (AM (fC (.bl false)))
   AN)
 (Aw (A9 5 (An Dy (Ab (Ad 4) Ah)))
 (Aw (Ec (An Eu (Ab (Ad 4) Ah)))
 (Aw (ifS (AI (Ai (An Dy (Ab (Ad 4) Ah)) (Bf (Cj 1 [] (Ev (Ad 5)) (BP 0) DI (Ai (Ad 0) (fC (.int 1)) A5))) (eqS fun b=>!b)))
   (AM (fC (.bl false)))
   AN)
 (AM (Dz (Ai (An BS (Ab (Ad 1) Ah)) (Ad 2) (eqS id)) (Dz (An Dw (Ab (Ad 1) (Ab (An Ge (Ab (Ad 0) (Ab (Ad 2) Ah))) Ah))) (Ai (An Gf (Ab (Ad 0) (Ab (Ad 1) Ah))) (Ad 2) (eqS id)))))))))))))
def Cz (AH:Fn):M Out:=
 (Aw (A9 1 (Ai (fC (.int 4)) (An AH (Ab (Ad 0) (Ab (fC (.int 140)) Ah))) A5))
 (Aw (A9 2 (Bf (BN (Ab (Bf (BN (Ab (fC (.str "list")) (Ab (Bz (Ab (fC (.str "number")) (Ab (fUn (fC (.int 9)) MZ) (Ab (fC (.int 300)) Ah)))) (Ab (fC (.int 250)) Ah))))) (Ab (Bf (Cj 1 [0] (Cw (Ab (Ad 1) Ah)) (BP 0) DI (Ai (An AH (Ab (Ad 1) (Ab (fC (.int 310)) Ah))) (fC (.int 9)) Ce))) Ah)))))
 (Aw (A9 3 (An AH (Ab (Ad 0) (Ab (fC (.int 4)) Ah))))
 (Aw (ifS (AI (Ai (Ad 3) (fC (.int 1)) (eqS id)))
   (A9 2 (Bf (BN (Ab (Bf (BN (Ab (fC (.str "text")) (Ab (Ai (Bf (BN (Ab (Ai (Ad 1) (fC (.int 100)) A5) (Ab (fC (.int 250)) Ah)))) (An AH (Ab (Ad 0) (Ab (fC (.int 2)) Ah))) ixD) Ah)))) (Ab (Ai (fSl (fC (.str "a\"b ,")) fNo (Ck (Ai (fC (.int 1)) (An AH (Ab (Ad 0) (Ab (fC (.int 5)) Ah))) A5)) Dp) (Ai (Ai (Ad 1) (fC (.int 5)) HA) (fC (.int 1)) A5) Ez) Ah)))))
   AN)
 (Aw (ifS (AI (Ai (Ad 3) (fC (.int 2)) (eqS id)))
   (Aw (A9 4 (Bf (Cj 1 [0] (Cw (Ab (An AH (Ab (Ad 0) (Ab (fC (.int 3)) Ah))) Ah)) (BP 0) DI (An AH (Ab (Ad 1) (Ab (fC (.int 3)) Ah))))))
 (A9 2 (Bf (BN (Ab (Bf (BN (Ab (fC (.str "list")) (Ab (Bz (Ab (fC (.str "list")) (Ab (Bz (Ab (fC (.str "number")) (Ab (fC (.int 0)) (Ab (fC (.int 9)) Ah)))) (Ab (fC (.int 3)) Ah)))) (Ab (fC (.int 250)) Ah))))) (Ab (Bf (Cj 1 [4] (Cw (Ab (Ai (fC (.int 2)) (An AH (Ab (Ad 0) (Ab (fC (.int 20)) Ah))) A5) Ah)) (BP 0) DI (Bf (fBF (Ab (Ad 1) Ah) Ey)))) Ah))))))
   AN)
 (Aw (ifS (AI (Ai (Ad 3) (fC (.int 3)) (eqS id)))
   (Aw (A9 4 (Ai (Bf (BN (Ab (fC .non) Ah))) (An AH (Ab (Ad 0) (Ab (fC (.int 3)) Ah))) Ez))
 (Aw (A9 5 (Bf (Cj 1 [4] (Cw (Ab (Ai (fC (.int 2)) (An AH (Ab (Ad 0) (Ab (fC (.int 12)) Ah))) A5) Ah)) (BP 0) DI (Bz (Ab (Bf (fBF (Ab (Ad 1) Ah) Ey)) (Ab (fC (.str "x")) Ah))))))
 (A9 2 (Bf (BN (Ab (Bf (BN (Ab (fC (.str "list")) (Ab (Bz (Ab (fC (.str "pair")) (Ab (Bz (Ab (fC (.str "list")) (Ab (Bz (Ab (fC (.str "nothing")) Ah)) (Ab (fC (.int 2)) Ah)))) (Ab (Bz (Ab (fC (.str "text")) (Ab (fC (.int 1)) Ah))) Ah)))) (Ab (fC (.int 250)) Ah))))) (Ab (Ad 5) Ah)))))))
   AN)
 (AM (Bz (Ab (fB (Ab (Ai (Ad 2) (fC (.int 0)) ixD) Ah) Je) (Ab (Ai (Ad 2) (fC (.int 1)) ixD) Ah))))))))))
def Eo (Ch Dx Kt Gm JH:Fn):M Out:=
 (Aw (Gk (An JH (Ab (An Gm (Ab (Ad 0) (Ab (fC (.int 0)) Ah))) Ah)) (unS 2 (D9 (BP 1) (D9 (BP 2) HU))))
 (Aw (ifS (fOr (BO (AI (An Dx (Ab (Ad 1) (Ab (Ad 2) Ah))))) (BO (AI (An Dx (Ab (Bz (Ab (fC (.str "text")) (Ab (fC (.int 250)) Ah))) (Ab (Ai (fC (.str "\"a")) (fC (.int 125)) Ez) Ah))))))
   (AM (fC (.bl false)))
   AN)
 (Aw (Ew (Ev (Bf (BN (Ab (Ai (Ai (fC (.int 10)) (fC (.int 18)) DH) (fC (.int 1)) Ce) (Ab (Ai (fC (.int 1)) (Ai (fC (.int 10)) (fC (.int 18)) DH) Ce) (Ab (Ai (Ai (fC (.int 10)) (fC (.int 17)) DH) (fC (.int 1)) Ce) (Ab (Ai (fC (.int 0)) (Ai (fC (.int 10)) (fC (.int 17)) DH) Ce) (Ab (Ai (fC (.int 10)) (fC (.int 12)) DH) (Ab (Ai (fC (.int 0)) (Ai (fC (.int 10)) (fC (.int 12)) DH) Ce) Ah))))))))) (BP 3)
   (ifS (BO (AI (An Dx (Ab (Bz (Ab (fC (.str "number")) (Ab (Ai (fC (.int 1)) (Ai (fC (.int 10)) (fC (.int 18)) DH) Ce) (Ab (Ai (Ai (fC (.int 10)) (fC (.int 18)) DH) (fC (.int 1)) Ce) Ah)))) (Ab (Ad 3) Ah)))))
   (AM (fC (.bl false)))
   AN))
 (Aw (Ew (Cw (Ab (fB (Ab (fC (.int 63)) (Ab (fB (Ab (Ad 0) Ah) BK) Ah)) Hf) Ah)) (BP 4)
   (Aw (A9 5 (An Gm (Ab (Ad 0) (Ab (Ad 4) Ah))))
 (Aw (A9 1 (An Kt (Ab (Ad 5) Ah)))
 (ifS (BO (AI (An Dx (Ab (Ad 1) (Ab (An Ch (Ab (Ad 5) (Ab (Ad 1) Ah))) Ah)))))
   (AM (fC (.bl false)))
   AN))))
 (AM (fC (.bl true)))))))
def EX (B9:Fn):M D:=
 (An B9 (Ab (Ai (Ad 2) (fC (.int 1)) ixD) (Ab (Ad 1) (Ab (Ad 0) Ah))))
end LW
namespace F2
open PySem L2
def W {α:Type} (m:M α) (t:T) (P:α→T→Prop):Prop:=∃a t',m t=some (a,t')∧P a t'
def Wf (g:Fn) (ds:List D) (S:List Ob) (P:D→List Ob→Prop):Prop:=∃r S',g ds S=some (r,S')∧P r S'
theorem W.mono {α:Type} {m:M α} {t:T} {P Q:α→T→Prop} (h:W m t P) (i:∀a t',P a t'→Q a t'):W m t Q:=by
 obtain ⟨a,t',e,p⟩:=h
 exact ⟨a,t',e,i a t' p⟩
theorem Wf.mono {g:Fn} {ds:List D} {S:List Ob} {P Q:D→List Ob→Prop} (h:Wf g ds S P) (i:∀r S',P r S'→Q r S'):Wf g ds S Q:=by
 obtain ⟨a,t',e,p⟩:=h
 exact ⟨a,t',e,i a t' p⟩
section
variable {α β:Type}
theorem AU {m:M α} {t:T} {P:α→T→Prop} {a:α} {t':T} (e:m t=some (a,t')):W m t P↔P a t':=by
 constructor
 ·rintro ⟨a',t1,e',p⟩;rw [e] at e';cases e';exact p
 ·exact fun p=>⟨a,t',e,p⟩
theorem DS {m:M α} {t:T} {P:α→T→Prop} (e:m t=none):W m t P↔False:=by
 constructor
 ·rintro ⟨a',t1,e',p⟩;rw [e] at e';cases e'
 ·exact False.elim
@[simp] theorem W_ret {a:α} {t:T} {P:α→T→Prop}:W (ret a) t P↔P a t:=AU rfl
@[simp] theorem W_fail {t:T} {P:α→T→Prop}:W (fail:M α) t P↔False:=DS rfl
@[simp] theorem W_bnd {f:M α} {g:α→M β} {t:T} {P:β→T→Prop}:W (bnd f g) t P↔W f t fun a t1=>W (g a) t1 P:=by
 constructor
 ·rintro ⟨b,t',e,p⟩
  obtain ⟨a,t1,e1,e2⟩:=Ao e
  exact ⟨a,t1,e1,b,t',e2,p⟩
 ·rintro ⟨a,t1,e1,b,t',e2,p⟩
  exact ⟨b,t',by unfold bnd;rw [e1];exact e2,p⟩
@[simp] theorem Qa {c:Prop} [Decidable c] {f g:M α} {t:T} {P:α→T→Prop}:W (if c then f else g) t P↔if c then W f t P else W g t P:=by split <;> rfl
@[simp] theorem WS {n:Nat} {a:α} {t:T} {P:α→T→Prop}:W (lim n a) t P↔n≤LIM∧P a t:=by
 unfold lim
 constructor
 ·rintro ⟨a',t',e,p⟩
  split at e
  ·cases e;exact ⟨by assumption,p⟩
  ·cases e
 ·rintro ⟨h,p⟩
  exact ⟨a,t,by simp only [h,if_true],p⟩
end
variable {t:T} {env:List (Option Sl)} {S:List Ob}
@[simp] theorem W_fC {d:D} {P:D→T→Prop}:W (fC d) t P↔P d t:=AU rfl
@[simp] theorem No {i:Nat} {P:D→T→Prop}:W (Ad i) t P↔match t.env[i]? with
 | some (some (.val d))=>P d t
 | some (some (.own ds))=>P (.lst ds) ⟨t.env.set i (some (.val (.lst ds))),t.S⟩
 | _=>False:=by
 cases e:t.env[i]? with
 | none=>exact DS (by unfold Ad;simp [e])
 | some o=>
   cases o with
   | none=>exact DS (by unfold Ad;simp [e])
   | some sl=>
     cases sl with
     | val d=>exact AU (by unfold Ad;simp [e])
     | own ds=>exact AU (by unfold Ad;simp [e])
@[simp] theorem W_fBin {f g:M D} {h:D→D→M D} {P:D→T→Prop}:W (Ai f g h) t P↔W f t fun x t1=>W g t1 fun y t2=>W (h x y) t2 P:=by simp [Ai]
@[simp] theorem W_fUn {f:M D} {h:D→M D} {P:D→T→Prop}:W (fUn f h) t P↔W f t fun x t1=>W (h x) t1 P:=by simp [fUn]
@[simp] theorem W_toB {b:Bool} {P:Bool→T→Prop}:W (toB (.bl b)) t P↔P b t:=AU rfl
@[simp] theorem W_fTst {f:M D} {P:Bool→T→Prop}:W (AI f) t P↔W f t fun x t1=>W (toB x) t1 P:=by simp [AI]
@[simp] theorem W_fChain {f g w:M D} {h h':D→D→M D} {P:D→T→Prop}:W (Dr f g w h h') t P↔W f t fun x t1=>W g t1 fun y t2=>W (h x y) t2 fun k t3=>W (toB k) t3 fun k t4=>if k=true then W w t4 fun z t5=>W (h' y z) t5 P else P (.bl false) t4:=by
 simp [Dr]
@[simp] theorem W_fAnd {f g:M Bool} {P:Bool→T→Prop}:W (KG f g) t P↔W f t fun k t1=>if k=true then W g t1 P else P false t1:=by simp [KG]
@[simp] theorem W_fOr {f g:M Bool} {P:Bool→T→Prop}:W (fOr f g) t P↔W f t fun k t1=>if k=true then P true t1 else W g t1 P:=by simp [fOr]
@[simp] theorem W_fNot {f:M Bool} {P:Bool→T→Prop}:W (BO f) t P↔W f t fun k t1=>P (!k) t1:=by simp [BO]
@[simp] theorem W_fAndV {f g:M D} {P:D→T→Prop}:W (Dz f g) t P↔W f t fun x t1=>W (toB x) t1 fun k t2=>if k=true then W g t2 P else P (.bl false) t2:=by simp [Dz]
@[simp] theorem WK {f g:M D} {P:D→T→Prop}:W (SL f g) t P↔W f t fun x t1=>W (toB x) t1 fun k t2=>if k=true then P (.bl true) t2 else W g t2 P:=by simp [SL]
@[simp] theorem W_fNotV {f:M D} {P:D→T→Prop}:W (GM f) t P↔W f t fun x t1=>W (toB x) t1 fun k t2=>P (.bl (!k)) t2:=by simp [GM]
@[simp] theorem W_fIf {f:M Bool} {g h:M D} {P:D→T→Prop}:W (fIf f g h) t P↔W f t fun k t1=>if k=true then W g t1 P else W h t1 P:=by simp [fIf]
@[simp] theorem W_fNil {P:List D→T→Prop}:W Ah t P↔P [] t:=AU rfl
@[simp] theorem W_fCons {f:M D} {g:M (List D)} {P:List D→T→Prop}:W (Ab f g) t P↔W f t fun d t1=>W g t1 fun ds t2=>P (d :: ds) t2:=by simp [Ab]
@[simp] theorem W_fTup {f:M (List D)} {P:D→T→Prop}:W (Bz f) t P↔W f t fun ds t1=>ds.length≤LIM∧P (.tup ds) t1:=by simp [Bz]
@[simp] theorem W_fLst {f:M (List D)} {P:List D→T→Prop}:W (BN f) t P↔W f t fun ds t1=>ds.length≤LIM∧P ds t1:=by simp [BN]
@[simp] theorem W_fPure {f:M (List D)} {P:D→T→Prop}:W (Bf f) t P↔W f t fun ds t1=>P (.lst ds) t1:=by simp [Bf]
@[simp] theorem W_newOb {o:Ob} {P:D→T→Prop}:W (M0 o) t P↔P (.obj t.S.length) ⟨t.env,t.S++[o]⟩:=AU rfl
@[simp] theorem Sz {f:M (List D)} {P:D→T→Prop}:W (Ix f) t P↔W f t fun ds t1=>W (M0 (.lst ds)) t1 P:=by simp [Ix]
@[simp] theorem W_fCall {g:Fn} {f:M (List D)} {P:D→T→Prop}:W (An g f) t P↔W f t fun ds t1=>Wf g ds t1.S fun r S'=>P r ⟨t1.env,S'⟩:=by
 unfold An
 rw [W_bnd]
 constructor
 ·rintro ⟨ds,t1,e1,r,t',e2,p⟩
  refine ⟨ds,t1,e1,?_⟩
  dsimp only at e2
  cases e:g ds t1.S with
  | none=>rw [e] at e2;cases e2
  | some z=>obtain ⟨r',S'⟩:=z;rw [e] at e2;cases e2;exact ⟨r,_,e,p⟩
 ·rintro ⟨ds,t1,e1,r,S',e2,p⟩
  exact ⟨ds,t1,e1,r,_,by simp only [e2],p⟩
@[simp] theorem W_fB {f:M (List D)} {h:List D→M D} {P:D→T→Prop}:W (fB f h) t P↔W f t fun ds t1=>W (h ds) t1 P:=by simp [fB]
@[simp] theorem W_fBF {f:M (List D)} {h:List D→M (List D)} {P:List D→T→Prop}:W (fBF f h) t P↔W f t fun ds t1=>W (h ds) t1 P:=by simp [fBF]
@[simp] theorem W_seqS {f g:M Out} {P:Out→T→Prop}:W (Aw f g) t P↔W f t fun o t1=>match o with
 | .next=>W g t1 P
 | .brk=>P .brk t1
 | .cont=>P .cont t1
 | .ret d=>P (.ret d) t1:=by
 unfold Aw
 constructor
 ·rintro ⟨o,t',e,p⟩
  dsimp only at e
  cases e1:f t with
  | none=>rw [e1] at e;cases e
  | some z=>
    obtain ⟨o1,t1⟩:=z
    rw [e1] at e
    refine ⟨o1,t1,e1,?_⟩
    cases o1 with
    | next=>exact ⟨o,t',e,p⟩
    | brk=>cases e;exact p
    | cont=>cases e;exact p
    | ret d=>cases e;exact p
 ·rintro ⟨o,t1,e,p⟩
  cases o with
  | next=>obtain ⟨o,t',e',p⟩:=p;exact ⟨o,t',by simp only [e];exact e',p⟩
  | brk=>exact ⟨_,_,by simp only [e],p⟩
  | cont=>exact ⟨_,_,by simp only [e],p⟩
  | ret d=>exact ⟨_,_,by simp only [e],p⟩
@[simp] theorem W_skipS {P:Out→T→Prop}:W AN t P↔P .next t:=AU rfl
@[simp] theorem W_retS {f:M D} {P:Out→T→Prop}:W (AM f) t P↔W f t fun d t1=>P (.ret d) t1:=by simp [AM]
@[simp] theorem W_dropS {f:M D} {P:Out→T→Prop}:W (Ec f) t P↔W f t fun d t1=>P .next t1:=by simp [Ec]
@[simp] theorem W_ifS {f:M Bool} {g h:M Out} {P:Out→T→Prop}:W (ifS f g h) t P↔W f t fun k t1=>if k=true then W g t1 P else W h t1 P:=by simp [ifS]
@[simp] theorem W_putV {i:Nat} {d:D} {P:Unit→T→Prop}:W (BP i d) t P↔P () ⟨t.env.set i (some (.val d)),t.S⟩:=AU rfl
@[simp] theorem W_setS {i:Nat} {f:M D} {P:Out→T→Prop}:W (A9 i f) t P↔W f t fun d t1=>P .next ⟨t1.env.set i (some (.val d)),t1.S⟩:=by
 simp only [A9,W_bnd,W_ret,W_putV]
@[simp] theorem W_ownS {i:Nat} {f:M (List D)} {P:Out→T→Prop}:W (GA i f) t P↔W f t fun ds t1=>P .next ⟨t1.env.set i (some (.own ds)),t1.S⟩:=by
 unfold GA;rw [W_bnd]
 have:∀(ds:List D) (t1:T),W (fun t:T=>some (Out.next,({ t with env:=t.env.set i (some (.own ds)) }:T))) t1 P↔P .next ⟨t1.env.set i (some (.own ds)),t1.S⟩:=fun ds t1=>AU rfl
 simp only [this]
@[simp] theorem W_asgS {f:M D} {g:D→M Unit} {P:Out→T→Prop}:W (Gk f g) t P↔W f t fun d t1=>W (g d) t1 fun _ t2=>P .next t2:=by simp [Gk]
@[simp] theorem W_putNil {P:Unit→T→Prop}:W (HU []) t P↔P () t:=AU rfl
@[simp] theorem W_putCons {f:D→M Unit} {g:List D→M Unit} {d:D} {ds:List D} {P:Unit→T→Prop}:W (D9 f g (d :: ds)) t P↔W (f d) t fun _ t1=>W (g ds) t1 P:=by simp [D9]
@[simp] theorem Vn {n:Nat} {g:List D→M Unit} {ds:List D} {P:Unit→T→Prop}:W (unS n g (.lst ds)) t P↔ds.length=n∧W (g ds) t P:=by
 unfold unS;simp only [Qa,W_fail];split <;> simp [*]
@[simp] theorem W_unS_tup {n:Nat} {g:List D→M Unit} {ds:List D} {P:Unit→T→Prop}:W (unS n g (.tup ds)) t P↔ds.length=n∧W (g ds) t P:=by
 unfold unS;simp only [Qa,W_fail];split <;> simp [*]
@[simp] theorem W_forS {f:M (List D)} {st:D→M Unit} {b:M Out} {P:Out→T→Prop}:W (Ew f st b) t P↔W f t fun ds t1=>W (Cs st b ds) t1 P:=by simp [Ew]
@[simp] theorem W_forL_nil {st:D→M Unit} {b:M Out} {P:Out→T→Prop}:W (Cs st b []) t P↔P .next t:=AU rfl
theorem W_forL_cons {st:D→M Unit} {b:M Out} {d:D} {r:List D} {P:Out→T→Prop}:W (Cs st b (d :: r)) t P↔W (st d) t fun _ t1=>W b t1 fun o t2=>match o with
 | .next=>W (Cs st b r) t2 P
 | .cont=>W (Cs st b r) t2 P
 | .brk=>P .next t2
 | .ret x=>P (.ret x) t2:=by
 constructor
 ·rintro ⟨o,t',e,p⟩
  unfold Cs at e
  cases e1:st d t with
  | none=>rw [e1] at e;cases e
  | some z=>
    obtain ⟨u,t1⟩:=z
    rw [e1] at e
    try dsimp only at e
    refine ⟨u,t1,e1,?_⟩
    cases e2:b t1 with
    | none=>rw [e2] at e;cases e
    | some z=>
      obtain ⟨o2,t2⟩:=z
      rw [e2] at e
      try dsimp only at e
      refine ⟨o2,t2,e2,?_⟩
      cases o2 with
      | next=>exact ⟨o,t',e,p⟩
      | cont=>exact ⟨o,t',e,p⟩
      | brk=>cases e;exact p
      | ret x=>cases e;exact p
 ·rintro ⟨u,t1,e1,o,t2,e2,p⟩
  cases o with
  | next=>obtain ⟨o,t',e',p⟩:=p;exact ⟨o,t',by unfold Cs;simp only [e1,e2];exact e',p⟩
  | cont=>obtain ⟨o,t',e',p⟩:=p;exact ⟨o,t',by unfold Cs;simp only [e1,e2];exact e',p⟩
  | brk=>exact ⟨_,_,by unfold Cs;simp only [e1,e2],p⟩
  | ret x=>exact ⟨_,_,by unfold Cs;simp only [e1,e2],p⟩
theorem FM {st:D→M Unit} {b:M Out} {P:Out→T→Prop} (I:List D→T→Prop):∀(ds:List D) (t:T),I ds t→
 (∀d r t,I (d :: r) t→d∈ds→W (st d) t fun _ t1=>W b t1 fun o t2=>match o with
   | .next=>I r t2
   | .cont=>I r t2
   | .brk=>P .next t2
   | .ret x=>P (.ret x) t2)→(∀t,I [] t→P .next t)→W (Cs st b ds) t P
 | [],t,h,_,fin=>W_forL_nil.mpr (fin t h)
 | d :: r,t,h,turn,fin=>by
   rw [W_forL_cons]
   refine (turn d r t h List.mem_cons_self).mono fun _ t1 h1=>h1.mono fun o t2 h2=>?_
   cases o with
   | next=>exact FM I r t2 h2 (fun d' r' t' h' m=>turn d' r' t' h' (List.mem_cons_of_mem _ m)) fin
   | cont=>exact FM I r t2 h2 (fun d' r' t' h' m=>turn d' r' t' h' (List.mem_cons_of_mem _ m)) fin
   | brk=>exact h2
   | ret x=>exact h2
@[simp] theorem W_fComp {n:Nat} {fr:List Nat} {f:M (List D)} {st:D→M Unit} {tst:M Bool} {elt:M D} {P:List D→T→Prop}:W (Cj n fr f st tst elt) t P↔W f t fun ds t1=>W (Cc st tst elt ds) ⟨cenv n fr t1.env,t1.S⟩ fun xs t'=>xs.length≤LIM∧P xs ⟨t1.env,t'.S⟩:=by
 unfold Cj
 rw [W_bnd]
 constructor
 ·rintro ⟨ds,t1,e1,xs,t',e2,p⟩
  refine ⟨ds,t1,e1,?_⟩
  dsimp only at e2
  cases e:Cc st tst elt ds ⟨cenv n fr t1.env,t1.S⟩ with
  | none=>rw [e] at e2;cases e2
  | some z=>
    obtain ⟨ys,t3⟩:=z
    rw [e] at e2
    dsimp only at e2
    split at e2
    ·cases e2;exact ⟨_,_,e,by assumption,p⟩
    ·cases e2
 ·rintro ⟨ds,t1,e1,xs,t',e2,h,p⟩
  exact ⟨ds,t1,e1,xs,_,by simp only [e2,h,if_true],p⟩
@[simp] theorem W_compL_nil {st:D→M Unit} {tst:M Bool} {elt:M D} {P:List D→T→Prop}:W (Cc st tst elt []) t P↔P [] t:=AU rfl
theorem Gj {st:D→M Unit} {tst:M Bool} {elt:M D} {d:D} {r:List D} {P:List D→T→Prop}:W (Cc st tst elt (d :: r)) t P↔W (st d) t fun _ t1=>W tst t1 fun k t2=>
 if k=true then W elt t2 fun x t3=>W (Cc st tst elt r) t3 fun xs t4=>P (x :: xs) t4 else W (Cc st tst elt r) t2 P:=by
 rw [Cc];simp
theorem DR {st:D→M Unit} {tst:M Bool} {elt:M D} {P:List D→T→Prop} (I:List D→List D→T→Prop):∀(ds:List D) (acc:List D) (t:T),I acc ds t→
 (∀acc d r t,I acc (d :: r) t→d∈ds→W (st d) t fun _ t1=>W tst t1 fun k t2=>if k=true then W elt t2 fun x t3=>I (acc++[x]) r t3 else I acc r t2)→
 (∀acc t,I acc [] t→P acc t)→W (Cc st tst elt ds) t fun xs t'=>P (acc++xs) t'
 | [],acc,t,h,_,fin=>W_compL_nil.mpr (by rw [List.append_nil];exact fin acc t h)
 | d :: r,acc,t,h,turn,fin=>by
   rw [Gj]
   have turn':∀acc d' r' t',I acc (d' :: r') t'→d'∈r→_:=fun acc d' r' t' h' m=>turn acc d' r' t' h' (List.mem_cons_of_mem _ m)
   refine (turn acc d r t h List.mem_cons_self).mono fun _ t1 h1=>h1.mono fun k t2 h2=>?_
   cases k with
   | true=>
     rw [if_pos rfl] at h2 ⊢
     refine h2.mono fun x t3 h3=>(DR I r (acc++[x]) t3 h3 turn' fin).mono fun xs t4 h4=>?_
     rw [List.append_assoc] at h4
     exact h4
   | false=>
     rw [if_neg Bool.false_ne_true] at h2 ⊢
     exact DR I r acc t2 h2 turn' fin
theorem A7 {n m:Nat} {g:M Out} {ds:List D} {P:D→List Ob→Prop} (h:ds.length=n) (w:W g ⟨env0 m ds,S⟩ fun o t=>match o with
 | .ret r=>P r t.S
 | .next=>P .non t.S
 | _=>False):Wf (fnOf n m g) ds S P:=by
 obtain ⟨o,t,e,p⟩:=w
 cases o with
 | ret r=>exact ⟨r,t.S,by unfold fnOf;rw [if_pos h,e],p⟩
 | next=>exact ⟨.non,t.S,by unfold fnOf;rw [if_pos h,e],p⟩
 | brk=>exact p.elim
 | cont=>exact p.elim
@[simp] theorem W_tTru {P:Bool→T→Prop}:W DI t P↔P true t:=AU rfl
@[simp] theorem WJ {P:D→T→Prop}:W VF t P↔P .dic t:=AU rfl
end F2
namespace F2
open PySem L2
variable {t:T} {P:D→T→Prop}
theorem J2 {α β:Type} {o:Option β} {g:β→α×T} {Q:α→T→Prop} {m:M α} (e:m t=o.map g):W m t Q↔∃b,o=some b∧Q (g b).1 (g b).2:=by
 constructor
 ·rintro ⟨a,t',e',p⟩
  rw [e] at e'
  obtain ⟨b,h1,h2⟩:=Option.map_eq_some_iff.mp e'
  exact ⟨b,h1,by rw [h2];exact p⟩
 ·rintro ⟨b,h,p⟩
  exact ⟨_,_,by rw [e,h];rfl,p⟩
theorem MF {α:Type} {c:Prop} [Decidable c] {z:α×T} {Q:α→T→Prop} {m:M α} (e:m t=if c then some z else none):W m t Q↔c∧Q z.1 z.2:=by
 constructor
 ·rintro ⟨a,t',e',p⟩
  rw [e] at e'
  split at e'
  ·cases e';exact ⟨by assumption,p⟩
  ·cases e'
 ·rintro ⟨h,p⟩
  exact ⟨_,_,by rw [e,if_pos h],p⟩
theorem Np {α β:Type} {o:Option β} (f:β→α) {Q:α→T→Prop} {m:M α} (e:m t=o.map fun b=>(f b,t)):W m t Q↔∃b,o=some b∧Q (f b) t:=J2 (g:=fun b=>(f b,t)) e
theorem EB {α:Type} {c:Prop} [Decidable c] {a:α} {Q:α→T→Prop} {m:M α} (e:m t=if c then some (a,t) else none):W m t Q↔c∧Q a t:=MF (z:=(a,t)) e
@[simp] theorem W_ix_tup {ds:List D} {i:Int}:W (ixD (.tup ds) (.int i)) t P↔∃d,atI ds i=some d∧P d t:=Np id rfl
@[simp] theorem W_ix_lst {ds:List D} {i:Int}:W (ixD (.lst ds) (.int i)) t P↔∃d,atI ds i=some d∧P d t:=Np id rfl
@[simp] theorem W_ix_str {x:Str} {i:Int}:W (ixD (.str x) (.int i)) t P↔x.length≤LIM∧∃n,atI x.cps.toList i=some n∧P (.str ⟨#[n]⟩) t:=by
 by_cases h:x.length≤LIM
 ·have:ixD (.str x) (.int i) t=(atI x.cps.toList i).map fun n=>(.str ⟨#[n]⟩,t):=by simp only [ixD,h,if_true]
  rw [J2 this];simp [h]
 ·rw [DS (by simp only [ixD,h,if_false])];simp [h]
@[simp] theorem W_ix_obj {k:Nat} {i:Int}:W (ixD (.obj k) (.int i)) t P↔∃ds,t.S[k]?=some (.lst ds)∧∃d,atI ds i=some d∧P d t:=by
 cases e:t.S[k]? with
 | none=>rw [DS (by simp only [ixD,e])];simp
 | some o=>
   cases o with
   | dct _ | ins _ _ | tab _ _ _ _ | fn _ _=>rw [DS (by simp only [ixD,e])];simp
   | lst ds=>
     have:ixD (.obj k) (.int i) t=(atI ds i).map fun d=>(d,t):=by simp only [ixD,e]
     rw [J2 this];simp
@[simp] theorem J3 {α:Type} {a:α} {r:List α}:atI (a :: r) 0=some a:=by simp [atI,ixN]
@[simp] theorem MH {α:Type} {a b:α} {r:List α}:atI (a :: b :: r) 1=some b:=by
 have:(1:Int) < ((a :: b :: r).length:Nat):=by simp;lia
 simp only [atI,ixN,this,if_true,show (0:Int)≤1 by decide];rfl
@[simp] theorem MI {α:Type} {a b c:α} {r:List α}:atI (a :: b :: c :: r) 2=some c:=by
 have:(2:Int) < ((a :: b :: c :: r).length:Nat):=by simp;lia
 simp only [atI,ixN,this,if_true,show (0:Int)≤2 by decide];rfl
theorem QH {α:Type} {xs:List α} {i:Int} (h0:0≤i) (h1:i < xs.length):∃d,atI xs i=some d∧d∈xs∧xs[i.toNat]?=some d:=by
 have hl:i.toNat < xs.length:=by lia
 refine ⟨xs[i.toNat],?_,List.getElem_mem hl,List.getElem?_eq_getElem hl⟩
 simp [atI,ixN,h0,h1,hl]
@[simp] theorem W_len_lst {ds:List D}:W (BK [.lst ds]) t P↔P (.int ds.length) t:=AU rfl
@[simp] theorem W_len_tup {ds:List D}:W (BK [.tup ds]) t P↔P (.int ds.length) t:=AU rfl
@[simp] theorem W_len_scr {ds:List Int}:W (BK [.scr ds]) t P↔P (.int ds.length) t:=AU rfl
@[simp] theorem W_len_str {x:Str}:W (BK [.str x]) t P↔x.length≤LIM∧P (.int x.length) t:=by simp [BK]
@[simp] theorem W_len_obj {k:Nat}:W (BK [.obj k]) t P↔∃ds,t.S[k]?=some (.lst ds)∧P (.int ds.length) t:=by
 cases e:t.S[k]? with
 | none=>rw [DS (by simp only [BK,e])];simp
 | some o=>
   cases o with
   | dct _ | ins _ _ | tab _ _ _ _ | fn _ _=>rw [DS (by simp only [BK,e])];simp
   | lst ds=>rw [AU (a:=.int ds.length) (t':=t) (by simp only [BK,e])];simp
@[simp] theorem W_isi {d:D} {m:String}:W (CV [d,.ty m]) t P↔∃n,tyD d=some n∧∃b,CY n m=some b∧P (.bl b) t:=by
 cases e:tyD d with
 | none=>rw [DS (by simp only [CV,e])];simp
 | some n=>
   have:CV [d,.ty m] t=(CY n m).map fun b=>(.bl b,t):=by simp only [CV,e]
   rw [J2 this];simp
def GO:D→Bool
 | .non=>true
 | _=>false
def VP (b:Bool):D→Bool
 | .bl c=>c == b
 | _=>false
@[simp] theorem W_is_non {x:D}:W (isC x .non) t P↔P (.bl (GO x)) t:=AU (by cases x <;> rfl)
@[simp] theorem WI {x:D} {b:Bool}:W (isC x (.bl b)) t P↔P (.bl (VP b x)) t:=AU (by cases x <;> rfl)
@[simp] theorem WH {x y:D}:W (NP x y) t P↔W (isC x y) t fun d t1=>W (toB d) t1 fun b t2=>P (.bl (!b)) t2:=by
 unfold NP
 rw [W_bnd]
 constructor
 ·exact fun h=>h.mono fun d t1 h1=>by
   cases d with
   | bl b=>simpa using h1
   | _=>exact (W_fail.mp h1).elim
 ·exact fun h=>h.mono fun d t1 h1=>by
   cases d with
   | bl b=>simpa using h1
   | _=>obtain ⟨_,_,e,_⟩:=h1;cases e
@[simp] theorem W_add_int {i j:Int}:W (A5 (.int i) (.int j)) t P↔P (.int (i + j)) t:=AU rfl
@[simp] theorem W_sub_int {i j:Int}:W (Ce (.int i) (.int j)) t P↔P (.int (i - j)) t:=AU rfl
@[simp] theorem W_lt_int {i j:Int}:W (ltA (.int i) (.int j)) t P↔P (.bl (decide (i < j))) t:=AU rfl
@[simp] theorem W_le_int {i j:Int}:W (leA (.int i) (.int j)) t P↔P (.bl (decide (i≤j))) t:=AU rfl
@[simp] theorem W_gt_int {i j:Int}:W (gtA (.int i) (.int j)) t P↔P (.bl (decide (j < i))) t:=AU rfl
@[simp] theorem W_ge_int {i j:Int}:W (geA (.int i) (.int j)) t P↔P (.bl (decide (j≤i))) t:=AU rfl
@[simp] theorem Vu {i j:Str}:W (ltA (.str i) (.str j)) t P↔P (.bl (decide (i.cps.toList < j.cps.toList))) t:=AU rfl
@[simp] theorem Vr {i j:Str}:W (gtA (.str i) (.str j)) t P↔P (.bl (decide (j.cps.toList < i.cps.toList))) t:=AU rfl
@[simp] theorem W_neg {i:Int}:W (MZ (.int i)) t P↔P (.int (-i)) t:=AU rfl
@[simp] theorem W_fdiv {i j:Int}:W (HA (.int i) (.int j)) t P↔(0 < j∧j < 1073741824)∧P (.int (i / j)) t:=by
 rw [MF (m:=HA (.int i) (.int j)) (c:=J4 i j=true) (z:=(.int (i / j),t)) rfl];simp [J4]
@[simp] theorem W_mod {i j:Int}:W (FU (.int i) (.int j)) t P↔0 < j∧P (.int (i % j)) t:=by
 rw [MF (m:=FU (.int i) (.int j)) (c:=decide (0 < j)=true) (z:=(.int (i % j),t)) rfl];simp
@[simp] theorem W_pow {i j:Int}:W (DH (.int i) (.int j)) t P↔J9 i j=true∧P (.int (i ^ j.toNat)) t:=EB rfl
@[simp] theorem W_mul_int {i j:Int}:W (Ez (.int i) (.int j)) t P↔FV i j=true∧P (.int (i * j)) t:=EB rfl
@[simp] theorem W_mul_lst {xs:List D} {k:Int}:W (Ez (.lst xs) (.int k)) t P↔(B5 k=true∧xs.length * k.toNat≤LIM)∧P (.lst (List.replicate k.toNat xs).flatten) t:=EB rfl
@[simp] theorem W_mul_str {x:Str} {k:Int}:W (Ez (.str x) (.int k)) t P↔(B5 k=true∧x.length * k.toNat≤LIM∧k≤LIM∧x.length≤LIM)∧P (.str (Txt.mul x k)) t:=EB rfl
theorem Re {i j:Int} (h1 : -18446744073709551616 < i) (h2:i < 18446744073709551616):FV i j=true:=by simp [FV,h1,h2]
theorem F5 {k:Int} (h1 : -4611686018427387904≤k) (h2:k < 4611686018427387904):B5 k=true:=by simp [B5,h1,h2]
@[simp] theorem W_add_str {x y:Str}:W (A5 (.str x) (.str y)) t P↔x.length + y.length≤LIM∧P (.str (x++y)) t:=by
 have:A5 (.str x) (.str y)=lim (x.length + y.length) (.str (x++y)):=rfl
 rw [this];simp
@[simp] theorem W_add_lst {x y:List D}:W (A5 (.lst x) (.lst y)) t P↔x.length + y.length≤LIM∧P (.lst (x++y)) t:=by
 have:A5 (.lst x) (.lst y)=lim (x.length + y.length) (.lst (x++y)):=rfl
 rw [this];simp
@[simp] theorem Vl {d:D} {x y:List D}:W (A5 (.tup (d :: x)) (.tup y)) t P↔x.length + 1 + y.length≤LIM∧P (.tup (d :: x++y)) t:=by
 have:A5 (.tup (d :: x)) (.tup y) t=if (d :: x).isEmpty=false∧(d :: x).length + y.length≤LIM then some (.tup (d :: x++y),t) else none:=rfl
 rw [MF this];simp
@[simp] theorem Up {y:List D}:W (A5 (.tup []) (.tup y)) t P↔P (.tup y) t:=AU rfl
@[simp] theorem W_cat {x y:List D} {Q:List D→T→Prop}:W (Im (.lst x) (.lst y)) t Q↔x.length + y.length≤LIM∧Q (x++y) t:=by
 have:Im (.lst x) (.lst y)=lim (x.length + y.length) (x++y):=rfl
 rw [this];simp
@[simp] theorem WR {i:Int}:W (Vy [.int i]) t P↔P (.int (if i < 0 then -i else i)) t:=AU rfl
@[simp] theorem W_min {i j:Int}:W (Hf [.int i,.int j]) t P↔P (.int (if j < i then j else i)) t:=AU rfl
@[simp] theorem WT {i j:Int}:W (VT [.int i,.int j]) t P↔P (.int (if j > i then j else i)) t:=AU rfl
@[simp] theorem Vm {i:Int}:W (Iy [.int i]) t P↔P (.int i) t:=AU rfl
@[simp] theorem W_int_bl {b:Bool}:W (Iy [.bl b]) t P↔P (.int (if b then 1 else 0)) t:=AU rfl
@[simp] theorem W_str_int {i:Int}:W (Fl [.int i]) t P↔i.natAbs.log2 < 1920∧P (.str (Str.ofString (toString i))) t:=EB rfl
@[simp] theorem W_ord {x:Str}:W (K3 [.str x]) t P↔x.length=1∧P (.int (x.cps.getD 0 0:Nat)) t:=EB rfl
@[simp] theorem W_tup_lst {ds:List D}:W (Je [.lst ds]) t P↔P (.tup ds) t:=AU rfl
@[simp] theorem W_lst_lst {ds:List D} {Q:List D→T→Prop}:W (Ey [.lst ds]) t Q↔Q ds t:=AU rfl
@[simp] theorem W_lst_tup {ds:List D} {Q:List D→T→Prop}:W (Ey [.tup ds]) t Q↔Q ds t:=AU rfl
@[simp] theorem W_eq_str {g:Bool→Bool} {x y:Str}:W (eqS g (.str x) (.str y)) t P↔P (.bl (g (x == y))) t:=AU rfl
@[simp] theorem W_eq_int {g:Bool→Bool} {x y:Int}:W (eqS g (.int x) (.int y)) t P↔P (.bl (g (x == y))) t:=AU rfl
@[simp] theorem W_eq_bl {g:Bool→Bool} {x y:Bool}:W (eqS g (.bl x) (.bl y)) t P↔P (.bl (g (x == y))) t:=AU rfl
@[simp] theorem W_eq_nil {g:Bool→Bool} {x:List D}:W (eqS g (.lst x) (.lst [])) t P↔P (.bl (g x.isEmpty)) t:=by
 refine AU ?_
 cases x <;> rfl
theorem EZ {a b:String}:Str.ofString a=Str.ofString b↔a=b:=by
 constructor
 ·intro h
  rw [Str.ofString_eq_toList,Str.ofString_eq_toList] at h
  injection h with h
  have h:=congrArg Array.toList h
  simp only at h
  have hinj:∀xs ys:List Char,xs.map Char.toNat=ys.map Char.toNat→xs=ys:=by
   intro xs
   induction xs with
   | nil=>intro ys h;cases ys with | nil=>rfl | cons _ _=>simp at h
   | cons x xs ih=>
     intro ys h
     cases ys with
     | nil=>simp at h
     | cons y ys=>
       simp only [List.map_cons,List.cons.injEq] at h
       rw [ih ys h.2,Char.toNat_inj.mp h.1]
  exact String.toList_inj.mp (hinj _ _ (by simpa using h))
 ·exact fun h=>by rw [h]
@[simp] theorem Vv {ds:List D} {lo hi:Option Int}:W (Dp (.lst ds) lo hi) t P↔P (.lst (cutD ds lo hi)) t:=AU rfl
@[simp] theorem W_sl_scr {ds:List Int} {lo hi:Option Int}:W (Dp (.scr ds) lo hi) t P↔P (.lst ((cutD ds lo hi).map .int)) t:=AU rfl
@[simp] theorem W_sl_str {x:Str} {lo hi:Option Int}:W (Dp (.str x) lo hi) t P↔x.length≤LIM∧P (.str (Txt.slice x lo hi)) t:=by
 have:Dp (.str x) lo hi=lim x.length (.str (Txt.slice x lo hi)):=rfl
 rw [this];simp
@[simp] theorem Vw {ds:List D} {lo hi:Option Int}:W (Dp (.tup ds) lo hi) t P↔P (.tup (cutD ds lo hi)) t:=AU rfl
@[simp] theorem W_fSl {f:M D} {l u:M (Option Int)} {h:D→Option Int→Option Int→M D}:W (fSl f l u h) t P↔W f t fun x t1=>W l t1 fun lo t2=>W u t2 fun hi t3=>W (h x lo hi) t3 P:=by simp [fSl]
@[simp] theorem W_fNo {Q:Option Int→T→Prop}:W fNo t Q↔Q none t:=AU rfl
@[simp] theorem W_asI {i:Int} {Q:Option Int→T→Prop}:W (asI (.int i)) t Q↔Q (some i) t:=AU rfl
@[simp] theorem W_fPart {f:M D} {Q:Option Int→T→Prop}:W (Ck f) t Q↔W f t fun x t1=>W (asI x) t1 Q:=by simp [Ck]
@[simp] theorem W_fItA {f:M D} {Q:List D→T→Prop}:W (Ev f) t Q↔W f t fun x t1=>W (Dv x) t1 Q:=by simp [Ev]
@[simp] theorem W_it_lst {ds:List D} {Q:List D→T→Prop}:W (Dv (.lst ds)) t Q↔Q ds t:=AU rfl
@[simp] theorem Vt {ds:List D} {Q:List D→T→Prop}:W (Dv (.tup ds)) t Q↔Q ds t:=AU rfl
@[simp] theorem Vs {ds:List Int} {Q:List D→T→Prop}:W (Dv (.scr ds)) t Q↔Q (ds.map .int) t:=AU rfl
@[simp] theorem W_it_str {x:Str} {Q:List D→T→Prop}:W (Dv (.str x)) t Q↔Q (x.cps.toList.map fun c=>.str ⟨#[c]⟩) t:=AU rfl
@[simp] theorem W_fRng1 {f:M (List D)} {Q:List D→T→Prop}:W (Cw f) t Q↔W f t fun x t1=>W (IV x) t1 Q:=by simp [Cw]
@[simp] theorem WG {f:M (List D)} {Q:List D→T→Prop}:W (Qe f) t Q↔W f t fun x t1=>W (PH x) t1 Q:=by simp [Qe]
@[simp] theorem W_rng1 {j:Int} {Q:List D→T→Prop}:W (IV [.int j]) t Q↔B5 j=true∧Q (CJ 0 j.toNat) t:=EB rfl
@[simp] theorem WL {i j:Int} {Q:List D→T→Prop}:W (PH [.int i,.int j]) t Q↔(B5 i && B5 j)=true∧Q (CJ i (j - i).toNat) t:=EB rfl
@[simp] theorem W_in_lst {neg:Bool} {x:D} {ds:List D}:W (inD neg x (.lst ds)) t P↔(Fb x=true∧ds.all Fb=true)∧P (.bl (if neg then !inV (toV x) (ds.map toV) else inV (toV x) (ds.map toV))) t:=EB rfl
@[simp] theorem W_ownM {i:Nat} {h:List D→List D→Option (List D)} {g:M (List D)} {Q:Out→T→Prop}:W (ownM i h g) t Q↔(∃xs,t.env[i]?=some (some (.own xs)))∧W g t fun ds t1=>∃xs,t1.env[i]?=some (some (.own xs))∧∃ys,h xs ds=some ys∧Q .next ⟨t1.env.set i (some (.own ys)),t1.S⟩:=by
 constructor
 ·rintro ⟨o,t',e,p⟩
  unfold ownM at e
  split at e
  ·next xs e0=>
   refine ⟨⟨xs,e0⟩,?_⟩
   obtain ⟨ds,t1,e1,e⟩:=Ao e
   refine ⟨ds,t1,e1,?_⟩
   split at e
   ·next ys e2=>
    obtain ⟨zs,e3,e4⟩:=Option.map_eq_some_iff.mp e
    cases e4
    exact ⟨ys,e2,zs,e3,p⟩
   ·cases e
  ·cases e
 ·rintro ⟨⟨xs,e0⟩,ds,t1,e1,ys,e2,zs,e3,p⟩
  exact ⟨_,_,by unfold ownM bnd;simp only [e0,e1,e2,e3,Option.map_some],p⟩
@[simp] theorem app1_one {xs:List D} {d:D} {ys:List D}:D5 xs [d]=some ys↔xs.length < LIM∧xs++[d]=ys:=by
 unfold D5;split <;> simp [*]
@[simp] theorem WU {f g:M D} {d:D} {Q:Unit→T→Prop}:W (stD f g d) t Q↔W f t fun o t1=>W g t1 fun i t2=>W (T5 o i d) t2 Q:=by simp [stD]
end F2
namespace F2
open PySem L2
variable {t:T} {P:D→T→Prop} {Q:List D→T→Prop} {R:Out→T→Prop} {B:Bool→T→Prop} {U:Unit→T→Prop}
def Ex (k:Bool) (A B:Prop):Prop:=if k=true then A else B
theorem Hc {k:Bool} {A B:Prop} (h:k=true) (a:A):Ex k A B:=by unfold Ex;rw [if_pos h];exact a
theorem EW {k:Bool} {A B:Prop} (h:k=false) (b:B):Ex k A B:=by unfold Ex;rw [if_neg (by rw [h];exact Bool.false_ne_true)];exact b
theorem Ct {k:Bool} {A B:Prop} (a:k=true→A) (b:k=false→B):Ex k A B:=by cases h:k with
 | true=>exact Hc rfl (a h)
 | false=>exact EW rfl (b h)
def PM (g:M Out) (R:Out→T→Prop) (o:Out) (t1:T):Prop:=match o with
 | .next=>W g t1 R
 | o=>R o t1
theorem Ep {g:M Out} {t1:T} (h:W g t1 R):PM g R .next t1:=h
theorem Le {g:M Out} {t1:T} {d:D} (h:R (.ret d) t1):PM g R (.ret d) t1:=h
theorem Uk {f g:M Out} (h:W f t (PM g R)):W (Aw f g) t R:=W_seqS.mpr (h.mono fun o t1 h1=>by cases o <;> exact h1)
theorem QD (h:R .next t):W AN t R:=W_skipS.mpr h
theorem Wy {f:M D} (h:W f t fun d t1=>R (.ret d) t1):W (AM f) t R:=W_retS.mpr h
theorem UV {f:M D} (h:W f t fun d t1=>R .next t1):W (Ec f) t R:=W_dropS.mpr h
theorem wIf {f:M Bool} {g h:M Out} (w:W f t fun k t1=>Ex k (W g t1 R) (W h t1 R)):W (ifS f g h) t R:=W_ifS.mpr w
theorem Wz {i:Nat} {f:M D} (h:W f t fun d t1=>R .next ⟨t1.env.set i (some (.val d)),t1.S⟩):W (A9 i f) t R:=W_setS.mpr h
theorem Ww {i:Nat} {f:M (List D)} (h:W f t fun d t1=>R .next ⟨t1.env.set i (some (.own d)),t1.S⟩):W (GA i f) t R:=W_ownS.mpr h
theorem V7 {f:M D} {g:D→M Unit} (h:W f t fun d t1=>W (g d) t1 fun _ t2=>R .next t2):W (Gk f g) t R:=W_asgS.mpr h
theorem Wb {f:M (List D)} {st:D→M Unit} {b:M Out} (h:W f t fun ds t1=>W (Cs st b ds) t1 R):W (Ew f st b) t R:=W_forS.mpr h
theorem wC {d:D} (h:P d t):W (fC d) t P:=W_fC.mpr h
theorem D4 {i:Nat} {d:D} (e:t.env[i]?=some (some (.val d))) (h:P d t):W (Ad i) t P:=by rw [No,e];exact h
theorem Vi {i:Nat} {ds:List D} (e:t.env[i]?=some (some (.own ds))) (h:P (.lst ds) ⟨t.env.set i (some (.val (.lst ds))),t.S⟩):W (Ad i) t P:=by rw [No,e];exact h
theorem Hr {f g:M D} {h:D→D→M D} (w:W f t fun x t1=>W g t1 fun y t2=>W (h x y) t2 P):W (Ai f g h) t P:=W_fBin.mpr w
theorem wUn {f:M D} {h:D→M D} (w:W f t fun x t1=>W (h x) t1 P):W (fUn f h) t P:=W_fUn.mpr w
theorem DJ {α β:Type} {f:M α} {g:α→M β} {K:β→T→Prop} (w:W f t fun x t1=>W (g x) t1 K):W (bnd f g) t K:=W_bnd.mpr w
theorem LB {b:Bool} (h:B b t):W (toB (.bl b)) t B:=W_toB.mpr h
theorem Nh {f:M D} (h:W f t fun x t1=>W (toB x) t1 B):W (AI f) t B:=W_fTst.mpr h
theorem Uf {f g w:M D} {h h':D→D→M D} (q:W f t fun x t1=>W g t1 fun y t2=>W (h x y) t2 fun k t3=>W (toB k) t3 fun k t4=>Ex k (W w t4 fun z t5=>W (h' y z) t5 P) (P (.bl false) t4)):W (Dr f g w h h') t P:=W_fChain.mpr q
theorem V4 {f g:M Bool} (h:W f t fun k t1=>Ex k (W g t1 B) (B false t1)):W (KG f g) t B:=W_fAnd.mpr h
theorem wOr {f g:M Bool} (h:W f t fun k t1=>Ex k (B true t1) (W g t1 B)):W (fOr f g) t B:=W_fOr.mpr h
theorem Wt {f:M Bool} (h:W f t fun k t1=>B (!k) t1):W (BO f) t B:=W_fNot.mpr h
theorem US {f g:M D} (h:W f t fun x t1=>W (toB x) t1 fun k t2=>Ex k (W g t2 P) (P (.bl false) t2)):W (Dz f g) t P:=W_fAndV.mpr h
theorem U9 {f:M D} (h:W f t fun x t1=>W (toB x) t1 fun k t2=>P (.bl (!k)) t2):W (GM f) t P:=W_fNotV.mpr h
theorem We {f:M Bool} {g h:M D} (w:W f t fun k t1=>Ex k (W g t1 P) (W h t1 P)):W (fIf f g h) t P:=W_fIf.mpr w
theorem Ly (h:Q [] t):W Ah t Q:=W_fNil.mpr h
theorem EF {f:M D} {g:M (List D)} (h:W f t fun d t1=>W g t1 fun ds t2=>Q (d :: ds) t2):W (Ab f g) t Q:=W_fCons.mpr h
def FT (n:Nat) (A:Prop):Prop:=n≤LIM∧A
theorem BC {n:Nat} {A:Prop} (h:n≤LIM) (a:A):FT n A:=⟨h,a⟩
theorem WC {f:M (List D)} (h:W f t fun ds t1=>FT ds.length (P (.tup ds) t1)):W (Bz f) t P:=W_fTup.mpr h
theorem Wp {f:M (List D)} (h:W f t fun ds t1=>FT ds.length (Q ds t1)):W (BN f) t Q:=W_fLst.mpr h
theorem Vc {f:M (List D)} (h:W f t fun ds t1=>P (.lst ds) t1):W (Bf f) t P:=W_fPure.mpr h
theorem Wu {f:M (List D)} (h:W f t fun ds t1=>P (.obj t1.S.length) ⟨t1.env,t1.S++[.lst ds]⟩):W (Ix f) t P:=by rw [Sz];exact h.mono fun ds t1 h=>W_newOb.mpr h
theorem Ig {g:Fn} {f:M (List D)} (h:W f t fun ds t1=>Wf g ds t1.S fun r S'=>P r ⟨t1.env,S'⟩):W (An g f) t P:=W_fCall.mpr h
theorem wB {f:M (List D)} {h:List D→M D} (w:W f t fun ds t1=>W (h ds) t1 P):W (fB f h) t P:=W_fB.mpr w
theorem wBF {f:M (List D)} {h:List D→M (List D)} (w:W f t fun ds t1=>W (h ds) t1 Q):W (fBF f h) t Q:=W_fBF.mpr w
theorem Gb {i:Nat} {d:D} (h:U () ⟨t.env.set i (some (.val d)),t.S⟩):W (BP i d) t U:=W_putV.mpr h
theorem Sm (h:U () t):W (HU []) t U:=W_putNil.mpr h
theorem P0 {f:D→M Unit} {g:List D→M Unit} {d:D} {ds:List D} (h:W (f d) t fun _ t1=>W (g ds) t1 U):W (D9 f g (d :: ds)) t U:=W_putCons.mpr h
theorem WD {n:Nat} {g:List D→M Unit} {ds:List D} (e:ds.length=n) (h:W (g ds) t U):W (unS n g (.tup ds)) t U:=W_unS_tup.mpr ⟨e,h⟩
theorem UT {n:Nat} {fr:List Nat} {f:M (List D)} {st:D→M Unit} {tst:M Bool} {elt:M D} (h:W f t fun ds t1=>W (Cc st tst elt ds) ⟨cenv n fr t1.env,t1.S⟩ fun xs t'=>FT xs.length (Q xs ⟨t1.env,t'.S⟩)):W (Cj n fr f st tst elt) t Q:=W_fComp.mpr h
theorem GG (h:B true t):W DI t B:=W_tTru.mpr h
theorem GF {ds:List D} {i:Int} {d:D} (e:atI ds i=some d) (h:P d t):W (ixD (.tup ds) (.int i)) t P:=W_ix_tup.mpr ⟨d,e,h⟩
theorem DK {ds:List D} {i:Int} {d:D} (e:atI ds i=some d) (h:P d t):W (ixD (.lst ds) (.int i)) t P:=W_ix_lst.mpr ⟨d,e,h⟩
theorem Wm {k:Nat} {ds:List D} {i:Int} {d:D} (e0:t.S[k]?=some (.lst ds)) (e:atI ds i=some d) (h:P d t):W (ixD (.obj k) (.int i)) t P:=W_ix_obj.mpr ⟨ds,e0,d,e,h⟩
theorem U2 {ds:List D} (h:P (.int ds.length) t):W (BK [.lst ds]) t P:=W_len_lst.mpr h
theorem U4 {ds:List D} (h:P (.int ds.length) t):W (BK [.tup ds]) t P:=W_len_tup.mpr h
theorem U3 {ds:List Int} (h:P (.int ds.length) t):W (BK [.scr ds]) t P:=W_len_scr.mpr h
theorem Nf {k:Nat} {ds:List D} (e:t.S[k]?=some (.lst ds)) (h:P (.int ds.length) t):W (BK [.obj k]) t P:=W_len_obj.mpr ⟨ds,e,h⟩
theorem Kc {x:Str} (e:x.length≤LIM) (h:P (.int x.length) t):W (BK [.str x]) t P:=W_len_str.mpr ⟨e,h⟩
theorem Wi {d:D} {m n:String} {b:Bool} (e:tyD d=some n) (e':CY n m=some b) (h:P (.bl b) t):W (CV [d,.ty m]) t P:=W_isi.mpr ⟨n,e,b,e',h⟩
theorem Wh {x:D} (h:P (.bl (GO x)) t):W (isC x .non) t P:=W_is_non.mpr h
theorem Qy {i j:Int} (h:P (.int (i + j)) t):W (A5 (.int i) (.int j)) t P:=W_add_int.mpr h
theorem Vf {i j:Int} (h:P (.int (i - j)) t):W (Ce (.int i) (.int j)) t P:=W_sub_int.mpr h
theorem Wq {i j:Int} (h:P (.bl (decide (i < j))) t):W (ltA (.int i) (.int j)) t P:=W_lt_int.mpr h
theorem Wo {i j:Int} (h:P (.bl (decide (i≤j))) t):W (leA (.int i) (.int j)) t P:=W_le_int.mpr h
theorem Wd {i j:Int} (h:P (.bl (decide (j < i))) t):W (gtA (.int i) (.int j)) t P:=W_gt_int.mpr h
theorem Wc {i j:Int} (h:P (.bl (decide (j≤i))) t):W (geA (.int i) (.int j)) t P:=W_ge_int.mpr h
theorem Ws {i:Int} (h:P (.int (-i)) t):W (MZ (.int i)) t P:=W_neg.mpr h
theorem V9 {i j:Int} (h1:0 < j) (h2:j < 1073741824) (h:P (.int (i / j)) t):W (HA (.int i) (.int j)) t P:=W_fdiv.mpr ⟨⟨h1,h2⟩,h⟩
theorem PZ {i j:Int} (h1:0 < j) (h:P (.int (i % j)) t):W (FU (.int i) (.int j)) t P:=W_mod.mpr ⟨h1,h⟩
theorem Wx {i j:Int} (h1:J9 i j=true) (h:P (.int (i ^ j.toNat)) t):W (DH (.int i) (.int j)) t P:=W_pow.mpr ⟨h1,h⟩
theorem U7 {i j:Int} (h1:FV i j=true) (h:P (.int (i * j)) t):W (Ez (.int i) (.int j)) t P:=W_mul_int.mpr ⟨h1,h⟩
theorem U8 {xs:List D} {k:Int} (h1:B5 k=true∧xs.length * k.toNat≤LIM) (h:P (.lst (List.replicate k.toNat xs).flatten) t):W (Ez (.lst xs) (.int k)) t P:=W_mul_lst.mpr ⟨h1,h⟩
theorem QB {x:Str} {k:Int} (h1:B5 k=true∧x.length * k.toNat≤LIM∧k≤LIM∧x.length≤LIM) (h:P (.str (Txt.mul x k)) t):W (Ez (.str x) (.int k)) t P:=W_mul_str.mpr ⟨h1,h⟩
theorem UR {x y:Str} (h:FT (x.length + y.length) (P (.str (x++y)) t)):W (A5 (.str x) (.str y)) t P:=W_add_str.mpr h
theorem UQ {x y:List D} (h:FT (x.length + y.length) (P (.lst (x++y)) t)):W (A5 (.lst x) (.lst y)) t P:=W_add_lst.mpr h
theorem V8 {x y:List D} (h:FT (x.length + y.length) (Q (x++y) t)):W (Im (.lst x) (.lst y)) t Q:=W_cat.mpr h
theorem Wr {i j:Int} (h:P (.int (if j < i then j else i)) t):W (Hf [.int i,.int j]) t P:=W_min.mpr h
theorem UW {i:Bool} (h:P (.int (if i then 1 else 0)) t):W (Iy [.bl i]) t P:=W_int_bl.mpr h
theorem LA {i:Int} (e:i.natAbs.log2 < 1920) (h:P (.str (Str.ofString (toString i))) t):W (Fl [.int i]) t P:=W_str_int.mpr ⟨e,h⟩
theorem Wv {x:Str} (e:x.length=1) (h:P (.int (x.cps.getD 0 0:Nat)) t):W (K3 [.str x]) t P:=W_ord.mpr ⟨e,h⟩
theorem Vg {ds:List D} (h:P (.tup ds) t):W (Je [.lst ds]) t P:=W_tup_lst.mpr h
theorem U5 {ds:List D} (h:Q ds t):W (Ey [.lst ds]) t Q:=W_lst_lst.mpr h
theorem U6 {ds:List D} (h:Q ds t):W (Ey [.tup ds]) t Q:=W_lst_tup.mpr h
theorem PY {g:Bool→Bool} {x y:Str} (h:P (.bl (g (x == y))) t):W (eqS g (.str x) (.str y)) t P:=W_eq_str.mpr h
theorem Ug {g:Bool→Bool} {x y:Int} (h:P (.bl (g (x == y))) t):W (eqS g (.int x) (.int y)) t P:=W_eq_int.mpr h
theorem Wa {g:Bool→Bool} {x y:Bool} (h:P (.bl (g (x == y))) t):W (eqS g (.bl x) (.bl y)) t P:=W_eq_bl.mpr h
theorem Uh {g:Bool→Bool} {x:List D} (h:P (.bl (g x.isEmpty)) t):W (eqS g (.lst x) (.lst [])) t P:=W_eq_nil.mpr h
theorem WA {ds:List Int} {lo hi:Option Int} (h:P (.lst ((cutD ds lo hi).map .int)) t):W (Dp (.scr ds) lo hi) t P:=W_sl_scr.mpr h
theorem WB {x:Str} {lo hi:Option Int} (h:FT x.length (P (.str (Txt.slice x lo hi)) t)):W (Dp (.str x) lo hi) t P:=W_sl_str.mpr h
theorem wSl {f:M D} {l u:M (Option Int)} {h:D→Option Int→Option Int→M D} (w:W f t fun x t1=>W l t1 fun lo t2=>W u t2 fun hi t3=>W (h x lo hi) t3 P):W (fSl f l u h) t P:=W_fSl.mpr w
theorem wNo {K:Option Int→T→Prop} (h:K none t):W fNo t K:=W_fNo.mpr h
theorem V6 {i:Int} {K:Option Int→T→Prop} (h:K (some i) t):W (asI (.int i)) t K:=W_asI.mpr h
theorem Vb {f:M D} {K:Option Int→T→Prop} (h:W f t fun x t1=>W (asI x) t1 K):W (Ck f) t K:=W_fPart.mpr h
theorem Wj {f:M D} (h:W f t fun x t1=>W (Dv x) t1 Q):W (Ev f) t Q:=W_fItA.mpr h
theorem Wk {ds:List D} (h:Q ds t):W (Dv (.lst ds)) t Q:=W_it_lst.mpr h
theorem Wl {x:Str} (h:Q (x.cps.toList.map fun c=>.str ⟨#[c]⟩) t):W (Dv (.str x)) t Q:=W_it_str.mpr h
theorem Ve {f:M (List D)} (h:W f t fun x t1=>W (IV x) t1 Q):W (Cw f) t Q:=W_fRng1.mpr h
theorem Eb {j:Int} (e:B5 j=true) (h:Q (CJ 0 j.toNat) t):W (IV [.int j]) t Q:=W_rng1.mpr ⟨e,h⟩
theorem Wg {neg:Bool} {x:D} {ds:List D} (e:Fb x=true∧ds.all Fb=true) (h:P (.bl (if neg then !inV (toV x) (ds.map toV) else inV (toV x) (ds.map toV))) t):W (inD neg x (.lst ds)) t P:=W_in_lst.mpr ⟨e,h⟩
theorem Va {i:Nat} {xs:List D} {h:List D→List D→Option (List D)} {g:M (List D)} (e:t.env[i]?=some (some (.own xs))) (w:W g t fun ds t1=>∃xs,t1.env[i]?=some (some (.own xs))∧∃ys,h xs ds=some ys∧R .next ⟨t1.env.set i (some (.own ys)),t1.S⟩):W (ownM i h g) t R:=W_ownM.mpr ⟨⟨xs,e⟩,w⟩
theorem V5 {i:Nat} {xs:List D} {d:D} {t1:T} {A:List D→Prop} (e:t1.env[i]?=some (some (.own xs))) (w:FT (xs.length + 1) (A (xs++[d]))):∃xs,t1.env[i]?=some (some (.own xs))∧∃ys,D5 xs [d]=some ys∧A ys:=
 ⟨xs,e,_,app1_one.mpr ⟨w.1,rfl⟩,w.2⟩
end F2
namespace F2
open PySem L2
section
variable {t:T} {P:D→T→Prop} {B:Bool→T→Prop} {Q:List D→T→Prop}
theorem Vh {i:Nat} {n:Int} {ds:List D} {d:D} (e:t.env[i]?=some (some (.val (.tup ds)))) (a:atI ds n=some d) (h:P d t):W (Ai (Ad i) (fC (.int n)) ixD) t P:=Hr (D4 e (wC (GF a h)))
theorem U1 {i:Nat} {x y:Str} {ds:List D} {g:Bool→Bool} (e:t.env[i]?=some (some (.val (.tup (.str y :: ds))))) (h:B (g (y == x)) t):W (AI (Ai (Ai (Ad i) (fC (.int 0)) ixD) (fC (.str x)) (eqS g))) t B:=Nh (Hr (Hr (D4 e (wC (GF J3 (wC (PY (LB h))))))))
theorem Uo {i:Nat} {x y:Str} {g:Bool→Bool} (e:t.env[i]?=some (some (.val (.str y)))) (h:B (g (y == x)) t):W (AI (Ai (Ad i) (fC (.str x)) (eqS g))) t B:=Nh (Hr (D4 e (wC (PY (LB h)))))
theorem Um {i:Nat} {x y:Int} {g:Bool→Bool} (e:t.env[i]?=some (some (.val (.int y)))) (h:B (g (y == x)) t):W (AI (Ai (Ad i) (fC (.int x)) (eqS g))) t B:=Nh (Hr (D4 e (wC (Ug (LB h)))))
theorem Sf {g:Fn} {i:Nat} {d:D} (e:t.env[i]?=some (some (.val d))) (h:Wf g [d] t.S fun r S'=>P r ⟨t.env,S'⟩):W (An g (Ab (Ad i) Ah)) t P:=Ig (EF (D4 e (Ly h)))
theorem Sg {g:Fn} {i j:Nat} {d d':D} (e:t.env[i]?=some (some (.val d))) (e':t.env[j]?=some (some (.val d'))) (h:Wf g [d,d'] t.S fun r S'=>P r ⟨t.env,S'⟩):W (An g (Ab (Ad i) (Ab (Ad j) Ah))) t P:=Ig (EF (D4 e (EF (D4 e' (Ly h)))))
theorem Sj {g:Fn} {i:Nat} {d d':D} (e:t.env[i]?=some (some (.val d))) (h:Wf g [d,d'] t.S fun r S'=>P r ⟨t.env,S'⟩):W (An g (Ab (Ad i) (Ab (fC d') Ah))) t P:=Ig (EF (D4 e (EF (wC (Ly h)))))
theorem Si {g:Fn} {i j k:Nat} {d d' d'':D} (e:t.env[i]?=some (some (.val d))) (e':t.env[j]?=some (some (.val d'))) (e'':t.env[k]?=some (some (.val d''))) (h:Wf g [d,d',d''] t.S fun r S'=>P r ⟨t.env,S'⟩):W (An g (Ab (Ad i) (Ab (Ad j) (Ab (Ad k) Ah)))) t P:=Ig (EF (D4 e (EF (D4 e' (EF (D4 e'' (Ly h)))))))
end
end F2
set_option maxHeartbeats 1000000
namespace LW
open PySem L2 F2
local macro_rules | `(tactic| walk_at "w1")=>`(tactic| first
 | ((with_reducible refine' U1 ?wv ?_);(case wv=>exact rfl)) | ((with_reducible refine' Vh ?wv ?wu ?_);(case wv=>exact rfl);(case wu=>first | exact rfl | exact J3 | exact MH | exact MI)) | ((with_reducible refine' Uo ?wv ?_);(case wv=>exact rfl)) | ((with_reducible refine' Um ?wv ?_);(case wv=>exact rfl))
 | ((with_reducible refine' Sf ?wv ?_);(case wv=>exact rfl)) | ((with_reducible refine' Sg ?wv ?wu ?_);(case wv=>exact rfl);(case wu=>exact rfl)) | ((with_reducible refine' Sj ?wv ?_);(case wv=>exact rfl)) | ((with_reducible refine' Si ?wv ?wu ?wt ?_);(case wv=>exact rfl);(case wu=>exact rfl);(case wt=>exact rfl))
 | with_reducible refine Uk ?_ | with_reducible refine Ep ?_ | with_reducible refine Le ?_ | with_reducible refine Wz ?_ | with_reducible refine Hr ?_ | with_reducible refine wC ?_
 | ((with_reducible refine' D4 ?wv ?_);(case wv=>exact rfl)) | with_reducible refine EF ?_ | with_reducible refine Ly ?_ | with_reducible refine wIf ?_ | with_reducible refine Nh ?_ | with_reducible refine LB ?_ | with_reducible refine Wy ?_ | with_reducible refine Ig ?_
 | ((with_reducible refine' GF ?wv ?_);(case wv=>first | exact rfl | exact J3 | exact MH | exact MI)) | ((with_reducible refine' DK ?wv ?_);(case wv=>first | exact rfl | exact J3 | exact MH | exact MI)) | with_reducible refine PY ?_ | with_reducible refine Ug ?_ | with_reducible refine Wa ?_ | with_reducible refine Qy ?_ | with_reducible refine Vf ?_
 | with_reducible refine QD ?_ | with_reducible refine wB ?_ | with_reducible refine wBF ?_ | with_reducible refine Vc ?_ | with_reducible refine WC ?_ | with_reducible refine Wp ?_ | ((with_reducible refine BC ?wv ?_);(case wv=>exact Nat.le_of_ble_eq_true rfl)) | with_reducible refine Wu ?_ | with_reducible refine V7 ?_ | with_reducible refine Wb ?_
 | ((with_reducible refine Hc ?wv ?_);(case wv=>exact rfl)) | ((with_reducible refine EW ?wv ?_);(case wv=>exact rfl)) | with_reducible refine V4 ?_ | with_reducible refine wOr ?_ | with_reducible refine Wt ?_ | with_reducible refine US ?_ | with_reducible refine wOrV ?_ | with_reducible refine U9 ?_ | with_reducible refine We ?_ | with_reducible refine Uf ?_
 | ((with_reducible refine' Vi ?wv ?_);(case wv=>exact rfl)) | with_reducible refine wUn ?_ | with_reducible refine Ws ?_ | with_reducible refine Wh ?_ | with_reducible refine wIsB ?_ | with_reducible refine wIsNot ?_
 | with_reducible refine Wq ?_ | with_reducible refine Wo ?_ | with_reducible refine Wd ?_ | with_reducible refine Wc ?_ | with_reducible refine wLtS ?_ | with_reducible refine wGtS ?_
 | with_reducible refine U2 ?_ | with_reducible refine U4 ?_ | with_reducible refine U3 ?_ | ((with_reducible refine' Wi ?wv ?wu ?_);(case wv=>exact rfl);(case wu=>exact rfl))
 | ((with_reducible refine Wx ?wv ?_);(case wv=>decide)) | ((with_reducible refine V9 ?wv ?wu ?_);(case wv=>decide);(case wu=>decide)) | ((with_reducible refine PZ ?wv ?_);(case wv=>decide))
 | with_reducible refine wAbs ?_ | with_reducible refine Wr ?_ | with_reducible refine wMax ?_ | with_reducible refine wInt ?_ | with_reducible refine UW ?_ | with_reducible refine Vg ?_ | with_reducible refine U5 ?_ | with_reducible refine U6 ?_
 | with_reducible refine UR ?_ | with_reducible refine UQ ?_ | with_reducible refine wAddT ?_ | with_reducible refine wAddT0 ?_ | with_reducible refine V8 ?_ | with_reducible refine Uh ?_
 | with_reducible refine wSl ?_ | with_reducible refine wNo ?_ | with_reducible refine Vb ?_ | with_reducible refine V6 ?_ | with_reducible refine wSlL ?_ | with_reducible refine WA ?_ | with_reducible refine WB ?_ | with_reducible refine wSlT ?_
 | with_reducible refine Wj ?_ | with_reducible refine Wk ?_ | with_reducible refine wItT ?_ | with_reducible refine wItR ?_ | with_reducible refine Wl ?_ | with_reducible refine Ve ?_ | with_reducible refine wRng2 ?_ | ((with_reducible refine Eb ?wv ?_);(case wv=>decide)) | ((with_reducible refine wRg2 ?wv ?_);(case wv=>decide))
 | with_reducible refine Gb ?_ | with_reducible refine Sm ?_ | with_reducible refine P0 ?_ | ((with_reducible refine wUnL ?wv ?_);(case wv=>exact rfl)) | ((with_reducible refine WD ?wv ?_);(case wv=>exact rfl)) | with_reducible refine UT ?_ | with_reducible refine GG ?_ | with_reducible refine wDic ?_ | with_reducible refine Ww ?_ | with_reducible refine DJ ?_ | with_reducible refine UV ?_
 | ((with_reducible refine' Va ?wv ?_);(case wv=>exact rfl)) | ((with_reducible refine' V5 ?wv ?_);(case wv=>exact rfl)) | with_reducible refine wStD ?_)
local macro_rules | `(tactic| walk_at "w")=>`(tactic| repeat (walk_at "w1"))
structure DeckAt (k c:Nat) (S:List Ob):Prop where
 ne:k≠c
 at_:∃(cells:List Int) (par pos:Int),S[k]?=some (.lst [.obj c,.int par,.int pos])∧S[c]?=some (.lst (cells.map .int))∧cells≠[]∧0≤pos
def W0 (k c:Nat) (S S':List Ob):Prop:=S'.length=S.length∧∀j:Nat,j≠k→j≠c→S'[j]?=S[j]?
theorem IB {n:Nat} {i:Int} (h0:0≤i) (h1:i < n):ixN n i=some i.toNat:=by simp [ixN,h0,h1]
theorem Q3 {S:List Ob} {k:Nat} {o o':Ob} (h:S[k]?=some o):(S.set k o')[k]?=some o':=by
 obtain ⟨hl,_⟩:=List.getElem?_eq_some_iff.mp h
 exact List.getElem?_set_self hl
inductive Sh where
 | nothing | number (lo hi:Int) | text (m:Int) | list (s:Sh) (m:Int) | pair (s r:Sh) | choice (ss:List Sh)
mutual
def Sh.d:Sh→D
 | .nothing=>.tup [.str "nothing"]
 | .number lo hi=>.tup [.str "number",.int lo,.int hi]
 | .text m=>.tup [.str "text",.int m]
 | .list s m=>.tup [.str "list",s.d,.int m]
 | .pair s r=>.tup [.str "pair",s.d,r.d]
 | .choice ss=>.tup [.str "choice",.tup (shD ss)]
def shD:List Sh→List D
 | []=>[]
 | s :: r=>s.d :: shD r
end
mutual
def Sh.depth:Sh→Nat
 | .nothing=>1
 | .number _ _=>1
 | .text _=>1
 | .list s _=>s.depth + 1
 | .pair s r=>max s.depth r.depth + 1
 | .choice ss=>Dj ss + 1
def Dj:List Sh→Nat
 | []=>0
 | s :: r=>max s.depth (Dj r)
end
theorem Ea:∀ss:List Sh,(shD ss).length=ss.length
 | []=>rfl
 | s :: r=>by simp [shD,Ea r]
theorem Jb:∀(ss:List Sh) (k:Nat),(shD ss)[k]?=(ss[k]?).map Sh.d
 | [],k=>by simp [shD]
 | s :: r,0=>by simp [shD]
 | s :: r,k + 1=>by simp [shD,Jb r k]
theorem Es:∀(ss:List Sh) (k:Nat) (s:Sh),ss[k]?=some s→s.depth≤Dj ss
 | [],k,s,h=>by simp at h
 | s :: r,0,s',h=>by simp at h;subst h;simp [Dj];lia
 | s :: r,k + 1,s',h=>by
   have:=Es r k s' (by simpa using h)
   simp [Dj];lia
theorem Sh.depth_pos (s:Sh):1≤s.depth:=by cases s <;> simp [Sh.depth]
def Dk (n:Nat):Bool:=decide (32≤n) && decide (n≤126) && decide (n≠37)
def IA:Str→Bool:=fun o=>o == ("of" : Str)
mutual
def Ap:Sh→D→Bool
 | .nothing,d=>GO d
 | .number lo hi,d=>match d with
   | .int i=>decide (lo≤i) && decide (i≤hi)
   | _=>false
 | .text m,d=>match d with
   | .str x=>decide ((x.length:Int)≤m) && x.cps.toList.all Dk
   | _=>false
 | .list s m,d=>match d with
   | .lst ds=>decide ((ds.length:Int)≤m) && ds.all fun e=>Ap s e
   | _=>false
 | .pair s r,d=>match d with
   | .tup [a,b]=>Ap s a && Ap r b
   | _=>false
 | .choice ss,d=>match d with
   | .tup [.str o,.int k,x]=>IA o && (decide (0≤k) && decide (k < ss.length)) && HC ss k.toNat x
   | _=>false
def HC:List Sh→Nat→D→Bool
 | [],_,_=>false
 | s :: _,0,d=>Ap s d
 | _ :: r,k + 1,d=>HC r k d
end
theorem Da:∀(ss:List Sh) (k:Nat) (s:Sh) (d:D),ss[k]?=some s→HC ss k d=Ap s d
 | [],k,s,d,h=>by simp at h
 | s :: r,0,s',d,h=>by simp at h;subst h;simp [HC]
 | s :: r,k + 1,s',d,h=>by rw [HC];exact Da r k s' d (by simpa using h)
mutual
def okD:D→Bool
 | .str x=>decide (x.length≤90000)
 | .tup xs=>oks xs
 | .lst xs=>oks xs
 | .obj _=>false
 | .scr _=>false
 | .exc _ _=>false
 | .ty _=>false
 | _=>true
def oks:List D→Bool
 | []=>true
 | d :: r=>okD d && oks r
end
abbrev Pure1 (f:Fn) (ds:List D) (r:D):Prop:=∀S,Wf f ds S fun v S'=>v=r∧S'=S
theorem Pure1.use {f:Fn} {ds:List D} {r:D} (h:Pure1 f ds r) {S:List Ob} {P:D→List Ob→Prop} (p:P r S):Wf f ds S P:=(h S).mono fun _ _ ⟨e1,e2⟩=>by subst e1 e2;exact p
def SW:D→Bool
 | .int _=>true
 | _=>false
def DP (lo hi:Int):D→Bool
 | .int i=>decide (lo≤i) && decide (i≤hi)
 | _=>false
def Kn (f:Fn):Prop:=∀n:Nat,Pure1 f [.int n] (.bl (Dk n))
theorem MT:Kn (fnOf 1 1 Fc):=by
 intro n S
 refine A7 rfl ?_
 unfold Fc
 walk_at "w"
 have c1:decide ((32:Int)≤n)=decide (32≤n):=decide_eq_decide.mpr (by lia)
 have c2:decide ((n:Int)≤126)=decide (n≤126):=decide_eq_decide.mpr (by lia)
 have c3:(!((n:Int) == 37))=decide (n≠37):=by
  by_cases h:n=37
  ·subst h;rfl
  ·have:¬((n:Int)=37):=by lia
   simp [h,this]
 rw [c1]
 refine Ct (fun e=>?_) fun e=>?_
 ·walk_at "w"
  rw [c2]
  refine Ct (fun e'=>?_) fun e'=>?_
  ·walk_at "w"
   exact ⟨by simp only [Dk,e,e',c3,Bool.true_and],rfl⟩
  ·exact ⟨by simp only [Dk,e,e',Bool.false_and,Bool.and_false],rfl⟩
 ·walk_at "w"
  exact ⟨by simp only [Dk,e,Bool.false_and],rfl⟩
theorem KP (s:String):(Str.ofString s).length=s.toList.length:=by
 show (Str.ofString s).cps.size=_
 rw [Str.ofString_eq_toList];simp
theorem DY {i:Int} (h1 : -1000000000000000000000000000000000000000000 < i) (h2:i < 1000000000000000000000000000000000000000000):i.natAbs.log2 < 1920:=by
 by_cases h:i.natAbs=0
 ·rw [h];decide
 ·rw [Nat.log2_lt h]
  have h3:i.natAbs < 1000000000000000000000000000000000000000000:=by lia
  have h4:(1000000000000000000000000000000000000000000:Nat)≤2 ^ 150:=by decide
  have h5:(2:Nat) ^ 150≤2 ^ 1920:=Nat.pow_le_pow_right (by decide) (by decide)
  exact Nat.lt_of_lt_of_le h3 (Nat.le_trans h4 h5)
theorem Jr (x:Array Nat):∀(n:Nat) (acc:Array Nat),((List.replicate n x).foldl (·++·) acc).toList=acc.toList++(List.replicate n x.toList).flatten
 | 0,acc=>by simp
 | n + 1,acc=>by
   rw [List.replicate_succ,List.foldl_cons,Jr x n,List.replicate_succ,List.flatten_cons]
   simp
theorem Jt {x:Str} {k:Int}:(Txt.mul x k).cps.toList=(List.replicate k.toNat x.cps.toList).flatten:=by
 unfold Txt.mul
 split
 ·have:k.toNat=0:=by lia
  rw [this];rfl
 ·split
  ·next h=>
   rw [Bool.or_eq_true] at h
   rcases h with h | h
   ·have:k=1:=by simpa using h
    subst this;simp
   ·have:x.cps.toList=[]:=by
     have h':x.length=0:=by simpa using h
     exact List.eq_nil_of_length_eq_zero (by simpa [Str.length] using h')
    rw [this];simp
  ·have:=Jr x.cps k.toNat #[]
   simpa using this
theorem B1 (x:Str):x.length=x.cps.toList.length:=by simp [Str.length]
theorem Jh (x y:Str):(x++y).cps.toList=x.cps.toList++y.cps.toList:=by
 show (x.cps++y.cps).toList=_
 simp
theorem E7 {f:D→D} {fr:List (Option Sl)} {S:List Ob} {elt:M D} {ds:List D} {z:Option Sl} (h:∀d∈ds,W elt ⟨some (.val d) :: fr,S⟩ fun x t'=>x=f d∧t'=⟨some (.val d) :: fr,S⟩) :
 W (Cc (BP 0) DI elt ds) ⟨z :: fr,S⟩ fun xs t'=>xs=ds.map f∧t'.S=S:=by
 refine (DR (P:=fun xs t'=>xs=ds.map f∧t'.S=S) (fun acc r t=>acc++r.map f=ds.map f∧∃z,t=⟨z :: fr,S⟩) ds [] _ ⟨rfl,z,rfl⟩ ?_ ?_).mono fun xs t' h=>h
 ·rintro acc d r t ⟨h1,z,rfl⟩ hm
  refine Gb (GG ?_)
  rw [if_pos rfl]
  refine (h d hm).mono fun x t' ⟨e1,e2⟩=>?_
  subst e1 e2
  exact ⟨by rw [List.append_assoc];exact h1,_,rfl⟩
 ·rintro acc t ⟨h1,z,rfl⟩
  exact ⟨by simpa using h1,rfl⟩
mutual
def sz:D→Nat
 | .tup xs=>szs xs + 1
 | .lst xs=>szs xs + 1
 | _=>1
def szs:List D→Nat
 | []=>0
 | d :: r=>sz d + szs r
end
mutual
def wf:Sh→Bool
 | .nothing=>true
 | .number lo hi=>decide (-1000000000000000000 < lo) && decide (lo≤hi) && decide (hi < 1000000000000000000)
 | .text m=>decide (0≤m) && decide (m≤250)
 | .list s m=>decide (0≤m) && decide (m≤250) && wf s
 | .pair s r=>wf s && wf r
 | .choice ss=>decide (1≤ss.length) && decide (ss.length≤9) && wfs ss
def wfs:List Sh→Bool
 | []=>true
 | s :: r=>wf s && wfs r
end
mutual
def cnt:Sh→Nat
 | .list s _=>cnt s + 1
 | .pair s r=>cnt s + cnt r + 1
 | .choice ss=>Io ss + 1
 | _=>1
def Io:List Sh→Nat
 | []=>0
 | s :: r=>cnt s + Io r
end
theorem Dm:∀{ss:List Sh},wfs ss=true→∀s∈ss,wf s=true
 | x :: r,h,s,m=>by
   rw [wfs,Bool.and_eq_true] at h
   rcases List.mem_cons.mp m with z | z
   ·subst z;exact h.1
   ·exact Dm h.2 s z
theorem OE:∀{ss:List Sh},(∀s∈ss,wf s=true)→wfs ss=true
 | [],_=>rfl
 | x :: r,h=>by rw [wfs,h x List.mem_cons_self,OE fun s m=>h s (List.mem_cons_of_mem _ m)];rfl
theorem Lf:∀ss:List Sh,shD ss=ss.map Sh.d
 | []=>rfl
 | s :: r=>by rw [shD,Lf r];rfl
theorem DN:∀{ss:List Sh} {s:Sh},s∈ss→s.depth≤Dj ss
 | x :: r,s,m=>by
   rw [Dj]
   rcases List.mem_cons.mp m with z | z
   ·subst z;lia
   ·have:=DN z;lia
theorem FY {xs:List D} {i:Int} (h0:0≤i) (h1:i < xs.length) {p:D→Prop} (h:∀d∈xs,p d):∃d,atI xs i=some d∧p d:=by
 obtain ⟨d,e,m,_⟩:=QH h0 h1
 exact ⟨d,e,h d m⟩
def P7 (k c l:Nat) (S S':List Ob):Prop:=S'.length=S.length∧∀j:Nat,j≠k→j≠c→j≠l→S'[j]?=S[j]?
def Na (deep:Int):Int:=if deep < 2 then 0 else 2 * deep + 4
def bd (deep x:Int):Int:=if deep < 2 then 1 else max x 1 + Na deep - (if deep + 1≤x then 1 else 0)
def tb (deep y i:Int):Int:=if deep=2 then i else if i=0 then 0 else y + Na (deep - 1) + i - 1 - (if deep≤y then 1 else 0)
structure ShapeRes (k c l:Nat) (S:List Ob) (deep x:Int) (s:Sh) (S':List Ob):Prop where
 w:wf s=true
 dep:(s.depth:Int)≤max deep 1
 lft:S'[l]?=some (.lst [.int (x - cnt s)])
 one:x≤1→cnt s=1
 few:(cnt s:Int)≤max x 1 + Na deep
 deck:DeckAt k c S'
 kp:P7 k c l S S'
 few2:(cnt s:Int)≤bd deep x
structure Sep (ks:List (Nat×Nat)):Prop where
 sep:∀p∈ks,∀q∈ks,p=q∨(q.1≠p.1∧q.1≠p.2∧q.2≠p.1∧q.2≠p.2)
mutual
def dpt:D→Nat
 | .lst ds=>OU ds + 1
 | .tup ds=>OU ds + 1
 | _=>1
def OU:List D→Nat
 | []=>0
 | d :: r=>max (dpt d) (OU r)
end
mutual
def smD:D→Bool
 | .str x=>decide (x.length≤300)
 | .int i=>decide (-1000000000000000000000000 < i) && decide (i < 1000000000000000000000000)
 | .tup xs=>decide (xs.length≤300) && sms xs
 | .lst xs=>decide (xs.length≤300) && sms xs
 | .obj _=>false
 | .scr _=>false
 | .ty _=>false
 | .exc _ _=>false
 | _=>true
def sms:List D→Bool
 | []=>true
 | d :: r=>smD d && sms r
end
theorem Sk {d:D} {g:Bool→Bool} {t:T} {P:D→T→Prop} (h0:KN d=false) (h:eqN EQD d d=some true) (p:P (.bl (g true)) t):W (eqS g d d) t P:=⟨_,_,by simp [eqS,h0,h],p⟩
theorem U0 {f:M D} {g:M (List D)} {t:T} {P:D→T→Prop} (h:W f t fun o t1=>W g t1 fun as t2=>∃z ds ys,o = .str z∧as=[.lst ds]∧E5 ds=some ys∧(z.length≤8∧ys.length≤1048576)∧P (.str (Txt.join z ys)) t2):W (joinM f g) t P:=by
 refine DJ (h.mono fun o t1 h1=>DJ (h1.mono fun as t2 h2=>?_))
 obtain ⟨z,ds,ys,rfl,rfl,e,hl,p⟩:=h2
 refine ⟨_,_,?_,p⟩
 simp only [e]
 rw [if_pos hl]
theorem GD:∀ns:List Nat,E5 (ns.map fun n=>D.str ⟨#[n]⟩)=some (ns.map fun n=>(⟨#[n]⟩:Str))
 | []=>rfl
 | n :: r=>by
   rw [List.map_cons,E5,if_pos (Nat.le_of_ble_eq_true rfl),GD r]
   rfl
theorem HF:∀(ns:List Nat) (acc:Array Nat),((ns.map fun n=>(⟨#[n]⟩:Str)).foldl (fun acc p=>acc++(Str.ofString "").cps++p.cps) acc).toList=acc.toList++ns
 | [],acc=>by simp
 | n :: r,acc=>by
   have e:(Str.ofString "").cps=#[]:=by decide +kernel
   rw [List.map_cons,List.foldl_cons,HF r,e]
   simp
theorem HJ (ns:List Nat):(Txt.join (Str.ofString "") (ns.map fun n=>(⟨#[n]⟩:Str))).cps.toList=ns:=by
 show (List.foldl (fun (acc:Array Nat) (p:Str)=>acc++(Str.ofString "").cps++p.cps) (((ns.map fun n=>(⟨#[n]⟩:Str)).headD Str.empty).cps) ((ns.map fun n=>(⟨#[n]⟩:Str)).drop 1)).toList=ns
 cases ns with
 | nil=>rfl
 | cons n r=>
   rw [List.map_cons,List.drop_one,List.tail_cons,HF]
   rfl
structure ValueRes (k c l:Nat) (S:List Ob) (s:Sh) (r:D) (S':List Ob):Prop where
 fit:Ap s r=true
 lft:∃a b:Int,S'[l]?=some (.lst [.int a,.int b])
 deck:DeckAt k c S'
 kp:P7 k c l S S'
theorem Kb {n:Nat} {x:Str} {kvs:List (Key×D)} {d:D} {t:T} {P:D→T→Prop} (e:t.S[n]?=some (.dct kvs)) (e2:Cq kvs (.inr x)=some d) (h:P d t):W (Fa (.obj n) (.str x)) t P:=
 ⟨d,t,by simp only [Fa,e,e2];rfl,h⟩
theorem Lz {f g:M D} {d:D} {t:T} {U:Unit→T→Prop} (h:W f t fun o t1=>W g t1 fun i t2=>W (FG o i d) t2 U):W (H9 f g d) t U:=DJ (h.mono fun o t1 h1=>DJ h1)
theorem Hs {n:Nat} {x:Str} {d:D} {kvs:List (Key×D)} {t:T} {U:Unit→T→Prop} (e:t.S[n]?=some (.dct kvs)) (hl:kvs.length < LIM) (h:U () ⟨t.env,t.S.set n (.dct (Cl kvs (.inr x) d))⟩):W (FG (.obj n) (.str x) d) t U:=
 ⟨(),_,by simp only [FG,e,if_pos hl],h⟩
theorem UU {l:List (Str×M D)} {t:T} {P:D→T→Prop} (h:W (Ds l) ⟨t.env,t.S++[.dct []]⟩ fun ps t1=>t1.S[t.S.length]?=some (.dct [])∧ps.length≤15∧P (.obj t.S.length) ⟨t1.env,t1.S.set t.S.length (.dct (Fv ps))⟩):W (J5 l) t P:=by
 obtain ⟨ps,t1,e1,e2,e3,p⟩:=h
 refine ⟨_,_,?_,p⟩
 unfold J5 bnd
 simp only [e1]
 unfold Ir
 simp only [e2,if_pos e3]
theorem OD {t:T} {Q:List (Key×D)→T→Prop} (h:Q [] t):W (Ds []) t Q:=⟨_,_,rfl,h⟩
theorem Ga {k:Str} {f:M D} {r:List (Str×M D)} {t:T} {Q:List (Key×D)→T→Prop} (h:W f t fun d t1=>W (Ds r) t1 fun ps t2=>Q ((.inr k,d) :: ps) t2):W (Ds ((k,f) :: r)) t Q:=
 DJ (h.mono fun d t1 h1=>DJ (h1.mono fun ps t2 h2=>⟨_,_,rfl,h2⟩))
structure St where
 rest:Int
 mixed:Bool
 turn:Int
def St.ob (s:St):Ob:=.dct [(.inr (Str.ofString "rest"),.int s.rest),(.inr (Str.ofString "mixed"),.bl s.mixed),(.inr (Str.ofString "turn"),.int s.turn)]
def take (s:St) (m:Int):Int×St:=
 if s.mixed=false then (s.rest % m,⟨s.rest / m,s.mixed,s.turn⟩)
 else
  let stir:=(s.rest % 2147483579 + 70001 * (s.turn + 1)) % 2147483579
  let rest:=(stir * stir % 2147483563 * 50021 + 7) % 2147483579
  (rest / 5 % m,⟨rest,s.mixed,s.turn + 1⟩)
theorem BW (a:Int) (n:Nat):(CJ a n).length=n:=by simp [CJ]
inductive GS where
 | fin
 | st (side:Str) (ws:List (Str×Sh×Int))
def wdD (w:Str×Sh×Int):D:=.tup [.str w.1,w.2.1.d,.int w.2.2]
def GS.d:GS→D
 | .fin=>.tup [.str (Str.ofString "end")]
 | .st side ws=>.tup [.str side,.lst (ws.map wdD)]
structure WOk (n:Int) (w:Str×Sh×Int):Prop where
 ok:wf w.2.1=true
 dep:w.2.1.depth≤3
 lo:0≤w.2.2
 hi:w.2.2 < n
 nm:w.1.length≤90000
inductive GSOk (n:Int):GS→Prop
 | fin:GSOk n .fin
 | st {side:Str} {ws:List (Str×Sh×Int)}:(side=Str.ofString "left"∨side=Str.ofString "right")→0 < ws.length→ws.length≤9→(ws.map (·.1)).Nodup→(∀w∈ws,WOk n w)→GSOk n (.st side ws)
structure GOk (g:List GS):Prop where
 ne:0 < g.length
 le:g.length≤30
 all:∀x∈g,GSOk g.length x
def GS.words:GS→D
 | .fin=>.tup []
 | .st _ ws=>.lst (ws.map wdD)
def GS.ws:GS→List (Str×Sh×Int)
 | .fin=>[]
 | .st _ ws=>ws
def GS.side:GS→Str
 | .fin=>Str.ofString "end"
 | .st s _=>s
def SU (g:List GS) (q:Nat):GS:=g.getD q .fin
def WE (g:List GS) (q p:Nat):Str×Sh×Int:=(SU g q).ws.getD p (Str.ofString "",.nothing,0)
structure MvOk (g:List GS) (q:Nat) (p:Nat) (v:D):Prop where
 lt:q < g.length
 pl:p < (SU g q).ws.length
 fit:Ap (WE g q p).2.1 v=true
theorem EL {f:M Bool} {b:M Out} {P:Out→T→Prop} (I:Nat→T→Prop) (turn:∀n t,I n t→W f t fun k t1=>match k with
 | true=>∃m,n=m + 1∧W b t1 fun o t2=>match o with
   | .next=>I m t2
   | .cont=>I m t2
   | .brk=>P .next t2
   | .ret x=>P (.ret x) t2
 | false=>P .next t1):∀(fuel n:Nat) (t:T),n < fuel→I n t→W (CM f b fuel) t P
 | 0,n,t,h,_=>absurd h (Nat.not_lt_zero _)
 | fuel + 1,n,t,h,i=>by
   obtain ⟨k,t1,e1,p⟩:=turn n t i
   cases k with
   | false=>exact ⟨_,_,by simp only [CM,e1],p⟩
   | true=>
     obtain ⟨m,rfl,o,t2,e2,p⟩:=p
     cases o with
     | next=>obtain ⟨o,t',e',p⟩:=EL I turn fuel m t2 (by lia) p;exact ⟨o,t',by simp only [CM,e1,e2];exact e',p⟩
     | cont=>obtain ⟨o,t',e',p⟩:=EL I turn fuel m t2 (by lia) p;exact ⟨o,t',by simp only [CM,e1,e2];exact e',p⟩
     | brk=>exact ⟨_,_,by simp only [CM,e1,e2],p⟩
     | ret x=>exact ⟨_,_,by simp only [CM,e1,e2],p⟩
def wid (n:Nat):Nat:=if n=0 then 0 else n.log2 / 8 + 1
theorem NX {n:Nat} (h:2≤n):n.log2=(n / 2).log2 + 1:=by rw [Nat.log2_def,if_pos h]
theorem O8 {n:Nat} (h:n < 2):n.log2=0:=by rw [Nat.log2_def,if_neg (by lia)]
theorem KR:∀(k:Nat) {n:Nat},2 ^ k≤n→n.log2=(n / 2 ^ k).log2 + k
 | 0,n,_=>by rw [Nat.pow_zero,Nat.div_one,Nat.add_zero]
 | k + 1,n,h=>by
   have h2:2 ^ k * 2≤n:=by rw [←Nat.pow_succ];exact h
   have h3:2≤n / 2 ^ k:=(Nat.le_div_iff_mul_le (Nat.pow_pos (by decide))).mpr (by rw [Nat.mul_comm];exact h2)
   rw [KR k (Nat.le_trans (Nat.le_mul_of_pos_right _ (by decide)) h2),NX h3,Nat.div_div_eq_div_mul,←Nat.pow_succ,Nat.add_assoc,Nat.add_comm 1 k]
theorem O6 {n:Nat} (h:256≤n):n.log2=(n / 256).log2 + 8:=KR 8 h
theorem O7 {n:Nat} (h:n < 256):n.log2 < 8:=by
 by_cases z:n=0
 ·subst z;rw [O8 (by lia)];lia
 ·exact (Nat.log2_lt z).mpr h
theorem P2 {n:Nat} (h:0 < n):wid n=wid (n / 256) + 1:=by
 unfold wid
 rw [if_neg (by lia)]
 by_cases z:n < 256
 ·have:=O7 z
  rw [if_pos (by lia)];lia
 ·rw [if_neg (by lia),O6 (by lia)];lia
theorem OF:∀(k n:Nat),n < 256 ^ k→wid n≤k
 | 0,n,h=>by
   have:n=0:=by simpa using h
   subst this;decide
 | k + 1,n,h=>by
   by_cases z:n=0
   ·subst z;exact Nat.zero_le _
   ·rw [P2 (by lia)]
    have:=OF k (n / 256) (Nat.div_lt_of_lt_mul (by rw [Nat.pow_succ] at h;lia))
    lia
def nb:Nat→Nat→List D
 | 0,_=>[]
 | w + 1,n=>nb w (n / 256)++[.int ((n % 256:Nat):Int)]
mutual
def Kr:Sh→D→List D
 | .nothing,_=>[]
 | .number lo hi,d=>match d with
   | .int i=>nb (wid (hi - lo).toNat) (i - lo).toNat
   | _=>[]
 | .text _,d=>match d with
   | .str x=>.int (x.length:Nat) :: x.cps.toList.map fun n=>D.int (n:Nat)
   | _=>[]
 | .list s _,d=>match d with
   | .lst ds=>.int (ds.length:Nat) :: (ds.map fun d=>Kr s d).flatten
   | _=>[]
 | .pair s r,d=>match d with
   | .tup [a,b]=>Kr s a++Kr r b
   | _=>[]
 | .choice ss,d=>match d with
   | .tup [_,.int k,x]=>.int k :: Qb ss k.toNat x
   | _=>[]
def Qb:List Sh→Nat→D→List D
 | [],_,_=>[]
 | s :: _,0,d=>Kr s d
 | _ :: r,k + 1,d=>Qb r k d
end
abbrev kR:Key:=.inr (Str.ofString "rest")
abbrev kM:Key:=.inr (Str.ofString "mixed")
abbrev kC:Key:=.inr (Str.ofString "count")
theorem kRM:¬kR=kM:=by intro h;injection h with h;rw [EZ] at h;exact absurd h (by decide)
theorem kRC:¬kR=kC:=by intro h;injection h with h;rw [EZ] at h;exact absurd h (by decide)
theorem kMC:¬kM=kC:=by intro h;injection h with h;rw [EZ] at h;exact absurd h (by decide)
theorem kMR:¬kM=kR:=fun h=>kRM h.symm
theorem kCR:¬kC=kR:=fun h=>kRC h.symm
abbrev B7 (a b c:D):List (Key×D):=[(kR,a),(kM,b),(kC,c)]
theorem Rz {a b c:D}:Cq (B7 a b c) kR=some a:=by simp [Cq,List.find?_cons]
theorem Pp {a b c:D}:Cq (B7 a b c) kM=some b:=by
 unfold Cq B7;rw [List.find?_cons,show decide (kR=kM)=false from decide_eq_false kRM];simp [List.find?_cons]
theorem K4 {a b c:D}:Cq (B7 a b c) kC=some c:=by
 unfold Cq B7
 rw [List.find?_cons,show decide (kR=kC)=false from decide_eq_false kRC]
 dsimp only
 rw [List.find?_cons,show decide (kM=kC)=false from decide_eq_false kMC]
 simp [List.find?_cons]
theorem Ml {a b c d:D}:Cl (B7 a b c) kR d=B7 d b c:=by
 unfold Cl B7
 rw [if_pos (by simp)]
 simp only [List.map_cons,List.map_nil,if_true,if_neg kMR,if_neg kCR]
theorem Pu {a b c d:D}:Cl (B7 a b c) kC d=B7 a b d:=by
 unfold Cl B7
 rw [if_pos (by simp)]
 simp only [List.map_cons,List.map_nil,if_true,if_neg kRC,if_neg kMC]
theorem Po {a b c:D}:Fv (B7 a b c)=B7 a b c:=by
 unfold Fv
 simp only [List.foldl_cons,List.foldl_nil]
 have e1:Cl [] kR a=[(kR,a)]:=by simp [Cl]
 rw [e1]
 have e2:Cl [(kR,a)] kM b=[(kR,a),(kM,b)]:=by
  unfold Cl
  rw [if_neg (by simp only [List.any_cons,List.any_nil,Bool.or_false,decide_eq_true_eq];exact kRM)];rfl
 rw [e2]
 unfold Cl
 rw [if_neg (by
  simp only [List.any_cons,List.any_nil,Bool.or_false,Bool.or_eq_true,decide_eq_true_eq]
  intro h
  rcases h with h | h
  ·exact kRC h
  ·exact kMC h)]
 rfl
def Room (k r:Nat) (S:List Ob):Prop:=∃(a c:Int) (b:Bool),S[k]?=some (.dct (B7 (.int a) (.bl b) (.int c)))∧0≤c∧c + r≤1000000000000000000000000000000
theorem Room.mono {k r r':Nat} {S:List Ob} (h:Room k r S) (e:r'≤r):Room k r' S:=by
 obtain ⟨a,c,b,h1,h2,h3⟩:=h
 exact ⟨a,c,b,h1,h2,by lia⟩
theorem Room.loop {k r q m:Nat} {S:List Ob} (h:Room k (r + q * (m + 1)) S):Room k (r + q * m + q) S:=by rw [Nat.mul_succ,←Nat.add_assoc] at h;exact h
theorem Ng {i j:Int} {t:T} {P:D→T→Prop} (h1:i.natAbs < 2 ^ 512) (h2:j.natAbs < 2 ^ 512) (h:P (.int (i * j)) t):W (IE (.int i) (.int j)) t P:=
 ⟨_,_,by simp only [IE,i2C,KU,decide_eq_true h1,decide_eq_true h2];rfl,h⟩
theorem Qz {i j:Int} {t:T} {P:D→T→Prop} (h1:0 < j) (h2:j < 18446744073709551616) (h:P (.int (i / j)) t):W (HB (.int i) (.int j)) t P:=
 ⟨_,_,by simp only [HB,i2C,KF,decide_eq_true h1,decide_eq_true h2];rfl,h⟩
theorem HN {i:Int} (h0:0≤i) (h:i < 10000000000000000000000000000000000000000000000000000000000000000000000000000000):i.natAbs < 2 ^ 512:=by
 have:(10000000000000000000000000000000000000000000000000000000000000000000000000000000:Nat)≤2 ^ 512:=by decide
 lia
theorem FZ {k:Nat} {S:List Ob} {o o':Ob} (h:S[k]?=some o):(S.set k o')[k]?=some o':=Q3 h
theorem L5 {S:List Ob} {x:Ob}:(S++[x])[S.length]?=some x:=by simp
def cs:Nat→Nat
 | 0=>10
 | d + 1=>10 + 3 * cs d
theorem CL {n m:Nat} (h:n≤m) (hm:m≤1000:=by decide):B5 (n:Int)=true:=F5 (by lia) (by lia)
theorem Hd {α:Type} {l:List α} {x:α} {m n:Nat} (h:l.length + (m + 1)=n):(l++[x]).length + m=n:=by rw [List.length_append,←h];simp only [List.length_cons,List.length_nil];lia
theorem Mf {α:Type} {l:List α} {x:α} {p:α→Prop} (h:∀y∈l,p y) (hx:p x):∀y∈l++[x],p y:=fun y hy=>by
 rcases List.mem_append.mp hy with h' | h'
 ·exact h y h'
 ·rw [List.mem_singleton] at h';subst h';exact hx
theorem KQ {a n:Nat} (h:a≤n) (hn:n≤100000:=by decide):a≤LIM:=Nat.le_trans h hn
theorem VB {ss:List Sh} {n:Nat} (h:∀x∈ss,x.depth≤n):(Sh.choice ss).depth≤n + 1:=by
 rw [Sh.depth]
 refine Nat.succ_le_succ ?_
 induction ss with
 | nil=>rw [Dj];exact Nat.zero_le _
 | cons x r ih=>rw [Dj];exact Nat.max_le.mpr ⟨h x List.mem_cons_self,ih fun y m=>h y (List.mem_cons_of_mem _ m)⟩
structure Drawn (k r:Nat) (dp:Nat) (v:D) (S':List Ob):Prop where
 ex:∃s:Sh,v=s.d∧s.depth≤dp∧wf s=true
 pool:Room k r S'
theorem VD {s:Sh} {q:Int} {m:Nat} (h:(Sh.list s q).depth≤m + 1):s.depth≤m:=by rw [Sh.depth] at h;exact Nat.le_of_succ_le_succ h
theorem SI {a b:Sh} {m:Nat} (h:(Sh.pair a b).depth≤m + 1):a.depth≤m∧b.depth≤m:=by rw [Sh.depth] at h;lia
theorem VC {ss:List Sh} {m:Nat} (h:(Sh.choice ss).depth≤m + 1):∀x∈ss,x.depth≤m:=fun x hx=>by rw [Sh.depth] at h;exact Nat.le_trans (DN hx) (Nat.le_of_succ_le_succ h)
theorem Qr {ss:List Sh} {k:Nat} (h:k < ss.length):atI (shD ss) (k:Int)=some (ss[k]).d:=by
 unfold atI
 rw [IB (by lia) (by rw [Ea];lia)]
 show (shD ss)[(k:Int).toNat]?=_
 rw [Int.toNat_natCast,Jb,List.getElem?_eq_getElem h];rfl
theorem Te {lo hi:Int} (h:wf (.number lo hi)=true):lo≤hi∧0 < hi - lo + 1∧hi - lo + 1 < 4611686018427387904∧wid (hi - lo).toNat≤8:=by
 simp only [wf,Bool.and_eq_true,decide_eq_true_eq] at h
 refine ⟨by lia,by lia,by lia,OF 8 _ ?_⟩
 have:(256:Nat) ^ 8=18446744073709551616:=by decide
 lia
theorem Rh {lo hi g:Int} (z0:0≤g) (z1:g < hi - lo + 1):lo≤lo + g∧lo + g≤hi:=by lia
structure Val (k r:Nat) (s:Sh) (c:Nat) (v:D) (S':List Ob):Prop where
 fit:Ap s v=true
 len:(Kr s v).length≤c
 pool:Room k r S'
mutual
def plD:D→Bool
 | .lst xs=>pls xs
 | .tup xs=>pls xs
 | .obj _=>false
 | .scr _=>false
 | .ty _=>false
 | .exc _ _=>false
 | .dic=>false
 | _=>true
def pls:List D→Bool
 | []=>true
 | d :: r=>plD d && pls r
end
section
variable {t:T} {P:D→T→Prop} {R:Out→T→Prop}
def W8 (h:D→M Out) (R:Out→T→Prop) (o:Out) (t1:T):Prop:=match o with
 | .ret (.exc n ds)=>n∈Dn∧W (h (.exc n ds)) t1 R
 | o=>R o t1
def xK (d:D) (A B:Prop):Prop:=if Ef d=true then A else B
end
def Nl (f:Fn):Prop:=∀(ns:List Int) (k:Nat),k≤1000→∃c:Int,Pure1 f [.scr ns,.int k] (.int c)
theorem RB:Nl (fnOf 2 3 Eh):=by
 intro ns k hk
 refine ⟨(cutD ns (some (k:Int)) (some ((k:Int) + 1))).headD 0,fun S=>A7 rfl ?_⟩
 unfold Eh
 walk_at "w"
 generalize cutD ns (some (k:Int)) (some ((k:Int) + 1))=L
 refine FM (fun r t=>r=L.map D.int∧t=⟨[some (.val (.scr ns)),some (.val (.int (k:Int))),none],S⟩) _ _ ⟨rfl,rfl⟩ ?_ ?_
 ·rintro d r t ⟨hr,rfl⟩ _
  cases L with
  | nil=>cases hr
  | cons x l=>
    injection hr with h1 h2
    subst h1
    walk_at "w"
    exact ⟨rfl,rfl⟩
 ·rintro t ⟨hr,rfl⟩
  cases L with
  | nil=>walk_at "w";exact ⟨rfl,rfl⟩
  | cons x l=>cases hr
def c6:Nat→Nat
 | 0=>10
 | d + 1=>10 + c6 d * 9
theorem Uq (d:Nat):10≤c6 d:=by cases d <;> simp [c6]
mutual
def wt:Sh→D→Nat
 | .nothing,_=>1
 | .number _ _,_=>25
 | .text _,d=>match d with
   | .str x=>2 * x.length + 2
   | _=>0
 | .list s _,d=>match d with
   | .lst ds=>(ds.map fun e=>wt s e + 1).sum + 2
   | _=>0
 | .pair s r,d=>match d with
   | .tup [a,b]=>wt s a + wt r b + 3
   | _=>0
 | .choice ss,d=>match d with
   | .tup [_,.int k,x]=>wtN ss k.toNat x + 25
   | _=>0
def wtN:List Sh→Nat→D→Nat
 | [],_,_=>0
 | s :: _,0,d=>wt s d
 | _ :: r,k + 1,d=>wtN r k d
end
theorem EK:∀(ss:List Sh) (k:Nat) (s:Sh) (d:D),ss[k]?=some s→wtN ss k d=wt s d
 | [],k,s,d,h=>by simp at h
 | s :: r,0,s',d,h=>by simp at h;subst h;simp [wtN]
 | s :: r,k + 1,s',d,h=>by rw [wtN];exact EK r k s' d (by simpa using h)
def lB:Nat→Nat
 | 0=>0
 | m + 1=>25 + lB m * 3
def sgA:Str:="ab \",)]([#:-;>0'~Z"
def sgB:Str:=" !\"#$&'()*+,-./0123456789:;<=>?@ABCDEFGHIJKLMNOPQRSTUVWXYZ[\\]^_`abcdefghijklmnopqrstuvwxyz{|}~"
def SgOk (sg:Str):Prop:=sg.cps.toList.all Dk=true∧0 < sg.length∧sg.length≤100
theorem T1:SgOk sgA:=⟨by decide +kernel,by decide +kernel,by decide +kernel⟩
theorem T2:SgOk sgB:=⟨by decide +kernel,by decide +kernel,by decide +kernel⟩
theorem SgOk.at {sg:Str} (h:SgOk sg) {i:Int} (h0:0≤i) (h1:i < sg.length):∃c,atI sg.cps.toList i=some c∧Dk c=true:=by
 rw [B1] at h1
 have hi:i.toNat < sg.cps.toList.length:=by lia
 refine ⟨sg.cps.toList[i.toNat],?_,List.all_eq_true.mp h.1 _ (List.getElem_mem hi)⟩
 unfold atI
 rw [IB h0 (by lia)]
 show sg.cps.toList[i.toNat]?=_
 rw [List.getElem?_eq_getElem hi]
def Sx (f:Fn):Prop:=Pure1 f [] (.str sgB)
theorem RL:Sx (fnOf 0 0 CD):=by
 intro S
 refine A7 rfl ?_
 unfold CD
 walk_at "w"
 exact ⟨rfl,rfl⟩
def v6:Nat→Nat
 | 0=>0
 | m + 1=>20 + v6 m * 3
structure Val6 (k r:Nat) (s:Sh) (c:Nat) (v:D) (S':List Ob):Prop where
 fit:Ap s v=true
 len:wt s v≤c
 pool:Room k r S'
theorem VS {l m:Nat} (h:l≤lB m):l + 25≤lB (m + 1):=by rw [lB];lia
theorem VU {g q:Int} (h0:0≤q) (h1:0≤g) (h2:g < (if (7:Int) < q then 7 else q) + 1):∃n:Nat,g=n∧n≤7∧(n:Int)≤q:=by
 refine ⟨g.toNat,by lia,?_⟩
 split at h2 <;> lia
theorem VW {g q m:Int} (hm:m=3∨m=1) (h0:0≤q) (h1:0≤g) (h2:g < (if m < q then m else q) + 1):∃n:Nat,g=n∧n≤3∧(n:Int)≤q:=by
 refine ⟨g.toNat,by lia,?_⟩
 split at h2 <;> lia
theorem HK {b:Bool} {m1 m2:M Out} {t:T} {K:Out→T→Prop} (Pm:Out→T→Prop) (h1:b=true→F2.W m1 t Pm) (h2:b=false→F2.W m2 t Pm) (h:∀o t',Pm o t'→K o t'):Ex b (F2.W m1 t K) (F2.W m2 t K):=
 Ct (fun e=>(h1 e).mono h) fun e=>(h2 e).mono h
theorem Q9 (s:Sh):∃(x:Str) (r:List D),s.d = .tup (.str x :: r):=by cases s <;> exact ⟨_,_,by rw [Sh.d]⟩
local macro_rules | `(tactic| walk_at "x1")=>`(tactic| first
 | walk_at "w1"
 | with_reducible refine wTry ?_ | with_reducible refine wSetX ?_ | with_reducible refine wDropX ?_ | with_reducible refine wAsgX ?_ | with_reducible refine wNx ?_ | with_reducible refine wBinX ?_ | with_reducible refine wBinY ?_ | with_reducible refine wBndX ?_ | with_reducible refine wCallY ?_ | with_reducible refine tryK_next ?_
 | ((with_reducible refine' tryK_ex ?wv ?_);(case wv=>decide)) | ((with_reducible refine' xK_ok ?wv ?_);(case wv=>exact rfl)) | ((with_reducible refine' xK_ex ?wv ?_);(case wv=>exact rfl))
 | with_reducible refine wRaiseT ?_ | with_reducible refine wRaiseV ?_ | ((with_reducible refine' wHAs ?wv ?_);(case wv=>decide)) | ((with_reducible refine' wHAsN ?wv ?_);(case wv=>decide)) | ((with_reducible refine' wHNo ?wv ?_);(case wv=>decide)) | ((with_reducible refine' wHNoN ?wv ?_);(case wv=>decide))
 | ((with_reducible refine' wIsiX ?wv ?_);(case wv=>decide)) | with_reducible refine wIsiXN ?_ | ((with_reducible refine' wAttX ?wv ?wu ?_);(case wv=>decide);(case wu=>exact rfl)))
local macro_rules | `(tactic| walk_at "x")=>`(tactic| repeat (walk_at "x1"))
theorem Lx {f:M D} {g:M (List D)} {t:T} {P:D→T→Prop} (h:W f t fun o t1=>W g t1 fun as t2=>∃z ds ys,o = .str z∧as=[.lst ds]∧F7 ds=some ys∧(z.length≤16∧(ys.map (·.length)).sum + ys.length≤1048576)∧P (.str (Txt.join z ys)) t2):W (joinW f g) t P:=by
 unfold joinW
 refine DJ (h.mono fun o t1 h1=>DJ (h1.mono fun as t2 ⟨z,ds,ys,e1,e2,e3,e4,p⟩=>?_))
 subst e1 e2
 dsimp only
 rw [e3]
 dsimp only
 rw [if_pos e4]
 exact ⟨_,_,rfl,p⟩
theorem Ul {f:M D} {g:M (List D)} {t:T} {Q:List D→T→Prop} (h:W f t fun o t1=>W g t1 fun as t2=>∃z y,o = .str z∧as=[.str y]∧((y.length == 0)=false∧z.length≤100000)∧Q ((Txt.split z y).map D.str) t2):W (splitM f g) t Q:=by
 unfold splitM
 refine DJ (h.mono fun o t1 h1=>DJ (h1.mono fun as t2 ⟨z,y,e1,e2,e3,p⟩=>?_))
 subst e1 e2
 dsimp only
 rw [if_pos e3]
 exact ⟨_,_,rfl,p⟩
theorem Vd {x:Str} {t:T} {P:D→T→Prop} (hx:x.length≤100000) (p:P (.str (Txt.replace x q1 q2)) t):W (HV (.str x)) t P:=by
 unfold HV
 dsimp only
 rw [if_pos hx]
 exact ⟨_,_,rfl,p⟩
theorem Fh:∀ys:List Str,F7 (ys.map D.str)=some ys
 | []=>rfl
 | y :: r=>by rw [List.map_cons,F7,Fh r];rfl
theorem M6:(q1:Str)=⟨#[34]⟩:=by decide +kernel
theorem Qi:(q2:Str)=⟨#[34,34]⟩:=by decide +kernel
theorem UG:(Str.ofString "\"\"" : Str)=q2:=by decide +kernel
theorem Ma (c:Nat):∀l:List Nat,(StrLaws.dbl c l).length≤2 * l.length
 | []=>Nat.le_refl _
 | k :: r=>by
   have:=Ma c r
   rw [StrLaws.dbl]
   split <;> simp only [List.length_cons] <;> lia
theorem Hi (x:Str):(Txt.replace x q1 q2).length≤2 * x.length:=by
 rw [B1,B1 x,M6,Qi,StrLaws.replace_double]
 exact Ma _ _
theorem Om (x:Str):Txt.join q2 (Txt.split x q1)=Txt.replace x q1 q2:=by
 rw [M6,StrLaws.replace_one]
 exact StrLaws.glued_eq_join _ _
theorem Be (x y:Str):(x++y).length=x.length + y.length:=by rw [B1,B1,B1,Jh,List.length_append]
theorem NC {n k:Nat} (hk:0 < k) (h:n < 10 ^ k):n.repr.toList.length≤k:=by
 rw [Nat.toList_repr]
 exact (Nat.length_toDigits_le_iff (by decide) hk).mpr h
theorem FH {i:Int} (h1 : -1000000000000000000≤i) (h2:i≤1000000000000000000):(Str.ofString (toString i)).length≤20:=by
 have e:(10:Nat) ^ 19=10000000000000000000:=by decide
 rw [KP,Int.toString_eq_repr,Int.repr_eq_if]
 split
 ·have:=NC (n:=i.toNat) (k:=19) (by decide) (by lia)
  lia
 ·have:=NC (n:=(-i).toNat) (k:=19) (by decide) (by lia)
  rw [String.toList_append,List.length_append]
  simp only [show "-".toList.length=1 from rfl]
  lia
mutual
def sho:Sh→D→Str
 | .nothing,_=>"-"
 | .number _ _,d=>match d with
   | .int i=>Str.ofString (toString i)
   | _=>""
 | .text _,d=>match d with
   | .str x=>q1++Txt.replace x q1 q2++q1
   | _=>""
 | .list s _,d=>match d with
   | .lst ds=>"["++Txt.join "," (ds.map fun e=>sho s e)++"]"
   | _=>""
 | .pair s r,d=>match d with
   | .tup [a,b]=>"("++sho s a++","++sho r b++")"
   | _=>""
 | .choice ss,d=>match d with
   | .tup [_,.int k,x]=>"#"++Str.ofString (toString k)++":"++Lg ss k.toNat x
   | _=>""
def Lg:List Sh→Nat→D→Str
 | [],_,_=>""
 | s :: _,0,d=>sho s d
 | _ :: r,k + 1,d=>Lg r k d
end
theorem E3:∀(ss:List Sh) (k:Nat) (s:Sh) (d:D),ss[k]?=some s→Lg ss k d=sho s d
 | [],k,s,d,h=>by simp at h
 | s :: r,0,s',d,h=>by simp at h;subst h;simp [Lg]
 | s :: r,k + 1,s',d,h=>by rw [Lg];exact E3 r k s' d (by simpa using h)
theorem Ll {f g:D→Nat}:∀{ds:List D},(∀d∈ds,f d≤g d)→(ds.map f).sum≤(ds.map g).sum
 | [],_=>Nat.le_refl _
 | d :: r,h=>by
   rw [List.map_cons,List.map_cons,List.sum_cons,List.sum_cons]
   have:=h d List.mem_cons_self
   have:=Ll (ds:=r) fun x m=>h x (List.mem_cons_of_mem _ m)
   lia
theorem FI {f:D→Nat}:∀(ds:List D),(ds.map fun e=>f e + 1).sum=(ds.map f).sum + ds.length
 | []=>rfl
 | d :: r=>by
   rw [List.map_cons,List.map_cons,List.sum_cons,List.sum_cons,List.length_cons,FI r]
   lia
theorem KO {f:D→Nat}:∀{ds:List D},∀d∈ds,f d≤(ds.map f).sum
 | x :: r,d,m=>by
   rw [List.map_cons,List.sum_cons]
   rcases List.mem_cons.mp m with rfl | m
   ·lia
   ·have:=KO (f:=f) d m
    lia
theorem Gv {ys:List Str}:(Txt.join (Str.ofString ",") ys).length≤(ys.map (·.length)).sum + ys.length:=by
 show (Builtin.Str.glued _ _).length≤_
 rw [size_glued,show (Str.ofString ",").length=1 by decide +kernel]
 lia
theorem B4:∀(n:Nat) (s:Sh),s.depth≤n→wf s=true→∀d,Ap s d=true→(sho s d).length≤wt s d
 | 0,s,h,_,_,_=>absurd s.depth_pos (by lia)
 | n + 1,s,hs,hw,d,hf=>by
   have l1:(Str.ofString "(").length=1:=by decide +kernel
   have l2:(Str.ofString ")").length=1:=by decide +kernel
   have l3:(Str.ofString ",").length=1:=by decide +kernel
   have l4:(Str.ofString "[").length=1:=by decide +kernel
   have l5:(Str.ofString "]").length=1:=by decide +kernel
   have l6:(Str.ofString "#").length=1:=by decide +kernel
   have l7:(Str.ofString ":").length=1:=by decide +kernel
   have l8:q1.length=1:=by decide +kernel
   cases s with
   | nothing=>rw [sho,wt];decide +kernel
   | number lo hi=>
     simp only [wf,Bool.and_eq_true,decide_eq_true_eq] at hw
     cases d <;> simp [Ap] at hf
     rename_i i
     rw [sho,wt]
     have:=FH (i:=i) (by lia) (by lia)
     lia
   | text q=>
     cases d <;> simp only [Ap,Bool.false_eq_true] at hf
     rename_i x
     rw [sho,wt,Be,Be,l8]
     have:=Hi x
     lia
   | list s q=>
     simp only [wf,Bool.and_eq_true] at hw
     rw [Sh.depth] at hs
     cases d <;> simp only [Ap,Bool.false_eq_true] at hf
     rename_i ds
     simp only [Bool.and_eq_true,List.all_eq_true] at hf
     rw [sho,wt,Be,Be,l4,l5,FI]
     have h1:=Gv (ys:=ds.map fun e=>sho s e)
     rw [List.map_map,List.length_map] at h1
     have h2:=Ll (f:=fun e=>(sho s e).length) (g:=wt s) (ds:=ds) fun d m=>B4 n s (by lia) hw.2 d (hf.2 d m)
     have h1:_≤(ds.map fun e=>(sho s e).length).sum + ds.length:=h1
     lia
   | pair s r=>
     simp only [wf,Bool.and_eq_true] at hw
     rw [Sh.depth] at hs
     unfold Ap at hf
     split at hf
     ·next a b=>
      rw [Bool.and_eq_true] at hf
      rw [sho,wt,Be,Be,Be,Be,l1,l2,l3]
      have:=B4 n s (by lia) hw.1 a hf.1
      have:=B4 n r (by lia) hw.2 b hf.2
      lia
     ·cases hf
   | choice ss=>
     simp only [wf,Bool.and_eq_true,decide_eq_true_eq] at hw
     rw [Sh.depth] at hs
     unfold Ap at hf
     split at hf
     ·next o k y=>
      simp only [Bool.and_eq_true,decide_eq_true_eq] at hf
      have hk:k.toNat < ss.length:=by lia
      have e1:ss[k.toNat]?=some ss[k.toNat]:=List.getElem?_eq_getElem hk
      have h2:=hf.2
      rw [Da ss _ _ _ e1] at h2
      rw [sho,wt,E3 ss _ _ _ e1,EK ss _ _ _ e1,Be,Be,Be,l6,l7]
      have:=B4 n _ (Nat.le_trans (Es ss _ _ e1) (by lia)) (Dm hw.2 _ (List.getElem_mem hk)) y h2
      have:=FH (i:=k) (by lia) (by lia)
      lia
     ·cases hf
def ShowOk (f:Fn) (n:Nat):Prop:=∀(s:Sh),s.depth≤n→wf s=true→∀d,Ap s d=true→wt s d≤90000→Pure1 f [d] (.str (sho s d))
theorem ShowOk.zero {f:Fn}:ShowOk f 0:=fun s h=>absurd s.depth_pos (by lia)
theorem Qs {s:Sh} {n:Nat} {ds:List D} (hs:s.depth≤n) (hw:wf s=true) (hf:∀d∈ds,Ap s d=true):((ds.map fun e=>sho s e).map (·.length)).sum + (ds.map fun e=>sho s e).length≤(ds.map fun e=>wt s e + 1).sum:=by
 rw [List.map_map,List.length_map,FI]
 have h2:=Ll (f:=fun e=>(sho s e).length) (g:=wt s) (ds:=ds) fun d m=>B4 n s hs hw d (hf d m)
 exact Nat.add_le_add_right h2 _
theorem R9 {c:Fn} {n:Nat} (hc:ShowOk c n):ShowOk (fnOf 1 1 (Di c)) (n + 1):=by
 intro s hs hw d hf hl S
 have hL:LIM=100000:=rfl
 have hsl:=B4 (n + 1) s hs hw d hf
 have l1:(Str.ofString "(").length=1:=by decide +kernel
 have l2:(Str.ofString ")").length=1:=by decide +kernel
 have l3:(Str.ofString ",").length=1:=by decide +kernel
 have l4:(Str.ofString "[").length=1:=by decide +kernel
 have l5:(Str.ofString "]").length=1:=by decide +kernel
 have l6:(Str.ofString "#").length=1:=by decide +kernel
 have l7:(Str.ofString ":").length=1:=by decide +kernel
 have l8:q1.length=1:=by decide +kernel
 have l9:(Str.ofString "\"").length=1:=l8
 refine A7 rfl ?_
 unfold Di
 cases s with
 | nothing=>
   cases d <;> simp [Ap,GO] at hf
   walk_at "w"
   exact ⟨by rw [sho],rfl⟩
 | number lo hi=>
   simp only [wf,Bool.and_eq_true,decide_eq_true_eq] at hw
   cases d <;> simp [Ap] at hf
   walk_at "w"
   refine LA (DY (by lia) (by lia)) ?_
   walk_at "w"
   exact ⟨by rw [sho],rfl⟩
 | text q=>
   cases d <;> simp only [Ap,Bool.false_eq_true] at hf
   rename_i x
   rw [wt] at hl
   have hr:=Hi x
   walk_at "w"
   refine Vd (by lia) ?_
   walk_at "w"
   refine BC (by rw [hL];lia) ?_
   walk_at "w"
   refine BC (by rw [hL,Be];lia) ?_
   walk_at "w"
   exact ⟨by rw [sho],rfl⟩
 | list s q=>
   simp only [wf,Bool.and_eq_true] at hw
   rw [Sh.depth] at hs
   cases d <;> simp only [Ap,Bool.false_eq_true] at hf
   rename_i ds
   simp only [Bool.and_eq_true,List.all_eq_true] at hf
   rw [wt] at hl
   have hls:=Qs (n:=n) (by lia) hw.2 hf.2
   have hjl:=Gv (ys:=ds.map fun e=>sho s e)
   have hdl:ds.length≤90000:=by rw [FI] at hl;lia
   walk_at "w"
   refine Lx ?_
   walk_at "w"
   refine (E7 (f:=fun e=>.str (sho s e)) (fr:=[]) ?_).mono ?_
   ·intro d m
    walk_at "w"
    refine (hc s (by lia) hw.2 d (hf.2 d m) ?_).use ⟨rfl,rfl⟩
    have:=KO (f:=fun e=>wt s e + 1) d m
    lia
   ·rintro xs t' ⟨rfl,hS⟩
    refine BC (by rw [List.length_map,hL];lia) ?_
    walk_at "w"
    refine ⟨_,_,ds.map fun e=>sho s e,rfl,rfl,by rw [←Fh,List.map_map];rfl,⟨by rw [l3];decide,by lia⟩,?_⟩
    walk_at "w"
    refine BC (by rw [hL];lia) ?_
    walk_at "w"
    refine BC (by rw [hL,Be];lia) ?_
    walk_at "w"
    exact ⟨by rw [sho],hS⟩
 | pair s r=>
   simp only [wf,Bool.and_eq_true] at hw
   rw [Sh.depth] at hs
   unfold Ap at hf
   split at hf
   ·next a b=>
    rw [Bool.and_eq_true] at hf
    rw [wt] at hl
    have h1:=B4 n s (by lia) hw.1 a hf.1
    have h2:=B4 n r (by lia) hw.2 b hf.2
    walk_at "w"
    refine (hc s (by lia) hw.1 a hf.1 (by lia)).use ?_
    walk_at "w"
    refine BC (by rw [hL];lia) ?_
    walk_at "w"
    refine BC (by rw [hL,Be];lia) ?_
    walk_at "w"
    refine (hc r (by lia) hw.2 b hf.2 (by lia)).use ?_
    walk_at "w"
    refine BC (by rw [hL,Be,Be];lia) ?_
    walk_at "w"
    refine BC (by rw [hL,Be,Be,Be];lia) ?_
    walk_at "w"
    exact ⟨by rw [sho],rfl⟩
   ·cases hf
 | choice ss=>
   simp only [wf,Bool.and_eq_true,decide_eq_true_eq] at hw
   rw [Sh.depth] at hs
   unfold Ap at hf
   split at hf
   ·next o k y=>
    simp only [Bool.and_eq_true,decide_eq_true_eq] at hf
    have hk:k.toNat < ss.length:=by lia
    have e1:ss[k.toNat]?=some ss[k.toNat]:=List.getElem?_eq_getElem hk
    have h2:=hf.2
    rw [Da ss _ _ _ e1] at h2
    rw [wt,EK ss _ _ _ e1] at hl
    have hd1:(ss[k.toNat]).depth≤n:=Nat.le_trans (Es ss _ _ e1) (by lia)
    have hw1:=Dm hw.2 _ (List.getElem_mem hk)
    have h3:=B4 n _ hd1 hw1 y h2
    have h4:=FH (i:=k) (by lia) (by lia)
    walk_at "w"
    refine LA (DY (by lia) (by lia)) ?_
    walk_at "w"
    refine BC (by rw [hL];lia) ?_
    walk_at "w"
    refine BC (by rw [hL,Be];lia) ?_
    walk_at "w"
    refine (hc _ hd1 hw1 y h2 (by lia)).use ?_
    walk_at "w"
    refine BC (by rw [hL,Be,Be];lia) ?_
    walk_at "w"
    exact ⟨by rw [sho,E3 ss _ _ _ e1],rfl⟩
   ·cases hf
theorem P4 {c:Fn} {n:Nat} (hc:ShowOk c n):ShowOk (fnOf 1 1 (DB c)) (n + 1):=by
 intro s hs hw d hf hl S
 have hL:LIM=100000:=rfl
 have hsl:=B4 (n + 1) s hs hw d hf
 have l1:(Str.ofString "(").length=1:=by decide +kernel
 have l2:(Str.ofString ")").length=1:=by decide +kernel
 have l3:(Str.ofString ",").length=1:=by decide +kernel
 have l4:(Str.ofString "[").length=1:=by decide +kernel
 have l5:(Str.ofString "]").length=1:=by decide +kernel
 have l6:(Str.ofString "#").length=1:=by decide +kernel
 have l7:(Str.ofString ":").length=1:=by decide +kernel
 have l8:q1.length=1:=by decide +kernel
 have l9:(Str.ofString "\"").length=1:=l8
 refine A7 rfl ?_
 unfold DB
 cases s with
 | nothing=>
   cases d <;> simp [Ap,GO] at hf
   walk_at "w"
   exact ⟨by rw [sho],rfl⟩
 | number lo hi=>
   simp only [wf,Bool.and_eq_true,decide_eq_true_eq] at hw
   cases d <;> simp [Ap] at hf
   walk_at "w"
   refine LA (DY (by lia) (by lia)) ?_
   walk_at "w"
   exact ⟨by rw [sho],rfl⟩
 | text q=>
   cases d <;> simp only [Ap,Bool.false_eq_true] at hf
   rename_i x
   rw [wt] at hl
   have hr:=Hi x
   have hsw:=PyProof.Rows.split_weight x q1 (by rw [l8];decide)
   walk_at "w"
   refine Lx ?_
   walk_at "w"
   refine Ul ?_
   walk_at "w"
   refine ⟨x,q1,rfl,rfl,⟨by decide +kernel,by lia⟩,?_⟩
   walk_at "w"
   refine ⟨_,_,Txt.split x q1,rfl,rfl,Fh _,⟨by decide +kernel,by lia⟩,?_⟩
   rw [UG,Om]
   walk_at "w"
   refine BC (by rw [hL];lia) ?_
   walk_at "w"
   refine BC (by rw [hL,Be];lia) ?_
   walk_at "w"
   exact ⟨by rw [sho],rfl⟩
 | list s q=>
   simp only [wf,Bool.and_eq_true] at hw
   rw [Sh.depth] at hs
   cases d <;> simp only [Ap,Bool.false_eq_true] at hf
   rename_i ds
   simp only [Bool.and_eq_true,List.all_eq_true] at hf
   rw [wt] at hl
   have hls:=Qs (n:=n) (by lia) hw.2 hf.2
   have hjl:=Gv (ys:=ds.map fun e=>sho s e)
   have hdl:ds.length≤90000:=by rw [FI] at hl;lia
   walk_at "w"
   refine Lx ?_
   walk_at "w"
   refine (E7 (f:=fun e=>.str (sho s e)) (fr:=[]) ?_).mono ?_
   ·intro d m
    walk_at "w"
    refine (hc s (by lia) hw.2 d (hf.2 d m) ?_).use ⟨rfl,rfl⟩
    have:=KO (f:=fun e=>wt s e + 1) d m
    lia
   ·rintro xs t' ⟨rfl,hS⟩
    refine BC (by rw [List.length_map,hL];lia) ?_
    walk_at "w"
    refine ⟨_,_,ds.map fun e=>sho s e,rfl,rfl,by rw [←Fh,List.map_map];rfl,⟨by rw [l3];decide,by lia⟩,?_⟩
    walk_at "w"
    refine BC (by rw [hL];lia) ?_
    walk_at "w"
    refine BC (by rw [hL,Be];lia) ?_
    walk_at "w"
    exact ⟨by rw [sho],hS⟩
 | pair s r=>
   simp only [wf,Bool.and_eq_true] at hw
   rw [Sh.depth] at hs
   unfold Ap at hf
   split at hf
   ·next a b=>
    rw [Bool.and_eq_true] at hf
    rw [wt] at hl
    have h1:=B4 n s (by lia) hw.1 a hf.1
    have h2:=B4 n r (by lia) hw.2 b hf.2
    walk_at "w"
    refine (hc s (by lia) hw.1 a hf.1 (by lia)).use ?_
    walk_at "w"
    refine BC (by rw [hL];lia) ?_
    walk_at "w"
    refine BC (by rw [hL,Be];lia) ?_
    walk_at "w"
    refine (hc r (by lia) hw.2 b hf.2 (by lia)).use ?_
    walk_at "w"
    refine BC (by rw [hL,Be,Be];lia) ?_
    walk_at "w"
    refine BC (by rw [hL,Be,Be,Be];lia) ?_
    walk_at "w"
    exact ⟨by rw [sho],rfl⟩
   ·cases hf
 | choice ss=>
   simp only [wf,Bool.and_eq_true,decide_eq_true_eq] at hw
   rw [Sh.depth] at hs
   unfold Ap at hf
   split at hf
   ·next o k y=>
    simp only [Bool.and_eq_true,decide_eq_true_eq] at hf
    have hk:k.toNat < ss.length:=by lia
    have e1:ss[k.toNat]?=some ss[k.toNat]:=List.getElem?_eq_getElem hk
    have h2:=hf.2
    rw [Da ss _ _ _ e1] at h2
    rw [wt,EK ss _ _ _ e1] at hl
    have hd1:(ss[k.toNat]).depth≤n:=Nat.le_trans (Es ss _ _ e1) (by lia)
    have hw1:=Dm hw.2 _ (List.getElem_mem hk)
    have h3:=B4 n _ hd1 hw1 y h2
    have h4:=FH (i:=k) (by lia) (by lia)
    walk_at "w"
    refine LA (DY (by lia) (by lia)) ?_
    walk_at "w"
    refine BC (by rw [hL];lia) ?_
    walk_at "w"
    refine BC (by rw [hL,Be];lia) ?_
    walk_at "w"
    refine (hc _ hd1 hw1 y h2 (by lia)).use ?_
    walk_at "w"
    refine BC (by rw [hL,Be,Be];lia) ?_
    walk_at "w"
    exact ⟨by rw [sho,E3 ss _ _ _ e1],rfl⟩
   ·cases hf
abbrev uc (x:Str):List Nat:=x.cps.toList
theorem D3 (x:Str):(uc x).length=x.length:=(B1 x).symm
structure Rst (x:Str) (p:Nat) (r:List Nat):Prop where
 le:p≤(uc x).length
 eq:(uc x).drop p=r
theorem Rst.len {x:Str} {p:Nat} {r:List Nat} (h:Rst x p r):(uc x).length=p + r.length:=by
 have:=congrArg List.length h.eq
 rw [List.length_drop] at this
 have:=h.le
 lia
theorem Rst.go {x:Str} {p:Nat} {w r:List Nat} (h:Rst x p (w++r)):Rst x (p + w.length) r:=by
 refine ⟨?_,?_⟩
 ·have:=h.len
  rw [List.length_append] at this
  lia
 ·rw [←List.drop_drop,h.eq,List.drop_left]
theorem Rst.one {x:Str} {p c:Nat} {r:List Nat} (h:Rst x p (c :: r)):Rst x (p + 1) r:=Rst.go (w:=[c]) h
theorem Rst.at {x:Str} {p c:Nat} {r:List Nat} (h:Rst x p (c :: r)):atI (uc x) (p:Int)=some c:=by
 have hl:=h.len
 rw [List.length_cons] at hl
 have e:(uc x)[p]?=some c:=by
  have e0:(uc x)[p]?=((uc x).drop p)[0]?:=by rw [List.getElem?_drop];rfl
  rw [e0,h.eq]
  rfl
 exact D6 e
theorem D2 {x y:Str} {p c:Nat} {r:List Nat} (h:Rst x p r) (e:uc y=[c]):Txt.startswith3 x y (p:Int)=(r.head? == some c):=by
 have ly:y.length=1:=by rw [←D3,e];rfl
 have f:fromIndex x.length (p:Int)=p:=by
  unfold fromIndex
  rw [if_neg (by lia)]
  lia
 have hl:=h.len
 rw [D3] at hl
 unfold Txt.startswith3
 rw [f,StrLaws.subAt_eq,ly]
 show (decide _ && (List.take 1 (List.drop p (uc x)) == uc y))=_
 rw [h.eq,e]
 cases r with
 | nil=>simp
 | cons a r=>
   rw [List.length_cons] at hl
   rw [decide_eq_true (by lia)]
   simp
theorem Mc {c:Nat} {y:Str}:inT ⟨#[c]⟩ y=decide (c∈uc y):=by
 have h:=StrLaws.found_iff y ⟨#[c]⟩
 have e:(∃i,i + (⟨#[c]⟩:Str).length≤y.length∧Builtin.Str.subAt y ⟨#[c]⟩ i=true)↔c∈uc y:=by
  constructor
  ·rintro ⟨i,q⟩
   exact List.mem_of_getElem? ((StrLaws.subAt_one y c i).mp q)
  ·intro m
   obtain ⟨i,hi,q⟩:=List.mem_iff_getElem.mp m
   exact ⟨i,(StrLaws.subAt_one y c i).mpr (by rw [List.getElem?_eq_getElem hi,q])⟩
 rw [e] at h
 unfold inT
 by_cases m:c∈uc y
 ·rw [h.mpr m,decide_eq_true m]
 ·rw [decide_eq_false m]
  cases q:(!(Builtin.Str.occurrences y ⟨#[c]⟩ 0 y.length 1).isEmpty) with
  | false=>rfl
  | true=>exact absurd (h.mp q) m
theorem GC {x:Str} {p:Nat} {w r:List Nat} (h:Rst x p (w++r)):Txt.slice x (some (p:Int)) (some ((p + w.length:Nat):Int))=⟨w.toArray⟩:=by
 have hl:=h.len
 rw [List.length_append] at hl
 have:=StrLaws.sliceText_plain (x:=x) (i:=(p:Int)) (j:=((p + w.length:Nat):Int)) ⟨by lia,by lia,by show _≤(((uc x).length:Nat):Int);lia⟩
 show StrLaws.sliceText x _ _=_
 rw [this]
 have e1:((p:Int)).toNat=p:=rfl
 have e2:(((p + w.length:Nat):Int) - (p:Int)).toNat=w.length:=by lia
 rw [e1,e2]
 show (⟨(List.take w.length (List.drop p (uc x))).toArray⟩:Str)=_
 rw [h.eq,List.take_left]
theorem FJ {f:M D} {g:M (List D)} {t:T} {P:D→T→Prop} (h:W f t fun o t1=>W g t1 fun as t2=>∃z y i,o = .str z∧as=[.str y,.int i]∧P (.bl (Txt.startswith3 z y i)) t2):W (startsM f g) t P:=by
 unfold startsM
 refine DJ (h.mono fun o t1 h1=>DJ (h1.mono fun as t2 ⟨z,y,i,e1,e2,p⟩=>?_))
 subst e1 e2
 exact ⟨_,_,rfl,p⟩
theorem Ui {a b:Str} {t:T} {P:D→T→Prop} (h:P (.bl (inT a b)) t):W (MS (.str a) (.str b)) t P:=⟨_,_,rfl,h⟩
theorem UX {x:Str} {n:Int} {t:T} {P:D→T→Prop} (e:PySem.intText? x=some n) (l:x.length≤640) (h:P (.int n) t):W (Iz [.str x]) t P:=⟨_,_,by simp only [Iz,e];rw [if_pos l],h⟩
theorem QA {x:Str} {i:Int} {n:Nat} {t:T} {P:D→T→Prop} (h:x.length≤LIM) (e:atI x.cps.toList i=some n) (p:P (.str ⟨#[n]⟩) t):W (ixD (.str x) (.int i)) t P:=⟨_,_,by simp only [ixD,if_pos h,e];rfl,p⟩
theorem Wn {kt P l c:Nat} {L:LamD} {js:List Nat} {ds:List D} {t:T} {Q:D→T→Prop} (h1:t.S[kt]?=some (.tab P l c L.qual)) (h2:Hv t.env js=some ds) (q:Q (.obj t.S.length) ⟨t.env,t.S++[.fn L ds]⟩):W (Iw kt P l c L js) t Q:=
 ⟨_,_,by unfold Iw;rw [h1,h2];dsimp only;rw [if_pos ⟨rfl,rfl,rfl,rfl⟩],q⟩
theorem Oz {i k:Nat} {L:LamD} {g:List D→Fn} {f:M (List D)} {caps0:List D} {t:T} {P:D→T→Prop} (h1:t.env[i]?=some (some (.val (.obj k)))) (h2:t.S[k]?=some (.fn L caps0)) (h:W f t fun ds t1=>∃caps,t1.S[k]?=some (.fn L caps)∧Wf (g caps) ds t1.S fun r S'=>P r ⟨t1.env,S'⟩):W (Fp i L g f) t P:=by
 obtain ⟨ds,t1,e,caps,e1,r,S',e2,p⟩:=h
 refine ⟨r,⟨t1.env,S'⟩,?_,p⟩
 unfold Fp
 rw [h1]
 dsimp only
 rw [h2]
 dsimp only
 unfold bnd
 rw [e]
 dsimp only
 rw [e1]
 dsimp only
 rw [if_pos rfl,e2]
def Ke (f:Fn):Prop:=∀(x:Str) (p:Nat) (w r:List Nat) (y:Str),x.length≤LIM→Rst x p (w++r)→(∀c∈w,c∈uc y)→(∀c,r.head?=some c→c∉uc y)→Pure1 f [.str x,.int p,.str y] (.int ((p + w.length:Nat):Int))
theorem SE:Ke (fnOf 3 4 DZ):=by
 intro x p w r y hx hR hw hr S
 refine A7 rfl ?_
 unfold DZ
 walk_at "w"
 have hl:=hR.len
 rw [D3,List.length_append] at hl
 have hL:LIM=100000:=rfl
 refine EL (fun n t=>∃w1 w2:List Nat,w=w1++w2∧n=w2.length∧t=⟨[some (.val (.str x)),some (.val (.int p)),some (.val (.str y)),some (.val (.int ((p + w1.length:Nat):Int)))],S⟩) ?_ E6 w.length _ (by unfold E6;lia) ⟨[],w,rfl,rfl,rfl⟩
 rintro n t ⟨w1,w2,rfl,rfl,rfl⟩
 walk_at "w"
 refine Kc hx ?_
 walk_at "w"
 rw [List.append_assoc] at hR
 have hR2:=hR.go
 rw [List.length_append] at hl
 cases w2 with
 | cons c w2=>
   refine Hc (decide_eq_true (by rw [List.length_cons] at hl;lia)) ?_
   walk_at "w"
   refine QA hx hR2.at ?_
   walk_at "w"
   refine Ui ?_
   rw [Mc,decide_eq_true (hw c (by simp))]
   walk_at "w"
   refine ⟨w2.length,rfl,?_⟩
   walk_at "w"
   refine ⟨w1++[c],w2,by simp,rfl,?_⟩
   have e:((p + (w1++[c]).length:Nat):Int)=((p + w1.length:Nat):Int) + 1:=by rw [List.length_append,List.length_singleton];lia
   rw [e]
   rfl
 | nil=>
   rw [List.append_nil]
   rw [List.nil_append] at hR2
   cases r with
   | nil=>
     refine EW (decide_eq_false (by simp at hl;lia)) ?_
     walk_at "w"
     exact ⟨rfl,rfl⟩
   | cons c r=>
     refine Hc (decide_eq_true (by rw [List.length_cons] at hl;lia)) ?_
     walk_at "w"
     refine QA hx hR2.at ?_
     walk_at "w"
     refine Ui ?_
     rw [Mc,decide_eq_false (hr c rfl)]
     walk_at "w"
     exact ⟨rfl,rfl⟩
def dg (i:Int):List Nat:=uc (Str.ofString (toString i))
theorem Ho (x:Str):(⟨(uc x).toArray⟩:Str)=x:=by cases x;simp [uc]
theorem Gr (m:Nat):dg (m:Int)=(Nat.toDigits 10 m).map Char.toNat:=PySem.W.KIN.signs_num m
theorem E9 (m:Nat):∀c∈dg (m:Int),48≤c∧c≤57:=by
 intro c hc
 rw [Gr] at hc
 obtain ⟨ch,hch,e⟩:=List.mem_map.mp hc
 have r:=PyProof.Rows.digit_range (Nat.isDigit_of_mem_toDigits (by decide) (by decide) hch)
 rw [←e]
 exact r
theorem Hy (m:Nat):1≤(dg (m:Int)).length:=by
 rw [Gr,List.length_map]
 exact PySem.toDigits_len_ge 10 m
theorem NA {m:Nat} (h:m < 1000000000000000000):(dg (m:Int)).length≤18:=by
 rw [Gr,List.length_map]
 exact (Nat.length_toDigits_le_iff (by decide) (by decide)).mpr (Nat.lt_of_lt_of_le h (by decide))
theorem NB {m:Nat} (h:0 < m):dg (-(m:Int))=45 :: dg (m:Int):=by
 have e:(toString (-(m:Int)):String) = "-"++toString (m:Int):=by
  obtain ⟨k,rfl⟩:∃k,m=k + 1:=⟨m - 1,by lia⟩
  rfl
 unfold dg uc
 rw [e]
 rw [PyProof.Rows.signs_ofString,PyProof.Rows.signs_ofString,String.toList_append,List.map_append]
 rfl
theorem KD {i:Int} (h0 : -1000000000000000000 < i) (h1:i < 1000000000000000000):∃sg dd,dg i=sg++dd∧(sg=[]∨sg=[45])∧(∀c∈dd,48≤c∧c≤57)∧1≤dd.length∧dd.length≤18:=by
 by_cases h:0≤i
 ·obtain ⟨m,rfl⟩:=Int.eq_ofNat_of_zero_le h
  exact ⟨[],dg m,rfl,.inl rfl,E9 m,Hy m,NA (by lia)⟩
 ·obtain ⟨m,rfl⟩:∃m:Nat,i = -(m:Int):=⟨(-i).toNat,by lia⟩
  exact ⟨[45],dg m,NB (by lia),.inr rfl,E9 m,Hy m,NA (by lia)⟩
theorem OS {i:Int} (h0 : -1000000000000000000 < i) (h1:i < 1000000000000000000):PySem.intText? (Str.ofString (toString i))=some i:=by
 have hl:(Str.ofString (toString i)).length≤4300:=Nat.le_trans (FH (by lia) (by lia)) (by decide)
 by_cases h:0≤i
 ·obtain ⟨m,rfl⟩:=Int.eq_ofNat_of_zero_le h
  have e:=PySem.intText_digits (x:=Str.ofString (toString (m:Int))) (E9 m) (fun z=>by have:=Hy m;unfold dg uc at this;rw [z] at this;simp at this) hl
  have e2:=Gr m
  unfold dg uc at e2
  rw [e2,PySem.W.KIN.val_back] at e
  exact e
 ·obtain ⟨m,rfl⟩:∃m:Nat,i = -(m:Int):=⟨(-i).toNat,by lia⟩
  have e:=PySem.intText_neg (x:=Str.ofString (toString (-(m:Int)))) (cs:=dg m) (NB (by lia)) (E9 m) (fun z=>by have:=Hy m;rw [z] at this;simp at this) hl
  rw [Gr m,PySem.W.KIN.val_back] at e
  exact e
theorem SO:uc (Str.ofString "0123456789")=[48,49,50,51,52,53,54,55,56,57]:=by decide +kernel
theorem fig_mem {c:Nat}:c∈uc (Str.ofString "0123456789")↔48≤c∧c≤57:=by
 rw [SO]
 simp only [List.mem_cons,List.not_mem_nil,or_false]
 omega
def JY (f:Fn):Prop:=∀(x:Str) (p:Nat) (i:Int) (r:List Nat),x.length≤LIM→-1000000000000000000 < i→i < 1000000000000000000→Rst x p (dg i++r)→(∀c,r.head?=some c→¬(48≤c∧c≤57))→Pure1 f [.str x,.int p] (.tup [.int i,.int ((p + (dg i).length:Nat):Int)])
theorem Pd {cb:Fn} (hb:Ke cb):JY (fnOf 2 5 (Ei cb)):=by
 intro x p i r hx h0 h1 hR hr S
 obtain ⟨sg,dd,e,hs,hd,d1,d2⟩:=KD h0 h1
 have hR0:=hR
 rw [e,List.append_assoc] at hR
 have hb':=hb x (p + sg.length) dd r (Str.ofString "0123456789") hx hR.go (fun c m=>fig_mem.mpr (hd c m)) fun c m=>fun z=>hr c m (fig_mem.mp z)
 have eq0:p + sg.length + dd.length=p + (dg i).length:=by rw [e,List.length_append];lia
 rw [eq0] at hb'
 refine A7 rfl ?_
 unfold Ei
 walk_at "w"
 refine FJ ?_
 walk_at "w"
 refine ⟨x,_,_,rfl,rfl,?_⟩
 rw [D2 (c:=45) hR (by decide +kernel)]
 have fin:∀z:Int,z=((p + sg.length:Nat):Int)→F2.W (Aw (A9 3 (An cb (Ab (Ad 0) (Ab (Ad 2) (Ab (fC (.str "0123456789")) Ah)))))
  (Aw (ifS (BO (AI (Dr (fC (.int 1)) (Ai (Ad 3) (Ad 2) Ce) (fC (.int 18)) leA leA))) fail AN)
  (Aw (A9 4 (fB (Ab (fSl (Ad 0) (Ck (Ad 1)) (Ck (Ad 3)) Dp) Ah) Iz))
  (Aw (ifS (AI (Ai (fB (Ab (Ad 4) Ah) Fl) (fSl (Ad 0) (Ck (Ad 1)) (Ck (Ad 3)) Dp) (eqS fun b=>!b))) fail AN)
  (AM (Bz (Ab (Ad 4) (Ab (Ad 3) Ah)))))))) ⟨[some (.val (.str x)),some (.val (.int p)),some (.val (.int z)),none,none],S⟩ fun o t=>match o with
    | .ret v=>v = .tup [.int i,.int ((p + (dg i).length:Nat):Int)]∧t.S=S
    | .next=>D.non = .tup [.int i,.int ((p + (dg i).length:Nat):Int)]∧t.S=S
    | _=>False:=by
  rintro z rfl
  walk_at "w"
  refine hb'.use ?_
  walk_at "w"
  refine Hc (decide_eq_true (by lia)) ?_
  walk_at "w"
  rw [decide_eq_true (by lia)]
  walk_at "w"
  refine BC hx ?_
  rw [GC hR0]
  rw [show (⟨(dg i).toArray⟩:Str)=Str.ofString (toString i) from Ho _]
  walk_at "w"
  refine UX (OS h0 h1) (Nat.le_trans (FH (by lia) (by lia)) (by decide)) ?_
  walk_at "w"
  refine LA (DY (by lia) (by lia)) ?_
  walk_at "w"
  refine BC hx ?_
  rw [GC hR0]
  rw [show (⟨(dg i).toArray⟩:Str)=Str.ofString (toString i) from Ho _]
  walk_at "w"
  refine EW (by simp) ?_
  walk_at "w"
  exact ⟨rfl,rfl⟩
 rcases hs with rfl | rfl
 ·cases dd with
  | nil=>simp at d1
  | cons c dd=>
    have hc:=hd c (by simp)
    walk_at "w"
    refine EW (beq_eq_false_iff_ne.mpr fun z=>?_) (D4 rfl (Ep (fin _ rfl)))
    have z:c=45:=by simpa using z
    lia
 ·refine LB ?_
  refine Hc rfl ?_
  refine Hr ?_
  refine D4 rfl ?_
  refine wC ?_
  refine Qy ?_
  exact Ep (fin ((p:Int) + 1) rfl)
def mkT (l:List Nat):Str:=⟨l.toArray⟩
theorem GX (l:List Nat):uc (mkT l)=l:=by simp [uc,mkT]
theorem MY (x:Str):mkT (uc x)=x:=Ho x
theorem Lr {x y:Str} (h:uc x=uc y):x=y:=by rw [←MY x,h,MY]
theorem Ca (x y:Str):uc (x++y)=uc x++uc y:=Jh x y
theorem Gx (l:List Nat):(mkT l).length=l.length:=by rw [←D3,GX]
def jn:List (List Nat)→List Nat
 | []=>[]
 | [w]=>w
 | w :: v :: r=>w++44 :: jn (v :: r)
theorem Q8:∀ys:List Str,uc (Txt.join (Str.ofString ",") ys)=jn (ys.map uc):=by
 intro ys
 show uc (Builtin.Str.glued _ ys)=_
 rw [StrLaws.glued_eq_join]
 induction ys with
 | nil=>rfl
 | cons y r ih=>
   cases r with
   | nil=>rfl
   | cons z r=>
     rw [PyProof.Rows.join_cons_cons,Ca,Ca,ih]
     show _=uc y++44 :: jn ((z :: r).map uc)
     rw [show uc (Str.ofString ",")=[44] by decide +kernel]
     simp
def La (ws:List (List Nat)):List Nat:=40 :: (jn ws++[41])
mutual
def sw:Sh→List Nat
 | .nothing=>uc (Str.ofString "nothing")
 | .number lo hi=>uc (Str.ofString "number")++La [dg lo,dg hi]
 | .text m=>uc (Str.ofString "text")++La [dg m]
 | .list s m=>uc (Str.ofString "list")++La [sw s,dg m]
 | .pair s r=>uc (Str.ofString "pair")++La [sw s,sw r]
 | .choice ss=>uc (Str.ofString "choice")++La (sws ss)
def sws:List Sh→List (List Nat)
 | []=>[]
 | s :: r=>sw s :: sws r
end
inductive Pt where
 | sh (s:Sh) | nu (i:Int)
def Pt.d:Pt→D
 | .sh s=>s.d
 | .nu i=>.int i
def Pt.w:Pt→List Nat
 | .sh s=>sw s
 | .nu i=>dg i
def Pt.ok (n:Nat):Pt→Prop
 | .sh s=>s.depth≤n∧wf s=true
 | .nu i=>-1000000000000000000 < i∧i < 1000000000000000000
def Pt.c:Pt→Nat
 | .sh s=>cnt s
 | .nu _=>0
def FL (r:List Nat):Prop:=∀c,r.head?=some c→c=44∨c=41∨c=93
def Ext (S S':List Ob):Prop:=∃E,S'=S++E
def cmT:List (List Nat)→List Nat
 | []=>[]
 | w :: ws=>44 :: jn (w :: ws)
theorem HI (w:List Nat) (ws:List (List Nat)):jn (w :: ws)=w++cmT ws:=by
 cases ws with
 | nil=>simp [jn,cmT]
 | cons v r=>rw [jn,cmT]
def DL (f:Fn):Prop:=∀(x y:Str) (p c:Nat) (r:List Nat),Rst x p (c :: r)→uc y=[c]→Pure1 f [.str x,.int p,.str y] (.int ((p:Int) + 1))
theorem SF:DL (fnOf 3 3 DA):=by
 intro x y p c r hR e S
 refine A7 rfl ?_
 unfold DA
 walk_at "w"
 refine FJ ?_
 walk_at "w"
 refine ⟨x,_,_,rfl,rfl,?_⟩
 rw [D2 hR e]
 have e2:((c :: r).head? == some c)=true:=by simp
 rw [e2]
 walk_at "w"
 exact ⟨rfl,rfl⟩
theorem L8 {ws:List (List Nat)} {cl:Nat} {r:List Nat} (h:cl=41∨cl=93):FL (cmT ws++cl :: r):=by
 intro c hc
 cases ws with
 | nil=>simp [cmT] at hc;lia
 | cons w ws=>simp [cmT] at hc;lia
def Pt.dp:Pt→Nat
 | .sh s=>s.depth
 | .nu _=>0
theorem OP {x:Str}:Pure1 (fnOf 1 1 D0) [.str x] .non:=by
 intro S
 refine A7 rfl ?_
 unfold D0
 walk_at "w"
 exact ⟨rfl,rfl⟩
theorem MD {α:Type} {l:List α} {ι f:α→D} {fr:List (Option Sl)} {S:List Ob} {elt:M D} {z:Option Sl} (h:∀a∈l,W elt ⟨some (.val (ι a)) :: fr,S⟩ fun x t'=>x=f a∧t'=⟨some (.val (ι a)) :: fr,S⟩) :
 W (Cc (BP 0) DI elt (l.map ι)) ⟨z :: fr,S⟩ fun xs t'=>xs=l.map f∧t'.S=S:=by
 induction l generalizing z with
 | nil=>exact W_compL_nil.mpr ⟨rfl,rfl⟩
 | cons a r ih=>
   rw [List.map_cons,Gj]
   refine Gb (GG ?_)
   rw [if_pos rfl]
   refine (h a List.mem_cons_self).mono fun x t' ⟨e1,e2⟩=>?_
   subst e1 e2
   refine (ih (z:=some (.val (ι a))) fun b hb=>h b (List.mem_cons_of_mem _ hb)).mono fun xs t' ⟨e1,e2⟩=>?_
   subst e1
   exact ⟨rfl,e2⟩
def RoomT (τ:Ob) (k r:Nat) (S:List Ob):Prop:=Room k r S∧S[0]?=some τ∧k≠0
theorem RoomT.mono {τ:Ob} {k r r':Nat} {S:List Ob} (h:RoomT τ k r S) (e:r'≤r):RoomT τ k r' S:=⟨h.1.mono e,h.2⟩
theorem RoomT.drop {τ:Ob} {k r m:Nat} {S:List Ob} (h:RoomT τ k (r + m) S):RoomT τ k r S:=h.mono (Nat.le_add_right _ _)
theorem RoomT.loop {τ:Ob} {k r q m:Nat} {S:List Ob} (h:RoomT τ k (r + q * (m + 1)) S):RoomT τ k (r + q * m + q) S:=⟨h.1.loop,h.2⟩
theorem Ka {τ o:Ob} {k:Nat} {S:List Ob} (hk:k≠0) (h:S[0]?=some τ):(S.set k o)[0]?=some τ:=by rw [List.getElem?_set_ne hk];exact h
def PTakeT (τ:Ob) (f:Fn):Prop:=∀(k r:Nat) (S:List Ob) (m:Int),0 < m→m < 4611686018427387904→RoomT τ k (r + 1) S→Wf f [.obj k,.int m] S fun v S'=>(∃i,v = .int i∧0≤i∧i < m)∧RoomT τ k r S'
theorem PTakeT.use {τ:Ob} {f:Fn} (h:PTakeT τ f) {k r:Nat} {S:List Ob} {m:Int} (many:Int) (d:RoomT τ k (r + 1) S) {P:D→List Ob→Prop} (p:∀i S',0≤i→i < many→RoomT τ k r S'→P (.int i) S') (e:m=many:=by first | rfl | decide) (h1:0 < many:=by decide) (h2:many < 4611686018427387904:=by decide):Wf f [.obj k,.int m] S P:=by
 subst e
 refine (h k r S m h1 h2 d).mono ?_
 rintro v S' ⟨⟨i,rfl,a,b⟩,q⟩
 exact p i S' a b q
theorem Of {τ:Ob}:PTakeT τ (fnOf 2 3 C1):=by
 intro k n S m hm0 hm1 ⟨⟨a,c,b,hS,c0,c1⟩,h0,hk0⟩
 refine A7 rfl ?_
 unfold C1
 walk_at "w"
 refine Kb hS Rz ?_
 walk_at "w"
 refine Kb hS Pp ?_
 walk_at "w"
 refine Ct (fun z=>?_) fun z=>?_
 ·walk_at "w"
  refine Qz hm0 (by lia) ?_
  refine Lz ?_
  walk_at "w"
  refine Hs hS (by show 3 < 100000;decide) ?_
  rw [Ml]
  walk_at "w"
  refine PZ hm0 ?_
  exact ⟨⟨_,rfl,Int.emod_nonneg _ (by lia),Int.emod_lt_of_pos _ hm0⟩,⟨_,_,_,FZ hS,c0,by lia⟩,Ka hk0 h0,hk0⟩
 ·walk_at "w"
  refine Kb hS K4 ?_
  walk_at "w"
  refine Lz ?_
  walk_at "w"
  refine Hs hS (by show 3 < 100000;decide) ?_
  rw [Pu]
  have g1:(S.set k (.dct (B7 (.int a) (.bl b) (.int (c + 1)))))[k]?=some (.dct (B7 (.int a) (.bl b) (.int (c + 1)))):=FZ hS
  refine Ep ?_
  change W _ ⟨[some (.val (.obj k)),some (.val (.int m)),some (.val (.int a))],S.set k (.dct (B7 (.int a) (.bl b) (.int (c + 1))))⟩ _
  have h01:(S.set k (.dct (B7 (.int a) (.bl b) (.int (c + 1)))))[0]?=some τ:=Ka hk0 h0
  generalize S.set k (.dct (B7 (.int a) (.bl b) (.int (c + 1))))=S1 at g1 h01 ⊢
  walk_at "w"
  have a0:=Int.emod_nonneg a (b:=1000000000303) (by decide)
  have a1:=Int.emod_lt_of_pos a (b:=1000000000303) (by decide)
  generalize a % 1000000000303=x at a0 a1
  refine Kb g1 K4 ?_
  obtain ⟨s,es⟩:∃s,s=c + 1:=⟨_,rfl⟩
  rw [←es]
  rw [←es] at g1
  have s0:0≤s:=by lia
  have s1:s≤1000000000000000000000000000000:=by lia
  refine Ng (by decide) (HN s0 (by lia)) ?_
  walk_at "w"
  refine Ng (HN (by lia) (by lia)) (HN (by lia) (by lia)) ?_
  walk_at "w"
  have b0:=Int.emod_nonneg ((x + 90007 * s) * (x + 90007 * s + 53)) (b:=1000000000331) (by decide)
  have b1:=Int.emod_lt_of_pos ((x + 90007 * s) * (x + 90007 * s + 53)) (b:=1000000000331) (by decide)
  generalize (x + 90007 * s) * (x + 90007 * s + 53) % 1000000000331=y at b0 b1
  refine Ng (HN (by lia) (by lia)) (HN (by lia) (by lia)) ?_
  walk_at "w"
  refine Lz ?_
  walk_at "w"
  refine Hs g1 (by show 3 < 100000;decide) ?_
  rw [Ml]
  walk_at "w"
  refine Qz (by decide) (by decide) ?_
  walk_at "w"
  refine PZ hm0 ?_
  exact ⟨⟨_,rfl,Int.emod_nonneg _ (by lia),Int.emod_lt_of_pos _ hm0⟩,⟨_,_,_,FZ g1,by lia,by lia⟩,Ka hk0 h01,hk0⟩
def Kk (τ:Ob) (f:Fn):Prop:=∀(ns:List Int) (k:Nat) (S:List Ob),k≤1000→S[0]?=some τ→Wf f [.scr ns,.int k] S fun r S'=>∃n,r = .obj n∧RoomT τ n 900000000000000000000000000000 S'
theorem Oa {τ:Ob} {cc:Fn} (hc:Nl cc):Kk τ (fnOf 2 3 (C0 cc)):=by
 intro ns k S hk h0
 have hl:=(List.getElem?_eq_some_iff.mp h0).1
 have hne:S.length≠0:=by lia
 obtain ⟨c,hc⟩:=hc ns k hk
 refine A7 rfl ?_
 unfold C0
 walk_at "w"
 refine hc.use ?_
 walk_at "w"
 refine UU ?_
 refine Ga ?_
 walk_at "w"
 refine Ga ?_
 walk_at "w"
 refine Ga ?_
 walk_at "w"
 refine U7 (Re (by decide) (by decide)) ?_
 walk_at "w"
 refine OD ?_
 refine ⟨L5,by show 3≤15;decide,S.length,rfl,?_⟩
 refine ⟨⟨c,7 + 3 * (k:Int),_,(FZ L5).trans (congrArg (fun l=>some (Ob.dct l)) Po),by lia,by lia⟩,Ka hne ?_,hne⟩
 rw [List.getElem?_append_left hl]
 exact h0
def cB:Nat→Nat
 | 0=>1
 | 1=>10
 | d + 2=>1 + 3 * cB (d + 1)
theorem Nr (d:Nat):1≤cB d:=by
 match d with
 | 0=>exact Nat.le_refl _
 | 1=>decide
 | d + 2=>rw [cB];lia
theorem QK (d:Nat):1 + 3 * cB d≤cB (d + 1):=by
 match d with
 | 0=>decide
 | d + 1=>rw [cB.eq_3];exact Nat.le_refl _
theorem QN {ss:List Sh} {b:Nat} (h:∀s∈ss,cnt s≤b):Io ss≤ss.length * b:=by
 induction ss with
 | nil=>rw [Io];exact Nat.zero_le _
 | cons s r ih=>
   have h1:=h s (by simp)
   have h2:=ih fun x hx=>h x (List.mem_cons_of_mem _ hx)
   rw [Io,List.length_cons,Nat.succ_mul]
   lia
structure DrawnT (τ:Ob) (k r dp c:Nat) (v:D) (S':List Ob):Prop where
 ex:∃s:Sh,v=s.d∧s.depth≤dp∧wf s=true∧cnt s≤c
 pool:RoomT τ k r S'
def PShT (τ:Ob) (f:Fn) (n:Nat):Prop:=∀(d k r:Nat) (S:List Ob),d < n→RoomT τ k (r + c6 d) S→Wf f [.obj k,.int d] S fun v S'=>DrawnT τ k r (d + 1) (cB d) v S'
theorem PShT.use {τ:Ob} {f:Fn} {n:Nat} (h:PShT τ f n) {d k r:Nat} {S:List Ob} (hd:d < n) (q:RoomT τ k (r + c6 d) S) {P:D→List Ob→Prop} (p:∀s S',s.depth≤d + 1→wf s=true→cnt s≤cB d→RoomT τ k r S'→P s.d S'):Wf f [.obj k,.int d] S P:=
 (h d k r S hd q).mono fun v S' ⟨⟨s,e,h1,h2,h3⟩,q⟩=>by subst e;exact p s S' h1 h2 h3 q
theorem RM {τ:Ob} {ct cr:Fn} {n:Nat} (ht:PTakeT τ ct) (hr:n=0∨PShT τ cr n):PShT τ (fnOf 2 5 (CB cr ct)) (n + 1):=by
 intro d k r S hd p0
 refine A7 rfl ?_
 unfold CB
 have hcs:=Uq d
 have hcb:=Nr d
 walk_at "w"
 refine ht.use (r:=r + (c6 d - 1)) 9 (p0.mono (by lia)) fun i S1 i0 i1 p1=>?_
 walk_at "w"
 refine Ct (fun z=>?_) fun z=>?_
 ·walk_at "w"
  exact ⟨⟨.nothing,by rw [Sh.d],by show 1≤_;lia,rfl,by simpa [cnt] using hcb⟩,p1.drop⟩
 walk_at "w"
 refine Ct (fun y=>?_) fun y=>?_
 ·walk_at "w"
  refine ht.use (r:=r + 8) 251 (p1.mono (by lia)) fun a S2 a0 a1 p2=>?_
  walk_at "w"
  refine ht.use (r:=r + 7) 5 p2 fun g S4 z0 z1 p4=>?_
  obtain ⟨dd,ed,m,rfl,m0,m1⟩:=FY (xs:=[D.int 0,D.int 1,D.int 5,D.int 250,D.int a]) z0 (by simpa using z1) (p:=fun d=>∃m:Int,d = .int m∧0≤m∧m≤250) (by
   simp only [List.forall_mem_cons]
   exact ⟨⟨_,rfl,by decide,by decide⟩,⟨_,rfl,by decide,by decide⟩,⟨_,rfl,by decide,by decide⟩,⟨_,rfl,by decide,by decide⟩,⟨_,rfl,a0,Int.le_of_lt_add_one a1⟩,fun _ z=>nomatch z⟩)
  refine DK ed ?_
  walk_at "w"
  refine ⟨⟨.text m,by rw [Sh.d],by show 1≤_;lia,?_,by simpa [cnt] using hcb⟩,p4.drop⟩
  simp only [wf,Bool.and_eq_true,decide_eq_true_eq]
  exact ⟨m0,m1⟩
 refine QD (Ep (Uk (wIf (F2.W.mono (P:=fun b t1=>b=decide (d=0∨i < 4)∧t1=⟨[some (.val (.obj k)),some (.val (.int (d:Int))),some (.val (.int i)),none,none],S1⟩) ?_ ?_))))
 ·walk_at "w"
  refine Ct (fun w=>?_) fun w=>?_
  ·have w' : d = 0 := by have : (d : Int) = 0 := by simpa using w
                         lia
   exact ⟨(decide_eq_true (.inl w')).symm,rfl⟩
  ·walk_at "w"
   have w' : ¬ d = 0 := by have : ¬ (d : Int) = 0 := by simpa using w
                           lia
   refine ⟨decide_eq_decide.mpr ⟨.inr,fun h=>h.resolve_left w'⟩,rfl⟩
 rintro b t1 ⟨rfl,rfl⟩
 refine Ct (fun w=>?_) fun w=>?_
 ·clear w
  walk_at "w"
  refine ht.use (r:=r + 8) 19 (p1.mono (by lia)) fun a S2 a0 a1 p2=>?_
  walk_at "w"
  refine ht.use (r:=r + 7) 100000000000 p2 fun b S3 b0 b1 p3=>?_
  walk_at "w"
  refine ht.use (r:=r + 6) 3 p3 fun g S4 z0 z1 p4=>?_
  have e10:(10:Int) ^ (10:Int).toNat=10000000000:=by decide
  rw [e10]
  obtain ⟨dd,ed,lo,rfl,l0,l1⟩:=FY (xs:=[D.int 0,D.int (a - 9),D.int (b - 10000000000)]) z0 (by simpa using z1) (p:=fun d=>∃m:Int,d = .int m∧-100000000000000000≤m∧m≤100000000000000000) (by
   simp only [List.forall_mem_cons]
   clear z0 z1 ht p4 p3 p2 p1 p0
   exact ⟨⟨_,rfl,by decide,by decide⟩,⟨_,rfl,by lia,by lia⟩,⟨_,rfl,by lia,by lia⟩,fun _ z=>nomatch z⟩)
  refine DK ed ?_
  walk_at "w"
  refine ht.use (r:=r + 5) 7 p4 fun h S6 h0 h1 p6=>?_
  have e17:(10:Int) ^ (17:Int).toNat=100000000000000000:=by decide
  rw [e17]
  obtain ⟨dd,ed,hi,rfl,m0,m1⟩:=FY (xs:=[D.int 0,D.int 1,D.int 9,D.int 255,D.int 256,D.int 70000,D.int 100000000000000000]) h0 (by simpa using h1) (p:=fun d=>∃m:Int,d = .int m∧0≤m∧m≤100000000000000000) (by
   simp only [List.forall_mem_cons]
   exact ⟨⟨_,rfl,by decide,by decide⟩,⟨_,rfl,by decide,by decide⟩,⟨_,rfl,by decide,by decide⟩,⟨_,rfl,by decide,by decide⟩,⟨_,rfl,by decide,by decide⟩,⟨_,rfl,by decide,by decide⟩,⟨_,rfl,by decide,by decide⟩,fun _ z=>nomatch z⟩)
  refine DK ed ?_
  walk_at "w"
  refine ⟨⟨.number lo (lo + hi),by rw [Sh.d],by show 1≤_;lia,?_,by simpa [cnt] using hcb⟩,p6.drop⟩
  simp only [wf,Bool.and_eq_true,decide_eq_true_eq]
  clear p0 p1 p2 p3 p4 p6
  lia
 obtain ⟨d0,i4⟩:¬d=0∧4≤i:=by
  have:=of_decide_eq_false w
  lia
 obtain ⟨d,rfl⟩:∃e,d=e + 1:=⟨d - 1,by lia⟩
 have e0:(((d + 1:Nat):Int) - 1)=(d:Int):=by lia
 rcases hr with rfl | hr
 ·exact absurd (Nat.lt_of_succ_lt_succ hd) (Nat.not_lt_zero _)
 have hd':=Nat.lt_of_succ_lt_succ hd
 have ec:c6 (d + 1)=10 + c6 d * 9:=rfl
 rw [ec] at p1
 replace p1:RoomT τ k (r + 9 + c6 d * 9) S1:=p1.mono (by lia)
 clear p0 hcs ec w d0
 have hst:=QK d
 have hcd:=Nr d
 walk_at "w"
 refine Ct (fun w=>?_) fun w=>?_
 ·walk_at "w"
  rw [e0]
  refine hr.use (r:=r + 9) hd' (p1.mono (by lia)) fun s S2 s1 s2 sc p2=>?_
  walk_at "w"
  refine ht.use (r:=r + 8) 199 p2 fun a S3 a0 a1 p3=>?_
  walk_at "w"
  refine ht.use (r:=r + 7) 5 p3 fun g S4 z0 z1 p4=>?_
  obtain ⟨dd,ed,m,rfl,m0,m1⟩:=FY (xs:=[D.int 0,D.int 1,D.int 3,D.int 250,D.int a]) z0 (by simpa using z1) (p:=fun d=>∃m:Int,d = .int m∧0≤m∧m≤250) (by
   simp only [List.forall_mem_cons]
   exact ⟨⟨_,rfl,by decide,by decide⟩,⟨_,rfl,by decide,by decide⟩,⟨_,rfl,by decide,by decide⟩,⟨_,rfl,by decide,by decide⟩,⟨_,rfl,a0,by clear ht hr p1 p2 p3 p4;lia⟩,fun _ z=>nomatch z⟩)
  refine DK ed ?_
  walk_at "w"
  refine ⟨⟨.list s m,by rw [Sh.d],by rw [Sh.depth];lia,?_,by rw [cnt];lia⟩,p4.drop⟩
  simp only [wf,Bool.and_eq_true,decide_eq_true_eq]
  exact ⟨⟨m0,m1⟩,s2⟩
 walk_at "w"
 refine Ct (fun v=>?_) fun v=>?_
 ·walk_at "w"
  rw [e0]
  refine hr.use (r:=r + c6 d) hd' (p1.mono (by lia)) fun s S2 s1 s2 sc p2=>?_
  walk_at "w"
  rw [e0]
  refine hr.use hd' p2 fun s' S3 s3 s4 sc2 p3=>?_
  walk_at "w"
  exact ⟨⟨.pair s s',by rw [Sh.d],by rw [Sh.depth];lia,by simp only [wf,s2,s4,Bool.and_self],by rw [cnt];lia⟩,p3⟩
 walk_at "w"
 obtain ⟨many,em,hm⟩:∃many:Int,atI [D.int 3,D.int 9] (if id ((((d + 1:Nat):Int)) == 1)=true then 1 else 0)=some (.int many)∧(many=3∨(many=9∧d=0)):=by
  cases ez:id ((((d + 1:Nat):Int)) == 1)
  ·exact ⟨3,rfl,.inl rfl⟩
  ·have ez:(((d + 1:Nat):Int))=1:=by simpa using ez
   exact ⟨9,rfl,.inr ⟨rfl,by lia⟩⟩
 refine DK em ?_
 walk_at "w"
 refine ht.use (r:=r + c6 d * 9) many (p1.mono (by lia)) (fun a S3 a0 a1 p3=>?_) rfl (by lia) (by lia)
 walk_at "w"
 obtain ⟨m,em⟩:=Int.eq_ofNat_of_zero_le (Int.add_nonneg (by decide:(0:Int)≤1) a0)
 rw [em]
 have m13:1≤m∧m≤9:=by clear p1 p3;lia
 refine Eb (CL m13.2) ?_
 refine (DR (P:=fun xs t'=>∃ss:List Sh,xs=ss.map Sh.d∧ss.length=m∧(∀s∈ss,s.depth≤d + 1∧wf s=true∧cnt s≤cB d)∧RoomT τ k r t'.S) (fun acc q t=>∃(ss:List Sh) (S':List Ob) (z:Option Sl),acc=ss.map Sh.d∧ss.length + q.length=m∧(∀s∈ss,s.depth≤d + 1∧wf s=true∧cnt s≤cB d)∧RoomT τ k (r + c6 d * q.length) S'∧t=⟨[z,some (.val (.obj k)),some (.val (.int ((d + 1:Nat):Int)))],S'⟩) _ [] _ ⟨[],S3,_,rfl,by simp [CJ],by simp,p3.mono (by rw [BW,Int.toNat_natCast];exact Nat.add_le_add_left (Nat.mul_le_mul_left _ m13.2) _),rfl⟩ ?_ ?_).mono ?_
 ·rintro acc d' q t ⟨ss,S',z,rfl,h1,h2,h3,rfl⟩ _
  rw [List.length_cons] at h1 h3
  refine Gb (GG ?_)
  rw [if_pos rfl]
  walk_at "w"
  rw [e0]
  refine hr.use hd' h3.loop fun s S5 q1 q2 qc q3=>?_
  exact ⟨ss++[s],S5,_,by rw [List.map_append];rfl,Hd h1,Mf h2 ⟨q1,q2,qc⟩,q3,rfl⟩
 ·rintro acc t ⟨ss,S',z,rfl,h1,h2,h3,rfl⟩
  exact ⟨ss,rfl,h1,h2,h3⟩
 ·rintro xs t' ⟨ss,hxs,h1,h2,h3⟩
  rw [List.nil_append] at hxs
  subst hxs
  refine BC (KQ (n:=9) (by rw [List.length_map,h1];exact m13.2)) ?_
  walk_at "w"
  refine ⟨⟨.choice ss,by rw [Sh.d,Lf],VB fun x hx=>(h2 x hx).1,?_,?_⟩,h3⟩
  rotate_left
  ·have:=QN fun x hx=>(h2 x hx).2.2
   rw [cnt]
   rcases hm with hm | ⟨hm,hd0⟩
   ·have:ss.length * cB d≤3 * cB d:=Nat.mul_le_mul_right _ (by lia)
    lia
   ·subst hd0
    have e1:cB 0=1:=rfl
    have e2:cB (0 + 1)=10:=rfl
    rw [e1] at this
    lia
  simp only [wf,Bool.and_eq_true,decide_eq_true_eq]
  exact ⟨⟨by lia,by lia⟩,OE fun x hx=>(h2 x hx).2.1⟩
def Kh (τ:Ob) (f:Fn):Prop:=∀(k r:Nat) (S:List Ob),RoomT τ k (r + 1000) S→Wf f [.obj k] S fun v S'=>DrawnT τ k r 6 60 v S'
def Gw (S S':List Ob):Prop:=S.length≤S'.length∧∀i,i < S.length→S'[i]?=S[i]?
theorem Gw.refl {S:List Ob}:Gw S S:=⟨Nat.le_refl _,fun _ _=>rfl⟩
theorem Gw.trans {S S1 S2:List Ob} (a:Gw S S1) (b:Gw S1 S2):Gw S S2:=⟨Nat.le_trans a.1 b.1,fun i h=>(b.2 i (Nat.lt_of_lt_of_le h a.1)).trans (a.2 i h)⟩
theorem Gw.app {S ex:List Ob}:Gw S (S++ex):=⟨by rw [List.length_append];lia,fun i h=>List.getElem?_append_left h⟩
theorem Gw.set {S S':List Ob} {k:Nat} {o:Ob} (a:Gw S S') (h:S.length≤k):Gw S (S'.set k o):=⟨by rw [List.length_set];exact a.1,fun i hi=>by rw [List.getElem?_set_ne (by lia)];exact a.2 i hi⟩
theorem Gw.get {S S':List Ob} {k:Nat} {o:Ob} (a:Gw S S') (h:S[k]?=some o):S'[k]?=some o:=by rw [a.2 k (List.getElem?_eq_some_iff.mp h).1];exact h
theorem Nq {S:List Ob} {x:Ob}:(S++[x])[S.length]?=some x:=by simp
theorem QC {k:Nat} {h:List D→List D→Option (List D)} {g:M (List D)} {f:M D} {t:T} {P:D→T→Prop} (w:W f t fun o t1=>o = .obj k∧∃xs0,t1.S[k]?=some (.lst xs0)∧W g t1 fun ds t2=>∃xs ys,t2.S[k]?=some (.lst xs)∧h xs ds=some ys∧P .non ⟨t2.env,t2.S.set k (.lst ys)⟩):W (objM h f g) t P:=by
 unfold objM
 refine W_bnd.mpr (w.mono fun o t1 ⟨e,xs0,e1,w⟩=>?_)
 subst e
 obtain ⟨ds,t2,e2,xs,ys,e3,e4,p⟩:=w
 refine ⟨_,_,?_,p⟩
 simp only [e1,bnd,e2,e3,e4]
 rfl
theorem F9 {d:D} {m:String} {t:T} {P:D→T→Prop} (e:KN d=false) (h:W (CV [d,.ty m]) t P):W (CW [d,.ty m]) t P:=by
 cases d <;> first | exact h | cases e
theorem Et {k:Nat} {m:String} {ds:List D} {b:Bool} {t:T} {P:D→T→Prop} (e:t.S[k]?=some (.lst ds)) (h:CY "list" m=some b) (q:P (.bl b) t):W (CW [.obj k,.ty m]) t P:=⟨_,_,by simp only [CW,e,h];rfl,q⟩
theorem O3 {S:List Ob} {k:Nat} {xs:List D} (h:S[k]?=some (.lst xs)):Gon (some (k,xs)) S:=fun _ _ z=>by cases z;exact h
section
variable {bq:Bool}
mutual
inductive Ow (bq:Bool) (S:List Ob):D→D→List Nat→Prop
 | non:Ow bq S .non .non []
 | int (i:Int):Ow bq S (.int i) (.int i) []
 | str (x:Str):Ow bq S (.str x) (.str x) []
 | tup {ds vs:List D} {fp:List Nat}:Ows bq S ds vs fp→Ow bq S (.tup ds) (.tup vs) fp
 | lst {ds vs:List D} {fp:List Nat}:bq=true→Ows bq S ds vs fp→Ow bq S (.lst ds) (.lst vs) fp
 | obj {k:Nat} {ds vs:List D} {fp:List Nat}:S[k]?=some (.lst ds)→Ows bq S ds vs fp→k∉fp→Ow bq S (.obj k) (.lst vs) (k :: fp)
inductive Ows (bq:Bool) (S:List Ob):List D→List D→List Nat→Prop
 | nil:Ows bq S [] [] []
 | cons {d v:D} {fp fp':List Nat} {ds vs:List D}:Ow bq S d v fp→Ows bq S ds vs fp'→(∀k∈fp,k∉fp')→Ows bq S (d :: ds) (v :: vs) (fp++fp')
end
mutual
theorem Ow.mono {S S':List Ob} {d v:D} {fp:List Nat} (h:∀k∈fp,S'[k]?=S[k]?) (r:Ow bq S d v fp):Ow bq S' d v fp:=by
 cases r with
 | non=>exact .non
 | int i=>exact .int i
 | str x=>exact .str x
 | tup o=>exact .tup (Ows.mono h o)
 | lst z o=>exact .lst z (Ows.mono h o)
 | obj e o n=>exact .obj ((h _ List.mem_cons_self).trans e) (Ows.mono (fun k hk=>h k (List.mem_cons_of_mem _ hk)) o) n
theorem Ows.mono {S S':List Ob} {ds vs:List D} {fp:List Nat} (h:∀k∈fp,S'[k]?=S[k]?) (r:Ows bq S ds vs fp):Ows bq S' ds vs fp:=by
 cases r with
 | nil=>exact .nil
 | cons a b n=>exact .cons (Ow.mono (fun k hk=>h k (List.mem_append_left _ hk)) a) (Ows.mono (fun k hk=>h k (List.mem_append_right _ hk)) b) n
end
mutual
theorem Ow.lt {S:List Ob} {d v:D} {fp:List Nat} (r:Ow bq S d v fp):∀k∈fp,k < S.length:=by
 cases r with
 | tup o=>exact Ows.lt o
 | lst _ o=>exact Ows.lt o
 | obj e o n=>exact fun k h=>(List.mem_cons.mp h).elim (fun z=>by rw [z];exact (List.getElem?_eq_some_iff.mp e).1) (Ows.lt o k)
 | _=>exact fun k h=>nomatch h
theorem Ows.lt {S:List Ob} {ds vs:List D} {fp:List Nat} (r:Ows bq S ds vs fp):∀k∈fp,k < S.length:=by
 cases r with
 | nil=>exact fun k h=>nomatch h
 | cons a b n=>exact fun k h=>(List.mem_append.mp h).elim (Ow.lt a k) (Ows.lt b k)
end
theorem Ows.length {S:List Ob} {ds vs:List D} {fp:List Nat} (r:Ows bq S ds vs fp):ds.length=vs.length:=by
 cases r with
 | nil=>rfl
 | cons _ b _=>rw [List.length_cons,List.length_cons,Ows.length b]
theorem Ows.snoc {S:List Ob} {d v:D} {fp1:List Nat} (o:Ow bq S d v fp1) {ds vs:List D} {fp:List Nat} (r:Ows bq S ds vs fp) (h:∀k∈fp,k∉fp1):Ows bq S (ds++[d]) (vs++[v]) (fp++fp1):=by
 cases r with
 | nil=>
   have:=Ows.cons o .nil (fun _ _ z=>nomatch z)
   rw [List.append_nil] at this
   exact this
 | cons a b n=>
   have:=Ows.cons a (Ows.snoc o b fun k hk=>h k (List.mem_append_right _ hk)) (fun k hk z=>(List.mem_append.mp z).elim (n k hk) (h k (List.mem_append_left _ hk)))
   rw [←List.append_assoc] at this
   exact this
theorem Ow.gr {S S':List Ob} {d v:D} {fp:List Nat} (o:Ow bq S d v fp) (g:Gw S S'):Ow bq S' d v fp:=o.mono fun k hk=>g.2 k (o.lt k hk)
theorem Ows.gr {S S':List Ob} {ds vs:List D} {fp:List Nat} (o:Ows bq S ds vs fp) (g:Gw S S'):Ows bq S' ds vs fp:=o.mono fun k hk=>g.2 k (o.lt k hk)
theorem Ows.at {S:List Ob} {ds vs:List D} {fp:List Nat} (r:Ows bq S ds vs fp) (i:Nat) (d v:D) (h1:ds[i]?=some d) (h2:vs[i]?=some v):∃f,Ow bq S d v f:=by
 cases r with
 | nil=>cases h1
 | cons a b n=>
   cases i with
   | zero=>cases h1;cases h2;exact ⟨_,a⟩
   | succ i=>exact Ows.at b i d v h1 h2
theorem Uj {f:M D} {t:T} {P:Gd×List D→T→Prop} (h:W f t fun d t1=>W (Fu d) t1 P):W (OV f) t P:=W_bnd.mpr h
theorem UY {k:Nat} {ds:List D} {t:T} {P:Gd×List D→T→Prop} (e:t.S[k]?=some (.lst ds)) (h:P (some (k,ds),ds) t):W (Fu (.obj k)) t P:=⟨_,_,by simp only [Fu,e],h⟩
theorem UZ {ds:List D} {t:T} {P:Gd×List D→T→Prop} (h:P (none,ds) t):W (Fu (.lst ds)) t P:=⟨_,_,rfl,h⟩
theorem O2 {S:List Ob}:Gon none S:=fun _ _ z=>nomatch z
local macro_rules | `(tactic| walk_at "y1")=>`(tactic| first | walk_at "w1" | ((with_reducible refine' F9 ?wv ?_);(case wv=>exact rfl)))
local macro_rules | `(tactic| walk_at "y")=>`(tactic| repeat (walk_at "y1"))
theorem Ee {v:D} (h:Ap .nothing v=true):v = .non:=by cases v <;> simp [Ap,GO] at h <;> rfl
theorem DV {lo hi:Int} {v:D} (h:Ap (.number lo hi) v=true):∃i,v = .int i∧lo≤i∧i≤hi:=by
 cases v <;> simp [Ap] at h
 exact ⟨_,rfl,h⟩
theorem EU {q:Int} {v:D} (h:Ap (.text q) v=true):∃x,v = .str x∧(x.length:Int)≤q:=by
 cases v <;> simp only [Ap,Bool.false_eq_true] at h
 simp only [Bool.and_eq_true,decide_eq_true_eq] at h
 exact ⟨_,rfl,h.1⟩
theorem ES {s:Sh} {q:Int} {v:D} (h:Ap (.list s q) v=true):∃ds,v = .lst ds∧(ds.length:Int)≤q∧∀d∈ds,Ap s d=true:=by
 cases v <;> simp only [Ap,Bool.false_eq_true] at h
 simp only [Bool.and_eq_true,decide_eq_true_eq,List.all_eq_true] at h
 exact ⟨_,rfl,h.1,h.2⟩
theorem ET {a b:Sh} {v:D} (h:Ap (.pair a b) v=true):∃x y,v = .tup [x,y]∧Ap a x=true∧Ap b y=true:=by
 unfold Ap at h
 split at h
 ·rw [Bool.and_eq_true] at h
  exact ⟨_,_,rfl,h.1,h.2⟩
 ·cases h
theorem DU {ss:List Sh} {v:D} (h:Ap (.choice ss) v=true):∃(k:Nat) (x:D) (hk:k < ss.length),v = .tup [.str ("of" : Str),.int (k:Nat),x]∧Ap ss[k] x=true:=by
 unfold Ap at h
 split at h
 ·next o k x=>
  simp only [Bool.and_eq_true,decide_eq_true_eq] at h
  have hk:k.toNat < ss.length:=by lia
  have h2:=h.2
  rw [Da ss _ _ _ (List.getElem?_eq_getElem hk)] at h2
  have ho:o=("of" : Str):=eq_of_beq h.1.1
  subst ho
  exact ⟨k.toNat,x,hk,by rw [Int.toNat_of_nonneg h.1.2.1],h2⟩
 ·cases h
theorem ME {g:Gd} {st:D→M Unit} {b:M Out} {t:T} {P:Out→T→Prop} (h:Gon g t.S) (q:P .next t):W (forG g st b []) t P:=by
 unfold forG
 exact W_bnd.mpr ⟨_,_,Nv h,W_ret.mpr q⟩
abbrev PureO (S:List Ob) (f:Fn) (ds:List D) (r:D):Prop:=Wf f ds S fun x S'=>x=r∧S'=S
theorem PureO.use {S:List Ob} {f:Fn} {ds:List D} {r:D} (h:PureO S f ds r) {P:D→List Ob→Prop} (p:P r S):Wf f ds S P:=Wf.mono h fun _ _ ⟨e1,e2⟩=>by subst e1 e2;exact p
theorem GJ {g:Gd} {st:D→M Unit} {b:M Out} {P:Out→T→Prop} (I:List D→T→Prop) (hg:∀r t,I r t→Gon g t.S):∀(ds:List D) (t:T),I ds t→
 (∀d r t,I (d :: r) t→W (st d) t fun _ t1=>W b t1 fun o t2=>match o with
   | .next=>I r t2
   | .cont=>I r t2
   | .brk=>P .next t2
   | .ret x=>P (.ret x) t2)→(∀t,I [] t→P .next t)→W (forG g st b ds) t P
 | [],t,h,_,fin=>ME (hg _ _ h) (fin t h)
 | d :: r,t,h,turn,fin=>by
   rw [forG]
   refine W_bnd.mpr ⟨_,_,Nv (hg _ _ h),W_bnd.mpr ((turn d r t h).mono fun _ t1 q=>W_bnd.mpr (q.mono fun o t2 q=>?_))⟩
   cases o with
   | next=>exact GJ I hg r t2 q turn fin
   | cont=>exact GJ I hg r t2 q turn fin
   | brk=>exact W_ret.mpr q
   | ret x=>exact W_ret.mpr q
theorem OB {f:M (Gd×List D)} {st:D→M Unit} {b:M Out} {t:T} {P:Out→T→Prop} (h:W f t fun p t1=>W (forG p.1 st b p.2) t1 P):W (J7 f st b) t P:=W_bnd.mpr h
def OH (f:Fn):Prop:=∀{bq:Bool} {S:List Ob} {d v:D} {fp:List Nat},Ow bq S d v fp→PureO S f [d] (.bl (SW v))
theorem Uy:OH (fnOf 1 1 Dh):=by
 intro bq S d v fp o
 refine A7 rfl ?_
 unfold Dh
 cases o with
 | obj e o n=>
   walk_at "y"
   refine Et e rfl ?_
   walk_at "y"
   exact ⟨rfl,rfl⟩
 | _=>walk_at "y";exact ⟨rfl,rfl⟩
def Fm (f:Fn):Prop:=∀{bq:Bool} {S:List Ob} {d v:D} {fp:List Nat} (lo hi:Int),Ow bq S d v fp→PureO S f [d,.int lo,.int hi] (.bl (DP lo hi v))
theorem P3 {c:Fn} (hc:OH c):Fm (fnOf 3 3 (Cm c)):=by
 intro bq S d v fp lo hi o
 refine A7 rfl ?_
 unfold Cm
 walk_at "y"
 refine (hc o).use ?_
 cases o with
 | int i=>
   walk_at "y"
   refine Ct (fun e=>?_) fun e=>?_
   ·walk_at "y"
    exact ⟨by simp only [DP,e,Bool.true_and],rfl⟩
   ·exact ⟨by simp only [DP,e,Bool.false_and],rfl⟩
 | _=>walk_at "y";exact ⟨rfl,rfl⟩
def PV:List D→Bool
 | [_,_]=>true
 | [.str _,.int _,_]=>true
 | _=>false
mutual
def tm:D→Bool
 | .non=>true
 | .int _=>true
 | .str x=>decide (x.length≤90000)
 | .lst xs=>decide (xs.length≤1000) && tms xs
 | .tup xs=>tms xs && PV xs
 | _=>false
def tms:List D→Bool
 | []=>true
 | d :: r=>tm d && tms r
end
theorem Ov:∀{xs:List D},(∀d∈xs,tm d=true)→tms xs=true
 | [],_=>rfl
 | x :: r,h=>by
   rw [tms,Bool.and_eq_true]
   exact ⟨h x List.mem_cons_self,Ov fun d m=>h d (List.mem_cons_of_mem _ m)⟩
theorem EH:∀(n:Nat) (s:Sh),s.depth≤n→wf s=true→∀v,Ap s v=true→tm v=true
 | 0,s,h,_,_,_=>absurd s.depth_pos (by lia)
 | n + 1,s,hs,hw,v,hf=>by
   cases s with
   | nothing=>rw [Ee hf];rfl
   | number lo hi=>obtain ⟨i,rfl,_⟩:=DV hf;rfl
   | text q=>
     obtain ⟨x,rfl,hx⟩:=EU hf
     simp only [wf,Bool.and_eq_true,decide_eq_true_eq] at hw
     rw [tm,decide_eq_true_eq];lia
   | list s q=>
     rw [Sh.depth] at hs
     simp only [wf,Bool.and_eq_true,decide_eq_true_eq] at hw
     obtain ⟨ds,rfl,hl,h⟩:=ES hf
     rw [tm,Bool.and_eq_true,decide_eq_true_eq]
     exact ⟨by lia,Ov fun d m=>EH n s (by lia) hw.2 d (h d m)⟩
   | pair a b=>
     rw [Sh.depth] at hs
     simp only [wf,Bool.and_eq_true] at hw
     obtain ⟨x,y,rfl,h1,h2⟩:=ET hf
     rw [tm,tms,tms,tms,EH n a (by lia) hw.1 x h1,EH n b (by lia) hw.2 y h2]
     rfl
   | choice ss=>
     rw [Sh.depth] at hs
     simp only [wf,Bool.and_eq_true] at hw
     obtain ⟨k,x,hk,rfl,h1⟩:=DU hf
     rw [tm,tms,tms,tms,tms,EH n _ (Nat.le_trans (DN (List.getElem_mem hk)) (by lia)) (Dm hw.2 _ (List.getElem_mem hk)) x h1,tm,tm]
     rw [show (Str.ofString "of").length=2 from by decide +kernel]
     rfl
theorem tm2 {ds vs:List D} {fp:List Nat} {S:List Ob} (h:tm (.tup vs)=true) (o:Ows bq S ds vs fp):(∃a b x y f1 f2,ds=[a,b]∧vs=[x,y]∧Ow bq S a x f1∧Ow bq S b y f2∧tm x=true∧tm y=true)∨∃(s:Str) (i:Int) (b y:D) (f2:List Nat),ds=[.str s,.int i,b]∧vs=[.str s,.int i,y]∧Ow bq S b y f2∧tm y=true:=by
 rw [tm,Bool.and_eq_true] at h
 obtain ⟨h1,h2⟩:=h
 cases o with
 | nil=>cases h2
 | cons a o _=>
   rw [tms,Bool.and_eq_true] at h1
   cases o with
   | nil=>cases h2
   | cons b o _=>
     have h3:=h1.2
     rw [tms,Bool.and_eq_true] at h3
     cases o with
     | nil=>exact .inl ⟨_,_,_,_,_,_,rfl,rfl,a,b,h1.1,h3.1⟩
     | cons c o _=>
       have h4:=h3.2
       rw [tms,Bool.and_eq_true] at h4
       cases o with
       | nil=>
         unfold PV at h2
         split at h2
         ·next e=>cases e
         ·next s i _ e=>
          cases e
          cases a
          cases b
          exact .inr ⟨_,_,_,_,_,rfl,rfl,c,h4.1⟩
         ·cases h2
       | cons _ _ _=>
         unfold PV at h2
         split at h2
         ·next e=>cases e
         ·next e=>cases e
         ·cases h2
def MC (f:Fn):Prop:=∀{bq:Bool} {S:List Ob} {d v:D} {fp:List Nat} (m:Int),Ow bq S d v fp→tm v=true→PureO S f [(Sh.text m).d,d] (.bl (Ap (.text m) v))
theorem LK {c:Fn} (hc:Kn c):MC (fnOf 2 3 (Dg c)):=by
 intro bq S d v fp m o h
 refine A7 rfl ?_
 unfold Dg
 rw [Sh.d]
 cases o with
 | str x=>
   have hx:x.length≤LIM:=Nat.le_trans (by simpa [tm] using h) (show 90000≤LIM by decide)
   walk_at "y"
   refine Kc hx ?_
   walk_at "y"
   refine Ct (fun e=>?_) fun e=>?_
   ·walk_at "y"
    have:¬((x.length:Int)≤m):=by have:=of_decide_eq_true e;lia
    exact ⟨by simp [Ap,this],rfl⟩
   ·walk_at "y"
    have e':(x.length:Int)≤m:=by have:=of_decide_eq_false e;lia
    refine FM (fun r t=>t.S=S∧∃cs:List Nat,r=cs.map (fun c=>D.str ⟨#[c]⟩)∧(x.cps.toList.all Dk=cs.all Dk)∧∃z,t.env=[some (.val (.tup [.str "text",.int m])),some (.val (.str x)),z]) _ _ ⟨rfl,x.cps.toList,rfl,rfl,_,rfl⟩ ?_ ?_
    ·rintro d r t ⟨hs,cs,hr,hall,z,ht⟩ _
     obtain ⟨env,S2⟩:=t
     subst hs ht
     cases cs with
     | nil=>simp at hr
     | cons c cs=>
       simp only [List.map_cons,List.cons.injEq] at hr
       obtain ⟨rfl,rfl⟩:=hr
       walk_at "y"
       refine Wv rfl ?_
       walk_at "y"
       refine (hc c).use ?_
       walk_at "y"
       refine Ct (fun q=>?_) fun q=>?_
       ·walk_at "y"
        have q':Dk c=false:=by simpa using q
        refine ⟨?_,rfl⟩
        simp only [Ap,hall,List.all_cons,q',Bool.false_and,Bool.and_false]
       ·walk_at "y"
        have q':Dk c=true:=by simpa using q
        exact ⟨rfl,cs,rfl,by rw [hall,List.all_cons,q',Bool.true_and],_,rfl⟩
    ·rintro t ⟨hs,cs,hr,hall,z,ht⟩
     obtain ⟨env,S2⟩:=t
     subst hs ht
     have:cs=[]:=by cases cs with | nil=>rfl | cons _ _=>simp at hr
     subst this
     walk_at "y"
     exact ⟨by simp [Ap,e',hall],rfl⟩
 | obj e o n=>
   walk_at "y"
   refine Et e rfl ?_
   walk_at "y"
   exact ⟨by simp [Ap],rfl⟩
 | _=>walk_at "y";exact ⟨by simp [Ap],rfl⟩
def FK (f:Fn) (n:Nat):Prop:=∀(s:Sh),s.depth≤n→∀{bq:Bool} {S:List Ob} {d v:D} {fp:List Nat},Ow bq S d v fp→tm v=true→PureO S f [s.d,d] (.bl (Ap s v))
def P8 (f:Fn) (n:Nat):Prop:=∀(s:Sh) (m:Int),s.depth≤n→∀{bq:Bool} {S:List Ob} {d v:D} {fp:List Nat},Ow bq S d v fp→tm v=true→PureO S f [(Sh.list s m).d,d] (.bl (Ap (.list s m) v))
theorem LI {c:Fn} {n:Nat} (hc:FK c n):P8 (fnOf 2 3 (De c)) n:=by
 intro s m hs bq S d v fp o h
 refine A7 rfl ?_
 unfold De
 rw [Sh.d]
 cases o with
 | @obj k ds vs fp e o n=>
   have hx:tms vs=true:=by rw [tm,Bool.and_eq_true] at h;exact h.2
   have hlen:=o.length
   walk_at "y"
   refine Et e rfl ?_
   walk_at "y"
   refine Nf e ?_
   walk_at "y"
   refine Ct (fun e=>?_) fun e=>?_
   ·walk_at "y"
    have:¬((vs.length:Int)≤m):=by have:=of_decide_eq_true e;lia
    exact ⟨by simp [Ap,this],rfl⟩
   ·walk_at "y"
    have e':(vs.length:Int)≤m:=by have:=of_decide_eq_false e;lia
    refine OB (Uj ?_)
    walk_at "y"
    refine UY (by assumption) ?_
    refine GJ (fun r t=>∃(us:List D) (fq:List Nat) (z:Option Sl),Ows bq S r us fq∧tms us=true∧(vs.all (fun e=>Ap s e)=us.all fun e=>Ap s e)∧t=⟨[some (.val (.tup [.str "list",s.d,.int m])),some (.val (.obj k)),z],S⟩) (fun r t h=>?_) _ _ ⟨vs,fp,_,o,hx,rfl,rfl⟩ ?_ ?_
    ·obtain ⟨_,_,_,_,_,_,rfl⟩:=h
     exact O3 (by assumption)
    ·rintro d r t ⟨us,fq,z,oo,hu,hall,rfl⟩
     cases oo with
     | @cons _ u f1 f2 _ us a b _=>
       rw [tms,Bool.and_eq_true] at hu
       walk_at "y"
       refine (hc s hs a hu.1).use ?_
       walk_at "y"
       refine Ct (fun q=>?_) fun q=>?_
       ·walk_at "y"
        have q':Ap s u=false:=by simpa using q
        refine ⟨?_,rfl⟩
        simp only [Ap,hall,List.all_cons,q',Bool.false_and,Bool.and_false]
       ·walk_at "y"
        have q':Ap s u=true:=by simpa using q
        exact ⟨us,f2,_,b,hu.2,by rw [hall,List.all_cons,q',Bool.true_and],rfl⟩
    ·rintro t ⟨us,fq,z,oo,hu,hall,rfl⟩
     cases oo
     walk_at "y"
     exact ⟨by simp only [Ap,e',decide_true,hall,List.all_nil,Bool.true_and],rfl⟩
 | @lst ds vs fp _ o=>
   have hx:tms vs=true:=by rw [tm,Bool.and_eq_true] at h;exact h.2
   have hlen:=o.length
   walk_at "y"
   refine Ct (fun e=>?_) fun e=>?_
   ·walk_at "y"
    have:¬((vs.length:Int)≤m):=by have:=of_decide_eq_true e;lia
    exact ⟨by simp [Ap,this],rfl⟩
   ·walk_at "y"
    have e':(vs.length:Int)≤m:=by have:=of_decide_eq_false e;lia
    refine OB (Uj ?_)
    walk_at "y"
    refine UZ ?_
    refine GJ (fun r t=>∃(us:List D) (fq:List Nat) (z:Option Sl),Ows bq S r us fq∧tms us=true∧(vs.all (fun e=>Ap s e)=us.all fun e=>Ap s e)∧t=⟨[some (.val (.tup [.str "list",s.d,.int m])),some (.val (.lst ds)),z],S⟩) (fun r t h=>?_) _ _ ⟨vs,fp,_,o,hx,rfl,rfl⟩ ?_ ?_
    ·obtain ⟨_,_,_,_,_,_,rfl⟩:=h
     exact O2
    ·rintro d r t ⟨us,fq,z,oo,hu,hall,rfl⟩
     cases oo with
     | @cons _ u f1 f2 _ us a b _=>
       rw [tms,Bool.and_eq_true] at hu
       walk_at "y"
       refine (hc s hs a hu.1).use ?_
       walk_at "y"
       refine Ct (fun q=>?_) fun q=>?_
       ·walk_at "y"
        have q':Ap s u=false:=by simpa using q
        refine ⟨?_,rfl⟩
        simp only [Ap,hall,List.all_cons,q',Bool.false_and,Bool.and_false]
       ·walk_at "y"
        have q':Ap s u=true:=by simpa using q
        exact ⟨us,f2,_,b,hu.2,by rw [hall,List.all_cons,q',Bool.true_and],rfl⟩
    ·rintro t ⟨us,fq,z,oo,hu,hall,rfl⟩
     cases oo
     walk_at "y"
     exact ⟨by simp only [Ap,e',decide_true,hall,List.all_nil,Bool.true_and],rfl⟩
 | _=>walk_at "y";exact ⟨by simp [Ap],rfl⟩
def P9 (f:Fn) (n:Nat):Prop:=∀(s r:Sh),s.depth≤n→r.depth≤n→∀{bq:Bool} {S:List Ob} {d v:D} {fp:List Nat},Ow bq S d v fp→tm v=true→PureO S f [(Sh.pair s r).d,d] (.bl (Ap (.pair s r) v))
theorem LJ {c:Fn} {n:Nat} (hc:FK c n):P9 (fnOf 2 2 (Df c)) n:=by
 intro s r hs hr bq S d v fp o h
 refine A7 rfl ?_
 unfold Df
 rw [Sh.d]
 cases o with
 | @tup ds vs fp o=>
   rcases tm2 h o with ⟨a,b,x,y,f1,f2,rfl,rfl,oa,ob,hx,hy⟩ | ⟨s',i,b,y,f2,rfl,rfl,ob,hy⟩
   ·walk_at "y"
    refine (hc s hs oa hx).use ?_
    walk_at "y"
    refine Ct (fun e=>?_) fun e=>?_
    ·walk_at "y"
     refine (hc r hr ob hy).use ?_
     exact ⟨by simp only [Ap,e,Bool.true_and],rfl⟩
    ·exact ⟨by simp only [Ap,e,Bool.false_and],rfl⟩
   ·walk_at "y"
    exact ⟨by simp [Ap],rfl⟩
 | obj e o n=>
   walk_at "y"
   refine Et e rfl ?_
   walk_at "y"
   exact ⟨by simp [Ap],rfl⟩
 | _=>walk_at "y";exact ⟨by simp [Ap],rfl⟩
def LX (f:Fn) (n:Nat):Prop:=∀(ss:List Sh),Dj ss≤n→∀{bq:Bool} {S:List Ob} {d v:D} {fp:List Nat},Ow bq S d v fp→tm v=true→PureO S f [(Sh.choice ss).d,d] (.bl (Ap (.choice ss) v))
theorem JJ {c c':Fn} {n:Nat} (hc:FK c n) (hw:Fm c'):LX (fnOf 2 2 (CI c c')) n:=by
 intro ss hs bq S d v fp o h
 refine A7 rfl ?_
 unfold CI
 rw [Sh.d]
 cases o with
 | @tup ds vs fp o=>
   rcases tm2 h o with ⟨a,b,x,y,f1,f2,rfl,rfl,oa,ob,hx,hy⟩ | ⟨o',k,b,y,f2,rfl,rfl,ob,hy⟩
   ·walk_at "y"
    exact ⟨by simp [Ap],rfl⟩
   ·walk_at "y"
    refine Ct (fun q=>?_) fun q=>?_
    ·walk_at "y"
     have q':IA o'=false:=by simpa [IA] using q
     exact ⟨by simp only [Ap,q',Bool.false_and],rfl⟩
    ·walk_at "y"
     have q':IA o'=true:=by simpa [IA] using q
     refine (hw (bq:=true) 0 _ (.int k)).use ?_
     walk_at "y"
     refine Ct (fun q=>?_) fun q=>?_
     ·walk_at "y"
      refine ⟨?_,rfl⟩
      have:(decide (0≤k) && decide (k < (ss.length:Int)))=false:=by
       have q2:k < 0∨((shD ss).length:Int) - 1 < k:=by simpa [DP] using q
       rw [Ea] at q2
       simp;lia
      simp only [Ap,this,Bool.false_and,Bool.and_false]
     ·have q2:0≤k∧k≤((shD ss).length:Int) - 1:=by simpa [DP] using q
      have q3:=q2
      rw [Ea] at q3
      have hk:k.toNat < ss.length:=by lia
      have e1:ss[k.toNat]?=some ss[k.toNat]:=List.getElem?_eq_getElem hk
      have e2:atI (shD ss) k=some (ss[k.toNat]).d:=by
       unfold atI
       rw [Ea,IB q3.1 (by lia)]
       simp [Jb,e1]
      walk_at "y"
      refine GF e2 ?_
      walk_at "y"
      refine (hc _ (Nat.le_trans (Es ss _ _ e1) hs) ob hy).use ?_
      refine ⟨?_,rfl⟩
      have:(decide (0≤k) && decide (k < (ss.length:Int)))=true:=by simp;lia
      simp only [Ap,q',this,Bool.true_and,Da ss _ _ y e1]
 | obj e o n=>
   walk_at "y"
   refine Et e rfl ?_
   walk_at "y"
   exact ⟨by simp [Ap],rfl⟩
 | _=>walk_at "y";exact ⟨by simp [Ap],rfl⟩
theorem SQ {cc cp cl ct cw:Fn} {n:Nat} (h1:LX cc n) (h2:P9 cp n) (h3:P8 cl n) (h4:MC ct) (h5:Fm cw):FK (fnOf 2 3 (HQ cc cp cl ct cw)) (n + 1):=by
 intro s hs bq S d v fp o h
 refine A7 rfl ?_
 unfold HQ
 cases s with
 | nothing=>
   rw [Sh.d]
   walk_at "y"
   refine ⟨?_,rfl⟩
   cases o <;> rfl
 | number lo hi=>
   rw [Sh.d]
   walk_at "y"
   refine (h5 lo hi o).use ⟨?_,rfl⟩
   cases v <;> simp [Ap,DP]
 | text m=>
   rw [Sh.d]
   walk_at "y"
   exact (h4 m o h).use ⟨rfl,rfl⟩
 | list s m=>
   rw [Sh.depth] at hs
   have q:=h3 s m (by lia) o h
   rw [Sh.d] at q ⊢
   walk_at "y"
   exact PureO.use q ⟨rfl,rfl⟩
 | pair s r=>
   rw [Sh.depth] at hs
   have q:=h2 s r (by lia) (by lia) o h
   rw [Sh.d] at q ⊢
   walk_at "y"
   exact PureO.use q ⟨rfl,rfl⟩
 | choice ss=>
   rw [Sh.depth] at hs
   have q:=h1 ss (by lia) o h
   rw [Sh.d] at q ⊢
   walk_at "y"
   exact PureO.use q ⟨rfl,rfl⟩
end
local macro_rules | `(tactic| walk_at "y1")=>`(tactic| first | walk_at "w1" | ((with_reducible refine' F9 ?wv ?_);(case wv=>exact rfl)))
local macro_rules | `(tactic| walk_at "y")=>`(tactic| repeat (walk_at "y1"))
theorem OA {f:M D} {g:M (List D)} {t:T} {P:D→T→Prop} (h:W f t fun o t1=>W g t1 fun as t2=>∃z y i,o = .str z∧as=[.str y,.int i]∧P (.int (Txt.find3 z y i)) t2):W (find3M f g) t P:=by
 unfold find3M
 refine DJ (h.mono fun o t1 h1=>DJ (h1.mono fun as t2 ⟨z,y,i,e1,e2,p⟩=>?_))
 subst e1 e2
 exact ⟨_,_,rfl,p⟩
theorem O1 {x:Str} {p:Nat} {w r:List Nat} (h:Rst x p (w++r)) {v:Nat} (h1:p≤v) (h2:v < p + w.length):∃c∈w,x.cps.getD v 0=c:=by
 have e:(uc x)[v]?=w[v - p]?:=by
  have e0:(uc x)[v]?=((uc x).drop p)[v - p]?:=by rw [List.getElem?_drop];congr 1;lia
  rw [e0,h.eq,List.getElem?_append_left (by lia)]
 have hv:v - p < w.length:=by lia
 rw [List.getElem?_eq_getElem hv] at e
 exact ⟨w[v - p],List.getElem_mem hv,StrLaws.getD_of_getElem? e⟩
theorem KL {x y:Str} {p c:Nat} {w r:List Nat} (h:Rst x p (w++c :: r)) (e:uc y=[c]) (hw:c∉w):Txt.find3 x y (p:Int)=((p + w.length:Nat):Int):=by
 have ey:y=⟨#[c]⟩:=Lr (by rw [e])
 subst ey
 have hl:=h.len
 rw [D3,List.length_append,List.length_cons] at hl
 have hf:fromIndex x.length (p:Int)=p:=by
  unfold fromIndex
  rw [if_neg (by lia)]
  lia
 have hat:x.cps.getD (p + w.length) 0=c:=by
  have h2:=h.go
  have e0:(uc x)[p + w.length]?=some c:=by
   have e1:(uc x)[p + w.length]?=((uc x).drop (p + w.length))[0]?:=by rw [List.getElem?_drop];rfl
   rw [e1,h2.eq];rfl
  exact StrLaws.getD_of_getElem? e0
 rcases StrLaws.find3_spec x c (p:Int) with ⟨_,hn⟩ | ⟨k,hk,h1,h2,h3,h4⟩
 ·exact absurd hat (hn (p + w.length) (by rw [hf];lia) (by lia))
 ·rw [hf] at h1 h4
  rw [hk]
  by_cases hlt:k < p + w.length
  ·obtain ⟨c',hc',e'⟩:=O1 h h1 hlt
   rw [h3] at e'
   subst e'
   exact absurd hc' hw
  ·by_cases hgt:p + w.length < k
   ·exact absurd hat (h4 (p + w.length) (by lia) hgt)
   ·have:k=p + w.length:=by lia
    rw [this]
theorem GL (c:Nat):∀a b:List Nat,StrLaws.dbl c (a++b)=StrLaws.dbl c a++StrLaws.dbl c b
 | [],b=>rfl
 | k :: r,b=>by
   rw [List.cons_append,StrLaws.dbl,StrLaws.dbl,GL c r b]
   split <;> rfl
theorem EQ {c:Nat}:∀{a:List Nat},c∉a→StrLaws.dbl c a=a
 | [],_=>rfl
 | k :: r,h=>by
   rw [StrLaws.dbl,EQ (fun z=>h (List.mem_cons_of_mem _ z))]
   have:¬k=c:=fun z=>h (by rw [z];exact List.mem_cons_self)
   simp [this]
theorem Iq (c:Nat) (l:List Nat):StrLaws.dbl c (c :: l)=c :: c :: StrLaws.dbl c l:=by
 rw [StrLaws.dbl];simp
theorem Nz (c:Nat):∀l:List Nat,l.length≤(StrLaws.dbl c l).length
 | []=>Nat.le_refl _
 | k :: r=>by
   have:=Nz c r
   rw [StrLaws.dbl]
   split <;> simp only [List.length_cons] <;> lia
theorem Jw (c:Nat):∀l:List Nat,∃sg,c∉sg∧(l=sg∨∃l3,l=sg++c :: l3)
 | []=>⟨[],by simp,.inl rfl⟩
 | k :: r=>by
   by_cases h:k=c
   ·subst h;exact ⟨[],by simp,.inr ⟨r,rfl⟩⟩
   ·obtain ⟨sg,h1,h2⟩:=Jw c r
    refine ⟨k :: sg,by simp only [List.mem_cons,not_or];exact ⟨fun z=>h z.symm,h1⟩,?_⟩
    rcases h2 with rfl | ⟨l3,rfl⟩
    ·exact .inl rfl
    ·exact .inr ⟨l3,rfl⟩
def MA (f:Fn):Prop:=∀(x:Str) (p:Nat) (l r:List Nat),x.length≤90000→Rst x p (34 :: (StrLaws.dbl 34 l++34 :: r))→r.head?≠some 34→Pure1 f [.str x,.int p] (.tup [.str (mkT l),.int ((p + (StrLaws.dbl 34 l).length + 2:Nat):Int)])
theorem TC {cb:Fn} (hb:DL cb):MA (fnOf 2 5 (Ej cb)):=by
 intro x p l r hx hR hr S
 have hL:LIM=100000:=rfl
 have hq:uc (Str.ofString "\"")=[34]:=by decide +kernel
 have hq1:(Str.ofString "\"").length=1:=by decide +kernel
 refine A7 rfl ?_
 unfold Ej
 walk_at "w"
 refine (hb x _ p 34 _ hR hq).use ?_
 walk_at "w"
 refine OA ?_
 walk_at "w"
 refine ⟨x,_,_,rfl,rfl,?_⟩
 walk_at "w"
 have hR1:Rst x (p + 1) (StrLaws.dbl 34 l++34 :: r):=hR.one
 have hlx:=hR1.len
 rw [D3,List.length_append,List.length_cons] at hlx
 -- where the search ends
 have fnd:∀(q:Nat) (l2:List Nat),Rst x q (StrLaws.dbl 34 l2++34 :: r)→∃sg,34∉sg∧Txt.find3 x (Str.ofString "\"") (q:Int)=((q + sg.length:Nat):Int)∧(l2=sg∨∃l3,l2=sg++34 :: l3):=by
  intro q l2 h
  obtain ⟨sg,h1,h2⟩:=Jw 34 l2
  refine ⟨sg,h1,?_,h2⟩
  rcases h2 with rfl | ⟨l3,rfl⟩
  ·rw [EQ h1] at h
   exact KL h hq h1
  ·rw [GL,EQ h1,Iq,List.append_assoc] at h
   exact KL h hq h1
 refine EL (fun n t=>∃(l1 l2:List Nat) (q:Nat),l=l1++l2∧l2.length + 1≤n∧Rst x q (StrLaws.dbl 34 l2++34 :: r)∧q + (StrLaws.dbl 34 l2).length=p + 1 + (StrLaws.dbl 34 l).length∧l1.length≤q∧
  t=⟨[some (.val (.str x)),some (.val (.int p)),some (.val (.int (q:Int))),some (.val (.str (mkT l1))),some (.val (.int (Txt.find3 x (Str.ofString "\"") (q:Int))))],S⟩) ?_ E6 (l.length + 1) _ ?_ ⟨[],l,p + 1,rfl,Nat.le_refl _,hR1,rfl,Nat.zero_le _,?_⟩
 ·rintro n t ⟨l1,l2,q,rfl,hn,hR2,hq2,hl1,rfl⟩
  obtain ⟨m,rfl⟩:∃m,n=m + 1:=⟨n - 1,by lia⟩
  obtain ⟨sg,hs1,hs2,hs3⟩:=fnd q l2 hR2
  have hlq:=hR2.len
  rw [D3,List.length_append,List.length_cons] at hlq
  rw [hs2]
  walk_at "w"
  rw [decide_eq_true (by lia)]
  walk_at "w"
  refine ⟨m,rfl,?_⟩
  walk_at "w"
  refine BC (by lia) ?_
  have hR3:∃rr,Rst x q (sg++34 :: rr)∧(l2=sg→rr=r)∧(∀l3,l2=sg++34 :: l3→rr=34 :: (StrLaws.dbl 34 l3++34 :: r)):=by
   rcases hs3 with rfl | ⟨l3,rfl⟩
   ·rw [EQ hs1] at hR2
    exact ⟨r,hR2,fun _=>rfl,fun l3 z=>by
     have:=congrArg List.length z
     simp at this⟩
   ·rw [GL,EQ hs1,Iq,List.append_assoc] at hR2
    refine ⟨_,hR2,fun z=>?_,fun l4 z=>?_⟩
    ·have:=congrArg List.length z
     simp at this
    ·have:=List.append_cancel_left z
     cases this
     rfl
  obtain ⟨rr,hR3,hc1,hc2⟩:=hR3
  have hR3l:=hR3.len
  rw [D3,List.length_append,List.length_cons] at hR3l
  rw [GC hR3]
  walk_at "w"
  have ecat:mkT l1++(⟨sg.toArray⟩:Str)=mkT (l1++sg):=Lr (by rw [Ca,GX,GX])
  rw [ecat]
  refine BC (by rw [Gx];show l1.length + (mkT sg).length≤_;rw [Gx];lia) ?_
  walk_at "w"
  refine FJ ?_
  walk_at "w"
  refine ⟨x,_,_,rfl,rfl,?_⟩
  have hR4:Rst x (q + sg.length + 1) rr:=hR3.go.one
  have est:=D2 (c:=34) hR4 hq
  have ecast:(((q + sg.length:Nat):Int) + 1)=((q + sg.length + 1:Nat):Int):=rfl
  rw [ecast,est]
  rcases hs3 with rfl | ⟨l3,rfl⟩
  ·have e0:=hc1 rfl
   subst e0
   have e2:(rr.head? == some 34)=false:=beq_eq_false_iff_ne.mpr hr
   rw [e2]
   walk_at "w"
   refine ⟨?_,rfl⟩
   have e3:p + (StrLaws.dbl 34 (l1++l2)).length + 2=q + l2.length + 1:=by
    have h5:(StrLaws.dbl 34 l2).length=l2.length:=by rw [EQ hs1]
    lia
   rw [e3]
   rfl
  ·have e0:=hc2 l3 rfl
   subst e0
   have e2:((34 :: (StrLaws.dbl 34 l3++34 :: r)).head? == some 34)=true:=by simp
   rw [e2]
   walk_at "w"
   refine BC (by rw [Gx,List.length_append,hq1];lia) ?_
   walk_at "w"
   refine OA ?_
   walk_at "w"
   refine ⟨x,_,_,rfl,rfl,?_⟩
   walk_at "w"
   have hR5:Rst x (q + sg.length + 1 + 1) (StrLaws.dbl 34 l3++34 :: r):=hR4.one
   have hdl:(StrLaws.dbl 34 (sg++34 :: l3)).length=sg.length + ((StrLaws.dbl 34 l3).length + 1 + 1):=by
    rw [GL,EQ hs1,Iq,List.length_append,List.length_cons,List.length_cons]
   refine ⟨l1++sg++[34],l3,q + sg.length + 1 + 1,by simp,by simp only [List.length_append,List.length_cons] at hn;lia,hR5,by lia,by simp only [List.length_append,List.length_cons,List.length_nil];lia,?_⟩
   have ecat2:mkT (l1++sg)++Str.ofString "\"" = mkT (l1++sg++[34]):=Lr (by rw [Ca,GX,GX,hq])
   rw [ecat2]
   rfl
 ·unfold E6
  have:=Nz 34 l
  lia
 ·rfl
local macro_rules | `(tactic| walk_at "y1")=>`(tactic| first | walk_at "w1" | ((with_reducible refine' F9 ?wv ?_);(case wv=>exact rfl)))
local macro_rules | `(tactic| walk_at "y")=>`(tactic| repeat (walk_at "y1"))
theorem Qx {v:D}:uc (sho .nothing v)=[45]:=by rw [sho];decide +kernel
theorem Oy {lo hi i:Int}:uc (sho (.number lo hi) (.int i))=dg i:=by rw [sho];rfl
theorem Mz {q:Int} {x:Str}:uc (sho (.text q) (.str x))=34 :: (StrLaws.dbl 34 (uc x)++[34]):=by
 rw [sho,Ca,Ca,M6,Qi]
 have e:uc (Txt.replace x ⟨#[34]⟩ ⟨#[34,34]⟩)=StrLaws.dbl 34 (uc x):=StrLaws.replace_double x 34
 rw [e]
 rfl
theorem Mx {s:Sh} {q:Int} {ds:List D}:uc (sho (.list s q) (.lst ds))=91 :: (jn (ds.map fun e=>uc (sho s e))++[93]):=by
 rw [sho,Ca,Ca,Q8,List.map_map]
 rw [show uc (Str.ofString "[")=[91] by decide +kernel,show uc (Str.ofString "]")=[93] by decide +kernel]
 rfl
theorem My {s r:Sh} {a b:D}:uc (sho (.pair s r) (.tup [a,b]))=40 :: (uc (sho s a)++44 :: (uc (sho r b)++[41])):=by
 rw [sho,Ca,Ca,Ca,Ca]
 rw [show uc (Str.ofString "(")=[40] by decide +kernel,show uc (Str.ofString ")")=[41] by decide +kernel,show uc (Str.ofString ",")=[44] by decide +kernel]
 simp
theorem JD {ss:List Sh} {o x:D} {k:Nat} (hk:k < ss.length):uc (sho (.choice ss) (.tup [o,.int (k:Int),x]))=35 :: (dg (k:Int)++58 :: uc (sho ss[k] x)):=by
 rw [sho,Ca,Ca,Ca,Int.toNat_natCast,E3 ss _ _ _ (List.getElem?_eq_getElem hk)]
 rw [show uc (Str.ofString "#")=[35] by decide +kernel,show uc (Str.ofString ":")=[58] by decide +kernel]
 simp [dg]
theorem Se {s:Sh} {v:D} (hw:wf s=true) (hf:Ap s v=true):∃c l,uc (sho s v)=c :: l∧c≠93:=by
 cases s with
 | nothing=>exact ⟨45,[],Qx,by decide⟩
 | number lo hi=>
   obtain ⟨i,rfl,h1,h2⟩:=DV hf
   simp only [wf,Bool.and_eq_true,decide_eq_true_eq] at hw
   obtain ⟨sg,dd,e,hs,hd,d1,d2⟩:=KD (i:=i) (by lia) (by lia)
   rw [Oy,e]
   rcases hs with rfl | rfl
   ·cases dd with
    | nil=>simp at d1
    | cons c dd=>exact ⟨c,dd,rfl,by have:=hd c (by simp);lia⟩
   ·exact ⟨45,dd,rfl,by decide⟩
 | text q=>obtain ⟨x,rfl,_⟩:=EU hf;rw [Mz];exact ⟨_,_,rfl,by decide⟩
 | list s q=>obtain ⟨ds,rfl,_⟩:=ES hf;rw [Mx];exact ⟨_,_,rfl,by decide⟩
 | pair a b=>obtain ⟨x,y,rfl,_⟩:=ET hf;rw [My];exact ⟨_,_,rfl,by decide⟩
 | choice ss=>obtain ⟨k,x,hk,rfl,_⟩:=DU hf;rw [JD hk];exact ⟨_,_,rfl,by decide⟩
def RdV (S S':List Ob) (d v:D) (q:Nat):Prop:=∃d0 fp,d = .tup [d0,.int (q:Int)]∧Gw S S'∧Ow false S' d0 v fp∧∀k∈fp,S.length≤k
def Vq (g:List D→Fn) (caps:List D) (τ:Ob) (x:Str) (q:D×List Nat):Prop:=∀(p:Nat) (r:List Nat) (S:List Ob),S[0]?=some τ→Rst x p (q.2++r)→FL r→Wf (g caps) [.int p] S fun d S'=>RdV S S' d q.1 (p + q.2.length)
def Km (f:Fn) (L:LamD) (g:List D→Fn):Prop:=∀(τ:Ob) (x y:Str) (cl k p:Nat) (caps:List D) (items:List (D×List Nat)) (r:List Nat) (S:List Ob),x.length≤LIM→uc y=[cl]→cl=41∨cl=93→1≤items.length→items.length≤1000→S[0]?=some τ→S[k]?=some (.fn L caps)→(∀q∈items,Vq g caps τ x q)→
 Rst x p (jn (items.map (·.2))++cl :: r)→Wf f [.str x,.int p,.str y,.obj k] S fun d S'=>RdV S S' d (.lst (items.map (·.1))) (p + (jn (items.map (·.2))).length + 1)
theorem Jg {xs:List D} {d:D} (h:xs.length + 1≤LIM):D5 xs [d]=some (xs++[d]):=by unfold D5;simp only;rw [if_pos (by lia)]
theorem Gw.lt {S S':List Ob} (h:Gw S S') {k:Nat} (hk:k < S.length):k < S'.length:=Nat.lt_of_lt_of_le hk h.1
theorem RZ {L:LamD} {g:List D→Fn} {cb:Fn} (hb:DL cb):Km (fnOf 4 6 (Ek L g cb)) L g:=by
 intro τ x y cl k p caps items r S hx hy hcl hi1 hi2 hτ hk hrd hR
 have hL:LIM=100000:=rfl
 cases items with
 | nil=>simp at hi1
 | cons q0 items=>
   obtain ⟨v0,w0⟩:=q0
   rw [List.map_cons,HI,List.append_assoc] at hR
   refine A7 rfl ?_
   unfold Ek
   walk_at "w"
   refine Oz rfl hk ?_
   walk_at "w"
   refine ⟨caps,hk,?_⟩
   refine (hrd (v0,w0) (by simp) p _ S hτ hR (L8 hcl)).mono ?_
   rintro d S1 ⟨d0,fp0,rfl,g1,o1,f1⟩
   walk_at "w"
   have gK:Gw S (S1++[.lst [d0]]):=g1.trans .app
   have oK:Ows false (S1++[.lst [d0]]) [d0] [v0] fp0:=by
    have:=Ows.cons (o1.gr .app (S':=S1++[.lst [d0]])) .nil (fun _ _ z=>nomatch z)
    rw [List.append_nil] at this
    exact this
   refine EL (fun n t=>∃(d1 d2:List (D×List Nat)) (dl:D) (q:Nat) (S':List Ob) (ds:List D) (fp:List Nat),items=d1++d2∧n=d2.length∧Rst x q (cmT (d2.map (·.2))++cl :: r)∧q + (cmT (d2.map (·.2))).length=p + (w0++cmT (items.map (·.2))).length∧Gw S S'∧S1.length < S'.length∧S'[S1.length]?=some (.lst ds)∧Ows false S' ds (v0 :: d1.map (·.1)) fp∧S1.length∉fp∧(∀j∈fp,S.length≤j)∧
    t=⟨[some (.val (.str x)),some (.val (.int p)),some (.val (.str y)),some (.val (.obj k)),some (.val (.tup [dl,.int (q:Int)])),some (.val (.obj S1.length))],S'⟩) ?_ E6 items.length _ (by unfold E6;rw [List.length_cons] at hi2;lia)
    ⟨[],items,d0,p + w0.length,S1++[.lst [d0]],[d0],fp0,rfl,rfl,hR.go,by rw [List.length_append];lia,gK,by simp,Nq,oK,fun z=>absurd (o1.lt _ z) (by lia),f1,rfl⟩
   rintro n t ⟨d1,d2,dl,q,S',ds,fp,rfl,rfl,hR2,hq,gS,hK1,hK,ho,hnf,hfp,rfl⟩
   walk_at "w"
   refine FJ ?_
   walk_at "w"
   refine ⟨x,_,_,rfl,rfl,?_⟩
   rw [D2 (c:=44) hR2 (by decide +kernel)]
   cases d2 with
   | cons q1 d2=>
     obtain ⟨ve,we⟩:=q1
     rw [List.map_cons,cmT] at hR2 hq
     have e2:((44 :: jn (we :: d2.map (·.2))++cl :: r).head? == some 44)=true:=by simp
     rw [List.map_cons,cmT,e2]
     walk_at "w"
     refine ⟨d2.length,rfl,?_⟩
     have hR3:Rst x (q + 1) (we++(cmT (d2.map (·.2))++cl :: r)):=by
      have h:=hR2.one
      rw [HI] at h
      have e:(((ve,we).2++cmT (List.map (fun x=>x.2) d2)).append (cl :: r))=we++(cmT (d2.map (·.2))++cl :: r):=List.append_assoc _ _ _
      rw [e] at h
      exact h
     walk_at "w"
     refine Oz rfl (gS.get hk) ?_
     walk_at "w"
     refine ⟨caps,gS.get hk,?_⟩
     refine (hrd (ve,we) (by simp) (q + 1) _ S' (gS.get hτ) hR3 (L8 hcl)).mono ?_
     rintro d S2 ⟨de,fe,rfl,g2,o2,f2⟩
     walk_at "w"
     have hlen:=ho.length
     rw [List.length_cons,List.length_map] at hlen
     refine QC (k:=S1.length) ?_
     walk_at "w"
     refine ⟨rfl,ds,g2.get hK,?_⟩
     walk_at "w"
     refine ⟨ds,ds++[de],g2.get hK,Jg (by rw [List.length_cons,List.length_append] at hi2;lia),?_⟩
     walk_at "w"
     have hKe:S1.length∉fe:=fun z=>absurd (f2 _ z) (by lia)
     have hdis:∀j∈fp,j∉fe:=fun j hj z=>absurd (f2 _ z) (by have:=ho.lt j hj;lia)
     have o3:Ows false S2 (ds++[de]) ((v0 :: d1.map (·.1))++[ve]) (fp++fe):=Ows.snoc o2 (ho.gr g2) hdis
     have hKa:S1.length∉fp++fe:=fun z=>(List.mem_append.mp z).elim hnf hKe
     refine ⟨d1++[(ve,we)],d2,de,q + 1 + we.length,S2.set S1.length (.lst (ds++[de])),ds++[de],fp++fe,by simp,rfl,hR3.go,?_,(gS.trans g2).set g1.1,by rw [List.length_set];exact g2.lt hK1,by rw [List.getElem?_set_self (g2.lt hK1)],?_,hKa,?_,?_⟩
     ·rw [←hq,List.length_cons,HI,List.length_append];show _=q + (we.length + _ + 1);lia
     ·rw [List.map_append]
      exact o3.mono fun j hj=>List.getElem?_set_ne fun z=>by rw [z] at hKa;exact hKa hj
     ·intro j hj
      rcases List.mem_append.mp hj with z | z
      ·exact hfp j z
      ·exact Nat.le_trans gS.1 (f2 j z)
     ·rfl
   | nil=>
     rw [List.map_nil,cmT,List.nil_append] at hR2
     rw [List.map_nil,cmT,List.nil_append]
     have e2:((cl :: r).head? == some 44)=false:=by
      rcases hcl with rfl | rfl <;> simp
     rw [e2]
     rw [List.map_nil,cmT,List.length_nil,Nat.add_zero] at hq
     walk_at "w"
     refine (hb x y q cl r hR2 hy).use ?_
     walk_at "w"
     refine ⟨.obj S1.length,S1.length :: fp,?_,gS,?_,?_⟩
     ·have e3:((p + (jn (w0 :: List.map (fun z:D×List Nat=>z.2) (d1++[]))).length + 1:Nat):Int)=(q:Int) + 1:=by rw [HI,←hq];lia
      rw [List.map_cons,e3]
     ·rw [List.map_cons,List.append_nil]
      exact .obj hK ho hnf
     ·intro j hj
      rcases List.mem_cons.mp hj with rfl | z
      ·exact g1.1
      ·exact hfp j z
local macro_rules | `(tactic| walk_at "y1")=>`(tactic| first | walk_at "w1" | ((with_reducible refine' F9 ?wv ?_);(case wv=>exact rfl)))
local macro_rules | `(tactic| walk_at "y")=>`(tactic| repeat (walk_at "y1"))
theorem Ra {cw:Fn} {x:Str} {p:Int} {s:Sh} {q:Int} {S:List Ob} {P:D→List Ob→Prop} (h:Wf cw [s.d,.str x,.int p] S P):Wf (Hb 3 (EX cw) [.str x,(Sh.list s q).d]) [.int p] S P:=by
 obtain ⟨r,S',e,z⟩:=h
 refine ⟨r,S',?_,z⟩
 have w:F2.W (EX cw) ⟨env0 3 ([D.int p]++[.str x,(Sh.list s q).d]),S⟩ fun v t=>v=r∧t.S=S':=by
  unfold EX
  rw [Sh.d]
  walk_at "w"
  exact ⟨r,S',e,rfl,rfl⟩
 obtain ⟨v,t,e1,rfl,rfl⟩:=w
 unfold Hb
 rw [if_pos (show [D.int p].length=1 from rfl),e1]
def WAt (f:Fn) (τ:Ob) (n:Nat):Prop:=∀(s:Sh) (v:D) (x:Str) (p:Nat) (r:List Nat) (S:List Ob),s.depth≤n→wf s=true→Ap s v=true→x.length≤90000→S[0]?=some τ→Rst x p (uc (sho s v)++r)→FL r→Wf f [s.d,.str x,.int p] S fun d S'=>RdV S S' d v (p + (uc (sho s v)).length)
def LAt (f:Fn) (τ:Ob) (n:Nat):Prop:=∀(s:Sh) (q:Int) (v:D) (x:Str) (p:Nat) (r:List Nat) (S:List Ob),s.depth≤n→wf (.list s q)=true→Ap (.list s q) v=true→x.length≤90000→S[0]?=some τ→Rst x p (uc (sho (.list s q) v)++r)→FL r→Wf f [(Sh.list s q).d,.str x,.int p] S fun d S'=>RdV S S' d v (p + (uc (sho (.list s q) v)).length)
theorem NW {L:LamD} {Pt' ln cl:Nat} {cr cb:Fn} {g:List D→Fn} {n:Nat} (hr':Km cr L g) (hb:DL cb)
 (hg:∀(s:Sh) (q:Int) (v:D) (x:Str) (p:Nat) (r:List Nat) (S:List Ob),s.depth≤n→wf s=true→Ap s v=true→x.length≤90000→S[0]?=some (.tab Pt' ln cl L.qual)→Rst x p (uc (sho s v)++r)→FL r→Wf (g [.str x,(Sh.list s q).d]) [.int p] S fun d S'=>RdV S S' d v (p + (uc (sho s v)).length)) :
 LAt (fnOf 3 4 (Fd L Pt' ln cl cr cb)) (.tab Pt' ln cl L.qual) n:=by
 intro s q v x p r S hs hw hf hx hτ hR hr
 have hL:LIM=100000:=rfl
 have hw2:=hw
 simp only [wf,Bool.and_eq_true,decide_eq_true_eq] at hw2
 obtain ⟨ds,rfl,hdl,hds⟩:=ES hf
 rw [Mx] at hR ⊢
 refine A7 rfl ?_
 unfold Fd
 have hR0:Rst x (p + 1) (jn (ds.map fun e=>uc (sho s e))++93 :: r):=by
  have h:=Rst.one (r:=(jn (ds.map fun e=>uc (sho s e))++[93])++r) hR
  rw [List.append_assoc] at h
  exact h
 walk_at "w"
 refine (hb x _ p 91 _ hR (by decide +kernel)).use ?_
 walk_at "w"
 refine FJ ?_
 walk_at "w"
 refine ⟨x,_,_,rfl,rfl,?_⟩
 have ecast:((p:Int) + 1)=((p + 1:Nat):Int):=rfl
 rw [ecast,D2 (c:=93) hR0 (by decide +kernel)]
 cases ds with
 | nil=>
   have e2:((jn (([]:List D).map fun e=>uc (sho s e))++93 :: r).head? == some 93)=true:=by simp [jn]
   rw [e2]
   walk_at "w"
   refine ⟨.obj S.length,[S.length],?_,.app,.obj Nq .nil (by simp),by simp⟩
   simp only [List.map_nil,jn,List.nil_append,List.length_cons,List.length_nil]
   rfl
 | cons d0 ds=>
   obtain ⟨c0,l0,ec,hc⟩:=Se hw2.2 (hds d0 (by simp))
   have e2:((jn ((d0 :: ds).map fun e=>uc (sho s e))++93 :: r).head? == some 93)=false:=by
    rw [List.map_cons,HI,ec,beq_eq_false_iff_ne]
    simp
    exact hc
   rw [e2]
   walk_at "w"
   refine Wn hτ rfl ?_
   walk_at "w"
   have x0:Gw S (S++[.fn L [.str x,(Sh.list s q).d]]):=.app
   have em1:((d0 :: ds).map fun e=>(e,uc (sho s e))).map (·.1)=d0 :: ds:=by rw [List.map_map];exact List.map_id _
   have em2:((d0 :: ds).map fun e=>(e,uc (sho s e))).map (·.2)=(d0 :: ds).map fun e=>uc (sho s e):=by rw [List.map_map];rfl
   refine (hr' (.tab Pt' ln cl L.qual) x (Str.ofString "]") 93 S.length (p + 1) [.str x,(Sh.list s q).d] ((d0 :: ds).map fun e=>(e,uc (sho s e))) r _ (by lia) (by decide +kernel) (.inr rfl) (by simp) (by rw [List.length_map];lia) (x0.get hτ) (by simp) ?_ (by rw [em2];exact hR0)).mono ?_
   ·intro z hz
    obtain ⟨e,he,rfl⟩:=List.mem_map.mp hz
    intro p' r' S' h0 hR' hr''
    exact hg s q e x p' r' S' hs hw2.2 (hds e he) hx h0 hR' hr''
   ·rintro d S' ⟨d1,fp,rfl,g1,o1,f1⟩
    rw [em1] at o1
    rw [em2]
    walk_at "w"
    refine ⟨d1,fp,?_,x0.trans g1,o1,fun k hk=>Nat.le_trans (by simp) (f1 k hk)⟩
    have e3:p + 1 + (jn ((d0 :: ds).map fun e=>uc (sho s e))).length + 1=p + (91 :: (jn ((d0 :: ds).map fun e=>uc (sho s e))++[93])).length:=by
     simp only [List.length_append,List.length_cons,List.length_nil];lia
    rw [e3]
theorem OG {cc cp cl cq cn cb:Fn} {τ:Ob} {n:Nat}
 (hc:∀(ss:List Sh) (v:D) (x:Str) (p:Nat) (r:List Nat) (S:List Ob),(Sh.choice ss).depth≤n + 1→wf (.choice ss)=true→Ap (.choice ss) v=true→x.length≤90000→S[0]?=some τ→Rst x p (uc (sho (.choice ss) v)++r)→FL r→Wf cc [(Sh.choice ss).d,.str x,.int p] S fun d S'=>RdV S S' d v (p + (uc (sho (.choice ss) v)).length))
 (hp:∀(a b:Sh) (v:D) (x:Str) (p:Nat) (r:List Nat) (S:List Ob),(Sh.pair a b).depth≤n + 1→wf (.pair a b)=true→Ap (.pair a b) v=true→x.length≤90000→S[0]?=some τ→Rst x p (uc (sho (.pair a b) v)++r)→FL r→Wf cp [(Sh.pair a b).d,.str x,.int p] S fun d S'=>RdV S S' d v (p + (uc (sho (.pair a b) v)).length))
 (hl:LAt cl τ n) (hq:MA cq) (hn:JY cn) (hb:DL cb):WAt (fnOf 3 4 (ED cc cp cl cq cn cb)) τ (n + 1):=by
 intro s v x p r S hs hw hf hx hτ hR hr
 have hL:LIM=100000:=rfl
 refine A7 rfl ?_
 unfold ED
 cases s with
 | nothing=>
   rw [Ee hf]
   rw [Qx] at hR ⊢
   rw [Sh.d]
   walk_at "w"
   refine (hb x _ p 45 r hR (by decide +kernel)).use ?_
   walk_at "w"
   exact ⟨.non,[],rfl,.refl,.non,fun _ z=>nomatch z⟩
 | number lo hi=>
   obtain ⟨i,rfl,h1,h2⟩:=DV hf
   simp only [wf,Bool.and_eq_true,decide_eq_true_eq] at hw
   rw [Oy] at hR ⊢
   rw [Sh.d]
   walk_at "w"
   refine (hn x p i r (by lia) (by lia) (by lia) hR (fun c z=>by have:=hr c z;lia)).use ?_
   exact ⟨.int i,[],rfl,.refl,.int i,fun _ z=>nomatch z⟩
 | text m=>
   obtain ⟨y,rfl,_⟩:=EU hf
   rw [Mz] at hR ⊢
   rw [Sh.d]
   have hR1:Rst x p (34 :: (StrLaws.dbl 34 (uc y)++34 :: r)):=by
    have e:34 :: (StrLaws.dbl 34 (uc y)++[34])++r=34 :: (StrLaws.dbl 34 (uc y)++34 :: r):=by simp
    rw [←e];exact hR
   walk_at "w"
   refine (hq x p (uc y) r hx hR1 (fun z=>by have:=hr 34 z;lia)).use ?_
   rw [MY]
   refine ⟨.str y,[],?_,.refl,.str y,fun _ z=>nomatch z⟩
   simp only [List.length_cons,List.length_append,List.length_nil]
   rfl
 | list s m=>
   rw [Sh.depth] at hs
   have q:=hl s m v x p r S (by lia) hw hf hx hτ hR hr
   rw [Sh.d] at q ⊢
   walk_at "w"
   exact q.mono fun d S' h=>h
 | pair a b=>
   have q:=hp a b v x p r S hs hw hf hx hτ hR hr
   rw [Sh.d] at q ⊢
   walk_at "w"
   exact q.mono fun d S' h=>h
 | choice ss=>
   have q:=hc ss v x p r S hs hw hf hx hτ hR hr
   rw [Sh.d] at q ⊢
   walk_at "w"
   exact q.mono fun d S' h=>h
theorem N5 {cb cw:Fn} {τ:Ob} {n:Nat} (hb:DL cb) (hw':WAt cw τ n) (a b:Sh) (v:D) (x:Str) (p:Nat) (r:List Nat) (S:List Ob) (hs:(Sh.pair a b).depth≤n + 1) (hw:wf (.pair a b)=true) (hf:Ap (.pair a b) v=true) (hx:x.length≤90000) (hτ:S[0]?=some τ) (hR:Rst x p (uc (sho (.pair a b) v)++r)) (hr:FL r) :
 Wf (fnOf 3 5 (Fe cb cw)) [(Sh.pair a b).d,.str x,.int p] S fun d S'=>RdV S S' d v (p + (uc (sho (.pair a b) v)).length):=by
 obtain ⟨va,vb,rfl,h1,h2⟩:=ET hf
 simp only [wf,Bool.and_eq_true] at hw
 rw [Sh.depth] at hs
 rw [My] at hR ⊢
 have hR1:Rst x p (40 :: (uc (sho a va)++(44 :: (uc (sho b vb)++(41 :: r))))):=by
  have e:40 :: (uc (sho a va)++44 :: (uc (sho b vb)++[41]))++r=40 :: (uc (sho a va)++(44 :: (uc (sho b vb)++(41 :: r)))):=by simp
  rw [←e];exact hR
 refine A7 rfl ?_
 unfold Fe
 rw [Sh.d]
 walk_at "w"
 refine (hb x _ p 40 _ hR1 (by decide +kernel)).use ?_
 walk_at "w"
 refine (hw' a va x (p + 1) _ S (by lia) hw.1 h1 hx hτ hR1.one (fun c z=>by simp at z;lia)).mono ?_
 rintro d S1 ⟨da,fa,rfl,g1,o1,f1⟩
 have hR2:=hR1.one.go
 walk_at "w"
 refine (hb x _ (p + 1 + (uc (sho a va)).length) 44 _ hR2 (by decide +kernel)).use ?_
 walk_at "w"
 refine (hw' b vb x (p + 1 + (uc (sho a va)).length + 1) _ S1 (by lia) hw.2 h2 hx (g1.get hτ) hR2.one (fun c z=>by simp at z;lia)).mono ?_
 rintro d S2 ⟨db,fb,rfl,g2,o2,f2⟩
 have hR3:=hR2.one.go
 walk_at "w"
 refine (hb x _ (p + 1 + (uc (sho a va)).length + 1 + (uc (sho b vb)).length) 41 _ hR3 (by decide +kernel)).use ?_
 walk_at "w"
 refine ⟨.tup [da,db],fa++(fb++[]),?_,g1.trans g2,.tup (.cons (o1.gr g2) (.cons o2 .nil (fun _ _ z=>nomatch z)) ?_),?_⟩
 ·have e:((p + (40 :: (uc (sho a va)++44 :: (uc (sho b vb)++[41]))).length:Nat):Int)=((p + 1 + (uc (sho a va)).length + 1 + (uc (sho b vb)).length:Nat):Int) + 1:=by
   simp only [List.length_cons,List.length_append,List.length_nil];lia
  rw [e]
 ·intro k hk z
  rw [List.append_nil] at z
  have:=o1.lt k hk
  have:=f2 k z
  lia
 ·intro k hk
  rw [List.append_nil] at hk
  rcases List.mem_append.mp hk with z | z
  ·exact f1 k z
  ·exact Nat.le_trans g1.1 (f2 k z)
theorem LH {cb cw ci cn:Fn} {τ:Ob} {n:Nat} (hb:DL cb) (hw':WAt cw τ n) (hi:Fm ci) (hn:JY cn) (ss:List Sh) (v:D) (x:Str) (p:Nat) (r:List Nat) (S:List Ob) (hs:(Sh.choice ss).depth≤n + 1) (hw:wf (.choice ss)=true) (hf:Ap (.choice ss) v=true) (hx:x.length≤90000) (hτ:S[0]?=some τ) (hR:Rst x p (uc (sho (.choice ss) v)++r)) (hr:FL r) :
 Wf (fnOf 3 5 (Eg cb cw ci cn)) [(Sh.choice ss).d,.str x,.int p] S fun d S'=>RdV S S' d v (p + (uc (sho (.choice ss) v)).length):=by
 have hL:LIM=100000:=rfl
 obtain ⟨k,y,hk,rfl,h1⟩:=DU hf
 simp only [wf,Bool.and_eq_true,decide_eq_true_eq] at hw
 rw [Sh.depth] at hs
 rw [JD hk] at hR ⊢
 have hR1:Rst x p (35 :: (dg (k:Int)++(58 :: (uc (sho ss[k] y)++r)))):=by
  have e:35 :: (dg (k:Int)++58 :: uc (sho ss[k] y))++r=35 :: (dg (k:Int)++(58 :: (uc (sho ss[k] y)++r))):=by simp
  rw [←e];exact hR
 have hR2:=hR1.one.go
 refine A7 rfl ?_
 unfold Eg
 rw [Sh.d]
 walk_at "w"
 refine (hb x _ p 35 _ hR1 (by decide +kernel)).use ?_
 walk_at "w"
 refine (hn x (p + 1) (k:Int) _ (by lia) (by lia) (by lia) hR1.one (fun c z=>by simp at z;lia)).use ?_
 walk_at "w"
 refine PureO.use (hi (bq:=true) (S:=S) 0 _ (.int (k:Int))) ?_
 have hwi:DP 0 (((shD ss).length:Int) - 1) (.int (k:Int))=true:=by
  rw [Ea]
  simp only [DP,Bool.and_eq_true,decide_eq_true_eq]
  lia
 rw [hwi]
 walk_at "w"
 have e2:atI (shD ss) (k:Int)=some (ss[k]).d:=Qr hk
 refine GF e2 ?_
 walk_at "w"
 refine (hb x _ (p + 1 + (dg (k:Int)).length) 58 _ hR2 (by decide +kernel)).use ?_
 walk_at "w"
 refine (hw' ss[k] y x (p + 1 + (dg (k:Int)).length + 1) r S (Nat.le_trans (DN (List.getElem_mem hk)) (by lia)) (Dm hw.2 _ (List.getElem_mem hk)) h1 hx hτ hR2.one hr).mono ?_
 rintro d S1 ⟨dy,fy,rfl,g1,o1,f1⟩
 walk_at "w"
 refine ⟨.tup [.str (Str.ofString "of"),.int (k:Int),dy],[]++([]++(fy++[])),?_,g1,.tup (.cons (.str _) (.cons (.int _) (.cons o1 .nil (fun _ _ z=>nomatch z)) (fun _ z=>nomatch z)) (fun _ z=>nomatch z)),?_⟩
 ·have e:p + (35 :: (dg (k:Int)++58 :: uc (sho ss[k] y))).length=p + 1 + (dg (k:Int)).length + 1 + (uc (sho ss[k] y)).length:=by
   simp only [List.length_cons,List.length_append];lia
  rw [e]
 ·intro j hj
  rw [List.append_nil] at hj
  exact f1 j hj
def RdW (f:Fn) (τ:Ob):Prop:=∀(s:Sh) (v:D) (S:List Ob),s.depth≤6→wf s=true→Ap s v=true→(sho s v).length≤90000→S[0]?=some τ→Wf f [s.d,.str (sho s v)] S fun d S'=>∃fp,Gw S S'∧Ow false S' d v fp∧∀k∈fp,S.length≤k
theorem TW {cf cw cc:Fn} {τ:Ob} (hf':FK cf 6) (hw':WAt cw τ 6) (hc:∀x:Str,Pure1 cc [.str x] .non):RdW (fnOf 2 3 (D1 cf cw cc)) τ:=by
 intro s v S hs hw hf hx hτ
 have hL:LIM=100000:=rfl
 refine A7 rfl ?_
 unfold D1
 walk_at "w"
 refine (hc _).use ?_
 walk_at "w"
 refine (hw' s v (sho s v) 0 [] S hs hw hf hx hτ ⟨Nat.zero_le _,by rw [List.append_nil];rfl⟩ (fun c h=>nomatch h)).mono ?_
 rintro d S1 ⟨d0,fp,rfl,g1,o1,f1⟩
 walk_at "w"
 refine Kc (by lia) ?_
 walk_at "w"
 refine EW (by rw [D3];simp) ?_
 walk_at "w"
 refine PureO.use (hf' s hs o1 (EH 6 s hs hw v hf)) ?_
 rw [hf]
 walk_at "w"
 exact ⟨fp,g1,o1,f1⟩
local macro_rules | `(tactic| walk_at "y1")=>`(tactic| first | walk_at "w1" | ((with_reducible refine' F9 ?wv ?_);(case wv=>exact rfl)))
local macro_rules | `(tactic| walk_at "y")=>`(tactic| repeat (walk_at "y1"))
def NvD:Nat→D→Bool
 | 0,_=>false
 | _ + 1,.non=>true
 | _ + 1,.int _=>true
 | _ + 1,.str _=>true
 | n + 1,.lst xs=>decide (xs.length≤1000) && xs.all (NvD n)
 | n + 1,.tup xs=>decide (xs.length≤1000) && xs.all (NvD n)
 | _ + 1,_=>false
theorem D7:∀(n:Nat) (s:Sh),s.depth≤n→wf s=true→∀v,Ap s v=true→NvD n v=true
 | 0,s,h,_,_,_=>absurd s.depth_pos (by lia)
 | n + 1,s,hs,hw,v,hf=>by
   cases s with
   | nothing=>rw [Ee hf];rfl
   | number lo hi=>obtain ⟨i,rfl,_⟩:=DV hf;rfl
   | text q=>obtain ⟨x,rfl,hx⟩:=EU hf;rfl
   | list s q=>
     rw [Sh.depth] at hs
     simp only [wf,Bool.and_eq_true,decide_eq_true_eq] at hw
     obtain ⟨ds,rfl,hl,h⟩:=ES hf
     simp only [NvD,Bool.and_eq_true,decide_eq_true_eq,List.all_eq_true]
     exact ⟨by lia,fun d m=>D7 n s (by lia) hw.2 d (h d m)⟩
   | pair a b=>
     rw [Sh.depth] at hs
     simp only [wf,Bool.and_eq_true] at hw
     obtain ⟨x,y,rfl,h1,h2⟩:=ET hf
     simp only [NvD,List.all_cons,List.all_nil,Bool.and_true,D7 n a (by lia) hw.1 x h1,D7 n b (by lia) hw.2 y h2]
     rfl
   | choice ss=>
     rw [Sh.depth] at hs
     simp only [wf,Bool.and_eq_true] at hw
     obtain ⟨k,x,hk,rfl,h1⟩:=DU hf
     have hx:=D7 n _ (Nat.le_trans (DN (List.getElem_mem hk)) (by lia)) (Dm hw.2 _ (List.getElem_mem hk)) x h1
     cases n with
     | zero=>cases hx
     | succ n=>
       simp only [NvD,List.all_cons,List.all_nil,Bool.and_true,hx]
       rfl
theorem Cn {d:D} {n m1 m2:String} {b1 b2:Bool} {t:T} {P:D→T→Prop} (h0:KN d=false) (e:tyD d=some n) (e1:CY n m1=some b1) (e2:CY n m2=some b2) (h:P (.bl (b1 || b2)) t):W (Fk [d,.tup [.ty m1,.ty m2]]) t P:=by
 refine ⟨_,_,?_,h⟩
 cases d <;> first | (simp only [Fk,e,e1,e2];done) | cases h0
theorem Lw {k:Nat} {ds:List D} {m1 m2:String} {b1 b2:Bool} {t:T} {P:D→T→Prop} (e:t.S[k]?=some (.lst ds)) (e1:CY "list" m1=some b1) (e2:CY "list" m2=some b2) (h:P (.bl (b1 || b2)) t):W (Fk [.obj k,.tup [.ty m1,.ty m2]]) t P:=
 ⟨_,_,by simp only [Fk,e,e1,e2],h⟩
section
variable {bq:Bool}
def AlkO (f:Fn) (n:Nat):Prop:=∀{S:List Ob} {d v:D} {fp:List Nat},Ow bq S d v fp→NvD n v=true→PureO S f [v,d] (.bl true)
theorem AlkO.zero {f:Fn}:AlkO (bq:=bq) f 0:=fun _ h=>nomatch h
theorem G3 {c:Fn} {n:Nat} (hc:AlkO (bq:=bq) c n) {S:List Ob} {ds vs:List D} {fp:List Nat} (o:Ows bq S ds vs fp) (hv:∀v∈vs,NvD n v=true) (hlen:vs.length≤1000) {one other:D} {P:D→List Ob→Prop}
 (h1:∀(k:Nat) (t:T) (Q:D→T→Prop) (x:D),vs[k]?=some x→Q x t→t.S=S→W (ixD one (.int (k:Int))) t Q) (h2:∀(k:Nat) (t:T) (Q:D→T→Prop) (x:D),ds[k]?=some x→Q x t→t.S=S→W (ixD other (.int (k:Int))) t Q) :
 F2.W (Cc (BP 0) (BO (AI (An c (Ab (Ai (Ad 1) (Ad 0) ixD) (Ab (Ai (Ad 2) (Ad 0) ixD) Ah))))) (Ad 0) (CJ 0 vs.length)) ⟨[none,some (.val one),some (.val other)],S⟩ fun xs t'=>xs=[]∧t'.S=S:=by
 have hl:=o.length
 refine (DR (P:=fun xs t'=>xs=[]∧t'.S=S) (fun acc q t=>acc=[]∧(∀y∈q,∃k:Nat,y = .int k∧k < vs.length)∧∃z,t=⟨[z,some (.val one),some (.val other)],S⟩) _ [] _ ⟨rfl,?_,_,rfl⟩ ?_ ?_).mono ?_
 ·intro y hy
  unfold CJ at hy
  obtain ⟨k,hk,rfl⟩:=List.mem_map.mp hy
  exact ⟨k,by rw [Int.zero_add],by simpa using hk⟩
 ·rintro acc y q t ⟨rfl,hq,z,rfl⟩ _
  obtain ⟨k,rfl,hk⟩:=hq y (by simp)
  refine Gb ?_
  walk_at "w"
  refine h1 k _ _ _ (List.getElem?_eq_getElem hk) ?_ rfl
  walk_at "w"
  refine h2 k _ _ _ (List.getElem?_eq_getElem (by lia)) ?_ rfl
  walk_at "w"
  obtain ⟨fk,ok⟩:=o.at k _ _ (List.getElem?_eq_getElem (by lia)) (List.getElem?_eq_getElem hk)
  refine PureO.use (hc ok (hv _ (List.getElem_mem hk))) ?_
  walk_at "w"
  exact ⟨rfl,fun y hy=>hq y (List.mem_cons_of_mem _ hy),_,rfl⟩
 ·rintro acc t ⟨rfl,_,z,rfl⟩
  exact ⟨rfl,rfl⟩
 ·rintro xs t' ⟨e1,e2⟩
  rw [List.nil_append] at e1
  exact ⟨e1,e2⟩
theorem QE {c:Fn} {n:Nat} (hc:AlkO (bq:=bq) c n):AlkO (bq:=bq) (fnOf 2 2 (Cy c)) (n + 1):=by
 intro S d v fp o hv
 refine A7 rfl ?_
 unfold Cy
 cases o with
 | non=>
   walk_at "y"
   refine Cn rfl rfl rfl rfl ?_
   walk_at "y"
   exact ⟨.bl true,_,rfl,rfl,rfl⟩
 | int i=>
   walk_at "y"
   refine Cn rfl rfl rfl rfl ?_
   walk_at "y"
   exact ⟨by simp,rfl⟩
 | str x=>
   walk_at "y"
   refine Cn rfl rfl rfl rfl ?_
   walk_at "y"
   exact ⟨by simp,rfl⟩
 | @tup ds vs fp o=>
   simp only [NvD,Bool.and_eq_true,decide_eq_true_eq,List.all_eq_true] at hv
   have hl:=o.length
   walk_at "y"
   refine Cn rfl rfl rfl rfl ?_
   walk_at "y"
   refine Cn rfl rfl rfl rfl ?_
   walk_at "y"
   refine EW (by rw [hl];simp) ?_
   walk_at "y"
   refine Eb (CL hv.1) ?_
   refine (G3 hc o hv.2 hv.1 (P:=fun _ _=>True) (fun k t Q x e q _=>GF (D6 e) q) (fun k t Q x e q _=>GF (D6 e) q)).mono ?_
   rintro xs t' ⟨rfl,e2⟩
   walk_at "y"
   exact ⟨rfl,e2⟩
 | @lst ds vs fp _ o=>
   simp only [NvD,Bool.and_eq_true,decide_eq_true_eq,List.all_eq_true] at hv
   have hl:=o.length
   walk_at "y"
   refine Cn rfl rfl rfl rfl ?_
   walk_at "y"
   refine Cn rfl rfl rfl rfl ?_
   walk_at "y"
   refine EW (by rw [hl];simp) ?_
   walk_at "y"
   refine Eb (CL hv.1) ?_
   refine (G3 hc o hv.2 hv.1 (P:=fun _ _=>True) (fun k t Q x e q _=>DK (D6 e) q) (fun k t Q x e q _=>DK (D6 e) q)).mono ?_
   rintro xs t' ⟨rfl,e2⟩
   walk_at "y"
   exact ⟨rfl,e2⟩
 | @obj j ds vs fp e o nn=>
   simp only [NvD,Bool.and_eq_true,decide_eq_true_eq,List.all_eq_true] at hv
   have hl:=o.length
   walk_at "y"
   refine Cn rfl rfl rfl rfl ?_
   walk_at "y"
   refine Et e rfl ?_
   walk_at "y"
   refine Lw e rfl rfl ?_
   walk_at "y"
   refine Nf e ?_
   walk_at "y"
   refine EW (by rw [hl];simp) ?_
   walk_at "y"
   refine Eb (CL hv.1) ?_
   refine (G3 hc o hv.2 hv.1 (P:=fun _ _=>True) (fun k t Q x e q _=>DK (D6 e) q) (fun k t Q x e' q hS=>Wm (by rw [hS];exact e) (D6 e') q)).mono ?_
   rintro xs t' ⟨rfl,e2⟩
   walk_at "y"
   exact ⟨rfl,e2⟩
end
local macro_rules | `(tactic| walk_at "y1")=>`(tactic| first | walk_at "w1" | ((with_reducible refine' F9 ?wv ?_);(case wv=>exact rfl)))
local macro_rules | `(tactic| walk_at "y")=>`(tactic| repeat (walk_at "y1"))
mutual
def szV:D→List Nat
 | .tup xs=>BL xs
 | .lst xs=>BL xs++[xs.length]
 | _=>[]
def BL:List D→List Nat
 | []=>[]
 | d :: r=>szV d++BL r
end
mutual
def spV:D→D
 | .tup xs=>.tup (Dq xs)
 | .lst xs=>.lst (Dq xs++[.str "q"])
 | d=>d
def Dq:List D→List D
 | []=>[]
 | d :: r=>spV d :: Dq r
end
theorem F6:∀xs:List D,(Dq xs).length=xs.length
 | []=>by rw [Dq]
 | d :: r=>by rw [Dq,List.length_cons,List.length_cons,F6 r]
theorem Lm:∀a b:List D,BL (a++b)=BL a++BL b
 | [],b=>by rw [BL];rfl
 | d :: r,b=>by rw [List.cons_append,BL,BL,Lm r b,List.append_assoc]
theorem Qt:∀(n:Nat) (v:D),NvD n v=true→szV (spV v)=(szV v).map (· + 1)
 | 0,v,h=>nomatch h
 | n + 1,v,h=>by
   have row:∀xs:List D,(∀x∈xs,NvD n x=true)→BL (Dq xs)=(BL xs).map (· + 1):=by
    intro xs
    induction xs with
    | nil=>intro _;rw [Dq,BL];rfl
    | cons x r ih=>
      intro hx
      rw [Dq,BL,BL,List.map_append,Qt n x (hx x (by simp)),ih fun y hy=>hx y (List.mem_cons_of_mem _ hy)]
   cases v <;> simp only [NvD,Bool.false_eq_true] at h
   ·simp [spV,szV]
   ·simp [spV,szV]
   ·simp [spV,szV]
   ·next xs=>
    simp only [Bool.and_eq_true,decide_eq_true_eq,List.all_eq_true] at h
    rw [spV,szV,szV,row xs h.2]
   ·next xs=>
    simp only [Bool.and_eq_true,decide_eq_true_eq,List.all_eq_true] at h
    rw [spV,szV,szV,Lm,row xs h.2,List.map_append]
    have e:BL [D.str "q"]=[]:=by simp [BL,szV]
    rw [e,List.append_nil,List.length_append,F6]
    rfl
section
variable {bq:Bool}
def NvQ:Nat→D→Bool
 | 0,_=>false
 | _ + 1,.non=>true
 | _ + 1,.int _=>true
 | _ + 1,.str _=>true
 | n + 1,.lst xs=>decide (xs.length≤1001) && xs.all (NvQ n)
 | n + 1,.tup xs=>decide (xs.length≤1001) && xs.all (NvQ n)
 | _ + 1,_=>false
def SizO (f:Fn) (n:Nat):Prop:=∀{bq:Bool} {S:List Ob} {d v:D} {fp:List Nat},Ow bq S d v fp→NvQ n v=true→(szV v).length≤20000→PureO S f [d] (.lst ((szV v).map fun k:Nat=>D.int (k:Int)))
theorem SizO.zero {f:Fn}:SizO f 0:=fun _ h=>nomatch h
theorem Hm {c:Fn} {n:Nat} (hc:SizO c n) {S:List Ob} {v0:D}:∀{ds vs:List D} {fp:List Nat} (acc:List Nat) (e:Option Sl),Ows bq S ds vs fp→(∀v∈vs,NvQ n v=true)→acc.length + (BL vs).length≤20000→
 F2.W (Cs (BP 2) (GA 1 (bnd (Ad 1) fun x=>bnd (An c (Ab (Ad 2) Ah)) fun y=>Im x y)) ds) ⟨[some (.val v0),some (.own (acc.map fun k:Nat=>D.int (k:Int))),e],S⟩ fun o t=>o = .next∧∃e',t=⟨[some (.val v0),some (.own ((acc++BL vs).map fun k:Nat=>D.int (k:Int))),e'],S⟩:=by
 intro ds vs fp acc e o
 induction vs generalizing ds fp acc e with
 | nil=>
   intro _ _
   cases o
   rw [BL,List.append_nil]
   exact ⟨_,_,rfl,rfl,e,rfl⟩
 | cons v vs ih=>
   intro hv hl
   cases o with
   | @cons d _ f1 f2 ds _ o1 o2 _=>
     rw [BL,List.length_append] at hl
     have hL:LIM=100000:=rfl
     refine W_forL_cons.mpr ?_
     walk_at "w"
     refine PureO.use (hc o1 (hv v (by simp)) (by lia)) ?_
     walk_at "w"
     refine BC (by rw [List.length_map,List.length_map,hL];lia) ?_
     walk_at "w"
     have:=ih (acc++szV v) (some (.val d)) o2 (fun x hx=>hv x (List.mem_cons_of_mem _ hx)) (by rw [List.length_append];lia)
     rw [BL,←List.append_assoc]
     rw [List.map_append] at this
     exact this
theorem OC {k:Nat} {ds:List D} {t:T} {Q:List D→T→Prop} (e:t.S[k]?=some (.lst ds)) (h:Q ds t):W (Ey [.obj k]) t Q:=⟨_,_,by simp only [Ey,e],h⟩
theorem Jd {vs:List D}:szV (.tup vs)=BL vs:=by rw [szV]
theorem Jc {vs:List D}:szV (.lst vs)=BL vs++[vs.length]:=by rw [szV]
theorem Sa {c:Fn} {n:Nat} (hc:SizO c n):SizO (fnOf 1 3 (CF c)) (n + 1):=by
 intro bq S d v fp o hv hl
 have hL:LIM=100000:=rfl
 refine A7 rfl ?_
 unfold CF
 cases o with
 | non=>
   walk_at "y"
   refine Cn rfl rfl rfl rfl ?_
   walk_at "y"
   exact ⟨by simp [szV],rfl⟩
 | int i=>
   walk_at "y"
   refine Cn rfl rfl rfl rfl ?_
   walk_at "y"
   exact ⟨by simp [szV],rfl⟩
 | str x=>
   walk_at "y"
   refine Cn rfl rfl rfl rfl ?_
   walk_at "y"
   exact ⟨by simp [szV],rfl⟩
 | @tup ds vs fp o=>
   simp only [NvQ,Bool.and_eq_true,decide_eq_true_eq,List.all_eq_true] at hv
   rw [Jd] at hl ⊢
   walk_at "y"
   refine Cn rfl rfl rfl rfl ?_
   walk_at "y"
   refine (Hm hc (v0:=.tup ds) [] none o hv.2 (by simpa using hl)).mono ?_
   rintro oo t ⟨rfl,e',rfl⟩
   walk_at "y"
   exact ⟨rfl,rfl⟩
 | @lst ds vs fp _ o=>
   simp only [NvQ,Bool.and_eq_true,decide_eq_true_eq,List.all_eq_true] at hv
   rw [Jc] at hl ⊢
   rw [List.length_append,List.length_singleton] at hl
   have hlen:=o.length
   walk_at "y"
   refine Cn rfl rfl rfl rfl ?_
   walk_at "y"
   refine (Hm hc (v0:=.lst ds) [] none o hv.2 (by simp;lia)).mono ?_
   rintro oo t ⟨rfl,e',rfl⟩
   walk_at "y"
   refine BC (by rw [List.length_map,hL];simp;lia) ?_
   walk_at "y"
   refine ⟨?_,rfl⟩
   rw [hlen]
   simp only [List.map_nil,List.nil_append,List.map_append,List.map_cons]
 | @obj k ds vs fp e o nn=>
   simp only [NvQ,Bool.and_eq_true,decide_eq_true_eq,List.all_eq_true] at hv
   rw [Jc] at hl ⊢
   rw [List.length_append,List.length_singleton] at hl
   have hlen:=o.length
   walk_at "y"
   refine Lw e rfl rfl ?_
   walk_at "y"
   refine OC e ?_
   walk_at "y"
   refine (Hm hc (v0:=.obj k) [] none o hv.2 (by simp;lia)).mono ?_
   rintro oo t ⟨rfl,e',rfl⟩
   walk_at "y"
   refine Et e rfl ?_
   walk_at "y"
   refine Nf e ?_
   walk_at "y"
   refine BC (by rw [List.length_map,hL];simp;lia) ?_
   walk_at "y"
   refine ⟨?_,rfl⟩
   rw [hlen]
   simp only [List.map_nil,List.nil_append,List.map_append,List.map_cons]
theorem N1:∀(n:Nat) (v:D),NvD n v=true→NvQ n v=true
 | 0,v,h=>nomatch h
 | n + 1,v,h=>by
   cases v <;> simp only [NvD,Bool.false_eq_true] at h <;> simp only [NvQ]
   all_goals
    simp only [Bool.and_eq_true,decide_eq_true_eq,List.all_eq_true] at h ⊢
    exact ⟨by lia,fun x hx=>N1 n x (h.2 x hx)⟩
theorem Hn:∀{xs:List D} {y:D},y∈Dq xs→∃x∈xs,y=spV x
 | [],y,h=>by rw [Dq] at h;cases h
 | x :: r,y,h=>by
   rw [Dq] at h
   rcases List.mem_cons.mp h with rfl | h
   ·exact ⟨x,by simp,rfl⟩
   ·obtain ⟨z,hz,e⟩:=Hn h
    exact ⟨z,List.mem_cons_of_mem _ hz,e⟩
theorem KY:∀(n:Nat) (v:D),NvD n v=true→NvQ (n + 1) (spV v)=true
 | 0,v,h=>nomatch h
 | n + 1,v,h=>by
   cases v <;> simp only [NvD,Bool.false_eq_true] at h
   ·simp [spV,NvQ]
   ·simp [spV,NvQ]
   ·simp [spV,NvQ]
   ·next xs=>
    simp only [Bool.and_eq_true,decide_eq_true_eq,List.all_eq_true] at h
    rw [spV]
    simp only [NvQ,Bool.and_eq_true,decide_eq_true_eq,List.all_eq_true]
    refine ⟨by rw [F6];lia,fun y hy=>?_⟩
    obtain ⟨x,hx,rfl⟩:=Hn hy
    exact KY n x (h.2 x hx)
   ·next xs=>
    simp only [Bool.and_eq_true,decide_eq_true_eq,List.all_eq_true] at h
    rw [spV]
    simp only [NvQ,Bool.and_eq_true,decide_eq_true_eq,List.all_eq_true]
    refine ⟨by rw [List.length_append,F6];simp;lia,fun y hy=>?_⟩
    rcases List.mem_append.mp hy with hy | hy
    ·obtain ⟨x,hx,rfl⟩:=Hn hy
     exact KY n x (h.2 x hx)
    ·have:y = .str "q":=by simpa using hy
     subst this
     rfl
def Spd (S S':List Ob) (fp:List Nat):Prop:=S'.length=S.length∧∀j,j∉fp→S'[j]?=S[j]?
def SpoO (f:Fn) (n:Nat):Prop:=∀{S:List Ob} {d v:D} {fp:List Nat},Ow false S d v fp→NvD n v=true→Wf f [d] S fun r S'=>r = .non∧Spd S S' fp∧Ow false S' d (spV v) fp
theorem SpoO.zero {f:Fn}:SpoO f 0:=fun _ h=>nomatch h
theorem Mu {c:Fn} {n:Nat} (hc:SpoO c n) {v0:D}:∀{S:List Ob} {ds vs:List D} {fp:List Nat} (e:Option Sl),Ows false S ds vs fp→(∀v∈vs,NvD n v=true)→
 F2.W (Cs (BP 1) (Ec (An c (Ab (Ad 1) Ah))) ds) ⟨[some (.val v0),e],S⟩ fun o t=>o = .next∧∃e' S',t=⟨[some (.val v0),e'],S'⟩∧Spd S S' fp∧Ows false S' ds (Dq vs) fp:=by
 intro S ds vs fp e o
 induction vs generalizing S ds fp e with
 | nil=>
   intro _
   cases o
   exact ⟨_,_,rfl,rfl,e,S,rfl,⟨rfl,fun _ _=>rfl⟩,by rw [Dq];exact .nil⟩
 | cons v vs ih=>
   intro hv
   cases o with
   | @cons d _ f1 f2 ds _ o1 o2 hd=>
     refine W_forL_cons.mpr ?_
     walk_at "w"
     refine (hc o1 (hv v (by simp))).mono ?_
     rintro r S1 ⟨rfl,s1,o3⟩
     walk_at "w"
     have o4:Ows false S1 ds vs f2:=o2.mono fun k hk=>s1.2 k fun z=>hd k z hk
     refine (ih (some (.val d)) o4 fun x hx=>hv x (List.mem_cons_of_mem _ hx)).mono ?_
     rintro oo t ⟨rfl,e',S2,rfl,s2,o5⟩
     refine ⟨rfl,e',S2,rfl,⟨s2.1.trans s1.1,fun j hj=>?_⟩,?_⟩
     ·rw [s2.2 j fun z=>hj (List.mem_append_right _ z),s1.2 j fun z=>hj (List.mem_append_left _ z)]
     ·rw [Dq]
      exact .cons (o3.mono fun k hk=>s2.2 k (hd k hk)) o5 hd
theorem T4 {c:Fn} {n:Nat} (hc:SpoO c n):SpoO (fnOf 1 2 (CG c)) (n + 1):=by
 intro S d v fp o hv
 have hL:LIM=100000:=rfl
 refine A7 rfl ?_
 unfold CG
 cases o with
 | non=>
   walk_at "y"
   refine Cn rfl rfl rfl rfl ?_
   walk_at "y"
   exact ⟨rfl,⟨rfl,fun _ _=>rfl⟩,by simp only [spV];exact .non⟩
 | int i=>
   walk_at "y"
   refine Cn rfl rfl rfl rfl ?_
   walk_at "y"
   exact ⟨rfl,⟨rfl,fun _ _=>rfl⟩,by simp only [spV];exact .int i⟩
 | str x=>
   walk_at "y"
   refine Cn rfl rfl rfl rfl ?_
   walk_at "y"
   exact ⟨rfl,⟨rfl,fun _ _=>rfl⟩,by simp only [spV];exact .str x⟩
 | @tup ds vs fp o=>
   simp only [NvD,Bool.and_eq_true,decide_eq_true_eq,List.all_eq_true] at hv
   walk_at "y"
   refine Cn rfl rfl rfl rfl ?_
   walk_at "y"
   refine (Mu hc (v0:=.tup ds) none o hv.2).mono ?_
   rintro oo t ⟨rfl,e',S',rfl,s1,o1⟩
   walk_at "y"
   exact ⟨rfl,s1,by rw [spV];exact .tup o1⟩
 | @lst ds vs fp z o=>cases z
 | @obj k ds vs fp e o nn=>
   simp only [NvD,Bool.and_eq_true,decide_eq_true_eq,List.all_eq_true] at hv
   have hlen:=o.length
   walk_at "y"
   refine Lw e rfl rfl ?_
   walk_at "y"
   refine OC e ?_
   walk_at "y"
   refine (Mu hc (v0:=.obj k) none o hv.2).mono ?_
   rintro oo t ⟨rfl,e',S',rfl,s1,o1⟩
   have e1:S'[k]?=some (.lst ds):=(s1.2 k nn).trans e
   have hk:=(List.getElem?_eq_some_iff.mp e1).1
   walk_at "y"
   refine Et e1 rfl ?_
   walk_at "y"
   refine QC (k:=k) ?_
   walk_at "y"
   refine ⟨rfl,ds,e1,?_⟩
   walk_at "y"
   refine ⟨ds,ds++[.str (Str.ofString "q")],e1,Jg (by lia),?_⟩
   walk_at "y"
   have o2:Ows false (S'.set k (.lst (ds++[.str (Str.ofString "q")]))) (ds++[.str (Str.ofString "q")]) (Dq vs++[.str (Str.ofString "q")]) (fp++[]):=
    Ows.snoc (.str _) (o1.mono fun j hj=>List.getElem?_set_ne fun z=>by rw [z] at nn;exact nn hj) (fun _ _ z=>nomatch z)
   rw [List.append_nil] at o2
   refine ⟨rfl,⟨by rw [List.length_set];exact s1.1,fun j hj=>?_⟩,?_⟩
   ·rw [List.getElem?_set_ne fun z=>hj (by rw [z];exact List.mem_cons_self)]
    exact s1.2 j fun z=>hj (List.mem_cons_of_mem _ z)
   ·rw [spV]
    exact .obj (List.getElem?_set_self hk) o2 nn
end
structure ValT (τ:Ob) (k r:Nat) (s:Sh) (c:Nat) (v:D) (S':List Ob):Prop where
 fit:Ap s v=true
 len:wt s v≤c
 pool:RoomT τ k r S'
def J0 (τ:Ob) (f:Fn) (m:Nat):Prop:=∀(s:Sh) (k r:Nat) (S:List Ob),s.depth≤m→wf s=true→RoomT τ k (r + v6 m) S→Wf f [.obj k,s.d] S fun v S'=>ValT τ k r s (lB m) v S'
theorem Py {τ:Ob} {cv ct cg:Fn} {m:Nat} (ht:PTakeT τ ct) (hg:Sx cg) (hv:m=0∨J0 τ cv m):J0 τ (fnOf 2 6 (CH cv ct cg)) (m + 1):=by
 intro s k r S hd hw p0
 have rec_:∀{s':Sh} {r':Nat} {S':List Ob} {P:D→List Ob→Prop},s'.depth≤m→wf s'=true→RoomT τ k (r' + v6 m) S'→(∀v S'',Ap s' v=true→wt s' v≤lB m→RoomT τ k r' S''→P v S'')→Wf cv [.obj k,s'.d] S' P:=fun {s' r' S' P} h1 h2 q p=>by
  rcases hv with rfl | hv
  ·exact absurd (Nat.lt_of_lt_of_le s'.depth_pos h1) (Nat.not_lt_zero _)
  ·exact (hv s' k r' S' h1 h2 q).mono fun v S'' ⟨g1,g2,g3⟩=>p v S'' g1 g2 g3
 have ev:v6 (m + 1)=20 + v6 m * 3:=rfl
 rw [ev] at p0
 refine A7 rfl ?_
 unfold CH
 cases s with
 | nothing=>
   rw [Sh.d]
   walk_at "w"
   exact ⟨by rw [Ap];rfl,by rw [wt,lB];lia,p0.drop⟩
 | number lo hi=>
   obtain ⟨w0,w1,w2,w3⟩:=Te hw
   rw [Sh.d]
   walk_at "w"
   refine ht.use (r:=r + 9) (hi - lo + 1) (p0.mono (by lia)) (fun g S1 z0 z1 p1=>?_) rfl w1 w2
   walk_at "w"
   refine ht.use (r:=r + 8) 3 p1 fun i S2 i0 i1 p2=>?_
   obtain ⟨d,ed,q,rfl,q0,q1⟩:=FY (xs:=[D.int lo,D.int hi,D.int (lo + g)]) i0 (by simpa using i1) (p:=fun d=>∃m:Int,d = .int m∧lo≤m∧m≤hi) (by
    simp only [List.forall_mem_cons]
    exact ⟨⟨_,rfl,Int.le_refl _,w0⟩,⟨_,rfl,w0,Int.le_refl _⟩,⟨_,rfl,Rh z0 z1⟩,fun _ z=>nomatch z⟩)
   refine DK ed ?_
   exact ⟨by simp only [Ap,Bool.and_eq_true,decide_eq_true_eq];exact ⟨q0,q1⟩,by rw [wt,lB];lia,p2.drop⟩
 | text q=>
   simp only [wf,Bool.and_eq_true,decide_eq_true_eq] at hw
   rw [Sh.d]
   walk_at "w"
   refine ht.use (r:=r + 18) 2 (p0.mono (by lia)) fun i S1 i0 i1 p1=>?_
   walk_at "w"
   refine HK (fun o t'=>o = .next∧∃sg:Str,SgOk sg∧t'=⟨[some (.val (.obj k)),some (.val (.tup [.str "text",.int q])),some (.val (.str sg)),none,none,none],S1⟩) (fun _=>?_) (fun _=>?_) ?_
   ·walk_at "w"
    refine hg.use ?_
    exact ⟨rfl,sgB,T2,rfl⟩
   ·walk_at "w"
    exact ⟨rfl,sgA,T1,rfl⟩
   rintro o t' ⟨rfl,sg,hsg,rfl⟩
   walk_at "w"
   refine ht.use (r:=r + 17) ((if (7:Int) < q then 7 else q) + 1) (p1.mono (by lia)) (fun g S2 z0 z1 p2=>?_) rfl (by split <;> lia) (by split <;> lia)
   obtain ⟨n,rfl,n7,nq⟩:=VU hw.1 z0 z1
   walk_at "w"
   refine U0 ?_
   walk_at "w"
   refine Eb (CL n7) ?_
   refine (DR (P:=fun xs t'=>∃ns:List Nat,xs=ns.map (fun n=>D.str ⟨#[n]⟩)∧ns.all Dk=true∧ns.length=n∧RoomT τ k r t'.S) (fun acc q t=>∃(ns:List Nat) (S':List Ob) (z:Option Sl),acc=ns.map (fun n=>D.str ⟨#[n]⟩)∧ns.all Dk=true∧ns.length + q.length=n∧RoomT τ k (r + 1 * q.length) S'∧t=⟨[z,some (.val (.str sg)),some (.val (.obj k))],S'⟩) _ [] _ ⟨[],S2,_,rfl,rfl,by simp [CJ],p2.mono (by rw [BW,Int.toNat_natCast];lia),rfl⟩ ?_ ?_).mono ?_
   ·rintro acc d q t ⟨ns,S',z,rfl,h1,h2,h3,rfl⟩ _
    rw [List.length_cons] at h2 h3
    refine Gb (GG ?_)
    rw [if_pos rfl]
    walk_at "w"
    refine Kc (Nat.le_trans hsg.2.2 (by show 100≤100000;decide)) ?_
    walk_at "w"
    refine ht.use (sg.length:Int) h3.loop (fun i S5 i0 i1 p5=>?_) rfl (by have:=hsg.2.1;lia) (by have:=hsg.2.2;lia)
    obtain ⟨c,ec,hc⟩:=hsg.at i0 i1
    refine W_ix_str.mpr ⟨Nat.le_trans hsg.2.2 (by decide),c,ec,?_⟩
    refine ⟨ns++[c],S5,_,by rw [List.map_append];rfl,by simp [List.all_append,h1,hc],Hd h2,p5,rfl⟩
   ·rintro acc t ⟨ns,S',z,rfl,h1,h2,h3,rfl⟩
    exact ⟨ns,rfl,h1,h2,h3.drop⟩
   ·rintro xs t' ⟨ns,e,h1,h2,h3⟩
    rw [List.nil_append] at e
    subst e h2
    refine BC (KQ (n:=7) (by rw [List.length_map];exact n7)) ?_
    walk_at "w"
    refine ⟨_,_,_,rfl,rfl,GD ns,⟨by decide +kernel,by rw [List.length_map];clear p0 p1;lia⟩,?_⟩
    refine Le ?_
    refine ⟨?_,?_,h3⟩
    ·rw [Ap]
     simp only [Bool.and_eq_true,decide_eq_true_eq]
     rw [B1,HJ]
     exact ⟨nq,h1⟩
    ·rw [wt,B1,HJ,lB]
     lia
 | list s q=>
   simp only [wf,Bool.and_eq_true,decide_eq_true_eq] at hw
   rw [Sh.d]
   obtain ⟨kx,kr,hk⟩:=Q9 s
   rw [hk]
   walk_at "w"
   refine Wg ⟨rfl,rfl⟩ ?_
   rw [if_neg (by decide)]
   generalize inV (toV (.str kx)) (([D.str "list",D.str "pair",D.str "choice"]:List D).map toV)=bb
   walk_at "w"
   obtain ⟨most,em,hm⟩:∃most:Int,atI [D.int 3,D.int 1] (if bb=true then 1 else 0)=some (.int most)∧(most=3∨most=1):=by
    cases bb
    ·exact ⟨3,rfl,.inl rfl⟩
    ·exact ⟨1,rfl,.inr rfl⟩
   refine DK em ?_
   walk_at "w"
   refine ht.use (r:=r + v6 m * 3) ((if most < q then most else q) + 1) (p0.mono (by lia)) (fun g S1 z0 z1 p1=>?_) rfl (by split <;> lia) (by split <;> lia)
   obtain ⟨n,rfl,n2,nq⟩:=VW hm hw.1.1 z0 z1
   walk_at "w"
   refine Eb (CL n2) ?_
   have nb2:v6 m * n≤v6 m * 3:=Nat.mul_le_mul_left _ n2
   refine (DR (P:=fun xs t'=>(∀x∈xs,Ap s x=true)∧xs.length=n∧(xs.map fun e=>wt s e + 1).sum≤(lB m + 1) * n∧RoomT τ k r t'.S) (fun acc l t=>∃(S':List Ob) (z:Option Sl),(∀x∈acc,Ap s x=true)∧acc.length + l.length=n∧(acc.map fun e=>wt s e + 1).sum + (lB m + 1) * l.length≤(lB m + 1) * n∧RoomT τ k (r + v6 m * l.length) S'∧t=⟨[z,some (.val (.obj k)),some (.val (.tup [.str "list",.tup (.str kx :: kr),.int q]))],S'⟩) _ [] _ ⟨S1,_,(fun _ h=>nomatch h),by simp [CJ],by rw [BW,Int.toNat_natCast];simp,p1.mono (by rw [BW,Int.toNat_natCast];lia),rfl⟩ ?_ ?_).mono ?_
   ·rintro acc d l t ⟨S',z,h1,h2,h3,h4,rfl⟩ _
    rw [List.length_cons] at h2 h3 h4
    refine Gb (GG ?_)
    rw [if_pos rfl]
    walk_at "w"
    rw [←hk]
    refine rec_ (VD hd) hw.2 h4.loop fun v S5 f1 f2 p5=>?_
    refine ⟨S5,_,Mf h1 f1,Hd h2,?_,p5,rfl⟩
    rw [List.map_append,List.sum_append]
    simp only [List.map_cons,List.map_nil,List.sum_cons,List.sum_nil]
    rw [Nat.mul_succ] at h3
    lia
   ·rintro acc t ⟨S',z,h1,h2,h3,h4,rfl⟩
    exact ⟨h1,h2,by simpa using h3,h4.drop⟩
   ·rintro xs t' ⟨h1,h2,h3,h4⟩
    rw [List.nil_append] at h1 h2 h3
    subst h2
    refine BC (KQ (n:=3) n2) ?_
    refine ⟨?_,?_,h4⟩
    ·rw [Ap,Bool.and_eq_true,decide_eq_true_eq,List.all_eq_true]
     exact ⟨nq,h1⟩
    ·rw [wt,lB]
     have:=Nat.mul_le_mul_left (lB m + 1) n2
     lia
 | pair a b=>
   simp only [wf,Bool.and_eq_true] at hw
   rw [Sh.d]
   walk_at "w"
   refine rec_ (SI hd).1 hw.1 (r':=r + v6 m) (p0.mono (by lia)) fun v S1 f1 f2 p1=>?_
   walk_at "w"
   refine rec_ (SI hd).2 hw.2 p1 fun u S2 g1 g2 p2=>?_
   walk_at "w"
   exact ⟨by simp only [Ap,f1,g1,Bool.and_self],by rw [wt,lB];lia,p2⟩
 | choice ss=>
   simp only [wf,Bool.and_eq_true,decide_eq_true_eq] at hw
   rw [Sh.d]
   walk_at "w"
   rw [Ea]
   refine ht.use (r:=r + v6 m) (ss.length:Int) (p0.mono (by lia)) (fun i S1 i0 i1 p1=>?_) rfl (by clear p0;lia) (by clear p0;lia)
   obtain ⟨j,rfl⟩:=Int.eq_ofNat_of_zero_le i0
   have hj:j < ss.length:=Int.ofNat_lt.mp i1
   have e1:ss[j]?=some ss[j]:=List.getElem?_eq_getElem hj
   walk_at "w"
   refine GF (Qr hj) ?_
   walk_at "w"
   refine rec_ (VC hd _ (List.getElem_mem hj)) (Dm hw.2 _ (List.getElem_mem hj)) p1 fun v S2 f1 f2 p2=>?_
   walk_at "w"
   have hof:IA (Str.ofString "of")=true:=by decide +kernel
   refine ⟨?_,?_,p2⟩
   ·simp only [Ap,Bool.and_eq_true,decide_eq_true_eq]
    exact ⟨⟨hof,i0,i1⟩,by rw [Int.toNat_natCast,Da ss _ _ _ e1];exact f1⟩
   ·rw [wt,Int.toNat_natCast,EK ss _ _ _ e1]
    exact VS f2
theorem M4 {τ:Ob} {ct cs:Fn} (ht:PTakeT τ ct) (hs:PShT τ cs 3):Kh τ (fnOf 1 4 (CZ ct cs)):=by
 intro k r S p0
 refine A7 rfl ?_
 unfold CZ
 walk_at "w"
 refine hs.use (d:=2) (r:=r + 90) (by decide) (p0.mono (by show _ + 910≤_;lia)) fun s S1 s1 s2 sc p1=>?_
 walk_at "w"
 refine ht.use (r:=r + 89) 4 p1 fun g S2 z0 z1 p2=>?_
 obtain ⟨dd,ed,m,rfl,m0⟩:=FY (xs:=[D.int 0,D.int 0,D.int 1,D.int 3]) z0 (by simpa using z1) (p:=fun d=>∃m:Nat,d = .int (m:Int)∧m≤3) (by
  simp only [List.forall_mem_cons]
  exact ⟨⟨0,rfl,by decide⟩,⟨0,rfl,by decide⟩,⟨1,rfl,by decide⟩,⟨3,rfl,by decide⟩,fun _ z=>nomatch z⟩)
 refine DK ed ?_
 walk_at "w"
 refine Eb (CL m0) ?_
 refine FM (fun q t=>∃(s:Sh) (S':List Ob) (e2 e3:Option Sl),s.depth + q.length≤6∧wf s=true∧cnt s + 2 * q.length≤60∧RoomT τ k (r + 2 * q.length) S'∧t=⟨[some (.val (.obj k)),some (.val s.d),e2,e3],S'⟩) _ _ ⟨s,S2,none,none,by rw [BW,Int.toNat_natCast];lia,s2,by rw [BW,Int.toNat_natCast];have:cB 2=31:=rfl;lia,p2.mono (by rw [BW,Int.toNat_natCast];lia),rfl⟩ ?_ ?_
 ·rintro d q t ⟨s,S',e2,e3,h1,h2,hcq,h3,rfl⟩ _
  rw [List.length_cons] at h1 h3 hcq
  walk_at "w"
  refine ht.use (r:=r + 2 * q.length + 1) 3 (h3.mono (by lia)) fun a S3 a0 a1 p3=>?_
  obtain ⟨dd,ed,m,rfl,m0,m1⟩:=FY (xs:=[D.int 1,D.int 2,D.int 2]) a0 (by simpa using a1) (p:=fun d=>∃m:Int,d = .int m∧0≤m∧m≤250) (by
   simp only [List.forall_mem_cons]
   exact ⟨⟨_,rfl,by decide,by decide⟩,⟨_,rfl,by decide,by decide⟩,⟨_,rfl,by decide,by decide⟩,fun _ z=>nomatch z⟩)
  refine DK ed ?_
  walk_at "w"
  refine ht.use (r:=r + 2 * q.length) 3 p3 fun b S4 b0 b1 p4=>?_
  obtain ⟨dd,ed,s',rfl,q1,q2,q3⟩:=FY (xs:=[D.tup [.str "list",s.d,.int m],.tup [.str "pair",s.d,.tup [.str "nothing"]],.tup [.str "choice",.tup [.tup [.str "nothing"],s.d]]]) b0 (by simpa using b1) (p:=fun d=>∃s':Sh,d=s'.d∧s'.depth≤s.depth + 1∧wf s'=true∧cnt s'≤cnt s + 2) (by
   simp only [List.forall_mem_cons]
   have:=s.depth_pos
   refine ⟨⟨.list s m,by rw [Sh.d],by rw [Sh.depth];exact Nat.le_refl _,by simp only [wf,h2,Bool.and_true,Bool.and_eq_true,decide_eq_true_eq];exact ⟨m0,m1⟩,by rw [cnt];lia⟩,⟨.pair s .nothing,by rw [Sh.d,Sh.d],by rw [Sh.depth,Sh.depth];lia,by simp only [wf,h2,Bool.and_self],by simp [cnt]⟩,⟨.choice [.nothing,s],by rw [Sh.d,shD,shD,shD,Sh.d],by rw [Sh.depth,Dj,Dj,Dj,Sh.depth];lia,by simp only [wf,wfs,h2,Bool.and_true,List.length_cons,List.length_nil];rfl,by simp [cnt,Io];lia⟩,fun _ z=>nomatch z⟩)
  refine DK ed ?_
  exact ⟨s',S4,_,_,by lia,q2,by lia,p4,rfl⟩
 ·rintro t ⟨s,S',e2,e3,h1,h2,hcq,h3,rfl⟩
  walk_at "w"
  exact ⟨⟨s,rfl,by lia,h2,by lia⟩,h3.drop⟩
local macro_rules | `(tactic| walk_at "y1")=>`(tactic| first | walk_at "w1" | ((with_reducible refine' F9 ?wv ?_);(case wv=>exact rfl)))
local macro_rules | `(tactic| walk_at "y")=>`(tactic| repeat (walk_at "y1"))
theorem Mv {f:D→Nat}:∀{ds:List D},(∀d∈ds,(szV d).length≤f d)→(BL ds).length≤(ds.map f).sum
 | [],_=>by rw [BL];exact Nat.zero_le _
 | d :: r,h=>by
   rw [BL,List.length_append,List.map_cons,List.sum_cons]
   have h1:=h d (by simp)
   have h2:=Mv (ds:=r) fun x hx=>h x (List.mem_cons_of_mem _ hx)
   lia
theorem Ib:∀(n:Nat) (s:Sh),s.depth≤n→wf s=true→∀v,Ap s v=true→(szV v).length≤wt s v
 | 0,s,h,_,_,_=>absurd s.depth_pos (by lia)
 | n + 1,s,hs,hw,v,hf=>by
   cases s with
   | nothing=>rw [Ee hf];simp [szV]
   | number lo hi=>obtain ⟨i,rfl,_⟩:=DV hf;simp [szV]
   | text q=>obtain ⟨x,rfl,hx⟩:=EU hf;simp [szV]
   | list s q=>
     rw [Sh.depth] at hs
     simp only [wf,Bool.and_eq_true,decide_eq_true_eq] at hw
     obtain ⟨ds,rfl,hl,h⟩:=ES hf
     have:=Mv (f:=fun e=>wt s e + 1) (ds:=ds) fun d m=>Nat.le_succ_of_le (Ib n s (by lia) hw.2 d (h d m))
     rw [Jc,wt,List.length_append,List.length_singleton]
     lia
   | pair a b=>
     rw [Sh.depth] at hs
     simp only [wf,Bool.and_eq_true] at hw
     obtain ⟨x,y,rfl,h1,h2⟩:=ET hf
     have q1:=Ib n a (by lia) hw.1 x h1
     have q2:=Ib n b (by lia) hw.2 y h2
     rw [Jd,BL,BL,BL,wt,List.append_nil,List.length_append]
     lia
   | choice ss=>
     rw [Sh.depth] at hs
     simp only [wf,Bool.and_eq_true] at hw
     obtain ⟨k,x,hk,rfl,h1⟩:=DU hf
     have q1:=Ib n _ (Nat.le_trans (DN (List.getElem_mem hk)) (by lia)) (Dm hw.2 _ (List.getElem_mem hk)) x h1
     rw [Jd,BL,BL,BL,BL,wt,Int.toNat_natCast,EK ss _ _ _ (List.getElem?_eq_getElem hk)]
     simp [szV]
     lia
theorem Mh {S:List Ob}:∀(n:Nat) (v:D),NvD n v=true→Ow true S v v []
 | 0,v,h=>nomatch h
 | n + 1,v,h=>by
   have row:∀xs:List D,(∀x∈xs,NvD n x=true)→Ows true S xs xs []:=by
    intro xs
    induction xs with
    | nil=>intro _;exact .nil
    | cons x r ih=>intro hx;exact .cons (fp:=[]) (Mh n x (hx x (by simp))) (ih fun y hy=>hx y (List.mem_cons_of_mem _ hy)) (fun _ z=>nomatch z)
   cases v <;> simp only [NvD,Bool.false_eq_true] at h
   ·exact .non
   ·exact .int _
   ·exact .str _
   ·next xs=>
    simp only [Bool.and_eq_true,decide_eq_true_eq,List.all_eq_true] at h
    exact .tup (row xs h.2)
   ·next xs=>
    simp only [Bool.and_eq_true,decide_eq_true_eq,List.all_eq_true] at h
    exact .lst rfl (row xs h.2)
theorem Qd {n:Nat}:∀{xs:List D},(∀x∈xs,eqN n x x=some true)→Co (eqN n) xs xs=some true
 | [],_=>rfl
 | x :: r,h=>by
   rw [Co,h x List.mem_cons_self,Qd fun y m=>h y (List.mem_cons_of_mem _ m)]
   rfl
theorem SK (w:List Int):eqN EQD (.lst (w.map D.int)) (.lst (w.map D.int))=some true:=by
 show eqN (39 + 1) _ _=_
 rw [eqN,if_pos rfl]
 refine Qd fun d hd=>?_
 obtain ⟨x,_,rfl⟩:=List.mem_map.mp hd
 simp [eqN,eq0]
def SVW (f:Fn) (n:Nat):Prop:=∀(s:Sh) (v:D),s.depth≤n→wf s=true→Ap s v=true→wt s v≤90000→Pure1 f [s.d,v] (.str (sho s v))
theorem T8 {c cf:Fn} {n:Nat} (hc:ShowOk c n) (hf':FK cf n):SVW (fnOf 2 2 (C2 c cf)) n:=by
 intro s v hs hw hf hl S
 refine A7 rfl ?_
 unfold C2
 walk_at "w"
 refine PureO.use (hf' s hs (Mh n v (D7 n s hs hw v hf)) (EH n s hs hw v hf)) ?_
 rw [hf]
 walk_at "w"
 exact (hc s hs hw v hf hl).use ⟨rfl,rfl⟩
def Kl (f:Fn) (τ:Ob):Prop:=∀(s:Sh) (v:D) (S:List Ob),s.depth≤6→wf s=true→Ap s v=true→wt s v≤20000→S[0]?=some τ→Wf f [s.d,v] S fun r S'=>r = .bl true∧S'[0]?=some τ
theorem Op {cw cr ca cs cz cp:Fn} {τ:Ob} (hw':ShowOk cw 6) (hr:RdW cr τ) (ha:AlkO (bq:=false) ca 6) (hs':SVW cs 6) (hz:SizO cz 7) (hp:SpoO cp 6):Kl (fnOf 2 6 (CA cw cr ca cs cz cp)) τ:=by
 intro s v S hs hw hf hl hτ
 have hL:LIM=100000:=rfl
 have hnv:=D7 6 s hs hw v hf
 have hsz:=Ib 6 s hs hw v hf
 have hlen:=B4 6 s hs hw v hf
 have hS0:=(List.getElem?_eq_some_iff.mp hτ).1
 have hqz:NvQ 7 v=true:=by
  have:=N1 7 v
  have up:NvD 7 v=true:=by
   have h7:=D7 7 s (by lia) hw v hf
   exact h7
  exact this up
 refine A7 rfl ?_
 unfold CA
 walk_at "w"
 refine (hw' s hs hw v hf (by lia)).use ?_
 walk_at "w"
 refine (hs' s v hs hw hf (by lia)).use ?_
 walk_at "w"
 refine EW (by simp) ?_
 walk_at "w"
 refine (hw' s hs hw v hf (by lia)).use ?_
 walk_at "w"
 refine EW (by simp) ?_
 walk_at "w"
 refine (hr s v S hs hw hf (by lia) hτ).mono ?_
 rintro d S1 ⟨fp,g1,o1,f1⟩
 walk_at "w"
 refine PureO.use (ha o1 hnv) ?_
 walk_at "w"
 refine PureO.use (hz o1 hqz (by lia)) ?_
 walk_at "w"
 refine (hp o1 hnv).mono ?_
 rintro r S2 ⟨rfl,s2,o2⟩
 have h02:S2[0]?=some τ:=(s2.2 0 fun z=>by have:=f1 0 z;lia).trans (g1.get hτ)
 have esz:=Qt 6 v hnv
 walk_at "w"
 refine PureO.use (hz o2 (KY 6 v hnv) (by rw [esz,List.length_map];lia)) ?_
 walk_at "w"
 refine (MD (l:=szV v) (ι:=fun k:Nat=>D.int (k:Int)) (f:=fun k:Nat=>D.int ((k:Int) + 1)) (fr:=[]) ?_).mono ?_
 ·intro k _
  walk_at "w"
  exact ⟨rfl,rfl⟩
 ·rintro xs t' ⟨rfl,hS'⟩
  refine BC (by rw [List.length_map,hL];lia) ?_
  have e1:(szV (spV v)).map (fun k:Nat=>D.int (k:Int))=((szV v).map fun k:Nat=>(k:Int) + 1).map D.int:=by
   rw [esz,List.map_map,List.map_map];rfl
  have e2:(szV v).map (fun k:Nat=>D.int ((k:Int) + 1))=((szV v).map fun k:Nat=>(k:Int) + 1).map D.int:=by
   rw [List.map_map];rfl
  rw [e1,e2]
  walk_at "w"
  refine Sk rfl (SK _) ?_
  obtain ⟨S3,eS3⟩:∃S3,S3=t'.S:=⟨_,rfl⟩
  have h03:t'.S[0]?=some τ:=by rw [hS'];exact h02
  walk_at "w"
  refine (hw' s hs hw v hf (by lia)).use ?_
  walk_at "w"
  refine Hc (by simp) ?_
  walk_at "w"
  refine (hr s v _ hs hw hf (by lia) h03).mono ?_
  rintro d2 S4 ⟨fp2,g4,o4,f4⟩
  walk_at "w"
  refine PureO.use (ha o4 hnv) ?_
  walk_at "w"
  refine (hs' s v hs hw hf (by lia)).use ?_
  walk_at "w"
  exact ⟨by simp,g4.get h03⟩
def Gd2 (x:D):Prop:=∃(s:Sh) (l:List D) (v:D),x = .lst [.lst l,v]∧s.d = .tup l∧s.depth≤6∧wf s=true∧Ap s v=true∧wt s v≤20000
def Ii (τ:Ob) (f:Fn):Prop:=∀(k r:Nat) (S:List Ob),RoomT τ k (r + 1000) S→Wf f [.obj k] S fun res S'=>∃s v,res = .tup [s.d,v]∧s.depth≤6∧wf s=true∧Ap s v=true∧wt s v≤20000∧RoomT τ k r S'
theorem JA {α:Type} {f:α→Nat} {b:Nat}:∀{l:List α},(∀a∈l,f a≤b)→(l.map f).sum≤l.length * b
 | [],_=>by simp
 | a :: l,h=>by
   have h1:=h a (by simp)
   have h2:=JA (l:=l) fun x hx=>h x (List.mem_cons_of_mem _ hx)
   rw [List.map_cons,List.sum_cons,List.length_cons,Nat.succ_mul]
   lia
theorem KM {lo hi:Int} {ds:List D} (h:∀d∈ds,∃i:Int,d = .int i∧lo≤i∧i≤hi):∀d∈ds,Ap (.number lo hi) d=true:=by
 intro d hd
 obtain ⟨i,rfl,h1,h2⟩:=h d hd
 simp [Ap,h1,h2]
theorem Fs {s:Sh} {q:Int} {ds:List D} (h1:(ds.length:Int)≤q) (h2:∀d∈ds,Ap s d=true):Ap (.list s q) (.lst ds)=true:=by
 simp only [Ap,Bool.and_eq_true,decide_eq_true_eq,List.all_eq_true]
 exact ⟨h1,h2⟩
theorem GI {s:Sh} {q:Int} {ds:List D} {b:Nat} (h:∀d∈ds,wt s d≤b):wt (.list s q) (.lst ds)≤ds.length * (b + 1) + 2:=by
 rw [wt]
 have:=JA (f:=fun e=>wt s e + 1) (b:=b + 1) (l:=ds) fun d hd=>Nat.succ_le_succ (h d hd)
 lia
theorem LF {lo hi:Int} {d:D}:wt (.number lo hi) d=25:=by cases d <;> rw [wt]
theorem Vk {d:D}:wt .nothing d=1:=by cases d <;> rw [wt]
theorem O4 {τ:Ob} {ct:Fn} (ht:PTakeT τ ct):Ii τ (fnOf 1 6 (Cz ct)):=by
 intro k r S p0
 have hL:LIM=100000:=rfl
 refine A7 rfl ?_
 unfold Cz
 walk_at "w"
 refine ht.use (r:=r + 999) 140 p0 fun g S1 z0 z1 p1=>?_
 obtain ⟨many,em,m4,m143⟩:∃many:Nat,4 + g=(many:Int)∧4≤many∧many≤143:=⟨(4 + g).toNat,by lia,by lia,by lia⟩
 walk_at "w"
 rw [em]
 refine Eb (CL m143) ?_
 refine (DR (P:=fun xs t'=>(∀y∈xs,∃i:Int,y = .int i∧-9≤i∧i≤300)∧xs.length≤143∧RoomT τ k (r + 800) t'.S) (fun acc q t=>∃(S':List Ob) (z:Option Sl),(∀y∈acc,∃i:Int,y = .int i∧-9≤i∧i≤300)∧acc.length + q.length≤143∧RoomT τ k (r + 800 + q.length) S'∧t=⟨[z,some (.val (.obj k))],S'⟩) _ [] _ ⟨S1,_,by simp,by rw [BW,Int.toNat_natCast];simpa using m143,p1.mono (by rw [BW,Int.toNat_natCast];lia),rfl⟩ ?_ ?_).mono ?_
 ·rintro acc d q t ⟨S',z,h1,h2,h3,rfl⟩ _
  rw [List.length_cons] at h2 h3
  refine Gb (GG ?_)
  rw [if_pos rfl]
  walk_at "w"
  refine ht.use (r:=r + 800 + q.length) 310 (h3.mono (by lia)) fun a S3 a0 a1 p3=>?_
  walk_at "w"
  refine ⟨S3,_,?_,by rw [List.length_append,List.length_singleton];lia,p3,rfl⟩
  intro y hy
  rcases List.mem_append.mp hy with hy | hy
  ·exact h1 y hy
  ·exact ⟨a - 9,by simpa using hy,by lia,by lia⟩
 ·rintro acc t ⟨S',z,h1,h2,h3,rfl⟩
  exact ⟨h1,by simpa using h2,h3.drop⟩
 rintro xs t' ⟨h1,h2,p2⟩
 rw [List.nil_append] at h1 h2
 refine BC (by rw [hL];lia) ?_
 have g0:Gd2 (.lst [.lst [.str (Str.ofString "list"),.tup [.str (Str.ofString "number"),.int (-9),.int 300],.int 250],.lst xs]):=by
  refine ⟨.list (.number (-9) 300) 250,_,.lst xs,rfl,by rw [Sh.d,Sh.d],by simp [Sh.depth],by decide +kernel,Fs (by lia) (KM h1),?_⟩
  have:=GI (s:=.number (-9) 300) (q:=250) (b:=25) (ds:=xs) fun d _=>by rw [LF];exact Nat.le_refl _
  lia
 walk_at "w"
 obtain ⟨x0,ex0⟩:∃x0,x0=D.lst [.lst [.str (Str.ofString "list"),.tup [.str (Str.ofString "number"),.int (-9),.int 300],.int 250],.lst xs]:=⟨_,rfl⟩
 rw [←ex0] at g0
 refine ht.use (r:=r + 799) 4 p2 fun way S3 w0 w1 p3=>?_
 walk_at "w"
 refine HK (fun o t'=>o = .next∧∃(x:D) (S':List Ob),Gd2 x∧RoomT τ k (r + 700) S'∧t'=⟨[some (.val (.obj k)),some (.val (.int (many:Int))),some (.val x),some (.val (.int way)),none,none],S'⟩) (fun _=>?_) (fun _=>?_) ?_
 ·walk_at "w"
  refine ht.use (r:=r + 798) 2 p3 fun a S4 a0 a1 p4=>?_
  obtain ⟨dd,ed,q,rfl,q0,q1,q2⟩:=FY (xs:=[D.int ((many:Int) + 100),D.int 250]) a0 (by simpa using a1) (p:=fun d=>∃q:Int,d = .int q∧0≤q∧q≤250∧(many:Int) + 5≤q) (by
   simp only [List.forall_mem_cons]
   exact ⟨⟨_,rfl,by lia,by lia,by lia⟩,⟨_,rfl,by decide,by decide,by lia⟩,fun _ z=>nomatch z⟩)
  refine DK ed ?_
  walk_at "w"
  refine ht.use (r:=r + 797) 5 p4 fun b S5 b0 b1 p5=>?_
  walk_at "w"
  obtain ⟨j,ej,hj⟩:∃j:Nat,1 + b=(j:Int)∧j≤5:=⟨(1 + b).toNat,by lia,by lia⟩
  rw [ej]
  have hu:uc (Str.ofString "a\"b ,")=[97,34,98,32,44]:=by decide +kernel
  have hsl:Txt.slice (Str.ofString "a\"b ,") none (some (j:Int))=mkT ([97,34,98,32,44].take j):=by
   show StrLaws.sliceText _ _ _=_
   rw [StrLaws.sliceText_to ⟨by lia,by show _≤(((uc (Str.ofString "a\"b ,")).length:Nat):Int);rw [hu];simp;lia⟩]
   show (⟨(List.take _ (List.drop _ (uc (Str.ofString "a\"b ,")))).toArray⟩:Str)=_
   rw [hu]
   simp [mkT]
  rw [hsl]
  walk_at "w"
  obtain ⟨n,en,hn⟩:∃n:Nat,(many:Int) / 5 + 1=(n:Int)∧5 * n≤many + 5:=⟨((many:Int) / 5 + 1).toNat,by lia,by lia⟩
  rw [en]
  have hlt:([97,34,98,32,44].take j).length≤5:=by rw [List.length_take];simp;lia
  have hml:([97,34,98,32,44].take j).length * n≤5 * n:=Nat.mul_le_mul_right _ hlt
  refine QB ⟨F5 (by lia) (by lia),by rw [Gx,Int.toNat_natCast];lia,by lia,by rw [Gx];lia⟩ ?_
  walk_at "w"
  have hcod:(Txt.mul (mkT ([97,34,98,32,44].take j)) (n:Int)).cps.toList=(List.replicate n ([97,34,98,32,44].take j)).flatten:=by
   rw [Jt,Int.toNat_natCast]
   show (List.replicate n (uc (mkT _))).flatten=_
   rw [GX]
  have hclen:(Txt.mul (mkT ([97,34,98,32,44].take j)) (n:Int)).length≤many + 5:=by
   rw [B1,hcod,List.length_flatten,List.map_replicate,List.sum_replicate_nat]
   have:=Nat.mul_comm n ([97,34,98,32,44].take j).length
   lia
  refine ⟨rfl,_,S5,⟨.text q,_,_,rfl,by rw [Sh.d],by simp [Sh.depth],by simp [wf,q0,q1],?_,?_⟩,p5.mono (by lia),rfl⟩
  ·simp only [Ap,Bool.and_eq_true,decide_eq_true_eq]
   refine ⟨by lia,?_⟩
   rw [hcod,List.all_eq_true]
   intro c hc
   obtain ⟨l,hl,hc⟩:=List.mem_flatten.mp hc
   have hl:=List.eq_of_mem_replicate hl
   subst hl
   have:=List.mem_of_mem_take hc
   simp only [List.mem_cons,List.not_mem_nil,or_false] at this
   rcases this with rfl | rfl | rfl | rfl | rfl <;> decide
  ·rw [wt]
   lia
 ·walk_at "w"
  exact ⟨rfl,x0,S3,g0,p3.mono (by lia),by rw [ex0];rfl⟩
 rintro o t' ⟨rfl,x1,S4,g1,p4,rfl⟩
 walk_at "w"
 refine HK (fun o t'=>o = .next∧∃(x:D) (S':List Ob) (e4:Option Sl),Gd2 x∧RoomT τ k (r + 600) S'∧t'=⟨[some (.val (.obj k)),some (.val (.int (many:Int))),some (.val x),some (.val (.int way)),e4,none],S'⟩) (fun _=>?_) (fun _=>?_) ?_
 ·walk_at "w"
  refine ht.use (r:=r + 699) 3 p4 fun a S5 a0 a1 p5=>?_
  obtain ⟨n,rfl⟩:=Int.eq_ofNat_of_zero_le a0
  have n2:n≤2:=by lia
  walk_at "w"
  refine Eb (CL n2) ?_
  refine (DR (P:=fun xs t'=>(∀y∈xs,∃i:Int,y = .int i∧0≤i∧i≤9)∧xs.length≤2∧RoomT τ k (r + 690) t'.S) (fun acc q t=>∃(S':List Ob) (z:Option Sl),(∀y∈acc,∃i:Int,y = .int i∧0≤i∧i≤9)∧acc.length + q.length≤2∧RoomT τ k (r + 690 + q.length) S'∧t=⟨[z,some (.val (.obj k))],S'⟩) _ [] _ ⟨S5,_,by simp,by rw [BW,Int.toNat_natCast];simpa using n2,p5.mono (by rw [BW,Int.toNat_natCast];lia),rfl⟩ ?_ ?_).mono ?_
  ·rintro acc d q t ⟨S',z,h1,h2,h3,rfl⟩ _
   rw [List.length_cons] at h2 h3
   refine Gb (GG ?_)
   rw [if_pos rfl]
   walk_at "w"
   refine ht.use (r:=r + 690 + q.length) 3 (h3.mono (by lia)) fun a S3 a0 a1 p3=>?_
   refine ⟨S3,_,?_,by rw [List.length_append,List.length_singleton];lia,p3,rfl⟩
   intro y hy
   rcases List.mem_append.mp hy with hy | hy
   ·exact h1 y hy
   ·exact ⟨a,by simpa using hy,by lia,by lia⟩
  ·rintro acc t ⟨S',z,h1,h2,h3,rfl⟩
   exact ⟨h1,by simpa using h2,h3.drop⟩
  rintro ys t' ⟨h3,h4,p6⟩
  rw [List.nil_append] at h3 h4
  refine BC (by rw [hL];lia) ?_
  walk_at "w"
  refine ht.use (r:=r + 689) 20 p6 fun a S6 a0 a1 p7=>?_
  walk_at "w"
  obtain ⟨m,em,hm⟩:∃m:Nat,2 + a=(m:Int)∧m≤21:=⟨(2 + a).toNat,by lia,by lia⟩
  rw [em]
  refine Eb (CL hm) ?_
  refine (E7 (f:=fun _=>.lst ys) (fr:=[some (.val (.lst ys))]) ?_).mono ?_
  ·intro d _
   walk_at "w"
   exact ⟨rfl,rfl⟩
  rintro zs ⟨env2,S2⟩ ⟨ezs,hS⟩
  have hS:S2=S6:=hS
  subst hS
  have hzl:zs.length≤21:=by rw [ezs,List.length_map,BW,Int.toNat_natCast];exact hm
  have hzm:∀z∈zs,z = .lst ys:=fun z hz=>by rw [ezs] at hz;obtain ⟨_,_,rfl⟩:=List.mem_map.mp hz;rfl
  clear ezs
  refine BC (by rw [hL];lia) ?_
  walk_at "w"
  have wy:wt (.list (.number 0 9) 3) (.lst ys)≤54:=by
   have:=GI (s:=.number 0 9) (q:=3) (b:=25) (ds:=ys) fun d _=>by rw [LF];exact Nat.le_refl _
   lia
  refine ⟨rfl,_,_,some (.val (.lst ys)),⟨.list (.list (.number 0 9) 3) 250,_,.lst zs,rfl,by rw [Sh.d,Sh.d,Sh.d],by simp [Sh.depth],by decide +kernel,Fs (by lia) (fun d hd=>by rw [hzm d hd];exact Fs (by lia) (KM h3)),?_⟩,p7.mono (by lia),?_⟩
  ·have:=GI (s:=.list (.number 0 9) 3) (q:=250) (b:=54) (ds:=zs) fun d hd=>by rw [hzm d hd];exact wy
   lia
  ·rfl
 ·walk_at "w"
  exact ⟨rfl,x1,S4,none,g1,p4.mono (by lia),rfl⟩
 rintro o t' ⟨rfl,x2,S5,e4,g2,p5,rfl⟩
 walk_at "w"
 refine HK (fun o t'=>o = .next∧∃(x:D) (S':List Ob) (e4 e5:Option Sl),Gd2 x∧RoomT τ k r S'∧t'=⟨[some (.val (.obj k)),some (.val (.int (many:Int))),some (.val x),some (.val (.int way)),e4,e5],S'⟩) (fun _=>?_) (fun _=>?_) ?_
 ·walk_at "w"
  refine ht.use (r:=r + 599) 3 p5 fun a S6 a0 a1 p6=>?_
  obtain ⟨n,rfl⟩:=Int.eq_ofNat_of_zero_le a0
  have n2:n≤2:=by lia
  refine U8 ⟨F5 (by lia) (by lia),by rw [Int.toNat_natCast,List.length_singleton,hL];lia⟩ ?_
  rw [Int.toNat_natCast]
  have hys:∃ys:List D,(List.replicate n [D.non]).flatten=ys∧(∀y∈ys,y = .non)∧ys.length≤2:=by
   refine ⟨_,rfl,fun y hy=>?_,by simp;lia⟩
   obtain ⟨l,hl,hy⟩:=List.mem_flatten.mp hy
   rw [List.eq_of_mem_replicate hl] at hy
   simpa using hy
  obtain ⟨ys,eys,hy1,hy2⟩:=hys
  rw [eys]
  walk_at "w"
  refine ht.use (r:=r + 598) 12 p6 fun a S7 a0 a1 p7=>?_
  walk_at "w"
  obtain ⟨m,em,hm⟩:∃m:Nat,2 + a=(m:Int)∧m≤13:=⟨(2 + a).toNat,by lia,by lia⟩
  rw [em]
  refine Eb (CL hm) ?_
  refine (E7 (f:=fun _=>.tup [.lst ys,.str (Str.ofString "x")]) (fr:=[some (.val (.lst ys))]) ?_).mono ?_
  ·intro d _
   walk_at "w"
   exact ⟨rfl,rfl⟩
  rintro zs ⟨env2,S2⟩ ⟨ezs,hS⟩
  have hS:S2=S7:=hS
  subst hS
  have hzl:zs.length≤13:=by rw [ezs,List.length_map,BW,Int.toNat_natCast];exact hm
  have hzm:∀z∈zs,z = .tup [.lst ys,.str (Str.ofString "x")]:=fun z hz=>by rw [ezs] at hz;obtain ⟨_,_,rfl⟩:=List.mem_map.mp hz;rfl
  clear ezs
  refine BC (by rw [hL];lia) ?_
  walk_at "w"
  have wy:wt (.pair (.list .nothing 2) (.text 1)) (.tup [.lst ys,.str (Str.ofString "x")])≤20:=by
   have:=GI (s:=.nothing) (q:=2) (b:=1) (ds:=ys) fun d _=>by rw [Vk];exact Nat.le_refl _
   rw [wt,show wt (.text 1) (.str (Str.ofString "x"))=4 by rw [wt];decide +kernel]
   lia
  refine ⟨rfl,_,_,some (.val (.lst ys)),some (.val (.lst zs)),⟨.list (.pair (.list .nothing 2) (.text 1)) 250,_,.lst zs,rfl,by rw [Sh.d,Sh.d,Sh.d,Sh.d,Sh.d],by simp [Sh.depth],by decide +kernel,Fs (by lia) (fun d hd=>?_),?_⟩,p7.mono (by lia),?_⟩
  ·rw [hzm d hd]
   unfold Ap
   rw [Bool.and_eq_true]
   refine ⟨Fs (by lia) fun d hd=>by rw [hy1 d hd];rw [Ap];rfl,?_⟩
   decide +kernel
  ·have:=GI (s:=.pair (.list .nothing 2) (.text 1)) (q:=250) (b:=20) (ds:=zs) fun d hd=>by rw [hzm d hd];exact wy
   lia
  ·rfl
 ·walk_at "w"
  exact ⟨rfl,x2,S5,e4,none,g2,p5.mono (by lia),rfl⟩
 rintro o t' ⟨rfl,x3,S6,e4,e5,⟨s,l,v,rfl,hd,h6,hw,hf,hwt⟩,p6,rfl⟩
 walk_at "w"
 exact ⟨s,v,by rw [hd],h6,hw,hf,hwt,p6⟩
theorem Og:Ap (.text 250) (.str (Txt.mul (Str.ofString "\"a") 125))=true:=by
 have hcod:(Txt.mul (Str.ofString "\"a") 125).cps.toList=(List.replicate 125 [34,97]).flatten:=by
  rw [Jt]
  have e:uc (Str.ofString "\"a")=[34,97]:=by decide +kernel
  show (List.replicate 125 (uc (Str.ofString "\"a"))).flatten=_
  rw [e]
 simp only [Ap,Bool.and_eq_true,decide_eq_true_eq]
 rw [B1,hcod]
 exact ⟨by decide +kernel,by decide +kernel⟩
theorem UF:wt (.text 250) (.str (Txt.mul (Str.ofString "\"a") 125))≤20000:=by
 have h:=Og
 simp only [Ap,Bool.and_eq_true,decide_eq_true_eq] at h
 rw [wt]
 lia
theorem SY {cv cr cd cp cg:Fn} {τ:Ob} (hv:J0 τ cv 6) (hr:Kl cr τ) (hd:Kh τ cd) (hp:Kk τ cp) (hg:Ii τ cg) {ns:List Int} (hl:ns.length≤63) {S:List Ob} (h0:S[0]?=some τ):Wf (fnOf 1 6 (Eo cv cr cd cp cg)) [.scr ns] S fun r S'=>r = .bl true:=by
 have hl6:lB 6≤20000:=by decide
 refine A7 rfl ?_
 unfold Eo
 walk_at "w"
 refine (hp ns 0 S (by decide) h0).mono fun r0 S0 ⟨K,e,p0⟩=>?_
 subst e
 walk_at "w"
 refine (hg K 800000000000000000000000000000 S0 (p0.mono (by decide))).mono ?_
 rintro res S1 ⟨s,v,rfl,hs,hw,hf,hwt,p1⟩
 walk_at "w"
 refine (hr s v S1 hs hw hf hwt p1.2.1).mono ?_
 rintro x S2 ⟨rfl,h2⟩
 walk_at "w"
 refine QB ⟨F5 (by decide) (by decide),by decide +kernel,by decide,by decide +kernel⟩ ?_
 walk_at "w"
 have q:=hr (.text 250) (.str (Txt.mul (Str.ofString "\"a") 125)) S2 (by simp [Sh.depth]) (by decide +kernel) Og UF h2
 rw [Sh.d] at q
 refine q.mono ?_
 rintro x S3 ⟨rfl,h3⟩
 walk_at "w"
 have e18:(10:Int) ^ (18:Int).toNat=1000000000000000000:=by decide
 have e17:(10:Int) ^ (17:Int).toNat=100000000000000000:=by decide
 have e12:(10:Int) ^ (12:Int).toNat=1000000000000:=by decide
 rw [e18,e17,e12]
 refine FM (fun q t=>∃(S':List Ob) (e1 e2 e3:Option Sl),(∀y∈q,∃i:Int,y = .int i∧1 - 1000000000000000000≤i∧i≤1000000000000000000 - 1)∧S'[0]?=some τ∧t=⟨[some (.val (.scr ns)),e1,e2,e3,none,none],S'⟩) _ _ ⟨S3,_,_,_,?_,h3,rfl⟩ ?_ ?_
 ·intro y hy
  simp only [List.mem_cons,List.not_mem_nil,or_false] at hy
  rcases hy with rfl | rfl | rfl | rfl | rfl | rfl <;> exact ⟨_,rfl,by decide,by decide⟩
 ·rintro y q t ⟨S',e1,e2,e3,h4,h5,rfl⟩ _
  obtain ⟨i,rfl,i0,i1⟩:=h4 y (by simp)
  walk_at "w"
  rw [e18]
  have z:=hr (.number (1 - 1000000000000000000) (1000000000000000000 - 1)) (.int i) S' (by simp [Sh.depth]) (by decide +kernel) (by simp only [Ap,Bool.and_eq_true,decide_eq_true_eq];exact ⟨i0,i1⟩) (by rw [LF];decide) h5
  rw [Sh.d] at z
  refine z.mono ?_
  rintro x S4 ⟨rfl,h6⟩
  walk_at "w"
  exact ⟨S4,_,_,_,fun y hy=>h4 y (List.mem_cons_of_mem _ hy),h6,rfl⟩
 rintro t ⟨S',e1,e2,e3,_,h5,rfl⟩
 walk_at "w"
 obtain ⟨m,em,hm⟩:∃m:Nat,(if (ns.length:Int) < 63 then (ns.length:Int) else 63)=(m:Int)∧m≤63:=by
  split
  ·exact ⟨ns.length,rfl,hl⟩
  ·exact ⟨63,rfl,Nat.le_refl _⟩
 rw [em]
 refine Eb (CL hm) ?_
 refine FM (fun q t=>∃(S':List Ob) (e1 e2 e3 e4 e5:Option Sl),(∀y∈q,∃j:Nat,y = .int j∧j≤63)∧S'[0]?=some τ∧t=⟨[some (.val (.scr ns)),e1,e2,e3,e4,e5],S'⟩) _ _ ⟨S',_,_,_,_,_,?_,h5,rfl⟩ ?_ ?_
 ·intro y hy
  unfold CJ at hy
  obtain ⟨j,hj,rfl⟩:=List.mem_map.mp hy
  have hj:j < m:=by simpa using hj
  exact ⟨j,by rw [Int.zero_add],by lia⟩
 ·rintro y q t ⟨S',e1,e2,e3,e4,e5,h4,h5,rfl⟩ _
  obtain ⟨j,rfl,hj⟩:=h4 y (by simp)
  walk_at "w"
  refine (hp ns j S' (by lia) h5).mono fun r0 S0 ⟨K,e,p0⟩=>?_
  subst e
  walk_at "w"
  refine (hd K 800000000000000000000000000000 S0 (p0.mono (by decide))).mono fun v S1 ⟨⟨s',e,d6,hw,hc⟩,p1⟩=>?_
  subst e
  walk_at "w"
  refine (hv s' K 700000000000000000000000000000 S1 d6 hw (p1.mono (by decide))).mono fun v S2 ⟨hf,hwt,p2⟩=>?_
  walk_at "w"
  refine (hr s' v S2 d6 hw hf (Nat.le_trans hwt hl6) p2.2.1).mono ?_
  rintro x S4 ⟨rfl,h6⟩
  walk_at "w"
  exact ⟨S4,_,_,_,_,_,fun y hy=>h4 y (List.mem_cons_of_mem _ hy),h6,rfl⟩
 ·rintro t ⟨S',e1,e2,e3,e4,e5,_,_,rfl⟩
  walk_at "w"
  rfl
end LW
set_option maxHeartbeats 4000000
namespace K62
open PySem L2 F2 LW
inductive Fx where
 | Bn | Aq | Ba | Bm | BA | Bs | Bt | A8 | A0 | Ax | AZ | Bh | AJ | Bb | BD | Br | BH | A2 | Bo | Am | Bc | Bw | A3 | Af | AE | Bj | Bi | AD | Av | AO | AQ | AX | AK | A6 | law_
def top (i:Nat):Stmt:=PySem.Challenge.pw_wireparley_k62_values_written.main.body.getD i (.Pass ⟨0,0,0,0⟩)
abbrev nm:Fx→Str
 | .Bn=>"is_number"
 | .Aq=>"is_number_within"
 | .Ba=>"fits"
 | .Bm=>"fits_text"
 | .BA=>"is_sign"
 | .Bs=>"fits_list"
 | .Bt=>"fits_pair"
 | .A8=>"fits_choice"
 | .A0=>"show_value"
 | .Ax=>"show_fitting"
 | .AZ=>"read_worth"
 | .Bh=>"check_text"
 | .AJ=>"worth_at"
 | .Bb=>"list_at"
 | .BD=>"pair_at"
 | .Br=>"choice_at"
 | .BH=>"row_at"
 | .A2=>"number_at"
 | .Bo=>"quoted_at"
 | .Am=>"behind_sign"
 | .Bc=>"behind_all"
 | .Bw=>"_law_nth"
 | .A3=>"_law_pool"
 | .Af=>"_law_take"
 | .AE=>"_law_shape"
 | .Bj=>"_law_deep"
 | .Bi=>"_law_signs"
 | .AD=>"_law_value"
 | .Av=>"_law_worth"
 | .AO=>"_law_alike"
 | .AQ=>"_law_sizes"
 | .AX=>"_law_spoil"
 | .AK=>"_law_right"
 | .A6=>"_law_great"
 | .law_=>"law"
abbrev st:Fx→Stmt
 | .Bn=>top 8
 | .Aq=>top 9
 | .Ba=>top 10
 | .Bm=>top 11
 | .BA=>top 12
 | .Bs=>top 13
 | .Bt=>top 14
 | .A8=>top 15
 | .A0=>top 20
 | .Ax=>top 21
 | .AZ=>top 22
 | .Bh=>top 23
 | .AJ=>top 24
 | .Bb=>top 25
 | .BD=>top 26
 | .Br=>top 27
 | .BH=>top 28
 | .A2=>top 29
 | .Bo=>top 30
 | .Am=>top 31
 | .Bc=>top 32
 | .Bw=>top 34
 | .A3=>top 35
 | .Af=>top 36
 | .AE=>top 37
 | .Bj=>top 38
 | .Bi=>top 39
 | .AD=>top 40
 | .Av=>top 41
 | .AO=>top 42
 | .AQ=>top 43
 | .AX=>top 44
 | .AK=>top 45
 | .A6=>top 46
 | .law_=>top 47
abbrev ps:Fx→List Str
 | .Bn=>["thing"]
 | .Aq=>["thing", "low", "high"]
 | .Ba=>["s", "thing"]
 | .Bm=>["s", "thing"]
 | .BA=>["number"]
 | .Bs=>["s", "thing"]
 | .Bt=>["s", "thing"]
 | .A8=>["s", "thing"]
 | .A0=>["s", "value"]
 | .Ax=>["value"]
 | .AZ=>["s", "text"]
 | .Bh=>["thing"]
 | .AJ=>["s", "text", "at"]
 | .Bb=>["s", "text", "at"]
 | .BD=>["s", "text", "at"]
 | .Br=>["s", "text", "at"]
 | .BH=>["text", "at", "closing", "thing_at"]
 | .A2=>["text", "at"]
 | .Bo=>["text", "at"]
 | .Am=>["text", "at", "sign"]
 | .Bc=>["text", "at", "signs"]
 | .Bw=>["script", "k"]
 | .A3=>["script", "k"]
 | .Af=>["pool", "many"]
 | .AE=>["pool", "deep"]
 | .Bj=>["pool"]
 | .Bi=>[]
 | .AD=>["pool", "s"]
 | .Av=>["value"]
 | .AO=>["one", "other"]
 | .AQ=>["value"]
 | .AX=>["value"]
 | .AK=>["s", "value"]
 | .A6=>["pool"]
 | .law_=>["script"]
abbrev ns:Fx→List Str
 | .Bn=>["thing"]
 | .Aq=>["thing", "low", "high"]
 | .Ba=>["s", "thing", "kind"]
 | .Bm=>["s", "thing", "sign"]
 | .BA=>["number"]
 | .Bs=>["s", "thing", "part"]
 | .Bt=>["s", "thing"]
 | .A8=>["s", "thing"]
 | .A0=>["s", "value"]
 | .Ax=>["value"]
 | .AZ=>["s", "text", "read"]
 | .Bh=>["thing"]
 | .AJ=>["s", "text", "at", "kind"]
 | .Bb=>["s", "text", "at", "place"]
 | .BD=>["s", "text", "at", "first", "second"]
 | .Br=>["s", "text", "at", "number", "read"]
 | .BH=>["text", "at", "closing", "thing_at", "read", "things"]
 | .A2=>["text", "at", "first", "place", "number"]
 | .Bo=>["text", "at", "place", "row", "end"]
 | .Am=>["text", "at", "sign"]
 | .Bc=>["text", "at", "signs", "place"]
 | .Bw=>["script", "k", "cell"]
 | .A3=>["script", "k", "cell"]
 | .Af=>["pool", "many", "rest"]
 | .AE=>["pool", "deep", "kind", "low", "many"]
 | .Bj=>["pool", "s", "k", "some"]
 | .Bi=>[]
 | .AD=>["pool", "s", "signs", "many", "most", "k"]
 | .Av=>["value"]
 | .AO=>["one", "other"]
 | .AQ=>["value", "found", "one"]
 | .AX=>["value", "one"]
 | .AK=>["s", "value", "text", "told", "found", "sizes"]
 | .A6=>["pool", "many", "some", "way", "inner", "pairs"]
 | .law_=>["script", "s", "value", "number", "k", "pool"]
abbrev Pt:Nat:=142
abbrev cc:Nat:=146
def lamD:LamD:=Ux "list_at.<locals>.<lambda>" ["text", "s"] (QL 3 (stE ((CO (st .Bb)).getD 2 (.Pass ⟨0,0,0,0⟩))))
theorem Q2:Str.ofString "text"∈D8:=by decide +kernel
theorem VJ:Str.ofString "s"∈D8:=by decide +kernel
theorem VR:LamOk lamD "start":=⟨rfl,rfl,rfl,rfl,by decide +kernel,fun y h=>(by decide +kernel:∀p∈lamD.scope.names,p.2 = .free→p.1∈lamD.names) _ (PySem.mem_of_lookup h) rfl,by decide +kernel,by decide +kernel,by decide +kernel⟩
theorem Tb {K:PySem.W.Frag} (c':Addr) (pm ctv:Value) (cs:List Addr):Binds K (PySem.W.kla_fn "<lambda>" lamD.qual lamD.params lamD.body lamD.scope (lamD.names.zip cs) pm (.ref c') ctv) ["start"] []:=.all fun us hl=>by
 rcases us with _ | ⟨u,us⟩
 ·cases hl
 ·cases us with
  | nil=>rfl
  | cons _ _=>cases hl
def body (Φ:Fx→Fn) (ΦL:List D→Fn):Fx→Fn
 | .Bn=>fnOf 1 1 (Dh)
 | .Aq=>fnOf 3 3 (Cm (Φ .Bn))
 | .Ba=>fnOf 2 3 (HQ (Φ .A8) (Φ .Bt) (Φ .Bs) (Φ .Bm) (Φ .Aq))
 | .Bm=>fnOf 2 3 (Dg (Φ .BA))
 | .BA=>fnOf 1 1 (Fc)
 | .Bs=>fnOf 2 3 (De (Φ .Ba))
 | .Bt=>fnOf 2 2 (Df (Φ .Ba))
 | .A8=>fnOf 2 2 (CI (Φ .Ba) (Φ .Aq))
 | .A0=>fnOf 2 2 (C2 (Φ .Ax) (Φ .Ba))
 | .Ax=>fnOf 1 1 (Di (Φ .Ax))
 | .AZ=>fnOf 2 3 (D1 (Φ .Ba) (Φ .AJ) (Φ .Bh))
 | .Bh=>fnOf 1 1 (D0)
 | .AJ=>fnOf 3 4 (ED (Φ .Br) (Φ .BD) (Φ .Bb) (Φ .Bo) (Φ .A2) (Φ .Am))
 | .Bb=>fnOf 3 4 (Fd lamD Pt 103 36 (Φ .BH) (Φ .Am))
 | .BD=>fnOf 3 5 (Fe (Φ .Am) (Φ .AJ))
 | .Br=>fnOf 3 5 (Eg (Φ .Am) (Φ .AJ) (Φ .Aq) (Φ .A2))
 | .BH=>fnOf 4 6 (Ek lamD ΦL (Φ .Am))
 | .A2=>fnOf 2 5 (Ei (Φ .Bc))
 | .Bo=>fnOf 2 5 (Ej (Φ .Am))
 | .Am=>fnOf 3 3 (DA)
 | .Bc=>fnOf 3 4 (DZ)
 | .Bw=>fnOf 2 3 (Eh)
 | .A3=>fnOf 2 3 (C0 (Φ .Bw))
 | .Af=>fnOf 2 3 (C1)
 | .AE=>fnOf 2 5 (CB (Φ .AE) (Φ .Af))
 | .Bj=>fnOf 1 4 (CZ (Φ .Af) (Φ .AE))
 | .Bi=>fnOf 0 0 (CD)
 | .AD=>fnOf 2 6 (CH (Φ .AD) (Φ .Af) (Φ .Bi))
 | .Av=>fnOf 1 1 (DB (Φ .Av))
 | .AO=>fnOf 2 2 (Cy (Φ .AO))
 | .AQ=>fnOf 1 3 (CF (Φ .AQ))
 | .AX=>fnOf 1 2 (CG (Φ .AX))
 | .AK=>fnOf 2 6 (CA (Φ .Av) (Φ .AZ) (Φ .AO) (Φ .A0) (Φ .AQ) (Φ .AX))
 | .A6=>fnOf 1 6 (Cz (Φ .Af))
 | .law_=>fnOf 1 6 (Eo (Φ .AD) (Φ .AK) (Φ .Bj) (Φ .A3) (Φ .A6))
def Lb:Nat→(Fx→Fn)×(List D→Fn)
 | 0=>(fun _ _ _=>none,fun _ _ _=>none)
 | n + 1=>(body (Lb n).1 (Lb n).2,Hb 3 (EX ((Lb n).1 .AJ)))
def run (n:Nat):Fx→Fn:=(Lb n).1
def IC (n:Nat):List D→Fn:=(Lb n).2
theorem NT:∀(n:Nat) {caps ds:List D} {S:List Ob} {z:D×List Ob},IC n caps ds S=some z→ds.length=1
 | 0,_,_,_,_,e=>nomatch e
 | _ + 1,_,_,_,_,e=>O0 e
structure Md (K:PySem.W.Frag) (mg:Str→Option Value) (A:Fx→Addr) (fd:Fx→FuncData):Prop where
 fn:∀x,Fun K (nm x) (nm x) (st x) (A x) (fd x)
 mgs:∀x,mg (nm x)=some (.ref (A x))
 bd:∀x,Binds K (fd x) (ps x) []
 z_bool:mg "bool" = none
 z_int:mg "int" = none
 z_isinstance:mg "isinstance" = none
 z_len:mg "len" = none
 z_list:mg "list" = none
 z_min:mg "min" = none
 z_ord:mg "ord" = none
 z_range:mg "range" = none
 z_str:mg "str" = none
 z_tuple:mg "tuple" = none
 g_FIGURES:∃tk,mg "FIGURES" = some (.str "0123456789" tk)
 g_FIRST_SIGN:∃tk,mg "FIRST_SIGN" = some (.int 32 tk)
 g_LAST_SIGN:∃tk,mg "LAST_SIGN" = some (.int 126 tk)
 g_MOST_FIGURES:∃tk,mg "MOST_FIGURES" = some (.int 18 tk)
 g_PERCENT_SIGN:∃tk,mg "PERCENT_SIGN" = some (.int 37 tk)
 g_QUOTE:∃tk,mg "QUOTE" = some (.str "\"" tk)
 qq:Quo K mg
 cd:(fd .Bb).code = .ref cc
section
variable {P:Program} {w:World} {K:PySem.W.Frag} {mg:Str→Option Value} {base:Heap} {A:Fx→Addr} {fd:Fx→FuncData} {n:Nat}
theorem JW:FnScope (ns .Bn) (ps .Bn) (AF (st .Bn)):=⟨rfl,rfl,rfl,by decide +kernel,rfl,by decide +kernel,by decide +kernel⟩
theorem JS (M:Md K mg A fd) (ih:∀x,FnOk P w K mg base CX0 n (A x) (fd x) (ps x) (spF K (run n x))):FnOk P w K mg base CX0 (n + 1) (A .Bn) (fd .Bn) (ps .Bn) (spF K (run (n + 1) .Bn)):=by
 refine Bp (g:=fnOf 1 1 (Dh)) rfl (Bu rfl rfl (M.fn .Bn) JW (fun cdv A' outer s H E hr=>?_))
 refine @Al _ _ _ _ ?_
 refine @Ay _ _ _ _ ?_
 refine @El _ _ _ _ _ _ _ ?_ ?_
 refine @Bd _ _ _ _ _ _ _ _ _ _ By BX rfl M.z_isinstance AR ?_ (by decide) (by decide) (by rfl) (by rfl)
 refine @Aa _ _ _ _ _ ?_ ?_ rfl
 exact (Ac 0)
 refine @Aa _ _ _ _ _ ?_ Ae rfl
 exact (BF rfl M.z_int EM)
 refine @Fr _ _ _ _ _ ?_
 refine @NG _ _ _ _ ?_
 refine @Bd _ _ _ _ _ _ _ _ _ _ By BX rfl M.z_isinstance AR ?_ (by decide) (by decide) (by rfl) (by rfl)
 refine @Aa _ _ _ _ _ ?_ ?_ rfl
 exact (Ac 0)
 refine @Aa _ _ _ _ _ ?_ Ae rfl
 exact (BF rfl M.z_bool L6)
theorem F1:FnScope (ns .Aq) (ps .Aq) (AF (st .Aq)):=⟨rfl,rfl,rfl,by decide +kernel,rfl,by decide +kernel,by decide +kernel⟩
theorem FW (M:Md K mg A fd) (ih:∀x,FnOk P w K mg base CX0 n (A x) (fd x) (ps x) (spF K (run n x))):FnOk P w K mg base CX0 (n + 1) (A .Aq) (fd .Aq) (ps .Aq) (spF K (run (n + 1) .Aq)):=by
 refine Bp (g:=fnOf 3 3 (Cm (run n .Bn))) rfl (Bu rfl rfl (M.fn .Aq) F1 (fun cdv A' outer s H E hr=>?_))
 refine @Al _ _ _ _ ?_
 refine @Ay _ _ _ _ ?_
 refine @El _ _ _ _ _ _ _ ?_ ?_
 refine @Ak _ _ _ _ _ _ _ _ _ _ _ _ (ih .Bn) hr rfl (M.mgs .Bn) (Fun.kp (M.fn .Bn)) (M.bd .Bn) ?_ (by decide) (by rfl) (by rfl)
 refine @Aa _ _ _ _ _ ?_ Ae rfl
 exact (Ac 0)
 refine @Fr _ _ _ _ _ ?_
 refine KI Fw Fw EJ EJ ?_ ?_ ?_
 exact (Ac 1)
 exact (Ac 0)
 exact (Ac 2)
theorem sc_fits_:FnScope (ns .Ba) (ps .Ba) (AF (st .Ba)):=⟨rfl,rfl,rfl,by decide +kernel,rfl,by decide +kernel,by decide +kernel⟩
theorem Pe (M:Md K mg A fd) (ih:∀x,FnOk P w K mg base CX0 n (A x) (fd x) (ps x) (spF K (run n x))):FnOk P w K mg base CX0 (n + 1) (A .Ba) (fd .Ba) (ps .Ba) (spF K (run (n + 1) .Ba)):=by
 refine Bp (g:=fnOf 2 3 (HQ (run n .A8) (run n .Bt) (run n .Bs) (run n .Bm) (run n .Aq))) rfl (Bu rfl rfl (M.fn .Ba) sc_fits_ (fun cdv A' outer s H E hr=>?_))
 refine @Aj _ _ _ _ _ _ ?_ ?_
 refine @AT _ _ _ _ 2 _ _ _ sc_fits_.nd rfl (.inl rfl) ?_ (by rfl) (by first | exact .inl rfl | exact .inr rfl | assumption)
 refine @AB _ _ _ _ _ _ _ _ As Au ?_ Ag (fun _ _=>rfl)
 exact (Ac 0)
 refine @Aj _ _ _ _ _ _ ?_ ?_
 refine @AS _ _ _ _ _ _ _ _ _ ?_ ?_ AC
 refine @A4 _ _ _ _ _ _ _ _ _ (Bx hr.units) (AY (g:=id)) ?_ Ar (AV _)
 exact (Ac 2)
 refine @Al _ _ _ _ ?_
 refine @Ay _ _ _ _ ?_
 refine @Dt _ _ _ _ _ _ _ _ _ K2 Ld ?_ Fq (AV _)
 exact (Ac 1)
 refine @Aj _ _ _ _ _ _ ?_ ?_
 refine @AS _ _ _ _ _ _ _ _ _ ?_ ?_ AC
 refine @A4 _ _ _ _ _ _ _ _ _ (Bx hr.units) (AY (g:=id)) ?_ Ar (AV _)
 exact (Ac 2)
 refine @Al _ _ _ _ ?_
 refine @Ay _ _ _ _ ?_
 refine @Ak _ _ _ _ _ _ _ _ _ _ _ _ (ih .Aq) hr rfl (M.mgs .Aq) (Fun.kp (M.fn .Aq)) (M.bd .Aq) ?_ (by decide) (by rfl) (by rfl)
 refine @Aa _ _ _ _ _ ?_ ?_ rfl
 exact (Ac 1)
 refine @Aa _ _ _ _ _ ?_ ?_ rfl
 refine @AB _ _ _ _ _ _ _ _ As Au ?_ Ag (fun _ _=>rfl)
 exact (Ac 0)
 refine @Aa _ _ _ _ _ ?_ Ae rfl
 refine @AB _ _ _ _ _ _ _ _ As Au ?_ Ag (fun _ _=>rfl)
 exact (Ac 0)
 refine @Aj _ _ _ _ _ _ ?_ ?_
 refine @AS _ _ _ _ _ _ _ _ _ ?_ ?_ AC
 refine @A4 _ _ _ _ _ _ _ _ _ (Bx hr.units) (AY (g:=id)) ?_ Ar (AV _)
 exact (Ac 2)
 refine @Al _ _ _ _ ?_
 refine @Ay _ _ _ _ ?_
 refine @Ak _ _ _ _ _ _ _ _ _ _ _ _ (ih .Bm) hr rfl (M.mgs .Bm) (Fun.kp (M.fn .Bm)) (M.bd .Bm) ?_ (by decide) (by rfl) (by rfl)
 refine @Aa _ _ _ _ _ ?_ ?_ rfl
 exact (Ac 0)
 refine @Aa _ _ _ _ _ ?_ Ae rfl
 exact (Ac 1)
 refine @Aj _ _ _ _ _ _ ?_ ?_
 refine @AS _ _ _ _ _ _ _ _ _ ?_ ?_ AC
 refine @A4 _ _ _ _ _ _ _ _ _ (Bx hr.units) (AY (g:=id)) ?_ Ar (AV _)
 exact (Ac 2)
 refine @Al _ _ _ _ ?_
 refine @Ay _ _ _ _ ?_
 refine @Ak _ _ _ _ _ _ _ _ _ _ _ _ (ih .Bs) hr rfl (M.mgs .Bs) (Fun.kp (M.fn .Bs)) (M.bd .Bs) ?_ (by decide) (by rfl) (by rfl)
 refine @Aa _ _ _ _ _ ?_ ?_ rfl
 exact (Ac 0)
 refine @Aa _ _ _ _ _ ?_ Ae rfl
 exact (Ac 1)
 refine @Aj _ _ _ _ _ _ ?_ ?_
 refine @AS _ _ _ _ _ _ _ _ _ ?_ ?_ AC
 refine @A4 _ _ _ _ _ _ _ _ _ (Bx hr.units) (AY (g:=id)) ?_ Ar (AV _)
 exact (Ac 2)
 refine @Al _ _ _ _ ?_
 refine @Ay _ _ _ _ ?_
 refine @Ak _ _ _ _ _ _ _ _ _ _ _ _ (ih .Bt) hr rfl (M.mgs .Bt) (Fun.kp (M.fn .Bt)) (M.bd .Bt) ?_ (by decide) (by rfl) (by rfl)
 refine @Aa _ _ _ _ _ ?_ ?_ rfl
 exact (Ac 0)
 refine @Aa _ _ _ _ _ ?_ Ae rfl
 exact (Ac 1)
 refine @Al _ _ _ _ ?_
 refine @Ay _ _ _ _ ?_
 refine @Ak _ _ _ _ _ _ _ _ _ _ _ _ (ih .A8) hr rfl (M.mgs .A8) (Fun.kp (M.fn .A8)) (M.bd .A8) ?_ (by decide) (by rfl) (by rfl)
 refine @Aa _ _ _ _ _ ?_ ?_ rfl
 exact (Ac 0)
 refine @Aa _ _ _ _ _ ?_ Ae rfl
 exact (Ac 1)
theorem sc_fits_text_:FnScope (ns .Bm) (ps .Bm) (AF (st .Bm)):=⟨rfl,rfl,rfl,by decide +kernel,rfl,by decide +kernel,by decide +kernel⟩
theorem JR (M:Md K mg A fd) (ih:∀x,FnOk P w K mg base CX0 n (A x) (fd x) (ps x) (spF K (run n x))):FnOk P w K mg base CX0 (n + 1) (A .Bm) (fd .Bm) (ps .Bm) (spF K (run (n + 1) .Bm)):=by
 refine Bp (g:=fnOf 2 3 (Dg (run n .BA))) rfl (Bu rfl rfl (M.fn .Bm) sc_fits_text_ (fun cdv A' outer s H E hr=>?_))
 refine @Aj _ _ _ _ _ _ ?_ ?_
 refine @AS _ _ _ _ _ _ _ _ _ ?_ ?_ AC
 refine @DW _ _ _ ?_
 refine @DX _ _ _ _ _ _ _ ?_ ?_
 refine @BE _ _ _ _ ?_
 refine @Bl _ _ _ ?_ (by intro _;rfl)
 refine @Bd _ _ _ _ _ _ _ _ _ _ By BX rfl M.z_isinstance AR ?_ (by decide) (by decide) (by rfl) (by rfl)
 refine @Aa _ _ _ _ _ ?_ ?_ rfl
 exact (Ac 1)
 refine @Aa _ _ _ _ _ ?_ Ae rfl
 exact (BF rfl M.z_str C5)
 refine @Du _ _ _ _ ?_
 refine @A4 _ _ _ _ _ _ _ _ _ N3 Mp ?_ ?_ (AV _)
 refine @Bd _ _ _ _ _ _ _ _ _ _ BI BQ rfl M.z_len B0 ?_ (by decide) (by decide) (by rfl) (by rfl)
 refine @Aa _ _ _ _ _ ?_ Ae rfl
 exact (Ac 1)
 refine @AB _ _ _ _ _ _ _ _ As Au ?_ Ag (fun _ _=>rfl)
 exact (Ac 0)
 refine @Al _ _ _ _ ?_
 exact (Ay B6)
 refine @Aj _ _ _ _ _ _ ?_ ?_
 refine @EV _ _ _ _ _ _ _ _ _ PassesOwn.never rfl ?_ ?_ ?_ (by intro _;rfl)
 refine @En _ _ _ _ ?_
 exact (Ac 1)
 exact (BG sc_fits_text_.nd rfl (.inl rfl))
 refine @Al _ _ _ _ ?_
 refine @AS _ _ _ _ _ _ _ _ _ ?_ ?_ AC
 refine @BE _ _ _ _ ?_
 refine @Bl _ _ _ ?_ (by intro _;rfl)
 refine @Ak _ _ _ _ _ _ _ _ _ _ _ _ (ih .BA) hr rfl (M.mgs .BA) (Fun.kp (M.fn .BA)) (M.bd .BA) ?_ (by decide) (by rfl) (by rfl)
 refine @Aa _ _ _ _ _ ?_ Ae rfl
 refine @Bd _ _ _ _ _ _ _ _ _ _ OO R7 rfl M.z_ord SG ?_ (by decide) (by decide) (by rfl) (by rfl)
 refine @Aa _ _ _ _ _ ?_ Ae rfl
 exact (Ac 2)
 refine @Al _ _ _ _ ?_
 exact (Ay B6)
 refine @Al _ _ _ _ ?_
 exact (Ay B6)
theorem LR:FnScope (ns .BA) (ps .BA) (AF (st .BA)):=⟨rfl,rfl,rfl,by decide +kernel,rfl,by decide +kernel,by decide +kernel⟩
theorem LO (M:Md K mg A fd) (ih:∀x,FnOk P w K mg base CX0 n (A x) (fd x) (ps x) (spF K (run n x))):FnOk P w K mg base CX0 (n + 1) (A .BA) (fd .BA) (ps .BA) (spF K (run (n + 1) .BA)):=by
 obtain ⟨_,g_FIRST_SIGN⟩:=M.g_FIRST_SIGN
 obtain ⟨_,g_LAST_SIGN⟩:=M.g_LAST_SIGN
 obtain ⟨_,g_PERCENT_SIGN⟩:=M.g_PERCENT_SIGN
 refine Bp (g:=fnOf 1 1 (Fc)) rfl (Bu rfl rfl (M.fn .BA) LR (fun cdv A' outer s H E hr=>?_))
 refine @Al _ _ _ _ ?_
 refine @Ay _ _ _ _ ?_
 refine @El _ _ _ _ _ _ _ ?_ ?_
 refine KI Fw Fw EJ EJ ?_ ?_ ?_
 exact (GN rfl g_FIRST_SIGN)
 exact (Ac 0)
 exact (GN rfl g_LAST_SIGN)
 refine @Fr _ _ _ _ _ ?_
 refine @Dt _ _ _ _ _ _ _ _ _ (Dc hr.units) (AY (g:=fun b=>!b)) ?_ ?_ (AV _)
 exact (Ac 0)
 exact (GN rfl g_PERCENT_SIGN)
theorem sc_fits_list_:FnScope (ns .Bs) (ps .Bs) (AF (st .Bs)):=⟨rfl,rfl,rfl,by decide +kernel,rfl,by decide +kernel,by decide +kernel⟩
theorem JP (M:Md K mg A fd) (ih:∀x,FnOk P w K mg base CX0 n (A x) (fd x) (ps x) (spF K (run n x))):FnOk P w K mg base CX0 (n + 1) (A .Bs) (fd .Bs) (ps .Bs) (spF K (run (n + 1) .Bs)):=by
 refine Bp (g:=fnOf 2 3 (De (run n .Ba))) rfl (Bu rfl rfl (M.fn .Bs) sc_fits_list_ (fun cdv A' outer s H E hr=>?_))
 refine @Aj _ _ _ _ _ _ ?_ ?_
 refine @AS _ _ _ _ _ _ _ _ _ ?_ ?_ AC
 refine @DW _ _ _ ?_
 refine @DX _ _ _ _ _ _ _ ?_ ?_
 refine @BE _ _ _ _ ?_
 refine @Bl _ _ _ ?_ (by intro _;rfl)
 refine @Bd _ _ _ _ _ _ _ _ _ _ By BX rfl M.z_isinstance AR ?_ (by decide) (by decide) (by rfl) (by rfl)
 refine @Aa _ _ _ _ _ ?_ ?_ rfl
 exact (Ac 1)
 refine @Aa _ _ _ _ _ ?_ Ae rfl
 exact (BF rfl M.z_list BV)
 refine @Du _ _ _ _ ?_
 refine @A4 _ _ _ _ _ _ _ _ _ N3 Mp ?_ ?_ (AV _)
 refine @Bd _ _ _ _ _ _ _ _ _ _ BI BQ rfl M.z_len B0 ?_ (by decide) (by decide) (by rfl) (by rfl)
 refine @Aa _ _ _ _ _ ?_ Ae rfl
 exact (Ac 1)
 refine @AB _ _ _ _ _ _ _ _ As Au ?_ Ag (fun _ _=>rfl)
 exact (Ac 0)
 refine @Al _ _ _ _ ?_
 exact (Ay B6)
 refine @Aj _ _ _ _ _ _ ?_ ?_
 refine QZ PassesOwn.never rfl ?_ ?_ ?_
 refine QU ?_
 exact (Ac 1)
 exact (BG sc_fits_list_.nd rfl (.inl rfl))
 refine @Al _ _ _ _ ?_
 refine @AS _ _ _ _ _ _ _ _ _ ?_ ?_ AC
 refine @BE _ _ _ _ ?_
 refine @Bl _ _ _ ?_ (by intro _;rfl)
 refine @Ak _ _ _ _ _ _ _ _ _ _ _ _ (ih .Ba) hr rfl (M.mgs .Ba) (Fun.kp (M.fn .Ba)) (M.bd .Ba) ?_ (by decide) (by rfl) (by rfl)
 refine @Aa _ _ _ _ _ ?_ ?_ rfl
 refine @AB _ _ _ _ _ _ _ _ As Au ?_ Ag (fun _ _=>rfl)
 exact (Ac 0)
 refine @Aa _ _ _ _ _ ?_ Ae rfl
 exact (Ac 2)
 refine @Al _ _ _ _ ?_
 exact (Ay B6)
 refine @Al _ _ _ _ ?_
 exact (Ay B6)
theorem JV:FnScope (ns .Bt) (ps .Bt) (AF (st .Bt)):=⟨rfl,rfl,rfl,by decide +kernel,rfl,by decide +kernel,by decide +kernel⟩
theorem JQ (M:Md K mg A fd) (ih:∀x,FnOk P w K mg base CX0 n (A x) (fd x) (ps x) (spF K (run n x))):FnOk P w K mg base CX0 (n + 1) (A .Bt) (fd .Bt) (ps .Bt) (spF K (run (n + 1) .Bt)):=by
 refine Bp (g:=fnOf 2 2 (Df (run n .Ba))) rfl (Bu rfl rfl (M.fn .Bt) JV (fun cdv A' outer s H E hr=>?_))
 refine @Aj _ _ _ _ _ _ ?_ ?_
 refine @AS _ _ _ _ _ _ _ _ _ ?_ ?_ AC
 refine @DW _ _ _ ?_
 refine @DX _ _ _ _ _ _ _ ?_ ?_
 refine @BE _ _ _ _ ?_
 refine @Bl _ _ _ ?_ (by intro _;rfl)
 refine @Bd _ _ _ _ _ _ _ _ _ _ By BX rfl M.z_isinstance AR ?_ (by decide) (by decide) (by rfl) (by rfl)
 refine @Aa _ _ _ _ _ ?_ ?_ rfl
 exact (Ac 1)
 refine @Aa _ _ _ _ _ ?_ Ae rfl
 exact (BF rfl M.z_tuple Cv)
 refine @Du _ _ _ _ ?_
 refine @A4 _ _ _ _ _ _ _ _ _ (Dc hr.units) (AY (g:=fun b=>!b)) ?_ Ag (AV _)
 refine @Bd _ _ _ _ _ _ _ _ _ _ BI BQ rfl M.z_len B0 ?_ (by decide) (by decide) (by rfl) (by rfl)
 refine @Aa _ _ _ _ _ ?_ Ae rfl
 exact (Ac 1)
 refine @Al _ _ _ _ ?_
 exact (Ay B6)
 refine @Al _ _ _ _ ?_
 refine @Ay _ _ _ _ ?_
 refine @El _ _ _ _ _ _ _ ?_ ?_
 refine @Ak _ _ _ _ _ _ _ _ _ _ _ _ (ih .Ba) hr rfl (M.mgs .Ba) (Fun.kp (M.fn .Ba)) (M.bd .Ba) ?_ (by decide) (by rfl) (by rfl)
 refine @Aa _ _ _ _ _ ?_ ?_ rfl
 refine @AB _ _ _ _ _ _ _ _ As Au ?_ Ag (fun _ _=>rfl)
 exact (Ac 0)
 refine @Aa _ _ _ _ _ ?_ Ae rfl
 refine @AB _ _ _ _ _ _ _ _ As Au ?_ Ag (fun _ _=>rfl)
 exact (Ac 1)
 refine @Fr _ _ _ _ _ ?_
 refine @Ak _ _ _ _ _ _ _ _ _ _ _ _ (ih .Ba) hr rfl (M.mgs .Ba) (Fun.kp (M.fn .Ba)) (M.bd .Ba) ?_ (by decide) (by rfl) (by rfl)
 refine @Aa _ _ _ _ _ ?_ ?_ rfl
 refine @AB _ _ _ _ _ _ _ _ As Au ?_ Ag (fun _ _=>rfl)
 exact (Ac 0)
 refine @Aa _ _ _ _ _ ?_ Ae rfl
 refine @AB _ _ _ _ _ _ _ _ As Au ?_ Ag (fun _ _=>rfl)
 exact (Ac 1)
theorem HY:FnScope (ns .A8) (ps .A8) (AF (st .A8)):=⟨rfl,rfl,rfl,by decide +kernel,rfl,by decide +kernel,by decide +kernel⟩
theorem HS (M:Md K mg A fd) (ih:∀x,FnOk P w K mg base CX0 n (A x) (fd x) (ps x) (spF K (run n x))):FnOk P w K mg base CX0 (n + 1) (A .A8) (fd .A8) (ps .A8) (spF K (run (n + 1) .A8)):=by
 refine Bp (g:=fnOf 2 2 (CI (run n .Ba) (run n .Aq))) rfl (Bu rfl rfl (M.fn .A8) HY (fun cdv A' outer s H E hr=>?_))
 refine @Aj _ _ _ _ _ _ ?_ ?_
 refine @AS _ _ _ _ _ _ _ _ _ ?_ ?_ AC
 refine @DW _ _ _ ?_
 refine @DX _ _ _ _ _ _ _ ?_ ?_
 refine @BE _ _ _ _ ?_
 refine @Bl _ _ _ ?_ (by intro _;rfl)
 refine @Bd _ _ _ _ _ _ _ _ _ _ By BX rfl M.z_isinstance AR ?_ (by decide) (by decide) (by rfl) (by rfl)
 refine @Aa _ _ _ _ _ ?_ ?_ rfl
 exact (Ac 1)
 refine @Aa _ _ _ _ _ ?_ Ae rfl
 exact (BF rfl M.z_tuple Cv)
 refine @Du _ _ _ _ ?_
 refine @A4 _ _ _ _ _ _ _ _ _ (Dc hr.units) (AY (g:=fun b=>!b)) ?_ Ag (AV _)
 refine @Bd _ _ _ _ _ _ _ _ _ _ BI BQ rfl M.z_len B0 ?_ (by decide) (by decide) (by rfl) (by rfl)
 refine @Aa _ _ _ _ _ ?_ Ae rfl
 exact (Ac 1)
 refine @Al _ _ _ _ ?_
 exact (Ay B6)
 refine @Aj _ _ _ _ _ _ ?_ ?_
 refine @AS _ _ _ _ _ _ _ _ _ ?_ ?_ AC
 refine @DW _ _ _ ?_
 refine @DX _ _ _ _ _ _ _ ?_ ?_
 refine @BE _ _ _ _ ?_
 refine @Bl _ _ _ ?_ (by intro _;rfl)
 refine @Bd _ _ _ _ _ _ _ _ _ _ By CU rfl M.z_isinstance AR ?_ (by decide) (by decide) (by rfl) (by rfl)
 refine @Aa _ _ _ _ _ ?_ ?_ rfl
 refine @AB _ _ _ _ _ _ _ _ As Au ?_ Ag (fun _ _=>rfl)
 exact (Ac 1)
 refine @Aa _ _ _ _ _ ?_ Ae rfl
 exact (BF rfl M.z_str C5)
 refine @Du _ _ _ _ ?_
 refine @A4 _ _ _ _ _ _ _ _ _ (Dc hr.units) (AY (g:=fun b=>!b)) ?_ Ar (AV _)
 refine @AB _ _ _ _ _ _ _ _ As Au ?_ Ag (fun _ _=>rfl)
 exact (Ac 1)
 refine @Al _ _ _ _ ?_
 exact (Ay B6)
 refine @Aj _ _ _ _ _ _ ?_ ?_
 refine @AS _ _ _ _ _ _ _ _ _ ?_ ?_ AC
 refine @BE _ _ _ _ ?_
 refine @Bl _ _ _ ?_ (by intro _;rfl)
 refine @Ak _ _ _ _ _ _ _ _ _ _ _ _ (ih .Aq) hr rfl (M.mgs .Aq) (Fun.kp (M.fn .Aq)) (M.bd .Aq) ?_ (by decide) (by rfl) (by rfl)
 refine @Aa _ _ _ _ _ ?_ ?_ rfl
 refine @AB _ _ _ _ _ _ _ _ As Au ?_ Ag (fun _ _=>rfl)
 exact (Ac 1)
 refine @Aa _ _ _ _ _ Ag ?_ rfl
 refine @Aa _ _ _ _ _ ?_ Ae rfl
 refine @Az _ _ _ _ _ _ _ _ _ BU BM ?_ Ag
 refine @Bd _ _ _ _ _ _ _ _ _ _ BI BQ rfl M.z_len B0 ?_ (by decide) (by decide) (by rfl) (by rfl)
 refine @Aa _ _ _ _ _ ?_ Ae rfl
 refine @AB _ _ _ _ _ _ _ _ As Au ?_ Ag (fun _ _=>rfl)
 exact (Ac 0)
 refine @Al _ _ _ _ ?_
 exact (Ay B6)
 refine @Al _ _ _ _ ?_
 refine @Ay _ _ _ _ ?_
 refine @Ak _ _ _ _ _ _ _ _ _ _ _ _ (ih .Ba) hr rfl (M.mgs .Ba) (Fun.kp (M.fn .Ba)) (M.bd .Ba) ?_ (by decide) (by rfl) (by rfl)
 refine @Aa _ _ _ _ _ ?_ ?_ rfl
 refine @AB _ _ _ _ _ _ _ _ As Au ?_ ?_ (fun _ _=>rfl)
 refine @AB _ _ _ _ _ _ _ _ As Au ?_ Ag (fun _ _=>rfl)
 exact (Ac 0)
 refine @AB _ _ _ _ _ _ _ _ As Au ?_ Ag (fun _ _=>rfl)
 exact (Ac 1)
 refine @Aa _ _ _ _ _ ?_ Ae rfl
 refine @AB _ _ _ _ _ _ _ _ As Au ?_ Ag (fun _ _=>rfl)
 exact (Ac 1)
theorem I9:FnScope (ns .A0) (ps .A0) (AF (st .A0)):=⟨rfl,rfl,rfl,by decide +kernel,rfl,by decide +kernel,by decide +kernel⟩
theorem IS (M:Md K mg A fd) (ih:∀x,FnOk P w K mg base CX0 n (A x) (fd x) (ps x) (spF K (run n x))):FnOk P w K mg base CX0 (n + 1) (A .A0) (fd .A0) (ps .A0) (spF K (run (n + 1) .A0)):=by
 refine Bp (g:=fnOf 2 2 (C2 (run n .Ax) (run n .Ba))) rfl (Bu rfl rfl (M.fn .A0) I9 (fun cdv A' outer s H E hr=>?_))
 refine @Aj _ _ _ _ _ _ ?_ ?_
 refine @AS _ _ _ _ _ _ _ _ _ ?_ ?_ AC
 refine @BE _ _ _ _ ?_
 refine @Bl _ _ _ ?_ (by intro _;rfl)
 refine @Ak _ _ _ _ _ _ _ _ _ _ _ _ (ih .Ba) hr rfl (M.mgs .Ba) (Fun.kp (M.fn .Ba)) (M.bd .Ba) ?_ (by decide) (by rfl) (by rfl)
 refine @Aa _ _ _ _ _ ?_ ?_ rfl
 exact (Ac 0)
 refine @Aa _ _ _ _ _ ?_ Ae rfl
 exact (Ac 1)
 exact (Al DM)
 refine @Al _ _ _ _ ?_
 refine @Ay _ _ _ _ ?_
 refine @Ak _ _ _ _ _ _ _ _ _ _ _ _ (ih .Ax) hr rfl (M.mgs .Ax) (Fun.kp (M.fn .Ax)) (M.bd .Ax) ?_ (by decide) (by rfl) (by rfl)
 refine @Aa _ _ _ _ _ ?_ Ae rfl
 exact (Ac 1)
theorem Hk:FnScope (ns .Ax) (ps .Ax) (AF (st .Ax)):=⟨rfl,rfl,rfl,by decide +kernel,rfl,by decide +kernel,by decide +kernel⟩
theorem Hh (M:Md K mg A fd) (ih:∀x,FnOk P w K mg base CX0 n (A x) (fd x) (ps x) (spF K (run n x))):FnOk P w K mg base CX0 (n + 1) (A .Ax) (fd .Ax) (ps .Ax) (spF K (run (n + 1) .Ax)):=by
 obtain ⟨_,g_QUOTE⟩:=M.g_QUOTE
 refine Bp (g:=fnOf 1 1 (Di (run n .Ax))) rfl (Bu rfl rfl (M.fn .Ax) Hk (fun cdv A' outer s H E hr=>?_))
 refine @Aj _ _ _ _ _ _ ?_ ?_
 refine @AS _ _ _ _ _ _ _ _ _ ?_ ?_ AC
 refine @A4 _ _ _ _ _ _ _ _ _ K2 Ld ?_ Fq (AV _)
 exact (Ac 0)
 refine @Al _ _ _ _ ?_
 exact (Ay Ar)
 refine @Aj _ _ _ _ _ _ ?_ ?_
 refine @AS _ _ _ _ _ _ _ _ _ ?_ ?_ AC
 refine @Bl _ _ _ ?_ (by intro _;rfl)
 refine @Bd _ _ _ _ _ _ _ _ _ _ By CU rfl M.z_isinstance AR ?_ (by decide) (by decide) (by rfl) (by rfl)
 refine @Aa _ _ _ _ _ ?_ ?_ rfl
 exact (Ac 0)
 refine @Aa _ _ _ _ _ ?_ Ae rfl
 exact (BF rfl M.z_str C5)
 refine @Al _ _ _ _ ?_
 refine @Ay _ _ _ _ ?_
 refine @Az _ _ _ _ _ _ _ _ _ AL AG ?_ ?_
 refine @Az _ _ _ _ _ _ _ _ _ AL AG ?_ ?_
 exact (C9 rfl g_QUOTE)
 refine QS M.qq rfl ?_
 exact (Ac 0)
 exact (C9 rfl g_QUOTE)
 refine @Aj _ _ _ _ _ _ ?_ ?_
 refine @AS _ _ _ _ _ _ _ _ _ ?_ ?_ AC
 refine @Bl _ _ _ ?_ (by intro _;rfl)
 refine @Bd _ _ _ _ _ _ _ _ _ _ By CU rfl M.z_isinstance AR ?_ (by decide) (by decide) (by rfl) (by rfl)
 refine @Aa _ _ _ _ _ ?_ ?_ rfl
 exact (Ac 0)
 refine @Aa _ _ _ _ _ ?_ Ae rfl
 exact (BF rfl M.z_list BV)
 refine @Al _ _ _ _ ?_
 refine @Ay _ _ _ _ ?_
 refine @Az _ _ _ _ _ _ _ _ _ AL AG ?_ Ar
 refine @Az _ _ _ _ _ _ _ _ _ AL AG Ar ?_
 refine G7 Ar ?_
 refine @Aa _ _ _ _ _ ?_ Ae rfl
 refine @A1 _ _ _ ?_
 refine CP (C7 ["thing"] [] rfl rfl rfl rfl rfl) rfl ?_ ?_ ?_ ?_
 refine @En _ _ _ _ ?_
 exact (Ac 0)
 intro _ _ _ _ _
 exact (BG (by show List.Nodup [("thing" : Str)] ;decide +kernel) rfl (.inl rfl))
 intro _ _ _ _ _
 exact CQ
 intro _ _ _ _ _
 refine @Ak _ _ _ _ _ _ _ _ _ _ _ _ (ih .Ax) hr rfl (M.mgs .Ax) (Fun.kp (M.fn .Ax)) (M.bd .Ax) ?_ (by decide) (by rfl) (by rfl)
 refine @Aa _ _ _ _ _ ?_ Ae rfl
 exact (Ac 0)
 refine @Aj _ _ _ _ _ _ ?_ ?_
 refine @AS _ _ _ _ _ _ _ _ _ ?_ ?_ AC
 refine @BE _ _ _ _ ?_
 refine @Bl _ _ _ ?_ (by intro _;rfl)
 refine @Bd _ _ _ _ _ _ _ _ _ _ By CU rfl M.z_isinstance AR ?_ (by decide) (by decide) (by rfl) (by rfl)
 refine @Aa _ _ _ _ _ ?_ ?_ rfl
 exact (Ac 0)
 refine @Aa _ _ _ _ _ ?_ Ae rfl
 exact (BF rfl M.z_tuple Cv)
 refine @Al _ _ _ _ ?_
 refine @Ay _ _ _ _ ?_
 refine @Ed _ _ _ _ _ _ _ _ _ _ C6 FF rfl M.z_str C5 ?_ (by decide) (by decide) (by rfl) (by rfl)
 refine @Aa _ _ _ _ _ ?_ Ae rfl
 exact (Ac 0)
 refine @Aj _ _ _ _ _ _ ?_ ?_
 refine @AS _ _ _ _ _ _ _ _ _ ?_ ?_ AC
 refine @A4 _ _ _ _ _ _ _ _ _ (Bx hr.units) (AY (g:=id)) ?_ Ag (AV _)
 refine @Bd _ _ _ _ _ _ _ _ _ _ BI BQ rfl M.z_len B0 ?_ (by decide) (by decide) (by rfl) (by rfl)
 refine @Aa _ _ _ _ _ ?_ Ae rfl
 exact (Ac 0)
 refine @Al _ _ _ _ ?_
 refine @Ay _ _ _ _ ?_
 refine @Az _ _ _ _ _ _ _ _ _ AL AG ?_ Ar
 refine @Az _ _ _ _ _ _ _ _ _ AL AG ?_ ?_
 refine @Az _ _ _ _ _ _ _ _ _ AL AG ?_ Ar
 refine @Az _ _ _ _ _ _ _ _ _ AL AG Ar ?_
 refine @Ak _ _ _ _ _ _ _ _ _ _ _ _ (ih .Ax) hr rfl (M.mgs .Ax) (Fun.kp (M.fn .Ax)) (M.bd .Ax) ?_ (by decide) (by rfl) (by rfl)
 refine @Aa _ _ _ _ _ ?_ Ae rfl
 refine @AB _ _ _ _ _ _ _ _ As Au ?_ Ag (fun _ _=>rfl)
 exact (Ac 0)
 refine @Ak _ _ _ _ _ _ _ _ _ _ _ _ (ih .Ax) hr rfl (M.mgs .Ax) (Fun.kp (M.fn .Ax)) (M.bd .Ax) ?_ (by decide) (by rfl) (by rfl)
 refine @Aa _ _ _ _ _ ?_ Ae rfl
 refine @AB _ _ _ _ _ _ _ _ As Au ?_ Ag (fun _ _=>rfl)
 exact (Ac 0)
 refine @Al _ _ _ _ ?_
 refine @Ay _ _ _ _ ?_
 refine @Az _ _ _ _ _ _ _ _ _ AL AG ?_ ?_
 refine @Az _ _ _ _ _ _ _ _ _ AL AG ?_ Ar
 refine @Az _ _ _ _ _ _ _ _ _ AL AG Ar ?_
 refine @Ed _ _ _ _ _ _ _ _ _ _ C6 FF rfl M.z_str C5 ?_ (by decide) (by decide) (by rfl) (by rfl)
 refine @Aa _ _ _ _ _ ?_ Ae rfl
 refine @AB _ _ _ _ _ _ _ _ As Au ?_ Ag (fun _ _=>rfl)
 exact (Ac 0)
 refine @Ak _ _ _ _ _ _ _ _ _ _ _ _ (ih .Ax) hr rfl (M.mgs .Ax) (Fun.kp (M.fn .Ax)) (M.bd .Ax) ?_ (by decide) (by rfl) (by rfl)
 refine @Aa _ _ _ _ _ ?_ Ae rfl
 refine @AB _ _ _ _ _ _ _ _ As Au ?_ Ag (fun _ _=>rfl)
 exact (Ac 0)
theorem sc_read_worth_:FnScope (ns .AZ) (ps .AZ) (AF (st .AZ)):=⟨rfl,rfl,rfl,by decide +kernel,rfl,by decide +kernel,by decide +kernel⟩
theorem IR (M:Md K mg A fd) (ih:∀x,FnOk P w K mg base CX0 n (A x) (fd x) (ps x) (spF K (run n x))):FnOk P w K mg base CX0 (n + 1) (A .AZ) (fd .AZ) (ps .AZ) (spF K (run (n + 1) .AZ)):=by
 refine Bp (g:=fnOf 2 3 (D1 (run n .Ba) (run n .AJ) (run n .Bh))) rfl (Bu rfl rfl (M.fn .AZ) sc_read_worth_ (fun cdv A' outer s H E hr=>?_))
 refine @Aj _ _ _ _ _ _ ?_ ?_
 refine Ft ?_
 refine @Ak _ _ _ _ _ _ _ _ _ _ _ _ (ih .Bh) hr rfl (M.mgs .Bh) (Fun.kp (M.fn .Bh)) (M.bd .Bh) ?_ (by decide) (by rfl) (by rfl)
 refine @Aa _ _ _ _ _ ?_ Ae rfl
 exact (Ac 1)
 refine @Aj _ _ _ _ _ _ ?_ ?_
 refine @AT _ _ _ _ 2 _ _ _ sc_read_worth_.nd rfl (.inl rfl) ?_ (by rfl) (by first | exact .inl rfl | exact .inr rfl | assumption)
 refine @Ak _ _ _ _ _ _ _ _ _ _ _ _ (ih .AJ) hr rfl (M.mgs .AJ) (Fun.kp (M.fn .AJ)) (M.bd .AJ) ?_ (by decide) (by rfl) (by rfl)
 refine @Aa _ _ _ _ _ ?_ ?_ rfl
 exact (Ac 0)
 refine @Aa _ _ _ _ _ ?_ ?_ rfl
 exact (Ac 1)
 exact (@Aa _ _ _ _ _ Ag Ae rfl)
 refine @Aj _ _ _ _ _ _ ?_ ?_
 refine @AS _ _ _ _ _ _ _ _ _ ?_ ?_ AC
 refine @DW _ _ _ ?_
 refine @DX _ _ _ _ _ _ _ ?_ ?_
 refine @A4 _ _ _ _ _ _ _ _ _ (Dc hr.units) (AY (g:=fun b=>!b)) ?_ ?_ (AV _)
 refine @AB _ _ _ _ _ _ _ _ As Au ?_ Ag (fun _ _=>rfl)
 exact (Ac 2)
 refine @Bd _ _ _ _ _ _ _ _ _ _ BI BQ rfl M.z_len B0 ?_ (by decide) (by decide) (by rfl) (by rfl)
 refine @Aa _ _ _ _ _ ?_ Ae rfl
 exact (Ac 1)
 refine @Du _ _ _ _ ?_
 refine @BE _ _ _ _ ?_
 refine @Bl _ _ _ ?_ (by intro _;rfl)
 refine @Ak _ _ _ _ _ _ _ _ _ _ _ _ (ih .Ba) hr rfl (M.mgs .Ba) (Fun.kp (M.fn .Ba)) (M.bd .Ba) ?_ (by decide) (by rfl) (by rfl)
 refine @Aa _ _ _ _ _ ?_ ?_ rfl
 exact (Ac 0)
 refine @Aa _ _ _ _ _ ?_ Ae rfl
 refine @AB _ _ _ _ _ _ _ _ As Au ?_ Ag (fun _ _=>rfl)
 exact (Ac 2)
 exact (Al DM)
 refine @Al _ _ _ _ ?_
 refine @Ay _ _ _ _ ?_
 refine @AB _ _ _ _ _ _ _ _ As Au ?_ Ag (fun _ _=>rfl)
 exact (Ac 2)
theorem IW:FnScope (ns .Bh) (ps .Bh) (AF (st .Bh)):=⟨rfl,rfl,rfl,by decide +kernel,rfl,by decide +kernel,by decide +kernel⟩
theorem IG (M:Md K mg A fd) (ih:∀x,FnOk P w K mg base CX0 n (A x) (fd x) (ps x) (spF K (run n x))):FnOk P w K mg base CX0 (n + 1) (A .Bh) (fd .Bh) (ps .Bh) (spF K (run (n + 1) .Bh)):=by
 refine Bp (g:=fnOf 1 1 (D0)) rfl (Bu rfl rfl (M.fn .Bh) IW (fun cdv A' outer s H E hr=>?_))
 refine @Al _ _ _ _ ?_
 refine @AS _ _ _ _ _ _ _ _ _ ?_ ?_ AC
 refine @BE _ _ _ _ ?_
 refine @Bl _ _ _ ?_ (by intro _;rfl)
 refine @Bd _ _ _ _ _ _ _ _ _ _ By CU rfl M.z_isinstance AR ?_ (by decide) (by decide) (by rfl) (by rfl)
 refine @Aa _ _ _ _ _ ?_ ?_ rfl
 exact (Ac 0)
 refine @Aa _ _ _ _ _ ?_ Ae rfl
 exact (BF rfl M.z_str C5)
 exact (Al DM)
theorem sc_worth_at_:FnScope (ns .AJ) (ps .AJ) (AF (st .AJ)):=⟨rfl,rfl,rfl,by decide +kernel,rfl,by decide +kernel,by decide +kernel⟩
theorem K0 (M:Md K mg A fd) (ih:∀x,FnOk P w K mg base CX0 n (A x) (fd x) (ps x) (spF K (run n x))):FnOk P w K mg base CX0 (n + 1) (A .AJ) (fd .AJ) (ps .AJ) (spF K (run (n + 1) .AJ)):=by
 refine Bp (g:=fnOf 3 4 (ED (run n .Br) (run n .BD) (run n .Bb) (run n .Bo) (run n .A2) (run n .Am))) rfl (Bu rfl rfl (M.fn .AJ) sc_worth_at_ (fun cdv A' outer s H E hr=>?_))
 refine @Aj _ _ _ _ _ _ ?_ ?_
 refine @AT _ _ _ _ 3 _ _ _ sc_worth_at_.nd rfl (.inl rfl) ?_ (by rfl) (by first | exact .inl rfl | exact .inr rfl | assumption)
 refine @AB _ _ _ _ _ _ _ _ As Au ?_ Ag (fun _ _=>rfl)
 exact (Ac 0)
 refine @Aj _ _ _ _ _ _ ?_ ?_
 refine @AS _ _ _ _ _ _ _ _ _ ?_ ?_ AC
 refine @A4 _ _ _ _ _ _ _ _ _ (Bx hr.units) (AY (g:=id)) ?_ Ar (AV _)
 exact (Ac 3)
 refine @Al _ _ _ _ ?_
 refine @Ay _ _ _ _ ?_
 refine @Bg _ _ _ _ _ ?_
 refine @Aa _ _ _ _ _ Fq ?_ rfl
 refine @Aa _ _ _ _ _ ?_ Ae rfl
 refine @Ak _ _ _ _ _ _ _ _ _ _ _ _ (ih .Am) hr rfl (M.mgs .Am) (Fun.kp (M.fn .Am)) (M.bd .Am) ?_ (by decide) (by rfl) (by rfl)
 refine @Aa _ _ _ _ _ ?_ ?_ rfl
 exact (Ac 1)
 refine @Aa _ _ _ _ _ ?_ ?_ rfl
 exact (Ac 2)
 exact (@Aa _ _ _ _ _ Ar Ae rfl)
 refine @Aj _ _ _ _ _ _ ?_ ?_
 refine @AS _ _ _ _ _ _ _ _ _ ?_ ?_ AC
 refine @A4 _ _ _ _ _ _ _ _ _ (Bx hr.units) (AY (g:=id)) ?_ Ar (AV _)
 exact (Ac 3)
 refine @Al _ _ _ _ ?_
 refine @Ay _ _ _ _ ?_
 refine @Ak _ _ _ _ _ _ _ _ _ _ _ _ (ih .A2) hr rfl (M.mgs .A2) (Fun.kp (M.fn .A2)) (M.bd .A2) ?_ (by decide) (by rfl) (by rfl)
 refine @Aa _ _ _ _ _ ?_ ?_ rfl
 exact (Ac 1)
 refine @Aa _ _ _ _ _ ?_ Ae rfl
 exact (Ac 2)
 refine @Aj _ _ _ _ _ _ ?_ ?_
 refine @AS _ _ _ _ _ _ _ _ _ ?_ ?_ AC
 refine @A4 _ _ _ _ _ _ _ _ _ (Bx hr.units) (AY (g:=id)) ?_ Ar (AV _)
 exact (Ac 3)
 refine @Al _ _ _ _ ?_
 refine @Ay _ _ _ _ ?_
 refine @Ak _ _ _ _ _ _ _ _ _ _ _ _ (ih .Bo) hr rfl (M.mgs .Bo) (Fun.kp (M.fn .Bo)) (M.bd .Bo) ?_ (by decide) (by rfl) (by rfl)
 refine @Aa _ _ _ _ _ ?_ ?_ rfl
 exact (Ac 1)
 refine @Aa _ _ _ _ _ ?_ Ae rfl
 exact (Ac 2)
 refine @Aj _ _ _ _ _ _ ?_ ?_
 refine @AS _ _ _ _ _ _ _ _ _ ?_ ?_ AC
 refine @A4 _ _ _ _ _ _ _ _ _ (Bx hr.units) (AY (g:=id)) ?_ Ar (AV _)
 exact (Ac 3)
 refine @Al _ _ _ _ ?_
 refine @Ay _ _ _ _ ?_
 refine @Ak _ _ _ _ _ _ _ _ _ _ _ _ (ih .Bb) hr rfl (M.mgs .Bb) (Fun.kp (M.fn .Bb)) (M.bd .Bb) ?_ (by decide) (by rfl) (by rfl)
 refine @Aa _ _ _ _ _ ?_ ?_ rfl
 exact (Ac 0)
 refine @Aa _ _ _ _ _ ?_ ?_ rfl
 exact (Ac 1)
 refine @Aa _ _ _ _ _ ?_ Ae rfl
 exact (Ac 2)
 refine @Aj _ _ _ _ _ _ ?_ ?_
 refine @AS _ _ _ _ _ _ _ _ _ ?_ ?_ AC
 refine @A4 _ _ _ _ _ _ _ _ _ (Bx hr.units) (AY (g:=id)) ?_ Ar (AV _)
 exact (Ac 3)
 refine @Al _ _ _ _ ?_
 refine @Ay _ _ _ _ ?_
 refine @Ak _ _ _ _ _ _ _ _ _ _ _ _ (ih .BD) hr rfl (M.mgs .BD) (Fun.kp (M.fn .BD)) (M.bd .BD) ?_ (by decide) (by rfl) (by rfl)
 refine @Aa _ _ _ _ _ ?_ ?_ rfl
 exact (Ac 0)
 refine @Aa _ _ _ _ _ ?_ ?_ rfl
 exact (Ac 1)
 refine @Aa _ _ _ _ _ ?_ Ae rfl
 exact (Ac 2)
 refine @Al _ _ _ _ ?_
 refine @Ay _ _ _ _ ?_
 refine @Ak _ _ _ _ _ _ _ _ _ _ _ _ (ih .Br) hr rfl (M.mgs .Br) (Fun.kp (M.fn .Br)) (M.bd .Br) ?_ (by decide) (by rfl) (by rfl)
 refine @Aa _ _ _ _ _ ?_ ?_ rfl
 exact (Ac 0)
 refine @Aa _ _ _ _ _ ?_ ?_ rfl
 exact (Ac 1)
 refine @Aa _ _ _ _ _ ?_ Ae rfl
 exact (Ac 2)
theorem sc_list_at_:FnScope (ns .Bb) (ps .Bb) (AF (st .Bb)):=⟨rfl,rfl,rfl,by decide +kernel,rfl,by decide +kernel,by decide +kernel⟩
theorem LP (M:Md K mg A fd) (TB:TabAt base mg cc Pt) (ih:∀x,FnOk P w K mg base CX0 n (A x) (fd x) (ps x) (spF K (run n x))):FnOk P w K mg base CX0 (n + 1) (A .Bb) (fd .Bb) (ps .Bb) (spF K (run (n + 1) .Bb)):=by
 refine Bp (g:=fnOf 3 4 (Fd lamD Pt 103 36 (run n .BH) (run n .Am))) rfl (SS rfl rfl (M.fn .Bb) M.cd sc_list_at_ (fun A' outer s H E hr=>?_))
 refine @Aj _ _ _ _ _ _ ?_ ?_
 refine @AT _ _ _ _ 3 _ _ _ sc_list_at_.nd rfl (.inl rfl) ?_ (by rfl) (by first | exact .inl rfl | exact .inr rfl | assumption)
 refine @Ak _ _ _ _ _ _ _ _ _ _ _ _ (ih .Am) hr rfl (M.mgs .Am) (Fun.kp (M.fn .Am)) (M.bd .Am) ?_ (by decide) (by rfl) (by rfl)
 refine @Aa _ _ _ _ _ ?_ ?_ rfl
 exact (Ac 1)
 refine @Aa _ _ _ _ _ ?_ ?_ rfl
 exact (Ac 2)
 exact (@Aa _ _ _ _ _ Ar Ae rfl)
 refine @Aj _ _ _ _ _ _ ?_ ?_
 refine @AS _ _ _ _ _ _ _ _ _ ?_ ?_ AC
 refine @Bl _ _ _ ?_ (by intro _;rfl)
 refine Em ?_ ?_
 exact (Ac 1)
 refine @Aa _ _ _ _ _ Ar ?_ rfl
 refine @Aa _ _ _ _ _ ?_ Ae rfl
 exact (Ac 3)
 refine @Al _ _ _ _ ?_
 refine @Ay _ _ _ _ ?_
 refine @Bg _ _ _ _ _ ?_
 refine @Aa _ _ _ _ _ ?_ ?_ rfl
 refine @NH _ _ _ ?_
 exact (BB Ae)
 refine @Aa _ _ _ _ _ ?_ Ae rfl
 refine @Az _ _ _ _ _ _ _ _ _ AL AG ?_ Ag
 exact (Ac 3)
 refine @Al _ _ _ _ ?_
 refine @Ay _ _ _ _ ?_
 refine @Ak _ _ _ _ _ _ _ _ _ _ _ _ (ih .BH) hr rfl (M.mgs .BH) (Fun.kp (M.fn .BH)) (M.bd .BH) ?_ (by decide) (by rfl) (by rfl)
 refine @Aa _ _ _ _ _ ?_ ?_ rfl
 exact (Ac 1)
 refine @Aa _ _ _ _ _ ?_ ?_ rfl
 exact (Ac 3)
 refine @Aa _ _ _ _ _ Ar ?_ rfl
 refine @Aa _ _ _ _ _ ?_ Ae rfl
 exact (SM (kt:=0) (c:=cc) (P:=Pt) (L:=lamD) (cs:=[s.heap.objs.size + 1 + 1 ,s.heap.objs.size + 1]) (js:=[1 ,0]) TB rfl rfl rfl (by simp) rfl rfl (.cons ⟨rfl ,rfl ,rfl ,rfl ,Q2⟩ (.cons ⟨rfl ,rfl ,rfl ,rfl ,VJ⟩ .nil)))
theorem sc_pair_at_:FnScope (ns .BD) (ps .BD) (AF (st .BD)):=⟨rfl,rfl,rfl,by decide +kernel,rfl,by decide +kernel,by decide +kernel⟩
theorem LQ (M:Md K mg A fd) (ih:∀x,FnOk P w K mg base CX0 n (A x) (fd x) (ps x) (spF K (run n x))):FnOk P w K mg base CX0 (n + 1) (A .BD) (fd .BD) (ps .BD) (spF K (run (n + 1) .BD)):=by
 refine Bp (g:=fnOf 3 5 (Fe (run n .Am) (run n .AJ))) rfl (Bu rfl rfl (M.fn .BD) sc_pair_at_ (fun cdv A' outer s H E hr=>?_))
 refine @Aj _ _ _ _ _ _ ?_ ?_
 refine @AT _ _ _ _ 3 _ _ _ sc_pair_at_.nd rfl (.inl rfl) ?_ (by rfl) (by first | exact .inl rfl | exact .inr rfl | assumption)
 refine @Ak _ _ _ _ _ _ _ _ _ _ _ _ (ih .AJ) hr rfl (M.mgs .AJ) (Fun.kp (M.fn .AJ)) (M.bd .AJ) ?_ (by decide) (by rfl) (by rfl)
 refine @Aa _ _ _ _ _ ?_ ?_ rfl
 refine @AB _ _ _ _ _ _ _ _ As Au ?_ Ag (fun _ _=>rfl)
 exact (Ac 0)
 refine @Aa _ _ _ _ _ ?_ ?_ rfl
 exact (Ac 1)
 refine @Aa _ _ _ _ _ ?_ Ae rfl
 refine @Ak _ _ _ _ _ _ _ _ _ _ _ _ (ih .Am) hr rfl (M.mgs .Am) (Fun.kp (M.fn .Am)) (M.bd .Am) ?_ (by decide) (by rfl) (by rfl)
 refine @Aa _ _ _ _ _ ?_ ?_ rfl
 exact (Ac 1)
 refine @Aa _ _ _ _ _ ?_ ?_ rfl
 exact (Ac 2)
 exact (@Aa _ _ _ _ _ Ar Ae rfl)
 refine @Aj _ _ _ _ _ _ ?_ ?_
 refine @AT _ _ _ _ 4 _ _ _ sc_pair_at_.nd rfl (.inl rfl) ?_ (by rfl) (by first | exact .inl rfl | exact .inr rfl | assumption)
 refine @Ak _ _ _ _ _ _ _ _ _ _ _ _ (ih .AJ) hr rfl (M.mgs .AJ) (Fun.kp (M.fn .AJ)) (M.bd .AJ) ?_ (by decide) (by rfl) (by rfl)
 refine @Aa _ _ _ _ _ ?_ ?_ rfl
 refine @AB _ _ _ _ _ _ _ _ As Au ?_ Ag (fun _ _=>rfl)
 exact (Ac 0)
 refine @Aa _ _ _ _ _ ?_ ?_ rfl
 exact (Ac 1)
 refine @Aa _ _ _ _ _ ?_ Ae rfl
 refine @Ak _ _ _ _ _ _ _ _ _ _ _ _ (ih .Am) hr rfl (M.mgs .Am) (Fun.kp (M.fn .Am)) (M.bd .Am) ?_ (by decide) (by rfl) (by rfl)
 refine @Aa _ _ _ _ _ ?_ ?_ rfl
 exact (Ac 1)
 refine @Aa _ _ _ _ _ ?_ ?_ rfl
 refine @AB _ _ _ _ _ _ _ _ As Au ?_ Ag (fun _ _=>rfl)
 exact (Ac 3)
 exact (@Aa _ _ _ _ _ Ar Ae rfl)
 refine @Al _ _ _ _ ?_
 refine @Ay _ _ _ _ ?_
 refine @Bg _ _ _ _ _ ?_
 refine @Aa _ _ _ _ _ ?_ ?_ rfl
 refine @Bg _ _ _ _ _ ?_
 refine @Aa _ _ _ _ _ ?_ ?_ rfl
 refine @AB _ _ _ _ _ _ _ _ As Au ?_ Ag (fun _ _=>rfl)
 exact (Ac 3)
 refine @Aa _ _ _ _ _ ?_ Ae rfl
 refine @AB _ _ _ _ _ _ _ _ As Au ?_ Ag (fun _ _=>rfl)
 exact (Ac 4)
 refine @Aa _ _ _ _ _ ?_ Ae rfl
 refine @Ak _ _ _ _ _ _ _ _ _ _ _ _ (ih .Am) hr rfl (M.mgs .Am) (Fun.kp (M.fn .Am)) (M.bd .Am) ?_ (by decide) (by rfl) (by rfl)
 refine @Aa _ _ _ _ _ ?_ ?_ rfl
 exact (Ac 1)
 refine @Aa _ _ _ _ _ ?_ ?_ rfl
 refine @AB _ _ _ _ _ _ _ _ As Au ?_ Ag (fun _ _=>rfl)
 exact (Ac 4)
 exact (@Aa _ _ _ _ _ Ar Ae rfl)
theorem sc_choice_at_:FnScope (ns .Br) (ps .Br) (AF (st .Br)):=⟨rfl,rfl,rfl,by decide +kernel,rfl,by decide +kernel,by decide +kernel⟩
theorem JL (M:Md K mg A fd) (ih:∀x,FnOk P w K mg base CX0 n (A x) (fd x) (ps x) (spF K (run n x))):FnOk P w K mg base CX0 (n + 1) (A .Br) (fd .Br) (ps .Br) (spF K (run (n + 1) .Br)):=by
 refine Bp (g:=fnOf 3 5 (Eg (run n .Am) (run n .AJ) (run n .Aq) (run n .A2))) rfl (Bu rfl rfl (M.fn .Br) sc_choice_at_ (fun cdv A' outer s H E hr=>?_))
 refine @Aj _ _ _ _ _ _ ?_ ?_
 refine @AT _ _ _ _ 3 _ _ _ sc_choice_at_.nd rfl (.inl rfl) ?_ (by rfl) (by first | exact .inl rfl | exact .inr rfl | assumption)
 refine @Ak _ _ _ _ _ _ _ _ _ _ _ _ (ih .A2) hr rfl (M.mgs .A2) (Fun.kp (M.fn .A2)) (M.bd .A2) ?_ (by decide) (by rfl) (by rfl)
 refine @Aa _ _ _ _ _ ?_ ?_ rfl
 exact (Ac 1)
 refine @Aa _ _ _ _ _ ?_ Ae rfl
 refine @Ak _ _ _ _ _ _ _ _ _ _ _ _ (ih .Am) hr rfl (M.mgs .Am) (Fun.kp (M.fn .Am)) (M.bd .Am) ?_ (by decide) (by rfl) (by rfl)
 refine @Aa _ _ _ _ _ ?_ ?_ rfl
 exact (Ac 1)
 refine @Aa _ _ _ _ _ ?_ ?_ rfl
 exact (Ac 2)
 exact (@Aa _ _ _ _ _ Ar Ae rfl)
 refine @Aj _ _ _ _ _ _ ?_ ?_
 refine @AS _ _ _ _ _ _ _ _ _ ?_ ?_ AC
 refine @BE _ _ _ _ ?_
 refine @Bl _ _ _ ?_ (by intro _;rfl)
 refine @Ak _ _ _ _ _ _ _ _ _ _ _ _ (ih .Aq) hr rfl (M.mgs .Aq) (Fun.kp (M.fn .Aq)) (M.bd .Aq) ?_ (by decide) (by rfl) (by rfl)
 refine @Aa _ _ _ _ _ ?_ ?_ rfl
 refine @AB _ _ _ _ _ _ _ _ As Au ?_ Ag (fun _ _=>rfl)
 exact (Ac 3)
 refine @Aa _ _ _ _ _ Ag ?_ rfl
 refine @Aa _ _ _ _ _ ?_ Ae rfl
 refine @Az _ _ _ _ _ _ _ _ _ BU BM ?_ Ag
 refine @Bd _ _ _ _ _ _ _ _ _ _ BI BQ rfl M.z_len B0 ?_ (by decide) (by decide) (by rfl) (by rfl)
 refine @Aa _ _ _ _ _ ?_ Ae rfl
 refine @AB _ _ _ _ _ _ _ _ As Au ?_ Ag (fun _ _=>rfl)
 exact (Ac 0)
 exact (Al DM)
 refine @Aj _ _ _ _ _ _ ?_ ?_
 refine @AT _ _ _ _ 4 _ _ _ sc_choice_at_.nd rfl (.inl rfl) ?_ (by rfl) (by first | exact .inl rfl | exact .inr rfl | assumption)
 refine @Ak _ _ _ _ _ _ _ _ _ _ _ _ (ih .AJ) hr rfl (M.mgs .AJ) (Fun.kp (M.fn .AJ)) (M.bd .AJ) ?_ (by decide) (by rfl) (by rfl)
 refine @Aa _ _ _ _ _ ?_ ?_ rfl
 refine @AB _ _ _ _ _ _ _ _ As Au ?_ ?_ (fun _ _=>rfl)
 refine @AB _ _ _ _ _ _ _ _ As Au ?_ Ag (fun _ _=>rfl)
 exact (Ac 0)
 refine @AB _ _ _ _ _ _ _ _ As Au ?_ Ag (fun _ _=>rfl)
 exact (Ac 3)
 refine @Aa _ _ _ _ _ ?_ ?_ rfl
 exact (Ac 1)
 refine @Aa _ _ _ _ _ ?_ Ae rfl
 refine @Ak _ _ _ _ _ _ _ _ _ _ _ _ (ih .Am) hr rfl (M.mgs .Am) (Fun.kp (M.fn .Am)) (M.bd .Am) ?_ (by decide) (by rfl) (by rfl)
 refine @Aa _ _ _ _ _ ?_ ?_ rfl
 exact (Ac 1)
 refine @Aa _ _ _ _ _ ?_ ?_ rfl
 refine @AB _ _ _ _ _ _ _ _ As Au ?_ Ag (fun _ _=>rfl)
 exact (Ac 3)
 exact (@Aa _ _ _ _ _ Ar Ae rfl)
 refine @Al _ _ _ _ ?_
 refine @Ay _ _ _ _ ?_
 refine @Bg _ _ _ _ _ ?_
 refine @Aa _ _ _ _ _ ?_ ?_ rfl
 refine @Bg _ _ _ _ _ ?_
 refine @Aa _ _ _ _ _ Ar ?_ rfl
 refine @Aa _ _ _ _ _ ?_ ?_ rfl
 refine @AB _ _ _ _ _ _ _ _ As Au ?_ Ag (fun _ _=>rfl)
 exact (Ac 3)
 refine @Aa _ _ _ _ _ ?_ Ae rfl
 refine @AB _ _ _ _ _ _ _ _ As Au ?_ Ag (fun _ _=>rfl)
 exact (Ac 4)
 refine @Aa _ _ _ _ _ ?_ Ae rfl
 refine @AB _ _ _ _ _ _ _ _ As Au ?_ Ag (fun _ _=>rfl)
 exact (Ac 4)
theorem sc_row_at_:FnScope (ns .BH) (ps .BH) (AF (st .BH)):=⟨rfl,rfl,rfl,by decide +kernel,rfl,by decide +kernel,by decide +kernel⟩
theorem M1 (M:Md K mg A fd) (ihL:Kf P w K mg base n lamD "start" (IC n)) (ih:∀x,FnOk P w K mg base CX0 n (A x) (fd x) (ps x) (spF K (run n x))):FnOk P w K mg base CX0 (n + 1) (A .BH) (fd .BH) (ps .BH) (spF K (run (n + 1) .BH)):=by
 refine Bp (g:=fnOf 4 6 (Ek lamD (IC n) (run n .Am))) rfl (Bu rfl rfl (M.fn .BH) sc_row_at_ (fun cdv A' outer s H E hr=>?_))
 refine @Aj _ _ _ _ _ _ ?_ ?_
 refine @AT _ _ _ _ 4 _ _ _ sc_row_at_.nd rfl (.inl rfl) ?_ (by rfl) (by first | exact .inl rfl | exact .inr rfl | assumption)
 refine KH (L:=lamD) (NT n) ihL hr Tb (i:=3) rfl (.inl rfl) ?_
 refine @Aa _ _ _ _ _ ?_ Ae rfl
 exact (Ac 1)
 refine @Aj _ _ _ _ _ _ ?_ ?_
 refine @AT _ _ _ _ 5 _ _ _ sc_row_at_.nd rfl (.inl rfl) ?_ (by rfl) (by first | exact .inl rfl | exact .inr rfl | assumption)
 refine @NH _ _ _ ?_
 refine @BB _ _ _ _ ?_
 refine @Aa _ _ _ _ _ ?_ Ae rfl
 refine @AB _ _ _ _ _ _ _ _ As Au ?_ Ag (fun _ _=>rfl)
 exact (Ac 4)
 refine @Aj _ _ _ _ _ _ ?_ ?_
 refine Ha PassesOwn.never ?_ ?_
 refine @Bl _ _ _ ?_ (by intro _;rfl)
 refine Em ?_ ?_
 exact (Ac 0)
 refine @Aa _ _ _ _ _ Ar ?_ rfl
 refine @Aa _ _ _ _ _ ?_ Ae rfl
 refine @AB _ _ _ _ _ _ _ _ As Au ?_ Ag (fun _ _=>rfl)
 exact (Ac 4)
 refine @Aj _ _ _ _ _ _ ?_ ?_
 refine @AT _ _ _ _ 4 _ _ _ sc_row_at_.nd rfl (.inl rfl) ?_ (by rfl) (by first | exact .inl rfl | exact .inr rfl | assumption)
 refine KH (L:=lamD) (NT n) ihL hr Tb (i:=3) rfl (.inl rfl) ?_
 refine @Aa _ _ _ _ _ ?_ Ae rfl
 refine @Az _ _ _ _ _ _ _ _ _ AL AG ?_ Ag
 refine @AB _ _ _ _ _ _ _ _ As Au ?_ Ag (fun _ _=>rfl)
 exact (Ac 4)
 refine @Al _ _ _ _ ?_
 refine Ft ?_
 refine Jq ?_ ?_
 exact (Ac 5)
 refine @Aa _ _ _ _ _ ?_ Ae rfl
 refine @AB _ _ _ _ _ _ _ _ As Au ?_ Ag (fun _ _=>rfl)
 exact (Ac 4)
 refine @Al _ _ _ _ ?_
 refine @Ay _ _ _ _ ?_
 refine @Bg _ _ _ _ _ ?_
 refine @Aa _ _ _ _ _ ?_ ?_ rfl
 exact (Ac 5)
 refine @Aa _ _ _ _ _ ?_ Ae rfl
 refine @Ak _ _ _ _ _ _ _ _ _ _ _ _ (ih .Am) hr rfl (M.mgs .Am) (Fun.kp (M.fn .Am)) (M.bd .Am) ?_ (by decide) (by rfl) (by rfl)
 refine @Aa _ _ _ _ _ ?_ ?_ rfl
 exact (Ac 0)
 refine @Aa _ _ _ _ _ ?_ ?_ rfl
 refine @AB _ _ _ _ _ _ _ _ As Au ?_ Ag (fun _ _=>rfl)
 exact (Ac 4)
 refine @Aa _ _ _ _ _ ?_ Ae rfl
 exact (Ac 2)
theorem sc_number_at_:FnScope (ns .A2) (ps .A2) (AF (st .A2)):=⟨rfl,rfl,rfl,by decide +kernel,rfl,by decide +kernel,by decide +kernel⟩
theorem JT (M:Md K mg A fd) (ih:∀x,FnOk P w K mg base CX0 n (A x) (fd x) (ps x) (spF K (run n x))):FnOk P w K mg base CX0 (n + 1) (A .A2) (fd .A2) (ps .A2) (spF K (run (n + 1) .A2)):=by
 obtain ⟨_,g_FIGURES⟩:=M.g_FIGURES
 obtain ⟨_,g_MOST_FIGURES⟩:=M.g_MOST_FIGURES
 refine Bp (g:=fnOf 2 5 (Ei (run n .Bc))) rfl (Bu rfl rfl (M.fn .A2) sc_number_at_ (fun cdv A' outer s H E hr=>?_))
 refine @Aj _ _ _ _ _ _ ?_ ?_
 refine @AT _ _ _ _ 2 _ _ _ sc_number_at_.nd rfl (.inl rfl) ?_ (by rfl) (by first | exact .inl rfl | exact .inr rfl | assumption)
 refine OX ?_ ?_ ?_
 refine @Bl _ _ _ ?_ (by intro _;rfl)
 refine Em ?_ ?_
 exact (Ac 0)
 refine @Aa _ _ _ _ _ Ar ?_ rfl
 refine @Aa _ _ _ _ _ ?_ Ae rfl
 exact (Ac 1)
 refine @Az _ _ _ _ _ _ _ _ _ AL AG ?_ Ag
 exact (Ac 1)
 exact (Ac 1)
 refine @Aj _ _ _ _ _ _ ?_ ?_
 refine @AT _ _ _ _ 3 _ _ _ sc_number_at_.nd rfl (.inl rfl) ?_ (by rfl) (by first | exact .inl rfl | exact .inr rfl | assumption)
 refine @Ak _ _ _ _ _ _ _ _ _ _ _ _ (ih .Bc) hr rfl (M.mgs .Bc) (Fun.kp (M.fn .Bc)) (M.bd .Bc) ?_ (by decide) (by rfl) (by rfl)
 refine @Aa _ _ _ _ _ ?_ ?_ rfl
 exact (Ac 0)
 refine @Aa _ _ _ _ _ ?_ ?_ rfl
 exact (Ac 2)
 refine @Aa _ _ _ _ _ ?_ Ae rfl
 exact (C9 rfl g_FIGURES)
 refine @Aj _ _ _ _ _ _ ?_ ?_
 refine @AS _ _ _ _ _ _ _ _ _ ?_ ?_ AC
 refine @BE _ _ _ _ ?_
 refine OZ Fw Fw EJ EJ Ag ?_ ?_
 refine @Az _ _ _ _ _ _ _ _ _ BU BM ?_ ?_
 exact (Ac 3)
 exact (Ac 2)
 exact (GN rfl g_MOST_FIGURES)
 exact (Al DM)
 refine @Aj _ _ _ _ _ _ ?_ ?_
 refine @AT _ _ _ _ 4 _ _ _ sc_number_at_.nd rfl (.inl rfl) ?_ (by rfl) (by first | exact .inl rfl | exact .inr rfl | assumption)
 refine @Ed _ _ _ _ _ _ _ _ _ _ Nu PL rfl M.z_int EM ?_ (by decide) (by decide) (by rfl) (by rfl)
 refine @Aa _ _ _ _ _ ?_ Ae rfl
 refine @ER _ _ _ _ _ _ _ _ _ _ _ sl3 FE ?_ ?_ ?_
 exact (Ac 0)
 refine Dd ?_
 exact (Ac 1)
 refine Dd ?_
 exact (Ac 3)
 refine @Aj _ _ _ _ _ _ ?_ ?_
 refine @AS _ _ _ _ _ _ _ _ _ ?_ ?_ AC
 refine @A4 _ _ _ _ _ _ _ _ _ (Dc hr.units) (AY (g:=fun b=>!b)) ?_ ?_ (AV _)
 refine @Ed _ _ _ _ _ _ _ _ _ _ C6 FF rfl M.z_str C5 ?_ (by decide) (by decide) (by rfl) (by rfl)
 refine @Aa _ _ _ _ _ ?_ Ae rfl
 exact (Ac 4)
 refine @ER _ _ _ _ _ _ _ _ _ _ _ sl3 FE ?_ ?_ ?_
 exact (Ac 0)
 refine Dd ?_
 exact (Ac 1)
 refine Dd ?_
 exact (Ac 3)
 exact (Al DM)
 refine @Al _ _ _ _ ?_
 refine @Ay _ _ _ _ ?_
 refine @Bg _ _ _ _ _ ?_
 refine @Aa _ _ _ _ _ ?_ ?_ rfl
 exact (Ac 4)
 refine @Aa _ _ _ _ _ ?_ Ae rfl
 exact (Ac 3)
theorem sc_quoted_at_:FnScope (ns .Bo) (ps .Bo) (AF (st .Bo)):=⟨rfl,rfl,rfl,by decide +kernel,rfl,by decide +kernel,by decide +kernel⟩
theorem JU (M:Md K mg A fd) (ih:∀x,FnOk P w K mg base CX0 n (A x) (fd x) (ps x) (spF K (run n x))):FnOk P w K mg base CX0 (n + 1) (A .Bo) (fd .Bo) (ps .Bo) (spF K (run (n + 1) .Bo)):=by
 obtain ⟨_,g_QUOTE⟩:=M.g_QUOTE
 refine Bp (g:=fnOf 2 5 (Ej (run n .Am))) rfl (Bu rfl rfl (M.fn .Bo) sc_quoted_at_ (fun cdv A' outer s H E hr=>?_))
 refine @Aj _ _ _ _ _ _ ?_ ?_
 refine @AT _ _ _ _ 2 _ _ _ sc_quoted_at_.nd rfl (.inl rfl) ?_ (by rfl) (by first | exact .inl rfl | exact .inr rfl | assumption)
 refine @Ak _ _ _ _ _ _ _ _ _ _ _ _ (ih .Am) hr rfl (M.mgs .Am) (Fun.kp (M.fn .Am)) (M.bd .Am) ?_ (by decide) (by rfl) (by rfl)
 refine @Aa _ _ _ _ _ ?_ ?_ rfl
 exact (Ac 0)
 refine @Aa _ _ _ _ _ ?_ ?_ rfl
 exact (Ac 1)
 refine @Aa _ _ _ _ _ ?_ Ae rfl
 exact (C9 rfl g_QUOTE)
 refine @Aj _ _ _ _ _ _ ?_ ?_
 exact (AT (i:=3) sc_quoted_at_.nd rfl (.inl rfl) Ar)
 refine @Aj _ _ _ _ _ _ ?_ ?_
 refine @AT _ _ _ _ 4 _ _ _ sc_quoted_at_.nd rfl (.inl rfl) ?_ (by rfl) (by first | exact .inl rfl | exact .inr rfl | assumption)
 refine KJ ?_ ?_
 exact (Ac 0)
 refine @Aa _ _ _ _ _ ?_ ?_ rfl
 exact (C9 rfl g_QUOTE)
 refine @Aa _ _ _ _ _ ?_ Ae rfl
 exact (Ac 2)
 refine @Aj _ _ _ _ _ _ ?_ ?_
 refine Ha PassesOwn.never ?_ ?_
 refine @A4 _ _ _ _ _ _ _ _ _ Th R3 ?_ Ag (AV _)
 exact (Ac 4)
 refine @Aj _ _ _ _ _ _ ?_ ?_
 refine @AT _ _ _ _ 3 _ _ _ sc_quoted_at_.nd rfl (.inl rfl) ?_ (by rfl) (by first | exact .inl rfl | exact .inr rfl | assumption)
 refine @Az _ _ _ _ _ _ _ _ _ AL AG ?_ ?_
 exact (Ac 3)
 refine @ER _ _ _ _ _ _ _ _ _ _ _ sl3 FE ?_ ?_ ?_
 exact (Ac 0)
 refine Dd ?_
 exact (Ac 2)
 refine Dd ?_
 exact (Ac 4)
 refine @Aj _ _ _ _ _ _ ?_ ?_
 refine @AS _ _ _ _ _ _ _ _ _ ?_ ?_ AC
 refine @BE _ _ _ _ ?_
 refine @Bl _ _ _ ?_ (by intro _;rfl)
 refine Em ?_ ?_
 exact (Ac 0)
 refine @Aa _ _ _ _ _ ?_ ?_ rfl
 exact (C9 rfl g_QUOTE)
 refine @Aa _ _ _ _ _ ?_ Ae rfl
 refine @Az _ _ _ _ _ _ _ _ _ AL AG ?_ Ag
 exact (Ac 4)
 refine @Al _ _ _ _ ?_
 refine @Ay _ _ _ _ ?_
 refine @Bg _ _ _ _ _ ?_
 refine @Aa _ _ _ _ _ ?_ ?_ rfl
 exact (Ac 3)
 refine @Aa _ _ _ _ _ ?_ Ae rfl
 refine @Az _ _ _ _ _ _ _ _ _ AL AG ?_ Ag
 exact (Ac 4)
 refine @Aj _ _ _ _ _ _ ?_ ?_
 refine @AT _ _ _ _ 3 _ _ _ sc_quoted_at_.nd rfl (.inl rfl) ?_ (by rfl) (by first | exact .inl rfl | exact .inr rfl | assumption)
 refine @Az _ _ _ _ _ _ _ _ _ AL AG ?_ ?_
 exact (Ac 3)
 exact (C9 rfl g_QUOTE)
 refine @Aj _ _ _ _ _ _ ?_ ?_
 refine @AT _ _ _ _ 2 _ _ _ sc_quoted_at_.nd rfl (.inl rfl) ?_ (by rfl) (by first | exact .inl rfl | exact .inr rfl | assumption)
 refine @Az _ _ _ _ _ _ _ _ _ AL AG ?_ Ag
 exact (Ac 4)
 refine @Al _ _ _ _ ?_
 refine @AT _ _ _ _ 4 _ _ _ sc_quoted_at_.nd rfl (.inl rfl) ?_ (by rfl) (by first | exact .inl rfl | exact .inr rfl | assumption)
 refine KJ ?_ ?_
 exact (Ac 0)
 refine @Aa _ _ _ _ _ ?_ ?_ rfl
 exact (C9 rfl g_QUOTE)
 refine @Aa _ _ _ _ _ ?_ Ae rfl
 exact (Ac 2)
 exact (Al DM)
theorem HX:FnScope (ns .Am) (ps .Am) (AF (st .Am)):=⟨rfl,rfl,rfl,by decide +kernel,rfl,by decide +kernel,by decide +kernel⟩
theorem HR (M:Md K mg A fd) (ih:∀x,FnOk P w K mg base CX0 n (A x) (fd x) (ps x) (spF K (run n x))):FnOk P w K mg base CX0 (n + 1) (A .Am) (fd .Am) (ps .Am) (spF K (run (n + 1) .Am)):=by
 refine Bp (g:=fnOf 3 3 (DA)) rfl (Bu rfl rfl (M.fn .Am) HX (fun cdv A' outer s H E hr=>?_))
 refine @Aj _ _ _ _ _ _ ?_ ?_
 refine @AS _ _ _ _ _ _ _ _ _ ?_ ?_ AC
 refine @BE _ _ _ _ ?_
 refine @Bl _ _ _ ?_ (by intro _;rfl)
 refine Em ?_ ?_
 exact (Ac 0)
 refine @Aa _ _ _ _ _ ?_ ?_ rfl
 exact (Ac 2)
 refine @Aa _ _ _ _ _ ?_ Ae rfl
 exact (Ac 1)
 exact (Al DM)
 refine @Al _ _ _ _ ?_
 refine @Ay _ _ _ _ ?_
 refine @Az _ _ _ _ _ _ _ _ _ AL AG ?_ Ag
 exact (Ac 1)
theorem sc_behind_all_:FnScope (ns .Bc) (ps .Bc) (AF (st .Bc)):=⟨rfl,rfl,rfl,by decide +kernel,rfl,by decide +kernel,by decide +kernel⟩
theorem IF (M:Md K mg A fd) (ih:∀x,FnOk P w K mg base CX0 n (A x) (fd x) (ps x) (spF K (run n x))):FnOk P w K mg base CX0 (n + 1) (A .Bc) (fd .Bc) (ps .Bc) (spF K (run (n + 1) .Bc)):=by
 refine Bp (g:=fnOf 3 4 (DZ)) rfl (Bu rfl rfl (M.fn .Bc) sc_behind_all_ (fun cdv A' outer s H E hr=>?_))
 refine @Aj _ _ _ _ _ _ ?_ ?_
 refine @AT _ _ _ _ 3 _ _ _ sc_behind_all_.nd rfl (.inl rfl) ?_ (by rfl) (by first | exact .inl rfl | exact .inr rfl | assumption)
 exact (Ac 1)
 refine @Aj _ _ _ _ _ _ ?_ ?_
 refine Ha PassesOwn.never ?_ ?_
 refine @DW _ _ _ ?_
 refine @ST _ _ _ _ _ _ _ ?_ ?_
 refine @A4 _ _ _ _ _ _ _ _ _ Gy FC ?_ ?_ (AV _)
 exact (Ac 3)
 refine @Bd _ _ _ _ _ _ _ _ _ _ BI BQ rfl M.z_len B0 ?_ (by decide) (by decide) (by rfl) (by rfl)
 refine @Aa _ _ _ _ _ ?_ Ae rfl
 exact (Ac 0)
 refine @Q1 _ _ _ _ ?_
 refine @A4 _ _ _ _ _ _ _ _ _ Ti R4 ?_ ?_ (by with_unfolding_all rfl)
 refine @AB _ _ _ _ _ _ _ _ As Au ?_ ?_ (fun _ _=>rfl)
 exact (Ac 0)
 exact (Ac 3)
 exact (Ac 2)
 refine @Al _ _ _ _ ?_
 refine @AT _ _ _ _ 3 _ _ _ sc_behind_all_.nd rfl (.inl rfl) ?_ (by rfl) (by first | exact .inl rfl | exact .inr rfl | assumption)
 refine @Az _ _ _ _ _ _ _ _ _ AL AG ?_ Ag
 exact (Ac 3)
 refine @Al _ _ _ _ ?_
 refine @Ay _ _ _ _ ?_
 exact (Ac 3)
theorem sc_f_law_nth:FnScope (ns .Bw) (ps .Bw) (AF (st .Bw)):=⟨rfl,rfl,rfl,by decide +kernel,rfl,by decide +kernel,by decide +kernel⟩
theorem KZ (M:Md K mg A fd) (ih:∀x,FnOk P w K mg base CX0 n (A x) (fd x) (ps x) (spF K (run n x))):FnOk P w K mg base CX0 (n + 1) (A .Bw) (fd .Bw) (ps .Bw) (spF K (run (n + 1) .Bw)):=by
 refine Bp (g:=fnOf 2 3 (Eh)) rfl (Bu rfl rfl (M.fn .Bw) sc_f_law_nth (fun cdv A' outer s H E hr=>?_))
 refine @Aj _ _ _ _ _ _ ?_ ?_
 refine @EV _ _ _ _ _ _ _ _ _ PassesOwn.never rfl ?_ ?_ ?_ (by intro _;rfl)
 refine @En _ _ _ _ ?_
 refine @ER _ _ _ _ _ _ _ _ _ _ _ sl3 FE ?_ ?_ ?_
 exact (Ac 0)
 refine Dd ?_
 exact (Ac 1)
 refine Dd ?_
 refine @Az _ _ _ _ _ _ _ _ _ AL AG ?_ Ag
 exact (Ac 1)
 exact (BG sc_f_law_nth.nd rfl (.inl rfl))
 refine @Al _ _ _ _ ?_
 refine @Ay _ _ _ _ ?_
 exact (Ac 2)
 refine @Al _ _ _ _ ?_
 exact (Ay Ag)
theorem sc_f_law_pool:FnScope (ns .A3) (ps .A3) (AF (st .A3)):=⟨rfl,rfl,rfl,by decide +kernel,rfl,by decide +kernel,by decide +kernel⟩
theorem JN (M:Md K mg A fd) (ih:∀x,FnOk P w K mg base CX0 n (A x) (fd x) (ps x) (spF K (run n x))):FnOk P w K mg base CX0 (n + 1) (A .A3) (fd .A3) (ps .A3) (spF K (run (n + 1) .A3)):=by
 refine Bp (g:=fnOf 2 3 (C0 (run n .Bw))) rfl (Bu rfl rfl (M.fn .A3) sc_f_law_pool (fun cdv A' outer s H E hr=>?_))
 refine @Aj _ _ _ _ _ _ ?_ ?_
 refine @AT _ _ _ _ 2 _ _ _ sc_f_law_pool.nd rfl (.inl rfl) ?_ (by rfl) (by first | exact .inl rfl | exact .inr rfl | assumption)
 refine @Ak _ _ _ _ _ _ _ _ _ _ _ _ (ih .Bw) hr rfl (M.mgs .Bw) (Fun.kp (M.fn .Bw)) (M.bd .Bw) ?_ (by decide) (by rfl) (by rfl)
 refine @Aa _ _ _ _ _ ?_ ?_ rfl
 exact (Ac 0)
 refine @Aa _ _ _ _ _ ?_ Ae rfl
 exact (Ac 1)
 refine @Al _ _ _ _ ?_
 refine @Ay _ _ _ _ ?_
 refine QQ ?_
 refine G9 ?_ ?_
 exact (Ac 2)
 refine G9 ?_ ?_
 refine @Dt _ _ _ _ _ _ _ _ _ Gy FC ?_ ?_ (AV _)
 exact (Ac 2)
 exact (Az CK Ci Ag Ag)
 refine G9 ?_ QY
 refine @Az _ _ _ _ _ _ _ _ _ AL AG Ag ?_
 refine @Az _ _ _ _ _ _ _ _ _ GR F4 Ag ?_
 exact (Ac 1)
theorem sc_f_law_take:FnScope (ns .Af) (ps .Af) (AF (st .Af)):=⟨rfl,rfl,rfl,by decide +kernel,rfl,by decide +kernel,by decide +kernel⟩
theorem JO (M:Md K mg A fd) (ih:∀x,FnOk P w K mg base CX0 n (A x) (fd x) (ps x) (spF K (run n x))):FnOk P w K mg base CX0 (n + 1) (A .Af) (fd .Af) (ps .Af) (spF K (run (n + 1) .Af)):=by
 refine Bp (g:=fnOf 2 3 (C1)) rfl (Bu rfl rfl (M.fn .Af) sc_f_law_take (fun cdv A' outer s H E hr=>?_))
 refine @Aj _ _ _ _ _ _ ?_ ?_
 refine @AT _ _ _ _ 2 _ _ _ sc_f_law_take.nd rfl (.inl rfl) ?_ (by rfl) (by first | exact .inl rfl | exact .inr rfl | assumption)
 refine @AB _ _ _ _ _ _ _ _ HH Ff ?_ Ar (fun _ _=>rfl)
 exact (Ac 0)
 refine @Aj _ _ _ _ _ _ ?_ ?_
 refine @AS _ _ _ _ _ _ _ _ _ ?_ ?_ AC
 refine @BE _ _ _ _ ?_
 refine @Bl _ _ _ ?_ (by intro _;rfl)
 refine @AB _ _ _ _ _ _ _ _ HH Ff ?_ Ar (fun _ _=>rfl)
 exact (Ac 0)
 refine @Aj _ _ _ _ _ _ ?_ ?_
 refine HD ?_ ?_
 refine @Az _ _ _ _ _ _ _ _ _ K1 Jx ?_ ?_
 exact (Ac 2)
 exact (Ac 1)
 refine Gs ?_ Ar
 exact (Ac 0)
 refine @Al _ _ _ _ ?_
 refine @Ay _ _ _ _ ?_
 refine @Az _ _ _ _ _ _ _ _ _ Gz FD ?_ ?_
 exact (Ac 2)
 exact (Ac 1)
 refine @Aj _ _ _ _ _ _ ?_ ?_
 refine HD ?_ ?_
 refine @Az _ _ _ _ _ _ _ _ _ AL AG ?_ Ag
 refine @AB _ _ _ _ _ _ _ _ HH Ff ?_ Ar (fun _ _=>rfl)
 exact (Ac 0)
 refine Gs ?_ Ar
 exact (Ac 0)
 refine @Aj _ _ _ _ _ _ ?_ ?_
 refine @AT _ _ _ _ 2 _ _ _ sc_f_law_take.nd rfl (.inl rfl) ?_ (by rfl) (by first | exact .inl rfl | exact .inr rfl | assumption)
 refine @Az _ _ _ _ _ _ _ _ _ AL AG ?_ ?_
 refine @Az _ _ _ _ _ _ _ _ _ Gz FD ?_ Ag
 exact (Ac 2)
 refine @Az _ _ _ _ _ _ _ _ _ IT Hl Ag ?_
 refine @AB _ _ _ _ _ _ _ _ HH Ff ?_ Ar (fun _ _=>rfl)
 exact (Ac 0)
 refine @Aj _ _ _ _ _ _ ?_ ?_
 refine @AT _ _ _ _ 2 _ _ _ sc_f_law_take.nd rfl (.inl rfl) ?_ (by rfl) (by first | exact .inl rfl | exact .inr rfl | assumption)
 refine @Az _ _ _ _ _ _ _ _ _ Gz FD ?_ Ag
 refine @Az _ _ _ _ _ _ _ _ _ IT Hl ?_ ?_
 exact (Ac 2)
 refine @Az _ _ _ _ _ _ _ _ _ AL AG ?_ Ag
 exact (Ac 2)
 refine @Aj _ _ _ _ _ _ ?_ ?_
 refine @AT _ _ _ _ 2 _ _ _ sc_f_law_take.nd rfl (.inl rfl) ?_ (by rfl) (by first | exact .inl rfl | exact .inr rfl | assumption)
 refine @Az _ _ _ _ _ _ _ _ _ Gz FD ?_ Ag
 refine @Az _ _ _ _ _ _ _ _ _ IT Hl ?_ ?_
 exact (Ac 2)
 exact (Ac 2)
 refine @Aj _ _ _ _ _ _ ?_ ?_
 refine HD ?_ ?_
 exact (Ac 2)
 refine Gs ?_ Ar
 exact (Ac 0)
 refine @Al _ _ _ _ ?_
 refine @Ay _ _ _ _ ?_
 refine @Az _ _ _ _ _ _ _ _ _ Gz FD ?_ ?_
 refine @Az _ _ _ _ _ _ _ _ _ K1 Jx ?_ Ag
 exact (Ac 2)
 exact (Ac 1)
theorem sc_f_law_shape:FnScope (ns .AE) (ps .AE) (AF (st .AE)):=⟨rfl,rfl,rfl,by decide +kernel,rfl,by decide +kernel,by decide +kernel⟩
theorem IK (M:Md K mg A fd) (ih:∀x,FnOk P w K mg base CX0 n (A x) (fd x) (ps x) (spF K (run n x))):FnOk P w K mg base CX0 (n + 1) (A .AE) (fd .AE) (ps .AE) (spF K (run (n + 1) .AE)):=by
 refine Bp (g:=fnOf 2 5 (CB (run n .AE) (run n .Af))) rfl (Bu rfl rfl (M.fn .AE) sc_f_law_shape (fun cdv A' outer s H E hr=>?_))
 refine @Aj _ _ _ _ _ _ ?_ ?_
 refine @AT _ _ _ _ 2 _ _ _ sc_f_law_shape.nd rfl (.inl rfl) ?_ (by rfl) (by first | exact .inl rfl | exact .inr rfl | assumption)
 refine @Ak _ _ _ _ _ _ _ _ _ _ _ _ (ih .Af) hr rfl (M.mgs .Af) (Fun.kp (M.fn .Af)) (M.bd .Af) ?_ (by decide) (by rfl) (by rfl)
 refine @Aa _ _ _ _ _ ?_ ?_ rfl
 exact (Ac 0)
 exact (@Aa _ _ _ _ _ Ag Ae rfl)
 refine @Aj _ _ _ _ _ _ ?_ ?_
 refine @AS _ _ _ _ _ _ _ _ _ ?_ ?_ AC
 refine @A4 _ _ _ _ _ _ _ _ _ (Bx hr.units) (AY (g:=id)) ?_ Ag (AV _)
 exact (Ac 2)
 refine @Al _ _ _ _ ?_
 refine @Ay _ _ _ _ ?_
 refine @Bg _ _ _ _ _ ?_
 exact (@Aa _ _ _ _ _ Ar Ae rfl)
 refine @Aj _ _ _ _ _ _ ?_ ?_
 refine @AS _ _ _ _ _ _ _ _ _ ?_ ?_ AC
 refine @A4 _ _ _ _ _ _ _ _ _ (Bx hr.units) (AY (g:=id)) ?_ Ag (AV _)
 exact (Ac 2)
 refine @Al _ _ _ _ ?_
 refine @Ay _ _ _ _ ?_
 refine @Bg _ _ _ _ _ ?_
 refine @Aa _ _ _ _ _ Ar ?_ rfl
 refine @Aa _ _ _ _ _ ?_ Ae rfl
 refine @AB _ _ _ _ _ _ _ _ As Au ?_ ?_ (fun _ _=>rfl)
 refine @A1 _ _ _ ?_
 refine @BB _ _ _ _ ?_
 refine @Aa _ _ _ _ _ Ag ?_ rfl
 refine @Aa _ _ _ _ _ Ag ?_ rfl
 refine @Aa _ _ _ _ _ Ag ?_ rfl
 refine @Aa _ _ _ _ _ Ag ?_ rfl
 refine @Aa _ _ _ _ _ ?_ Ae rfl
 refine @Ak _ _ _ _ _ _ _ _ _ _ _ _ (ih .Af) hr rfl (M.mgs .Af) (Fun.kp (M.fn .Af)) (M.bd .Af) ?_ (by decide) (by rfl) (by rfl)
 refine @Aa _ _ _ _ _ ?_ ?_ rfl
 exact (Ac 0)
 exact (@Aa _ _ _ _ _ Ag Ae rfl)
 refine @Ak _ _ _ _ _ _ _ _ _ _ _ _ (ih .Af) hr rfl (M.mgs .Af) (Fun.kp (M.fn .Af)) (M.bd .Af) ?_ (by decide) (by rfl) (by rfl)
 refine @Aa _ _ _ _ _ ?_ ?_ rfl
 exact (Ac 0)
 exact (@Aa _ _ _ _ _ Ag Ae rfl)
 refine @Aj _ _ _ _ _ _ ?_ ?_
 refine @AS _ _ _ _ _ _ _ _ _ ?_ ?_ AC
 refine @DW _ _ _ ?_
 refine @DX _ _ _ _ _ _ _ ?_ ?_
 refine @A4 _ _ _ _ _ _ _ _ _ (Bx hr.units) (AY (g:=id)) ?_ Ag (AV _)
 exact (Ac 1)
 refine @Du _ _ _ _ ?_
 refine @A4 _ _ _ _ _ _ _ _ _ Gy FC ?_ Ag (AV _)
 exact (Ac 2)
 refine @Aj _ _ _ _ _ _ ?_ ?_
 refine @AT _ _ _ _ 3 _ _ _ sc_f_law_shape.nd rfl (.inl rfl) ?_ (by rfl) (by first | exact .inl rfl | exact .inr rfl | assumption)
 refine @AB _ _ _ _ _ _ _ _ As Au ?_ ?_ (fun _ _=>rfl)
 refine @A1 _ _ _ ?_
 refine @BB _ _ _ _ ?_
 refine @Aa _ _ _ _ _ Ag ?_ rfl
 refine @Aa _ _ _ _ _ ?_ ?_ rfl
 refine @Az _ _ _ _ _ _ _ _ _ BU BM ?_ Ag
 refine @Ak _ _ _ _ _ _ _ _ _ _ _ _ (ih .Af) hr rfl (M.mgs .Af) (Fun.kp (M.fn .Af)) (M.bd .Af) ?_ (by decide) (by rfl) (by rfl)
 refine @Aa _ _ _ _ _ ?_ ?_ rfl
 exact (Ac 0)
 exact (@Aa _ _ _ _ _ Ag Ae rfl)
 refine @Aa _ _ _ _ _ ?_ Ae rfl
 refine @Az _ _ _ _ _ _ _ _ _ BU BM ?_ ?_
 refine @Ak _ _ _ _ _ _ _ _ _ _ _ _ (ih .Af) hr rfl (M.mgs .Af) (Fun.kp (M.fn .Af)) (M.bd .Af) ?_ (by decide) (by rfl) (by rfl)
 refine @Aa _ _ _ _ _ ?_ ?_ rfl
 exact (Ac 0)
 refine @Aa _ _ _ _ _ ?_ Ae rfl
 exact (Az CK Ci Ag Ag)
 exact (Az CK Ci Ag Ag)
 refine @Ak _ _ _ _ _ _ _ _ _ _ _ _ (ih .Af) hr rfl (M.mgs .Af) (Fun.kp (M.fn .Af)) (M.bd .Af) ?_ (by decide) (by rfl) (by rfl)
 refine @Aa _ _ _ _ _ ?_ ?_ rfl
 exact (Ac 0)
 exact (@Aa _ _ _ _ _ Ag Ae rfl)
 refine @Al _ _ _ _ ?_
 refine @Ay _ _ _ _ ?_
 refine @Bg _ _ _ _ _ ?_
 refine @Aa _ _ _ _ _ Ar ?_ rfl
 refine @Aa _ _ _ _ _ ?_ ?_ rfl
 exact (Ac 3)
 refine @Aa _ _ _ _ _ ?_ Ae rfl
 refine @Az _ _ _ _ _ _ _ _ _ AL AG ?_ ?_
 exact (Ac 3)
 refine @AB _ _ _ _ _ _ _ _ As Au ?_ ?_ (fun _ _=>rfl)
 refine @A1 _ _ _ ?_
 refine @BB _ _ _ _ ?_
 refine @Aa _ _ _ _ _ Ag ?_ rfl
 refine @Aa _ _ _ _ _ Ag ?_ rfl
 refine @Aa _ _ _ _ _ Ag ?_ rfl
 refine @Aa _ _ _ _ _ Ag ?_ rfl
 refine @Aa _ _ _ _ _ Ag ?_ rfl
 refine @Aa _ _ _ _ _ Ag ?_ rfl
 refine @Aa _ _ _ _ _ ?_ Ae rfl
 exact (Az CK Ci Ag Ag)
 refine @Ak _ _ _ _ _ _ _ _ _ _ _ _ (ih .Af) hr rfl (M.mgs .Af) (Fun.kp (M.fn .Af)) (M.bd .Af) ?_ (by decide) (by rfl) (by rfl)
 refine @Aa _ _ _ _ _ ?_ ?_ rfl
 exact (Ac 0)
 exact (@Aa _ _ _ _ _ Ag Ae rfl)
 refine @Aj _ _ _ _ _ _ ?_ ?_
 refine @AS _ _ _ _ _ _ _ _ _ ?_ ?_ AC
 refine @A4 _ _ _ _ _ _ _ _ _ Gy FC ?_ Ag (AV _)
 exact (Ac 2)
 refine @Al _ _ _ _ ?_
 refine @Ay _ _ _ _ ?_
 refine @Bg _ _ _ _ _ ?_
 refine @Aa _ _ _ _ _ Ar ?_ rfl
 refine @Aa _ _ _ _ _ ?_ ?_ rfl
 refine @Ak _ _ _ _ _ _ _ _ _ _ _ _ (ih .AE) hr rfl (M.mgs .AE) (Fun.kp (M.fn .AE)) (M.bd .AE) ?_ (by decide) (by rfl) (by rfl)
 refine @Aa _ _ _ _ _ ?_ ?_ rfl
 exact (Ac 0)
 refine @Aa _ _ _ _ _ ?_ Ae rfl
 refine @Az _ _ _ _ _ _ _ _ _ BU BM ?_ Ag
 exact (Ac 1)
 refine @Aa _ _ _ _ _ ?_ Ae rfl
 refine @AB _ _ _ _ _ _ _ _ As Au ?_ ?_ (fun _ _=>rfl)
 refine @A1 _ _ _ ?_
 refine @BB _ _ _ _ ?_
 refine @Aa _ _ _ _ _ Ag ?_ rfl
 refine @Aa _ _ _ _ _ Ag ?_ rfl
 refine @Aa _ _ _ _ _ Ag ?_ rfl
 refine @Aa _ _ _ _ _ Ag ?_ rfl
 refine @Aa _ _ _ _ _ ?_ Ae rfl
 refine @Ak _ _ _ _ _ _ _ _ _ _ _ _ (ih .Af) hr rfl (M.mgs .Af) (Fun.kp (M.fn .Af)) (M.bd .Af) ?_ (by decide) (by rfl) (by rfl)
 refine @Aa _ _ _ _ _ ?_ ?_ rfl
 exact (Ac 0)
 exact (@Aa _ _ _ _ _ Ag Ae rfl)
 refine @Ak _ _ _ _ _ _ _ _ _ _ _ _ (ih .Af) hr rfl (M.mgs .Af) (Fun.kp (M.fn .Af)) (M.bd .Af) ?_ (by decide) (by rfl) (by rfl)
 refine @Aa _ _ _ _ _ ?_ ?_ rfl
 exact (Ac 0)
 exact (@Aa _ _ _ _ _ Ag Ae rfl)
 refine @Aj _ _ _ _ _ _ ?_ ?_
 refine @AS _ _ _ _ _ _ _ _ _ ?_ ?_ AC
 refine @A4 _ _ _ _ _ _ _ _ _ Gy FC ?_ Ag (AV _)
 exact (Ac 2)
 refine @Al _ _ _ _ ?_
 refine @Ay _ _ _ _ ?_
 refine @Bg _ _ _ _ _ ?_
 refine @Aa _ _ _ _ _ Ar ?_ rfl
 refine @Aa _ _ _ _ _ ?_ ?_ rfl
 refine @Ak _ _ _ _ _ _ _ _ _ _ _ _ (ih .AE) hr rfl (M.mgs .AE) (Fun.kp (M.fn .AE)) (M.bd .AE) ?_ (by decide) (by rfl) (by rfl)
 refine @Aa _ _ _ _ _ ?_ ?_ rfl
 exact (Ac 0)
 refine @Aa _ _ _ _ _ ?_ Ae rfl
 refine @Az _ _ _ _ _ _ _ _ _ BU BM ?_ Ag
 exact (Ac 1)
 refine @Aa _ _ _ _ _ ?_ Ae rfl
 refine @Ak _ _ _ _ _ _ _ _ _ _ _ _ (ih .AE) hr rfl (M.mgs .AE) (Fun.kp (M.fn .AE)) (M.bd .AE) ?_ (by decide) (by rfl) (by rfl)
 refine @Aa _ _ _ _ _ ?_ ?_ rfl
 exact (Ac 0)
 refine @Aa _ _ _ _ _ ?_ Ae rfl
 refine @Az _ _ _ _ _ _ _ _ _ BU BM ?_ Ag
 exact (Ac 1)
 refine @Aj _ _ _ _ _ _ ?_ ?_
 refine @AT _ _ _ _ 4 _ _ _ sc_f_law_shape.nd rfl (.inl rfl) ?_ (by rfl) (by first | exact .inl rfl | exact .inr rfl | assumption)
 refine @Az _ _ _ _ _ _ _ _ _ AL AG Ag ?_
 refine @Ak _ _ _ _ _ _ _ _ _ _ _ _ (ih .Af) hr rfl (M.mgs .Af) (Fun.kp (M.fn .Af)) (M.bd .Af) ?_ (by decide) (by rfl) (by rfl)
 refine @Aa _ _ _ _ _ ?_ ?_ rfl
 exact (Ac 0)
 refine @Aa _ _ _ _ _ ?_ Ae rfl
 refine @AB _ _ _ _ _ _ _ _ As Au ?_ ?_ (fun _ _=>rfl)
 refine @A1 _ _ _ ?_
 refine @BB _ _ _ _ ?_
 refine @Aa _ _ _ _ _ Ag ?_ rfl
 exact (@Aa _ _ _ _ _ Ag Ae rfl)
 refine @Ed _ _ _ _ _ _ _ _ _ _ Jn Mq rfl M.z_int EM ?_ (by decide) (by decide) (by rfl) (by rfl)
 refine @Aa _ _ _ _ _ ?_ Ae rfl
 refine @Dt _ _ _ _ _ _ _ _ _ (Bx hr.units) (AY (g:=id)) ?_ Ag (AV _)
 exact (Ac 1)
 refine @Al _ _ _ _ ?_
 refine @Ay _ _ _ _ ?_
 refine @Bg _ _ _ _ _ ?_
 refine @Aa _ _ _ _ _ Ar ?_ rfl
 refine @Aa _ _ _ _ _ ?_ Ae rfl
 refine @Ed _ _ _ _ _ _ _ _ _ _ Gg Mr rfl M.z_tuple Cv ?_ (by decide) (by decide) (by rfl) (by rfl)
 refine @Aa _ _ _ _ _ ?_ Ae rfl
 refine @A1 _ _ _ ?_
 refine CP (C7 ["k"] [(0 , "pool") ,(1 , "deep")] rfl rfl rfl rfl rfl) rfl ?_ ?_ ?_ ?_
 refine BY rfl M.z_range ?_
 refine @Aa _ _ _ _ _ ?_ Ae rfl
 exact (Ac 4)
 intro _ _ _ _ _
 exact (BG (by show List.Nodup [("k" : Str) ,("pool" : Str) ,("deep" : Str)] ;decide +kernel) rfl (.inl rfl))
 intro _ _ _ _ _
 exact CQ
 intro _ _ _ _ _
 refine @Ak _ _ _ _ _ _ _ _ _ _ _ _ (ih .AE) hr rfl (M.mgs .AE) (Fun.kp (M.fn .AE)) (M.bd .AE) ?_ (by decide) (by rfl) (by rfl)
 refine @Aa _ _ _ _ _ ?_ ?_ rfl
 exact (Ac 1)
 refine @Aa _ _ _ _ _ ?_ Ae rfl
 refine @Az _ _ _ _ _ _ _ _ _ BU BM ?_ Ag
 exact (Ac 2)
theorem sc_f_law_deep:FnScope (ns .Bj) (ps .Bj) (AF (st .Bj)):=⟨rfl,rfl,rfl,by decide +kernel,rfl,by decide +kernel,by decide +kernel⟩
theorem JM (M:Md K mg A fd) (ih:∀x,FnOk P w K mg base CX0 n (A x) (fd x) (ps x) (spF K (run n x))):FnOk P w K mg base CX0 (n + 1) (A .Bj) (fd .Bj) (ps .Bj) (spF K (run (n + 1) .Bj)):=by
 refine Bp (g:=fnOf 1 4 (CZ (run n .Af) (run n .AE))) rfl (Bu rfl rfl (M.fn .Bj) sc_f_law_deep (fun cdv A' outer s H E hr=>?_))
 refine @Aj _ _ _ _ _ _ ?_ ?_
 refine @AT _ _ _ _ 1 _ _ _ sc_f_law_deep.nd rfl (.inl rfl) ?_ (by rfl) (by first | exact .inl rfl | exact .inr rfl | assumption)
 refine @Ak _ _ _ _ _ _ _ _ _ _ _ _ (ih .AE) hr rfl (M.mgs .AE) (Fun.kp (M.fn .AE)) (M.bd .AE) ?_ (by decide) (by rfl) (by rfl)
 refine @Aa _ _ _ _ _ ?_ ?_ rfl
 exact (Ac 0)
 exact (@Aa _ _ _ _ _ Ag Ae rfl)
 refine @Aj _ _ _ _ _ _ ?_ ?_
 refine @EV _ _ _ _ _ _ _ _ _ PassesOwn.never rfl ?_ ?_ ?_ (by intro _;rfl)
 refine BY rfl M.z_range ?_
 refine @Aa _ _ _ _ _ ?_ Ae rfl
 refine @AB _ _ _ _ _ _ _ _ As Au ?_ ?_ (fun _ _=>rfl)
 refine @A1 _ _ _ ?_
 refine @BB _ _ _ _ ?_
 refine @Aa _ _ _ _ _ Ag ?_ rfl
 refine @Aa _ _ _ _ _ Ag ?_ rfl
 refine @Aa _ _ _ _ _ Ag ?_ rfl
 exact (@Aa _ _ _ _ _ Ag Ae rfl)
 refine @Ak _ _ _ _ _ _ _ _ _ _ _ _ (ih .Af) hr rfl (M.mgs .Af) (Fun.kp (M.fn .Af)) (M.bd .Af) ?_ (by decide) (by rfl) (by rfl)
 refine @Aa _ _ _ _ _ ?_ ?_ rfl
 exact (Ac 0)
 exact (@Aa _ _ _ _ _ Ag Ae rfl)
 exact (BG sc_f_law_deep.nd rfl (.inl rfl))
 refine @Aj _ _ _ _ _ _ ?_ ?_
 refine @AT _ _ _ _ 3 _ _ _ sc_f_law_deep.nd rfl (.inl rfl) ?_ (by rfl) (by first | exact .inl rfl | exact .inr rfl | assumption)
 refine @A1 _ _ _ ?_
 refine @BB _ _ _ _ ?_
 refine @Aa _ _ _ _ _ ?_ ?_ rfl
 refine @Bg _ _ _ _ _ ?_
 refine @Aa _ _ _ _ _ Ar ?_ rfl
 refine @Aa _ _ _ _ _ ?_ ?_ rfl
 exact (Ac 1)
 refine @Aa _ _ _ _ _ ?_ Ae rfl
 refine @AB _ _ _ _ _ _ _ _ As Au ?_ ?_ (fun _ _=>rfl)
 refine @A1 _ _ _ ?_
 refine @BB _ _ _ _ ?_
 refine @Aa _ _ _ _ _ Ag ?_ rfl
 refine @Aa _ _ _ _ _ Ag ?_ rfl
 exact (@Aa _ _ _ _ _ Ag Ae rfl)
 refine @Ak _ _ _ _ _ _ _ _ _ _ _ _ (ih .Af) hr rfl (M.mgs .Af) (Fun.kp (M.fn .Af)) (M.bd .Af) ?_ (by decide) (by rfl) (by rfl)
 refine @Aa _ _ _ _ _ ?_ ?_ rfl
 exact (Ac 0)
 exact (@Aa _ _ _ _ _ Ag Ae rfl)
 refine @Aa _ _ _ _ _ ?_ Ae rfl
 refine @Bg _ _ _ _ _ ?_
 refine @Aa _ _ _ _ _ Ar ?_ rfl
 refine @Aa _ _ _ _ _ ?_ ?_ rfl
 exact (Ac 1)
 refine @Aa _ _ _ _ _ ?_ Ae rfl
 refine @Bg _ _ _ _ _ ?_
 exact (@Aa _ _ _ _ _ Ar Ae rfl)
 refine @Al _ _ _ _ ?_
 refine @AT _ _ _ _ 1 _ _ _ sc_f_law_deep.nd rfl (.inl rfl) ?_ (by rfl) (by first | exact .inl rfl | exact .inr rfl | assumption)
 refine @AB _ _ _ _ _ _ _ _ As Au ?_ ?_ (fun _ _=>rfl)
 refine @Az _ _ _ _ _ _ _ _ _ AL AG ?_ ?_
 exact (Ac 3)
 refine @A1 _ _ _ ?_
 refine @BB _ _ _ _ ?_
 refine @Aa _ _ _ _ _ ?_ Ae rfl
 refine @Bg _ _ _ _ _ ?_
 refine @Aa _ _ _ _ _ Ar ?_ rfl
 refine @Aa _ _ _ _ _ ?_ Ae rfl
 refine @Bg _ _ _ _ _ ?_
 refine @Aa _ _ _ _ _ ?_ ?_ rfl
 refine @Bg _ _ _ _ _ ?_
 exact (@Aa _ _ _ _ _ Ar Ae rfl)
 refine @Aa _ _ _ _ _ ?_ Ae rfl
 exact (Ac 1)
 refine @Ak _ _ _ _ _ _ _ _ _ _ _ _ (ih .Af) hr rfl (M.mgs .Af) (Fun.kp (M.fn .Af)) (M.bd .Af) ?_ (by decide) (by rfl) (by rfl)
 refine @Aa _ _ _ _ _ ?_ ?_ rfl
 exact (Ac 0)
 exact (@Aa _ _ _ _ _ Ag Ae rfl)
 refine @Al _ _ _ _ ?_
 refine @Ay _ _ _ _ ?_
 exact (Ac 1)
theorem IY:FnScope (ns .Bi) (ps .Bi) (AF (st .Bi)):=⟨rfl,rfl,rfl,by decide +kernel,rfl,by decide +kernel,by decide +kernel⟩
theorem IL (M:Md K mg A fd) (ih:∀x,FnOk P w K mg base CX0 n (A x) (fd x) (ps x) (spF K (run n x))):FnOk P w K mg base CX0 (n + 1) (A .Bi) (fd .Bi) (ps .Bi) (spF K (run (n + 1) .Bi)):=by
 refine Bp (g:=fnOf 0 0 (CD)) rfl (Bu rfl rfl (M.fn .Bi) IY (fun cdv A' outer s H E hr=>?_))
 refine @Al _ _ _ _ ?_
 exact (Ay Ar)
theorem sc_f_law_value:FnScope (ns .AD) (ps .AD) (AF (st .AD)):=⟨rfl,rfl,rfl,by decide +kernel,rfl,by decide +kernel,by decide +kernel⟩
theorem IP (M:Md K mg A fd) (ih:∀x,FnOk P w K mg base CX0 n (A x) (fd x) (ps x) (spF K (run n x))):FnOk P w K mg base CX0 (n + 1) (A .AD) (fd .AD) (ps .AD) (spF K (run (n + 1) .AD)):=by
 refine Bp (g:=fnOf 2 6 (CH (run n .AD) (run n .Af) (run n .Bi))) rfl (Bu rfl rfl (M.fn .AD) sc_f_law_value (fun cdv A' outer s H E hr=>?_))
 refine @Aj _ _ _ _ _ _ ?_ ?_
 refine @AS _ _ _ _ _ _ _ _ _ ?_ ?_ AC
 refine @A4 _ _ _ _ _ _ _ _ _ (Bx hr.units) (AY (g:=id)) ?_ Ar (AV _)
 refine @AB _ _ _ _ _ _ _ _ As Au ?_ Ag (fun _ _=>rfl)
 exact (Ac 1)
 refine @Al _ _ _ _ ?_
 exact (Ay Fq)
 refine @Aj _ _ _ _ _ _ ?_ ?_
 refine @AS _ _ _ _ _ _ _ _ _ ?_ ?_ AC
 refine @A4 _ _ _ _ _ _ _ _ _ (Bx hr.units) (AY (g:=id)) ?_ Ar (AV _)
 refine @AB _ _ _ _ _ _ _ _ As Au ?_ Ag (fun _ _=>rfl)
 exact (Ac 1)
 refine @Al _ _ _ _ ?_
 refine @Ay _ _ _ _ ?_
 refine @AB _ _ _ _ _ _ _ _ As Au ?_ ?_ (fun _ _=>rfl)
 refine @A1 _ _ _ ?_
 refine @BB _ _ _ _ ?_
 refine @Aa _ _ _ _ _ ?_ ?_ rfl
 refine @AB _ _ _ _ _ _ _ _ As Au ?_ Ag (fun _ _=>rfl)
 exact (Ac 1)
 refine @Aa _ _ _ _ _ ?_ ?_ rfl
 refine @AB _ _ _ _ _ _ _ _ As Au ?_ Ag (fun _ _=>rfl)
 exact (Ac 1)
 refine @Aa _ _ _ _ _ ?_ Ae rfl
 refine @Az _ _ _ _ _ _ _ _ _ AL AG ?_ ?_
 refine @AB _ _ _ _ _ _ _ _ As Au ?_ Ag (fun _ _=>rfl)
 exact (Ac 1)
 refine @Ak _ _ _ _ _ _ _ _ _ _ _ _ (ih .Af) hr rfl (M.mgs .Af) (Fun.kp (M.fn .Af)) (M.bd .Af) ?_ (by decide) (by rfl) (by rfl)
 refine @Aa _ _ _ _ _ ?_ ?_ rfl
 exact (Ac 0)
 refine @Aa _ _ _ _ _ ?_ Ae rfl
 refine @Az _ _ _ _ _ _ _ _ _ AL AG ?_ Ag
 refine @Az _ _ _ _ _ _ _ _ _ BU BM ?_ ?_
 refine @AB _ _ _ _ _ _ _ _ As Au ?_ Ag (fun _ _=>rfl)
 exact (Ac 1)
 refine @AB _ _ _ _ _ _ _ _ As Au ?_ Ag (fun _ _=>rfl)
 exact (Ac 1)
 refine @Ak _ _ _ _ _ _ _ _ _ _ _ _ (ih .Af) hr rfl (M.mgs .Af) (Fun.kp (M.fn .Af)) (M.bd .Af) ?_ (by decide) (by rfl) (by rfl)
 refine @Aa _ _ _ _ _ ?_ ?_ rfl
 exact (Ac 0)
 exact (@Aa _ _ _ _ _ Ag Ae rfl)
 refine @Aj _ _ _ _ _ _ ?_ ?_
 refine @AS _ _ _ _ _ _ _ _ _ ?_ ?_ AC
 refine @A4 _ _ _ _ _ _ _ _ _ (Bx hr.units) (AY (g:=id)) ?_ Ar (AV _)
 refine @AB _ _ _ _ _ _ _ _ As Au ?_ Ag (fun _ _=>rfl)
 exact (Ac 1)
 refine @Aj _ _ _ _ _ _ ?_ ?_
 exact (AT (i:=2) sc_f_law_value.nd rfl (.inr ⟨rfl ,by decide +kernel⟩) Ar)
 refine @Aj _ _ _ _ _ _ ?_ ?_
 refine @AS _ _ _ _ _ _ _ _ _ ?_ ?_ AC
 refine @A4 _ _ _ _ _ _ _ _ _ (Bx hr.units) (AY (g:=id)) ?_ Ag (AV _)
 refine @Ak _ _ _ _ _ _ _ _ _ _ _ _ (ih .Af) hr rfl (M.mgs .Af) (Fun.kp (M.fn .Af)) (M.bd .Af) ?_ (by decide) (by rfl) (by rfl)
 refine @Aa _ _ _ _ _ ?_ ?_ rfl
 exact (Ac 0)
 exact (@Aa _ _ _ _ _ Ag Ae rfl)
 refine @Al _ _ _ _ ?_
 refine @AT _ _ _ _ 2 _ _ _ sc_f_law_value.nd rfl (.inr ⟨rfl ,by decide +kernel⟩) ?_ (by rfl) (by first | exact .inl rfl | exact .inr rfl | assumption)
 exact (OW (ih .Bi) hr rfl (M.mgs .Bi) (Fun.kp (M.fn .Bi)) (M.bd .Bi))
 refine @Aj _ _ _ _ _ _ ?_ ?_
 refine @AT _ _ _ _ 3 _ _ _ sc_f_law_value.nd rfl (.inl rfl) ?_ (by rfl) (by first | exact .inl rfl | exact .inr rfl | assumption)
 refine @Ak _ _ _ _ _ _ _ _ _ _ _ _ (ih .Af) hr rfl (M.mgs .Af) (Fun.kp (M.fn .Af)) (M.bd .Af) ?_ (by decide) (by rfl) (by rfl)
 refine @Aa _ _ _ _ _ ?_ ?_ rfl
 exact (Ac 0)
 refine @Aa _ _ _ _ _ ?_ Ae rfl
 refine @Az _ _ _ _ _ _ _ _ _ AL AG ?_ Ag
 refine @Bd _ _ _ _ _ _ _ _ _ _ (Gn rfl) Ja rfl M.z_min Kq ?_ (by decide) (by decide) (by rfl) (by rfl)
 refine @Aa _ _ _ _ _ ?_ ?_ rfl
 refine @AB _ _ _ _ _ _ _ _ As Au ?_ Ag (fun _ _=>rfl)
 exact (Ac 1)
 exact (@Aa _ _ _ _ _ Ag Ae rfl)
 refine @Al _ _ _ _ ?_
 refine @Ay _ _ _ _ ?_
 refine QR Ar ?_
 refine @Aa _ _ _ _ _ ?_ Ae rfl
 refine @A1 _ _ _ ?_
 refine CP (C7 ["k"] [(2 , "signs") ,(0 , "pool")] rfl rfl rfl rfl rfl) rfl ?_ ?_ ?_ ?_
 refine BY rfl M.z_range ?_
 refine @Aa _ _ _ _ _ ?_ Ae rfl
 exact (Ac 3)
 intro _ _ _ _ _
 exact (BG (by show List.Nodup [("k" : Str) ,("signs" : Str) ,("pool" : Str)] ;decide +kernel) rfl (.inl rfl))
 intro _ _ _ _ _
 exact CQ
 intro _ _ _ _ _
 refine @AB _ _ _ _ _ _ _ _ As Au ?_ ?_ (fun _ _=>rfl)
 exact (Ac 1)
 refine @Ak _ _ _ _ _ _ _ _ _ _ _ _ (ih .Af) hr rfl (M.mgs .Af) (Fun.kp (M.fn .Af)) (M.bd .Af) ?_ (by decide) (by rfl) (by rfl)
 refine @Aa _ _ _ _ _ ?_ ?_ rfl
 exact (Ac 2)
 refine @Aa _ _ _ _ _ ?_ Ae rfl
 refine @Bd _ _ _ _ _ _ _ _ _ _ BI BQ rfl M.z_len B0 ?_ (by decide) (by decide) (by rfl) (by rfl)
 refine @Aa _ _ _ _ _ ?_ Ae rfl
 exact (Ac 1)
 refine @Aj _ _ _ _ _ _ ?_ ?_
 refine @AS _ _ _ _ _ _ _ _ _ ?_ ?_ AC
 refine @A4 _ _ _ _ _ _ _ _ _ (Bx hr.units) (AY (g:=id)) ?_ Ar (AV _)
 refine @AB _ _ _ _ _ _ _ _ As Au ?_ Ag (fun _ _=>rfl)
 exact (Ac 1)
 refine @Aj _ _ _ _ _ _ ?_ ?_
 refine @AT _ _ _ _ 4 _ _ _ sc_f_law_value.nd rfl (.inl rfl) ?_ (by rfl) (by first | exact .inl rfl | exact .inr rfl | assumption)
 refine @AB _ _ _ _ _ _ _ _ As Au ?_ ?_ (fun _ _=>rfl)
 refine @A1 _ _ _ ?_
 refine @BB _ _ _ _ ?_
 refine @Aa _ _ _ _ _ Ag ?_ rfl
 exact (@Aa _ _ _ _ _ Ag Ae rfl)
 refine @Ed _ _ _ _ _ _ _ _ _ _ Jn Mq rfl M.z_int EM ?_ (by decide) (by decide) (by rfl) (by rfl)
 refine @Aa _ _ _ _ _ ?_ Ae rfl
 refine @Dt _ _ _ _ _ _ _ _ _ N4 TZ ?_ ?_ (by with_unfolding_all rfl)
 refine @AB _ _ _ _ _ _ _ _ As Au ?_ Ag (fun _ _=>rfl)
 refine @AB _ _ _ _ _ _ _ _ As Au ?_ Ag (fun _ _=>rfl)
 exact (Ac 1)
 refine @A1 _ _ _ ?_
 refine @BB _ _ _ _ ?_
 refine @Aa _ _ _ _ _ Ar ?_ rfl
 refine @Aa _ _ _ _ _ Ar ?_ rfl
 exact (@Aa _ _ _ _ _ Ar Ae rfl)
 refine @Al _ _ _ _ ?_
 refine @Ay _ _ _ _ ?_
 refine @A1 _ _ _ ?_
 refine CP (C7 ["k"] [(0 , "pool") ,(1 , "s")] rfl rfl rfl rfl rfl) rfl ?_ ?_ ?_ ?_
 refine BY rfl M.z_range ?_
 refine @Aa _ _ _ _ _ ?_ Ae rfl
 refine @Ak _ _ _ _ _ _ _ _ _ _ _ _ (ih .Af) hr rfl (M.mgs .Af) (Fun.kp (M.fn .Af)) (M.bd .Af) ?_ (by decide) (by rfl) (by rfl)
 refine @Aa _ _ _ _ _ ?_ ?_ rfl
 exact (Ac 0)
 refine @Aa _ _ _ _ _ ?_ Ae rfl
 refine @Az _ _ _ _ _ _ _ _ _ AL AG ?_ Ag
 refine @Bd _ _ _ _ _ _ _ _ _ _ (Gn rfl) Ja rfl M.z_min Kq ?_ (by decide) (by decide) (by rfl) (by rfl)
 refine @Aa _ _ _ _ _ ?_ ?_ rfl
 refine @AB _ _ _ _ _ _ _ _ As Au ?_ Ag (fun _ _=>rfl)
 exact (Ac 1)
 refine @Aa _ _ _ _ _ ?_ Ae rfl
 exact (Ac 4)
 intro _ _ _ _ _
 exact (BG (by show List.Nodup [("k" : Str) ,("pool" : Str) ,("s" : Str)] ;decide +kernel) rfl (.inl rfl))
 intro _ _ _ _ _
 exact CQ
 intro _ _ _ _ _
 refine @Ak _ _ _ _ _ _ _ _ _ _ _ _ (ih .AD) hr rfl (M.mgs .AD) (Fun.kp (M.fn .AD)) (M.bd .AD) ?_ (by decide) (by rfl) (by rfl)
 refine @Aa _ _ _ _ _ ?_ ?_ rfl
 exact (Ac 1)
 refine @Aa _ _ _ _ _ ?_ Ae rfl
 refine @AB _ _ _ _ _ _ _ _ As Au ?_ Ag (fun _ _=>rfl)
 exact (Ac 2)
 refine @Aj _ _ _ _ _ _ ?_ ?_
 refine @AS _ _ _ _ _ _ _ _ _ ?_ ?_ AC
 refine @A4 _ _ _ _ _ _ _ _ _ (Bx hr.units) (AY (g:=id)) ?_ Ar (AV _)
 refine @AB _ _ _ _ _ _ _ _ As Au ?_ Ag (fun _ _=>rfl)
 exact (Ac 1)
 refine @Al _ _ _ _ ?_
 refine @Ay _ _ _ _ ?_
 refine @Bg _ _ _ _ _ ?_
 refine @Aa _ _ _ _ _ ?_ ?_ rfl
 refine @Ak _ _ _ _ _ _ _ _ _ _ _ _ (ih .AD) hr rfl (M.mgs .AD) (Fun.kp (M.fn .AD)) (M.bd .AD) ?_ (by decide) (by rfl) (by rfl)
 refine @Aa _ _ _ _ _ ?_ ?_ rfl
 exact (Ac 0)
 refine @Aa _ _ _ _ _ ?_ Ae rfl
 refine @AB _ _ _ _ _ _ _ _ As Au ?_ Ag (fun _ _=>rfl)
 exact (Ac 1)
 refine @Aa _ _ _ _ _ ?_ Ae rfl
 refine @Ak _ _ _ _ _ _ _ _ _ _ _ _ (ih .AD) hr rfl (M.mgs .AD) (Fun.kp (M.fn .AD)) (M.bd .AD) ?_ (by decide) (by rfl) (by rfl)
 refine @Aa _ _ _ _ _ ?_ ?_ rfl
 exact (Ac 0)
 refine @Aa _ _ _ _ _ ?_ Ae rfl
 refine @AB _ _ _ _ _ _ _ _ As Au ?_ Ag (fun _ _=>rfl)
 exact (Ac 1)
 refine @Aj _ _ _ _ _ _ ?_ ?_
 refine @AT _ _ _ _ 5 _ _ _ sc_f_law_value.nd rfl (.inl rfl) ?_ (by rfl) (by first | exact .inl rfl | exact .inr rfl | assumption)
 refine @Ak _ _ _ _ _ _ _ _ _ _ _ _ (ih .Af) hr rfl (M.mgs .Af) (Fun.kp (M.fn .Af)) (M.bd .Af) ?_ (by decide) (by rfl) (by rfl)
 refine @Aa _ _ _ _ _ ?_ ?_ rfl
 exact (Ac 0)
 refine @Aa _ _ _ _ _ ?_ Ae rfl
 refine @Bd _ _ _ _ _ _ _ _ _ _ BI BQ rfl M.z_len B0 ?_ (by decide) (by decide) (by rfl) (by rfl)
 refine @Aa _ _ _ _ _ ?_ Ae rfl
 refine @AB _ _ _ _ _ _ _ _ As Au ?_ Ag (fun _ _=>rfl)
 exact (Ac 1)
 refine @Al _ _ _ _ ?_
 refine @Ay _ _ _ _ ?_
 refine @Bg _ _ _ _ _ ?_
 refine @Aa _ _ _ _ _ Ar ?_ rfl
 refine @Aa _ _ _ _ _ ?_ ?_ rfl
 exact (Ac 5)
 refine @Aa _ _ _ _ _ ?_ Ae rfl
 refine @Ak _ _ _ _ _ _ _ _ _ _ _ _ (ih .AD) hr rfl (M.mgs .AD) (Fun.kp (M.fn .AD)) (M.bd .AD) ?_ (by decide) (by rfl) (by rfl)
 refine @Aa _ _ _ _ _ ?_ ?_ rfl
 exact (Ac 0)
 refine @Aa _ _ _ _ _ ?_ Ae rfl
 refine @AB _ _ _ _ _ _ _ _ As Au ?_ ?_ (fun _ _=>rfl)
 refine @AB _ _ _ _ _ _ _ _ As Au ?_ Ag (fun _ _=>rfl)
 exact (Ac 1)
 exact (Ac 5)
theorem IZ:FnScope (ns .Av) (ps .Av) (AF (st .Av)):=⟨rfl,rfl,rfl,by decide +kernel,rfl,by decide +kernel,by decide +kernel⟩
theorem IQ (M:Md K mg A fd) (ih:∀x,FnOk P w K mg base CX0 n (A x) (fd x) (ps x) (spF K (run n x))):FnOk P w K mg base CX0 (n + 1) (A .Av) (fd .Av) (ps .Av) (spF K (run (n + 1) .Av)):=by
 refine Bp (g:=fnOf 1 1 (DB (run n .Av))) rfl (Bu rfl rfl (M.fn .Av) IZ (fun cdv A' outer s H E hr=>?_))
 refine @Aj _ _ _ _ _ _ ?_ ?_
 refine @AS _ _ _ _ _ _ _ _ _ ?_ ?_ AC
 refine @A4 _ _ _ _ _ _ _ _ _ K2 Ld ?_ Fq (AV _)
 exact (Ac 0)
 refine @Al _ _ _ _ ?_
 exact (Ay Ar)
 refine @Aj _ _ _ _ _ _ ?_ ?_
 refine @AS _ _ _ _ _ _ _ _ _ ?_ ?_ AC
 refine @Bl _ _ _ ?_ (by intro _;rfl)
 refine @Bd _ _ _ _ _ _ _ _ _ _ By CU rfl M.z_isinstance AR ?_ (by decide) (by decide) (by rfl) (by rfl)
 refine @Aa _ _ _ _ _ ?_ ?_ rfl
 exact (Ac 0)
 refine @Aa _ _ _ _ _ ?_ Ae rfl
 exact (BF rfl M.z_str C5)
 refine @Al _ _ _ _ ?_
 refine @Ay _ _ _ _ ?_
 refine @Az _ _ _ _ _ _ _ _ _ AL AG ?_ Ar
 refine @Az _ _ _ _ _ _ _ _ _ AL AG Ar ?_
 refine G7 Ar ?_
 refine @Aa _ _ _ _ _ ?_ Ae rfl
 refine @A1 _ _ _ ?_
 refine OY ?_ ?_
 exact (Ac 0)
 exact (@Aa _ _ _ _ _ Ar Ae rfl)
 refine @Aj _ _ _ _ _ _ ?_ ?_
 refine @AS _ _ _ _ _ _ _ _ _ ?_ ?_ AC
 refine @Bl _ _ _ ?_ (by intro _;rfl)
 refine @Bd _ _ _ _ _ _ _ _ _ _ By CU rfl M.z_isinstance AR ?_ (by decide) (by decide) (by rfl) (by rfl)
 refine @Aa _ _ _ _ _ ?_ ?_ rfl
 exact (Ac 0)
 refine @Aa _ _ _ _ _ ?_ Ae rfl
 exact (BF rfl M.z_list BV)
 refine @Al _ _ _ _ ?_
 refine @Ay _ _ _ _ ?_
 refine @Az _ _ _ _ _ _ _ _ _ AL AG ?_ Ar
 refine @Az _ _ _ _ _ _ _ _ _ AL AG Ar ?_
 refine G7 Ar ?_
 refine @Aa _ _ _ _ _ ?_ Ae rfl
 refine @A1 _ _ _ ?_
 refine CP (C7 ["one"] [] rfl rfl rfl rfl rfl) rfl ?_ ?_ ?_ ?_
 refine @En _ _ _ _ ?_
 exact (Ac 0)
 intro _ _ _ _ _
 exact (BG (by show List.Nodup [("one" : Str)] ;decide +kernel) rfl (.inl rfl))
 intro _ _ _ _ _
 exact CQ
 intro _ _ _ _ _
 refine @Ak _ _ _ _ _ _ _ _ _ _ _ _ (ih .Av) hr rfl (M.mgs .Av) (Fun.kp (M.fn .Av)) (M.bd .Av) ?_ (by decide) (by rfl) (by rfl)
 refine @Aa _ _ _ _ _ ?_ Ae rfl
 exact (Ac 0)
 refine @Aj _ _ _ _ _ _ ?_ ?_
 refine @AS _ _ _ _ _ _ _ _ _ ?_ ?_ AC
 refine @Bl _ _ _ ?_ (by intro _;rfl)
 refine @Bd _ _ _ _ _ _ _ _ _ _ By CU rfl M.z_isinstance AR ?_ (by decide) (by decide) (by rfl) (by rfl)
 refine @Aa _ _ _ _ _ ?_ ?_ rfl
 exact (Ac 0)
 refine @Aa _ _ _ _ _ ?_ Ae rfl
 exact (BF rfl M.z_int EM)
 refine @Al _ _ _ _ ?_
 refine @Ay _ _ _ _ ?_
 refine @Ed _ _ _ _ _ _ _ _ _ _ C6 FF rfl M.z_str C5 ?_ (by decide) (by decide) (by rfl) (by rfl)
 refine @Aa _ _ _ _ _ ?_ Ae rfl
 exact (Ac 0)
 refine @Aj _ _ _ _ _ _ ?_ ?_
 refine @AS _ _ _ _ _ _ _ _ _ ?_ ?_ AC
 refine @A4 _ _ _ _ _ _ _ _ _ (Bx hr.units) (AY (g:=id)) ?_ Ag (AV _)
 refine @Bd _ _ _ _ _ _ _ _ _ _ BI BQ rfl M.z_len B0 ?_ (by decide) (by decide) (by rfl) (by rfl)
 refine @Aa _ _ _ _ _ ?_ Ae rfl
 exact (Ac 0)
 refine @Al _ _ _ _ ?_
 refine @Ay _ _ _ _ ?_
 refine @Az _ _ _ _ _ _ _ _ _ AL AG ?_ ?_
 refine @Az _ _ _ _ _ _ _ _ _ AL AG ?_ Ar
 refine @Az _ _ _ _ _ _ _ _ _ AL AG Ar ?_
 refine @Ed _ _ _ _ _ _ _ _ _ _ C6 FF rfl M.z_str C5 ?_ (by decide) (by decide) (by rfl) (by rfl)
 refine @Aa _ _ _ _ _ ?_ Ae rfl
 refine @AB _ _ _ _ _ _ _ _ As Au ?_ Ag (fun _ _=>rfl)
 exact (Ac 0)
 refine @Ak _ _ _ _ _ _ _ _ _ _ _ _ (ih .Av) hr rfl (M.mgs .Av) (Fun.kp (M.fn .Av)) (M.bd .Av) ?_ (by decide) (by rfl) (by rfl)
 refine @Aa _ _ _ _ _ ?_ Ae rfl
 refine @AB _ _ _ _ _ _ _ _ As Au ?_ Ag (fun _ _=>rfl)
 exact (Ac 0)
 refine @Al _ _ _ _ ?_
 refine @Ay _ _ _ _ ?_
 refine @Az _ _ _ _ _ _ _ _ _ AL AG ?_ Ar
 refine @Az _ _ _ _ _ _ _ _ _ AL AG ?_ ?_
 refine @Az _ _ _ _ _ _ _ _ _ AL AG ?_ Ar
 refine @Az _ _ _ _ _ _ _ _ _ AL AG Ar ?_
 refine @Ak _ _ _ _ _ _ _ _ _ _ _ _ (ih .Av) hr rfl (M.mgs .Av) (Fun.kp (M.fn .Av)) (M.bd .Av) ?_ (by decide) (by rfl) (by rfl)
 refine @Aa _ _ _ _ _ ?_ Ae rfl
 refine @AB _ _ _ _ _ _ _ _ As Au ?_ Ag (fun _ _=>rfl)
 exact (Ac 0)
 refine @Ak _ _ _ _ _ _ _ _ _ _ _ _ (ih .Av) hr rfl (M.mgs .Av) (Fun.kp (M.fn .Av)) (M.bd .Av) ?_ (by decide) (by rfl) (by rfl)
 refine @Aa _ _ _ _ _ ?_ Ae rfl
 refine @AB _ _ _ _ _ _ _ _ As Au ?_ Ag (fun _ _=>rfl)
 exact (Ac 0)
theorem IX:FnScope (ns .AO) (ps .AO) (AF (st .AO)):=⟨rfl,rfl,rfl,by decide +kernel,rfl,by decide +kernel,by decide +kernel⟩
theorem IH (M:Md K mg A fd) (ih:∀x,FnOk P w K mg base CX0 n (A x) (fd x) (ps x) (spF K (run n x))):FnOk P w K mg base CX0 (n + 1) (A .AO) (fd .AO) (ps .AO) (spF K (run (n + 1) .AO)):=by
 refine Bp (g:=fnOf 2 2 (Cy (run n .AO))) rfl (Bu rfl rfl (M.fn .AO) IX (fun cdv A' outer s H E hr=>?_))
 refine @Aj _ _ _ _ _ _ ?_ ?_
 refine @AS _ _ _ _ _ _ _ _ _ ?_ ?_ AC
 refine @Bl _ _ _ ?_ (by intro _;rfl)
 refine @Bd _ _ _ _ _ _ _ _ _ _ E8 F3 rfl M.z_isinstance AR ?_ (by decide) (by decide) (by rfl) (by rfl)
 refine @Aa _ _ _ _ _ ?_ ?_ rfl
 exact (Ac 0)
 refine @Aa _ _ _ _ _ ?_ Ae rfl
 refine @Bg _ _ _ _ _ ?_
 refine @Aa _ _ _ _ _ ?_ ?_ rfl
 exact (BF rfl M.z_list BV)
 refine @Aa _ _ _ _ _ ?_ Ae rfl
 exact (BF rfl M.z_tuple Cv)
 refine @Aj _ _ _ _ _ _ ?_ ?_
 refine @AS _ _ _ _ _ _ _ _ _ ?_ ?_ AC
 refine @DW _ _ _ ?_
 refine @DX _ _ _ _ _ _ _ ?_ ?_
 refine @A4 _ _ _ _ _ _ _ _ _ (Dc hr.units) (AY (g:=fun b=>!b)) ?_ ?_ (AV _)
 refine @Bd _ _ _ _ _ _ _ _ _ _ By BX rfl M.z_isinstance AR ?_ (by decide) (by decide) (by rfl) (by rfl)
 refine @Aa _ _ _ _ _ ?_ ?_ rfl
 exact (Ac 0)
 refine @Aa _ _ _ _ _ ?_ Ae rfl
 exact (BF rfl M.z_list BV)
 refine @Bd _ _ _ _ _ _ _ _ _ _ By BX rfl M.z_isinstance AR ?_ (by decide) (by decide) (by rfl) (by rfl)
 refine @Aa _ _ _ _ _ ?_ ?_ rfl
 exact (Ac 1)
 refine @Aa _ _ _ _ _ ?_ Ae rfl
 exact (BF rfl M.z_list BV)
 refine @Du _ _ _ _ ?_
 refine @BE _ _ _ _ ?_
 refine @Bl _ _ _ ?_ (by intro _;rfl)
 refine @Bd _ _ _ _ _ _ _ _ _ _ E8 F3 rfl M.z_isinstance AR ?_ (by decide) (by decide) (by rfl) (by rfl)
 refine @Aa _ _ _ _ _ ?_ ?_ rfl
 exact (Ac 1)
 refine @Aa _ _ _ _ _ ?_ Ae rfl
 refine @Bg _ _ _ _ _ ?_
 refine @Aa _ _ _ _ _ ?_ ?_ rfl
 exact (BF rfl M.z_list BV)
 refine @Aa _ _ _ _ _ ?_ Ae rfl
 exact (BF rfl M.z_tuple Cv)
 refine @Al _ _ _ _ ?_
 exact (Ay B6)
 refine @Aj _ _ _ _ _ _ ?_ ?_
 refine @AS _ _ _ _ _ _ _ _ _ ?_ ?_ AC
 refine @A4 _ _ _ _ _ _ _ _ _ (Dc hr.units) (AY (g:=fun b=>!b)) ?_ ?_ (AV _)
 refine @Bd _ _ _ _ _ _ _ _ _ _ BI BQ rfl M.z_len B0 ?_ (by decide) (by decide) (by rfl) (by rfl)
 refine @Aa _ _ _ _ _ ?_ Ae rfl
 exact (Ac 0)
 refine @Bd _ _ _ _ _ _ _ _ _ _ BI BQ rfl M.z_len B0 ?_ (by decide) (by decide) (by rfl) (by rfl)
 refine @Aa _ _ _ _ _ ?_ Ae rfl
 exact (Ac 1)
 refine @Al _ _ _ _ ?_
 exact (Ay B6)
 refine @Al _ _ _ _ ?_
 refine @Ay _ _ _ _ ?_
 refine @Dt _ _ _ _ _ _ _ _ _ (Bx hr.units) (AY (g:=id)) ?_ ?_ (AV _)
 refine @A1 _ _ _ ?_
 refine CP (C7 ["k"] [(0 , "one") ,(1 , "other")] rfl rfl rfl rfl rfl) rfl ?_ ?_ ?_ ?_
 refine BY rfl M.z_range ?_
 refine @Aa _ _ _ _ _ ?_ Ae rfl
 refine @Bd _ _ _ _ _ _ _ _ _ _ BI BQ rfl M.z_len B0 ?_ (by decide) (by decide) (by rfl) (by rfl)
 refine @Aa _ _ _ _ _ ?_ Ae rfl
 exact (Ac 0)
 intro _ _ _ _ _
 exact (BG (by show List.Nodup [("k" : Str) ,("one" : Str) ,("other" : Str)] ;decide +kernel) rfl (.inl rfl))
 intro _ _ _ _ _
 refine QV ?_
 refine @BE _ _ _ _ ?_
 refine @Bl _ _ _ ?_ (by intro _;rfl)
 refine @Ak _ _ _ _ _ _ _ _ _ _ _ _ (ih .AO) hr rfl (M.mgs .AO) (Fun.kp (M.fn .AO)) (M.bd .AO) ?_ (by decide) (by rfl) (by rfl)
 refine @Aa _ _ _ _ _ ?_ ?_ rfl
 refine @AB _ _ _ _ _ _ _ _ As Au ?_ ?_ (fun _ _=>rfl)
 exact (Ac 1)
 exact (Ac 0)
 refine @Aa _ _ _ _ _ ?_ Ae rfl
 refine @AB _ _ _ _ _ _ _ _ As Au ?_ ?_ (fun _ _=>rfl)
 exact (Ac 2)
 exact (Ac 0)
 intro _ _ _ _ _
 exact (Ac 0)
 refine @A1 _ _ _ ?_
 exact (BB Ae)
 refine @Al _ _ _ _ ?_
 refine @Ay _ _ _ _ ?_
 refine @El _ _ _ _ _ _ _ ?_ ?_
 refine @NG _ _ _ _ ?_
 refine @Bd _ _ _ _ _ _ _ _ _ _ By BX rfl M.z_isinstance AR ?_ (by decide) (by decide) (by rfl) (by rfl)
 refine @Aa _ _ _ _ _ ?_ ?_ rfl
 exact (Ac 1)
 refine @Aa _ _ _ _ _ ?_ Ae rfl
 exact (BF rfl M.z_bool L6)
 refine @El _ _ _ _ _ _ _ ?_ ?_
 refine @Dt _ _ _ _ _ _ _ _ _ (Bx hr.units) (AY (g:=id)) ?_ ?_ (AV _)
 refine @Bd _ _ _ _ _ _ _ _ _ _ By BX rfl M.z_isinstance AR ?_ (by decide) (by decide) (by rfl) (by rfl)
 refine @Aa _ _ _ _ _ ?_ ?_ rfl
 exact (Ac 0)
 refine @Aa _ _ _ _ _ ?_ Ae rfl
 exact (BF rfl M.z_int EM)
 refine @Bd _ _ _ _ _ _ _ _ _ _ By BX rfl M.z_isinstance AR ?_ (by decide) (by decide) (by rfl) (by rfl)
 refine @Aa _ _ _ _ _ ?_ ?_ rfl
 exact (Ac 1)
 refine @Aa _ _ _ _ _ ?_ Ae rfl
 exact (BF rfl M.z_int EM)
 refine @Fr _ _ _ _ _ ?_
 refine @Dt _ _ _ _ _ _ _ _ _ (Bx hr.units) (AY (g:=id)) ?_ ?_ (AV _)
 exact (Ac 0)
 exact (Ac 1)
theorem sc_f_law_sizes:FnScope (ns .AQ) (ps .AQ) (AF (st .AQ)):=⟨rfl,rfl,rfl,by decide +kernel,rfl,by decide +kernel,by decide +kernel⟩
theorem IM (M:Md K mg A fd) (ih:∀x,FnOk P w K mg base CX0 n (A x) (fd x) (ps x) (spF K (run n x))):FnOk P w K mg base CX0 (n + 1) (A .AQ) (fd .AQ) (ps .AQ) (spF K (run (n + 1) .AQ)):=by
 refine Bp (g:=fnOf 1 3 (CF (run n .AQ))) rfl (Bu rfl rfl (M.fn .AQ) sc_f_law_sizes (fun cdv A' outer s H E hr=>?_))
 refine @Aj _ _ _ _ _ _ ?_ ?_
 refine @NK _ _ _ _ 1 _ _ _ sc_f_law_sizes.nd rfl (.inl rfl) ?_ (by rfl) (by first | exact .inl rfl | exact .inr rfl | assumption)
 exact (BB Ae)
 refine @Aj _ _ _ _ _ _ ?_ ?_
 refine @AS _ _ _ _ _ _ _ _ _ ?_ ?_ AC
 refine @Bl _ _ _ ?_ (by intro _;rfl)
 refine @Bd _ _ _ _ _ _ _ _ _ _ E8 F3 rfl M.z_isinstance AR ?_ (by decide) (by decide) (by rfl) (by rfl)
 refine @Aa _ _ _ _ _ ?_ ?_ rfl
 exact (Ac 0)
 refine @Aa _ _ _ _ _ ?_ Ae rfl
 refine @Bg _ _ _ _ _ ?_
 refine @Aa _ _ _ _ _ ?_ ?_ rfl
 exact (BF rfl M.z_list BV)
 refine @Aa _ _ _ _ _ ?_ Ae rfl
 exact (BF rfl M.z_tuple Cv)
 refine @Al _ _ _ _ ?_
 refine @EV _ _ _ _ _ _ _ _ _ PassesOwn.never rfl ?_ ?_ ?_ (by intro _;rfl)
 refine @En _ _ _ _ ?_
 refine @A1 _ _ _ ?_
 refine @J6 _ _ _ _ _ _ _ _ _ _ DT GW rfl M.z_list BV ?_ (by decide) (by decide) (by rfl) (by rfl)
 refine @Aa _ _ _ _ _ ?_ Ae rfl
 exact (Ac 0)
 exact (BG sc_f_law_sizes.nd rfl (.inl rfl))
 refine @Al _ _ _ _ ?_
 refine @NK _ _ _ _ 1 _ _ _ sc_f_law_sizes.nd rfl (.inl rfl) ?_ (by rfl) (by first | exact .inl rfl | exact .inr rfl | assumption)
 refine @Ut _ _ _ _ _ _ _ _ _ op_cat PJ ?_ ?_
 exact (Ac 1)
 refine @Ak _ _ _ _ _ _ _ _ _ _ _ _ (ih .AQ) hr rfl (M.mgs .AQ) (Fun.kp (M.fn .AQ)) (M.bd .AQ) ?_ (by decide) (by rfl) (by rfl)
 refine @Aa _ _ _ _ _ ?_ Ae rfl
 exact (Ac 2)
 refine @Aj _ _ _ _ _ _ ?_ ?_
 refine @AS _ _ _ _ _ _ _ _ _ ?_ ?_ AC
 refine @Bl _ _ _ ?_ (by intro _;rfl)
 refine @Bd _ _ _ _ _ _ _ _ _ _ By BX rfl M.z_isinstance AR ?_ (by decide) (by decide) (by rfl) (by rfl)
 refine @Aa _ _ _ _ _ ?_ ?_ rfl
 exact (Ac 0)
 refine @Aa _ _ _ _ _ ?_ Ae rfl
 exact (BF rfl M.z_list BV)
 refine @Al _ _ _ _ ?_
 refine MR 1 ?_
 refine @Aa _ _ _ _ _ ?_ Ae rfl
 refine @Bd _ _ _ _ _ _ _ _ _ _ BI BQ rfl M.z_len B0 ?_ (by decide) (by decide) (by rfl) (by rfl)
 refine @Aa _ _ _ _ _ ?_ Ae rfl
 exact (Ac 0)
 refine @Al _ _ _ _ ?_
 refine @Ay _ _ _ _ ?_
 exact (Ac 1)
theorem sc_f_law_spoil:FnScope (ns .AX) (ps .AX) (AF (st .AX)):=⟨rfl,rfl,rfl,by decide +kernel,rfl,by decide +kernel,by decide +kernel⟩
theorem IN (M:Md K mg A fd) (ih:∀x,FnOk P w K mg base CX0 n (A x) (fd x) (ps x) (spF K (run n x))):FnOk P w K mg base CX0 (n + 1) (A .AX) (fd .AX) (ps .AX) (spF K (run (n + 1) .AX)):=by
 refine Bp (g:=fnOf 1 2 (CG (run n .AX))) rfl (Bu rfl rfl (M.fn .AX) sc_f_law_spoil (fun cdv A' outer s H E hr=>?_))
 refine @Aj _ _ _ _ _ _ ?_ ?_
 refine @AS _ _ _ _ _ _ _ _ _ ?_ ?_ AC
 refine @Bl _ _ _ ?_ (by intro _;rfl)
 refine @Bd _ _ _ _ _ _ _ _ _ _ E8 F3 rfl M.z_isinstance AR ?_ (by decide) (by decide) (by rfl) (by rfl)
 refine @Aa _ _ _ _ _ ?_ ?_ rfl
 exact (Ac 0)
 refine @Aa _ _ _ _ _ ?_ Ae rfl
 refine @Bg _ _ _ _ _ ?_
 refine @Aa _ _ _ _ _ ?_ ?_ rfl
 exact (BF rfl M.z_list BV)
 refine @Aa _ _ _ _ _ ?_ Ae rfl
 exact (BF rfl M.z_tuple Cv)
 refine @Al _ _ _ _ ?_
 refine @EV _ _ _ _ _ _ _ _ _ PassesOwn.never rfl ?_ ?_ ?_ (by intro _;rfl)
 refine @En _ _ _ _ ?_
 refine @A1 _ _ _ ?_
 refine @J6 _ _ _ _ _ _ _ _ _ _ DT GW rfl M.z_list BV ?_ (by decide) (by decide) (by rfl) (by rfl)
 refine @Aa _ _ _ _ _ ?_ Ae rfl
 exact (Ac 0)
 exact (BG sc_f_law_spoil.nd rfl (.inl rfl))
 refine @Al _ _ _ _ ?_
 refine Ft ?_
 refine @Ak _ _ _ _ _ _ _ _ _ _ _ _ (ih .AX) hr rfl (M.mgs .AX) (Fun.kp (M.fn .AX)) (M.bd .AX) ?_ (by decide) (by rfl) (by rfl)
 refine @Aa _ _ _ _ _ ?_ Ae rfl
 exact (Ac 1)
 refine @Al _ _ _ _ ?_
 refine @AS _ _ _ _ _ _ _ _ _ ?_ ?_ AC
 refine @Bl _ _ _ ?_ (by intro _;rfl)
 refine @Bd _ _ _ _ _ _ _ _ _ _ By BX rfl M.z_isinstance AR ?_ (by decide) (by decide) (by rfl) (by rfl)
 refine @Aa _ _ _ _ _ ?_ ?_ rfl
 exact (Ac 0)
 refine @Aa _ _ _ _ _ ?_ Ae rfl
 exact (BF rfl M.z_list BV)
 refine @Al _ _ _ _ ?_
 refine Ft ?_
 refine Jq ?_ ?_
 exact (Ac 0)
 exact (@Aa _ _ _ _ _ Ar Ae rfl)
theorem sc_f_law_right:FnScope (ns .AK) (ps .AK) (AF (st .AK)):=⟨rfl,rfl,rfl,by decide +kernel,rfl,by decide +kernel,by decide +kernel⟩
theorem IJ (M:Md K mg A fd) (ih:∀x,FnOk P w K mg base CX0 n (A x) (fd x) (ps x) (spF K (run n x))):FnOk P w K mg base CX0 (n + 1) (A .AK) (fd .AK) (ps .AK) (spF K (run (n + 1) .AK)):=by
 refine Bp (g:=fnOf 2 6 (CA (run n .Av) (run n .AZ) (run n .AO) (run n .A0) (run n .AQ) (run n .AX))) rfl (Bu rfl rfl (M.fn .AK) sc_f_law_right (fun cdv A' outer s H E hr=>?_))
 refine @Aj _ _ _ _ _ _ ?_ ?_
 refine @AT _ _ _ _ 2 _ _ _ sc_f_law_right.nd rfl (.inl rfl) ?_ (by rfl) (by first | exact .inl rfl | exact .inr rfl | assumption)
 refine @Ak _ _ _ _ _ _ _ _ _ _ _ _ (ih .Av) hr rfl (M.mgs .Av) (Fun.kp (M.fn .Av)) (M.bd .Av) ?_ (by decide) (by rfl) (by rfl)
 refine @Aa _ _ _ _ _ ?_ Ae rfl
 exact (Ac 1)
 refine @Aj _ _ _ _ _ _ ?_ ?_
 refine @AT _ _ _ _ 3 _ _ _ sc_f_law_right.nd rfl (.inl rfl) ?_ (by rfl) (by first | exact .inl rfl | exact .inr rfl | assumption)
 refine @Ak _ _ _ _ _ _ _ _ _ _ _ _ (ih .A0) hr rfl (M.mgs .A0) (Fun.kp (M.fn .A0)) (M.bd .A0) ?_ (by decide) (by rfl) (by rfl)
 refine @Aa _ _ _ _ _ ?_ ?_ rfl
 exact (Ac 0)
 refine @Aa _ _ _ _ _ ?_ Ae rfl
 exact (Ac 1)
 refine @Aj _ _ _ _ _ _ ?_ ?_
 refine @AS _ _ _ _ _ _ _ _ _ ?_ ?_ AC
 refine @DW _ _ _ ?_
 refine @DX _ _ _ _ _ _ _ ?_ ?_
 refine @BE _ _ _ _ ?_
 refine @Bl _ _ _ ?_ (by intro _;rfl)
 refine @Bd _ _ _ _ _ _ _ _ _ _ By CU rfl M.z_isinstance AR ?_ (by decide) (by decide) (by rfl) (by rfl)
 refine @Aa _ _ _ _ _ ?_ ?_ rfl
 exact (Ac 3)
 refine @Aa _ _ _ _ _ ?_ Ae rfl
 exact (BF rfl M.z_str C5)
 refine @DX _ _ _ _ _ _ _ ?_ ?_
 refine @A4 _ _ _ _ _ _ _ _ _ (Dc hr.units) (AY (g:=fun b=>!b)) ?_ ?_ (AV _)
 exact (Ac 3)
 exact (Ac 2)
 refine @Du _ _ _ _ ?_
 refine @A4 _ _ _ _ _ _ _ _ _ (Dc hr.units) (AY (g:=fun b=>!b)) ?_ ?_ (AV _)
 refine @Ak _ _ _ _ _ _ _ _ _ _ _ _ (ih .Av) hr rfl (M.mgs .Av) (Fun.kp (M.fn .Av)) (M.bd .Av) ?_ (by decide) (by rfl) (by rfl)
 refine @Aa _ _ _ _ _ ?_ Ae rfl
 exact (Ac 1)
 exact (Ac 2)
 refine @Al _ _ _ _ ?_
 exact (Ay B6)
 refine @Aj _ _ _ _ _ _ ?_ ?_
 refine @AT _ _ _ _ 4 _ _ _ sc_f_law_right.nd rfl (.inl rfl) ?_ (by rfl) (by first | exact .inl rfl | exact .inr rfl | assumption)
 refine @Ak _ _ _ _ _ _ _ _ _ _ _ _ (ih .AZ) hr rfl (M.mgs .AZ) (Fun.kp (M.fn .AZ)) (M.bd .AZ) ?_ (by decide) (by rfl) (by rfl)
 refine @Aa _ _ _ _ _ ?_ ?_ rfl
 exact (Ac 0)
 refine @Aa _ _ _ _ _ ?_ Ae rfl
 exact (Ac 2)
 refine @Aj _ _ _ _ _ _ ?_ ?_
 refine @AS _ _ _ _ _ _ _ _ _ ?_ ?_ AC
 refine @BE _ _ _ _ ?_
 refine @Bl _ _ _ ?_ (by intro _;rfl)
 refine @Ak _ _ _ _ _ _ _ _ _ _ _ _ (ih .AO) hr rfl (M.mgs .AO) (Fun.kp (M.fn .AO)) (M.bd .AO) ?_ (by decide) (by rfl) (by rfl)
 refine @Aa _ _ _ _ _ ?_ ?_ rfl
 exact (Ac 1)
 refine @Aa _ _ _ _ _ ?_ Ae rfl
 exact (Ac 4)
 refine @Al _ _ _ _ ?_
 exact (Ay B6)
 refine @Aj _ _ _ _ _ _ ?_ ?_
 refine @AT _ _ _ _ 5 _ _ _ sc_f_law_right.nd rfl (.inl rfl) ?_ (by rfl) (by first | exact .inl rfl | exact .inr rfl | assumption)
 refine @Ak _ _ _ _ _ _ _ _ _ _ _ _ (ih .AQ) hr rfl (M.mgs .AQ) (Fun.kp (M.fn .AQ)) (M.bd .AQ) ?_ (by decide) (by rfl) (by rfl)
 refine @Aa _ _ _ _ _ ?_ Ae rfl
 exact (Ac 4)
 refine @Aj _ _ _ _ _ _ ?_ ?_
 refine Ft ?_
 refine @Ak _ _ _ _ _ _ _ _ _ _ _ _ (ih .AX) hr rfl (M.mgs .AX) (Fun.kp (M.fn .AX)) (M.bd .AX) ?_ (by decide) (by rfl) (by rfl)
 refine @Aa _ _ _ _ _ ?_ Ae rfl
 exact (Ac 4)
 refine @Aj _ _ _ _ _ _ ?_ ?_
 refine @AS _ _ _ _ _ _ _ _ _ ?_ ?_ AC
 refine @A4 _ _ _ _ _ _ _ _ _ (Dc hr.units) (AY (g:=fun b=>!b)) ?_ ?_ (AV _)
 refine @Ak _ _ _ _ _ _ _ _ _ _ _ _ (ih .AQ) hr rfl (M.mgs .AQ) (Fun.kp (M.fn .AQ)) (M.bd .AQ) ?_ (by decide) (by rfl) (by rfl)
 refine @Aa _ _ _ _ _ ?_ Ae rfl
 exact (Ac 4)
 refine @A1 _ _ _ ?_
 refine CP (C7 ["size"] [] rfl rfl rfl rfl rfl) rfl ?_ ?_ ?_ ?_
 refine @En _ _ _ _ ?_
 exact (Ac 5)
 intro _ _ _ _ _
 exact (BG (by show List.Nodup [("size" : Str)] ;decide +kernel) rfl (.inl rfl))
 intro _ _ _ _ _
 exact CQ
 intro _ _ _ _ _
 refine @Az _ _ _ _ _ _ _ _ _ AL AG ?_ Ag
 exact (Ac 0)
 refine @Al _ _ _ _ ?_
 exact (Ay B6)
 refine @Al _ _ _ _ ?_
 refine @Ay _ _ _ _ ?_
 refine @El _ _ _ _ _ _ _ ?_ ?_
 refine @Dt _ _ _ _ _ _ _ _ _ (Bx hr.units) (AY (g:=id)) ?_ ?_ (AV _)
 refine @Ak _ _ _ _ _ _ _ _ _ _ _ _ (ih .Av) hr rfl (M.mgs .Av) (Fun.kp (M.fn .Av)) (M.bd .Av) ?_ (by decide) (by rfl) (by rfl)
 refine @Aa _ _ _ _ _ ?_ Ae rfl
 exact (Ac 1)
 exact (Ac 2)
 refine @El _ _ _ _ _ _ _ ?_ ?_
 refine @Ak _ _ _ _ _ _ _ _ _ _ _ _ (ih .AO) hr rfl (M.mgs .AO) (Fun.kp (M.fn .AO)) (M.bd .AO) ?_ (by decide) (by rfl) (by rfl)
 refine @Aa _ _ _ _ _ ?_ ?_ rfl
 exact (Ac 1)
 refine @Aa _ _ _ _ _ ?_ Ae rfl
 refine @Ak _ _ _ _ _ _ _ _ _ _ _ _ (ih .AZ) hr rfl (M.mgs .AZ) (Fun.kp (M.fn .AZ)) (M.bd .AZ) ?_ (by decide) (by rfl) (by rfl)
 refine @Aa _ _ _ _ _ ?_ ?_ rfl
 exact (Ac 0)
 refine @Aa _ _ _ _ _ ?_ Ae rfl
 exact (Ac 2)
 refine @Fr _ _ _ _ _ ?_
 refine @Dt _ _ _ _ _ _ _ _ _ (Bx hr.units) (AY (g:=id)) ?_ ?_ (AV _)
 refine @Ak _ _ _ _ _ _ _ _ _ _ _ _ (ih .A0) hr rfl (M.mgs .A0) (Fun.kp (M.fn .A0)) (M.bd .A0) ?_ (by decide) (by rfl) (by rfl)
 refine @Aa _ _ _ _ _ ?_ ?_ rfl
 exact (Ac 0)
 refine @Aa _ _ _ _ _ ?_ Ae rfl
 exact (Ac 1)
 exact (Ac 2)
theorem sc_f_law_great:FnScope (ns .A6) (ps .A6) (AF (st .A6)):=⟨rfl,rfl,rfl,by decide +kernel,rfl,by decide +kernel,by decide +kernel⟩
theorem II (M:Md K mg A fd) (ih:∀x,FnOk P w K mg base CX0 n (A x) (fd x) (ps x) (spF K (run n x))):FnOk P w K mg base CX0 (n + 1) (A .A6) (fd .A6) (ps .A6) (spF K (run (n + 1) .A6)):=by
 refine Bp (g:=fnOf 1 6 (Cz (run n .Af))) rfl (Bu rfl rfl (M.fn .A6) sc_f_law_great (fun cdv A' outer s H E hr=>?_))
 refine @Aj _ _ _ _ _ _ ?_ ?_
 refine @AT _ _ _ _ 1 _ _ _ sc_f_law_great.nd rfl (.inl rfl) ?_ (by rfl) (by first | exact .inl rfl | exact .inr rfl | assumption)
 refine @Az _ _ _ _ _ _ _ _ _ AL AG Ag ?_
 refine @Ak _ _ _ _ _ _ _ _ _ _ _ _ (ih .Af) hr rfl (M.mgs .Af) (Fun.kp (M.fn .Af)) (M.bd .Af) ?_ (by decide) (by rfl) (by rfl)
 refine @Aa _ _ _ _ _ ?_ ?_ rfl
 exact (Ac 0)
 exact (@Aa _ _ _ _ _ Ag Ae rfl)
 refine @Aj _ _ _ _ _ _ ?_ ?_
 refine @AT _ _ _ _ 2 _ _ _ sc_f_law_great.nd rfl (.inl rfl) ?_ (by rfl) (by first | exact .inl rfl | exact .inr rfl | assumption)
 refine @A1 _ _ _ ?_
 refine @BB _ _ _ _ ?_
 refine @Aa _ _ _ _ _ ?_ ?_ rfl
 refine @A1 _ _ _ ?_
 refine @BB _ _ _ _ ?_
 refine @Aa _ _ _ _ _ Ar ?_ rfl
 refine @Aa _ _ _ _ _ ?_ ?_ rfl
 refine @Bg _ _ _ _ _ ?_
 refine @Aa _ _ _ _ _ Ar ?_ rfl
 refine @Aa _ _ _ _ _ ?_ ?_ rfl
 exact (Us Ue R6 Ag)
 exact (@Aa _ _ _ _ _ Ag Ae rfl)
 exact (@Aa _ _ _ _ _ Ag Ae rfl)
 refine @Aa _ _ _ _ _ ?_ Ae rfl
 refine @A1 _ _ _ ?_
 refine CP (C7 ["k"] [(0 , "pool")] rfl rfl rfl rfl rfl) rfl ?_ ?_ ?_ ?_
 refine BY rfl M.z_range ?_
 refine @Aa _ _ _ _ _ ?_ Ae rfl
 exact (Ac 1)
 intro _ _ _ _ _
 exact (BG (by show List.Nodup [("k" : Str) ,("pool" : Str)] ;decide +kernel) rfl (.inl rfl))
 intro _ _ _ _ _
 exact CQ
 intro _ _ _ _ _
 refine @Az _ _ _ _ _ _ _ _ _ BU BM ?_ Ag
 refine @Ak _ _ _ _ _ _ _ _ _ _ _ _ (ih .Af) hr rfl (M.mgs .Af) (Fun.kp (M.fn .Af)) (M.bd .Af) ?_ (by decide) (by rfl) (by rfl)
 refine @Aa _ _ _ _ _ ?_ ?_ rfl
 exact (Ac 1)
 exact (@Aa _ _ _ _ _ Ag Ae rfl)
 refine @Aj _ _ _ _ _ _ ?_ ?_
 refine @AT _ _ _ _ 3 _ _ _ sc_f_law_great.nd rfl (.inl rfl) ?_ (by rfl) (by first | exact .inl rfl | exact .inr rfl | assumption)
 refine @Ak _ _ _ _ _ _ _ _ _ _ _ _ (ih .Af) hr rfl (M.mgs .Af) (Fun.kp (M.fn .Af)) (M.bd .Af) ?_ (by decide) (by rfl) (by rfl)
 refine @Aa _ _ _ _ _ ?_ ?_ rfl
 exact (Ac 0)
 exact (@Aa _ _ _ _ _ Ag Ae rfl)
 refine @Aj _ _ _ _ _ _ ?_ ?_
 refine @AS _ _ _ _ _ _ _ _ _ ?_ ?_ AC
 refine @A4 _ _ _ _ _ _ _ _ _ (Bx hr.units) (AY (g:=id)) ?_ Ag (AV _)
 exact (Ac 3)
 refine @Al _ _ _ _ ?_
 refine @AT _ _ _ _ 2 _ _ _ sc_f_law_great.nd rfl (.inl rfl) ?_ (by rfl) (by first | exact .inl rfl | exact .inr rfl | assumption)
 refine @A1 _ _ _ ?_
 refine @BB _ _ _ _ ?_
 refine @Aa _ _ _ _ _ ?_ ?_ rfl
 refine @A1 _ _ _ ?_
 refine @BB _ _ _ _ ?_
 refine @Aa _ _ _ _ _ Ar ?_ rfl
 refine @Aa _ _ _ _ _ ?_ Ae rfl
 refine @AB _ _ _ _ _ _ _ _ As Au ?_ ?_ (fun _ _=>rfl)
 refine @A1 _ _ _ ?_
 refine @BB _ _ _ _ ?_
 refine @Aa _ _ _ _ _ ?_ ?_ rfl
 refine @Az _ _ _ _ _ _ _ _ _ AL AG ?_ Ag
 exact (Ac 1)
 exact (@Aa _ _ _ _ _ Ag Ae rfl)
 refine @Ak _ _ _ _ _ _ _ _ _ _ _ _ (ih .Af) hr rfl (M.mgs .Af) (Fun.kp (M.fn .Af)) (M.bd .Af) ?_ (by decide) (by rfl) (by rfl)
 refine @Aa _ _ _ _ _ ?_ ?_ rfl
 exact (Ac 0)
 exact (@Aa _ _ _ _ _ Ag Ae rfl)
 refine @Aa _ _ _ _ _ ?_ Ae rfl
 refine @Az _ _ _ _ _ _ _ _ _ GR F4 ?_ ?_
 refine @ER _ _ _ _ _ _ _ _ _ _ _ sl3 FE Ar QX ?_
 refine Dd ?_
 refine @Az _ _ _ _ _ _ _ _ _ AL AG Ag ?_
 refine @Ak _ _ _ _ _ _ _ _ _ _ _ _ (ih .Af) hr rfl (M.mgs .Af) (Fun.kp (M.fn .Af)) (M.bd .Af) ?_ (by decide) (by rfl) (by rfl)
 refine @Aa _ _ _ _ _ ?_ ?_ rfl
 exact (Ac 0)
 exact (@Aa _ _ _ _ _ Ag Ae rfl)
 refine @Az _ _ _ _ _ _ _ _ _ AL AG ?_ Ag
 refine @Az _ _ _ _ _ _ _ _ _ Rm PK ?_ Ag
 exact (Ac 1)
 refine @Aj _ _ _ _ _ _ ?_ ?_
 refine @AS _ _ _ _ _ _ _ _ _ ?_ ?_ AC
 refine @A4 _ _ _ _ _ _ _ _ _ (Bx hr.units) (AY (g:=id)) ?_ Ag (AV _)
 exact (Ac 3)
 refine @Aj _ _ _ _ _ _ ?_ ?_
 refine @AT _ _ _ _ 4 _ _ _ sc_f_law_great.nd rfl (.inr ⟨rfl ,by decide +kernel⟩) ?_ (by rfl) (by first | exact .inl rfl | exact .inr rfl | assumption)
 refine @A1 _ _ _ ?_
 refine CP (C7 ["k"] [(0 , "pool")] rfl rfl rfl rfl rfl) rfl ?_ ?_ ?_ ?_
 refine BY rfl M.z_range ?_
 refine @Aa _ _ _ _ _ ?_ Ae rfl
 refine @Ak _ _ _ _ _ _ _ _ _ _ _ _ (ih .Af) hr rfl (M.mgs .Af) (Fun.kp (M.fn .Af)) (M.bd .Af) ?_ (by decide) (by rfl) (by rfl)
 refine @Aa _ _ _ _ _ ?_ ?_ rfl
 exact (Ac 0)
 exact (@Aa _ _ _ _ _ Ag Ae rfl)
 intro _ _ _ _ _
 exact (BG (by show List.Nodup [("k" : Str) ,("pool" : Str)] ;decide +kernel) rfl (.inl rfl))
 intro _ _ _ _ _
 exact CQ
 intro _ _ _ _ _
 refine @Ak _ _ _ _ _ _ _ _ _ _ _ _ (ih .Af) hr rfl (M.mgs .Af) (Fun.kp (M.fn .Af)) (M.bd .Af) ?_ (by decide) (by rfl) (by rfl)
 refine @Aa _ _ _ _ _ ?_ ?_ rfl
 exact (Ac 1)
 exact (@Aa _ _ _ _ _ Ag Ae rfl)
 refine @Al _ _ _ _ ?_
 refine @AT _ _ _ _ 2 _ _ _ sc_f_law_great.nd rfl (.inl rfl) ?_ (by rfl) (by first | exact .inl rfl | exact .inr rfl | assumption)
 refine @A1 _ _ _ ?_
 refine @BB _ _ _ _ ?_
 refine @Aa _ _ _ _ _ ?_ ?_ rfl
 refine @A1 _ _ _ ?_
 refine @BB _ _ _ _ ?_
 refine @Aa _ _ _ _ _ Ar ?_ rfl
 refine @Aa _ _ _ _ _ ?_ ?_ rfl
 refine @Bg _ _ _ _ _ ?_
 refine @Aa _ _ _ _ _ Ar ?_ rfl
 refine @Aa _ _ _ _ _ ?_ ?_ rfl
 refine @Bg _ _ _ _ _ ?_
 refine @Aa _ _ _ _ _ Ar ?_ rfl
 refine @Aa _ _ _ _ _ Ag ?_ rfl
 exact (@Aa _ _ _ _ _ Ag Ae rfl)
 exact (@Aa _ _ _ _ _ Ag Ae rfl)
 exact (@Aa _ _ _ _ _ Ag Ae rfl)
 refine @Aa _ _ _ _ _ ?_ Ae rfl
 refine @A1 _ _ _ ?_
 refine CP (C7 ["k"] [(4 , "inner")] rfl rfl rfl rfl rfl) rfl ?_ ?_ ?_ ?_
 refine BY rfl M.z_range ?_
 refine @Aa _ _ _ _ _ ?_ Ae rfl
 refine @Az _ _ _ _ _ _ _ _ _ AL AG Ag ?_
 refine @Ak _ _ _ _ _ _ _ _ _ _ _ _ (ih .Af) hr rfl (M.mgs .Af) (Fun.kp (M.fn .Af)) (M.bd .Af) ?_ (by decide) (by rfl) (by rfl)
 refine @Aa _ _ _ _ _ ?_ ?_ rfl
 exact (Ac 0)
 exact (@Aa _ _ _ _ _ Ag Ae rfl)
 intro _ _ _ _ _
 exact (BG (by show List.Nodup [("k" : Str) ,("inner" : Str)] ;decide +kernel) rfl (.inl rfl))
 intro _ _ _ _ _
 exact CQ
 intro _ _ _ _ _
 refine @A1 _ _ _ ?_
 refine @J6 _ _ _ _ _ _ _ _ _ _ DT GW rfl M.z_list BV ?_ (by decide) (by decide) (by rfl) (by rfl)
 refine @Aa _ _ _ _ _ ?_ Ae rfl
 exact (Ac 1)
 refine @Aj _ _ _ _ _ _ ?_ ?_
 refine @AS _ _ _ _ _ _ _ _ _ ?_ ?_ AC
 refine @A4 _ _ _ _ _ _ _ _ _ (Bx hr.units) (AY (g:=id)) ?_ Ag (AV _)
 exact (Ac 3)
 refine @Aj _ _ _ _ _ _ ?_ ?_
 refine @AT _ _ _ _ 4 _ _ _ sc_f_law_great.nd rfl (.inr ⟨rfl ,by decide +kernel⟩) ?_ (by rfl) (by first | exact .inl rfl | exact .inr rfl | assumption)
 refine @Az _ _ _ _ _ _ _ _ _ GR F4 ?_ ?_
 refine @A1 _ _ _ ?_
 refine @BB _ _ _ _ ?_
 exact (@Aa _ _ _ _ _ Fq Ae rfl)
 refine @Ak _ _ _ _ _ _ _ _ _ _ _ _ (ih .Af) hr rfl (M.mgs .Af) (Fun.kp (M.fn .Af)) (M.bd .Af) ?_ (by decide) (by rfl) (by rfl)
 refine @Aa _ _ _ _ _ ?_ ?_ rfl
 exact (Ac 0)
 exact (@Aa _ _ _ _ _ Ag Ae rfl)
 refine @Aj _ _ _ _ _ _ ?_ ?_
 refine Q0 (i:=5) (C7 ["k"] [(4 , "inner")] rfl rfl rfl rfl rfl) rfl sc_f_law_great.nd rfl rfl ?_ ?_ ?_ ?_
 refine BY rfl M.z_range ?_
 refine @Aa _ _ _ _ _ ?_ Ae rfl
 refine @Az _ _ _ _ _ _ _ _ _ AL AG Ag ?_
 refine @Ak _ _ _ _ _ _ _ _ _ _ _ _ (ih .Af) hr rfl (M.mgs .Af) (Fun.kp (M.fn .Af)) (M.bd .Af) ?_ (by decide) (by rfl) (by rfl)
 refine @Aa _ _ _ _ _ ?_ ?_ rfl
 exact (Ac 0)
 exact (@Aa _ _ _ _ _ Ag Ae rfl)
 intro _ _ _ _ _
 exact (BG (by show List.Nodup [("k" : Str) ,("inner" : Str)] ;decide +kernel) rfl (.inl rfl))
 intro _ _ _ _ _
 exact CQ
 intro _ _ _ _ _
 refine @Bg _ _ _ _ _ ?_
 refine @Aa _ _ _ _ _ ?_ ?_ rfl
 refine @A1 _ _ _ ?_
 refine @J6 _ _ _ _ _ _ _ _ _ _ DT GW rfl M.z_list BV ?_ (by decide) (by decide) (by rfl) (by rfl)
 refine @Aa _ _ _ _ _ ?_ Ae rfl
 exact (Ac 1)
 exact (@Aa _ _ _ _ _ Ar Ae rfl)
 refine @Al _ _ _ _ ?_
 refine @AT _ _ _ _ 2 _ _ _ sc_f_law_great.nd rfl (.inl rfl) ?_ (by rfl) (by first | exact .inl rfl | exact .inr rfl | assumption)
 refine @A1 _ _ _ ?_
 refine @BB _ _ _ _ ?_
 refine @Aa _ _ _ _ _ ?_ ?_ rfl
 refine @A1 _ _ _ ?_
 refine @BB _ _ _ _ ?_
 refine @Aa _ _ _ _ _ Ar ?_ rfl
 refine @Aa _ _ _ _ _ ?_ ?_ rfl
 refine @Bg _ _ _ _ _ ?_
 refine @Aa _ _ _ _ _ Ar ?_ rfl
 refine @Aa _ _ _ _ _ ?_ ?_ rfl
 refine @Bg _ _ _ _ _ ?_
 refine @Aa _ _ _ _ _ Ar ?_ rfl
 refine @Aa _ _ _ _ _ ?_ ?_ rfl
 refine @Bg _ _ _ _ _ ?_
 exact (@Aa _ _ _ _ _ Ar Ae rfl)
 exact (@Aa _ _ _ _ _ Ag Ae rfl)
 refine @Aa _ _ _ _ _ ?_ Ae rfl
 refine @Bg _ _ _ _ _ ?_
 refine @Aa _ _ _ _ _ Ar ?_ rfl
 exact (@Aa _ _ _ _ _ Ag Ae rfl)
 exact (@Aa _ _ _ _ _ Ag Ae rfl)
 refine @Aa _ _ _ _ _ ?_ Ae rfl
 exact (Ac 5)
 refine @Al _ _ _ _ ?_
 refine @Ay _ _ _ _ ?_
 refine @Bg _ _ _ _ _ ?_
 refine @Aa _ _ _ _ _ ?_ ?_ rfl
 refine @Ed _ _ _ _ _ _ _ _ _ _ Gg Mr rfl M.z_tuple Cv ?_ (by decide) (by decide) (by rfl) (by rfl)
 refine @Aa _ _ _ _ _ ?_ Ae rfl
 refine @AB _ _ _ _ _ _ _ _ As Au ?_ Ag (fun _ _=>rfl)
 exact (Ac 2)
 refine @Aa _ _ _ _ _ ?_ Ae rfl
 refine @AB _ _ _ _ _ _ _ _ As Au ?_ Ag (fun _ _=>rfl)
 exact (Ac 2)
theorem sc_law_:FnScope (ns .law_) (ps .law_) (AF (st .law_)):=⟨rfl,rfl,rfl,by decide +kernel,rfl,by decide +kernel,by decide +kernel⟩
theorem Rj (M:Md K mg A fd) (ih:∀x,FnOk P w K mg base CX0 n (A x) (fd x) (ps x) (spF K (run n x))):FnOk P w K mg base CX0 (n + 1) (A .law_) (fd .law_) (ps .law_) (spF K (run (n + 1) .law_)):=by
 refine Bp (g:=fnOf 1 6 (Eo (run n .AD) (run n .AK) (run n .Bj) (run n .A3) (run n .A6))) rfl (Bu rfl rfl (M.fn .law_) sc_law_ (fun cdv A' outer s H E hr=>?_))
 refine @Aj _ _ _ _ _ _ ?_ ?_
 refine HD ?_ ?_
 refine @Ak _ _ _ _ _ _ _ _ _ _ _ _ (ih .A6) hr rfl (M.mgs .A6) (Fun.kp (M.fn .A6)) (M.bd .A6) ?_ (by decide) (by rfl) (by rfl)
 refine @Aa _ _ _ _ _ ?_ Ae rfl
 refine @Ak _ _ _ _ _ _ _ _ _ _ _ _ (ih .A3) hr rfl (M.mgs .A3) (Fun.kp (M.fn .A3)) (M.bd .A3) ?_ (by decide) (by rfl) (by rfl)
 refine @Aa _ _ _ _ _ ?_ ?_ rfl
 exact (Ac 0)
 exact (@Aa _ _ _ _ _ Ag Ae rfl)
 refine Uu rfl ?_
 refine KK ?_ ?_
 exact (BG sc_law_.nd rfl (.inl rfl))
 refine KK ?_ QT
 exact (BG sc_law_.nd rfl (.inl rfl))
 refine @Aj _ _ _ _ _ _ ?_ ?_
 refine @AS _ _ _ _ _ _ _ _ _ ?_ ?_ AC
 refine @DW _ _ _ ?_
 refine @DX _ _ _ _ _ _ _ ?_ ?_
 refine @BE _ _ _ _ ?_
 refine @Bl _ _ _ ?_ (by intro _;rfl)
 refine @Ak _ _ _ _ _ _ _ _ _ _ _ _ (ih .AK) hr rfl (M.mgs .AK) (Fun.kp (M.fn .AK)) (M.bd .AK) ?_ (by decide) (by rfl) (by rfl)
 refine @Aa _ _ _ _ _ ?_ ?_ rfl
 exact (Ac 1)
 refine @Aa _ _ _ _ _ ?_ Ae rfl
 exact (Ac 2)
 refine @Du _ _ _ _ ?_
 refine @BE _ _ _ _ ?_
 refine @Bl _ _ _ ?_ (by intro _;rfl)
 refine @Ak _ _ _ _ _ _ _ _ _ _ _ _ (ih .AK) hr rfl (M.mgs .AK) (Fun.kp (M.fn .AK)) (M.bd .AK) ?_ (by decide) (by rfl) (by rfl)
 refine @Aa _ _ _ _ _ ?_ ?_ rfl
 refine @Bg _ _ _ _ _ ?_
 refine @Aa _ _ _ _ _ Ar ?_ rfl
 exact (@Aa _ _ _ _ _ Ag Ae rfl)
 refine @Aa _ _ _ _ _ ?_ Ae rfl
 exact (Az GR F4 Ar Ag)
 refine @Al _ _ _ _ ?_
 exact (Ay B6)
 refine @Aj _ _ _ _ _ _ ?_ ?_
 refine @EV _ _ _ _ _ _ _ _ _ PassesOwn.never rfl ?_ ?_ ?_ (by intro _;rfl)
 refine @En _ _ _ _ ?_
 refine @A1 _ _ _ ?_
 refine @BB _ _ _ _ ?_
 refine @Aa _ _ _ _ _ ?_ ?_ rfl
 refine @Az _ _ _ _ _ _ _ _ _ BU BM ?_ Ag
 exact (Az CK Ci Ag Ag)
 refine @Aa _ _ _ _ _ ?_ ?_ rfl
 refine @Az _ _ _ _ _ _ _ _ _ BU BM Ag ?_
 exact (Az CK Ci Ag Ag)
 refine @Aa _ _ _ _ _ ?_ ?_ rfl
 refine @Az _ _ _ _ _ _ _ _ _ BU BM ?_ Ag
 exact (Az CK Ci Ag Ag)
 refine @Aa _ _ _ _ _ ?_ ?_ rfl
 refine @Az _ _ _ _ _ _ _ _ _ BU BM Ag ?_
 exact (Az CK Ci Ag Ag)
 refine @Aa _ _ _ _ _ ?_ ?_ rfl
 exact (Az CK Ci Ag Ag)
 refine @Aa _ _ _ _ _ ?_ Ae rfl
 refine @Az _ _ _ _ _ _ _ _ _ BU BM Ag ?_
 exact (Az CK Ci Ag Ag)
 exact (BG sc_law_.nd rfl (.inl rfl))
 refine @Al _ _ _ _ ?_
 refine @AS _ _ _ _ _ _ _ _ _ ?_ ?_ AC
 refine @BE _ _ _ _ ?_
 refine @Bl _ _ _ ?_ (by intro _;rfl)
 refine @Ak _ _ _ _ _ _ _ _ _ _ _ _ (ih .AK) hr rfl (M.mgs .AK) (Fun.kp (M.fn .AK)) (M.bd .AK) ?_ (by decide) (by rfl) (by rfl)
 refine @Aa _ _ _ _ _ ?_ ?_ rfl
 refine @Bg _ _ _ _ _ ?_
 refine @Aa _ _ _ _ _ Ar ?_ rfl
 refine @Aa _ _ _ _ _ ?_ ?_ rfl
 refine @Az _ _ _ _ _ _ _ _ _ BU BM Ag ?_
 exact (Az CK Ci Ag Ag)
 refine @Aa _ _ _ _ _ ?_ Ae rfl
 refine @Az _ _ _ _ _ _ _ _ _ BU BM ?_ Ag
 exact (Az CK Ci Ag Ag)
 refine @Aa _ _ _ _ _ ?_ Ae rfl
 exact (Ac 3)
 refine @Al _ _ _ _ ?_
 exact (Ay B6)
 refine @Aj _ _ _ _ _ _ ?_ ?_
 refine @EV _ _ _ _ _ _ _ _ _ PassesOwn.never rfl ?_ ?_ ?_ (by intro _;rfl)
 refine BY rfl M.z_range ?_
 refine @Aa _ _ _ _ _ ?_ Ae rfl
 refine @Bd _ _ _ _ _ _ _ _ _ _ (Gn rfl) Ja rfl M.z_min Kq ?_ (by decide) (by decide) (by rfl) (by rfl)
 refine @Aa _ _ _ _ _ Ag ?_ rfl
 refine @Aa _ _ _ _ _ ?_ Ae rfl
 refine @Bd _ _ _ _ _ _ _ _ _ _ BI BQ rfl M.z_len B0 ?_ (by decide) (by decide) (by rfl) (by rfl)
 refine @Aa _ _ _ _ _ ?_ Ae rfl
 exact (Ac 0)
 exact (BG sc_law_.nd rfl (.inl rfl))
 refine @Aj _ _ _ _ _ _ ?_ ?_
 refine @AT _ _ _ _ 5 _ _ _ sc_law_.nd rfl (.inl rfl) ?_ (by rfl) (by first | exact .inl rfl | exact .inr rfl | assumption)
 refine @Ak _ _ _ _ _ _ _ _ _ _ _ _ (ih .A3) hr rfl (M.mgs .A3) (Fun.kp (M.fn .A3)) (M.bd .A3) ?_ (by decide) (by rfl) (by rfl)
 refine @Aa _ _ _ _ _ ?_ ?_ rfl
 exact (Ac 0)
 refine @Aa _ _ _ _ _ ?_ Ae rfl
 exact (Ac 4)
 refine @Aj _ _ _ _ _ _ ?_ ?_
 refine @AT _ _ _ _ 1 _ _ _ sc_law_.nd rfl (.inl rfl) ?_ (by rfl) (by first | exact .inl rfl | exact .inr rfl | assumption)
 refine @Ak _ _ _ _ _ _ _ _ _ _ _ _ (ih .Bj) hr rfl (M.mgs .Bj) (Fun.kp (M.fn .Bj)) (M.bd .Bj) ?_ (by decide) (by rfl) (by rfl)
 refine @Aa _ _ _ _ _ ?_ Ae rfl
 exact (Ac 5)
 refine @Al _ _ _ _ ?_
 refine @AS _ _ _ _ _ _ _ _ _ ?_ ?_ AC
 refine @BE _ _ _ _ ?_
 refine @Bl _ _ _ ?_ (by intro _;rfl)
 refine @Ak _ _ _ _ _ _ _ _ _ _ _ _ (ih .AK) hr rfl (M.mgs .AK) (Fun.kp (M.fn .AK)) (M.bd .AK) ?_ (by decide) (by rfl) (by rfl)
 refine @Aa _ _ _ _ _ ?_ ?_ rfl
 exact (Ac 1)
 refine @Aa _ _ _ _ _ ?_ Ae rfl
 refine @Ak _ _ _ _ _ _ _ _ _ _ _ _ (ih .AD) hr rfl (M.mgs .AD) (Fun.kp (M.fn .AD)) (M.bd .AD) ?_ (by decide) (by rfl) (by rfl)
 refine @Aa _ _ _ _ _ ?_ ?_ rfl
 exact (Ac 5)
 refine @Aa _ _ _ _ _ ?_ Ae rfl
 exact (Ac 1)
 refine @Al _ _ _ _ ?_
 exact (Ay B6)
 refine @Al _ _ _ _ ?_
 exact (Ay B6)
theorem Tf (M:Md K mg A fd) (ih:∀x,FnOk P w K mg base CX0 n (A x) (fd x) (ps x) (spF K (run n x))):Kf P w K mg base (n + 1) lamD "start" (IC (n + 1)):=by
 intro fa c' pm ctv cs capsV hnd hlen
 refine Td (m:=EX (run n .AJ)) VR hnd hlen fun A' outer s H E hr=>?_
 refine @Ak _ _ _ _ _ _ _ _ _ _ _ _ (ih .AJ) hr rfl (M.mgs .AJ) (Fun.kp (M.fn .AJ)) (M.bd .AJ) ?_ (by decide) (by rfl) (by rfl)
 refine @Aa _ _ _ _ _ ?_ ?_ rfl
 refine @AB _ _ _ _ _ _ _ _ As Au ?_ Ag (fun _ _=>rfl)
 exact (Ac 2)
 refine @Aa _ _ _ _ _ ?_ ?_ rfl
 exact (Ac 1)
 refine @Aa _ _ _ _ _ ?_ Ae rfl
 exact (Ac 0)
theorem L4 (M:Md K mg A fd) (TB:TabAt base mg cc Pt):∀n:Nat,(∀x:Fx,FnOk P w K mg base CX0 n (A x) (fd x) (ps x) (spF K (run n x)))∧Kf P w K mg base n lamD "start" (IC n)
 | 0=>⟨fun x=>⟨fun vs H Q E h=>(by obtain ⟨c,ds,S,_,_,r,S',e,_⟩:=h;cases e),fun A' outer s H args us vs Q E _ _ _ _ h=>(by obtain ⟨c,ds,S,_,_,r,S',e,_⟩:=h;cases e)⟩,fun fa c' pm ctv cs capsV _ _=>⟨fun vs H Q E h=>(by obtain ⟨_,_,_,_,c,ds,caps,S,_,_,_,r,S',e,_⟩:=h;cases e),fun A' outer s H args us vs Q E _ _ _ _ h=>(by obtain ⟨_,_,_,_,c,ds,caps,S,_,_,_,r,S',e,_⟩:=h;cases e)⟩⟩
 | n + 1=>by
   obtain ⟨ih,ihL⟩:=L4 M TB n
   refine ⟨fun x=>?_,Tf M ih⟩
   cases x with
   | Bn=>exact JS M ih
   | Aq=>exact FW M ih
   | Ba=>exact Pe M ih
   | Bm=>exact JR M ih
   | BA=>exact LO M ih
   | Bs=>exact JP M ih
   | Bt=>exact JQ M ih
   | A8=>exact HS M ih
   | A0=>exact IS M ih
   | Ax=>exact Hh M ih
   | AZ=>exact IR M ih
   | Bh=>exact IG M ih
   | AJ=>exact K0 M ih
   | Bb=>exact LP M TB ih
   | BD=>exact LQ M ih
   | Br=>exact JL M ih
   | BH=>exact M1 M ihL ih
   | A2=>exact JT M ih
   | Bo=>exact JU M ih
   | Am=>exact HR M ih
   | Bc=>exact IF M ih
   | Bw=>exact KZ M ih
   | A3=>exact JN M ih
   | Af=>exact JO M ih
   | AE=>exact IK M ih
   | Bj=>exact JM M ih
   | Bi=>exact IL M ih
   | AD=>exact IP M ih
   | Av=>exact IQ M ih
   | AO=>exact IH M ih
   | AQ=>exact IM M ih
   | AX=>exact IN M ih
   | AK=>exact IJ M ih
   | A6=>exact II M ih
   | law_=>exact Rj M ih
end
abbrev fno (x:Fx) (kV dc pm:Value) (an:Option Addr) (cd ct:Value):FuncData:=PySem.W.fnOf (nm x) (nm x) (Fo (st x)) (CO (st x)) (AF (st x)) .none kV dc pm an cd ct
structure At (K:PySem.W.Frag) (x:Fx) (f:Addr) (fd:FuncData):Prop where
 a:PySem.W.nsIn K mainGlobals (nm x)=some (some (.ref f))
 fn:Fun K (nm x) (nm x) (st x) f fd
 bd:Binds K fd (ps x) []
 eq:∃kV dc pm an cd ct,fd=fno x kV dc pm an cd ct
theorem at_mk {K:PySem.W.Frag} {x:Fx} {f:Addr} {od an:Option Addr} {sl:Array (Option Value)} {oc kV dc pm cd ct:Value} (a:PySem.W.nsIn K mainGlobals (nm x)=some (some (.ref f))) (l:K.lookup f=some ⟨oc,od,.func (fno x kV dc pm an cd ct),sl⟩) (c:PySem.W.codeIn K cd (nm x)=true) (k:PySem.W.keepIn K (.ref f)=true):∃p:Addr×FuncData,At K x p.1 p.2:=by
 refine ⟨(f,fno x kV dc pm an cd ct),a,NL (st:=st x) l c k,(NL (st:=st x) l c k).binds (ps:=ps x) fun _ _ _ _ _ _ us hl=>?_,_,_,_,_,_,_,rfl⟩
 cases x <;> (rcases us with _ | ⟨_,_ | ⟨_,_ | ⟨_,_ | ⟨_,us⟩⟩⟩⟩ <;> first | (cases hl;done) | rfl | (cases us;rfl;cases hl))
theorem fin_mk {K:PySem.W.Frag} {h:Heap} {mg:Str→Option Value} {fa:Addr} (X:K.In h) (G:h.Ns mainGlobals mg) (hmg:mg "law" = some (.ref fa)) (H:∀x:Fx,∃p:Addr×FuncData,At K x p.1 p.2) (z_bool:PySem.W.nsIn K mainGlobals "bool" = some none) (z_int:PySem.W.nsIn K mainGlobals "int" = some none) (z_isinstance:PySem.W.nsIn K mainGlobals "isinstance" = some none) (z_len:PySem.W.nsIn K mainGlobals "len" = some none) (z_list:PySem.W.nsIn K mainGlobals "list" = some none) (z_min:PySem.W.nsIn K mainGlobals "min" = some none) (z_ord:PySem.W.nsIn K mainGlobals "ord" = some none) (z_range:PySem.W.nsIn K mainGlobals "range" = some none) (z_str:PySem.W.nsIn K mainGlobals "str" = some none) (z_tuple:PySem.W.nsIn K mainGlobals "tuple" = some none) {tk_FIGURES:Tok} (g_FIGURES:PySem.W.nsIn K mainGlobals "FIGURES" = some (some (.str "0123456789" tk_FIGURES))) {tk_FIRST_SIGN:Tok} (g_FIRST_SIGN:PySem.W.nsIn K mainGlobals "FIRST_SIGN" = some (some (.int 32 tk_FIRST_SIGN))) {tk_LAST_SIGN:Tok} (g_LAST_SIGN:PySem.W.nsIn K mainGlobals "LAST_SIGN" = some (some (.int 126 tk_LAST_SIGN))) {tk_MOST_FIGURES:Tok} (g_MOST_FIGURES:PySem.W.nsIn K mainGlobals "MOST_FIGURES" = some (some (.int 18 tk_MOST_FIGURES))) {tk_PERCENT_SIGN:Tok} (g_PERCENT_SIGN:PySem.W.nsIn K mainGlobals "PERCENT_SIGN" = some (some (.int 37 tk_PERCENT_SIGN))) {tk_QUOTE:Tok} (g_QUOTE:PySem.W.nsIn K mainGlobals "QUOTE" = some (some (.str "\"" tk_QUOTE))) (n0:tk_QUOTE≠0) {f0:Addr} {od0 an0:Option Addr} {sl0:Array (Option Value)} {oc0 kV0 dc0 pm0 ct0:Value} (ca:PySem.W.nsIn K mainGlobals (nm .Bb)=some (some (.ref f0))) (cl:K.lookup f0=some ⟨oc0,od0,.func (fno .Bb kV0 dc0 pm0 an0 (.ref cc) ct0),sl0⟩):∃(A:Fx→Addr) (fd:Fx→FuncData),Md K mg A fd∧A .law_=fa∧∀(s:Shared) (u:Value),BindsTo s (fd .law_) ⟨[u],[]⟩ [("script",u)]:=by
 obtain ⟨F,hF⟩:=Classical.axiomOfChoice H
 have hcd:(F .Bb).2.code = .ref cc:=by
  have e:=(hF .Bb).a
  rw [ca] at e
  obtain ⟨_,_,_,_,_,_,_,_,_,_,e2,_⟩:=(hF .Bb).fn.ex
  cases e
  rw [cl] at e2
  simp only [Option.some.injEq,Obj.mk.injEq,Data.func.injEq] at e2
  rw [←e2.2.2.1]
 refine ⟨fun x=>(F x).1,fun x=>(F x).2,{ fn:=fun x=>(hF x).fn,mgs:=fun x=>PySem.W.mg_of X G (hF x).a,bd:=fun x=>(hF x).bd,cd:=hcd,z_bool:=PySem.W.mg_none_of X G z_bool,z_int:=PySem.W.mg_none_of X G z_int,z_isinstance:=PySem.W.mg_none_of X G z_isinstance,z_len:=PySem.W.mg_none_of X G z_len,z_list:=PySem.W.mg_none_of X G z_list,z_min:=PySem.W.mg_none_of X G z_min,z_ord:=PySem.W.mg_none_of X G z_ord,z_range:=PySem.W.mg_none_of X G z_range,z_str:=PySem.W.mg_none_of X G z_str,z_tuple:=PySem.W.mg_none_of X G z_tuple,qq:=⟨tk_QUOTE,n0,g_QUOTE,PySem.W.mg_of X G g_QUOTE⟩,g_FIGURES:=⟨tk_FIGURES,PySem.W.mg_of X G g_FIGURES⟩,g_FIRST_SIGN:=⟨tk_FIRST_SIGN,PySem.W.mg_of X G g_FIRST_SIGN⟩,g_LAST_SIGN:=⟨tk_LAST_SIGN,PySem.W.mg_of X G g_LAST_SIGN⟩,g_MOST_FIGURES:=⟨tk_MOST_FIGURES,PySem.W.mg_of X G g_MOST_FIGURES⟩,g_PERCENT_SIGN:=⟨tk_PERCENT_SIGN,PySem.W.mg_of X G g_PERCENT_SIGN⟩,g_QUOTE:=⟨tk_QUOTE,PySem.W.mg_of X G g_QUOTE⟩ },?_,fun s u=>?_⟩
 ·have e:=hmg.symm.trans (PySem.W.mg_of X G (hF .law_).a)
  cases e
  rfl
 ·obtain ⟨_,_,_,_,_,_,e⟩:=(hF .law_).eq
  show BindsTo s (F .law_).2 _ _
  rw [e]
  exact .of_eq rfl
theorem SD {K:PySem.W.Frag} {x:Fx} {f:Addr} {od an:Option Addr} {sl:Array (Option Value)} {oc kV dc pm cd ct:Value} (T:DQ K Pt) (a:PySem.W.nsIn K mainGlobals (nm x)=some (some (.ref f))) (l:K.lookup f=some ⟨oc,od,.func (fno x kV dc pm an cd ct),sl⟩) (c:PySem.W.codeIn K cd (nm x)=true):∃p:Addr×FuncData,At (wo Pt K) x p.1 p.2:=at_mk (B8 T a) (LD T l) (Sn T c) (So T l)
theorem QW {K:PySem.W.Frag} {h:Heap} {mg:Str→Option Value} {fa:Addr} (T:DQ K Pt) (X:(wo Pt K).In h) (G:h.Ns mainGlobals mg) (hmg:mg "law" = some (.ref fa)) (H:∀x:Fx,∃p:Addr×FuncData,At (wo Pt K) x p.1 p.2) (z_bool:PySem.W.nsIn K mainGlobals "bool" = some none) (z_int:PySem.W.nsIn K mainGlobals "int" = some none) (z_isinstance:PySem.W.nsIn K mainGlobals "isinstance" = some none) (z_len:PySem.W.nsIn K mainGlobals "len" = some none) (z_list:PySem.W.nsIn K mainGlobals "list" = some none) (z_min:PySem.W.nsIn K mainGlobals "min" = some none) (z_ord:PySem.W.nsIn K mainGlobals "ord" = some none) (z_range:PySem.W.nsIn K mainGlobals "range" = some none) (z_str:PySem.W.nsIn K mainGlobals "str" = some none) (z_tuple:PySem.W.nsIn K mainGlobals "tuple" = some none) {tk_FIGURES:Tok} (g_FIGURES:PySem.W.nsIn K mainGlobals "FIGURES" = some (some (.str "0123456789" tk_FIGURES))) {tk_FIRST_SIGN:Tok} (g_FIRST_SIGN:PySem.W.nsIn K mainGlobals "FIRST_SIGN" = some (some (.int 32 tk_FIRST_SIGN))) {tk_LAST_SIGN:Tok} (g_LAST_SIGN:PySem.W.nsIn K mainGlobals "LAST_SIGN" = some (some (.int 126 tk_LAST_SIGN))) {tk_MOST_FIGURES:Tok} (g_MOST_FIGURES:PySem.W.nsIn K mainGlobals "MOST_FIGURES" = some (some (.int 18 tk_MOST_FIGURES))) {tk_PERCENT_SIGN:Tok} (g_PERCENT_SIGN:PySem.W.nsIn K mainGlobals "PERCENT_SIGN" = some (some (.int 37 tk_PERCENT_SIGN))) {tk_QUOTE:Tok} (g_QUOTE:PySem.W.nsIn K mainGlobals "QUOTE" = some (some (.str "\"" tk_QUOTE))) (n0:tk_QUOTE≠0) {f0:Addr} {od0 an0:Option Addr} {sl0:Array (Option Value)} {oc0 kV0 dc0 pm0 ct0:Value} (ca:PySem.W.nsIn K mainGlobals (nm .Bb)=some (some (.ref f0))) (cl:K.lookup f0=some ⟨oc0,od0,.func (fno .Bb kV0 dc0 pm0 an0 (.ref cc) ct0),sl0⟩):∃(A:Fx→Addr) (fd:Fx→FuncData),Md (wo Pt K) mg A fd∧A .law_=fa∧∀(s:Shared) (u:Value),BindsTo s (fd .law_) ⟨[u],[]⟩ [("script",u)]:=
 fin_mk X G hmg H (B8 T z_bool) (B8 T z_int) (B8 T z_isinstance) (B8 T z_len) (B8 T z_list) (B8 T z_min) (B8 T z_ord) (B8 T z_range) (B8 T z_str) (B8 T z_tuple) (B8 T g_FIGURES) (B8 T g_FIRST_SIGN) (B8 T g_LAST_SIGN) (B8 T g_MOST_FIGURES) (B8 T g_PERCENT_SIGN) (B8 T g_QUOTE) n0 (B8 T ca) (LD T cl)
theorem walk {l:PySem.W.OpenLaw} {q:Program} {loose:List Str} {XP:(Str→Option Value)→Heap→Prop} {as:List Addr} {sz tk:Nat} {d:DefRec} {K:Params→PySem.W.Frag} (m:Nat) (hm:Room m callerA) (hn:l.most=some 63) (hdf:d.params.defaults=[])
 (hE:∀P,as=(K P).map (·.1)) (hT:∀P:Params,Fi (wo Pt (K P))≤tk) (hP:∀P:Params,DQ (K P) Pt) (hC:∀P:Params,Ip (K P) cc Pt=true) (lt:∀ns:List Int,ns.length≤63→∃S',run m .law_ [.scr ns] [.tab Pt 103 36 lamD.qual]=some (.bl true,S'))
 (F:∀(w:World) (mg:Str→Option Value) (fa:Addr) (h:Heap),(wo Pt (K w.params)).In h→h.Ns mainGlobals mg→mg d.name=some (.ref fa)→
   ∃(A:Fx→Addr) (fd:Fx→FuncData),Md (wo Pt (K w.params)) mg A fd∧A .law_=fa∧∀(s:Shared) (u:Value),BindsTo s (fd .law_) ⟨[u],[]⟩ [("script",u)]) :
 PySem.W.WalkX q loose XP (PySem.W.X.obsZ as) (PySem.W.X.valZ K sz tk) l.row.toRowW d [] (fun f vs=>PySem.call f vs):=
 L2.P1 (c:=cc) (Pt:=Pt) (n:=63) (k:=m) (x:="script") (K:=fun P=>wo Pt (K P)) (CX:=fun _=>CX0) (sp:=fun w=>spF (wo Pt (K w.params)) (run m .law_)) hn (by decide) hdf hm (fun w s Y=>by obtain ⟨_,h2,_,h4⟩:=PySem.W.X.z_facts hE Y;exact ⟨Vj h2,by rw [h4];exact hT _,h2 _ _ (hP _),Nw h2 (hC _)⟩) (fun _=>Jf)
  (fun w mg fa h KX G hmg=>by obtain ⟨A,fd,M,e,b⟩:=F w mg fa h KX G hmg;subst e;exact ⟨fd .law_,b,fun base _ _ T=>(L4 M T m).1 .law_⟩)
  (fun w H a ns hl hO hP hS=>by obtain ⟨S',e⟩:=lt ns hl;exact MX hO hP hS e) fun _ _ _ _ _ z=>z
theorem Rg (k:Nat):OH (run (k + 1) .Bn):=Uy
theorem Gc (k:Nat):Fm (run (k + 2) .Aq):=P3 (Rg k)
theorem PP (k:Nat):Kn (run (k + 1) .BA):=MT
theorem PU (k:Nat):MC (run (k + 2) .Bm):=LK (PP k)
theorem G8:∀(n k:Nat),2 * n + 3≤k→FK (run k .Ba) n
 | 0,k,_=>fun s hs=>absurd s.depth_pos (by lia)
 | n + 1,k,h=>by
   obtain ⟨j,rfl⟩:∃j,k=j + 4:=⟨k - 4,by lia⟩
   have ih:=G8 n (j + 2) (by lia)
   exact SQ (JJ ih (Gc j)) (LJ ih) (LI ih) (PU (j + 1)) (Gc (j + 1))
theorem QI (k:Nat):Ke (run (k + 1) .Bc):=SE
theorem EG (k:Nat):DL (run (k + 1) .Am):=SF
theorem Mg (k:Nat):JY (run (k + 2) .A2):=Pd (QI k)
theorem RW (k:Nat):MA (run (k + 2) .Bo):=TC (EG k)
theorem R0 (k:Nat):Km (run (k + 2) .BH) lamD (IC (k + 1)):=RZ (EG k)
abbrev tau:Ob:=.tab Pt 103 36 lamD.qual
theorem LC:∀(n k:Nat),4 * n + 6≤k→WAt (run k .AJ) tau n
 | 0,k,_=>fun s v x p r S hs=>absurd s.depth_pos (by lia)
 | n + 1,k,h=>by
   obtain ⟨j,rfl⟩:∃j,k=j + 2 + 4:=⟨k - 6,by lia⟩
   have ih:=LC n (j + 2) (by lia)
   have ih2:=LC n (j + 2 + 2) (by lia)
   have hl:LAt (run (j + 2 + 3) .Bb) tau n:=NW (R0 (j + 2)) (EG (j + 2 + 1)) fun s q v x p r S h1 h2 h3 h4 h5 h6 h7=>Ra (ih s v x p r S h1 h2 h3 h4 h5 h6 h7)
   exact OG (LH (EG (j + 3)) ih2 (Gc (j + 2)) (Mg (j + 2))) (N5 (EG (j + 3)) ih2) hl (RW (j + 3)) (Mg (j + 3)) (EG (j + 4))
theorem TV (k:Nat) (h:40≤k):RdW (run k .AZ) tau:=by
 obtain ⟨j,rfl⟩:∃j,k=j + 1 + 1:=⟨k - 2,by lia⟩
 exact TW (G8 6 (j + 1) (by lia)) (LC 6 (j + 1) (by lia)) fun x=>OP
theorem Lh:∀(n k:Nat),n + 1≤k→ShowOk (run k .Ax) n
 | 0,k,_=>ShowOk.zero
 | n + 1,k,h=>by
   obtain ⟨j,rfl⟩:∃j,k=j + 1:=⟨k - 1,by lia⟩
   exact R9 (Lh n j (by lia))
theorem JE:∀(n k:Nat),n + 1≤k→ShowOk (run k .Av) n
 | 0,k,_=>ShowOk.zero
 | n + 1,k,h=>by
   obtain ⟨j,rfl⟩:∃j,k=j + 1:=⟨k - 1,by lia⟩
   exact P4 (JE n j (by lia))
theorem T7 (k:Nat) (h:30≤k):SVW (run k .A0) 6:=by
 obtain ⟨j,rfl⟩:∃j,k=j + 1:=⟨k - 1,by lia⟩
 exact T8 (Lh 6 j (by lia)) (G8 6 j (by lia))
theorem L3:∀(n k:Nat),n + 1≤k→AlkO (bq:=false) (run k .AO) n
 | 0,k,_=>AlkO.zero
 | n + 1,k,h=>by
   obtain ⟨j,rfl⟩:∃j,k=j + 1:=⟨k - 1,by lia⟩
   exact QE (L3 n j (by lia))
theorem Ms:∀(n k:Nat),n + 1≤k→SizO (run k .AQ) n
 | 0,k,_=>SizO.zero
 | n + 1,k,h=>by
   obtain ⟨j,rfl⟩:∃j,k=j + 1:=⟨k - 1,by lia⟩
   exact Sa (Ms n j (by lia))
theorem Mt:∀(n k:Nat),n + 1≤k→SpoO (run k .AX) n
 | 0,k,_=>SpoO.zero
 | n + 1,k,h=>by
   obtain ⟨j,rfl⟩:∃j,k=j + 1:=⟨k - 1,by lia⟩
   exact T4 (Mt n j (by lia))
theorem Oq (k:Nat) (h:50≤k):Kl (run k .AK) tau:=by
 obtain ⟨j,rfl⟩:∃j,k=j + 1:=⟨k - 1,by lia⟩
 exact Op (JE 6 j (by lia)) (TV j (by lia)) (L3 6 j (by lia)) (T7 j (by lia)) (Ms 7 j (by lia)) (Mt 6 j (by lia))
theorem F8 (k:Nat):PTakeT tau (run (k + 1) .Af):=Of
theorem Os:∀(n k:Nat),n + 3≤k→PShT tau (run k .AE) n
 | 0,k,_=>fun d k r S hd=>absurd hd (Nat.not_lt_zero _)
 | n + 1,k,h=>by
   obtain ⟨j,rfl⟩:∃j,k=j + 2:=⟨k - 2,by lia⟩
   exact RM (F8 j) (.inr (Os n (j + 1) (by lia)))
theorem Mw:∀(n k:Nat),n + 3≤k→J0 tau (run k .AD) n
 | 0,k,_=>fun s k r S hs=>absurd s.depth_pos (by lia)
 | n + 1,k,h=>by
   obtain ⟨j,rfl⟩:∃j,k=j + 2:=⟨k - 2,by lia⟩
   exact Py (F8 j) RL (.inr (Mw n (j + 1) (by lia)))
theorem Pq (k:Nat):Kk tau (run (k + 2) .A3):=Oa RB
theorem OR (k:Nat) (h:10≤k):Kh tau (run k .Bj):=by
 obtain ⟨j,rfl⟩:∃j,k=j + 1 + 1:=⟨k - 2,by lia⟩
 exact M4 (F8 j) (Os 3 (j + 1) (by lia))
theorem NM (k:Nat):Ii tau (run (k + 2) .A6):=O4 (F8 k)
theorem Rb (k:Nat) (hk:60≤k) (ns:List Int) (h:ns.length≤63):∃S',run k .law_ [.scr ns] [.tab Pt 103 36 lamD.qual]=some (.bl true,S'):=by
 obtain ⟨j,rfl⟩:∃j,k=j + 2 + 1:=⟨k - 3,by lia⟩
 obtain ⟨r,S',e,p⟩:=SY (S:=[tau]) (Mw 6 (j + 2) (by lia)) (Oq (j + 2) (by lia)) (OR (j + 2) (by lia)) (Pq j) (NM j) h rfl
 subst p
 have er:run (j + 2 + 1) .law_=fnOf 1 6 (Eo (run (j + 2) .AD) (run (j + 2) .AK) (run (j + 2) .Bj) (run (j + 2) .A3) (run (j + 2) .A6)):=rfl
 rw [er]
 exact ⟨S',e⟩
theorem law_true (ns:List Int) (h:ns.length≤63):∃S',run 100 .law_ [.scr ns] [.tab Pt 103 36 lamD.qual]=some (.bl true,S'):=Rb 100 (by decide) ns h
end K62
namespace PySem.W.Fast
def tw10024740337300799307:=0
def tw10189719863165770147:=0
def tw10217747704050150841:=0
def tw1033936232462881560:=0
def tw10707384622819061623:=0
def tw1077775574904026355:=0
def tw10778576210944032397:=0
def tw10809704063854362735:=0
def tw11047862727822496011:=0
def tw11149525886677148835:=0
def tw11172822384413177989:=0
def tw11190256193383693820:=0
def tw11192994824162382459:=0
def tw11214689015286583173:=0
def tw1123135910180926894:=0
def tw11235207413646377019:=0
def tw11246151436161722862:=0
def tw11545743448707880098:=0
def tw11556413401961918246:=0
def tw1157595622212783519:=0
def tw11632854626334280326:=0
def tw11666473950016375971:=0
def tw11712928634045445785:=0
def tw11740610038502948412:=0
def tw11773733342662733198:=0
def tw11838684080399974626:=0
def tw12013416851739824092:=0
def tw12120630145975575240:=0
def tw12147715460341883324:=0
def tw12208345677829439538:=0
def tw12229415052063365013:=0
def tw12333979008849124134:=0
def tw1241490519465455531:=0
def tw1251145166276254187:=0
def tw12516486058828127627:=0
def tw12571605647335591941:=0
def tw1264655623279850343:=0
def tw12712109792405009815:=0
def tw12812835496319685791:=0
def tw12824616670736669629:=0
def tw12919477717941467808:=0
def tw12961986092546117515:=0
def tw12997324616825882694:=0
def tw13028605974645834292:=0
def tw13038354281238255006:=0
def tw13158973065785949604:=0
def tw13322446422114224089:=0
def tw1344562869154758357:=0
def tw13451078804057225878:=0
def tw13530210703225899183:=0
def tw13567914653584459081:=0
def tw1357435549004800076:=0
def tw13604931108399670799:=0
def tw13631326597325643428:=0
def tw13731513230187574955:=0
def tw13835360004566827517:=0
def tw13863246899478494935:=0
def tw13925046816416809685:=0
def tw13964608462151354249:=0
def tw14058861504331900155:=0
def tw14230339654722038556:=0
def tw14314324021708291823:=0
def tw14346526019054721235:=0
def tw14371358776912346415:=0
def tw14421196891205800751:=0
def tw14486741896549063690:=0
def tw14495824106477533420:=0
def tw14526863117365712305:=0
def tw14553920601518723637:=0
def tw14611524014795755809:=0
def tw14663233140203705162:=0
def tw14728908067475292353:=0
def tw1521554333866623344:=0
def tw15344582923856208468:=0
def tw15419133383828388138:=0
def tw15759899357065798316:=0
def tw15834319176905673778:=0
def tw15904896092208649004:=0
def tw15908107763369644040:=0
def tw16000190682060448973:=0
def tw16000762927924926815:=0
def tw16067994826929968769:=0
def tw16080777568698890223:=0
def tw1620132410496443644:=0
def tw16257760872695312439:=0
def tw16337076249082097767:=0
def tw16364851356670727089:=0
def tw16439165375381480927:=0
def tw16467679284926410728:=0
def tw16558694141170797300:=0
def tw16593725808797665723:=0
def tw16648631587781743484:=0
def tw16734556231723563807:=0
def tw16748974471923302751:=0
def tw16973289635844960061:=0
def tw16981344278519641322:=0
def tw17104933323580436976:=0
def tw17147390787673398235:=0
def tw17204557767848972846:=0
def tw17215954908605024550:=0
def tw17242545215630234098:=0
def tw17356308615219314457:=0
def tw17394685484814807534:=0
def tw17451301072573307858:=0
def tw17484628051641702763:=0
def tw17519398645886286421:=0
def tw17628100739134206773:=0
def tw17695421390118942659:=0
def tw17728857756390259974:=0
def tw17833776635400562074:=0
def tw17906876938426965736:=0
def tw18156088425657691644:=0
def tw18235293484525277495:=0
def tw18304452582784349668:=0
def tw18334562504705497727:=0
def tw18400532035510148460:=0
def tw18428302805155475925:=0
def tw1878963223822876517:=0
def tw1942552365894549365:=0
def tw2065036980278957450:=0
def tw2094204339376242346:=0
def tw2097021561595843222:=0
def tw2131588473257768949:=0
def tw2186610914900567410:=0
def tw2205337788665703338:=0
def tw2232182674343719787:=0
def tw2234210237867483630:=0
def tw2272417462690466741:=0
def tw2297523998365230014:=0
def tw2404223404056302046:=0
def tw2420958577981367058:=0
def tw2464955652798216780:=0
def tw2572520646275762980:=0
def tw2644634366112786704:=0
def tw2696220553623575432:=0
def tw2719610260254646290:=0
def tw272529222683463533:=0
def tw2902144952053235781:=0
def tw2916199896890162504:=0
def tw2947403736362381838:=0
def tw3010299464257690371:=0
def tw3023819751928179112:=0
def tw3061898730515803830:=0
def tw3148265675731195463:=0
def tw3158861634231329695:=0
def tw3269171491856091122:=0
def tw3282381858594992575:=0
def tw3330114403753580983:=0
def tw350622438271683670:=0
def tw3620541448563801097:=0
def tw363096522589558285:=0
def tw3683852663808239434:=0
def tw3696266056570262374:=0
def tw3714430352117162386:=0
def tw3733793240464340330:=0
def tw3890699102352725025:=0
def tw3965478619234950308:=0
def tw399468062297081729:=0
def tw4225452154740274958:=0
def tw4390319880405185803:=0
def tw4404219276966982090:=0
def tw4423149738702040441:=0
def tw4482710194931465170:=0
def tw450310972816782806:=0
def tw4545412168168666734:=0
def tw4584072581792316899:=0
def tw458954746775578535:=0
def tw4606980330976558556:=0
def tw4701906862338840558:=0
def tw4740434773847019898:=0
def tw4743695238056923669:=0
def tw47458658036876151:=0
def tw4814635793162749665:=0
def tw4829533171044971393:=0
def tw4835457933560361310:=0
def tw4870941908008478662:=0
def tw4886841782706963726:=0
def tw5015801215771493747:=0
def tw5120164530598773847:=0
def tw5145415569498104619:=0
def tw523718468012041969:=0
def tw5238803643909740254:=0
def tw5420130665394254935:=0
def tw5445163542682545057:=0
def tw5459888630880181409:=0
def tw5589591196204153222:=0
def tw5657632983042515256:=0
def tw5756296834844090433:=0
def tw5768593369945858466:=0
def tw5771664026081291456:=0
def tw5835291251559847632:=0
def tw5836150586542742793:=0
def tw5912077338423478673:=0
def tw5943479521309877780:=0
def tw5976610506032087246:=0
def tw606465229191693147:=0
def tw6083898107758197467:=0
def tw6091659927909842724:=0
def tw6130305505884485917:=0
def tw6145971581336665035:=0
def tw6230858079514789824:=0
def tw6257516890681554974:=0
def tw6376338088692125353:=0
def tw6395830011316769039:=0
def tw6446042058999087043:=0
def tw6489199010904819576:=0
def tw6490699823988349441:=0
def tw661186654815545739:=0
def tw6618342713298486451:=0
def tw6646781637828997589:=0
def tw6706210186264272190:=0
def tw6734306390464135271:=0
def tw6872148522996307229:=0
def tw6874050619227667826:=0
def tw7018733290586752863:=0
def tw7055964228369251996:=0
def tw7139527465192131704:=0
def tw7153800601853358324:=0
def tw7224477722052603185:=0
def tw7350004840152431291:=0
def tw742430062982808321:=0
def tw7440381438184418142:=0
def tw7474554275819055564:=0
def tw7530441629678389748:=0
def tw7751668560075856708:=0
def tw7836197615941246039:=0
def tw7962721347427139488:=0
def tw7970991788153441022:=0
def tw8012340083021797259:=0
def tw8021988773180672694:=0
def tw8077666457506408432:=0
def tw8129414716781897624:=0
def tw817314085459010782:=0
def tw822637642627638439:=0
def tw8228500469253681569:=0
def tw8253634725757856666:=0
def tw831599627491160867:=0
def tw8418458716050461771:=0
def tw8558969789765457641:=0
def tw857565243527245086:=0
def tw8600384422036020383:=0
def tw8603234506140865331:=0
def tw8665883813075617911:=0
def tw8769332233860824717:=0
def tw878348797318003078:=0
def tw8797809614175565746:=0
def tw8823241726632330396:=0
def tw8984628932827852220:=0
def tw9086744828811793117:=0
def tw9123424440457049164:=0
def tw912517766467024771:=0
def tw9193017516972099294:=0
def tw9272584663804984632:=0
def tw9360775945500996388:=0
def tw9364500202323289474:=0
def tw9382334502931327546:=0
def tw9771415463221150453:=0
def tw9805898709600515416:=0
def tw9834925858619628668:=0
def tw9908757612555070156:=0
end PySem.W.Fast
open PySem PySem.W PyProof.Rows
set_option maxRecDepth 100000 in
set_option maxHeartbeats 0 in
theorem PySem.Challenge.cw_wireparley_k62_values_written_holds : PySem.Challenge.rw_wireparley_k62_values_written.Holds := by
 w_on;o_law;z_head;(case hw=>w_witness2)
 k_fill
 refine K62.walk (l:=PySem.Challenge.rw_wireparley_k62_values_written) 100 ⟨rfl,by decide,by decide⟩ rfl rfl (fun _=>rfl) ?T ?P ?C K62.law_true ?F
 case T=>
  intro P
  refine' L2.Sd (L2.B8 (by unfold L2.DQ;k_is) ?e) ?l
  (case e=>k_is)
  (case l=>decide)
 case P=>
  intro P
  unfold L2.DQ
  k_is
 case C=>
  intro P
  kernel_rfl
 case F=>
  intro w mg fa h KX G hmg
  refine' K62.QW (by unfold L2.DQ;k_is) KX G hmg ?H ?z_bool ?z_int ?z_isinstance ?z_len ?z_list ?z_min ?z_ord ?z_range ?z_str ?z_tuple ?g_FIGURES ?g_FIRST_SIGN ?g_LAST_SIGN ?g_MOST_FIGURES ?g_PERCENT_SIGN ?g_QUOTE ?n0 ?ca ?cl
  (case H=>intro x;cases x <;> (refine' K62.SD (by unfold L2.DQ;k_is) ?a ?l ?c;(case a=>k_is);(case l=>k_is);(case c=>k_is)))
  (case z_bool=>k_is)
  (case z_int=>k_is)
  (case z_isinstance=>k_is)
  (case z_len=>k_is)
  (case z_list=>k_is)
  (case z_min=>k_is)
  (case z_ord=>k_is)
  (case z_range=>k_is)
  (case z_str=>k_is)
  (case z_tuple=>k_is)
  (case g_FIGURES=>k_is)
  (case g_FIRST_SIGN=>k_is)
  (case g_LAST_SIGN=>k_is)
  (case g_MOST_FIGURES=>k_is)
  (case g_PERCENT_SIGN=>k_is)
  (case g_QUOTE=>k_is)
  (case n0=>decide)
  (case ca=>k_is)
  (case cl=>k_is)
