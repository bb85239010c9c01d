import PyProof.Rows.All
import Wide.All
import OpenK.AllK
import Wide.FinOn
import Lean
import PyProof.EqAt
import PyProof.EqKinds
import PyProof.TupleCall
import KE.KLam
import PyProof.NeKinds
import PyProof.ListMulRoad
import PyProof.MaxThree
import PyProof.Rows.StrJoinMade
import PyProof.ListStr
import PyProof.Rows.MinMaxN
import PyProof.Rows.Range3
import PyProof.ListRange
import PyProof.Rows.SetFrom
import PyProof.Rows.StrCase
import PyProof.SumAny
import PyProof.AutoIntG2
import PyProof.AutoListH
import PyProof.EnumStmt
import PyProof.EnumFor
import PyProof.EnumMake
import PyProof.Rows.EnumRows
import PyProof.ConsumeS
import PyProof.Rows.SortWalk
import KE.KDictSum
import PyProof.ZipIter
import KE.KEqDict
import PyProof.ExcClass2
import PyProof.RaisesMany
import PyProof.ExcBaseAll.ValueError
import PyProof.RulesDel
import PyProof.RulesAs
import PyProof.ExcArgs
import PyProof.StrReplace2
import PyProof.StrOps
import PyProof.StrCalls2
import PyProof.StrLawsReplace
import PyProof.Rows.StrWeight2
import PyProof.Rows.StrSplitJoin
import PyProof.Rows.StrItems
import KE.KIntText
import PyProof.Rows.StrNews2
import PyProof.Rows.StrRules
import OpenK.KCell
import PyProof.MeetsStr3
import PyProof.StrLawsIn
import PyProof.Rows.StrClose
import KE.IntTextLaws
import PyProof.StrLawsTight
import PyProof.StrLawsLast
import PyProof.StrLawsFrom
import PySem.Challenge.RW_wireparley_k63_grammars_written
set_option bootstrap.genMatcherCode false
set_option genSizeOf false
noncomputable section
set_option Elab.async false
set_option linter.all false
set_option maxRecDepth 100000
namespace L2
open PySem PySem.Spec PyProof.Rows
abbrev Key:=Sum Int Str
def Hf:Key→Value→Bool
 | .inl k,v=>Value.isInt k v
 | .inr x,v=>Value.isStrOf x v
def Xn (w:World):Key→Int
 | .inl k=>hashInt k
 | .inr x=>hashStr w x
theorem Cb:∀{k:Key} {v:Value},Hf k v=true→(∃i t,k=Sum.inl i∧v=Value.int i t)∨(∃x t,k=Sum.inr x∧v=Value.str x t)
 | .inl i,v,h=>by
   obtain ⟨t,e⟩:=Value.isInt_shape (k:=i) (v:=v) h
   exact .inl ⟨i,t,rfl,e⟩
 | .inr x,v,h=>by
   obtain ⟨t,e⟩:=Value.isStrOf_shape (x:=x) (v:=v) h
   exact .inr ⟨x,t,rfl,e⟩
theorem Pe (i:Int) (t:Tok):Hf (.inl i) (.int i t)=true:=by simp [Hf,Value.isInt]
theorem Pf (x:Str) (t:Tok):Hf (.inr x) (.str x t)=true:=by simp [Hf,Value.isStrOf]
theorem UP (a b:Int):decide ((Sum.inl a:Key)=Sum.inl b)=(a == b):=by
 by_cases e:a=b
 ·subst e;simp
 ·have h:¬(Sum.inl a:Key)=Sum.inl b:=fun q=>e (Sum.inl.inj q)
  rw [decide_eq_false h]
  exact (beq_eq_false_iff_ne.mpr e).symm
theorem US (a b:Str):decide ((Sum.inr a:Key)=Sum.inr b)=decide (a=b):=by
 by_cases e:a=b
 ·subst e;simp
 ·have h:¬(Sum.inr a:Key)=Sum.inr b:=fun q=>e (Sum.inr.inj q)
  rw [decide_eq_false h,decide_eq_false e]
theorem UQ (a:Int) (b:Str):decide ((Sum.inl a:Key)=Sum.inr b)=false:=decide_eq_false (fun q=>nomatch q)
theorem UR (a:Str) (b:Int):decide ((Sum.inr a:Key)=Sum.inl b)=false:=decide_eq_false (fun q=>nomatch q)
def Dk (prog:Program) (w:World):PySem.KeyKind prog w Key where
 is:=Hf
 hash:=Xn w
 inj:=fun v a b ha hb=>by
  rcases Cb ha with ⟨i,t,rfl,rfl⟩ | ⟨x,t,rfl,rfl⟩
  ·rcases Cb hb with ⟨j,u,rfl,e⟩ | ⟨y,u,rfl,e⟩
   ·injection e with e1 _;rw [e1]
   ·exact nomatch e
  ·rcases Cb hb with ⟨j,u,rfl,e⟩ | ⟨y,u,rfl,e⟩
   ·exact nomatch e
   ·injection e with e1 _;rw [e1]
 byValue:=fun k v h=>by
  rcases Cb h with ⟨i,t,rfl,rfl⟩ | ⟨x,t,rfl,rfl⟩ <;> rfl
 pyHash:=fun hv h=>by
  rcases Cb hv with ⟨i,t,rfl,rfl⟩ | ⟨x,t,rfl,rfl⟩
  ·exact wpAny_pyHash_int h
  ·exact wpAny_pyHash_str h
 eqBool:=fun hu hv h=>by
  rcases Cb hu with ⟨i,t,rfl,rfl⟩ | ⟨x,t,rfl,rfl⟩
  ·rcases Cb hv with ⟨j,u,rfl,rfl⟩ | ⟨y,u,rfl,rfl⟩
   ·rw [UP] at h;exact wpAny_eqBool_int h
   ·rw [UQ] at h;exact SeqAt.EqAt.int_str i t y u _ _ _ _ h
  ·rcases Cb hv with ⟨j,u,rfl,rfl⟩ | ⟨y,u,rfl,rfl⟩
   ·rw [UR] at h;exact SeqAt.EqAt.str_int x t j u _ _ _ _ h
   ·rw [US] at h;exact wpAny_eqBool_str h
 «strs»:=fun k x t v h=>by
  rcases Cb h with ⟨i,u,rfl,e⟩ | ⟨y,u,rfl,e⟩
  ·exact nomatch e
  ·injection e with e1 _
   subst e1
   cases v <;> rfl
theorem MF (prog:Program) (w:World) (i:Int) (t:Tok):(Dk prog w).is (.inl i) (.int i t)=true:=Pe i t
theorem MG (prog:Program) (w:World) (x:Str) (t:Tok):(Dk prog w).is (.inr x) (.str x t)=true:=Pf x t
inductive V where
 | non | bl (b:Bool) | int (i:Int) | str (x:Str) | byt (b:Array UInt8) | flt (b:UInt64) | ref (a:Addr) | ty (n:String)
 deriving DecidableEq
def RelV:V→Value→Prop
 | .non,u=>u=Value.none
 | .bl b,u=>u=Value.bool b
 | .int i,u=>∃t,u=Value.int i t
 | .str x,u=>∃t,u=Value.str x t
 | .byt b,u=>∃t,u=Value.bytes b t
 | .flt b,u=>∃t,u=Value.float b t
 | .ref a,u=>u=Value.ref a
 | .ty n,u=>u=Value.type n
abbrev Vals:List V→List Value→Prop:=Paired RelV
theorem Vals.length {xs:List V} {us:List Value} (r:Vals xs us):xs.length=us.length:=Paired.length r
theorem Vals.get:∀{xs:List V} {us:List Value} {i:Nat} {x:V},Vals xs us→xs[i]?=some x→∃u,us[i]?=some u∧RelV x u
 | _,_,_,_,.nil,e=>by simp at e
 | _,_,0,_,.cons r _,e=>by simp at e;subst e;exact ⟨_,rfl,r⟩
 | _,_,i + 1,x,.cons _ t,e=>by
   obtain ⟨u,h1,h2⟩:=Vals.get (i:=i) (x:=x) t (by simpa using e)
   exact ⟨u,by simpa using h1,h2⟩
theorem Vals.set {x:V} {u:Value} (r:RelV x u):∀{xs:List V} {us:List Value} (i:Nat),Vals xs us→Vals (xs.set i x) (us.set i u)
 | _,_,_,.nil=>.nil
 | _,_,0,.cons _ t=>.cons r t
 | _,_,i + 1,.cons q t=>.cons q (Vals.set r i t)
theorem Vals.append:∀{xs ys:List V} {us ws:List Value},Vals xs us→Vals ys ws→Vals (xs++ys) (us++ws)
 | _,_,_,_,.nil,s=>s
 | _,_,_,_,.cons r t,s=>.cons r (Vals.append t s)
theorem Vals.take:∀{xs:List V} {us:List Value} (n:Nat),Vals xs us→Vals (xs.take n) (us.take n)
 | _,_,0,_=>.nil
 | _,_,_ + 1,.nil=>.nil
 | _,_,n + 1,.cons r t=>.cons r (Vals.take n t)
theorem Vals.drop:∀{xs:List V} {us:List Value} (n:Nat),Vals xs us→Vals (xs.drop n) (us.drop n)
 | _,_,0,r=>r
 | _,_,_ + 1,.nil=>.nil
 | _,_,n + 1,.cons _ t=>Vals.drop n t
def RelO:Option V→Option Value→Prop
 | some v,some u=>RelV v u
 | none,none=>True
 | _,_=>False
def KV {κ:Type}:List (κ×V)→List (κ×Value)→Prop:=Paired fun (p:κ×V) (q:κ×Value)=>p.1=q.1∧RelV p.2 q.2
def kV:Key→V
 | .inl i=>.int i
 | .inr x=>.str x
inductive HO where
 /-- a list -/
 | lst (xs:List V)
 /-- a tuple (never changes) -/
 | tup (xs:List V)
 /-- a dict whose keys are ints and texts;one whose keys are tuples of ints and texts (the empty one is both) -/
 | dK (kvs:List (Key×V)) | dT (kvs:List (List Key×V))
 /-- a set of ints: its members,its size -/
 | set (S:Int→Bool) (n:Nat)
 /-- an instance of the class at C,its dict at dx,its attributes -/
 | ins (C dx:Addr) (fs:List (Str×V))
 /-- the dict of the instance at x -/
 | own (x:Addr)
 /-- the dict of an exception -/
 | xd (fs:List (Str×V))
 /-- a bound method,f of x -/
 | met (f x:Addr)
 /-- a range object lo,lo + 1,.. below hi -/
 | rng (lo hi:Int)
 /-- a thing that is known to the object (the script;a dict while a loop walks it): read,never written while it is so -/
 | frz (o:Obj) (u:HO)
 /-- a code object's table -/
 | tbl (ps:Array Value)
 /-- any other thing,by what is true of its one object (a def of one's own: SetO a S n:=HO.ext fun h=>..) -/
 | ext (φ:Heap→Prop)
abbrev Hp:=Addr→Option HO
def upd (H:Hp) (a:Addr) (o:HO):Hp:=fun b=>if b=a then some o else H b
theorem AN {H:Hp} {a:Addr} {o:HO}:upd H a o a=some o:=by unfold upd;rw [if_pos rfl]
theorem Ar {H:Hp} {a b:Addr} {o:HO} (h:b≠a):upd H a o b=H b:=by unfold upd;rw [if_neg h]
theorem Bj {H:Hp} {a b:Addr} {o:HO} (h:H a=some o) (h':H b=none):a≠b:=by
 intro e;subst e;rw [h] at h';cases h'
section
variable (P:Program) (w:World)
def ObjOk (H:Hp) (h:Heap) (a:Addr):HO→Prop
 | .lst xs=>xs.length≤sizeLine∧∃(its:List Value) (n:Nat),Vals xs its∧h.get? a=some { cls:=.type "list",data:=.seq its.toArray n }
 | .tup xs=>xs.length≤sizeLine∧∃its:List Value,Vals xs its∧IsTup h a its.toArray
 | .dK kvs=>kvs.length≤sizeLine∧(a == sysModules)=false∧∃vs,KV kvs vs∧h.DictOf (Dk P w) a vs
 | .dT kvs=>kvs.length≤sizeLine∧(a == sysModules)=false∧∃xs:List (List Key×Addr×Value),
    Paired (fun (p:List Key×V) (q:List Key×Addr×Value)=>p.1=q.1∧H q.2.1=some (.tup (p.1.map kV))∧RelV p.2 q.2.2) kvs xs∧
    ∃o es ep,h.get? a=some o∧o.ExactDict∧o.data = .dict es ep∧es.toList=xs.map (entryOfKey (tupleKind (Dk P w)))∧(xs.map (·.1)).Nodup
 | .set S n=>h.SetOf (intKind P w) a S n
 | .ins C dx fs=>H dx=some (.own a)∧fs.length≤1000∧dx≠a∧h.get? a=some (PySem.W.instObj C dx)∧
    ∃mA,h.Ns1 dx mA∧(∀f,RelO (fs.lookup f) (mA f))∧PySem.Within mA (fs.map (·.1))
 | .own _=>∃o,h.get? a=some o
 | .xd fs=>∃mA,h.Ns1 a mA∧∀f,RelO (fs.lookup f) (mA f)
 | .rng lo hi=>∃t u v,h.get? a=some { cls:=.type "range",data:=.fields #[.int lo t,.int hi u,.int 1 v] }
 | .frz o u=>h.get? a=some o∧ObjOk H h a u
 | .tbl ps=>h.get? a=some { cls:=.none,data:=.fields ps }
 | .met f x=>h.get? a=some (PySem.W.methodObj (.ref f) (.ref x))
 | .ext φ=>φ h∧(∃o,h.get? a=some o)∧∀h1 h2:Heap,φ h1→(∀o,h1.get? a=some o→h2.get? a=some o)→φ h2
def HOk (H:Hp) (h:Heap):Prop:=∀a o,H a=some o→ObjOk P w H h a o
end
section
variable {P:Program} {w:World} {H H':Hp} {h h':Heap} {a:Addr} {o:HO}
theorem ObjOk.lt (x:ObjOk P w H h a o):a < h.objs.size:=by
 cases o with
 | lst xs=>obtain ⟨_,_,_,_,e⟩:=x;exact Heap.lt_size e
 | tup xs=>obtain ⟨_,_,_,p⟩:=x;exact p.lt
 | dK kvs=>obtain ⟨_,_,_,_,o,_,_,e,_⟩:=x;exact Heap.lt_size e
 | dT kvs=>obtain ⟨_,_,_,_,o,_,_,e,_⟩:=x;exact Heap.lt_size e
 | set S n=>obtain ⟨o,_,_,_,e,_⟩:=x;exact Heap.lt_size e
 | ins C dx fs=>obtain ⟨_,_,_,e,_⟩:=x;exact Heap.lt_size e
 | own y=>obtain ⟨_,e⟩:=x;exact Heap.lt_size e
 | xd fs=>obtain ⟨_,⟨_,_,_,e,_⟩,_⟩:=x;exact Heap.lt_size e
 | rng lo hi=>obtain ⟨_,_,_,e⟩:=x;exact Heap.lt_size e
 | frz ob u=>obtain ⟨e,_⟩:=x;exact Heap.lt_size e
 | tbl ps=>exact Heap.lt_size (show h.get? a=some _ from x)
 | met f y=>exact Heap.lt_size (show h.get? a=some _ from x)
 | ext φ=>obtain ⟨_,⟨_,e⟩,_⟩:=x;exact Heap.lt_size e
theorem Paired.mapP {α β:Type} {F G:α→β→Prop}:∀{l₁:List α} {l₂:List β},Paired F l₁ l₂→(∀a b,F a b→G a b)→Paired G l₁ l₂
 | _,_,.nil,_=>.nil
 | _,_,.cons r t,f=>.cons (f _ _ r) (Paired.mapP t f)
theorem ObjOk.stay (x:ObjOk P w H h a o) (k:∀b u,(b=a∨H b=some (.own a))→h.get? b=some u→h'.get? b=some u)
 (ho:∀b,H b=some (.own a)→H' b=some (.own a)) (ht:∀b xs,H b=some (.tup xs)→H' b=some (.tup xs)):ObjOk P w H' h' a o:=by
 induction o with
 | lst xs=>obtain ⟨z,its,n,r,e⟩:=x;exact ⟨z,its,n,r,k _ _ (.inl rfl) e⟩
 | tup xs=>obtain ⟨z,its,r,ob,e,c⟩:=x;exact ⟨z,its,r,ob,k _ _ (.inl rfl) e,c⟩
 | dK kvs=>obtain ⟨z,y,vs,r,ob,es,ep,e,c⟩:=x;exact ⟨z,y,vs,r,ob,es,ep,k _ _ (.inl rfl) e,c⟩
 | dT kvs=>
   obtain ⟨z,y,xs,r,ob,es,ep,e,c⟩:=x
   exact ⟨z,y,xs,Paired.mapP r fun p q z=>⟨z.1,ht _ _ z.2.1,z.2.2⟩,ob,es,ep,k _ _ (.inl rfl) e,c⟩
 | set S n=>obtain ⟨ob,es,ep,t,e,c⟩:=x;exact ⟨ob,es,ep,t,k _ _ (.inl rfl) e,c⟩
 | ins C dx fs=>
   obtain ⟨d,z,ne,e,mA,⟨od,es,ep,e2,c⟩,r⟩:=x
   exact ⟨ho _ d,z,ne,k _ _ (.inl rfl) e,mA,⟨od,es,ep,k _ _ (.inr d) e2,c⟩,r⟩
 | own y=>obtain ⟨ob,e⟩:=x;exact ⟨ob,k _ _ (.inl rfl) e⟩
 | xd fs=>obtain ⟨mA,⟨od,es,ep,e,c⟩,r⟩:=x;exact ⟨mA,⟨od,es,ep,k _ _ (.inl rfl) e,c⟩,r⟩
 | rng lo hi=>obtain ⟨t,u,v,e⟩:=x;exact ⟨t,u,v,k _ _ (.inl rfl) e⟩
 | frz ob u ih=>obtain ⟨e,q⟩:=x;exact ⟨k _ _ (.inl rfl) e,ih q⟩
 | tbl ps=>
   have e:h.get? a=some { cls:=.none,data:=.fields ps }:=x
   show h'.get? a=some { cls:=.none,data:=.fields ps }
   exact k a _ (.inl rfl) e
 | met f y=>
   have e:h.get? a=some (PySem.W.methodObj (.ref f) (.ref y)):=x
   show h'.get? a=some (PySem.W.methodObj (.ref f) (.ref y))
   exact k a _ (.inl rfl) e
 | ext φ=>obtain ⟨p,⟨o,e⟩,st⟩:=x;exact ⟨st _ _ p fun o q=>k _ _ (.inl rfl) q,⟨o,k _ _ (.inl rfl) e⟩,st⟩
theorem HOk.lt (x:HOk P w H h) (e:H a=some o):a < h.objs.size:=(x a o e).lt
theorem HOk.fresh (x:HOk P w H h) (e:h.objs.size≤a):H a=none:=by
 cases q:H a with
 | none=>rfl
 | some u=>exact absurd (Nat.lt_of_lt_of_le (x.lt q) e) (Nat.lt_irrefl _)
theorem HOk.kept (x:HOk P w H h) (k:∀b u,h.get? b=some u→h'.get? b=some u):HOk P w H h':=fun a o e=>
 (x a o e).stay (fun b u _ q=>k b u q) (fun _ q=>q) fun _ _ q=>q
theorem HOk.laid (x:HOk P w H h) (k:∀b u,h.get? b=some u→h'.get? b=some u) (hp:h.objs.size≤a) (new:ObjOk P w (upd H a o) h' a o):HOk P w (upd H a o) h':=fun b u e=>by
 have hn:=x.fresh hp
 by_cases hb:b=a
 ·subst hb;rw [AN] at e;cases e;exact new
 ·rw [Ar hb] at e
  exact (x b u e).stay (fun c v _ q=>k c v q) (fun c q=>by rw [Ar (Bj q hn)];exact q) fun c xs q=>by rw [Ar (Bj q hn)];exact q
end
def Rd (H:Hp) (a:Addr) (u:HO):Prop:=H a=some u∨∃o,H a=some (.frz o u)
theorem Rd.ok {P:Program} {w:World} {H:Hp} {h:Heap} {a:Addr} {u:HO} (r:Rd H a u) (x:HOk P w H h):ObjOk P w H h a u:=by
 rcases r with r | ⟨o,r⟩
 ·exact x a u r
 ·obtain ⟨_,q⟩:=x a _ r
  exact q
def Mut:Option HO→Prop
 | some (.lst _)=>True
 | some (.dK _)=>True
 | some (.dT _)=>True
 | some (.set _ _)=>True
 | some (.ins _ _ _)=>True
 | some (.ext _)=>True
 | _=>False
section
variable {P:Program} {w:World} {H:Hp} {h h':Heap} {x e:Addr} {o':HO}
theorem HOk.write (ok:HOk P w H h) (mu:Mut (H x)) (he:e=x∨H e=some (.own x)) (k:∀b u,b≠e→h.get? b=some u→h'.get? b=some u) (heo:∃u,h'.get? e=some u)
 (new:ObjOk P w (upd H x o') h' x o'):HOk P w (upd H x o') h':=fun b u q=>by
 have nown:∀c y,H c=some (.own y)→c≠x:=fun c y r z=>by subst z;rw [r] at mu;exact mu
 have ntup:∀c xs,H c=some (.tup xs)→c≠x:=fun c xs r z=>by subst z;rw [r] at mu;exact mu
 by_cases hb:b=x
 ·subst hb;rw [AN] at q;cases q;exact new
 ·rw [Ar hb] at q
  by_cases hbe:b=e
  ·have q':H b=some (.own x):=by
    rcases he with z | z
    ·exact absurd (hbe.trans z) hb
    ·rw [hbe];exact z
   rw [q] at q';cases q'
   obtain ⟨v,hv⟩:=heo
   exact ⟨v,by rw [hbe];exact hv⟩
  ·refine (ok b u q).stay (fun c v hc r=>k c v ?_ r) (fun c r=>by rw [Ar (nown c b r)];exact r) fun c xs r=>by rw [Ar (ntup c xs r)];exact r
   rcases hc with rfl | hc
   ·exact hbe
   ·rintro rfl
    rcases he with z | z
    ·exact nown c b hc z
    ·rw [hc] at z;cases z;exact hb rfl
end
structure Un (fs ex:List Addr) (H H':Hp) (h h':Heap):Prop where
 keep:∀b o,h.get? b=some o→H b=none→b∉fs→b∉ex→h'.get? b=some o
 slot:∀b o,h.get? b=some o→H b=none→b∈fs→b∉ex→∃sl,h'.get? b=some { o with slots:=sl }
 free:∀b o,h.get? b=some o→H b=none→b∉ex→H' b=none
 there:∀b o,h.get? b=some o→b∉ex→∃o',h'.get? b=some o'
 tups:∀b xs,H b=some (.tup xs)→H' b=some (.tup xs)
 frzs:∀b o u,H b=some (.frz o u)→H' b=some (.frz o u)
 tbls:∀b ps,H b=some (.tbl ps)→∃more,H' b=some (.tbl (ps++more))
section
variable {fs fs' ex ex':List Addr} {H H1 H2:Hp} {h h1 h2 h':Heap} {a x e:Addr} {o:HO}
theorem Un.any (u:Un fs ex H H1 h h1) {b:Addr} {ob:Obj} (q:h.get? b=some ob) (n:H b=none) (hx:b∉ex):∃sl,h1.get? b=some { ob with slots:=sl }:=by
 by_cases hb:b∈fs
 ·exact u.slot b ob q n hb hx
 ·exact ⟨ob.slots,u.keep b ob q n hb hx⟩
theorem Un.kept (k:∀b u,h.get? b=some u→h'.get? b=some u):Un fs ex H H h h':=
 ⟨fun b ob q _ _ _=>k b ob q,fun b ob q _ _ _=>⟨ob.slots,k b ob q⟩,fun _ _ _ n _=>n,fun b ob q _=>⟨ob,k b ob q⟩,fun _ _ q=>q,fun _ _ _ q=>q,fun _ ps q=>⟨#[],by rw [q];simp⟩⟩
theorem Un.refl:Un fs ex H H h h:=Un.kept fun _ _ q=>q
theorem Un.laid (k:∀b u,h.get? b=some u→h'.get? b=some u) (hp:h.objs.size≤a) (hn:H a=none):Un fs ex H (upd H a o) h h' where
 keep:=fun b u q _ _ _=>k b u q
 slot:=fun b u q _ _ _=>⟨u.slots,k b u q⟩
 free:=fun b u q n _=>by rw [Ar (Nat.ne_of_lt (Nat.lt_of_lt_of_le (Heap.lt_size q) hp))];exact n
 there:=fun b u q _=>⟨u,k b u q⟩
 tups:=fun b xs q=>by rw [Ar (Bj q hn)];exact q
 frzs:=fun b u xs q=>by rw [Ar (Bj q hn)];exact q
 tbls:=fun b ps q=>⟨#[],by rw [Ar (Bj q hn),q];simp⟩
theorem Un.write (mu:Mut (H x)) (he:e=x∨H e=some (.own x)) (k:∀b u,b≠e→h.get? b=some u→h'.get? b=some u) (heo:∃u,h'.get? e=some u):Un fs ex H (upd H x o) h h':=by
 have hx:∀b,H b=none→b≠x:=fun b n z=>by subst z;rw [n] at mu;exact mu
 have hb:∀b,H b=none→b≠e:=fun b n z=>by
  subst z
  rcases he with r | r
  ·exact hx b n r
  ·rw [n] at r;cases r
 have hm:∀b u,H b=some u→¬Mut (some u)→b≠x:=fun b u q nm z=>by subst z;rw [q] at mu;exact nm mu
 refine ⟨fun b u q n _ _=>k b u (hb b n) q,fun b u q n _ _=>⟨u.slots,k b u (hb b n) q⟩,fun b u q n _=>by rw [Ar (hx b n)];exact n,fun b u q _=>?_,
  fun b xs q=>by rw [Ar (hm b _ q fun z=>z)];exact q,fun b u xs q=>by rw [Ar (hm b _ q fun z=>z)];exact q,fun b ps q=>⟨#[],by rw [Ar (hm b _ q fun z=>z),q];simp⟩⟩
 by_cases hbe:b=e
 ·subst hbe;exact heo
 ·exact ⟨u,k b u hbe q⟩
end
def trk (h:Heap) (H:Hp):List Addr:=(List.range h.objs.size).filter fun a=>(H a).isSome
def FN (h:Heap) (H:Hp):Heap:=PySem.W.hideAll h (trk h H)
theorem O6 (h:Heap) (H:Hp):(FN h H).objs.size=h.objs.size:=PySem.W.hideAll_size _ _
theorem QB {h:Heap} {H:Hp} {b:Addr} {o:Obj} (e:h.get? b=some o) (n:H b=none):(FN h H).get? b=some o:=
 PySem.W.hideAll_get _ e fun hm=>by
  have q:(H b).isSome=true:=(List.mem_filter.mp hm).2
  rw [n] at q;simp at q
theorem Tg {h:Heap} {H:Hp} {b:Addr} {o:Obj} (e:(FN h H).get? b=some o):h.get? b=some o∧H b=none:=by
 have e':h.get? b=some o:=PySem.W.of_hideAll (trk h H) e
 refine ⟨e',?_⟩
 cases q:H b with
 | none=>rfl
 | some x=>
   have hm:b∈trk h H:=List.mem_filter.mpr ⟨List.mem_range.mpr (Heap.lt_size e'),by simp [q]⟩
   have z:(FN h H).get? b=none:=PySem.W.hideAll_none (trk h H) hm
   rw [z] at e;cases e
def Sn (g h:Heap) (L:Addr):List (Addr×Obj):=(List.range h.objs.size).filterMap fun a=>if a=L∨(g.get? a).isSome=true then none else (h.get? a).map fun o=>(a,o)
def rest (g h:Heap) (L d:Addr):List (Addr×Obj):=(Sn g h L).filter fun p=>decide (p.1≠d)
structure Mod (K:PySem.W.Frag) (mg:Str→Option Value) (base:Heap):Prop where
 kin:K.In base
 glob:base.Ns mainGlobals mg
 blt:∃mb,base.Ns builtinsNs mb∧∀x:Str,x≠"__name__"→mb x=bootBuiltins x
 nolimit:base.NoLimit
structure Cx where
 prog:Program
 w:World
 K:PySem.W.Frag
 mg:Str→Option Value
 base:Heap
 A:Around
 N:List Str
 s₀:Shared
 H₀:Hp
 env:Env
 outer:List Env
 stack:List Env
 ex:List Addr
 fn:Str→Bool
 calm:Bool
 pn:List (Addr×Obj)
 xe:Value→Shared→Prop
def frs (l:List Env):List Addr:=l.filterMap (·.frame)
abbrev Cx.fs (X:Cx):List Addr:=frs X.outer
def Vis (sc:Scope) (x:Str):Prop:=sc.names.lookup x=some .local∨sc.names.lookup x=some .cell∨sc.names.lookup x=some .free
def Ep:List Str:=["text", "depth", "s"]
def Loc (sc:Scope) (x:Str):Prop:=sc.names.lookup x=some .local∨(sc.names.lookup x=some .cell∧x∉Ep)
def W3 (env:Env) (h:Heap) (m:Str→Option Value) (x:Str) (u:Value):Prop:=
 (env.kindOf x=some .local∧m x=some u)∨((env.kindOf x=some .cell∨env.kindOf x=some .free)∧∃c,env.cells.lookup x=some c∧h.IsCell c (some u))
structure Cx.Ok (X:Cx):Prop where
 mod:Mod X.K X.mg X.base
 kind:X.env.scope.kind = .function
 glob:X.env.globals=mainGlobals
 blt:X.env.builtins=builtinsNs
 above:X.s₀.heap.objs.size≤X.env.locals
 inj:∀x y c,X.env.cells.lookup x=some c→X.env.cells.lookup y=some c→x=y
 has:∀x,(X.env.kindOf x=some .cell∨X.env.kindOf x=some .free)→∃c,X.env.cells.lookup x=some c
 cab:∀x c,X.fn x=true→X.env.cells.lookup x=some c→X.s₀.heap.objs.size≤c
 hd:X.calm=true→X.A.handled=none
 frames:X.A.frames=some X.stack
 stk:X.stack=X.outer∨(X.stack=X.env :: X.outer∧X.env.frame=some X.env.locals)
 exf:∀b∈X.ex,b≠X.env.locals∧∀x c,X.env.cells.lookup x=some c→c≠b
 bs:∀b o,X.base.get? b=some o→X.s₀.heap.get? b=some o∧X.H₀ b=none
 bsz:X.base.objs.size≤X.s₀.heap.objs.size
 noex:∀b o,X.base.get? b=some o→b∉X.ex
 exfs:∀b∈X.ex,b∉X.fs
 funs:X.s₀.heap.FunFrames X.base X.outer
 frf:∀b∈X.fs,X.H₀ b=none
def Ge (K:PySem.W.Frag):Nat:=match PySem.W.nsIn K mainGlobals "QUOTE" with
 | some (some (.str _ t))=>t + 1
 | _=>0
structure Inv (X:Cx) (pins:List (Addr×Obj)) (σ:List (Option V)) (H:Hp) (s:Shared):Prop where
 ok:X.Ok
 os:s.os=X.s₀.os
 bare:AllBare s.gens
 base:Un X.fs X.ex X.H₀ H X.s₀.heap s.heap
 loc:∃m,s.heap.Ns X.env.locals m∧∀(i:Nat) (x:Str) (v:V),X.N[i]?=some x→σ[i]?=some (some v)→Vis X.env.scope x→∃u,RelV v u∧W3 X.env s.heap m x u
 cell:∀x c,X.env.cells.lookup x=some c→∃v,s.heap.IsCell c v
 free:H X.env.locals=none
 freeC:∀x c,X.env.cells.lookup x=some c→H c=none∨(x∈Ep∧∃o u,H c=some (.frz o u))
 pin:∀p∈X.pn++pins,s.heap.get? p.1=some p.2∧H p.1=none∧p.1≠X.env.locals∧p.1∉X.fs∧∀v,p.2.data≠.cell v
 hok:HOk X.prog X.w H s.heap
 len:σ.length=X.N.length
 tk:Ge X.K≤s.toks
section
variable {X:Cx} {pins:List (Addr×Obj)} {σ:List (Option V)} {H H':Hp} {s:Shared} {h':Heap}
theorem Cx.Ok.nofr (ok:X.Ok) {b:Addr} {o:Obj} (e:X.base.get? b=some o):b∉X.fs:=fun hb=>by
 have:=(ok.funs.mem hb).1
 rw [e] at this;cases this
theorem Inv.bs (I:Inv X pins σ H s):∀b o,X.base.get? b=some o→s.heap.get? b=some o∧H b=none:=fun b o e=>
 ⟨I.base.keep b o (I.ok.bs b o e).1 (I.ok.bs b o e).2 (I.ok.nofr e) (I.ok.noex b o e),I.base.free b o (I.ok.bs b o e).1 (I.ok.bs b o e).2 (I.ok.noex b o e)⟩
theorem Inv.bk (I:Inv X pins σ H s):∀b o,X.base.get? b=some o→s.heap.get? b=some o:=fun b o e=>(I.bs b o e).1
theorem Inv.mod (I:Inv X pins σ H s):Mod X.K X.mg X.base:=I.ok.mod
theorem Inv.kIn (I:Inv X pins σ H s):X.K.In s.heap:=I.ok.mod.kin.keeps I.bk
theorem Inv.lt (I:Inv X pins σ H s):X.env.locals < s.heap.objs.size:=let ⟨_,hn,_⟩:=I.loc;hn.lt
theorem Inv.sz (I:Inv X pins σ H s):X.s₀.heap.objs.size≤s.heap.objs.size:=Nat.le_trans I.ok.above (Nat.le_of_lt I.lt)
theorem Inv.nofs (I:Inv X pins σ H s) {a:Addr} (h:s.heap.objs.size≤a):a∉X.fs:=fun hb=>by
 obtain ⟨_,o,ho,_⟩:=I.ok.funs.mem hb
 exact absurd (Nat.lt_of_lt_of_le (Heap.lt_size ho) (Nat.le_trans I.sz h)) (Nat.lt_irrefl _)
theorem Inv.cne (I:Inv X pins σ H s):∀x c,X.env.cells.lookup x=some c→c≠X.env.locals:=fun x c e z=>by
 obtain ⟨v,o,ho,hd⟩:=I.cell x c e
 obtain ⟨m,⟨o',es,ep,ho',hd',_⟩,_⟩:=I.loc
 rw [z,ho'] at ho;cases ho;rw [hd'] at hd;cases hd
theorem Inv.funs (I:Inv X pins σ H s):s.heap.FunFrames X.base X.outer:=by
 have all:∀(l:List Env),(∀b∈frs l,b∈X.fs)→X.s₀.heap.FunFrames X.base l→s.heap.FunFrames X.base l:=by
  intro l
  induction l with
  | nil=>intro _ _;trivial
  | cons env r ih=>
    intro hs hl
    obtain ⟨hk,⟨L,o,hf,hn,ho,hd⟩,hr⟩:=hl
    have hL:L∈X.fs:=hs L (by unfold frs;rw [List.filterMap_cons,hf];exact List.mem_cons_self)
    obtain ⟨sl,e⟩:=I.base.slot L o ho (I.ok.frf L hL) hL fun z=>I.ok.exfs L z hL
    exact ⟨hk,⟨L,_,hf,hn,e,hd⟩,ih (fun b hb=>hs b (by unfold frs;rw [List.filterMap_cons,hf];exact List.mem_cons_of_mem _ hb)) hr⟩
 exact all X.outer (fun _ hb=>hb) I.ok.funs
theorem Inv.stack (I:Inv X pins σ H s):s.heap.FunFrames X.base X.stack:=by
 rcases I.ok.stk with e | ⟨e,hf⟩
 ·rw [e];exact I.funs
 ·rw [e]
  obtain ⟨m,hn,_⟩:=I.loc
  refine .cons (by rw [I.ok.kind];decide) hf hn ?_ I.funs
  exact Heap.get?_none_of_le (Nat.le_trans I.ok.bsz I.ok.above)
theorem Inv.stkSub (I:Inv X pins σ H s):∀b∈frs X.stack,b∈X.env.locals :: X.fs:=fun b hb=>by
 rcases I.ok.stk with e | ⟨e,hf⟩
 ·rw [e] at hb;exact List.mem_cons_of_mem _ hb
 ·rw [e] at hb
  unfold frs at hb
  rw [List.filterMap_cons,hf] at hb
  exact hb
theorem Inv.stkFree (I:Inv X pins σ H s):∀b∈frs X.stack,H b=none:=fun b hb=>by
 rcases List.mem_cons.mp (I.stkSub b hb) with e | hb
 ·rw [e];exact I.free
 ·obtain ⟨_,o,ho,_⟩:=I.ok.funs.mem hb
  exact I.base.free b o ho (I.ok.frf b hb) fun z=>I.ok.exfs b z hb
theorem Inv.step {g':Array GenState} {t':Nat} {d':Drawn} {ch:List Addr} (I:Inv X pins σ H s)
 (hch:∀b∈ch,(b∈X.ex∨X.s₀.heap.objs.size≤b)∧b≠X.env.locals∧(∀x c,X.env.cells.lookup x=some c→c≠b)∧∀p∈X.pn++pins,p.1≠b)
 (keep:∀b o,b≠X.env.locals→b∉X.fs→b∉ch→s.heap.get? b=some o→H b=none→h'.get? b=some o)
 (slot:∀b o,b≠X.env.locals→b∈X.fs→b∉ch→s.heap.get? b=some o→H b=none→∃sl,h'.get? b=some { o with slots:=sl }) (free:∀b o,b∉ch→s.heap.get? b=some o→H b=none→H' b=none)
 (there:∀b o,b∉ch→s.heap.get? b=some o→∃o',h'.get? b=some o')
 (tups:∀b xs,H b=some (.tup xs)→H' b=some (.tup xs)) (frzs:∀b o u,H b=some (.frz o u)→H' b=some (.frz o u)) (tbls:∀b ps,H b=some (.tbl ps)→∃more,H' b=some (.tbl (ps++more)))
 (ns:∀m,s.heap.Ns X.env.locals m→h'.Ns X.env.locals m) (hok:HOk X.prog X.w H' h') (hg:AllBare g') (ht:s.toks≤t':=by first | exact Nat.le_refl _ | assumption | lia | (dsimp only;lia)) :
 Inv X pins σ H' { s with heap:=h',gens:=g',drawn:=d',toks:=t' }:=by
 have neL:∀b o,X.s₀.heap.get? b=some o→b≠X.env.locals:=fun b o e=>Nat.ne_of_lt (Nat.lt_of_lt_of_le (Heap.lt_size e) I.ok.above)
 have neC:∀b o,X.s₀.heap.get? b=some o→b∉X.ex→b∉ch:=fun b o e hx hb=>by
  rcases (hch b hb).1 with z | z
  ·exact hx z
  ·exact absurd (Nat.lt_of_lt_of_le (Heap.lt_size e) z) (Nat.lt_irrefl _)
 have cellK:∀x c,X.env.cells.lookup x=some c→∀v,s.heap.IsCell c v→h'.IsCell c v:=fun x c e v ⟨o,ho,hd⟩=>by
  have nch:c∉ch:=fun z=>(hch c z).2.2.1 x c e rfl
  rcases I.freeC x c e with hn | ⟨_,of,uf,hf⟩
  ·by_cases hc:c∈X.fs
   ·obtain ⟨sl,q⟩:=slot c o (I.cne x c e) hc nch ho hn
    exact ⟨_,q,hd⟩
   ·exact ⟨o,keep c o (I.cne x c e) hc nch ho hn,hd⟩
  ·have q1:=(I.hok c _ hf).1
   rw [ho] at q1;cases q1
   exact ⟨o,(hok c _ (frzs c _ _ hf)).1,hd⟩
 refine ⟨I.ok,I.os,hg,⟨fun b o e n hb hx=>?_,fun b o e n hb hx=>?_,fun b o e n hx=>?_,fun b o e hx=>?_,fun b xs e=>tups b xs (I.base.tups b xs e),fun b o xs e=>frzs b o xs (I.base.frzs b o xs e),fun b ps e=>?_⟩,?_,fun x c e=>?_,?_,fun x c e=>?_,fun p hp=>?_,hok,I.len,Nat.le_trans I.tk ht⟩
 ·exact keep b o (neL b o e) hb (neC b o e hx) (I.base.keep b o e n hb hx) (I.base.free b o e n hx)
 ·obtain ⟨sl,e1⟩:=I.base.slot b o e n hb hx
  obtain ⟨sl',e2⟩:=slot b _ (neL b o e) hb (neC b o e hx) e1 (I.base.free b o e n hx)
  exact ⟨sl',e2⟩
 ·obtain ⟨o',e1⟩:=I.base.there b o e hx
  exact free b o' (neC b o e hx) e1 (I.base.free b o e n hx)
 ·obtain ⟨o',e1⟩:=I.base.there b o e hx
  exact there b o' (neC b o e hx) e1
 ·obtain ⟨m1,e1⟩:=I.base.tbls b ps e
  obtain ⟨m2,e2⟩:=tbls b _ e1
  exact ⟨m1++m2,by rw [e2,Array.append_assoc]⟩
 ·obtain ⟨m,hn,hl⟩:=I.loc
  refine ⟨m,ns m hn,fun i x v e1 e2 e3=>?_⟩
  obtain ⟨u,r,l⟩:=hl i x v e1 e2 e3
  refine ⟨u,r,?_⟩
  rcases l with l | ⟨k,c,e,z⟩
  ·exact .inl l
  ·exact .inr ⟨k,c,e,cellK x c e _ z⟩
 ·obtain ⟨v,z⟩:=I.cell x c e
  exact ⟨v,cellK x c e v z⟩
 ·obtain ⟨m,⟨o,_,_,ho,_⟩,_⟩:=I.loc
  exact free _ o (fun z=>(hch _ z).2.1 rfl) ho I.free
 ·obtain ⟨v,o,ho,hd⟩:=I.cell x c e
  exact (I.freeC x c e).elim (fun hn=>.inl (free c o (fun z=>(hch c z).2.2.1 x c e rfl) ho hn)) fun ⟨hz,of,uf,hf⟩=>.inr ⟨hz,of,uf,frzs c _ _ hf⟩
 ·obtain ⟨e,n,ne,nf,d⟩:=I.pin p hp
  have nch:p.1∉ch:=fun z=>(hch p.1 z).2.2.2 p hp rfl
  exact ⟨keep p.1 p.2 ne nf nch e n,free p.1 p.2 nch e n,ne,nf,d⟩
theorem Inv.un {t':Nat} (I:Inv X pins σ H s) (u:Un X.fs [] H H' s.heap h') (hok:HOk X.prog X.w H' h') (ht:s.toks≤t':=by first | exact Nat.le_refl _ | assumption | lia | (dsimp only;lia)):Inv X pins σ H' { s with heap:=h',toks:=t' }:=by
 obtain ⟨m,⟨o,es,ep,ho,r⟩,_⟩:=id I.loc
 obtain ⟨sl,hL⟩:=u.any ho I.free (by simp)
 exact I.step (g':=s.gens) (d':=s.drawn) (ch:=[]) (fun _ z=>nomatch z) (fun b o _ hb _ e n=>u.keep b o e n hb (by simp)) (fun b o _ hb _ e n=>u.slot b o e n hb (by simp)) (fun b o _ e n=>u.free b o e n (by simp)) (fun b o _ e=>u.there b o e (by simp)) u.tups u.frzs u.tbls (fun m' hm=>by
  obtain ⟨o',es',ep',ho',r'⟩:=hm
  rw [ho] at ho';cases ho'
  exact ⟨_,es',ep',hL,r'⟩) hok I.bare
theorem Inv.call {g':Array GenState} {t':Nat} {d':Drawn} {ch:List Addr} (I:Inv X pins σ H s) (u:Un (frs X.stack) ch H H' s.heap h') (hok:HOk X.prog X.w H' h') (hg:AllBare g')
 (hch:∀b∈ch,(b∈X.ex∨X.s₀.heap.objs.size≤b)∧b≠X.env.locals∧(∀x c,X.env.cells.lookup x=some c→c≠b)∧∀p∈X.pn++pins,p.1≠b) (ht:s.toks≤t':=by first | exact Nat.le_refl _ | assumption | lia | (dsimp only;lia)) :
 Inv X pins σ H' { s with heap:=h',gens:=g',drawn:=d',toks:=t' }:=by
 obtain ⟨m,⟨o,es,ep,ho,r⟩,_⟩:=id I.loc
 obtain ⟨sl,hL⟩:=u.any ho I.free fun z=>(hch _ z).2.1 rfl
 exact I.step (ch:=ch) hch (fun b o hL hb hc e n=>u.keep b o e n (fun z=>(List.mem_cons.mp (I.stkSub b z)).elim hL hb) hc) (fun b o _ _ hc e n=>u.any e n hc) (fun b o hc e n=>u.free b o e n hc) (fun b o hc e=>u.there b o e hc) u.tups u.frzs u.tbls (fun m' hm=>by
  obtain ⟨o',es',ep',ho',r'⟩:=hm
  rw [ho] at ho';cases ho'
  exact ⟨_,es',ep',hL,r'⟩) hok hg
theorem Inv.turned {t':Nat} {it:Addr} (I:Inv X pins σ H s) (k:∀b o,b≠it→s.heap.get? b=some o→h'.get? b=some o) (hn:H it=none) (hL:it≠X.env.locals)
 (h1:it∈X.ex∨X.s₀.heap.objs.size≤it) (h2:∀x c,X.env.cells.lookup x=some c→c≠it) (h3:∀p∈X.pn++pins,p.1≠it) (ht:s.toks≤t':=by first | exact Nat.le_refl _ | assumption | lia | (dsimp only;lia)):Inv X pins σ H { s with heap:=h',toks:=t' }:=by
 have nit:∀b u,H b=some u→b≠it:=fun b u e z=>by rw [z,hn] at e;cases e
 refine I.step (g':=s.gens) (d':=s.drawn) (ch:=[it]) (fun b hb=>?_) (fun b o _ _ hc e _=>k b o (fun z=>hc (by simp [z])) e) (fun b o _ _ hc e _=>⟨o.slots,k b o (fun z=>hc (by simp [z])) e⟩) (fun _ _ _ _ n=>n)
  (fun b o hc e=>⟨o,k b o (fun z=>hc (by simp [z])) e⟩) (fun _ _ e=>e) (fun _ _ _ e=>e) (fun b ps e=>⟨#[],by rw [e];simp⟩) (fun m hm=>?_) (fun b u e=>?_) I.bare
 ·have e:b=it:=by simpa using hb
  subst e
  exact ⟨h1,hL,h2,h3⟩
 ·obtain ⟨o,es,ep,ho,r⟩:=hm
  exact ⟨o,es,ep,k _ o (Ne.symm hL) ho,r⟩
 ·refine (I.hok b u e).stay (fun c v hc q=>k c v ?_ q) (fun _ q=>q) fun _ _ q=>q
  rcases hc with z | z
  ·rw [z];exact nit b u e
  ·exact nit c _ z
theorem Inv.tok (I:Inv X pins σ H s) (t:Nat) (ht:s.toks≤t:=by first | exact Nat.le_refl _ | assumption | lia | (dsimp only;lia)):Inv X pins σ H { s with toks:=t }:=I.un (h':=s.heap) (t':=t) Un.refl I.hok
theorem Inv.kept {t':Nat} (I:Inv X pins σ H s) (k:∀b u,s.heap.get? b=some u→h'.get? b=some u) (ht:s.toks≤t':=by first | exact Nat.le_refl _ | assumption | lia | (dsimp only;lia)):Inv X pins σ H { s with heap:=h',toks:=t' }:=I.un (Un.kept k) (I.hok.kept k)
theorem Inv.laid {a:Addr} {o:HO} {t':Nat} (I:Inv X pins σ H s) (k:∀b u,s.heap.get? b=some u→h'.get? b=some u) (hp:s.heap.objs.size≤a) (new:ObjOk X.prog X.w (upd H a o) h' a o) (ht:s.toks≤t':=by first | exact Nat.le_refl _ | assumption | lia | (dsimp only;lia)) :
 Inv X pins σ (upd H a o) { s with heap:=h',toks:=t' }:=I.un (Un.laid k hp (I.hok.fresh hp)) (I.hok.laid k hp new)
theorem Inv.write {x e:Addr} {o:HO} {t':Nat} (I:Inv X pins σ H s) (mu:Mut (H x)) (he:e=x∨H e=some (.own x)) (k:∀b u,b≠e→s.heap.get? b=some u→h'.get? b=some u) (heo:∃u,h'.get? e=some u)
 (new:ObjOk X.prog X.w (upd H x o) h' x o) (ht:s.toks≤t':=by first | exact Nat.le_refl _ | assumption | lia | (dsimp only;lia)):Inv X pins σ (upd H x o) { s with heap:=h',toks:=t' }:=I.un (Un.write mu he k heo) (I.hok.write mu he k heo new)
theorem Inv.pins_of {pins':List (Addr×Obj)} (I:Inv X pins σ H s) (h:∀p∈pins',s.heap.get? p.1=some p.2∧H p.1=none∧p.1≠X.env.locals∧p.1∉X.fs∧∀v,p.2.data≠.cell v):Inv X pins' σ H s:=
 ⟨I.ok,I.os,I.bare,I.base,I.loc,I.cell,I.free,I.freeC,fun p hp=>(List.mem_append.mp hp).elim (fun z=>I.pin p (List.mem_append_left _ z)) (h p),I.hok,I.len,I.tk⟩
theorem LJ {N:List Str} (hN:N.Nodup) {i j:Nat} {x:Str} (a:N[i]?=some x) (b:N[j]?=some x):i=j:=by
 obtain ⟨h1,e1⟩:=List.getElem?_eq_some_iff.mp a
 obtain ⟨h2,e2⟩:=List.getElem?_eq_some_iff.mp b
 exact (List.getElem_inj hN).mp (e1.trans e2.symm)
theorem Kb {M:Model} {A:Around} {E:Value→Shared→Prop} {i:Nat} {x:Str} {v:V} {u:Value} {Q:Unit→Shared→Prop} (I:Inv X pins σ H s) (hN:X.N.Nodup) (hi:X.N[i]?=some x) (hx:Loc X.env.scope x) (r:RelV v u)
 (h:∀s',Inv X pins (σ.set i (some v)) H s'→(∃a,Heap.SameBut a s.heap s'.heap∧(a=X.env.locals∨X.env.cells.lookup x=some a))→Q () s') (hf:X.fn x=true∨X.env.scope.names.lookup x=some .local:=by first | exact .inl rfl | exact .inr rfl | assumption):wpAny M A (storeName X.env x u) Q E s:=by
 obtain ⟨m,hn,hl⟩:=id I.loc
 have hcls:(X.env.scope.kind == .class || (X.env.scope.kind == .module && X.env.locals != X.env.globals))=false:=by rw [I.ok.kind];rfl
 have hiσ:i < σ.length:=by rw [I.len];exact (List.getElem?_eq_some_iff.mp hi).1
 have cne:=I.cne
 have tracked:∀{a:Addr} {h':Heap},(∃o,s.heap.get? a=some o∧H a=none)→Heap.SameBut a s.heap h'→HOk X.prog X.w H h':=fun {a h'} ha hs b ob e=>by
  obtain ⟨_,_,hfree⟩:=ha
  refine (I.hok b ob e).stay (fun c w' hc q=>(hs.2 c ?_).trans q) (fun _ q=>q) fun _ _ q=>q
  rintro rfl
  rcases hc with rfl | hc
  ·rw [hfree] at e;cases e
  ·rw [hfree] at hc;cases hc
 rcases hx with hk | hk
 ·refine wpAny_storeName_local hk hn (fun h' hn' hs=>?_) hcls
  obtain ⟨oL,_,_,hoL,_⟩:=id hn
  refine h _ ⟨I.ok,I.os,I.bare,⟨fun b o e n hb hx=>?_,fun b o e n hb hx=>?_,I.base.free,fun b o e hx=>?_,I.base.tups,I.base.frzs,I.base.tbls⟩,⟨_,hn',fun j y v' e1 e2 e3=>?_⟩,fun y c e=>?_,I.free,I.freeC,fun p hp=>?_,tracked ⟨oL,hoL,I.free⟩ hs,by simpa using I.len,(by have:=I.tk;first | exact this | (dsimp only;lia))⟩ ⟨_,hs,.inl rfl⟩
  ·exact (hs.2 b (Nat.ne_of_lt (Nat.lt_of_lt_of_le (Heap.lt_size e) I.ok.above))).trans (I.base.keep b o e n hb hx)
  ·obtain ⟨sl,e1⟩:=I.base.slot b o e n hb hx
   exact ⟨sl,(hs.2 b (Nat.ne_of_lt (Nat.lt_of_lt_of_le (Heap.lt_size e) I.ok.above))).trans e1⟩
  ·obtain ⟨o',e1⟩:=I.base.there b o e hx
   exact ⟨o',(hs.2 b (Nat.ne_of_lt (Nat.lt_of_lt_of_le (Heap.lt_size e) I.ok.above))).trans e1⟩
  ·by_cases hj:j=i
   ·subst hj
    rw [hi] at e1;cases e1
    rw [List.getElem?_set_self hiσ] at e2
    cases e2
    exact ⟨u,r,.inl ⟨hk,by simp⟩⟩
   ·rw [List.getElem?_set_ne (Ne.symm hj)] at e2
    obtain ⟨u',r',q⟩:=hl j y v' e1 e2 e3
    refine ⟨u',r',?_⟩
    rcases q with ⟨k,e⟩ | ⟨k,c,e,z⟩
    ·refine .inl ⟨k,?_⟩
     have:y≠x:=fun e=>hj (LJ hN e1 (e ▸ hi))
     simp [this,e]
    ·exact .inr ⟨k,c,e,z.sameBut hs (cne y c e)⟩
  ·obtain ⟨w',z⟩:=I.cell y c e
   exact ⟨w',z.sameBut hs (cne y c e)⟩
  ·obtain ⟨e,n,ne,nf,d⟩:=I.pin p hp
   exact ⟨(hs.2 p.1 ne).trans e,n,ne,nf,d⟩
 ·obtain ⟨hk,hnf⟩:=hk
  have hfn:X.fn x=true:=by
   rcases hf with z | z
   ·exact z
   ·rw [z] at hk;cases hk
  obtain ⟨c,hc⟩:=I.ok.has x (.inl hk)
  obtain ⟨w',z⟩:=I.cell x c hc
  refine wpAny_storeName_cell I.ok.kind hk hc z (fun h' hc' hs=>?_)
  obtain ⟨oc,hoc,hocd⟩:=id z
  refine h { s with heap:=h' } ⟨I.ok,I.os,I.bare,⟨fun b o e n hb hx=>?_,fun b o e n hb hx=>?_,I.base.free,fun b o e hx=>?_,I.base.tups,I.base.frzs,I.base.tbls⟩,⟨m,hn.sameBut hs (Ne.symm (cne x c hc)),fun j y v' e1 e2 e3=>?_⟩,fun y c' e=>?_,I.free,I.freeC,fun p hp=>?_,tracked ⟨oc,hoc,(I.freeC x c hc).resolve_right fun q=>hnf q.1⟩ hs,by simpa using I.len,(by have:=I.tk;first | exact this | (dsimp only;lia))⟩ ⟨c,hs,.inr hc⟩
  ·exact (hs.2 b (Nat.ne_of_lt (Nat.lt_of_lt_of_le (Heap.lt_size e) (I.ok.cab x c hfn hc)))).trans (I.base.keep b o e n hb hx)
  ·obtain ⟨sl,e1⟩:=I.base.slot b o e n hb hx
   exact ⟨sl,(hs.2 b (Nat.ne_of_lt (Nat.lt_of_lt_of_le (Heap.lt_size e) (I.ok.cab x c hfn hc)))).trans e1⟩
  ·obtain ⟨o',e1⟩:=I.base.there b o e hx
   exact ⟨o',(hs.2 b (Nat.ne_of_lt (Nat.lt_of_lt_of_le (Heap.lt_size e) (I.ok.cab x c hfn hc)))).trans e1⟩
  ·by_cases hj:j=i
   ·subst hj
    rw [hi] at e1;cases e1
    rw [List.getElem?_set_self hiσ] at e2
    cases e2
    exact ⟨u,r,.inr ⟨.inl hk,c,hc,hc'⟩⟩
   ·rw [List.getElem?_set_ne (Ne.symm hj)] at e2
    obtain ⟨u',r',q⟩:=hl j y v' e1 e2 e3
    refine ⟨u',r',?_⟩
    rcases q with q | ⟨k,c',e,z'⟩
    ·exact .inl q
    ·refine .inr ⟨k,c',e,z'.sameBut hs ?_⟩
     rintro rfl
     exact hj (LJ hN e1 (I.ok.inj _ _ _ e hc ▸ hi))
  ·by_cases hcc:c'=c
   ·subst hcc;exact ⟨_,hc'⟩
   ·obtain ⟨w2,z2⟩:=I.cell y c' e
    exact ⟨w2,z2.sameBut hs hcc⟩
  ·obtain ⟨e,n,ne,nf,d⟩:=I.pin p hp
   refine ⟨(hs.2 p.1 ?_).trans e,n,ne,nf,d⟩
   intro q
   rw [q,hoc] at e
   have q':oc=p.2:=Option.some.inj e
   exact d w' (by rw [←q'];exact hocd)
theorem Mj {M:Model} {A:Around} {E:Value→Shared→Prop} {i:Nat} {x:Str} {v:V} {u:Value} {Q:Unit→Shared→Prop} (I:Inv X pins σ H s) (hN:X.N.Nodup) (hi:X.N[i]?=some x) (hx:Loc X.env.scope x) (r:RelV v u)
 (h:∀s',Inv X pins (σ.set i (some v)) H s'→Q () s') (hf:X.fn x=true∨X.env.scope.names.lookup x=some .local:=by first | exact .inl rfl | exact .inr rfl | assumption):wpAny M A (storeName X.env x u) Q E s:=
 Kb I hN hi hx r (fun s' I' _=>h s' I') hf
theorem Inv.call' {s':Shared} {ch:List Addr} (I:Inv X pins σ H s) (ho:s'.os=s.os) (u:Un (frs X.stack) ch H H' s.heap s'.heap) (hok:HOk X.prog X.w H' s'.heap) (hg:AllBare s'.gens)
 (hch:∀b∈ch,(b∈X.ex∨X.s₀.heap.objs.size≤b)∧b≠X.env.locals∧(∀x c,X.env.cells.lookup x=some c→c≠b)∧∀p∈X.pn++pins,p.1≠b) (ht:Ge X.K≤s'.toks):Inv X pins σ H' s':=by
 obtain ⟨h',g',d',t',o'⟩:=s'
 have e:o'=s.os:=ho
 subst e
 have J:=I.call (g':=g') (t':=s.toks) (d':=d') u hok hg hch
 exact ⟨J.ok,J.os,J.bare,J.base,J.loc,J.cell,J.free,J.freeC,J.pin,J.hok,J.len,ht⟩
end
abbrev XK:=Value→Option Addr→Hp→Prop
abbrev St:=List (Option V)
abbrev VK:=V→Hp→Prop
abbrev TE:=St→Hp→VK→Prop
abbrev TT:=St→Hp→(Bool→Hp→Prop)→Prop
abbrev TA:=St→Hp→(List V→Hp→Prop)→Prop
structure Ends where
 nx:St→Hp→Prop
 rt:VK
 bk:St→Hp→Prop:=fun _ _=>False
 ct:St→Hp→Prop:=fun _ _=>False
abbrev TS:=Ends→St→Hp→Prop
inductive EP (X:Cx) (pins:List (Addr×Obj)) (σ:St) (Q:VK) (u:Value) (s':Shared):Prop where
 | mk (v:V) (H':Hp) (i:Inv X pins σ H' s') (r:RelV v u) (q:Q v H'):EP X pins σ Q u s'
inductive TP (X:Cx) (pins:List (Addr×Obj)) (σ:St) (Q:Bool→Hp→Prop) (b:Bool) (s':Shared):Prop where
 | mk (H':Hp) (i:Inv X pins σ H' s') (q:Q b H'):TP X pins σ Q b s'
inductive AP (X:Cx) (pins:List (Addr×Obj)) (σ:St) (Q:List V→Hp→Prop) (us:List Value) (s':Shared):Prop where
 | mk (vs:List V) (H':Hp) (i:Inv X pins σ H' s') (r:Vals vs us) (q:Q vs H'):AP X pins σ Q us s'
def SP (X:Cx) (pins:List (Addr×Obj)) (D:Ends) (f:Flow) (s':Shared):Prop:=
 match f with
 | .next=>∃σ' H',Inv X pins σ' H' s'∧D.nx σ' H'
 | .brk=>∃σ' H',Inv X pins σ' H' s'∧D.bk σ' H'
 | .cont=>∃σ' H',Inv X pins σ' H' s'∧D.ct σ' H'
 | .ret u=>∃v σ' H',Inv X pins σ' H' s'∧RelV v u∧D.rt v H'
def PE (X:Cx) (e:Expr) (t:TE):Prop:=
 ∀(pins:List (Addr×Obj)) (s:Shared) (σ:St) (H:Hp) (Q:VK),Inv X pins σ H s→t σ H Q→wpAny (model X.prog X.w) X.A (eval e X.env) (EP X pins σ Q) X.xe s
def PT (X:Cx) (e:Expr) (t:TT):Prop:=
 ∀(pins:List (Addr×Obj)) (s:Shared) (σ:St) (H:Hp) (Q:Bool→Hp→Prop),Inv X pins σ H s→t σ H Q→wpAny (model X.prog X.w) X.A (isTrue e X.env (eval e X.env)) (TP X pins σ Q) X.xe s
def PW (X:Cx) (e:Expr) (t:TT):Prop:=
 ∀(whole:Sem Value) (pins:List (Addr×Obj)) (s:Shared) (σ:St) (H:Hp) (Q:Bool→Hp→Prop),Inv X pins σ H s→t σ H Q→wpAny (model X.prog X.w) X.A (isTrue e X.env whole) (TP X pins σ Q) X.xe s
theorem PW.pt {X:Cx} {e:Expr} {t:TT} (h:PW X e t):PT X e t:=h _
def PA (X:Cx) (es:List Expr) (t:TA):Prop:=
 ∀(pos:Pos) (pins:List (Addr×Obj)) (s:Shared) (σ:St) (H:Hp) (Q:List V→Hp→Prop),Inv X pins σ H s→t σ H Q→wpAny (model X.prog X.w) X.A (spliced (backTo pos (starEach es X.env))) (AP X pins σ Q) X.xe s
def PS (X:Cx) (st:Stmt) (t:TS):Prop:=
 ∀(pins:List (Addr×Obj)) (s:Shared) (σ:St) (H:Hp) (D:Ends),Inv X pins σ H s→t D σ H→wpAny (model X.prog X.w) X.A (exec st X.env) (SP X pins D) X.xe s
def PSs (X:Cx) (st:List Stmt) (t:TS):Prop:=
 ∀(pins:List (Addr×Obj)) (s:Shared) (σ:St) (H:Hp) (D:Ends),Inv X pins σ H s→t D σ H→wpAny (model X.prog X.w) X.A (execs st X.env) (SP X pins D) X.xe s
theorem thn {α:Type} {t:Sem α} {Q Q':α→Shared→Prop} {M:Model} {A:Around} {E:Value→Shared→Prop} {s:Shared} (h:wpAny M A t Q E s) (hQ:∀a s,Q a s→Q' a s):wpAny M A t Q' E s:=wpAny_mono h hQ fun _ _ x=>x
section
variable {X:Cx}
def VQ (i:Nat):TE:=fun σ H Q=>∃v,σ[i]?=some (some v)∧Q v H
def tC (v:V):TE:=fun _ H Q=>Q v H
theorem LU {i:Nat} {x:Str} {pos:Pos} (hN:X.N[i]?=some x) (hv:Vis X.env.scope x) (hd:(x == ("__debug__" : Str))=false:=by decide) (hcd:(x == ("__classdict__" : Str))=false:=by decide):PE X (.Name x pos) (VQ i):=by
 intro pins s σ H Q I h
 obtain ⟨v,e,h⟩:=h
 obtain ⟨m,hn,hl⟩:=I.loc
 obtain ⟨u,r,l⟩:=hl i x v hN e hv
 have fin:EP X pins σ Q u s:=⟨v,H,I,r,h⟩
 rcases l with ⟨hk,hm⟩ | ⟨hk,c,hc,hcell⟩
 ·exact wpAny_Name (wpAny_loadName_local I.ok.kind hk hn hm fin) hd
 ·rcases hk with hk | hk
  ·exact wpAny_Name (wpAny_loadName_cell I.ok.kind hk hc hcell fin) hd
  ·exact wpAny_Name (wpAny_loadName_free I.ok.kind hk hc hcell fin hcd) hd
theorem U8 {i j pos}:PE X (.Constant (.int i) j pos) (tC (.int i)):=fun _ _ _ H _ I h=>wpAny_Constant_int ⟨.int i,H,I.tok _,⟨_,rfl⟩,h⟩
theorem Wh {b j pos}:PE X (.Constant (.bool b) j pos) (tC (.bl b)):=fun _ _ _ H _ I h=>Constant_bool ⟨.bl b,H,I,rfl,h⟩
theorem Vb {j pos}:PE X (.Constant .none j pos) (tC .non):=fun _ _ _ H _ I h=>Constant_none ⟨.non,H,I,rfl,h⟩
theorem Pu {x j pos}:PE X (.Constant (.str x) j pos) (tC (.str x)):=fun _ _ _ H _ I h=>Calls.Constant_str ⟨.str x,H,I.tok _,⟨_,rfl⟩,h⟩
def Gl (X:Cx) (x:Str):Prop:=X.env.kindOf x=some .globalImplicit
theorem Nb {E:Value→Shared→Prop} {pins:List (Addr×Obj)} {s:Shared} {σ:St} {H:Hp} {x:Str} {u:Value} {pos:Pos} {Q:Value→Shared→Prop} (I:Inv X pins σ H s) (hg:Gl X x) (hm:X.mg x=some u) (h:Q u s)
 (hd:(x == ("__debug__" : Str))=false:=by decide):wpAny (model X.prog X.w) X.A (eval (.Name x pos) X.env) Q E s:=
 Calls.Name_function_global I.ok.kind hg (Calls.loadGlobal_global (by rw [I.ok.glob];exact I.mod.glob.keeps I.bk) hm h) hd
theorem Iw {E:Value→Shared→Prop} {pins:List (Addr×Obj)} {s:Shared} {σ:St} {H:Hp} {x:Str} {u:Value} {pos:Pos} {Q:Value→Shared→Prop} (I:Inv X pins σ H s) (hg:Gl X x) (hm:X.mg x=none) (hv:bootBuiltins x=some u) (h:Q u s)
 (hn:x≠"__name__":=by decide) (hd:(x == ("__debug__" : Str))=false:=by decide):wpAny (model X.prog X.w) X.A (eval (.Name x pos) X.env) Q E s:=by
 obtain ⟨mb,h1,h2⟩:=I.mod.blt
 exact Calls.Name_function_global I.ok.kind hg (Calls.loadGlobal_builtin (by rw [I.ok.glob];exact I.mod.glob.keeps I.bk) hm (by rw [I.ok.blt];exact h1.keeps I.bk) ((h2 x hn).trans hv) h) hd
theorem Nj {x:Str} {v:V} {u:Value} {pos:Pos} (hg:Gl X x) (hm:X.mg x=some u) (r:RelV v u) (hd:(x == ("__debug__" : Str))=false:=by decide):PE X (.Name x pos) (tC v):=
 fun _ _ _ H _ I h=>Nb I hg hm ⟨v,H,I,r,h⟩ hd
theorem To {x:Str} {v:V} {u:Value} {pos:Pos} (hg:Gl X x) (hm:X.mg x=none) (hv:bootBuiltins x=some u) (r:RelV v u) (hn:x≠"__name__":=by decide) (hd:(x == ("__debug__" : Str))=false:=by decide):PE X (.Name x pos) (tC v):=
 fun _ _ _ H _ I h=>Iw I hg hm hv ⟨v,H,I,r,h⟩ hn hd
variable {a b:Expr} {ta tb:TE} {pos:Pos}
def tB (t:TE):TT:=fun σ H Q=>t σ H fun x H1=>∃c,x = .bl c∧Q c H1
theorem Vi {e:Expr} {t:TE} (h:PE X e t) (he:∀whole,isTrue e X.env whole=(do let v ←whole;standAt e.pos;holding [v] (truthy v)):=by intro _;rfl):PT X e (tB t):=by
 intro pins s σ H Q I hw
 refine isTrue_plain (thn (h pins s σ H _ I hw) fun v s1 ⟨x,H1,I1,r1,q1⟩=>?_) (he _)
 obtain ⟨d,rfl,q⟩:=q1
 cases r1
 exact wpAny_truthy_bool ⟨H1,I1,q⟩
variable {tA tB':TT} {rest:List Expr}
def Xr (t u:TT):TT:=fun σ H Q=>t σ H fun c H1=>if c=true then u σ H1 Q else Q false H1
def tOr (t u:TT):TT:=fun σ H Q=>t σ H fun c H1=>if c=true then Q true H1 else u σ H1 Q
def Xv (t:TT):TT:=fun σ H Q=>t σ H fun c H1=>Q (!c) H1
theorem TK (ha:PT X a tA):PW X (.BoolOp .And [a] pos) tA:=by
 intro wh pins s σ H Q I h
 refine isTrue_and (thn (ha pins s σ H Q I h) fun c s1 e=>?_)
 cases c with
 | true=>exact isTrue_and_nil e
 | false=>exact e
theorem Vl (ha:PT X a tA):PW X (.BoolOp .Or [a] pos) tA:=by
 intro wh pins s σ H Q I h
 refine isTrue_or (thn (ha pins s σ H Q I h) fun c s1 e=>?_)
 cases c with
 | false=>exact isTrue_or_nil e
 | true=>exact e
theorem Vk (ha:PT X a tA) (hb:PW X (.BoolOp .And (b :: rest) pos) tB'):PW X (.BoolOp .And (a :: b :: rest) pos) (Xr tA tB'):=by
 intro wh pins s σ H Q I h
 refine isTrue_and (thn (ha pins s σ H _ I h) fun c s1 ⟨H1,I1,q1⟩=>?_)
 cases c with
 | true=>exact hb wh pins s1 σ H1 Q I1 q1
 | false=>exact ⟨H1,I1,q1⟩
theorem Wo (ha:PT X a tA) (hb:PW X (.BoolOp .Or (b :: rest) pos) tB'):PW X (.BoolOp .Or (a :: b :: rest) pos) (tOr tA tB'):=by
 intro wh pins s σ H Q I h
 refine isTrue_or (thn (ha pins s σ H _ I h) fun c s1 ⟨H1,I1,q1⟩=>?_)
 cases c with
 | true=>exact ⟨H1,I1,q1⟩
 | false=>exact hb wh pins s1 σ H1 Q I1 q1
theorem Vh (ha:PT X a tA):PT X (.UnaryOp .Not a pos) (Xv tA):=by
 intro pins s σ H Q I h
 refine isTrue_not (thn (ha pins s σ H (fun c H1=>Q (!c) H1) I h) fun c s1 z=>?_)
 obtain ⟨H1,I1,q1⟩:=z
 exact ⟨H1,I1,q1⟩
def Wr (ta tb:TE):TE:=fun σ H Q=>ta σ H fun x H1=>∃c,x = .bl c∧if c=true then tb σ H1 Q else Q (.bl false) H1
def Ww (ta:TE):TE:=fun σ H Q=>ta σ H fun x H1=>∃c,x = .bl c∧Q (.bl (!c)) H1
theorem Vd {op} {t:TE} (h:PE X a t):PE X (.BoolOp op [a] pos) t:=fun pins s σ H Q I hw=>BoolOp_one (h pins s σ H Q I hw)
theorem U7 (ha:PE X a ta) (hb:PE X (.BoolOp .And (b :: rest) pos) tb):PE X (.BoolOp .And (a :: b :: rest) pos) (Wr ta tb):=by
 intro pins s σ H Q I h
 refine BoolOp_and (thn (ha pins s σ H _ I h) fun v s1 ⟨x,H1,I1,r1,q1⟩=>?_)
 obtain ⟨c,rfl,q1⟩:=q1
 cases r1
 refine wpAny_truthy_bool ?_
 cases c with
 | true=>exact hb pins s1 σ H1 Q I1 q1
 | false=>exact ⟨.bl false,H1,I1,rfl,q1⟩
theorem Vc (ha:PE X a ta):PE X (.UnaryOp .Not a pos) (Ww ta):=by
 intro pins s σ H Q I h
 refine UnaryOp_ (thn (ha pins s σ H _ I h) fun v s1 ⟨x,H1,I1,r1,q1⟩=>?_)
 obtain ⟨c,rfl,q1⟩:=q1
 cases r1
 exact not_of (wpAny_truthy_bool ⟨.bl (!c),H1,I1,rfl,q1⟩)
def tIf (t:TT) (ta tb:TE):TE:=fun σ H Q=>t σ H fun c H1=>if c=true then ta σ H1 Q else tb σ H1 Q
theorem QT {c:Expr} (hc:PT X c tA) (ha:PE X a ta) (hb:PE X b tb):PE X (.IfExp c a b pos) (tIf tA ta tb):=by
 intro pins s σ H Q I h
 refine wpAny_IfExp (thn (hc pins s σ H _ I h) fun d s1 ⟨H1,I1,q1⟩=>?_)
 cases d with
 | true=>exact ha pins s1 σ H1 Q I1 q1
 | false=>exact hb pins s1 σ H1 Q I1 q1
end
def SqL (K:PySem.W.Frag) (H:Hp) (a:Addr) (xs:List V):Prop:=
 Rd H a (.lst xs)∨
  ∃(o:Obj) (its:Array Value) (n:Nat),K.lookup a=some o∧o.cls = .type "list"∧o.dict=none∧o.data = .seq its n∧its.size≤sizeLine∧Vals xs its.toList
def SqT (K:PySem.W.Frag) (H:Hp) (a:Addr) (xs:List V):Prop:=
 Rd H a (.tup xs)∨
  ∃(o:Obj) (its:Array Value) (n:Nat),K.lookup a=some o∧o.cls = .type "tuple"∧o.data = .seq its n∧its.size≤sizeLine∧Vals xs its.toList
def Xa:Value→Option V
 | .none=>some .non
 | .bool b=>some (.bl b)
 | .int i _=>some (.int i)
 | .str x _=>some (.str x)
 | .bytes b _=>some (.byt b)
 | .float b _=>some (.flt b)
 | .ref a=>some (.ref a)
 | .type n=>some (.ty n)
 | _=>none
theorem RelV.abs {x:V} {u:Value} (r:RelV x u):Xa u=some x:=by
 cases x with
 | non=>cases r;rfl
 | bl _=>cases r;rfl
 | int _=>obtain ⟨t,rfl⟩:=r;rfl
 | str _=>obtain ⟨t,rfl⟩:=r;rfl
 | byt _=>obtain ⟨t,rfl⟩:=r;rfl
 | flt _=>obtain ⟨t,rfl⟩:=r;rfl
 | ref _=>cases r;rfl
 | ty _=>cases r;rfl
theorem RelV.inj {x y:V} {u:Value} (r:RelV x u) (q:RelV y u):x=y:=Option.some.inj (r.abs.symm.trans q.abs)
theorem Vals.inj:∀{xs ys:List V} {us:List Value},Vals xs us→Vals ys us→xs=ys
 | _,_,_,.nil,.nil=>rfl
 | _,_,_,.cons r t,.cons r' t'=>by rw [r.inj r',Vals.inj t t']
section
variable {X:Cx} {pins:List (Addr×Obj)} {σ:St} {H:Hp} {s:Shared} {a:Addr} {xs ys:List V}
theorem SqL.of {K:PySem.W.Frag} (h:H a=some (.lst xs)):SqL K H a xs:=.inl (.inl h)
theorem SqT.of {K:PySem.W.Frag} (h:H a=some (.tup xs)):SqT K H a xs:=.inl (.inl h)
theorem Inv.list (I:Inv X pins σ H s) (h:SqL X.K H a xs):∃its:List Value,Vals xs its∧PlainL s.heap a its.toArray∧xs.length≤sizeLine:=by
 rcases h with h | ⟨o,its,n,hk,hc,hd,hs,hz,r⟩
 ·obtain ⟨z,its,n,r,e⟩:=h.ok I.hok
  exact ⟨its,r,⟨_,n,e,rfl,rfl,rfl⟩,z⟩
 ·refine ⟨its.toList,r,⟨o,n,I.kIn a o hk,hc,hd,by simpa using hs⟩,?_⟩
  have e:=r.length
  simp only [Array.length_toList] at e
  lia
theorem Inv.tuple (I:Inv X pins σ H s) (h:SqT X.K H a xs):∃its:List Value,Vals xs its∧IsTup s.heap a its.toArray∧xs.length≤sizeLine:=by
 rcases h with h | ⟨o,its,n,hk,hc,hs,hz,r⟩
 ·obtain ⟨z,its,r,p⟩:=h.ok I.hok
  exact ⟨its,r,p,z⟩
 ·refine ⟨its.toList,r,⟨o,I.kIn a o hk,hc,n,by simpa using hs⟩,?_⟩
  have e:=r.length
  simp only [Array.length_toList] at e
  lia
theorem Inv.list_inj (I:Inv X pins σ H s) (h:SqL X.K H a xs) (h':SqL X.K H a ys):xs=ys:=by
 obtain ⟨its,r,⟨o,n,e,_,_,d⟩,_⟩:=I.list h
 obtain ⟨its',r',⟨o',n',e',_,_,d'⟩,_⟩:=I.list h'
 rw [e] at e';cases e'
 rw [d] at d'
 injection d' with d1 _
 have:its=its':=by simpa using congrArg Array.toList d1
 subst this
 exact r.inj r'
theorem Inv.tuple_inj (I:Inv X pins σ H s) (h:SqT X.K H a xs) (h':SqT X.K H a ys):xs=ys:=by
 obtain ⟨its,r,⟨o,e,_,n,d⟩,_⟩:=I.tuple h
 obtain ⟨its',r',⟨o',e',_,n',d'⟩,_⟩:=I.tuple h'
 rw [e] at e';cases e'
 rw [d] at d'
 injection d' with d1 _
 have:its=its':=by simpa using congrArg Array.toList d1
 subst this
 exact r.inj r'
end
abbrev Cx.wish (X:Cx) (E:Value→Shared→Prop):Cx:={ X with xe:=E }
abbrev Cx.nox (X:Cx):Cx:=X.wish fun _ _=>False
theorem Cx.Ok.wish {X:Cx} (ok:X.Ok) (E:Value→Shared→Prop):(X.wish E).Ok:=
 ⟨ok.mod,ok.kind,ok.glob,ok.blt,ok.above,ok.inj,ok.has,ok.cab,ok.hd,ok.frames,ok.stk,ok.exf,ok.bs,ok.bsz,ok.noex,ok.exfs,ok.funs,ok.frf⟩
theorem Cx.Ok.unwish {X:Cx} {E:Value→Shared→Prop} (ok:(X.wish E).Ok):X.Ok:=
 ⟨ok.mod,ok.kind,ok.glob,ok.blt,ok.above,ok.inj,ok.has,ok.cab,ok.hd,ok.frames,ok.stk,ok.exf,ok.bs,ok.bsz,ok.noex,ok.exfs,ok.funs,ok.frf⟩
section
variable {X:Cx} {pins:List (Addr×Obj)} {σ:St} {H:Hp} {s:Shared} {E:Value→Shared→Prop}
theorem Inv.wish (I:Inv X pins σ H s) (E:Value→Shared→Prop):Inv (X.wish E) pins σ H s:=⟨I.ok.wish E,I.os,I.bare,I.base,I.loc,I.cell,I.free,I.freeC,I.pin,I.hok,I.len,I.tk⟩
theorem Inv.unwish (I:Inv (X.wish E) pins σ H s):Inv X pins σ H s:=⟨I.ok.unwish,I.os,I.bare,I.base,I.loc,I.cell,I.free,I.freeC,I.pin,I.hok,I.len,I.tk⟩
theorem SP.unwish {D:Ends} {f:Flow} {s':Shared} (h:SP (X.wish E) pins D f s'):SP X pins D f s':=by
 cases f with
 | next=>obtain ⟨σ',H',I,q⟩:=h;exact ⟨σ',H',I.unwish,q⟩
 | brk=>obtain ⟨σ',H',I,q⟩:=h;exact ⟨σ',H',I.unwish,q⟩
 | cont=>obtain ⟨σ',H',I,q⟩:=h;exact ⟨σ',H',I.unwish,q⟩
 | ret u=>obtain ⟨v,σ',H',I,r,q⟩:=h;exact ⟨v,σ',H',I.unwish,r,q⟩
theorem PSs.nox {st:List Stmt} {t:TS} (h:PSs X.nox st t):PSs X st t:=fun pins s σ H D I hw=>
 wpAny_mono (h pins s σ H D (I.wish _) hw) (fun _ _ q=>q.unwish) fun _ _ z=>False.elim z
end
section
variable {X:Cx} {st:Stmt} {rest:List Stmt} {t u:TS} {e:Expr} {te:TE} {pos:Pos}
def Wv:TS:=fun D σ H=>D.nx σ H
def Xx (t u:TS):TS:=fun D σ H=>t { D with nx:=u D } σ H
theorem TF:PSs X [] Wv:=fun _ _ σ H _ I h=>wpAny_execs_nil ⟨σ,H,I,h⟩
theorem Q2 (h1:PS X st t) (h2:PSs X rest u):PSs X (st :: rest) (Xx t u):=by
 intro pins s σ H D I h
 refine wpAny_execs_cons (thn (h1 pins s σ H { D with nx:=u D } I h) fun f s1 q=>?_)
 cases f with
 | next=>
   obtain ⟨σ',H',I',q⟩:=q
   exact h2 pins s1 σ' H' D I' q
 | ret v=>exact q
 | brk=>exact q
 | cont=>exact q
theorem TH (h1:PS X st t):PSs X [st] t:=by
 intro pins s σ H D I h
 refine wpAny_execs_cons (thn (h1 pins s σ H D I h) fun f s1 q=>?_)
 cases f with
 | next=>exact wpAny_execs_nil q
 | ret v=>exact q
 | brk=>exact q
 | cont=>exact q
theorem Inv.quiet {pins:List (Addr×Obj)} {σ:St} {H:Hp} {s:Shared} (I:Inv X pins σ H s):interactive X.env=false:=by simp [interactive,I.ok.kind]
def Se (te:TE):TS:=fun D σ H=>te σ H fun _ H1=>D.nx σ H1
theorem JG (he:PE X e te) (hs:swapsWith e none pos.line X.env=pure false:=by rfl):PS X (.Expr e pos) (Se te):=by
 intro pins s σ H D I h
 exact wpAny_Expr_any (thn (he pins s σ H _ I h) fun v s1 ⟨x,H1,I1,r1,q1⟩=>⟨σ,H1,I1,q1⟩) I.quiet hs
def Xw (te:TE):TS:=fun D σ H=>te σ H D.rt
theorem Vg (he:PE X e te):PS X (.Return (some e) pos) (Xw te):=by
 intro pins s σ H D I h
 exact wpAny_Return_some (thn (he pins s σ H _ I h) fun v s1 ⟨x,H1,I1,r1,q1⟩=>⟨x,σ,H1,I1,r1,q1⟩)
def Xs (c:TT) (t u:TS):TS:=fun D σ H=>c σ H fun b H1=>if b=true then t D σ H1 else u D σ H1
theorem Wn {c:Expr} {a b:List Stmt} {tc:TT} (hc:PT X c tc) (ha:PSs X a t) (hb:PSs X b u):PS X (.If c a b pos) (Xs tc t u):=by
 intro pins s σ H D I h
 refine wpAny_If (thn (hc pins s σ H _ I h) fun d s1 ⟨H1,I1,q1⟩=>?_)
 cases d with
 | true=>exact ha pins s1 σ H1 D I1 q1
 | false=>exact hb pins s1 σ H1 D I1 q1
end
abbrev TG:=V→St→Hp→(St→Hp→Prop)→Prop
abbrev TGs:=List V→St→Hp→(St→Hp→Prop)→Prop
def PG (X:Cx) (target:Expr) (t:TG):Prop:=
 ∀(pins:List (Addr×Obj)) (s:Shared) (σ:St) (H:Hp) (v:V) (u:Value) (Q:St→Hp→Prop),Inv X pins σ H s→RelV v u→t v σ H Q→
  wpAny (model X.prog X.w) X.A (assign target X.env u) (fun _ s'=>∃σ' H',Inv X pins σ' H' s'∧Q σ' H') X.xe s
def PGs (X:Cx) (ts:List Expr) (t:TGs):Prop:=
 ∀(pins:List (Addr×Obj)) (s:Shared) (σ:St) (H:Hp) (vs:List V) (us:List Value) (Q:St→Hp→Prop),Inv X pins σ H s→Vals vs us→t vs σ H Q→
  wpAny (model X.prog X.w) X.A (assignInOrder ((assignEach ts X.env).map (·.2)) us) (fun _ s'=>∃σ' H',Inv X pins σ' H' s'∧Q σ' H') X.xe s
abbrev Qj:=V→V→V→Hp→(Hp→Prop)→Prop
def Qe (X:Cx) (t:Qj):Prop:=
 ∀(pins:List (Addr×Obj)) (s:Shared) (σ:St) (H:Hp) (o i v:V) (ov iv u:Value) (Q:Hp→Prop),Inv X pins σ H s→RelV o ov→RelV i iv→RelV v u→t o i v H Q→
  wpAny (model X.prog X.w) X.A (setItem ov iv u) (fun _ s'=>∃H',Inv X pins σ H' s'∧Q H') X.xe s
section
variable {X:Cx} {pos:Pos}
def Ir (i:Nat):TG:=fun v σ H Q=>Q (σ.set i (some v)) H
theorem Ts {i:Nat} {x:Str} (hN:X.N.Nodup) (hi:X.N[i]?=some x) (hx:Loc X.env.scope x) (hf:X.fn x=true∨X.env.scope.names.lookup x=some .local:=by first | exact .inl rfl | exact .inr rfl | assumption):PG X (.Name x pos) (Ir i):=by
 intro pins s σ H v u Q I r h
 exact wpAny_assign_Name (Mj I hN hi hx r (fun s' I'=>⟨_,H,I',h⟩) hf)
def Xh:TGs:=fun vs σ H Q=>vs=[]∧Q σ H
def RU (t:TG) (u:TGs):TGs:=fun vs σ H Q=>∃v r,vs=v :: r∧t v σ H fun σ' H'=>u r σ' H' Q
theorem Tt:PGs X [] Xh:=by
 intro pins s σ H vs us Q I r h
 obtain ⟨e,h⟩:=h
 subst e
 cases r
 exact assignInOrder_nil ⟨σ,H,I,h⟩
theorem QV {e:Expr} {es:List Expr} {t:TG} {u:TGs} (h1:PG X e t) (h2:PGs X es u)
 (hs:(assignEach (e :: es) X.env).map (·.2)=assign e X.env :: (assignEach es X.env).map (·.2):=by rfl):PGs X (e :: es) (RU t u):=by
 intro pins s σ H vs us Q I r h
 obtain ⟨v,vr,e1,h⟩:=h
 subst e1
 cases r with
 | cons r rr=>
   rw [hs]
   refine assignInOrder_cons (thn (h1 pins s σ H _ _ _ I r h) fun _ s1 ⟨σ1,H1,I1,q1⟩=>?_)
   exact h2 pins s1 σ1 H1 _ _ Q I1 rr q1
def Xj (K:PySem.W.Frag) (n:Nat) (t:TGs):TG:=fun v σ H Q=>∃a xs,v = .ref a∧SqT K H a xs∧xs.length=n∧t xs σ H Q
theorem Vf {es:List Expr} {k:Nat} {t:TGs} {n:Nat} (hc:X.calm=true) (h:PGs X es t)
 (hn:(assignEach es X.env).length=n:=by rfl) (hst:(assignEach es X.env).findIdx? (·.1)=none:=by rfl):PG X (.Tuple es k pos) (Xj X.K n t):=by
 intro pins s σ H v u Q I r hw
 obtain ⟨a,xs,e1,hq,hl,hw⟩:=hw
 subst e1
 cases r
 obtain ⟨its,rv,ht,hz⟩:=I.tuple hq
 refine assign_Tuple_tuple (I.ok.hd hc) ht (by simp [hn,←hl,rv.length]) hst fun h' hx=>?_
 have I1:Inv X pins σ H { s with heap:=h' }:=I.kept (t':=s.toks) fun b o e=>hx b o (Nat.ne_of_lt (Heap.lt_size e)) e
 exact h pins _ σ H xs _ Q I1 (by simpa using rv) hw
def Xi (to ti:TE) (t:Qj):TG:=fun v σ H Q=>to σ H fun o H1=>ti σ H1 fun i H2=>t o i v H2 fun H3=>Q σ H3
theorem Pv {o i:Expr} {to ti:TE} {t:Qj} (ho:PE X o to) (hi:PE X i ti) (hs:Qe X t)
 (ha:∀v,assign (.Subscript o i pos) X.env v=(do
   let ov ←holding [v] (eval o X.env)
   let iv ←holding [v,ov] (eval i X.env)
   standAt pos
   holding [v,ov,iv] (setItem ov iv v)
   release [v,ov,iv] []):=by intro _;rfl):PG X (.Subscript o i pos) (Xi to ti t):=by
 intro pins s σ H v u Q I r h
 rw [ha]
 refine wpAny_bind (wpAny_holding (thn (ho pins s σ H _ I h) fun ov s1 ⟨x,H1,I1,r1,q1⟩=>?_))
 refine wpAny_bind (wpAny_holding (thn (hi pins s1 σ H1 _ I1 q1) fun iv s2 ⟨y,H2,I2,r2,q2⟩=>?_))
 refine wpAny_bind (wpAny_standAt (wpAny_bind (wpAny_holding (thn (hs pins s2 σ H2 x y v ov iv u _ I2 r1 r2 r q2) fun _ s3 ⟨H3,I3,q3⟩=>?_))))
 exact wpAny_release ⟨σ,H3,I3,q3⟩
def Mm (te:TE) (g:TG):TS:=fun D σ H=>te σ H fun x H1=>g x σ H1 D.nx
theorem PB {tg e:Expr} {te:TE} {g:TG} (he:PE X e te) (hg:PG X tg g) (hs:swapsWithSole [tg] e pos.line X.env=pure false:=by rfl) (hw:swappedStores [tg] e X.env=pure none:=by rfl)
 (h1:(assignEach [tg] X.env).map (·.2)=[assign tg X.env]:=by rfl):PS X (.Assign [tg] e pos) (Mm te g):=by
 intro pins s σ H D I h
 refine wpAny_Assign_stores (thn (he pins s σ H _ I h) fun v s1 ⟨x,H1,I1,r1,q1⟩=>?_) hs hw
 rw [h1]
 exact thn (hg pins s1 σ H1 x v _ I1 r1 q1) fun _ s2 q=>q
theorem PD {i:Nat} {x:Str} {e:Expr} {te:TE} {pos':Pos} (hN:X.N.Nodup) (hi:X.N[i]?=some x) (hx:Loc X.env.scope x) (he:PE X e te) (hs:swapsWith e (some (.Name x pos')) pos.line X.env=pure false:=by rfl) (hf:X.fn x=true∨X.env.scope.names.lookup x=some .local:=by first | exact .inl rfl | exact .inr rfl | assumption) :
 PS X (.Assign [.Name x pos'] e pos) (Mm te (Ir i)):=by
 intro pins s σ H D I h
 refine wpAny_Assign_Name (thn (he pins s σ H _ I h) fun v s1 ⟨y,H1,I1,r1,q1⟩=>?_) hs
 exact Mj I1 hN hi hx r1 (fun s2 I2=>⟨_,H1,I2,q1⟩) hf
end
section
variable {X:Cx} {pos:Pos}
def PX (c:TT) (tb:TS):TS:=fun D σ H=>∃W:Nat→St→Hp→Prop,(∃m,W m σ H)∧∀m σ H,W m σ H→
 c σ H fun b H1=>if b=true then ∃N:St→Hp→Prop,(∀σ' H',N σ' H'→∃m',m' < m∧W m' σ' H')∧tb { D with nx:=N,ct:=N,bk:=D.nx } σ H1 else D.nx σ H1
theorem Q1 {c:Expr} {body:List Stmt} {tc:TT} {tb:TS} (hp:PassesOwn (model X.prog X.w) X.A X.env X.xe) (hc:PT X c tc) (hb:PSs X body tb):PS X (.While c body [] pos) (PX tc tb):=by
 intro pins s σ H D I h
 obtain ⟨W,⟨m0,w0⟩,turn⟩:=h
 refine wpAny_While (codeAny_whileLoop (fun n s'=>∃σ' H',Inv X pins σ' H' s'∧W n σ' H') ?_ m0 ⟨σ,H,I,w0⟩)
 rintro n s1 ⟨σ1,H1,I1,w1⟩
 refine wpAny_passesOwn hp (thn (hc pins s1 σ1 H1 _ I1 (turn n σ1 H1 w1)) fun b s2 ⟨H2,I2,q2⟩=>?_)
 cases b with
 | true=>
   obtain ⟨N,hN,q2⟩:=q2
   rw [if_pos rfl]
   refine wpAny_passesOwn hp (thn (hb pins s2 σ1 H2 _ I2 q2) fun f s3 q3=>?_)
   cases f with
   | next=>
     obtain ⟨σ3,H3,I3,n3⟩:=q3
     obtain ⟨m',hm,w3⟩:=hN σ3 H3 n3
     exact ⟨m',hm,σ3,H3,I3,w3⟩
   | cont=>
     obtain ⟨σ3,H3,I3,n3⟩:=q3
     obtain ⟨m',hm,w3⟩:=hN σ3 H3 n3
     exact ⟨m',hm,σ3,H3,I3,w3⟩
   | brk=>exact q3
   | ret v=>exact q3
 | false=>
   rw [if_neg Bool.false_ne_true]
   exact wpAny_execs_nil ⟨σ1,H2,I2,q2⟩
end
structure It where
 go:Nat→Hp→Prop
 yld:Nat→Hp→V→Hp→Prop
 stop:Nat→Hp→Prop
def FpOk (X:Cx) (pins:List (Addr×Obj)) (H:Hp) (b:Addr):Prop:=
 H b=none∧b≠X.env.locals∧b∉X.fs∧(b∈X.ex∨X.s₀.heap.objs.size≤b)∧(∀x c,X.env.cells.lookup x=some c→c≠b)∧∀p∈X.pn++pins,p.1≠b
theorem Inv.fpOk {X:Cx} {pins:List (Addr×Obj)} {σ:St} {H H':Hp} {s:Shared} {b:Addr} (I:Inv X pins σ H s) (hb:s.heap.objs.size≤b) (hn:H' b=none):FpOk X pins H' b:=by
 refine ⟨hn,Nat.ne_of_gt (Nat.lt_of_lt_of_le I.lt hb),I.nofs hb,.inr (Nat.le_trans I.sz hb),fun x c e z=>?_,fun p hp z=>?_⟩
 ·obtain ⟨v,q⟩:=I.cell x c e
  exact absurd (Nat.lt_of_lt_of_le q.lt (by rw [z];exact hb)) (Nat.lt_irrefl _)
 ·exact absurd (Nat.lt_of_lt_of_le (Heap.lt_size (I.pin p hp).1) (by rw [z];exact hb)) (Nat.lt_irrefl _)
structure Turn (P:Program) (w:World) (K:PySem.W.Frag) (tg:Expr) (J:It) (fp:List Addr) (it:Addr) (tn:Nat→Heap→Prop):Prop where
 mem:it∈fp
 obj:∀i h,tn i h→∀b∈fp,∃o,h.get? b=some o∧∀v,o.data≠.cell v
 keep:∀i h h',tn i h→(∀b∈fp,∀o,h.get? b=some o→h'.get? b=some o)→tn i h'
 item:∀(X:Cx),X.prog=P→X.w=w→X.K=K→X.calm=true→∀(i:Nat) (pins:List (Addr×Obj)) (s:Shared) (σ:St) (H:Hp) (E:Value→Shared→Prop),Inv X pins σ H s→(∀b∈fp,FpOk X pins H b)→tn i s.heap→J.go i H→
  wpAny (model P w) X.A (pyNext (.ref it)) (fun r s1=>∃u,r=some u∧
   wpAny (model P w) X.A (letOwnedTupleGo tg (.ref it) u) (fun _ s2=>∃x H',Inv X pins σ H' s2∧RelV x u∧J.yld i H x H'∧tn (i + 1) s2.heap∧∀b∈fp,H' b=none) E s1) E s
 done:∀(X:Cx),X.prog=P→X.w=w→X.K=K→X.calm=true→∀(i:Nat) (pins:List (Addr×Obj)) (s:Shared) (σ:St) (H:Hp) (E:Value→Shared→Prop),Inv X pins σ H s→(∀b∈fp,FpOk X pins H b)→tn i s.heap→J.stop i H→
  wpAny (model P w) X.A (pyNext (.ref it)) (fun r s1=>r=none∧Inv X pins σ H s1) E s
 self:∀(A:Around) (i:Nat) (s:Shared) (Q:Value→Shared→Prop) (E:Value→Shared→Prop),tn i s.heap→Q (.ref it) s→wpAny (model P w) A (pyIter (.ref it)) Q E s
abbrev TI:=St→Hp→(It→Hp→Prop)→Prop
def PIE (X:Cx) (pins:List (Addr×Obj)) (σ:St) (tg:Expr) (R:It→Hp→Prop) (itv:Value) (s2:Shared):Prop:=
 ∃(it:Addr) (fp:List Addr) (tn:Nat→Heap→Prop) (J:It) (H':Hp),itv = .ref it∧Inv X pins σ H' s2∧Turn X.prog X.w X.K tg J fp it tn∧tn 0 s2.heap∧(∀b∈fp,FpOk X pins H' b)∧R J H'
def PI (X:Cx) (tg iter:Expr) (wi:TI):Prop:=
 ∀(pins:List (Addr×Obj)) (s:Shared) (σ:St) (H:Hp) (R:It→Hp→Prop),Inv X pins σ H s→wi σ H R→
  wpAny (model X.prog X.w) X.A (eval iter X.env) (fun v s1=>wpAny (model X.prog X.w) X.A (pyIter v) (PIE X pins σ tg R) X.xe s1) X.xe s
theorem KI {M:Model} {A:Around} {E:Value→Shared→Prop} {s:Shared} {tg:Expr} {it:Addr} {u:Value} {o:Obj} {n:String} {vs:Array Value} {Q:Unit→Shared→Prop} (ho:s.heap.get? it=some o) (hc:o.cls = .type n) (hd:o.data = .fields vs)
 (hn:["enumerate", "zip", "dict_itemiterator", "dict_reverseitemiterator", "odict_iterator", "itertools.zip_longest", "itertools.pairwise"].contains n=false) (hQ:Q () s):wpAny M A (letOwnedTupleGo tg (.ref it) u) Q E s:=by
 unfold letOwnedTupleGo
 cases tg <;> first
  | exact wpAny_pure hQ
  | (cases u <;> first
      | exact wpAny_pure hQ
      | (refine wpAny_bind (wpAny_load ho ?_)
         rw [hc,hd]
         show wpAny M A (if (["enumerate", "zip", "dict_itemiterator", "dict_reverseitemiterator", "odict_iterator", "itertools.zip_longest", "itertools.pairwise"].contains n && vs[0]? == some (rawInt _))=true then _ else _) Q E s
         rw [if_neg (by intro h;rw [hn,Bool.false_and] at h;cases h)]
         exact wpAny_pure hQ))
def Itl (K:PySem.W.Frag) (a:Addr):It:=
 ⟨fun i H=>∃xs x,SqL K H a xs∧xs[i]?=some x,fun i H x H'=>H'=H∧∀xs,SqL K H a xs→xs[i]?=some x,fun i H=>∃xs,SqL K H a xs∧xs.length≤i⟩
def Itt (K:PySem.W.Frag) (a:Addr):It:=
 ⟨fun i H=>∃xs x,SqT K H a xs∧xs[i]?=some x,fun i H x H'=>H'=H∧∀xs,SqT K H a xs→xs[i]?=some x,fun i H=>∃xs,SqT K H a xs∧xs.length≤i⟩
def Itr (lo:Int) (n:Nat):It:=⟨fun i _=>i < n,fun i H x H'=>H'=H∧x = .int (lo + i),fun i _=>n≤i⟩
theorem PZ {P:Program} {w:World} {K:PySem.W.Frag} {tg:Expr} (a it:Addr):Turn P w K tg (Itl K a) [it] it (fun i h=>h.IsListIter it a i) where
 mem:=by simp
 obj:=fun i h st b hb=>by
  have e:b=it:=by simpa using hb
  subst e
  obtain ⟨o,e,c,d⟩:=st
  exact ⟨o,e,fun v z=>by rw [d] at z;cases z⟩
 keep:=fun i h h' st k=>st.at fun o e=>k it (by simp) o e
 item:=by
  intro X hP hw hK hc i pins s σ H E I hf st hg
  subst hP hw hK
  obtain ⟨xs,x,hq,hx⟩:=hg
  obtain ⟨its,rv,p,hz⟩:=I.list hq
  obtain ⟨u,hu,ru⟩:=rv.get hx
  obtain ⟨f0,f1,f2,f3,f4,f5⟩:=hf it (by simp)
  refine wpAny_pyNext_list_item st p.isList (x:=u) (by simpa using hu) fun h' st' sb=>?_
  have I1:Inv X pins σ H { s with heap:=h' }:=I.turned (t':=s.toks) (fun b o hb e=>(sb.2 b hb).trans e) f0 f1 f3 f4 f5
  obtain ⟨o,e,c,d⟩:=id st'
  exact ⟨u,rfl,KI (s:={ s with heap:=h' }) e c d (by decide) ⟨x,H,I1,ru,⟨rfl,fun ys hy=>by rw [I.list_inj hy hq];exact hx⟩,st',fun b hb=>(hf b hb).1⟩⟩
 done:=by
  intro X hP hw hK hc i pins s σ H E I hf st hg
  subst hP hw hK
  obtain ⟨xs,hq,hx⟩:=hg
  obtain ⟨its,rv,p,hz⟩:=I.list hq
  obtain ⟨f0,f1,f2,f3,f4,f5⟩:=hf it (by simp)
  have hl:=rv.length
  exact wpAny_pyNext_list_end (I.ok.hd hc) st p.isList (by simp;lia) fun h' eb=>⟨rfl,I.turned (t':=s.toks) (fun b o hb e=>eb b o hb e) f0 f1 f3 f4 f5⟩
 self:=fun _ _ _ _ _ st h=>wpAny_pyIter_listiter st h
theorem On {P:Program} {w:World} {K:PySem.W.Frag} {tg:Expr} (a it:Addr):Turn P w K tg (Itt K a) [it] it (fun i h=>h.IsTupleIter it a i) where
 mem:=by simp
 obj:=fun i h st b hb=>by
  have e:b=it:=by simpa using hb
  subst e
  obtain ⟨o,e,c,d⟩:=st
  exact ⟨o,e,fun v z=>by rw [d] at z;cases z⟩
 keep:=fun i h h' st k=>st.at fun o e=>k it (by simp) o e
 item:=by
  intro X hP hw hK hc i pins s σ H E I hf st hg
  subst hP hw hK
  obtain ⟨xs,x,hq,hx⟩:=hg
  obtain ⟨its,rv,p,hz⟩:=I.tuple hq
  obtain ⟨u,hu,ru⟩:=rv.get hx
  obtain ⟨f0,f1,f2,f3,f4,f5⟩:=hf it (by simp)
  refine wpAny_pyNext_tuple_item st (show s.heap.IsTuple a its.toArray from p) (x:=u) (by simpa using hu) fun h' st' sb=>?_
  have I1:Inv X pins σ H { s with heap:=h' }:=I.turned (t':=s.toks) (fun b o hb e=>(sb.2 b hb).trans e) f0 f1 f3 f4 f5
  obtain ⟨o,e,c,d⟩:=id st'
  exact ⟨u,rfl,KI (s:={ s with heap:=h' }) e c d (by decide) ⟨x,H,I1,ru,⟨rfl,fun ys hy=>by rw [I.tuple_inj hy hq];exact hx⟩,st',fun b hb=>(hf b hb).1⟩⟩
 done:=by
  intro X hP hw hK hc i pins s σ H E I hf st hg
  subst hP hw hK
  obtain ⟨xs,hq,hx⟩:=hg
  obtain ⟨its,rv,p,hz⟩:=I.tuple hq
  obtain ⟨f0,f1,f2,f3,f4,f5⟩:=hf it (by simp)
  have hl:=rv.length
  exact wpAny_pyNext_tuple_end (I.ok.hd hc) st (show s.heap.IsTuple a its.toArray from p) (by simp;lia) fun h' eb=>⟨rfl,I.turned (t':=s.toks) (fun b o hb e=>eb b o hb e) f0 f1 f3 f4 f5⟩
 self:=fun _ _ _ _ _ st h=>wpAny_pyIter_tupleiter st h
theorem Om {P:Program} {w:World} {K:PySem.W.Frag} {tg:Expr} (it:Addr) (lo:Int) (n:Nat):Turn P w K tg (Itr lo n) [it] it (fun i h=>IsRangeIter h it (lo + (i:Nat) * 1) ((n:Int) - (i:Nat)) 1) where
 mem:=by simp
 obj:=fun i h st b hb=>by
  have e:b=it:=by simpa using hb
  subst e
  exact ⟨_,st,fun v z=>by
   have z':Data.fields _=Data.cell v:=z
   cases z'⟩
 keep:=fun i h h' st k=>k it (by simp) _ st
 item:=by
  intro X hP hw hK hc i pins s σ H E I hf st hg
  subst hP hw hK
  obtain ⟨f0,f1,f2,f3,f4,f5⟩:=hf it (by simp)
  have W:=Walks.range (prog:=X.prog) (w:=X.w) (I.ok.hd hc) it lo 1 n
  refine wpAny_with_toks (Nat.le_refl s.toks) (W.item i s _ _ hg st fun v h' tk hv st' kk htk=>?_)
  obtain ⟨t,rfl⟩:=hv
  have I1:Inv X pins σ H { s with heap:=h',toks:=tk }:=I.turned (fun b o hb e=>kk b o (by simpa using hb) e) f0 f1 f3 f4 f5
  refine ⟨_,rfl,KI (s:={ s with heap:=h',toks:=tk }) (n:="range_iterator") st' rfl rfl (by decide) ⟨.int (lo + i),H,I1,⟨t,?_⟩,⟨rfl,rfl⟩,st',fun b hb=>(hf b hb).1⟩⟩
  rw [Int.mul_one]
 done:=by
  intro X hP hw hK hc i pins s σ H E I hf st hg
  subst hP hw hK
  obtain ⟨f0,f1,f2,f3,f4,f5⟩:=hf it (by simp)
  exact wpAny_pyNext_range_end (I.ok.hd hc) st (by have:n≤i:=hg;lia) fun h' eb=>⟨rfl,I.turned (t':=s.toks) (fun b o hb e=>eb b o hb e) f0 f1 f3 f4 f5⟩
 self:=fun _ _ _ _ _ st h=>wpAny_pyIter_rangeiter st h
section
variable {X:Cx} {tg:Expr}
theorem Q6 {pins:List (Addr×Obj)} {σ:St} {H:Hp} {s:Shared} {R:It→Hp→Prop} {E:Value→Shared→Prop} {lo hi:Int} {t u v:Tok} {tk:Nat} (I:Inv X pins σ H s) (h1 : -(2 ^ 62)≤lo) (h2:lo < 2 ^ 62) (h3 : -(2 ^ 62)≤hi) (h4:hi < 2 ^ 62)
 (q:R (Itr lo (hi - lo).toNat) H) (ht:s.toks≤tk:=by first | exact Nat.le_refl _ | assumption | lia | (dsimp only;lia)):wpAny (model X.prog X.w) X.A (pyIter (.ref s.heap.objs.size)) (PIE X pins σ tg R) E { s with heap:=s.heap.push { cls:=.type "range",data:=.fields #[.int lo t,.int hi u,.int 1 v] },toks:=tk }:=by
 refine wpAny_pyIter_range (IsRange.new ..) (small_one h1 h2 h3 h4) ?_
 have I1:Inv X pins σ H { s with heap:=s.heap.push { cls:=.type "range",data:=.fields #[.int lo t,.int hi u,.int 1 v] },toks:=tk }:=I.kept fun b o e=>Heap.get?_push_of_some _ e
 refine ⟨(s.heap.push { cls:=.type "range",data:=.fields #[.int lo t,.int hi u,.int 1 v] }).objs.size,[(s.heap.push { cls:=.type "range",data:=.fields #[.int lo t,.int hi u,.int 1 v] }).objs.size],_,_,H,rfl,
  I1.kept (t':=tk) fun b o e=>Heap.get?_push_of_some _ e,Om _ lo (hi - lo).toNat,?_,fun b hb=>?_,q⟩
 ·have e1:lo + ((0:Nat):Int) * 1=lo:=by simp
  have e2:(((hi - lo).toNat:Nat):Int) - ((0:Nat):Int)=Builtin.Range.rangeSize lo hi 1:=by rw [rangeSize_one];split <;> lia
  show IsRangeIter _ _ (lo + ((0:Nat):Int) * 1) ((((hi - lo).toNat:Nat):Int) - ((0:Nat):Int)) 1
  rw [e1,e2]
  exact Heap.get?_push_size _ rfl
 ·have e:b=(s.heap.push { cls:=.type "range",data:=.fields #[.int lo t,.int hi u,.int 1 v] }).objs.size:=by simpa using hb
  subst e
  exact I1.fpOk (Nat.le_refl _) (I1.hok.fresh (Nat.le_refl _))
def Wa (ta:TA):TI:=fun σ H R=>ta σ H fun vs H1=>∃j:Int,vs=[.int j]∧-(2 ^ 62)≤j∧j < 2 ^ 62∧R (Itr 0 j.toNat) H1
theorem Px {a:Expr} {ta:TA} {p pos:Pos} (hg:Gl X "range") (hm:X.mg "range" = none) (ha:PA X [a] ta) (hs:starEach [a] X.env=[(false,eval a X.env)]:=by rfl):PI X tg (.Call (.Name "range" p) [a] [] pos) (Wa ta):=by
 intro pins s σ H R I h
 refine Call_ (Iw I hg hm boot_range (PyProof.Rows.callWith_type1 (thn (ha pos pins s σ H _ I h) fun us s1 ⟨vs,H1,I1,r1,q1⟩=>?_) hs rfl))
 obtain ⟨j,e,q1,q2,q⟩:=q1
 subst e
 cases r1 with
 | cons r rr=>
   cases rr
   obtain ⟨t,rfl⟩:=r
   exact call_range_1 (Q6 I1 (by lia) (by lia) q1 q2 (by simpa using q))
def Rk (wi:TI) (g:TG) (tb:TS):TS:=fun D σ H=>wi σ H fun J H1=>∃W:Nat→Nat→St→Hp→Prop,(∃m,W 0 m σ H1)∧∀i m σ H,W i m σ H→
 (J.stop i H∧D.nx σ H)∨(J.go i H∧∃N:St→Hp→Prop,(∀σ' H',N σ' H'→∃m',m' < m∧W (i + 1) m' σ' H')∧∀x H',J.yld i H x H'→g x σ H' fun σ2 H2=>tb { D with nx:=N,ct:=N,bk:=D.nx } σ2 H2)
def G5 (fp:List Addr) (h:Heap):List (Addr×Obj):=fp.filterMap fun b=>(h.get? b).map fun o=>(b,o)
theorem E1 {fp:List Addr} {h:Heap} {b:Addr} {o:Obj} (hb:b∈fp) (e:h.get? b=some o):(b,o)∈G5 fp h:=List.mem_filterMap.mpr ⟨b,hb,by rw [e];rfl⟩
theorem Pn {fp:List Addr} {h:Heap} {p:Addr×Obj} (hp:p∈G5 fp h):p.1∈fp∧h.get? p.1=some p.2:=by
 obtain ⟨b,hb,e⟩:=List.mem_filterMap.mp hp
 cases q:h.get? b with
 | none=>rw [q] at e;cases e
 | some o=>
   rw [q] at e
   have e':(b,o)=p:=Option.some.inj e
   subst e'
   exact ⟨hb,q⟩
theorem Inv.pinned {pins:List (Addr×Obj)} {σ:St} {H:Hp} {s:Shared} {fp:List Addr} (I:Inv X pins σ H s) (hf:∀b∈fp,FpOk X pins H b) (ho:∀b∈fp,∃o,s.heap.get? b=some o∧∀v,o.data≠.cell v):Inv X (pins++G5 fp s.heap) σ H s:=
 I.pins_of fun p hp=>(List.mem_append.mp hp).elim (fun z=>I.pin p (List.mem_append_right _ z)) fun z=>by
  obtain ⟨hb,e⟩:=Pn z
  obtain ⟨f0,f1,f2,_⟩:=hf p.1 hb
  obtain ⟨o,e',d⟩:=ho p.1 hb
  rw [e] at e';cases e'
  exact ⟨e,f0,f1,f2,d⟩
theorem Inv.unpinned {pins pl:List (Addr×Obj)} {σ:St} {H:Hp} {s:Shared} (I:Inv X (pins++pl) σ H s):Inv X pins σ H s:=I.pins_of fun p hp=>I.pin p (List.mem_append_right _ (List.mem_append_left _ hp))
theorem PC {iter:Expr} {body:List Stmt} {wi:TI} {g:TG} {tb:TS} {pos:Pos} (hp:PassesOwn (model X.prog X.w) X.A X.env X.xe) (hc:X.calm=true) (hi:PI X tg iter wi) (hg:PG X tg g) (hb:PSs X body tb)
 (hs:∀x,foldedSetIterable iter X.env x=pure x:=by intro _;rfl):PS X (.For tg iter body [] pos) (Rk wi g tb):=by
 intro pins s σ H D I h
 refine wpAny_For (thn (hi pins s σ H _ I h) fun v s1 h1=>thn h1 fun itv s2 h2=>?_) hs
 obtain ⟨it,fp,tn,J,H2,e,I2,T,st2,f2,W,⟨m0,w0⟩,turn⟩:=h2
 subst e
 -- what stays true of the iterator's objects through the loop
 have stat:∀{H':Hp},(∀b∈fp,H' b=none)→∀b∈fp,FpOk X pins H' b:=fun hn b hb=>⟨hn b hb,(f2 b hb).2⟩
 refine codeAny_forLoop_any (fun n s'=>∃i σ' H',Inv X pins σ' H' s'∧tn i s'.heap∧(∀b∈fp,H' b=none)∧W i n σ' H') ?_ m0 ⟨0,σ,H2,I2,st2,fun b hb=>(f2 b hb).1,w0⟩
 rintro n s3 ⟨i,σ3,H3,I3,st3,fr3,w3⟩
 rcases turn i n σ3 H3 w3 with ⟨stop,qn⟩ | ⟨go,N,hN,step⟩
 ·refine wpAny_passesOwn hp (thn (T.done X rfl rfl rfl hc i pins s3 σ3 H3 X.xe I3 (stat fr3) st3 stop) fun r s4 ⟨hr,I4⟩=>?_)
  subst hr
  exact wpAny_execs_nil ⟨σ3,H3,I4,qn⟩
 ·refine wpAny_passesOwn hp (thn (T.item X rfl rfl rfl hc i pins s3 σ3 H3 X.xe I3 (stat fr3) st3 go) fun r s4 ⟨u,hr,h4⟩=>?_)
  subst hr
  refine wpAny_passesOwn hp (thn h4 fun _ s5 ⟨x,H5,I5,r5,y5,st5,fr5⟩=>?_)
  have I5':=I5.pinned (stat fr5) (T.obj _ _ st5)
  refine wpAny_passesOwn hp (thn (hg _ s5 σ3 H5 x u _ I5' r5 (step x H5 y5)) fun _ s6 ⟨σ6,H6,I6,q6⟩=>?_)
  refine wpAny_passesOwn hp (thn (hb _ s6 σ6 H6 _ I6 q6) fun f s7 q7=>?_)
  have again:∀{σ7:St} {H7:Hp},Inv X (pins++G5 fp s5.heap) σ7 H7 s7→N σ7 H7→∃m,m < n∧∃i σ' H',Inv X pins σ' H' s7∧tn i s7.heap∧(∀b∈fp,H' b=none)∧W i m σ' H':=fun {σ7 H7} I7 n7=>by
   obtain ⟨m',hm,w7⟩:=hN σ7 H7 n7
   refine ⟨m',hm,i + 1,σ7,H7,I7.unpinned,T.keep _ _ _ st5 fun b hb o e=>(I7.pin (b,o) (List.mem_append_right _ (List.mem_append_right _ (E1 hb e)))).1,fun b hb=>?_,w7⟩
   obtain ⟨o,e,d⟩:=T.obj _ _ st5 b hb
   exact (I7.pin (b,o) (List.mem_append_right _ (List.mem_append_right _ (E1 hb e)))).2.1
  cases f with
  | next=>obtain ⟨σ7,H7,I7,n7⟩:=q7;exact again I7 n7
  | cont=>obtain ⟨σ7,H7,I7,n7⟩:=q7;exact again I7 n7
  | brk=>obtain ⟨σ7,H7,I7,q7⟩:=q7;exact ⟨σ7,H7,I7.unpinned,q7⟩
  | ret v=>obtain ⟨x7,σ7,H7,I7,r7,q7⟩:=q7;exact ⟨x7,σ7,H7,I7.unpinned,r7,q7⟩
end
abbrev R2:=V→V→Hp→VK→Prop
def OpR (X:Cx) (f:Value→Value→Sem Value) (r:R2):Prop:=
 ∀(pins:List (Addr×Obj)) (s:Shared) (σ:St) (H:Hp) (x y:V) (v u:Value) (Q:VK),Inv X pins σ H s→RelV x v→RelV y u→r x y H Q→
  wpAny (model X.prog X.w) X.A (f v u) (EP X pins σ Q) X.xe s
def UnR (X:Cx) (f:Value→Sem Value) (r:V→Hp→VK→Prop):Prop:=
 ∀(pins:List (Addr×Obj)) (s:Shared) (σ:St) (H:Hp) (x:V) (v:Value) (Q:VK),Inv X pins σ H s→RelV x v→r x H Q→
  wpAny (model X.prog X.w) X.A (f v) (EP X pins σ Q) X.xe s
def CL (X:Cx) (f:Value) (r:List V→Hp→VK→Prop):Prop:=
 ∀(pins:List (Addr×Obj)) (s:Shared) (σ:St) (H:Hp) (xs:List V) (us:List Value) (Q:VK),Inv X pins σ H s→Vals xs us→r xs H Q→
  wpAny (model X.prog X.w) X.A (call f us) (EP X pins σ Q) X.xe s
def tOp (r:R2) (ta tb:TE):TE:=fun σ H Q=>ta σ H fun x H1=>tb σ H1 fun y H2=>r x y H2 Q
def tUn (r:V→Hp→VK→Prop) (ta:TE):TE:=fun σ H Q=>ta σ H fun x H1=>r x H1 Q
def rI (C:Int→Int→Prop) (g:Int→Int→V):R2:=fun x y H Q=>∃i j,x = .int i∧y = .int j∧C i j∧Q (g i j) H
def rI0 (g:Int→Int→V):R2:=fun x y H Q=>∃i j,x = .int i∧y = .int j∧Q (g i j) H
def rU (g:Int→V):V→Hp→VK→Prop:=fun x H Q=>∃i,x = .int i∧Q (g i) H
section
variable {X:Cx} {a b c:Expr} {ta tb tc:TE} {pos:Pos}
theorem Qo (ha:PE X a ta) (hb:PE X b tb) {pins:List (Addr×Obj)} {s:Shared} {σ:St} {H:Hp} {R:V→V→Hp→Prop} (I:Inv X pins σ H s)
 (h:ta σ H fun x H1=>tb σ H1 fun y H2=>R x y H2) {Q:Value→Shared→Prop} {f:Value→Value→Sem Value}
 (hf:∀v u s2 x y H2,Inv X pins σ H2 s2→RelV x v→RelV y u→R x y H2→wpAny (model X.prog X.w) X.A (f v u) Q X.xe s2) :
 wpAny (model X.prog X.w) X.A (eval a X.env) (fun v s₁=>wpAny (model X.prog X.w) X.A (eval b X.env) (fun u s₂=>wpAny (model X.prog X.w) X.A (f v u) Q X.xe s₂) X.xe s₁) X.xe s:=by
 refine thn (ha pins s σ H _ I h) fun v s1 ⟨x,H1,I1,r1,q1⟩=>?_
 refine thn (hb pins s1 σ H1 _ I1 q1) fun u s2 ⟨y,H2,I2,r2,q2⟩=>?_
 exact hf v u s2 x y H2 I2 r1 r2 q2
theorem Wj {op:Operator} {r:R2} (ho:OpR X (binaryOp op) r) (ha:PE X a ta) (hb:PE X b tb):PE X (.BinOp a op b pos) (tOp r ta tb):=by
 intro pins s σ H Q I h
 exact wpAny_BinOp (Qo ha hb I h fun v u s2 x y H2 I2 rx ry q=>ho pins s2 σ H2 x y v u Q I2 rx ry q)
theorem Wl {op:UnaryOp} {r:V→Hp→VK→Prop} (ho:UnR X (unaryOp op) r) (ha:PE X a ta):PE X (.UnaryOp op a pos) (tUn r ta):=by
 intro pins s σ H Q I h
 exact UnaryOp_ (thn (ha pins s σ H _ I h) fun v s1 ⟨x,H1,I1,r1,q1⟩=>ho pins s1 σ H1 x v Q I1 r1 q1)
theorem opI {f:Value→Value→Sem Value} {C:Int→Int→Prop} {g:Int→Int→Int}
 (rule:∀(i j:Int) (t u:Tok) (s:Shared) (Q:Value→Shared→Prop) (E:Value→Shared→Prop),C i j→Q (.int (g i j) s.toks) { s with toks:=s.toks + 1 }→wpAny (model X.prog X.w) X.A (f (.int i t) (.int j u)) Q E s) :
 OpR X f (rI C fun i j=>.int (g i j)):=by
 intro pins s σ H x y v u Q I rx ry h
 obtain ⟨i,j,rfl,rfl,hc,q⟩:=h
 obtain ⟨t,rfl⟩:=rx
 obtain ⟨t',rfl⟩:=ry
 exact rule i j t t' s _ _ hc ⟨.int (g i j),H,I.tok _,⟨_,rfl⟩,q⟩
theorem U3 {f:Value→Value→Sem Value} {g:Int→Int→Int}
 (rule:∀(i j:Int) (t u:Tok) (s:Shared) (Q:Value→Shared→Prop) (E:Value→Shared→Prop),Q (.int (g i j) s.toks) { s with toks:=s.toks + 1 }→wpAny (model X.prog X.w) X.A (f (.int i t) (.int j u)) Q E s) :
 OpR X f (rI0 fun i j=>.int (g i j)):=by
 intro pins s σ H x y v u Q I rx ry h
 obtain ⟨i,j,rfl,rfl,q⟩:=h
 obtain ⟨t,rfl⟩:=rx
 obtain ⟨t',rfl⟩:=ry
 exact rule i j t t' s _ _ ⟨.int (g i j),H,I.tok _,⟨_,rfl⟩,q⟩
theorem QO {f:Value→Value→Sem Value} {g:Int→Int→Bool}
 (rule:∀(i j:Int) (t u:Tok) (s:Shared) (Q:Value→Shared→Prop) (E:Value→Shared→Prop),Q (.bool (g i j)) s→wpAny (model X.prog X.w) X.A (f (.int i t) (.int j u)) Q E s) :
 OpR X f (rI0 fun i j=>.bl (g i j)):=by
 intro pins s σ H x y v u Q I rx ry h
 obtain ⟨i,j,rfl,rfl,q⟩:=h
 obtain ⟨t,rfl⟩:=rx
 obtain ⟨t',rfl⟩:=ry
 exact rule i j t t' s _ _ ⟨.bl (g i j),H,I,rfl,q⟩
def Uo (i j:Int):Prop:=0≤j∧j≤1000000∧i.natAbs < 2 ^ 64
def CMul (i j:Int):Prop:=(-(2 ^ 64) < i∧i < 2 ^ 64)∨(-(2 ^ 64) < j∧j < 2 ^ 64)
theorem CMul.ok {i j:Int} (h:CMul i j):IntMulOk i j:=by
 rcases h with ⟨h1,h2⟩ | ⟨h1,h2⟩
 ·exact .of_left (intBits_le_64 h1 h2)
 ·exact .of_right (intBits_le_64 h1 h2)
theorem op_add:OpR X (binaryOp .Add) (rI0 fun i j=>.int (i + j)):=U3 fun _ _ _ _ _ _ _ q=>add_int q
theorem Ej:OpR X (binaryOp .Sub) (rI0 fun i j=>.int (i - j)):=U3 fun _ _ _ _ _ _ _ q=>sub_int q
theorem op_mul:OpR X (binaryOp .Mult) (rI CMul fun i j=>.int (i * j)):=opI fun _ _ _ _ _ _ _ hc q=>mul_int q hc.ok
theorem F7:OpR X (binaryOp .Mod) (rI (fun _ j=>0 < j) fun i j=>.int (i % j)):=opI fun i j _ _ _ _ _ hc q=>by
 have h1:(0:Int) < j:=hc
 exact mod_int' (by lia) (by rw [Int.fmod_eq_emod_of_nonneg i (by lia)];exact q)
theorem IG:OpR X (binaryOp .Pow) (rI Uo fun i j=>.int (i ^ j.toNat)):=opI fun _ _ _ _ _ _ _ hc q=>pow_int_small hc.1 hc.2.1 hc.2.2 q
theorem unI {f:Value→Sem Value} {g:Int→Int}
 (rule:∀(i:Int) (t:Tok) (s:Shared) (Q:Value→Shared→Prop) (E:Value→Shared→Prop),Q (.int (g i) s.toks) { s with toks:=s.toks + 1 }→wpAny (model X.prog X.w) X.A (f (.int i t)) Q E s) :
 UnR X f (rU fun i=>.int (g i)):=by
 intro pins s σ H x v Q I rx h
 obtain ⟨i,rfl,q⟩:=h
 obtain ⟨t,rfl⟩:=rx
 exact rule i t s _ _ ⟨.int (g i),H,I.tok _,⟨_,rfl⟩,q⟩
theorem P0:UnR X (unaryOp .USub) (rU fun i=>.int (-i)):=unI fun _ _ _ _ _ q=>neg_int q
end
section
variable {X:Cx} {a b c:Expr} {ta tb tc:TE} {pos:Pos}
theorem op_lt:OpR X (compareOp .Lt) (rI0 fun i j=>.bl (decide (i < j))):=QO fun _ _ _ _ _ _ _ q=>lt_int q
theorem op_le:OpR X (compareOp .LtE) (rI0 fun i j=>.bl (decide (i≤j))):=QO fun _ _ _ _ _ _ _ q=>le_int q
theorem op_gt:OpR X (compareOp .Gt) (rI0 fun i j=>.bl (decide (j < i))):=QO fun _ _ _ _ _ _ _ q=>gt_int q
theorem OpR.or {f:Value→Value→Sem Value} {r r':R2} (h:OpR X f r) (h':OpR X f r'):OpR X f (fun x y H Q=>r x y H Q∨r' x y H Q):=by
 intro pins s σ H x y v u Q I rx ry q
 rcases q with q | q
 ·exact h pins s σ H x y v u Q I rx ry q
 ·exact h' pins s σ H x y v u Q I rx ry q
theorem AK (b:Expr) {op:CmpOp} (h:op≠.In:=by decide) (h2:op≠.NotIn:=by decide):behindInMarks op b=false:=by
 have e1:(op == CmpOp.In)=false:=by cases op <;> first | rfl | exact absurd rfl h
 have e2:(op == CmpOp.NotIn)=false:=by cases op <;> first | rfl | exact absurd rfl h2
 cases b <;> simp [behindInMarks,e1,e2]
theorem Tq {op:CmpOp} {r:R2} (ho:OpR X (compareOp op) r) (ha:PE X a ta) (hb:PE X b tb) (hm:behindInMarks op b=false):PE X (.Compare a [op] [b] pos) (tOp r ta tb):=by
 intro pins s σ H Q I h
 exact wpAny_Compare1 (Qo ha hb I h fun v u s2 x y H2 I2 rx ry q=>ho pins s2 σ H2 x y v u Q I2 rx ry q) hm
def Sf (t:TE):TT:=fun σ H Q=>t σ H fun x H'=>∃k,x = .bl k∧Q k H'
theorem TJ {op:CmpOp} {r:R2} (ho:OpR X (compareOp op) r) (ha:PE X a ta) (hb:PE X b tb) (hm:behindInMarks op b=false):PT X (.Compare a [op] [b] pos) (Sf (tOp r ta tb)):=by
 intro pins s σ H Q I h
 refine wpAny_isTrue_Compare1 (thn (ha pins s σ H _ I h) fun v s1 ⟨x,H1,I1,r1,q1⟩=>thn (hb pins s1 σ H1 _ I1 q1) fun u s2 ⟨y,H2,I2,r2,q2⟩=>
  thn (ho pins s2 σ H2 x y v u _ I2 r1 r2 q2) fun c s3 ⟨z,H3,I3,r3,k,e,q3⟩=>?_) hm
 subst e
 cases r3
 exact wpAny_truthy_bool ⟨H3,I3,q3⟩
def Mn (r r':R2) (ta tb tc:TE):TE:=fun σ H Q=>ta σ H fun x H1=>tb σ H1 fun y H2=>r x y H2 fun z H3=>∃k,z = .bl k∧
 (if k=true then tc σ H3 fun w' H4=>r' y w' H4 Q else Q (.bl false) H3)
theorem QS {op op':CmpOp} {r r':R2} (ho:OpR X (compareOp op) r) (ho':OpR X (compareOp op') r') (ha:PE X a ta) (hb:PE X b tb) (hc:PE X c tc)
 (hm:lastMarks [op,op'] [b,c]=false:=by with_unfolding_all rfl):PE X (.Compare a [op,op'] [b,c] pos) (Mn r r' ta tb tc):=by
 intro pins s σ H Q I h
 refine Compare_chain (thn (ha pins s σ H _ I h) fun v s1 ⟨x,H1,I1,r1,q1⟩=>chain_link (thn (hb pins s1 σ H1 _ I1 q1) fun u s2 ⟨y,H2,I2,r2,q2⟩=>
  thn (ho pins s2 σ H2 x y v u _ I2 r1 r2 q2) fun d s3 ⟨z,H3,I3,r3,k,e,q3⟩=>?_)) hm
 subst e
 cases r3
 refine wpAny_truthy_bool ?_
 cases k with
 | false=>exact ite_ff ⟨.bl false,H3,I3,rfl,q3⟩
 | true=>exact ite_tt (chain_last (thn (hc pins s3 σ H3 _ I3 q3) fun w' s4 ⟨z',H4,I4,r4,q4⟩=>ho' pins s4 σ H4 y z' u w' Q I4 r2 r4 q4))
theorem Q3 {op op':CmpOp} {r r':R2} (ho:OpR X (compareOp op) r) (ho':OpR X (compareOp op') r') (ha:PE X a ta) (hb:PE X b tb) (hc:PE X c tc)
 (hm:lastMarks [op,op'] [b,c]=false:=by with_unfolding_all rfl):PT X (.Compare a [op,op'] [b,c] pos) (Sf (Mn r r' ta tb tc)):=by
 intro pins s σ H Q I h
 refine isTrue_chain (thn (ha pins s σ H _ I h) fun v s1 ⟨x,H1,I1,r1,q1⟩=>test_link (thn (hb pins s1 σ H1 _ I1 q1) fun u s2 ⟨y,H2,I2,r2,q2⟩=>
  thn (ho pins s2 σ H2 x y v u _ I2 r1 r2 q2) fun d s3 ⟨z,H3,I3,r3,k,e,q3⟩=>?_)) hm
 subst e
 cases r3
 refine wpAny_truthy_bool ?_
 cases k with
 | false=>
   obtain ⟨k',e',q'⟩:=q3
   cases e'
   exact ite_ff ⟨H3,I3,q'⟩
 | true=>
   refine ite_tt (test_last (thn (hc pins s3 σ H3 _ I3 q3) fun w' s4 ⟨z',H4,I4,r4,q4⟩=>thn (ho' pins s4 σ H4 y z' u w' _ I4 r2 r4 q4) fun d' s5 ⟨z2,H5,I5,r5,k2,e2,q5⟩=>?_))
   subst e2
   cases r5
   exact wpAny_truthy_bool ⟨H5,I5,q5⟩
theorem G1:(sizeLine:Nat) < 2 ^ 63:=by rw [sizeLine_eq];decide
theorem op_add_str:OpR X (binaryOp .Add) (fun x y H Q=>∃i j,x = .str i∧y = .str j∧i.length + j.length≤sizeLine∧Q (.str (i++j)) H):=by
 intro pins s σ H x y v u Q I rx ry h
 obtain ⟨i,j,rfl,rfl,hz,q⟩:=h
 obtain ⟨t,rfl⟩:=rx
 obtain ⟨t',rfl⟩:=ry
 exact wpAny_with_toks (Nat.le_refl s.toks) (add_str (fun t' tk ht=>⟨.str (i++j),H,I.tok _,⟨_,rfl⟩,q⟩) hz)
theorem Dt {x:V} {us:List Value} (r:Vals [x] us):∃u,us=[u]∧RelV x u:=by
 cases r with
 | cons r1 r2=>cases r2;exact ⟨_,rfl,r1⟩
theorem Sg {x y:V} {us:List Value} (r:Vals [x,y] us):∃u w',us=[u,w']∧RelV x u∧RelV y w':=by
 cases r with
 | cons r1 r2=>
   cases r2 with
   | cons r3 r4=>cases r4;exact ⟨_,_,rfl,r1,r3⟩
theorem OH:CL X (.type "int") (fun xs H Q=>(∃i,xs=[.int i]∧Q (.int i) H)∨∃k,xs=[.bl k]∧Q (.int (if k then 1 else 0)) H):=by
 intro pins s σ H xs us Q I r h
 rcases h with ⟨i,rfl,q⟩ | ⟨k,rfl,q⟩
 ·obtain ⟨u,rfl,t,rfl⟩:=Dt r
  exact call_int_int ⟨.int i,H,I,⟨_,rfl⟩,q⟩
 ·obtain ⟨u,rfl,r1⟩:=Dt r
  cases r1
  exact call_int_bool ⟨.int (if k then 1 else 0),H,I.tok _,⟨_,rfl⟩,q⟩
theorem CZ:CL X (.type "str") (fun xs H Q=>∃i,xs=[.int i]∧i.natAbs.log2 < 1920∧Q (.str (toString i)) H):=by
 intro pins s σ H xs us Q I r h
 obtain ⟨i,rfl,hz,q⟩:=h
 obtain ⟨u,rfl,t,rfl⟩:=Dt r
 exact PySem.P.str_of_int hz ⟨.str _,H,I.tok _,⟨_,rfl⟩,q⟩
def Uq (K:PySem.W.Frag) (x:V) (H:Hp) (n:Nat):Prop:=
 match x with
 | .str y=>y.length≤sizeLine∧n=y.length
 | .byt y=>y.size≤sizeLine∧n=y.size
 | .ref p=>(∃xs,SqL K H p xs∧n=xs.length)∨∃xs,SqT K H p xs∧n=xs.length
 | _=>False
theorem BM:CL X (.builtin "len") (fun xs H Q=>∃x n,xs=[x]∧Uq X.K x H n∧Q (.int n) H):=by
 intro pins s σ H xs us Q I r h
 obtain ⟨x,n,rfl,e,q⟩:=h
 obtain ⟨u,rfl,rx⟩:=Dt r
 have hl:=G1
 have hs:sizeLine=16777216:=sizeLine_eq
 cases x with
 | str y=>
   obtain ⟨t,rfl⟩:=rx
   obtain ⟨hy,e'⟩:y.length≤sizeLine∧n=y.length:=e
   subst e'
   exact len_str (by lia) ⟨.int _,H,I.tok _,⟨_,rfl⟩,q⟩
 | byt y=>
   obtain ⟨t,rfl⟩:=rx
   obtain ⟨hy,e'⟩:y.size≤sizeLine∧n=y.size:=e
   subst e'
   exact PySem.W.len_bytes (by lia) ⟨.int _,H,I.tok _,⟨_,rfl⟩,q⟩
 | ref p=>
   cases rx
   have e':(∃xs,SqL X.K H p xs∧n=xs.length)∨∃xs,SqT X.K H p xs∧n=xs.length:=e
   rcases e' with ⟨xs,hx,e'⟩ | ⟨xs,hx,e'⟩
   ·subst e'
    obtain ⟨its,r',pl,hz⟩:=I.list hx
    have hlen:=r'.length
    exact Calls.call_len_list pl.isList (by simp only [List.size_toArray];lia) ⟨.int xs.length,H,I.tok _,⟨_,by simp only [List.size_toArray];rw [hlen]⟩,q⟩
   ·subst e'
    obtain ⟨its,r',pl,hz⟩:=I.tuple hx
    have hlen:=r'.length
    exact len_tuple pl (by simp only [List.size_toArray];lia) ⟨.int xs.length,H,I.tok _,⟨_,by simp only [List.size_toArray];rw [hlen]⟩,q⟩
 | _=>exact (show False from e).elim
end
structure ObjM (h:Heap) (x dx C:Addr) (mA:Str→Option Value):Prop where
 obj:h.get? x=some (PySem.W.instObj C dx)
 ns:h.Ns1 dx mA
 ne:dx≠x
theorem Pk {h:Heap} {dx:Addr} {mA:Str→Option Value} (n:h.Ns1 dx mA):∃od,h.get? dx=some od∧∀name,PySem.W.lookIn name od=some (mA name):=by
 obtain ⟨o,es,ep,ho,hd,hk,_,hm⟩:=n
 refine ⟨o,ho,fun name=>?_⟩
 have e:=hm name
 unfold nsFind findBy at e
 rw [←Array.find?_toList] at e
 unfold PySem.W.lookIn
 rw [hd]
 dsimp only
 split
 ·rename_i y q
  rw [q] at e
  exact congrArg some e
 ·rename_i q
  rw [q] at e
  have a:es.toList.any (·.refKey)=false:=by
   rw [List.any_eq_false]
   intro y hy
   obtain ⟨z,t,hkey⟩:=hk y (Array.mem_toList_iff.mp hy)
   simp [DictEntry.refKey,hkey]
  have a':¬es.toList.any (·.refKey)=true:=by rw [a];exact Bool.false_ne_true
  rw [if_neg a']
  exact congrArg some e
theorem ObjM.look {h:Heap} {x dx C:Addr} {mA:Str→Option Value} (I:ObjM h x dx C mA):∃od,PySem.W.InstAt h x (PySem.W.instObj C dx) C (some od)∧∀name,PySem.W.lookIn name od=some (mA name):=
 let ⟨od,ho,hl⟩:=Pk I.ns
 ⟨od,⟨I.obj,rfl,rfl,ho⟩,hl⟩
section
variable {prog:Program} {w:World} {A:Around} {E:Value→Shared→Prop} {s:Shared} {K:PySem.W.Frag} {x dx C f:Addr} {mA:Str→Option Value} {name:Str} {v:Value}
end
theorem RelO.some_of {v:V} {o:Option Value} (r:RelO (some v) o):∃u,o=some u∧RelV v u:=by
 cases o with
 | none=>exact (show False from r).elim
 | some u=>exact ⟨u,rfl,r⟩
section
variable {P:Program} {w:World} {H H':Hp} {h h':Heap} {a C dx:Addr} {fs fs':List (Str×V)}
theorem SQ (hok:HOk P w H h) (e:H a=some (.ins C dx fs)):∃mA,ObjM h a dx C mA∧(∀f,RelO (fs.lookup f) (mA f))∧PySem.Within mA (fs.map (·.1))∧fs.length≤1000∧H dx=some (.own a):=by
 obtain ⟨d,z,ne,ob,mA,n,r,q⟩:=(show ObjOk P w H h a (.ins C dx fs) from hok a _ e)
 exact ⟨mA,⟨ob,n,ne⟩,r,q,z,d⟩
end
structure Cls (K:PySem.W.Frag) (C:Addr):Prop where
 pg:PySem.W.plainGet K C Str.empty=true
 hd:PySem.W.hasDictIn K C=true
 po:PySem.W.plainOver K C=true
 sa:PySem.W.findIn K (.ref C) "__setattr__" = some (some (.builtin "object.__setattr__"))
theorem Cls.get {K:PySem.W.Frag} {C:Addr} (c:Cls K C) (f:Str):PySem.W.plainGet K C f=true:=c.pg
structure Con (K:PySem.W.Frag) (C:Addr) (f:Str) (v:V) (u:Value):Prop where
 at_:PySem.W.findIn K (.ref C) f=some (some u)
 rel:RelV v u
 get:PySem.W.specialIn K u "__get__" = some none
 cp:PySem.W.copiedNames.contains f=false
structure Meth (K:PySem.W.Frag) (C:Addr) (m:Str) (f:Addr):Prop where
 at_:PySem.W.findIn K (.ref C) m=some (some (.ref f))
 fn:PySem.W.isFn K (.ref f)=true
 kp:PySem.W.keepIn K (.ref f)=true
section
variable {X:Cx} {pins:List (Addr×Obj)} {σ:St} {H:Hp} {s:Shared} {a C dx:Addr} {fs:List (Str×V)} {f:Str} {v:V} {A:Around} {E:Value→Shared→Prop}
end
section
variable {X:Cx} {o e value:Expr} {f:Str} {pos pos' tpos:Pos} {ta tv:TE}
end
section
variable {X:Cx} {pins:List (Addr×Obj)} {σ:St} {H:Hp} {s:Shared} {A:Around} {E:Value→Shared→Prop} {Q:Value→Shared→Prop} {c:Value} {b:Bool}
inductive TyOf (K:PySem.W.Frag) (H:Hp):V→Value→Prop where
 | non:TyOf K H .non (.type "NoneType")
 | bl (x:Bool):TyOf K H (.bl x) (.type "bool")
 | int (i:Int):TyOf K H (.int i) (.type "int")
 | str (x:Str):TyOf K H (.str x) (.type "str")
 | flt (x:UInt64):TyOf K H (.flt x) (.type "float")
 | lst {a:Addr} {xs:List V} (e:H a=some (.lst xs)):TyOf K H (.ref a) (.type "list")
 | frz {a:Addr} {o:Obj} {xs:List V} (e:H a=some (.frz o (.lst xs))):TyOf K H (.ref a) (.type "list")
 | tup {a:Addr} {xs:List V} (e:H a=some (.tup xs)):TyOf K H (.ref a) (.type "tuple")
 | dK {a:Addr} {kvs:List (Key×V)} (e:H a=some (.dK kvs)):TyOf K H (.ref a) (.type "dict")
 | dT {a:Addr} {kvs:List (List Key×V)} (e:H a=some (.dT kvs)):TyOf K H (.ref a) (.type "dict")
 | ins {a C dx:Addr} {fs:List (Str×V)} (e:H a=some (.ins C dx fs)) (cl:Cls K C) (ha:PySem.W.findIn K (.ref C) "__class__" = some (some (.builtin "object.__class__")))
    (hn:PySem.W.specialIn K (.builtin "object.__class__") "__get__" = some (some (.builtin "getset_descriptor.__get__"))) (htk:PySem.W.takesIn K (.builtin "object.__class__")=some true)
    (hm:PySem.W.mroIn K C (.type "object")=some true):TyOf K H (.ref a) (.ref C)
theorem O9 {x:V} {u t:Value} (I:Inv X pins σ H s) (rx:RelV x u) (ty:TyOf X.K H x t) (e:PySem.W.kitOne X.K t c=some b) (h:∀tk,Q (.bool b) { s with toks:=tk }) :
 wpAny (model X.prog X.w) A (call (.builtin "isinstance") [u,c]) Q E s:=by
 cases ty with
 | non=>cases (show u=Value.none from rx);exact PySem.W.kia_one PySem.W.kitx_none I.kIn True.intro e (fun z=>nomatch z) h
 | bl y=>cases (show u=Value.bool y from rx);exact PySem.W.kia_one PySem.W.kitx_bool I.kIn True.intro e (fun z=>nomatch z) h
 | int i=>obtain ⟨t,q⟩:=(show ∃t,u=Value.int i t from rx);cases q;exact PySem.W.kia_one PySem.W.kitx_int I.kIn True.intro e (fun z=>nomatch z) h
 | str y=>obtain ⟨t,q⟩:=(show ∃t,u=Value.str y t from rx);cases q;exact PySem.W.kia_one PySem.W.kitx_str I.kIn True.intro e (fun z=>nomatch z) h
 | flt y=>obtain ⟨t,q⟩:=(show ∃t,u=Value.float y t from rx);cases q;exact PySem.W.kia_one PySem.W.kitx_float I.kIn True.intro e (fun z=>nomatch z) h
 | @lst a xs ea=>
   cases (show u=Value.ref a from rx)
   obtain ⟨_,_,n,_,h1⟩:=(show ObjOk X.prog X.w H s.heap a (.lst xs) from I.hok a _ ea)
   exact PySem.W.kia_one PySem.W.kitx_list I.kIn ⟨_,h1,rfl⟩ e (fun z=>nomatch z) h
 | @frz a ob xs ea=>
   cases (show u=Value.ref a from rx)
   obtain ⟨_,_,_,n,_,h1⟩:=(show ObjOk X.prog X.w H s.heap a (.frz ob (.lst xs)) from I.hok a _ ea)
   exact PySem.W.kia_one PySem.W.kitx_list I.kIn ⟨_,h1,rfl⟩ e (fun z=>nomatch z) h
 | @tup a xs ea=>
   cases (show u=Value.ref a from rx)
   obtain ⟨_,_,_,p⟩:=(show ObjOk X.prog X.w H s.heap a (.tup xs) from I.hok a _ ea)
   obtain ⟨o,h1,h2,_⟩:=p
   exact PySem.W.kia_one PySem.W.kitx_tuple I.kIn ⟨o,h1,h2⟩ e (fun z=>nomatch z) h
 | @dK a kvs ea=>
   cases (show u=Value.ref a from rx)
   obtain ⟨_,_,vs,_,p⟩:=(show ObjOk X.prog X.w H s.heap a (.dK kvs) from I.hok a _ ea)
   obtain ⟨o,es,ep,h1,h2,_⟩:=p
   exact PySem.W.kia_one PySem.W.kitx_dict I.kIn ⟨o,h1,h2.1⟩ e (fun z=>nomatch z) h
 | @dT a kvs ea=>
   cases (show u=Value.ref a from rx)
   obtain ⟨_,_,xs,_,o,es,ep,h1,h2,_⟩:=(show ObjOk X.prog X.w H s.heap a (.dT kvs) from I.hok a _ ea)
   exact PySem.W.kia_one PySem.W.kitx_dict I.kIn ⟨o,h1,h2.1⟩ e (fun z=>nomatch z) h
 | @ins a C dx fs ea cl ha hn htk hm=>
   cases (show u=Value.ref a from rx)
   obtain ⟨mA,O,_⟩:=SQ I.hok ea
   obtain ⟨od,J,_⟩:=O.look
   exact PySem.W.kia_one (PySem.W.kitx_own (cl.get _) cl.hd ha hn htk hm) I.kIn J e (fun z=>nomatch z) h
end
structure Room (k:Nat) (A:Around):Prop where
 hd:A.handled=none
 dp:A.depth + 3 * k + 5 < recursionLimit
 un:A.units + 16 * k + 200 < cLine
theorem Room.deeper {k:Nat} {A:Around} (r:Room (k + 1) A) (env:Env):Room k (A.deeper env):=
 ⟨r.hd,by have:=r.dp;show A.depth + 1 + 3 * k + 5 < _;lia,by have:=r.un;show A.units + 3 + 16 * k + 200 < _;lia⟩
theorem Room.depth {k:Nat} {A:Around} (r:Room k A):A.depth < recursionLimit:=by have:=r.dp;lia
theorem Room.units {k:Nat} {A:Around} (r:Room k A):A.units + 64 < cLine:=by have:=r.un;lia
def Xu:TA:=fun _ H Q=>Q [] H
def Wt (ta:TE) (tr:TA):TA:=fun σ H Q=>ta σ H fun x H1=>tr σ H1 fun xs H2=>Q (x :: xs) H2
section
variable {X:Cx} {e:Expr} {es:List Expr} {te:TE} {t:TA} {pos:Pos}
theorem Pp:PA X [] Xu:=fun _ _ _ _ H Q I h=>Calls.spliced_nil ⟨[],H,I,.nil,h⟩
theorem Nh (ha:PE X e te) (hr:PA X es t) (hs:starEach (e :: es) X.env=(false,eval e X.env) :: starEach es X.env:=by rfl):PA X (e :: es) (Wt te t):=by
 intro pos pins s σ H Q I h
 rw [hs]
 show wpAny _ _ (spliced ((false,eval e X.env) :: backTo pos (starEach es X.env))) _ _ s
 refine Calls.spliced_cons (thn (ha pins s σ H _ I h) fun u s1 ⟨x,H1,I1,r1,q1⟩=>?_)
 exact thn (hr pos pins s1 σ H1 _ I1 q1) fun us s2 ⟨xs,H2,I2,r2,q2⟩=>⟨x :: xs,H2,I2,.cons r1 r2,q2⟩
def Xy (t:TA):TE:=fun σ H Q=>t σ H fun xs H1=>xs.length≤sizeLine∧∀p,H1 p=none→Q (.ref p) (upd H1 p (.tup xs))
def Xt (t:TA):TE:=fun σ H Q=>t σ H fun xs H1=>xs.length≤sizeLine∧∀p,H1 p=none→Q (.ref p) (upd H1 p (.lst xs))
theorem Ve {x1} (h:PA X es t):PE X (.Tuple es x1 pos) (Xy t):=by
 intro pins s σ H Q I hq
 refine wpAny_Tuple_spliced (thn (h pos pins s σ H _ I hq) fun us s1 ⟨xs,H1,I1,r,z,q⟩=>⟨by rw [←r.length];exact z,?_⟩)
 have hf:H1 s1.heap.objs.size=none:=I1.hok.fresh (Nat.le_refl _)
 refine ⟨.ref s1.heap.objs.size,upd H1 s1.heap.objs.size (.tup xs),I1.laid (t':=s1.toks) (fun b u e=>Heap.get?_push_of_some _ e) (Nat.le_refl _) ?_,rfl,q _ hf⟩
 exact ⟨z,us,r,⟨_,Heap.get?_push_size _ rfl,rfl,_,rfl⟩⟩
theorem Va (h:PA X es t):PE X (.List es pos) (Xt t):=by
 intro pins s σ H Q I hq
 refine wpAny_List_spliced (thn (h pos pins s σ H _ I hq) fun us s1 ⟨xs,H1,I1,r,z,q⟩=>⟨by rw [←r.length];exact z,?_⟩)
 have hf:H1 s1.heap.objs.size=none:=I1.hok.fresh (Nat.le_refl _)
 refine ⟨.ref s1.heap.objs.size,upd H1 s1.heap.objs.size (.lst xs),I1.laid (t':=s1.toks) (fun b u e=>Heap.get?_push_of_some _ e) (Nat.le_refl _) ?_,rfl,q _ hf⟩
 exact ⟨z,us,0,r,Heap.get?_push_size _ rfl⟩
end
abbrev Sp:=List V→Hp→VK→XK→Prop
abbrev CXT:=List Env→Hp→Shared→XK→Value→Shared→Prop
structure Env0 (P:Program) (w:World) (K:PySem.W.Frag) (mg:Str→Option Value) (base:Heap) (A:Around) (outer:List Env) (s:Shared) (H:Hp):Prop where
 frames:A.frames=some outer
 mod:Mod K mg base
 bs:∀b o,base.get? b=some o→s.heap.get? b=some o∧H b=none
 bsz:base.objs.size≤s.heap.objs.size
 funs:s.heap.FunFrames base outer
 frf:∀b∈frs outer,H b=none
 hok:HOk P w H s.heap
 bare:AllBare s.gens
 tk:Ge K≤s.toks
def CE (outer:List Env) (P:Program) (w:World) (H:Hp) (s:Shared) (Q:VK) (u:Value) (s':Shared):Prop:=
 ∃v H',s'.os=s.os∧AllBare s'.gens∧Un (frs outer) [] H H' s.heap s'.heap∧HOk P w H' s'.heap∧RelV v u∧Q v H'
def CR (CX:CXT) (outer:List Env) (P:Program) (w:World) (H:Hp) (s:Shared) (Q:VK) (E:XK) (r:Result) (s':Shared):Prop:=
 match r with
 | .ok (.ret u)=>CE outer P w H s Q u s'
 | .ok _=>False
 | .error e=>CX outer H s E e s'
structure FnOk (P:Program) (w:World) (K:PySem.W.Frag) (mg:Str→Option Value) (base:Heap) (CX:CXT) (k:Nat) (f:Addr) (fd:FuncData) (ps:List Str) (sp:Sp):Prop where
 len:∀vs H Q E,sp vs H Q E→vs.length=ps.length
 run:∀(A:Around) (outer:List Env) (s:Shared) (H:Hp) (args:Args) (us:List Value) (vs:List V) (Q:VK) (E:XK),Room k A→Env0 P w K mg base A outer s H→BindsTo s fd args (ps.zip us)→Vals vs us→sp vs H Q E→
  codeAny (model P w) A (.call (.ref f) args) (CR CX outer P w H s Q E) s
section
variable {X:Cx} {pins:List (Addr×Obj)} {σ:St} {H:Hp} {s s':Shared}
theorem Inv.env0 (I:Inv X pins σ H s):Env0 X.prog X.w X.K X.mg X.base X.A X.stack s H:=
 ⟨I.ok.frames,I.ok.mod,I.bs,Nat.le_trans I.ok.bsz I.sz,I.stack,I.stkFree,I.hok,I.bare,I.tk⟩
theorem Inv.after {Q:VK} {u:Value} (I:Inv X pins σ H s) (h:CE X.stack X.prog X.w H s Q u s') (ht:s.toks≤s'.toks):EP X pins σ Q u s':=by
 obtain ⟨v,H',os,bare,un,hok,r,q⟩:=h
 obtain ⟨hh,g,d,t,os'⟩:=s'
 obtain rfl:os'=s.os:=os
 exact ⟨v,H',I.call (h':=hh) (g':=g) (d':=d) (t':=t) (ch:=[]) un hok bare (fun b z=>absurd z (by simp)),r,q⟩
end
def Ws (sp:Sp) (dvs:List V) (E:XK) (t:TA):TE:=fun σ H Q=>t σ H fun vs H1=>sp (vs++dvs) H1 Q E
def Binds (K:PySem.W.Frag) (fd:FuncData) (ps:List Str) (ds:List Value):Prop:=
 ∀(s:Shared) (us:List Value),K.In s.heap→(us++ds).length=ps.length→BindsTo s fd ⟨us,[]⟩ (ps.zip (us++ds))
theorem Binds.all {K:PySem.W.Frag} {fd:FuncData} {ps:List Str} (h:∀us:List Value,us.length=ps.length→bindArgs fd ⟨us,[]⟩=pure (ps.zip us)):Binds K fd ps []:=fun s us _ hl=>by
 rw [List.append_nil] at hl ⊢
 exact .of_eq (h us hl)
def K0 (CX:CXT) (X:Cx) (E:XK):Prop:=∀(pins:List (Addr×Obj)) (σ:St) (H:Hp) (s:Shared) (e:Value) (s':Shared),Inv X pins σ H s→s.toks≤s'.toks→CX X.stack H s E e s'→X.xe e s'
section
variable {X:Cx} {CX:CXT} {k:Nat} {f C:Addr} {fd:FuncData} {ps:List Str} {sp:Sp} {dvs:List V} {ds:List Value} {E:XK} {x m:Str} {p pos apos:Pos} {e o:Expr} {es:List Expr} {ta:TE} {t:TA}
theorem PL {pins:List (Addr×Obj)} {σ:St} {H:Hp} {s:Shared} {Q:VK} {us:List Value} {vs:List V} (F:FnOk X.prog X.w X.K X.mg X.base CX k f fd ps sp) (hr:Room k X.A) (hb:Binds X.K fd ps ds) (hd:Vals dvs ds) (hx:K0 CX X E)
 (I:Inv X pins σ H s) (r:Vals vs us) (h:sp (vs++dvs) H Q E):wpAny (model X.prog X.w) X.A (call (.ref f) us) (EP X pins σ Q) X.xe s:=by
 have r2:Vals (vs++dvs) (us++ds):=r.append hd
 have hl:(us++ds).length=ps.length:=by rw [←r2.length];exact F.len _ _ _ _ h
 refine wpAny_call (codeAny_mono (codeAny_toks_of (Nat.le_refl s.toks) (F.run X.A X.stack s H ⟨us,[]⟩ (us++ds) (vs++dvs) Q E hr I.env0 (hb s us I.kIn hl) r2 h)) fun r s' ⟨ht,hq⟩=>?_)
 cases r with
 | error e=>exact hx pins σ H s e s' I ht hq
 | ok fl=>
   cases fl with
   | ret u=>exact I.after hq ht
   | next=>exact False.elim hq
   | brk=>exact False.elim hq
   | cont=>exact False.elim hq
theorem Tp (F:FnOk X.prog X.w X.K X.mg X.base CX k f fd ps sp) (hr:Room k X.A) (hg:Gl X x) (hm:X.mg x=some (.ref f)) (hk:PySem.W.keepIn X.K (.ref f)=true) (hb:Binds X.K fd ps ds) (hd:Vals dvs ds) (hx:K0 CX X E)
 (ha:PA X (e :: es) t) (hdb:(x == ("__debug__" : Str))=false:=by decide) (he:starEach (e :: es) X.env=(false,eval e X.env) :: starEach es X.env:=by rfl) (hpl:(backTo pos (starEach es X.env)).any (·.1)=false:=by rfl) :
 PE X (.Call (.Name x p) (e :: es) [] pos) (Ws sp dvs E t):=by
 intro pins s σ H Q I h
 refine wpAny_Call_Name_kw (Nb I hg hm ?_ hdb)
 refine PySem.W.callWith_K (h₀:=X.base) I.ok.mod.kin hk (thn (ha pos pins s σ H _ I h) fun us s1 ⟨vs,H1,I1,r,q⟩=>⟨I1.kIn,?_⟩) he hpl
 exact PL F hr hb hd hx I1 r q
structure Mk (K:PySem.W.Frag) (C f:Addr):Prop where
 makes:PySem.W.makesIn K C=true
 init:PySem.W.findIn K (.ref C) "__init__" = some (some (.ref f))
 fn:PySem.W.isFn K (.ref f)=true
 kp:PySem.W.keepIn K (.ref C)=true
end
section
variable {X:Cx} {CX:CXT} {k:Nat} {f C:Addr} {fd:FuncData} {ps ks:List Str} {sp:Sp} {E:XK} {x m:Str} {p pos apos kpos:Pos} {e o:Expr} {es:List Expr} {kws:List Keyword} {te ta:TE} {t tk:TA} {nm:Option Str}
structure KBinds (K:PySem.W.Frag) (fd:FuncData) (ps ks:List Str) (g:List Value→List Value→List Value) (gV:List V→List V→List V):Prop where
 to:∀(s:Shared) (us ws:List Value),K.In s.heap→(g us ws).length=ps.length→BindsTo s fd ⟨us,ks.zip ws⟩ (ps.zip (g us ws))
 rel:∀{vs:List V} {us:List Value} {zs:List V} {ws:List Value},Vals vs us→Vals zs ws→Vals (gV vs zs) (g us ws)
variable {g:List Value→List Value→List Value} {gV:List V→List V→List V}
end
structure FnScope (N P:List Str) (sc:Scope):Prop where
 kind:sc.kind = .function
 co:sc.isCoroutine=false
 gen:sc.isGenerator=false
 nd:N.Nodup
 pre:N.take P.length=P
 par:∀x∈P,sc.names.lookup x=some .local∨sc.names.lookup x=some .cell
 nofree:∀y∈sc.names,y.2≠.free
theorem JZ {kindOf:Str→Option NameKind} {x:Str}:∀{binds:List (Str×Value)} {m:Str→Option Value},(∀v,(x,v)∉binds)→bindL kindOf binds m x=m x
 | [],_,_=>rfl
 | (n,v) :: r,m,h=>by
   unfold bindL
   rw [JZ fun w hw=>h w (List.mem_cons_of_mem _ hw)]
   split
   ·have:x≠n:=by rintro rfl;exact h v List.mem_cons_self
    simp [this]
   ·rfl
theorem JX {kindOf:Str→Option NameKind} {x:Str}:∀{binds:List (Str×Value)} {m:Str→Option Value},(∀v,(x,v)∉binds)→bindC kindOf binds m x=m x
 | [],_,_=>rfl
 | (n,v) :: r,m,h=>by
   unfold bindC
   rw [JX fun w hw=>h w (List.mem_cons_of_mem _ hw)]
   split
   ·rfl
   ·have:x≠n:=by rintro rfl;exact h v List.mem_cons_self
    simp [this]
theorem JY {kindOf:Str→Option NameKind} {x:Str} {v:Value}:∀{P:List Str} {vs:List Value} {i:Nat} {m:Str→Option Value},P.Nodup→P[i]?=some x→vs[i]?=some v→kindOf x=some .local→
 bindL kindOf (P.zip vs) m x=some v
 | [],_,_,_,_,h,_,_=>by simp at h
 | _ :: _,[],_,_,_,_,h,_=>by simp at h
 | p :: P,w :: vs,0,m,nd,h1,h2,hk=>by
   simp at h1 h2;subst h1;subst h2
   show bindL kindOf ((p,w) :: P.zip vs) m p=_
   unfold bindL
   rw [JZ fun v hv=>(List.nodup_cons.mp nd).1 (List.of_mem_zip hv).1,if_pos hk]
   simp
 | p :: P,w :: vs,i + 1,m,nd,h1,h2,hk=>by
   show bindL kindOf ((p,w) :: P.zip vs) m x=_
   unfold bindL
   exact JY (i:=i) (List.nodup_cons.mp nd).2 (by simpa using h1) (by simpa using h2) hk
theorem JW {kindOf:Str→Option NameKind} {x:Str} {v:Value}:∀{P:List Str} {vs:List Value} {i:Nat} {m:Str→Option Value},P.Nodup→P[i]?=some x→vs[i]?=some v→kindOf x≠some .local→
 bindC kindOf (P.zip vs) m x=some v
 | [],_,_,_,_,h,_,_=>by simp at h
 | _ :: _,[],_,_,_,_,h,_=>by simp at h
 | p :: P,w :: vs,0,m,nd,h1,h2,hk=>by
   simp at h1 h2;subst h1;subst h2
   show bindC kindOf ((p,w) :: P.zip vs) m p=_
   unfold bindC
   rw [JX fun v hv=>(List.nodup_cons.mp nd).1 (List.of_mem_zip hv).1,if_neg hk]
   simp
 | p :: P,w :: vs,i + 1,m,nd,h1,h2,hk=>by
   show bindC kindOf ((p,w) :: P.zip vs) m x=_
   unfold bindC
   exact JW (i:=i) (List.nodup_cons.mp nd).2 (by simpa using h1) (by simpa using h2) hk
def DL (N:List Str) (vs:List V):St:=vs.map some++List.replicate (N.length - vs.length) none
def Gi (CX:CXT) (P:Program) (w:World) (K:PySem.W.Frag) (mg:Str→Option Value) (base:Heap) (N:List Str) (qual:Str) (scope:Scope) (f:Addr) (cd:Value) (A:Around) (outer:List Env) (s:Shared) (H:Hp) (E:XK):Cx where
 prog:=P
 w:=w
 K:=K
 mg:=mg
 base:=base
 A:=A.deeper (envOfC qual scope s.heap.objs.size f cd)
 N:=N
 s₀:=s
 H₀:=H
 env:=envOfC qual scope s.heap.objs.size f cd
 outer:=outer
 stack:=envOfC qual scope s.heap.objs.size f cd :: outer
 ex:=[]
 calm:=true
 fn:=fun _=>true
 pn:=[]
 xe:=fun e s'=>wpAny (model P w) (A.deeper (envOfC qual scope s.heap.objs.size f cd)) (leaving (envOfC qual scope s.heap.objs.size f cd) e) (fun _ s''=>CX outer H s E e s'') (fun e' s''=>CX outer H s E e' s'') s'
theorem Le {sc:Scope} {n:Nat} {x:Str} (h:sc.names.lookup x=some .cell):∃c,(cellsFrom n sc.names []).lookup x=some c:=by
 have q:=PySem.W.cellsFrom_some sc.names n [] (.inl h)
 exact Option.isSome_iff_exists.mp q
theorem O7 {CX:CXT} {P:Program} {w:World} {K:PySem.W.Frag} {mg:Str→Option Value} {base:Heap} {N ps:List Str} {qual:Str} {scope:Scope} {f:Addr} {cd:Value} {A:Around} {outer:List Env} {s s1:Shared} {H:Hp} {E:XK} {us:List Value} {vs:List V}
 (S:FnScope N ps scope) (hd:A.handled=none) (e0:Env0 P w K mg base A outer s H) (hl:vs.length=ps.length) (r:Vals vs us)
 (x:InCallC s s.heap.objs.size (bindL (envOfC qual scope s.heap.objs.size f cd).kindOf (ps.zip us) fun _=>none) (cellsFrom (s.heap.objs.size + 1) scope.names []) (bindC (envOfC qual scope s.heap.objs.size f cd).kindOf (ps.zip us) fun _=>none) s1) (ht:s.toks≤s1.toks) :
 Inv (Gi CX P w K mg base N qual scope f cd A outer s H E) [] (DL N vs) H s1:=by
 have hpl:ps.length≤N.length:=by have:=congrArg List.length S.pre;rw [List.length_take] at this;lia
 obtain ⟨h1,tk,rfl,hk⟩:=x.done
 have noA:∀b:Addr,b∉(Gi CX P w K mg base N qual scope f cd A outer s H E).ex:=fun b z=>absurd (show b∈([]:List Addr) from z) (by simp)
 refine ⟨⟨e0.mod,S.kind,rfl,rfl,Nat.le_refl _,fun y z c h1 h2=>?_,fun y hy=>?_,fun y c _ h=>?_,fun _=>hd,Around.frames_deeper e0.frames,.inr ⟨rfl,rfl⟩,fun b z=>absurd z (noA b),e0.bs,e0.bsz,fun b _ _=>noA b,fun b z=>absurd z (noA b),e0.funs,e0.frf⟩,
  rfl,e0.bare,Un.kept hk,⟨_,x.toInCall.ns,fun i y v h1 h2 h3=>?_⟩,fun y c h=>⟨_,x.cell y c h⟩,e0.hok.fresh (Nat.le_refl _),fun y c h=>?_,fun p hp=>absurd (show p∈([]:List (Addr×Obj)) from hp) (by simp),e0.hok.kept hk,?_,Nat.le_trans e0.tk ht⟩
 ·exact name_of_addr x.apart (PySem.mem_of_lookup h1) (PySem.mem_of_lookup h2)
 ·have hy:scope.names.lookup y=some .cell∨scope.names.lookup y=some .free:=hy
  rcases hy with hy | hy
  ·exact Le hy
  ·exact absurd rfl (S.nofree _ (PySem.mem_of_lookup hy))
 ·exact Nat.le_of_lt (x.above y c (PySem.mem_of_lookup h))
 ·have hi:i < vs.length:=by
   unfold DL at h2
   by_cases hi:i < vs.length
   ·exact hi
   ·rw [List.getElem?_append_right (by simpa using hi)] at h2
    rw [List.getElem?_replicate] at h2
    split at h2 <;> cases h2
  have ha:vs[i]?=some v:=by
   unfold DL at h2
   rw [List.getElem?_append_left (by simpa using hi),List.getElem?_map] at h2
   cases e:vs[i]? with
   | none=>rw [e] at h2;cases h2
   | some a=>rw [e] at h2;cases h2;rfl
  obtain ⟨u,hu,rv⟩:=r.get ha
  have hp:ps[i]?=some y:=by
   rw [←S.pre,List.getElem?_take_of_lt (by lia)];exact h1
  have ndP:ps.Nodup:=by rw [←S.pre];exact S.nd.sublist (List.take_sublist _ _)
  refine ⟨u,rv,?_⟩
  rcases S.par y (List.mem_of_getElem? hp) with k | k
  ·exact .inl ⟨k,JY ndP hp hu k⟩
  ·obtain ⟨c,e⟩:=Le (n:=s.heap.objs.size + 1) k
   refine .inr ⟨.inl k,c,e,?_⟩
   have q:=x.cell y c e
   rw [JW ndP hp hu (by show scope.names.lookup y≠_;rw [k];decide)] at q
   exact q
 ·exact .inl (e0.hok.fresh (Nat.le_of_lt (x.above y c (PySem.mem_of_lookup h))))
 ·unfold DL
  show _=N.length
  rw [List.length_append,List.length_map,List.length_replicate]
  lia
theorem RN {CX:CXT} {P:Program} {w:World} {K:PySem.W.Frag} {mg:Str→Option Value} {base:Heap} {k:Nat} {f:Addr} {name qual:Str} {params:Arguments} {body:List Stmt} {scope:Scope} {dV kV doc pm cdv ct oc:Value} {an od:Option Addr}
 {osl:Array (Option Value)} {N ps:List Str} {sp:Sp} (lk:K.lookup f=some ⟨oc,od,.func (PySem.W.fnOf name qual params body scope dV kV doc pm an cdv ct),osl⟩) (hcd:PySem.W.codeIn K cdv qual=true) (S:FnScope N ps scope)
 (len:∀vs H Q E,sp vs H Q E→vs.length=ps.length)
 (hbody:∀(A:Around) (outer:List Env) (s:Shared) (H:Hp) (vs:List V) (Q:VK) (E:XK),Room k (A.deeper (envOfC qual scope s.heap.objs.size f cdv))→sp vs H Q E→
   ∃t,PSs (Gi CX P w K mg base N qual scope f cdv A outer s H E) body t∧t { nx:=fun _ H'=>Q .non H',rt:=Q } (DL N vs) H) :
 FnOk P w K mg base CX (k + 1) f (PySem.W.fnOf name qual params body scope dV kV doc pm an cdv ct) ps sp:=by
 refine ⟨len,fun A outer s H args us vs Q E hr e0 hb r hsp=>?_⟩
 have hl:=len _ _ _ _ hsp
 have KX:K.In s.heap:=e0.mod.kin.keeps fun b o e=>(e0.bs b o e).1
 have lim:s.heap.NoLimit:=e0.mod.nolimit.keeps fun b o e=>(e0.bs b o e).1
 have hkind:∀y∈ps.zip us,scope.names.lookup y.1=some .local∨(scope.names.lookup y.1=some .cell∧((cellsFrom (s.heap.objs.size + 1) scope.names []).lookup y.1).isSome=true):=fun ⟨n,v⟩ hy=>by
  rcases S.par n (List.of_mem_zip hy).1 with q | q
  ·exact .inl q
  ·exact .inr ⟨q,PySem.W.cellsFrom_some _ _ _ (.inl q)⟩
 refine codeAny_call_function hr.depth (KX _ _ lk) rfl S.co S.gen rfl (PySem.W.codeRec_of KX hcd) (hb _ _ _ _ ?_)
 refine wpAny_with_toks (Nat.le_refl s.toks) (wpAny_newFunctionEnv_cells S.kind hkind fun env he s1 x htk=>?_)
 subst he
 refine ⟨lim.keeps x.toInCall.keep,codeAny_func ?_⟩
 obtain ⟨t,ht,hq⟩:=hbody A outer s H vs Q E (hr.deeper _) hsp
 have I:Inv (Gi CX P w K mg base N qual scope f cdv A outer s H E) [] (DL N vs) H s1:=O7 S hr.hd e0 hl r x htk
 refine wpAny_mono (ht [] s1 (DL N vs) H _ I hq) (fun fl s' hs=>?_) fun e s' hs=>hs
 have fin:∀{σ':St} {H':Hp} {v:V} {u:Value},Inv (Gi CX P w K mg base N qual scope f cdv A outer s H E) [] σ' H' s'→RelV v u→Q v H'→CE outer P w H s Q u s':=
  fun {σ' H' v u} J rv q=>⟨v,H',J.os,J.bare,J.base,J.hok,rv,q⟩
 cases fl with
 | ret u=>
   obtain ⟨v,σ',H',J,rv,q⟩:=hs
   exact fin J rv q
 | next=>
   obtain ⟨σ',H',J,q⟩:=hs
   exact fin (v:=V.non) (u:=Value.none) J rfl q
 | brk=>
   obtain ⟨_,_,_,q⟩:=hs
   exact False.elim q
 | cont=>
   obtain ⟨_,_,_,q⟩:=hs
   exact False.elim q
section
variable {X:Cx} {x:Str} {p pos:Pos} {e:Expr} {es:List Expr} {t:TA} {id T:String} {r:List V→Hp→VK→Prop}
def tCB (r:List V→Hp→VK→Prop) (t:TA):TE:=fun σ H Q=>t σ H fun vs H1=>r vs H1 Q
theorem LS (hc:CL X (.builtin id) r) (hg:Gl X x) (hm:X.mg x=none) (hv:bootBuiltins x=some (.builtin id)) (ha:PA X (e :: es) t) (hn:x≠"__name__":=by decide) (hdb:(x == ("__debug__" : Str))=false:=by decide)
 (he:starEach (e :: es) X.env=(false,eval e X.env) :: starEach es X.env:=by rfl) (hpl:(backTo pos (starEach es X.env)).any (·.1)=false:=by rfl):PE X (.Call (.Name x p) (e :: es) [] pos) (tCB r t):=by
 intro pins s σ H Q I h
 refine wpAny_Call_Name_kw (Iw I hg hm hv ?_ hn hdb)
 exact PyProof.Rows.callWith_builtin1 (thn (ha pos pins s σ H _ I h) fun us s1 ⟨vs,H1,I1,r1,q1⟩=>hc pins s1 σ H1 vs us Q I1 r1 q1) he hpl
theorem G4 (hc:CL X (.type T) r) (hg:Gl X x) (hm:X.mg x=none) (hv:bootBuiltins x=some (.type T)) (ha:PA X (e :: es) t) (hn:x≠"__name__":=by decide) (hdb:(x == ("__debug__" : Str))=false:=by decide)
 (he:starEach (e :: es) X.env=(false,eval e X.env) :: starEach es X.env:=by rfl) (hpl:(backTo pos (starEach es X.env)).any (·.1)=false:=by rfl):PE X (.Call (.Name x p) (e :: es) [] pos) (tCB r t):=by
 intro pins s σ H Q I h
 refine wpAny_Call_Name_kw (Iw I hg hm hv ?_ hn hdb)
 exact PyProof.Rows.callWith_type1 (thn (ha pos pins s σ H _ I h) fun us s1 ⟨vs,H1,I1,r1,q1⟩=>hc pins s1 σ H1 vs us Q I1 r1 q1) he hpl
end
end L2
namespace HT
open PySem PyProof.Rows
section
open PySem.SeqAt
open PySem.AutoSeq1 (wpAny_loadPart')
open PySem.MeetsSeq PySem.MeetsSeq2 PySem.MeetsSeq3
end
section
variable {prog:Program} {w:World} {A:Around} {E:Value→Shared→Prop} {s:Shared}
theorem Sx {t b:Addr} {vs ws:List Value} {Q:Value→Shared→Prop} (ht:IsTup s.heap t vs.toArray) (hb:IsTup s.heap b ws.toArray) (hv:vs≠[])
 (h1:ws=[]→Q (.ref t) s) (h2:ws≠[]→Q (.ref s.heap.objs.size) { s with heap:=s.heap.push { cls:=.type "tuple",data:=.seq (vs++ws).toArray } })
 (hsz:vs.length + ws.length≤sizeLine):wpAny (model prog w) A (binaryOp .Add (.ref t) (.ref b)) Q E s:=by
 obtain ⟨⟨cls,dd,data,sl⟩,ho,hc,n,hd⟩:=id ht
 obtain ⟨⟨cls2,dd2,data2,sl2⟩,ho2,hc2,n2,hd2⟩:=id hb
 simp only at hc hd hc2 hd2
 subst hc hd hc2 hd2
 have e:vs.toArray++ws.toArray=(vs++ws).toArray:=by simp
 by_cases hw:ws=[]
 ·exact concat_meets ⟨_,ho,rfl⟩ ⟨_,ho2,rfl⟩ noFill_tuple_add seq_tuple_add PySem.F.slot_tuple_add PySem.F.entry_tuple_add (PySem.F.args_tuple_add_2 _ _)
   (tuple_addW1 t b vs.toArray ws.toArray n n2 dd dd2 sl sl2 (by simpa using hv) (by simp [hw])) ⟨ho,ho2,h1 hw⟩
 ·refine concat_meets ⟨_,ho,rfl⟩ ⟨_,ho2,rfl⟩ noFill_tuple_add seq_tuple_add PySem.F.slot_tuple_add PySem.F.entry_tuple_add (PySem.F.args_tuple_add_2 _ _)
   (tuple_addW2 t b vs.toArray ws.toArray n n2 dd dd2 sl sl2 (by simpa using hv) (by simpa using hw) (by rw [List.size_toArray,List.size_toArray];exact hsz)) ⟨ho,ho2,?_⟩
  rw [e]
  exact h2 hw
def sIx (n d:Nat):Option Int→Nat
 | none=>d
 | some v=>if v < 0 then (v + (n:Int)).toNat else min v.toNat n
theorem VD (n d:Nat) (hd:d≤n) (o:Option Int):sIx n d o≤n:=by
 cases o with
 | none=>exact hd
 | some v=>
   show (if v < 0 then (v + (n:Int)).toNat else min v.toNat n)≤n
   by_cases hv:v < 0
   ·rw [if_pos hv];lia
   ·rw [if_neg hv];exact Nat.min_le_right _ _
theorem MZ (v:Int) (n d:Nat):(if v < 0 then max (v + (n:Int)) 0 else min v (n:Int))=((sIx n d (some v):Nat):Int):=by
 show (if v < 0 then max (v + (n:Int)) 0 else min v (n:Int))=(((if v < 0 then (v + (n:Int)).toNat else min v.toNat n):Nat):Int)
 by_cases hv:v < 0
 ·simp only [if_pos hv];lia
 ·simp only [if_neg hv];lia
theorem NH (lo hi:Option Int) (n:Nat):Builtin.Slice.sliceAdjust lo hi 1 (n:Int)=(((sIx n 0 lo:Nat):Int),((sIx n n hi:Nat):Int)):=by
 have h1:¬((1:Int) < 0):=by lia
 unfold Builtin.Slice.sliceAdjust
 simp only [h1,if_false]
 refine Prod.ext ?_ ?_
 ·cases lo with
  | none=>rfl
  | some v=>exact MZ v n 0
 ·cases hi with
  | none=>rfl
  | some v=>exact MZ v n n
theorem Od (i j:Nat):Builtin.Slice.slicePlaces (i:Int) (j:Int) 1=j - i:=by
 unfold Builtin.Slice.slicePlaces
 have h1:(1:Int) > 0:=by lia
 simp only [h1,if_true,Int.ediv_one]
 split <;> lia
theorem IL {v:Value} {o:Option Int} {Q:Option Int→Shared→Prop} (p:IsPart v o) (h:Q o s):wpAny (model prog w) A (Builtin.Slice.slicePartIndex v) Q E s:=by
 cases p with
 | none=>exact slicePart_none h
 | int i t=>exact slicePart_int h
theorem Fk {sl:Addr} {vl vu:Value} {lo hi:Option Int} {n:Nat} {Q:Int×Int×Nat→Shared→Prop} (hs:s.heap.IsSliceOf sl vl vu .none) (pl:IsPart vl lo) (pu:IsPart vu hi)
 (h:Q (((sIx n 0 lo:Nat):Int),1,sIx n n hi - sIx n 0 lo) s):wpAny (model prog w) A (Builtin.Slice.sliceApplied (.ref sl) (pure (n:Int))) Q E s:=by
 obtain ⟨os,hos,hcs,hds⟩:=id hs
 unfold Builtin.Slice.sliceApplied Builtin.Slice.sliceFields
 refine wpAny_bind (wpAny_bind (wpAny_field hos hds (x:=vl) rfl (wpAny_bind (wpAny_field hos hds (x:=vu) rfl (wpAny_bind (wpAny_field hos hds (x:=.none) rfl (wpAny_pure ?_)))))))
 refine wpAny_bind (slicePart_none ?_)
 show wpAny _ _ (if ((1:Int) == 0)=true then _ else _) _ _ s
 rw [if_neg (by decide)]
 refine wpAny_bind (IL pl (wpAny_bind (IL pu (wpAny_bind (wpAny_pure ?_)))))
 show wpAny _ _ (match Builtin.Slice.sliceAdjust lo hi 1 (n:Int) with | (lo,hi)=>pure (lo,(1:Int),Builtin.Slice.slicePlaces lo hi 1)) _ _ s
 rw [NH lo hi n]
 show wpAny _ _ (pure (((sIx n 0 lo:Nat):Int),(1:Int),Builtin.Slice.slicePlaces ((sIx n 0 lo:Nat):Int) ((sIx n n hi:Nat):Int) 1)) _ _ s
 rw [Od]
 exact wpAny_pure h
theorem QW (xs:Array Value) (i k:Nat):((List.range k).filterMap fun (m:Nat)=>xs[((i:Int) + (m:Int) * 1).toNat]?).toArray=((xs.toList.drop i).take k).toArray:=by
 have e:(fun (m:Nat)=>xs[((i:Int) + (m:Int) * 1).toNat]?)=fun m=>xs[i + m]?:=by
  funext m
  have:((i:Int) + (m:Int) * 1).toNat=i + m:=by lia
  rw [this]
 rw [e]
 have:=pick_run xs i k
 rw [List.filterMap_map] at this
 have e2:((fun x=>xs[x]?) ∘ fun x=>i + x)=fun m=>xs[i + m]?:=rfl
 rw [e2] at this
 rw [this]
theorem Hr {t sl:Addr} {items:Array Value} {vl vu:Value} {lo hi:Option Int} {Q:Value→Shared→Prop} (ht:IsTup s.heap t items) (hs:s.heap.IsSliceOf sl vl vu .none) (pl:IsPart vl lo) (pu:IsPart vu hi)
 (hw:¬(sIx items.size 0 lo=0∧sIx items.size items.size hi=items.size))
 (h:Q (.ref s.heap.objs.size) { s with heap:=s.heap.push { cls:=.type "tuple",data:=.seq ((items.toList.drop (sIx items.size 0 lo)).take (sIx items.size items.size hi - sIx items.size 0 lo)).toArray } })
 (hsz:items.size≤sizeLine):wpAny (model prog w) A (getItem (.ref t) (.ref sl)) Q E s:=by
 have htake:sizeOk (.seq ((items.toList.drop (sIx items.size 0 lo)).take (sIx items.size items.size hi - sIx items.size 0 lo)).toArray):=by
  show ((items.toList.drop (sIx items.size 0 lo)).take (sIx items.size items.size hi - sIx items.size 0 lo)).toArray.size≤sizeLine
  rw [List.size_toArray,List.length_take,List.length_drop,Array.length_toList]
  lia
 have hj:sIx items.size items.size hi≤items.size:=VD _ _ (Nat.le_refl _) hi
 obtain ⟨os,hos,hcs,hds⟩:=id hs
 have hTs:s.TypeIs (.ref sl) "slice":=⟨os,hos,hcs⟩
 unfold getItem
 try with_reducible refine wpAny_holding ?_
 first | refine wpAny_bind (wpAny_pure ?_) | skip
 refine wpAny_bind (wpAny_sequenceKey ht.typeIs (by decide) ?_)
 refine wpAny_bind (wpAny_callSpecial?_slot (name:=Str.ofString "__getitem__") ht.typeIs PyProof.Rows.slot_tuple_getitem
  (wpAny_call_entry PyProof.Rows.slot_tuple_getitem ht.typeIs entry_tuple_getitem ?_ (args_tuple_getitem _ _)))
 show wpAny _ _ (Builtin.Tuple.tupleItemsOf (.ref t) >>= _) _ _ s
 refine wpAny_bind (tupleItemsOf_ ht ?_)
 refine wpAny_bind (wpAny_typeOf hTs ?_)
 rw [if_pos (by decide)]
 refine wpAny_bind (Fk hs pl pu ?_)
 have hno:¬((((sIx items.size 0 lo:Nat):Int) == 0 && (1:Int) == 1 && (sIx items.size items.size hi - sIx items.size 0 lo) == items.size)=true):=by
  intro q
  rw [Bool.and_eq_true,Bool.and_eq_true] at q
  have q1:((sIx items.size 0 lo:Nat):Int)=0:=eq_of_beq q.1.1
  have q2:sIx items.size items.size hi - sIx items.size 0 lo=items.size:=eq_of_beq q.2
  exact hw ⟨by lia,by lia⟩
 show wpAny _ _ (if (((sIx items.size 0 lo:Nat):Int) == 0 && (1:Int) == 1 && (sIx items.size items.size hi - sIx items.size 0 lo) == items.size)=true then _ else _) _ _ s
 rw [if_neg hno,QW]
 first
  | exact wpAny_bind (m:=Builtin.Tuple.tupleExact _) (wpAny_newObj_type (wpAny_pure ⟨_,rfl,wpAny_pure h⟩) htake)
  | exact wpAny_bind (m:=Builtin.Tuple.tupleExact _) (wpAny_newObj_type (wpAny_bind (wpAny_pure (wpAny_pure ⟨_,rfl,wpAny_pure h⟩))) htake)
  | exact wpAny_bind (wpAny_bind (m:=Builtin.Tuple.tupleExact _) (wpAny_newObj_type (wpAny_pure (wpAny_pure ⟨_,rfl,wpAny_pure h⟩)) htake))
  | exact wpAny_bind (wpAny_bind (m:=Builtin.Tuple.tupleExact _) (wpAny_newObj_type (wpAny_pure ⟨_,rfl,wpAny_pure h⟩) htake))
end
end HT
namespace L2
open PySem PySem.Spec PyProof.Rows
abbrev TO:=St→Hp→(Option Int→Hp→Prop)→Prop
def PO (X:Cx) (e:Option Expr) (t:TO):Prop:=
 ∀(pins:List (Addr×Obj)) (s:Shared) (σ:St) (H:Hp) (Q:Option Int→Hp→Prop),Inv X pins σ H s→t σ H Q→
  wpAny (model X.prog X.w) X.A (evalPart e X.env) (fun u s'=>∃o H',Inv X pins σ H' s'∧IsPart u o∧Q o H') X.xe s
def Ua:TO:=fun _ H Q=>Q none H
def Wx (t:TE):TO:=fun σ H Q=>t σ H fun x H1=>∃i,x = .int i∧Q (some i) H1
section
variable {X:Cx} {e:Expr} {te:TE} {lo hi:Option Expr} {tl th:TO} {pos p2:Pos}
theorem Ty:PO X none Ua:=by
 intro pins s σ H Q I h
 rw [evalPart_none]
 exact wpAny_pure ⟨none,H,I,.none,h⟩
theorem Tz (h:PE X e te):PO X (some e) (Wx te):=by
 intro pins s σ H Q I hw
 rw [evalPart_some]
 refine thn (h pins s σ H _ I hw) fun u s1 ⟨x,H1,I1,r1,q1⟩=>?_
 obtain ⟨i,rfl,q⟩:=q1
 obtain ⟨t,rfl⟩:=r1
 exact ⟨some i,H1,I1,.int i t,q⟩
def SlR (X:Cx) (r:V→Option Int→Option Int→Hp→VK→Prop):Prop:=
 ∀(pins:List (Addr×Obj)) (s:Shared) (σ:St) (H:Hp) (x:V) (v vl vu:Value) (lo hi:Option Int) (sl:Addr) (Q:VK),Inv X pins σ H s→RelV x v→s.heap.IsSliceOf sl vl vu .none→IsPart vl lo→IsPart vu hi→r x lo hi H Q→
  ∃T id,typeLookup (.type T) "__getitem__" = pure (some (.builtin id))∧s.TypeIs v T∧wpAny (model X.prog X.w) X.A (getItem v (.ref sl)) (EP X pins σ Q) X.xe s
theorem SlR.or {r r':V→Option Int→Option Int→Hp→VK→Prop} (h:SlR X r) (h':SlR X r'):SlR X (fun x lo hi H Q=>r x lo hi H Q∨r' x lo hi H Q):=by
 intro pins s σ H x v vl vu lo hi sl Q I rx hs pl pu q
 rcases q with q | q
 ·exact h pins s σ H x v vl vu lo hi sl Q I rx hs pl pu q
 ·exact h' pins s σ H x v vl vu lo hi sl Q I rx hs pl pu q
def tSl (r:V→Option Int→Option Int→Hp→VK→Prop) (te:TE) (tl th:TO):TE:=fun σ H Q=>te σ H fun x H1=>tl σ H1 fun l H2=>th σ H2 fun u H3=>r x l u H3 Q
theorem QU {r:V→Option Int→Option Int→Hp→VK→Prop} (hr:SlR X r) (he:PE X e te) (hl:PO X lo tl) (hu:PO X hi th):PE X (.Subscript e (.Slice lo hi none p2) pos) (tSl r te tl th):=by
 intro pins s σ H Q I h
 refine Subscript_ (thn (he pins s σ H _ I h) fun v s1 ⟨x,H1,I1,r1,q1⟩=>?_)
 refine wpAny_Slice (thn (hl pins s1 σ H1 _ I1 q1) fun vl s2 ⟨l,H2,I2,pl,q2⟩=>thn (hu pins s2 σ H2 _ I2 q2) fun vu s3 ⟨u,H3,I3,pu,q3⟩=>?_)
 rw [evalPart_none]
 refine wpAny_pure ?_
 have I4:Inv X pins σ H3 { s3 with heap:=s3.heap.push { cls:=.type "slice",data:=.fields #[vl,vu,.none] } }:=I3.kept (t':=s3.toks) fun b ob q=>Heap.get?_push_of_some _ q
 obtain ⟨T,id,hT,ht,hg⟩:=hr pins { s3 with heap:=s3.heap.push { cls:=.type "slice",data:=.fields #[vl,vu,.none] } } σ H3 x v vl vu l u s3.heap.objs.size Q I4 r1 (Heap.IsSliceOf.new ..) pl pu q3
 show wpAny (model X.prog X.w) X.A (subscriptTail e (.Slice lo hi none p2) v (.ref s3.heap.objs.size)) (EP X pins σ Q) X.xe { s3 with heap:=s3.heap.push { cls:=.type "slice",data:=.fields #[vl,vu,.none] } }
 exact tail_any (ops:=[.ref s3.heap.objs.size,v]) ht hT hg (by with_unfolding_all rfl)
def Gh (xs:List V) (lo hi:Option Int):List V:=(xs.drop (HT.sIx xs.length 0 lo)).take (HT.sIx xs.length xs.length hi - HT.sIx xs.length 0 lo)
theorem Hs (xs:List V) (lo hi:Option Int):(Gh xs lo hi).length≤xs.length:=by
 unfold Gh
 rw [List.length_take,List.length_drop]
 lia
def Vw (K:PySem.W.Frag):V→Option Int→Option Int→Hp→VK→Prop:=fun x lo hi H Q=>∃a xs,x = .ref a∧SqT K H a xs∧
 ¬(HT.sIx xs.length 0 lo=0∧HT.sIx xs.length xs.length hi=xs.length)∧∀p,H p=none→Q (.ref p) (upd H p (.tup (Gh xs lo hi)))
theorem VL:SlR X (Vw X.K):=by
 intro pins s σ H x v vl vu lo hi sl Q I rx hs pl pu h
 obtain ⟨a,xs,rfl,hx,hw,q⟩:=h
 cases rx
 obtain ⟨its,r,ht,hz⟩:=I.tuple hx
 have hlen:its.toArray.size=xs.length:=by rw [List.size_toArray];exact r.length.symm
 refine ⟨"tuple",_,PyProof.Rows.slot_tuple_getitem.lookup,ht.typeIs,?_⟩
 refine HT.Hr ht hs pl pu (by rw [hlen];exact hw) ?_ (by rw [hlen];exact hz)
 rw [hlen]
 refine ⟨.ref s.heap.objs.size,_,I.laid (t':=s.toks) (o:=.tup (Gh xs lo hi)) (fun b ob q=>Heap.get?_push_of_some _ q) (Nat.le_refl _) ?_,rfl,q _ (I.hok.fresh (Nat.le_refl _))⟩
 exact ⟨Nat.le_trans (Hs xs lo hi) hz,_,(r.drop (HT.sIx xs.length 0 lo)).take (HT.sIx xs.length xs.length hi - HT.sIx xs.length 0 lo),IsTup.new _ _⟩
def R3 (K:PySem.W.Frag):R2:=fun x y H Q=>∃a b xs ys,x = .ref a∧y = .ref b∧SqT K H a xs∧SqT K H b ys∧xs≠[]∧xs.length + ys.length≤sizeLine∧
 (ys=[]→Q (.ref a) H)∧(ys≠[]→∀p,H p=none→Q (.ref p) (upd H p (.tup (xs++ys))))
theorem Vals.nil_iff {xs:List V} {us:List Value} (r:Vals xs us):us=[]↔xs=[]:=by
 cases r with
 | nil=>simp
 | cons _ _=>simp
theorem Tk:OpR X (binaryOp .Add) (R3 X.K):=by
 intro pins s σ H x y v u Q I rx ry h
 obtain ⟨a,b,xs,ys,rfl,rfl,ha,hb,hx,hz,q1,q2⟩:=h
 cases rx
 cases ry
 obtain ⟨its,r1,p1,_⟩:=I.tuple ha
 obtain ⟨its2,r2,p2,_⟩:=I.tuple hb
 refine HT.Sx p1 p2 (fun z=>hx (r1.nil_iff.mp z)) (fun z=>⟨.ref a,H,I,rfl,q1 (r2.nil_iff.mp z)⟩) (fun z=>?_) (by rw [←r1.length,←r2.length];exact hz)
 refine ⟨.ref s.heap.objs.size,_,I.laid (t':=s.toks) (o:=.tup (xs++ys)) (fun b ob q=>Heap.get?_push_of_some _ q) (Nat.le_refl _) ?_,rfl,q2 (fun w=>z (r2.nil_iff.mpr w)) _ (I.hok.fresh (Nat.le_refl _))⟩
 exact ⟨by rw [List.length_append];exact hz,_,r1.append r2,IsTup.new _ _⟩
end
def ixN (n:Nat) (i:Int):Option Nat:=if 0≤i then (if i < n then some i.toNat else none) else if -(n:Int)≤i then some (i + n).toNat else none
def atI {α:Type} (xs:List α) (i:Int):Option α:=(ixN xs.length i).bind fun j=>xs[j]?
theorem M9 {n:Nat} {i:Int} {j:Nat} (h:ixN n i=some j):seqIndex? i n=some j∧j < n∧-(n:Int)≤i∧i < n:=by
 unfold ixN at h
 by_cases h0:0≤i
 ·rw [if_pos h0] at h
  by_cases h1:i < n
  ·rw [if_pos h1] at h
   have e:i.toNat=j:=Option.some.inj h
   exact ⟨by rw [seqIndex_of h0 h1,e],by lia,by lia,h1⟩
  ·rw [if_neg h1] at h;cases h
 ·rw [if_neg h0] at h
  by_cases h1 : -(n:Int)≤i
  ·rw [if_pos h1] at h
   have e:(i + n).toNat=j:=Option.some.inj h
   exact ⟨by rw [seqIndex_neg (by lia) h1,e],by lia,h1,by lia⟩
  ·rw [if_neg h1] at h;cases h
theorem Jb {α:Type} {xs:List α} {i:Int} {v:α} (h:atI xs i=some v):∃j,seqIndex? i xs.length=some j∧xs[j]?=some v∧j < xs.length∧-(xs.length:Int)≤i∧i < xs.length:=by
 unfold atI at h
 cases e:ixN xs.length i with
 | none=>rw [e] at h;cases h
 | some j=>
   rw [e] at h
   obtain ⟨h1,h2,h3,h4⟩:=M9 e
   exact ⟨j,h1,h,h2,h3,h4⟩
theorem D4 {α:Type} {xs:List α} {j:Nat} {v:α} (h:xs[j]?=some v):atI xs (j:Int)=some v:=by
 have hj:j < xs.length:=(List.getElem?_eq_some_iff.mp h).1
 have e:ixN xs.length (j:Int)=some j:=by
  unfold ixN
  rw [if_pos (by lia),if_pos (by lia)];simp
 unfold atI;rw [e];exact h
def MV (b:Expr):Prop:=∀o i,subscripted b false o i=operate [o,i] (getItem o i)
def IxR (X:Cx) (r:R2):Prop:=
 ∀(value slice:Expr) (pins:List (Addr×Obj)) (s:Shared) (σ:St) (H:Hp) (x y:V) (v u:Value) (Q:VK),Inv X pins σ H s→RelV x v→RelV y u→r x y H Q→
  subscripted slice false v u=operate [v,u] (getItem v u)→wpAny (model X.prog X.w) X.A (subscriptTail value slice v u) (EP X pins σ Q) X.xe s
def MtR (X:Cx) (id:String) (r:V→List V→Hp→VK→Prop):Prop:=
 ∀(pins:List (Addr×Obj)) (s:Shared) (σ:St) (H:Hp) (x:V) (xs:List V) (v:Value) (us:List Value) (Q:VK),Inv X pins σ H s→RelV x v→Vals xs us→r x xs H Q→
  wpAny (model X.prog X.w) X.A (call (.builtin id) (v :: us)) (EP X pins σ Q) X.xe s
section
variable {X:Cx} {a b:Expr} {ta tb:TE} {pos:Pos}
theorem IxR.or {r r':R2} (h:IxR X r) (h':IxR X r'):IxR X (fun x y H Q=>r x y H Q∨r' x y H Q):=by
 intro value slice pins s σ H x y v u Q I rx ry q hs
 rcases q with q | q
 ·exact h value slice pins s σ H x y v u Q I rx ry q hs
 ·exact h' value slice pins s σ H x y v u Q I rx ry q hs
theorem Wi {r:R2} (hr:IxR X r) (ha:PE X a ta) (hb:PE X b tb) (hs:MV b):PE X (.Subscript a b pos) (tOp r ta tb):=by
 intro pins s σ H Q I h
 exact Subscript_ (Qo ha hb I h fun v u s2 x y H2 I2 rx ry q=>hr a b pins s2 σ H2 x y v u Q I2 rx ry q (hs _ _))
def Vp (K:PySem.W.Frag):R2:=fun x y H Q=>∃p xs i v,x = .ref p∧y = .int i∧SqL K H p xs∧atI xs i=some v∧Q v H
def Vr (K:PySem.W.Frag):R2:=fun x y H Q=>∃p xs i v,x = .ref p∧y = .int i∧SqT K H p xs∧atI xs i=some v∧Q v H
def Vq:R2:=fun x y H Q=>∃z i c,x = .str z∧y = .int i∧z.length≤sizeLine∧atI z.cps.toList i=some c∧Q (.str ⟨#[c]⟩) H
theorem ix_list:IxR X (Vp X.K):=by
 intro value slice pins s σ H x y v u Q I rx ry h hs
 obtain ⟨p,xs,i,z,rfl,rfl,hq,he,q⟩:=h
 cases rx
 obtain ⟨t,rfl⟩:=ry
 obtain ⟨its,r,pl,hz⟩:=I.list hq
 obtain ⟨j,h1,h2,h3,h4,h5⟩:=Jb he
 obtain ⟨w,ew,rw'⟩:=r.get h2
 have hl:=r.length
 have hn:=G1
 have fin:EP X pins σ Q w s:=⟨z,H,I,rw',q⟩
 by_cases h0:0≤i
 ·have hj:i.toNat=j:=by
   rw [seqIndex_of h0 h5] at h1
   exact Option.some.inj h1
  exact item_listR pl.isList h0 (by lia) (by rw [hj];simpa using ew) fin hs
 ·have hj:(i + (its.toArray.size:Int)).toNat=j:=by
   rw [seqIndex_neg (by lia) h4] at h1
   rw [List.size_toArray,←hl]
   exact Option.some.inj h1
  exact subscriptTail_builtinR (x:=w) pl.isList.typeIs slot_list_getitem.lookup
   (wpAny_getItem_list_neg (Q:=fun r s'=>r=w∧EP X pins σ Q r s') pl.isList (by lia) (by rw [List.size_toArray] <;> lia) (by lia) (by rw [hj];simpa using ew) ⟨rfl,fin⟩) hs
theorem ix_tup:IxR X (Vr X.K):=by
 intro value slice pins s σ H x y v u Q I rx ry h hs
 obtain ⟨p,xs,i,z,rfl,rfl,hq,he,q⟩:=h
 cases rx
 obtain ⟨t,rfl⟩:=ry
 obtain ⟨its,r,pl,hz⟩:=I.tuple hq
 obtain ⟨j,h1,h2,h3,h4,h5⟩:=Jb he
 obtain ⟨w,ew,rw'⟩:=r.get h2
 have hl:=r.length
 have hn:=G1
 have fin:EP X pins σ Q w s:=⟨z,H,I,rw',q⟩
 exact subscriptTail_builtinR (x:=w) pl.typeIs slot_tuple_getitem.lookup
  (getItem_tuple (j:=j) (Q:=fun r s'=>r=w∧EP X pins σ Q r s') pl (by lia) (by lia) (by rw [List.size_toArray,←hl];exact h1) (by simpa using ew) ⟨rfl,fin⟩) hs
theorem UN:IxR X Vq:=by
 intro value slice pins s σ H x y v u Q I rx ry h hs
 obtain ⟨z,i,c,rfl,rfl,hz,he,q⟩:=h
 obtain ⟨t,rfl⟩:=rx
 obtain ⟨t',rfl⟩:=ry
 obtain ⟨j,h1,h2,h3,h4,h5⟩:=Jb he
 have hl:z.cps.toList.length=z.length:=by simp [Str.length]
 rw [hl] at h1 h4 h5
 have hn:=G1
 exact tail_any (typeIs_str s z t) slot_str_getitem.lookup (getItem_str (c:=c) (by
  have e1:decide (i < -(2 ^ 63:Int))=false:=decide_eq_false (by lia)
  have e2:decide (i ≥ 2 ^ 63)=false:=decide_eq_false (by lia)
  rw [e1,e2,Bool.or_false]) (by rw [h1];simpa using h2) ⟨.str ⟨#[c]⟩,H,I.tok _,⟨_,rfl⟩,q⟩) hs
def rIx (K:PySem.W.Frag):R2:=fun x y H Q=>Vp K x y H Q∨Vr K x y H Q∨Vq x y H Q
theorem As:IxR X (rIx X.K):=ix_list.or (ix_tup.or UN)
theorem N5 (its:List Value) (n j:Nat) (u:Value):Obj.mapSeq (·.setIfInBounds j u) { cls:=.type "list",data:=.seq its.toArray n } = { cls:=.type "list",data:=.seq (its.set j u).toArray n }:=by
 simp [Obj.mapSeq]
theorem Inv.lst {pins:List (Addr×Obj)} {σ:St} {H:Hp} {s:Shared} {p:Addr} {xs:List V} (I:Inv X pins σ H s) (h:H p=some (.lst xs)) :
 ∃(its:List Value) (n:Nat),Vals xs its∧s.heap.get? p=some { cls:=.type "list",data:=.seq its.toArray n }∧xs.length≤sizeLine:=by
 obtain ⟨z,its,n,r,e⟩:=I.hok p _ h
 exact ⟨its,n,r,e,z⟩
theorem Inv.lstUpd {pins:List (Addr×Obj)} {σ:St} {H:Hp} {s:Shared} {p:Addr} {xs ys:List V} {its its':List Value} {n n':Nat} {f:Obj→Obj} (I:Inv X pins σ H s) (h:H p=some (.lst xs))
 (ho:s.heap.get? p=some { cls:=.type "list",data:=.seq its.toArray n }) (hf:f { cls:=.type "list",data:=.seq its.toArray n } = { cls:=.type "list",data:=.seq its'.toArray n' }) (r:Vals ys its') (hz:ys.length≤sizeLine) (t:Nat) (ht:s.toks≤t:=by first | exact Nat.le_refl _ | assumption | lia | (dsimp only;lia)) :
 Inv X pins σ (upd H p (.lst ys)) { s with heap:=s.heap.update p f,toks:=t }:=by
 have e:(s.heap.update p f).get? p=some { cls:=.type "list",data:=.seq its'.toArray n' }:=by
  rw [Heap.get?_update_self f ho (by rw [hf] <;> rfl),hf]
 refine I.write (x:=p) (e:=p) (by rw [h];trivial) (.inl rfl) (fun b u hb q=>(Heap.get?_update_other _ _ (Ne.symm hb)).trans q) ⟨_,e⟩ ?_
 exact ⟨hz,its',n',r,e⟩
def Wp:V→V→V→Hp→(Hp→Prop)→Prop:=fun o i v H Q=>∃p xs k j,o = .ref p∧i = .int k∧H p=some (.lst xs)∧ixN xs.length k=some j∧Q (upd H p (.lst (xs.set j v)))
theorem Rc:Qe X Wp:=by
 intro pins s σ H o i v ov iv u Q I ro ri rv h
 obtain ⟨p,xs,k,j,rfl,rfl,hp,hj,q⟩:=h
 cases ro
 obtain ⟨t,rfl⟩:=ri
 obtain ⟨its,n,r,ho,hz⟩:=I.lst hp
 obtain ⟨h1,h2,h3,h4⟩:=M9 hj
 have hl:=r.length
 have hn:=G1
 have I':Inv X pins σ (upd H p (.lst (xs.set j v))) { s with heap:=s.heap.update p (Obj.mapSeq (·.setIfInBounds j u)) }:=
  I.lstUpd hp ho (N5 its n j u) (r.set rv j) (by rw [List.length_set];exact hz) s.toks
 by_cases h0:0≤k
 ·have hk:k.toNat=j:=by
   rw [seqIndex_of h0 h4] at h1
   exact Option.some.inj h1
  exact PySem.W.ki_setAt ho h0 (by lia) (by rw [List.size_toArray,←hl];exact h4) (by rw [hk];exact ⟨_,I',q⟩)
 ·have hk:(k + (its.toArray.size:Int)).toNat=j:=by
   rw [seqIndex_neg (by lia) h3] at h1
   rw [List.size_toArray,←hl]
   exact Option.some.inj h1
  exact PySem.W.ki_setBack ho (by lia) (by rw [List.size_toArray,←hl];exact h3) (by lia) (by rw [hk];exact ⟨_,I',q⟩)
theorem Mg (lo hi:Option Int) (n:Nat):(sliceBounds lo hi none n).1=((HT.sIx n 0 lo:Nat):Int)∧(sliceBounds lo hi none n).2.1=((HT.sIx n n hi:Nat):Int)∧(sliceBounds lo hi none n).2.2=1:=by
 refine ⟨?_,?_,rfl⟩
 ·cases lo with
  | none=>simp [sliceBounds,HT.sIx]
  | some i=>
    simp only [sliceBounds,HT.sIx,Option.getD_none,show (1:Int) > 0 by decide,if_true]
    by_cases h:i < 0
    ·simp only [h,if_true] <;> lia
    ·simp only [h,if_false] <;> lia
 ·cases hi with
  | none=>simp [sliceBounds,HT.sIx]
  | some i=>
    simp only [sliceBounds,HT.sIx,Option.getD_none,show (1:Int) > 0 by decide,if_true]
    by_cases h:i < 0
    ·simp only [h,if_true] <;> lia
    ·simp only [h,if_false] <;> lia
theorem Ky (its:List Value) (lo hi:Option Int):slicePick its.toArray lo hi none=((its.drop (HT.sIx its.length 0 lo)).take (HT.sIx its.length its.length hi - HT.sIx its.length 0 lo)).toArray:=by
 obtain ⟨h1,h2,h3⟩:=Mg lo hi its.toArray.size
 unfold slicePick
 rw [h1,h2,h3]
 simp only [sliceRange_one,pick_run,List.size_toArray] <;> rfl
def Vu (K:PySem.W.Frag):V→Option Int→Option Int→Hp→VK→Prop:=fun x lo hi H Q=>∃a xs,x = .ref a∧SqL K H a xs∧∀p,H p=none→Q (.ref p) (upd H p (.lst (Gh xs lo hi)))
theorem sl_list:SlR X (Vu X.K):=by
 intro pins s σ H x v vl vu lo hi sl Q I rx hs pl pu h
 obtain ⟨a,xs,rfl,hx,q⟩:=h
 cases rx
 obtain ⟨its,r,ht,hz⟩:=I.list hx
 have hlen:=r.length
 refine ⟨"list",_,slot_list_getitem.lookup,ht.isList.typeIs,?_⟩
 refine wpAny_getItem_list_slice ht.isList hs pl pu .none (by simp) ?_ (by rw [List.size_toArray] <;> lia)
 rw [Ky,←hlen]
 refine ⟨.ref s.heap.objs.size,_,I.laid (t':=s.toks) (o:=.lst (Gh xs lo hi)) (fun b ob q=>Heap.get?_push_of_some _ q) (Nat.le_refl _) ?_,rfl,q _ (I.hok.fresh (Nat.le_refl _))⟩
 exact ⟨Nat.le_trans (Hs xs lo hi) hz,_,0,(r.drop (HT.sIx xs.length 0 lo)).take (HT.sIx xs.length xs.length hi - HT.sIx xs.length 0 lo),Heap.get?_push_size _ rfl⟩
theorem GN:CL X (.type "list") (fun xs H Q=>∃p ys,xs=[.ref p]∧(SqL X.K H p ys∨SqT X.K H p ys)∧∀l,H l=none→Q (.ref l) (upd H l (.lst ys))):=by
 intro pins s σ H xs us Q I r h
 obtain ⟨p,ys,rfl,hq,q⟩:=h
 obtain ⟨u,rfl,rx⟩:=Dt r
 cases rx
 have fin:∀(its:List Value),Vals ys its→ys.length≤sizeLine→∀(h':Heap) (c':Nat),(∀b o',s.heap.get? b=some o'→h'.get? b=some o')→
  h'.get? s.heap.objs.size=some { cls:=.type "list",dict:=none,data:=.seq its.toArray c',slots:=#[] }→EP X pins σ Q (.ref s.heap.objs.size) { s with heap:=h' }:=fun its r' hz h' c' kp e=>
  ⟨.ref s.heap.objs.size,_,I.laid (t':=s.toks) kp (Nat.le_refl _) (show ObjOk X.prog X.w _ h' _ (.lst ys) from ⟨hz,its,c',r',e⟩),rfl,q _ (I.hok.fresh (Nat.le_refl _))⟩
 rcases hq with hq | hq
 ·obtain ⟨its,r',pl,hz⟩:=I.list hq
  have hlen:=r'.length
  obtain ⟨o,ho,hc,n,hd⟩:=pl.isList
  exact call_list_seq p (.inl rfl) ho hc hd (fun h' c' kp e=>fin its r' hz h' c' kp e) (by simp only [List.size_toArray] <;> lia)
 ·obtain ⟨its,r',pl,hz⟩:=I.tuple hq
  have hlen:=r'.length
  obtain ⟨o,ho,hc,n,hd⟩:=pl
  exact call_list_seq p (.inr rfl) ho hc hd (fun h' c' kp e=>fin its r' hz h' c' kp e) (by simp only [List.size_toArray] <;> lia)
theorem ER:CL X (.type "tuple") (fun xs H Q=>∃p ys,xs=[.ref p]∧((SqL X.K H p ys∧∀l,H l=none→Q (.ref l) (upd H l (.tup ys)))∨(SqT X.K H p ys∧Q (.ref p) H))):=by
 intro pins s σ H xs us Q I r h
 obtain ⟨p,ys,rfl,h⟩:=h
 obtain ⟨u,rfl,rx⟩:=Dt r
 cases rx
 rcases h with ⟨hq,q⟩ | ⟨hq,q⟩
 ·obtain ⟨its,r',pl,hz⟩:=I.list hq
  have hlen:=r'.length
  refine call_tuple_list pl.isList (fun h' kp=>?_) (by simp only [List.size_toArray] <;> lia)
  have I1:Inv X pins σ H { s with heap:=h' }:=I.kept (t':=s.toks) kp
  have I2:Inv X pins σ (upd H h'.objs.size (.tup ys)) { s with heap:=h'.push { cls:=.type "tuple",data:=.seq its.toArray } }:=
   I1.laid (t':=s.toks) (fun b o e=>Heap.get?_push_of_some _ e) (Nat.le_refl _) (show ObjOk X.prog X.w _ _ _ (.tup ys) from ⟨hz,its,r',IsTup.new _ _⟩)
  exact ⟨.ref h'.objs.size,_,I2,rfl,q _ (I1.hok.fresh (Nat.le_refl _))⟩
 ·obtain ⟨its,r',pl,hz⟩:=I.tuple hq
  exact call_tuple_same pl ⟨.ref p,H,I,rfl,q⟩
def tyV (K:PySem.W.Frag) (T:String) (x:V) (H:Hp):Prop:=match x with
 | .str _=>T = "str"
 | .int _=>T = "int"
 | .ref p=>(T = "list"∧∃xs,SqL K H p xs)∨(T = "tuple"∧∃o,K.lookup p=some o∧o.cls = .type "tuple"∧o.dict=none)∨
    (T = "dict"∧((∃kvs,H p=some (.dK kvs))∨∃kvs,H p=some (.dT kvs)))∨(T = "set"∧∃S n,H p=some (.set S n))
 | _=>False
theorem VR {pins:List (Addr×Obj)} {σ:St} {H:Hp} {s:Shared} {T:String} {x:V} {v:Value} (I:Inv X pins σ H s) (r:RelV x v) (ty:tyV X.K T x H) :
 s.TypeIs v T∧∀a,v = .ref a→∃ob,s.heap.get? a=some ob∧ob.dict=none:=by
 cases x with
 | str z=>
   obtain ⟨t,rfl⟩:=r
   cases (show T = "str" from ty)
   exact ⟨typeIs_str s z t,fun _ e=>nomatch e⟩
 | int i=>
   obtain ⟨t,rfl⟩:=r
   cases (show T = "int" from ty)
   exact ⟨typeIs_int s i t,fun _ e=>nomatch e⟩
 | ref p=>
   cases r
   rcases ty with ⟨rfl,xs,hq⟩ | ⟨rfl,o,hk,hc,hd⟩ | ⟨rfl,hk⟩ | ⟨rfl,S,n,hk⟩
   ·obtain ⟨its,_,pl,_⟩:=I.list hq
    refine ⟨pl.isList.typeIs,fun a e=>?_⟩
    cases e
    obtain ⟨o,n,e,c,hd,_⟩:=pl
    exact ⟨o,e,hd⟩
   ·refine ⟨⟨o,I.kIn p o hk,hc⟩,fun a e=>?_⟩
    cases e
    exact ⟨o,I.kIn _ o hk,hd⟩
   ·have z:∃o,s.heap.get? p=some o∧o.ExactDict:=by
     rcases hk with ⟨kvs,hk⟩ | ⟨kvs,hk⟩
     ·obtain ⟨_,_,_,_,o,_,_,e,ex,_⟩:=I.hok p _ hk
      exact ⟨o,e,ex⟩
     ·obtain ⟨_,_,_,_,o,_,_,e,ex,_⟩:=I.hok p _ hk
      exact ⟨o,e,ex⟩
    obtain ⟨o,e,ex⟩:=z
    refine ⟨⟨o,e,ex.1⟩,fun a e2=>?_⟩
    cases e2
    exact ⟨o,e,ex.2.1⟩
   ·obtain ⟨o,_,_,_,e,ex,_⟩:=I.hok p _ hk
    refine ⟨⟨o,e,ex.1⟩,fun a e2=>?_⟩
    cases e2
    exact ⟨o,e,ex.2.1⟩
 | _=>exact False.elim ty
def tBM (K:PySem.W.Frag) (T:String) (r:V→List V→Hp→VK→Prop) (to:TE) (t:TA):TE:=fun σ H Q=>to σ H fun x H1=>tyV K T x H1∧t σ H1 fun xs H2=>r x xs H2 Q
variable {o e:Expr} {es:List Expr} {to:TE} {t:TA} {name:Str} {apos cpos:Pos} {T id:String} {r:V→List V→Hp→VK→Prop}
theorem FE (pa:PlainAttrs T) (slot:Slot T name id) (hty:typeOf (.builtin id)=pure (.type "method_descriptor")) (hm:MtR X id r) (ho:PE X o to) (ha:PA X (e :: es) t)
 (hbase:attributeBase o name X.env (eval o X.env)=eval o X.env:=by rfl)
 (hfew:((backTo cpos (starEach (e :: es) X.env)).all (fun x=>!x.1) && (backToKw cpos (keywordEach [] X.env)).all (fun x=>x.1.isSome)
   && decide ((e :: es).length + ([]:List Keyword).length + (if ([]:List Keyword).isEmpty then 0 else 1) < 30))=true:=by rfl)
 (hline:(apos.endLine == cpos.line)=true:=by rfl) (hs:starEach (e :: es) X.env=(false,eval e X.env) :: starEach es X.env:=by rfl) (hplain:(backTo cpos (starEach es X.env)).any (·.1)=false:=by rfl) :
 PE X (.Call (.Attribute o name apos) (e :: es) [] cpos) (tBM X.K T r to t):=by
 intro pins s σ H Q I h
 refine wpAny_Call_method_late hbase hfew hline rfl (thn (ho pins s σ H _ I h) fun v s1 ⟨x,H1,I1,r1,ty,q1⟩=>?_)
 obtain ⟨h1,h2⟩:=VR I1 r1 ty
 refine ⟨T,id,pa,slot,hty,h1,h2,?_⟩
 have hA:=ha cpos pins s1 σ H1 _ I1 q1
 rw [hs] at hA ⊢
 refine Calls.callWith_builtin (by show (false || (backTo cpos (starEach es X.env)).any (·.1))=false;rw [hplain] <;> rfl) (Calls.evalArgs_plain ?_)
 exact thn hA fun us s2 ⟨vs,H2,I2,r2,q2⟩=>hm pins s2 σ H2 x vs v us Q I2 r1 r2 q2
/- xs.append(e),list.index on a module's tuple .. are MtR facts of 06m -/
end
def MtM (X:Cx) (id:String) (r:V→List V→Hp→VK→Prop):Prop:=
 ∀(pins:List (Addr×Obj)) (s:Shared) (σ:St) (H:Hp) (x:V) (xs:List V) (v:Value) (us:List Value) (Q:VK),Inv X pins σ H s→RelV x v→Vals xs us→r x xs H Q→
  wpAny (model X.prog X.w) X.A (call (.builtin id) (v :: us)) (EP X pins σ Q) X.xe s
theorem Vals.one:∀{x:V} {us:List Value},Vals [x] us→∃u,us=[u]∧RelV x u
 | _,_,.cons r .nil=>⟨_,rfl,r⟩
theorem Vals.rep {xs:List V} {us:List Value} (h:Vals xs us):∀k:Nat,Vals (List.replicate k xs).flatten (List.replicate k us).flatten
 | 0=>.nil
 | k + 1=>by
   rw [List.replicate_succ,List.replicate_succ,List.flatten_cons,List.flatten_cons]
   exact Vals.append h (Vals.rep h k)
theorem GV (its:List Value):∀(k:Nat) (acc:List Value),
 List.foldl (fun x1 x2=>x1++x2) acc.toArray (List.replicate k its.toArray)=(acc++(List.replicate k its).flatten).toArray
 | 0,acc=>by simp
 | k + 1,acc=>by
   have e:acc.toArray++its.toArray=(acc++its).toArray:=by simp
   have e2:(acc++its)++(List.replicate k its).flatten=acc++(List.replicate (k + 1) its).flatten:=by
    rw [List.replicate_succ,List.flatten_cons,List.append_assoc]
   rw [←e2,←GV its k (acc++its),←e,List.replicate_succ,List.foldl_cons]
section
variable {X:Cx} {pins:List (Addr×Obj)} {σ:St} {H:Hp} {s:Shared} {l b:Addr} {xs ys zs:List V}
theorem Inv.lset {its its':List Value} {n:Nat} {f:Array Value→Array Value} {t':Nat} (I:Inv X pins σ H s) (hH:H l=some (.lst xs))
 (e:s.heap.get? l=some { cls:=.type "list",data:=.seq its.toArray n }) (hf:f its.toArray=its'.toArray) (hv:Vals ys its') (hz:ys.length≤sizeLine) (ht:s.toks≤t':=by first | exact Nat.le_refl _ | assumption | lia | (dsimp only;lia)) :
 Inv X pins σ (upd H l (.lst ys)) { s with heap:=s.heap.update l (Obj.mapSeq f),toks:=t' }:=by
 have q:=PySem.IsL.update e f
 rw [hf] at q
 refine I.write (x:=l) (e:=l) (by rw [hH];exact trivial) (.inl rfl) (fun b' u hb hu=>(Heap.get?_update_other s.heap (Obj.mapSeq f) (Ne.symm hb)).trans hu) ⟨_,q⟩ ?_
 exact ⟨hz,its',_,hv,q⟩
theorem Inv.lnew {its:List Value} {t':Nat} (I:Inv X pins σ H s) (hv:Vals ys its) (hz:ys.length≤sizeLine) (ht:s.toks≤t':=by first | exact Nat.le_refl _ | assumption | lia | (dsimp only;lia)) :
 Inv X pins σ (upd H s.heap.objs.size (.lst ys)) { s with heap:=s.heap.push { cls:=.type "list",data:=.seq its.toArray },toks:=t' }:=
 I.laid (fun _ _ q=>Heap.get?_push_of_some _ q) (Nat.le_refl _) ⟨hz,its,0,hv,Heap.get?_push_size _ rfl⟩
theorem Inv.fresh (I:Inv X pins σ H s):H s.heap.objs.size=none:=I.hok.fresh (Nat.le_refl _)
theorem Inv.lstM (I:Inv X pins σ H s) (hH:H l=some (.lst xs)):xs.length≤sizeLine∧∃(its:List Value) (n:Nat),Vals xs its∧xs.length=its.length∧s.heap.get? l=some { cls:=.type "list",data:=.seq its.toArray n }:=by
 obtain ⟨z,its,n,r,e⟩:=I.hok l _ hH
 exact ⟨z,its,n,r,r.length,e⟩
theorem HH {n:Nat} (h:n≤sizeLine):Builtin.List.listTooLong n=false:=by
 unfold Builtin.List.listTooLong
 exact decide_eq_false (by lia)
end
section
variable {X:Cx}
def Nm:V→List V→Hp→VK→Prop:=fun x vs H Q=>∃l xs y,x = .ref l∧vs=[y]∧H l=some (.lst xs)∧xs.length < sizeLine∧Q .non (upd H l (.lst (xs++[y])))
theorem J6:MtM X "list.append" Nm:=by
 intro pins s σ H x vs v us Q I rx rv h
 obtain ⟨l,xs,y,rfl,rfl,hH,hz,q⟩:=h
 cases rx
 obtain ⟨u,rfl,ru⟩:=rv.one
 obtain ⟨z,its,n,r,hl,e⟩:=I.lstM hH
 refine call_meets F.slot_list_append ⟨_,e,rfl⟩ F.entry_list_append (F.args_list_append_2 _ _) (PySem.list_append l its.toArray n u (by rw [List.size_toArray];lia)) ⟨e,?_⟩
 refine ⟨.non,_,I.lset (its':=its++[u]) hH e (by simp) (r.append (.cons ru .nil)) ?_,rfl,q⟩
 rw [List.length_append,List.length_singleton]
 lia
def Nn:V→List V→Hp→VK→Prop:=fun x vs H Q=>∃l b xs zs,x = .ref l∧vs=[.ref b]∧H l=some (.lst xs)∧H b=some (.lst zs)∧xs.length + zs.length≤sizeLine∧Q .non (upd H l (.lst (xs++zs)))
theorem mt_extend:MtM X "list.extend" Nn:=by
 intro pins s σ H x vs v us Q I rx rv h
 obtain ⟨l,b,xs,zs,rfl,rfl,hH,hB,hz,q⟩:=h
 cases rx
 obtain ⟨u,rfl,ru⟩:=rv.one
 cases ru
 obtain ⟨z,its,n,r,hl,e⟩:=I.lstM hH
 obtain ⟨z2,its2,n2,r2,hl2,e2⟩:=I.lstM hB
 have hsz:its.toArray.size + its2.toArray.size≤sizeLine:=by rw [List.size_toArray,List.size_toArray];lia
 have hlong:¬(!its.toArray.isEmpty && Builtin.List.listTooLong (its.toArray.size + its2.toArray.size))=true:=by
  rw [HH hsz,Bool.and_false]
  exact Bool.false_ne_true
 refine call_meets F.slot_list_extend ⟨_,e,rfl⟩ F.entry_list_extend (F.args_list_extend_2 _ _)
  (AutoSeq1.list_extend_list_list_0 l its.toArray n b its2.toArray n2 hlong (by rw [List.size_toArray];lia) (by lia)) ⟨e,e2,?_⟩
 refine ⟨.non,_,I.lset (its':=its++its2) hH e (by simp) (r.append r2) ?_,rfl,q⟩
 rw [List.length_append]
 lia
def Vm:R2:=fun x y H Q=>∃l b xs zs,x = .ref l∧y = .ref b∧H l=some (.lst xs)∧H b=some (.lst zs)∧xs.length + zs.length≤sizeLine∧∀p,H p=none→Q (.ref p) (upd H p (.lst (xs++zs)))
theorem op_cat:OpR X (binaryOp .Add) Vm:=by
 intro pins s σ H x y v u Q I rx ry h
 obtain ⟨l,b,xs,zs,rfl,rfl,hH,hB,hz,q⟩:=h
 cases rx
 cases ry
 obtain ⟨z,its,n,r,hl,e⟩:=I.lstM hH
 obtain ⟨z2,its2,n2,r2,hl2,e2⟩:=I.lstM hB
 refine PySem.P.add_list e e2 ?_ (by rw [List.size_toArray,List.size_toArray];lia)
 have ea:its.toArray++its2.toArray=(its++its2).toArray:=by simp
 rw [ea]
 exact ⟨.ref _,_,I.lnew (t':=s.toks) (r.append r2) (by rw [List.length_append];lia),rfl,q _ I.fresh⟩
def Vs:R2:=fun x y H Q=>∃l k xs,x = .ref l∧y = .int k∧H l=some (.lst xs)∧-(2 ^ 63)≤k∧k < 2 ^ 63∧xs.length * k.toNat≤sizeLine∧
 ∀p,H p=none→Q (.ref p) (upd H p (.lst (List.replicate k.toNat xs).flatten))
theorem Jq {α:Type} (xs:List α) (k:Nat):(List.replicate k xs).flatten.length=k * xs.length:=by
 induction k with
 | zero=>simp
 | succ k ih=>rw [List.replicate_succ,List.flatten_cons,List.length_append,ih,Nat.succ_mul,Nat.add_comm]
theorem U6:OpR X (binaryOp .Mult) Vs:=by
 intro pins s σ H x y v u Q I rx ry h
 obtain ⟨l,k,xs,rfl,rfl,hH,h1,h2,hz,q⟩:=h
 cases rx
 obtain ⟨t,rfl⟩:=ry
 obtain ⟨z,its,n,r,hl,e⟩:=I.lstM hH
 have hlen:its.toArray.size * k.toNat≤sizeLine:=by rw [List.size_toArray,←hl];exact hz
 have hcap:¬its.toArray.size * k.toNat > (2 ^ 63 - 1) / 8:=by
  have:(sizeLine:Nat)≤(2 ^ 63 - 1) / 8:=by decide
  lia
 have hfit:¬(!Builtin.List.listFitsIndex k)=true:=by
  rw [fitsIndex_both h1 h2]
  exact Bool.false_ne_true
 have hlong:¬Builtin.List.listTooLong (its.toArray.size * k.toNat)=true:=by
  rw [HH hlen]
  exact Bool.false_ne_true
 have hnew:List.foldl (fun x1 x2=>x1++x2) #[] (List.replicate (if its.toArray.isEmpty=true then 0 else k.toNat) its.toArray)=(List.replicate k.toNat its).flatten.toArray:=by
  have f0:∀m:Nat,List.foldl (fun x1 x2=>x1++x2) #[] (List.replicate m its.toArray)=(List.replicate m its).flatten.toArray:=fun m=>by
   have:=GV its m []
   rw [List.nil_append] at this
   exact this
  rw [f0]
  cases its with
  | nil=>simp
  | cons a r'=>rw [if_neg (by simp)]
 refine wpAny_binaryOp_repeat_ref (T:="list") (U:="int") (by decide) ⟨_,e,rfl⟩ (fun s'=>typeIs_int s' k t) noFill_list_mul F.fills_int_mul F.slot_int_rmul repeat_list F.slot_int_index.lookup
  (call_meets F.slot_int_rmul (typeIs_int s k t) F.entry_int_rmul (F.args_int_rmul_2 _ _) (int___rmul___int_list k t l its.toArray n)
    ⟨e,rfl,⟨_,e,rfl⟩,call_meets F.slot_list_mul ⟨_,e,rfl⟩ F.entry_list_mul (F.args_list_mul_2 _ _) (AutoListH.list___mul___list_int_3 l its.toArray n k t hfit hcap hlong) ⟨e,?_⟩⟩)
 rw [hnew]
 exact ⟨.ref _,_,I.lnew (t':=s.toks) (r.rep k.toNat) (by rw [Jq,Nat.mul_comm];exact hz),rfl,q _ I.fresh⟩
end
section
variable {prog:Program} {w:World} {A:Around} {E:Value→Shared→Prop} {s:Shared}
end
section
variable {X:Cx}
end
end L2
namespace Att
open PySem PySem.W PySem.Calls PyProof.Rows
theorem Iu {P:Params} {h:Heap}:∀(ns:List Int) (vs:List Value),WellAll P h vs (ns.map WData.int)→IntsAre vs ns:=by
 intro ns
 induction ns with
 | nil=>
   intro vs w
   rw [List.map_nil] at w
   cases w
   exact .nil
 | cons n ns ih=>
   intro vs w
   rw [List.map_cons] at w
   cases w with
   | cons a b=>
     cases a
     exact .cons _ _ (ih _ b)
theorem script_of {l:OpenLaw} {n:Nat} (hn:l.most=some n) {P:Params} {h:Heap} {args:List WData} {vals:List Value}
 (hpre:l.row.toRowW.claim.pre args=true) (hwl:WellAll P h vals args) :
 ∃a vs ns,vals=[Value.ref a]∧args=[WData.list (ns.map WData.int)]∧h.get? a=some { cls:=.type "list",data:=.seq vs.toArray }∧IntsAre vs ns∧ns.length≤n:=by
 have hsh:WShape.hasAll [] args [.list .int]=true:=(pre_splitW hpre).1
 have hc:l.pre.holds [] { args:=args }=true:=(pre_splitW hpre).2
 obtain ⟨d,r,rfl,h1,h2⟩:=hasAllW_cons hsh
 obtain rfl:=hasAllW_nil h2
 obtain ⟨xs,rfl,h3⟩:=hasW_list h1
 obtain ⟨ns,rfl⟩:=items_int h3
 have hlen:ns.length≤n:=by
  unfold OpenLaw.pre at hc
  have h4:(WTm.not (.lt (.lit (.int (n:Int))) (.len (.arg 0)))).holds [] { args:=[.list (ns.map .int)] }=true:=by
   have h4:=(holds_andW hc).1
   rw [hn] at h4
   exact h4
  have h5:=condW_of h4 (w_not (w_lt w_lit (w_len_list (w_arg rfl))))
  rw [List.length_map] at h5
  refine Nat.le_of_not_lt fun q=>?_
  have q':(n:Int) < ((ns.length:Nat):Int):=by lia
  first
   | (rw [decide_eq_true q'] at h5;exact absurd h5 (by decide))
   | (simp at h5;lia)
 cases hwl with
 | cons w1 w2=>
   cases w2
   cases w1 with
   | list ho hall=>exact ⟨_,_,ns,rfl,rfl,ho,Iu ns _ hall,hlen⟩
theorem post_true (l:OpenLaw) (args:List WData):l.row.toRowW.claim.post args (.bool true) args=true:=
 postW_of (r:=l.row.toRowW) (X:=(true == true))
  (show WShape.has [] (.bool true) .bool=true by first | rfl | decide | simp [WShape.has,WShape.arms,WShape.armsAll])
  (show (WTm.eq .res (.lit (.bool true))).value [] { args:=args,res:=some (.bool true),after:=args }=some (.bool (true == true)) from w_eq_bool (w_res rfl) w_lit) rfl
section
variable {prog:Program} {w:World} {A:Around} {E:Value→Shared→Prop} {s:Shared} {K:Frag}
def Ym (h:Heap) (L d:Addr):List (Addr×Obj):=(List.range h.objs.size).filterMap fun a=>if a=L∨a=d then none else (h.get? a).map fun o=>(a,o)
end
end Att
namespace L2
open PySem PySem.Spec PyProof.Rows
theorem Kf:∀{vs:List Value} {ns:List Int},IntsAre vs ns→Vals (ns.map V.int) vs
 | _,_,.nil=>.nil
 | _,_,.cons n t h=>.cons ⟨t,rfl⟩ (Kf h)
def FW (s:Stmt):Arguments:=match s with
 | .FunctionDef _ a _ _ _ _ _ _ _ _=>a
 | _=>{ posonlyargs:=[],args:=[],vararg:=none,kwonlyargs:=[],kw_defaults:=[],kwarg:=none,defaults:=[] }
def Dj (s:Stmt):List Stmt:=match s with
 | .FunctionDef _ _ b _ _ _ _ _ _ _=>b
 | _=>[]
def Aw (s:Stmt):Scope:=match s with
 | .FunctionDef _ _ _ _ _ _ sc _ _ _=>sc
 | _=>{ kind:=.function,names:=[],isGenerator:=false,isCoroutine:=false }
abbrev CX0:CXT:=fun _ _ _ _ _ _=>False
abbrev E0:XK:=fun _ _ _=>False
theorem RY {X:Cx}:K0 CX0 X E0:=fun _ _ _ _ _ _ _ _ h=>h.elim
structure Fun (K:PySem.W.Frag) (x qual:Str) (st:Stmt) (f:Addr) (fd:FuncData):Prop where
 ex:∃(oc:Value) (od:Option Addr) (kV doc pm:Value) (an:Option Addr) (cdv ct:Value) (osl:Array (Option Value)),
  fd=PySem.W.fnOf x qual (FW st) (Dj st) (Aw st) .none kV doc pm an cdv ct∧K.lookup f=some ⟨oc,od,.func fd,osl⟩∧PySem.W.codeIn K cdv qual=true
 kp:PySem.W.keepIn K (.ref f)=true
section
variable {P:Program} {w:World} {K:PySem.W.Frag} {mg:Str→Option Value} {base:Heap}
theorem Fun.ok {x qual:Str} {st:Stmt} {f:Addr} {fd:FuncData} {N ps:List Str} {k:Nat} {sp:Sp} (F:Fun K x qual st f fd) (S:FnScope N ps (Aw st)) (len:∀vs H Q E,sp vs H Q E→vs.length=ps.length)
 (hbody:∀(cdv:Value) (A:Around) (outer:List Env) (s:Shared) (H:Hp) (vs:List V) (Q:VK) (E:XK),Room k (A.deeper (envOfC qual (Aw st) s.heap.objs.size f cdv))→sp vs H Q E→
   ∃t,PSs (Gi CX0 P w K mg base N qual (Aw st) f cdv A outer s H E).nox (Dj st) t∧t { nx:=fun _ H'=>Q .non H',rt:=Q } (DL N vs) H):FnOk P w K mg base CX0 (k + 1) f fd ps sp:=by
 obtain ⟨oc,od,kV,doc,pm,an,cdv,ct,osl,rfl,lk,hcd⟩:=F.ex
 refine RN lk hcd S len fun A outer s H vs Q E hr hsp=>?_
 obtain ⟨t,h,q⟩:=hbody cdv A outer s H vs Q E hr hsp
 exact ⟨t,h.nox,q⟩
theorem Fun.binds {x qual:Str} {st:Stmt} {f:Addr} {fd:FuncData} {ps:List Str} (F:Fun K x qual st f fd)
 (h:∀(kV doc pm:Value) (an:Option Addr) (cdv ct:Value) (us:List Value),us.length=ps.length→bindArgs (PySem.W.fnOf x qual (FW st) (Dj st) (Aw st) .none kV doc pm an cdv ct) ⟨us,[]⟩=pure (ps.zip us)):Binds K fd ps []:=by
 obtain ⟨oc,od,kV,doc,pm,an,cdv,ct,osl,rfl,lk,hcd⟩:=F.ex
 exact .all (h kV doc pm an cdv ct)
theorem O3 {x qual:Str} {st:Stmt} {f:Addr} {oc:Value} {od an:Option Addr} {osl:Array (Option Value)} {kV doc pm cdv ct:Value} (l:K.lookup f=some ⟨oc,od,.func (PySem.W.fnOf x qual (FW st) (Dj st) (Aw st) .none kV doc pm an cdv ct),osl⟩)
 (c:PySem.W.codeIn K cdv qual=true) (k:PySem.W.keepIn K (.ref f)=true):Fun K x qual st f (PySem.W.fnOf x qual (FW st) (Dj st) (Aw st) .none kV doc pm an cdv ct):=⟨⟨oc,od,kV,doc,pm,an,cdv,ct,osl,rfl,l,c⟩,k⟩
end
section
variable {X:Cx}
end
def YC (H H':Hp):Prop:=∀b o,H b=some o→H' b=some o
section
variable {κ:Type} [DecidableEq κ]
def ET (kvs:List (κ×V)) (k:κ):Option V:=(kvs.find? fun kv=>decide (kv.1=k)).map (·.2)
def DN (kvs:List (κ×V)) (k:κ) (v:V):List (κ×V):=
 if (kvs.any fun kv=>decide (kv.1=k))=true then kvs.map (fun kv=>if kv.1=k then (kv.1,v) else kv) else kvs++[(k,v)]
def Yw (kvs:List (κ×V)) (k:κ):List (κ×V):=kvs.filter fun kv=>decide (kv.1≠k)
theorem Ms {p:κ×V} {r:List (κ×V)} {k:κ} (e:p.1=k):ET (p :: r) k=some p.2:=by simp [ET,List.find?_cons,e]
theorem Mr {p:κ×V} {r:List (κ×V)} {k:κ} (e:¬p.1=k):ET (p :: r) k=ET r k:=by simp [ET,List.find?_cons,e]
theorem Ht (kvs:List (κ×V)) (k:κ) (v:V):(DN kvs k v).length≤kvs.length + 1:=by
 unfold DN
 split
 ·rw [List.length_map];lia
 ·rw [List.length_append,List.length_cons,List.length_nil];lia
theorem KV.val {kvs:List (κ×V)} {vs:List (κ×Value)} (r:KV kvs vs) (k:κ):RelO (ET kvs k) (valueAt vs k):=by
 unfold KV at r
 induction r with
 | nil=>exact True.intro
 | @cons p q ps qs h t ih=>
   obtain ⟨h1,h2⟩:=h
   by_cases e:p.1=k
   ·have e':q.1=k:=h1.symm.trans e
    have b:valueAt (q :: qs) k=some q.2:=by simp [valueAt,List.find?_cons,e']
    rw [Ms e,b];exact h2
   ·have e':¬q.1=k:=fun z=>e (h1.trans z)
    have b:valueAt (q :: qs) k=valueAt qs k:=by simp [valueAt,List.find?_cons,e']
    rw [Mr e,b];exact ih
theorem KV.any {kvs:List (κ×V)} {vs:List (κ×Value)} (r:KV kvs vs) (k:κ):(kvs.any fun kv=>decide (kv.1=k))=vs.any fun kv=>decide (kv.1=k):=by
 unfold KV at r
 induction r with
 | nil=>rfl
 | cons h t ih=>rw [List.any_cons,List.any_cons,ih,h.1]
theorem KV.repl {kvs:List (κ×V)} {vs:List (κ×Value)} (r:KV kvs vs) (k:κ) {y:V} {u:Value} (ry:RelV y u) :
 KV (kvs.map fun kv=>if kv.1=k then (kv.1,y) else kv) (vs.map fun kv=>if kv.1=k then (kv.1,u) else kv):=by
 unfold KV at r ⊢
 induction r with
 | nil=>exact .nil
 | @cons p q ps qs h t ih=>
   rw [List.map_cons,List.map_cons]
   refine .cons ?_ ih
   obtain ⟨h1,h2⟩:=h
   by_cases e:p.1=k
   ·rw [if_pos e,if_pos (h1.symm.trans e)];exact ⟨h1,ry⟩
   ·rw [if_neg e,if_neg (fun z=>e (h1.trans z))];exact ⟨h1,h2⟩
theorem KV.put {kvs:List (κ×V)} {vs:List (κ×Value)} (r:KV kvs vs) (k:κ) {y:V} {u:Value} (ry:RelV y u):KV (DN kvs k y) (stored vs k u):=by
 unfold DN stored
 rw [r.any k]
 by_cases e:(vs.any fun kv=>decide (kv.1=k))=true
 ·rw [if_pos e,if_pos e];exact r.repl k ry
 ·rw [if_neg e,if_neg e];exact Paired.snoc r ⟨rfl,ry⟩
theorem KV.length {kvs:List (κ×V)} {vs:List (κ×Value)} (r:KV kvs vs):kvs.length=vs.length:=Paired.length r
end
theorem N0 {P:Program} {w:World} {k:Key} {u:Value} (r:RelV (kV k) u):(Dk P w).is k u=true:=by
 cases k with
 | inl i=>obtain ⟨t,e⟩:=(show ∃t,u=Value.int i t from r);subst e;exact MF P w i t
 | inr x=>obtain ⟨t,e⟩:=(show ∃t,u=Value.str x t from r);subst e;exact MG P w x t
abbrev KT (H:Hp):List (List Key×V)→List (List Key×Addr×Value)→Prop:=Paired fun p q=>p.1=q.1∧H q.2.1=some (.tup (p.1.map kV))∧RelV p.2 q.2.2
section
variable {P:Program} {w:World} {H:Hp} {h:Heap} {a:Addr}
theorem Wq {u:HO} (ok:HOk P w H h) (e:Rd H a u):ObjOk P w H h a u:=e.ok ok
theorem V6 {kvs:List (Key×V)} (ok:HOk P w H h) (e:Rd H a (.dK kvs)):kvs.length≤sizeLine∧(a == sysModules)=false∧∃vs,KV kvs vs∧h.DictOf (Dk P w) a vs:=
 show ObjOk P w H h a (.dK kvs) from Wq ok e
theorem NS {kvs:List (Key×V)} (ok:HOk P w H h) (e:H a=some (.dK kvs)):kvs.length≤sizeLine∧(a == sysModules)=false∧∃vs,KV kvs vs∧h.DictOf (Dk P w) a vs:=V6 ok (.inl e)
end
def DGet (H:Hp) (a:Addr) (y:V) (r:Option V):Prop:=
 (∃kvs k,Rd H a (.dK kvs)∧y=kV k∧r=ET kvs k)∨∃kvs k b,Rd H a (.dT kvs)∧y = .ref b∧H b=some (.tup (k.map kV))∧r=ET kvs k
def YA (H:Hp) (a:Addr) (y v:V) (H':Hp):Prop:=
 (∃kvs k,H a=some (.dK kvs)∧y=kV k∧kvs.length < sizeLine∧H'=upd H a (.dK (DN kvs k v)))∨
 ∃kvs k b,H a=some (.dT kvs)∧y = .ref b∧H b=some (.tup (k.map kV))∧kvs.length < sizeLine∧H'=upd H a (.dT (DN kvs k v))
theorem DGet.k {H:Hp} {a:Addr} {kvs:List (Key×V)} {k:Key} (e:H a=some (.dK kvs)):DGet H a (kV k) (ET kvs k):=.inl ⟨kvs,k,.inl e,rfl,rfl⟩
section
variable {X:Cx} {pins:List (Addr×Obj)} {σ:St} {H:Hp} {s:Shared} {a:Addr} {y v:V} {u r:Value} {o:Option V} {A:Around} {E:Value→Shared→Prop}
theorem Inv.big (I:Inv X pins σ H s):sysModules < s.heap.objs.size:=by
 have h:mainGlobals < s.heap.objs.size:=(I.mod.glob.keeps I.bk).lt
 exact Nat.lt_trans (by decide) h
theorem M1 {h':Heap} {t':Nat} {ob:HO} (I:Inv X pins σ H s) (mu:Mut (H a)) (hs:Heap.SameBut a s.heap h') (he:∃q,h'.get? a=some q) (new:ObjOk X.prog X.w (upd H a ob) h' a ob) (ht:s.toks≤t':=by first | exact Nat.le_refl _ | assumption | lia | (dsimp only;lia)) :
 Inv X pins σ (upd H a ob) { s with heap:=h',toks:=t' }:=
 I.write (x:=a) (e:=a) mu (.inl rfl) (fun b q hb z=>(hs.2 b hb).trans z) he new
theorem OU {P:Program} {w:World} {H':Hp} {h':Heap} {kvs:List (Key×V)} {vs:List (Key×Value)} (z:kvs.length≤sizeLine) (hd:(a == sysModules)=false) (rel:KV kvs vs) (dd:h'.DictOf (Dk P w) a vs) :
 ObjOk P w H' h' a (.dK kvs):=⟨z,hd,vs,rel,dd⟩
end
section
variable {X:Cx} {pins:List (Addr×Obj)} {σ:St} {H:Hp} {s:Shared} {a:Addr} {kvs:List (Key×V)} {k:Key} {u:Value} {A:Around} {E:Value→Shared→Prop}
end
section
variable {X:Cx} {o i e value:Expr} {pos pos' tpos:Pos} {td ty tv:TE}
end
theorem Qt {P:Program} {w:World} {H:Hp} (h:Heap) (hb:sysModules < h.objs.size):ObjOk P w H (h.push { cls:=.type "dict",data:=.dict #[] }) h.objs.size (.dK []):=
 ⟨Nat.zero_le _,beq_eq_false_iff_ne.mpr (Ne.symm (Nat.ne_of_lt hb)),[],.nil,Heap.DictOf.new h⟩
section
variable {X:Cx} {pos:Pos}
end
def IR:List (TE×TE)→St→Hp→(List (V×V)→Hp→Prop)→Prop
 | [],_,H,Q=>Q [] H
 | (tk,tv) :: r,σ,H,Q=>tk σ H fun x H1=>tv σ H1 fun y H2=>IR r σ H2 fun ps H3=>Q ((x,y) :: ps) H3
abbrev VV:List (V×V)→List (Value×Value)→Prop:=Paired fun p q=>RelV p.1 q.1∧RelV p.2 q.2
def PPs (X:Cx) (pos:Pos) (keys:List (Option Expr)) (values:List Expr) (trs:List (TE×TE)):Prop:=
 ∀(pins:List (Addr×Obj)) (s:Shared) (σ:St) (H:Hp) (Q:List (V×V)→Hp→Prop),Inv X pins σ H s→IR trs σ H Q→
  wpAny (model X.prog X.w) X.A (evalPairs (pairTrees keys values X.env pos)) (fun vs s'=>∃ps H',Inv X pins σ H' s'∧VV ps vs∧Q ps H') X.xe s
theorem TC {X:Cx} {pos:Pos}:PPs X pos [] [] []:=fun pins s σ H Q I h=>pairTrees_nil_walk ⟨[],H,I,.nil,h⟩
theorem QZ {X:Cx} {pos:Pos} {k v:Expr} {ks:List (Option Expr)} {vs:List Expr} {tk tv:TE} {trs:List (TE×TE)} (hk:PE X k tk) (hv:PE X v tv) (hr:PPs X pos ks vs trs) :
 PPs X pos (some k :: ks) (v :: vs) ((tk,tv) :: trs):=fun pins s σ H Q I h=>
 pairTrees_cons_walk (thn (hk pins s σ H _ I h) fun u s1 ⟨x,H1,I1,rx,q1⟩=>thn (hv pins s1 σ H1 _ I1 q1) fun w2 s2 ⟨y,H2,I2,ry,q2⟩=>
  thn (hr pins s2 σ H2 _ I2 q2) fun ws s3 ⟨ps,H3,I3,rel,q3⟩=>⟨(x,y) :: ps,H3,I3,.cons ⟨rx,ry⟩ rel,q3⟩)
def Fi (kvs more:List (Key×V)):List (Key×V):=more.foldl (fun acc kv=>DN acc kv.1 kv.2) kvs
theorem KV.merge:∀{more:List (Key×V)} {rs:List (Key×Value)} {kvs:List (Key×V)} {vs:List (Key×Value)},KV more rs→KV kvs vs→KV (Fi kvs more) (merged vs rs):=by
 intro more rs kvs vs r
 unfold KV at r
 induction r generalizing kvs vs with
 | nil=>intro q;exact q
 | @cons p q ps qs h t ih=>
   intro r0
   have e:KV (DN kvs p.1 p.2) (stored vs q.1 q.2):=by
    have:=r0.put p.1 h.2
    rw [←h.1];exact this
   exact ih e
theorem GH:∀(more kvs:List (Key×V)),(Fi kvs more).length≤kvs.length + more.length
 | [],kvs=>by show kvs.length≤kvs.length + 0;lia
 | p :: r,kvs=>by
   have h1:=GH r (DN kvs p.1 p.2)
   have h2:=Ht kvs p.1 p.2
   show (Fi (DN kvs p.1 p.2) r).length≤_
   rw [List.length_cons];lia
theorem Ih {P:Program} {w:World}:∀{kvs:List (Key×V)} {ws:List (Value×Value)},VV (kvs.map fun kv=>(kV kv.1,kv.2)) ws→∃rs,Carries (Dk P w) ws rs∧KV kvs rs
 | [],_,r=>by rw [List.map_nil] at r;cases r;exact ⟨[],True.intro,.nil⟩
 | p :: kvs,_,r=>by
   rw [List.map_cons] at r
   cases r with
   | @cons a b as bs h t=>
     obtain ⟨rs,c,q⟩:=Ih (P:=P) (w:=w) t
     obtain ⟨b1,b2⟩:=b
     exact ⟨(p.1,b2) :: rs,⟨N0 h.1,rfl,c⟩,.cons ⟨rfl,h.2⟩ q⟩
def Wu (trs:List (TE×TE)):TE:=fun σ H Q=>∀p,H p=none→IR trs σ (upd H p (.dK [])) fun ps H2=>H2 p=some (.dK [])∧∃kvs:List (Key×V),ps=kvs.map (fun kv=>(kV kv.1,kv.2))∧kvs.length≤15∧Q (.ref p) (upd H2 p (.dK (Fi [] kvs)))
theorem Tr {X:Cx} {pos:Pos} {keys:List (Option Expr)} {values:List Expr} {trs:List (TE×TE)} (h:PPs X pos keys values trs) (hall:keys.all (·.isSome)=true) (hl:keys.length=values.length) (h0:keys≠[])
 (h15:keys.length≤15):PE X (.Dict keys values pos) (Wu trs):=by
 intro pins s σ H Q I q
 have hn:=I.hok.fresh (Nat.le_refl s.heap.objs.size)
 have I1:=I.laid (a:=s.heap.objs.size) (o:=.dK []) (h':=s.heap.push { cls:=.type "dict",data:=.dict #[] }) (t':=s.toks) (fun _ _ q=>Heap.get?_push_of_some _ q) (Nat.le_refl _) (Qt s.heap I.big)
 refine wpAny_Dict_walk (knd:=Dk X.prog X.w) hall hl h0 h15 (thn (h pins _ σ _ _ I1 (q _ hn)) fun ws s2 ⟨ps,H2,I2,rel,e,kvs,ep,lk,q2⟩=>?_)
 subst ep
 obtain ⟨rs,c,rk⟩:=Ih (P:=X.prog) (w:=X.w) rel
 obtain ⟨z,hd,vs0,r0,dd⟩:=NS I2.hok e
 cases r0
 refine ⟨rs,c,dd,fun h' dd' hs=>⟨.ref s.heap.objs.size,_,?_,rfl,q2⟩⟩
 have hz:(Fi [] kvs).length≤sizeLine:=by
  have h1:=GH kvs []
  rw [List.length_nil] at h1
  rw [sizeLine_eq];lia
 have he:∃q,h'.get? s.heap.objs.size=some q:=let ⟨q,_,_,hq,_⟩:=dd';⟨q,hq⟩
 exact M1 I2 (by rw [e];exact True.intro) hs he (OU hz hd (rk.merge .nil) dd')
theorem Fe {env:Env}:∀(l:List (Str×NameKind)) (cs:List (Str×Addr)),(∀x c,cs.lookup x=some c→env.cells.lookup x=some c)→(∀y∈l,y.2 = .free→∃c,env.cells.lookup y.1=some c)→
 ∃cl,(forIn l cs fun (x:Str×NameKind) r=>(match x with | (name,kind)=>if (kind == NameKind.free)=true then do let c ←cellOf env name;pure (ForInStep.yield ((name,c) :: r)) else pure (ForInStep.yield r):Sem (ForInStep (List (Str×Addr)))))=pure cl∧
  (∀x c,cl.lookup x=some c→env.cells.lookup x=some c)∧(∀x c,cs.lookup x=some c→∃c',cl.lookup x=some c')∧∀y∈l,y.2 = .free→∃c,cl.lookup y.1=some c
 | [],cs,h,_=>⟨cs,rfl,h,fun _ c e=>⟨c,e⟩,fun _ z=>nomatch z⟩
 | (n,k) :: l,cs,h,hf=>by
   by_cases hk:k = .free
   ·subst hk
    obtain ⟨c,hc⟩:=hf (n,.free) List.mem_cons_self rfl
    have hc':env.cells.lookup n=some c:=hc
    have e:cellOf env n=pure c:=by unfold cellOf;rw [hc']
    obtain ⟨cl,e1,e2,e3,e4⟩:=Fe l ((n,c) :: cs) (fun x c' q=>by
     rw [List.lookup_cons] at q
     by_cases hx:(x == n)=true
     ·rw [hx] at q;cases q;rw [eq_of_beq hx];exact hc'
     ·rw [Bool.eq_false_iff.mpr hx] at q;exact h x c' q) (fun y hy=>hf y (List.mem_cons_of_mem _ hy))
    have self:((n,c) :: cs).lookup n=some c:=by rw [List.lookup_cons,beq_self_eq_true]
    refine ⟨cl,?_,e2,fun x c' q=>?_,fun y hy hyf=>?_⟩
    ·rw [List.forIn_cons]
     simp only [beq_self_eq_true,if_true,e]
     exact e1
    ·by_cases hx:(x == n)=true
     ·rw [eq_of_beq hx];exact e3 n c self
     ·exact e3 x c' (by rw [List.lookup_cons,Bool.eq_false_iff.mpr hx];exact q)
    ·rcases List.mem_cons.mp hy with z | z
     ·subst z;exact e3 n c self
     ·exact e4 y z hyf
   ·have hb:(k == NameKind.free)=false:=by simpa using hk
    obtain ⟨cl,e1,e2,e3,e4⟩:=Fe l cs h (fun y hy=>hf y (List.mem_cons_of_mem _ hy))
    refine ⟨cl,?_,e2,e3,fun y hy hyf=>?_⟩
    ·rw [List.forIn_cons]
     simp only [hb,Bool.false_eq_true,if_false]
     exact e1
    ·rcases List.mem_cons.mp hy with z | z
     ·subst z;exact absurd hyf hk
     ·exact e4 y z hyf
theorem Ii {scope:Scope} {env:Env} (h:∀y∈scope.names,y.2 = .free→∃c,env.cells.lookup y.1=some c) :
 ∃cl,closureFor scope env=pure cl∧(∀x c,cl.lookup x=some c→env.cells.lookup x=some c)∧∀y∈scope.names,y.2 = .free→∃c,cl.lookup y.1=some c:=by
 obtain ⟨cl,e1,e2,_,e4⟩:=Fe (env:=env) scope.names [] (fun _ _ q=>nomatch q) h
 refine ⟨cl,?_,e2,e4⟩
 simp only [closureFor]
 first | (rw [e1];rfl) | (simp only [e1];rfl) | (trace_state;exact e1)
theorem Lj {prog:Program} {w:World} {A:Around} {R:Result→Shared→Prop} {s:Shared} {elt target iter:Expr} {ifs:List Expr} {scope:Scope} {pos:Pos} {it acc:Value} {env:Env} (I:Nat→Shared→Prop)
 (turn:∀n s,I n s→wpAny (model prog w) A (pyNext it) (fun r s₁=>match r with
   | none=>R (.ok .next) s₁
   | some v=>wpAny (model prog w) A (letOwnedTupleGo target it v) (fun _ s₁'=>wpAny (model prog w) A (assign target env v) (fun _ s₂=>
      wpAny (model prog w) A (forIn ifs true fun c r=>if r=true then do let ok ←isTrue c env (eval c env);pure (ForInStep.yield ok) else pure (ForInStep.yield r)) (fun ok s₃=>
       if ok=true then wpAny (model prog w) A (eval elt env) (fun x s₄=>
        wpAny (model prog w) A (call (.builtin "list.append") [acc,x]) (fun _ s₅=>∃m,m < n∧I m s₅) (fun _ _=>False) s₄) (fun _ _=>False) s₃
       else ∃m,m < n∧I m s₃) (fun _ _=>False) s₂) (fun _ _=>False) s₁') (fun _ _=>False) s₁) (fun _ _=>False) s)
 (n:Nat) (h:I n s) :
 codeAny (model prog w) A (.compLoop (.ListComp elt [⟨target,iter,ifs,0⟩] scope pos) 0 it acc env) R s:=by
 refine codeAny_loop rfl I (fun n s hI=>?_) n h
 show wpAny _ A ((compTurn (.ListComp elt [⟨target,iter,ifs,0⟩] scope pos) 0 it acc env).onRaise (fun x=>do noteFrame x env;theTreesLotGoes x)) _ _ s
 refine wpAny_noted ?_
 rw [compTurn_list]
 refine wpAny_bind (wpAny_standAt (wpAny_bind (wpAny_mono (turn n s hI) (fun r s₁ h₁=>?_) fun _ _ h'=>h'.elim)))
 cases r with
 | none=>exact wpAny_pure h₁
 | some v=>
   refine wpAny_bind (wpAny_mono h₁ (fun _ s₁' h₁'=>?_) fun _ _ h'=>h'.elim)
   refine wpAny_bind (wpAny_mono h₁' (fun _ s₂ h₂=>wpAny_bind (wpAny_mono h₂ (fun ok s₃ h₃=>?_) fun _ _ h'=>h'.elim)) fun _ _ h'=>h'.elim)
   cases ok with
   | false=>exact wpAny_pure ⟨rfl,h₃⟩
   | true=>
     exact wpAny_bind (wpAny_bind (wpAny_mono h₃ (fun x s₄ h₄=>wpAny_bind (wpAny_mono h₄ (fun _ s₅ h₅=>wpAny_pure (wpAny_pure ⟨rfl,h₅⟩)) fun _ _ h'=>h'.elim)) fun _ _ h'=>h'.elim))
end L2
set_option maxHeartbeats 2000000
namespace L2
open PySem PySem.Spec PyProof.Rows
def B8 (X:Cx) (N':List Str) (scope:Scope) (cl:List (Str×Addr)) (C:Addr) (s2:Shared) (H2:Hp) (fp:List Addr):Cx where
 prog:=X.prog
 w:=X.w
 K:=X.K
 mg:=X.mg
 base:=X.base
 A:=X.A
 N:=N'
 s₀:=s2
 H₀:=H2
 env:=compEnvC scope cl C X.env
 outer:=X.stack
 stack:=X.stack
 ex:=fp
 fn:=fun _=>false
 calm:=X.calm
 pn:=[]
 xe:=fun _ _=>False
theorem Hu (h:Str→NameKind→NameKind) (x:Str):∀l:List (Str×NameKind),(l.map fun p=>(p.1,h p.1 p.2)).lookup x=(l.lookup x).map (h x)
 | []=>rfl
 | (n,k) :: l=>by
   show List.lookup x ((n,h n k) :: _)=_
   rw [List.lookup_cons,List.lookup_cons]
   by_cases hx:(x == n)=true
   ·rw [hx,eq_of_beq hx];rfl
   ·rw [Bool.eq_false_iff.mpr hx];exact Hu h x l
theorem F8 (scope:Scope) (env:Env) (x:Str):(relabel scope env).names.lookup x=(scope.names.lookup x).map fun k=>if (k == .free && env.scope.kind == .function && env.kindOf x == some .cell)=true then .cell else k:=by
 rw [←Hu (fun n k=>if (k == NameKind.free && env.scope.kind == .function && env.kindOf n == some .cell)=true then .cell else k) x scope.names]
 unfold relabel
 dsimp only
 congr 1
 apply List.map_congr_left
 intro p _
 obtain ⟨n,k⟩:=p
 dsimp only
 split <;> rfl
theorem C4 {x:Str} {k:NameKind}:∀{l:List (Str×NameKind)},l.lookup x=some k→(x,k)∈l
 | (n,k') :: l,h=>by
   rw [List.lookup_cons] at h
   by_cases hx:(x == n)=true
   ·rw [hx] at h;cases h;rw [eq_of_beq hx];exact List.mem_cons_self
   ·rw [Bool.eq_false_iff.mpr hx] at h;exact List.mem_cons_of_mem _ (C4 h)
theorem L4 {scope:Scope} {env:Env} {x:Str} (hcell:∀y∈scope.names,y.2≠.cell) (h:(relabel scope env).names.lookup x=some .cell∨(relabel scope env).names.lookup x=some .free):scope.names.lookup x=some .free:=by
 rw [F8] at h
 cases e:scope.names.lookup x with
 | none=>rw [e] at h;rcases h with h | h <;> cases h
 | some k=>
   by_cases hk:k = .free
   ·rw [hk]
   ·have hb:(k == NameKind.free)=false:=by simpa using hk
    rw [e] at h
    simp only [Option.map_some,hb,Bool.false_and,Bool.false_eq_true,if_false] at h
    rcases h with h | h
    ·cases h;exact absurd rfl (hcell _ (C4 e))
    ·cases h;exact absurd rfl hk
def PIf (X:Cx) (ifs:List Expr) (t:TT):Prop:=
 ∀(pins:List (Addr×Obj)) (s:Shared) (σ:St) (H:Hp) (Q:Bool→Hp→Prop),Inv X pins σ H s→t σ H Q→
  wpAny (model X.prog X.w) X.A (forIn ifs true fun c r=>if r=true then do let ok ←isTrue c X.env (eval c X.env);pure (ForInStep.yield ok) else pure (ForInStep.yield r)) (TP X pins σ Q) X.xe s
def Wy:TT:=fun _ H Q=>Q true H
theorem Tu {X:Cx}:PIf X [] Wy:=fun _ _ _ H _ I h=>wpAny_tests_nil ⟨H,I,h⟩
theorem Tv {X:Cx} {c:Expr} {t:TT} (h:PT X c t):PIf X [c] t:=fun pins s σ H Q I q=>wpAny_tests_one (h pins s σ H Q I q)
def PV (J:It) (g:TG) (tt:TT) (te:TE) (σ₀:St) (H1:Hp) (Fin:List V→Hp→Prop):Prop:=
 ∃W:Nat→Nat→List V→St→Hp→Prop,(∃m,W 0 m [] σ₀ H1)∧∀i m acc σ' H',W i m acc σ' H'→acc.length≤sizeLine∧
  ((J.stop i H'∧Fin acc H')∨
    (J.go i H'∧∀x H2,J.yld i H' x H2→g x σ' H2 fun σ3 H3=>tt σ3 H3 fun b H4=>if b=true then te σ3 H4 fun v H5=>∃m',m' < m∧W (i + 1) m' (acc++[v]) σ3 H5 else ∃m',m' < m∧W (i + 1) m' acc σ3 H4))
def KP (wi:TI) (g:TG) (tt:TT) (te:TE) (σf:St→St):TE:=fun σ H Q=>wi σ H fun J H1=>PV J g tt te (σf σ) H1 fun acc H'=>∀p,H' p=none→acc.length≤sizeLine→Q (.ref p) (upd H' p (.lst acc))
structure CmpOk (X:Cx) (scope:Scope) (N':List Str) (σf:St→St):Prop where
 kind:scope.kind = .function
 cell:∀y∈scope.names,y.2≠.cell
 loc:∀y∈scope.names,y.2 = .local→scope.names.lookup y.1=some .local
 free:∀y∈scope.names,y.2 = .free→X.env.kindOf y.1=some .cell∨X.env.kindOf y.1=some .free
 len:∀σ:St,σ.length=X.N.length→(σf σ).length=N'.length
 vals:∀(σ:St) (j:Nat) (x:Str) (v:V),N'[j]?=some x→(σf σ)[j]?=some (some v)→∃i:Nat,X.N[i]?=some x∧σ[i]?=some (some v)∧scope.names.lookup x=some .free
section
variable {X:Cx} {tg elt iter:Expr} {ifs:List Expr} {scope:Scope} {pos:Pos} {N':List Str} {wi:TI} {g:TG} {tt:TT} {te:TE} {σf:St→St}
theorem UA {pins:List (Addr×Obj)} {σ:St} {H2:Hp} {s2:Shared} {cl:List (Str×Addr)} {C:Addr} {fp:List Addr} (O:CmpOk X scope N' σf) (I2:Inv X pins σ H2 s2) (f2:∀b∈fp,FpOk X pins H2 b) (hC:s2.heap.objs.size≤C)
 (hlt:∀b∈fp,b < s2.heap.objs.size) (e2:∀x c,cl.lookup x=some c→X.env.cells.lookup x=some c) (e4:∀y∈scope.names,y.2 = .free→∃c,cl.lookup y.1=some c):(B8 X N' scope cl C s2 H2 fp).Ok where
 mod:=I2.ok.mod
 kind:=O.kind
 glob:=I2.ok.glob
 blt:=I2.ok.blt
 above:=hC
 inj:=fun x y c h1 h2=>I2.ok.inj x y c (e2 x c h1) (e2 y c h2)
 has:=fun x h=>by
  have q:=L4 (env:=X.env) (x:=x) O.cell h
  exact e4 _ (C4 q) rfl
 cab:=fun x c h _=>nomatch h
 hd:=I2.ok.hd
 frames:=I2.ok.frames
 stk:=.inl rfl
 exf:=fun b hb=>⟨Nat.ne_of_lt (Nat.lt_of_lt_of_le (hlt b hb) hC),fun x c e=>(f2 b hb).2.2.2.2.1 x c (e2 x c e)⟩
 bs:=I2.bs
 bsz:=Nat.le_trans I2.ok.bsz I2.sz
 noex:=fun b o e hb=>by
  rcases (f2 b hb).2.2.2.1 with z | z
  ·exact I2.ok.noex b o e z
  ·exact absurd (Nat.lt_of_lt_of_le (Heap.lt_size (I2.ok.bs b o e).1) z) (Nat.lt_irrefl _)
 exfs:=fun b hb z=>by
  rcases List.mem_cons.mp (I2.stkSub b z) with q | q
  ·exact (f2 b hb).2.1 q
  ·exact (f2 b hb).2.2.1 q
 funs:=I2.stack
 frf:=I2.stkFree
theorem VM {pins:List (Addr×Obj)} {σ:St} {H2:Hp} {s2:Shared} (I2:Inv X pins σ H2 s2) {a:Addr} (h:s2.heap.objs.size≤a):a∉frs X.stack:=fun hb=>by
 rcases List.mem_cons.mp (I2.stkSub a hb) with q | q
 ·exact absurd (Nat.lt_of_lt_of_le I2.lt h) (by rw [q];exact Nat.lt_irrefl _)
 ·exact I2.nofs h q
theorem K5 {pins:List (Addr×Obj)} {σ:St} {H2:Hp} {s2:Shared} {cl:List (Str×Addr)} {fp:List Addr} {it:Addr} {tn:Nat→Heap→Prop} {J:It} {Fin:List V→Hp→Prop} {RR:Value→Addr→Result→Shared→Prop} {E:Value→Shared→Prop} (O:CmpOk X scope N' σf) (hc:X.calm=true)
 (I2:Inv X pins σ H2 s2) (T:Turn X.prog X.w X.K tg J fp it tn) (st2:tn 0 s2.heap) (f2:∀b∈fp,FpOk X pins H2 b)
 (e2:∀x c,cl.lookup x=some c→X.env.cells.lookup x=some c) (e4:∀y∈scope.names,y.2 = .free→∃c,cl.lookup y.1=some c)
 (hg:∀C,PG (B8 X N' scope cl C s2 H2 fp) tg g) (ht:∀C,PIf (B8 X N' scope cl C s2 H2 fp) ifs tt) (he:∀C,PE (B8 X N' scope cl C s2 H2 fp) elt te)
 (B:PV J g tt te (σf σ) H2 Fin)
 (fin:∀C s' σ' H' acc m,s2.heap.objs.size≤C→C≠s2.heap.objs.size→Inv (B8 X N' scope cl C s2 H2 fp) [] σ' H' s'→H' s2.heap.objs.size=none→acc.length≤sizeLine→(∃its n,Vals acc its∧s'.heap.get? s2.heap.objs.size=some { cls:=.type "list",data:=.seq its.toArray n })→Fin acc H'→s'.heap.Ns C m→
   RR (.ref s2.heap.objs.size) C (.ok .next) s') :
 wpAny (model X.prog X.w) X.A (newList []) (fun acc s₃=>wpAny (model X.prog X.w) X.A (newFunctionEnv scope X.env.globals cl [] X.env.qual none .none (some X.env)) (fun cenv s₄=>
  codeAny (model X.prog X.w) X.A (.compStart (.ListComp elt [⟨tg,iter,ifs,0⟩] scope pos) 0 (.ref it) acc { cenv with scope:=relabel scope X.env }) (RR acc cenv.locals) s₄) E s₃) E s2:=by
 refine wpAny_newObj_type (wpAny_newFunctionEnv O.cell (by intro y hy;simp at hy) (fun h₁ hns₁ hsb₁=>?_) O.kind)
 dsimp only at hns₁ hsb₁ ⊢
 generalize hH2:s2.heap.push { cls:=.type "list",dict:=none,data:=.seq ([]:List Value).toArray }=HP at hns₁ hsb₁ ⊢
 have hC:HP.objs.size=s2.heap.objs.size + 1:=by rw [←hH2,Heap.size_push]
 generalize hDD:s2.heap.objs.size=DD at *
 generalize hCC:HP.objs.size=CC at *
 have hDC:DD≠CC:=by rw [hC];exact Nat.ne_of_lt (Nat.lt_succ_self _)
 have hCle:s2.heap.objs.size≤CC:=by rw [hC,hDD];exact Nat.le_succ _
 have hlt:∀b∈fp,b < s2.heap.objs.size:=fun b hb=>by obtain ⟨o,e,_⟩:=T.obj _ _ st2 b hb;exact Heap.lt_size e
 have hlt':∀b∈fp,b < DD:=fun b hb=>by rw [←hDD];exact hlt b hb
 have below:∀b,b < DD→b≠CC∧b≠DD:=fun b hb=>⟨by rw [hC];exact Nat.ne_of_lt (Nat.lt_succ_of_lt hb),Nat.ne_of_lt hb⟩
 have old:∀b o,s2.heap.get? b=some o→h₁.get? b=some o:=fun b o e=>hsb₁.extBut b o (below b (by rw [←hDD];exact Heap.lt_size e)).1 (Heap.get?_push_of_some _ (hH2 ▸ Heap.get?_push_of_some _ e))
 have hacc:h₁.get? DD=some { cls:=.type "list",data:=.seq ([]:List Value).toArray }:=by
  refine hsb₁.extBut _ _ hDC (Heap.get?_push_of_some _ ?_)
  rw [←hH2,←hDD]
  exact Heap.get?_push_size _ rfl
 have ok:=UA (cl:=cl) (C:=CC) O I2 f2 hCle hlt e2 e4
 have hfs:DD∉frs X.stack:=VM I2 (by rw [hDD];exact Nat.le_refl _)
 obtain ⟨W,⟨m0,w0⟩,turn⟩:=B
 let X':Cx:=B8 X N' scope cl CC s2 H2 fp
 have I0:Inv X' [] (σf σ) H2 { s2 with heap:=h₁,toks:=s2.toks + ([]:List (Str×Value)).length }:=by
  refine ⟨ok,rfl,I2.bare,Un.kept old,⟨_,hns₁,fun j x v q1 q2 q3=>?_⟩,fun x c e=>?_,I2.hok.fresh hCle,fun x c e=>I2.freeC x c (e2 x c e),(fun p hp=>nomatch hp),I2.hok.kept old,O.len σ I2.len,Nat.le_trans I2.tk (Nat.le_add_right _ _)⟩
  ·obtain ⟨i,n1,n2,n3⟩:=O.vals σ j x v q1 q2
   obtain ⟨m,_,hl⟩:=I2.loc
   have hfr:=O.free _ (C4 n3) rfl
   obtain ⟨u,r,l⟩:=hl i x v n1 n2 (.inr hfr)
   refine ⟨u,r,?_⟩
   rcases l with ⟨k,_⟩ | ⟨_,c,ec,hcell⟩
   ·rcases hfr with z | z <;> (have z':=k.symm.trans z;cases z')
   ·obtain ⟨c',ec'⟩:=e4 _ (C4 n3) rfl
    have z:=e2 _ _ ec'
    have ez:X.env.cells.lookup x=some c':=z
    rw [ec] at ez
    cases ez
    refine .inr ⟨?_,c,ec',?_⟩
    ·show (relabel scope X.env).names.lookup x=some .cell∨(relabel scope X.env).names.lookup x=some .free
     rw [F8,n3]
     simp only [Option.map_some]
     split
     ·exact .inl rfl
     ·exact .inr rfl
    ·obtain ⟨o,ho,hd⟩:=hcell
     exact ⟨o,old _ _ ho,hd⟩
  ·obtain ⟨v,o,ho,hd⟩:=I2.cell x c (e2 x c e)
   exact ⟨v,o,old _ _ ho,hd⟩
 have loop:∀s₃:Shared,s₃ = { s2 with heap:=h₁,toks:=s2.toks + ([]:List (Str×Value)).length }→
  codeAny (model X.prog X.w) X.A (.compLoop (.ListComp elt [⟨tg,iter,ifs,0⟩] scope pos) 0 (.ref it) (.ref DD) (compEnvC scope cl CC X.env)) (RR (.ref DD) CC) s₃:=by
  rintro s₃ rfl
  refine Lj (fun n s'=>∃i acc its nn σ' H',Inv X' [] σ' H' s'∧tn i s'.heap∧(∀b∈fp,H' b=none)∧Vals acc its∧s'.heap.get? DD=some { cls:=.type "list",data:=.seq its.toArray nn }∧H' DD=none∧W i n acc σ' H') ?_ m0
   ⟨0,[],[],0,σf σ,H2,I0,T.keep _ _ _ st2 (fun b _ o e=>old b o e),fun b hb=>(f2 b hb).1,.nil,hacc,I2.hok.fresh (by rw [hDD];exact Nat.le_refl _),w0⟩
  rintro n s' ⟨i,acc,its,nn,σ3,H3,I3,st3,fr3,hv,hD,hDn,w3⟩
  have I3p:Inv X' [(DD,({ cls:=.type "list",data:=.seq its.toArray nn }:Obj))] σ3 H3 s':=I3.pins_of fun p hp=>by
   have e:p=(DD,({ cls:=.type "list",data:=.seq its.toArray nn }:Obj)):=by simpa using hp
   subst e
   exact ⟨hD,hDn,hDC,hfs,fun v z=>nomatch z⟩
  have stat:∀{pins':List (Addr×Obj)} {H':Hp},(∀p∈pins',p.1=DD)→(∀b∈fp,H' b=none)→∀b∈fp,FpOk X' pins' H' b:=fun {pins' H'} hp hn b hb=>
   ⟨hn b hb,(ok.exf b hb).1,ok.exfs b hb,.inl hb,(ok.exf b hb).2,fun p hp' z=>by
    have e:p.1=DD:=hp p (by simpa [X',B8] using hp')
    exact absurd (hlt' b hb) (by rw [←z,e];exact Nat.lt_irrefl _)⟩
  have one:∀p∈[(DD,({ cls:=.type "list",data:=.seq its.toArray nn }:Obj))],p.1=DD:=fun p hp=>by
   have e:p=(DD,({ cls:=.type "list",data:=.seq its.toArray nn }:Obj)):=by simpa using hp
   rw [e]
  obtain ⟨hz,tr⟩:=turn i n acc σ3 H3 w3
  rcases tr with ⟨stop,qf⟩ | ⟨go,step⟩
  ·refine thn (T.done X' rfl rfl rfl hc i _ s' σ3 H3 (fun _ _=>False) I3p (stat one fr3) st3 stop) fun r s4 ⟨hr,I4⟩=>?_
   subst hr
   obtain ⟨m4,hm4,_⟩:=I4.loc
   have pD:=(I4.pin (DD,({ cls:=.type "list",data:=.seq its.toArray nn }:Obj)) (by simp [X',B8])).1
   have I4':Inv X' [] σ3 H3 s4:=I4.pins_of fun p hp=>nomatch hp
   exact fin CC s4 σ3 H3 acc m4 (by rw [hDD] at hCle;exact hCle) (Ne.symm hDC) I4' hDn hz ⟨its,nn,hv,pD⟩ qf hm4
  ·refine thn (T.item X' rfl rfl rfl hc i _ s' σ3 H3 (fun _ _=>False) I3p (stat one fr3) st3 go) fun r s4 ⟨u,hr,h4⟩=>?_
   subst hr
   refine thn h4 fun _ s5 ⟨x,H5,I5,r5,y5,st5,fr5⟩=>?_
   have I5':=I5.pinned (stat one fr5) (T.obj _ _ st5)
   refine thn (hg CC _ s5 σ3 H5 x u _ I5' r5 (step x H5 y5)) fun _ s6 ⟨σ6,H6,I6,q6⟩=>?_
   refine thn (ht CC _ s6 σ6 H6 _ I6 q6) fun b s7 ⟨H7,I7,q7⟩=>?_
   have back:∀{H8:Hp} {s8:Shared},Inv X' ([(DD,({ cls:=.type "list",data:=.seq its.toArray nn }:Obj))]++G5 fp s5.heap) σ6 H8 s8→
    s8.heap.get? DD=some { cls:=.type "list",data:=.seq its.toArray nn }∧H8 DD=none∧tn (i + 1) s8.heap∧(∀b∈fp,H8 b=none)∧Inv X' [] σ6 H8 s8:=fun {H8 s8} I8=>by
    have p1:=I8.pin (DD,({ cls:=.type "list",data:=.seq its.toArray nn }:Obj)) (by simp [X',B8])
    refine ⟨p1.1,p1.2.1,T.keep _ _ _ st5 fun b hb o e=>(I8.pin (b,o) (List.mem_append_right _ (List.mem_append_right _ (E1 hb e)))).1,fun b hb=>?_,I8.pins_of fun p hp=>nomatch hp⟩
    obtain ⟨o,e,_⟩:=T.obj _ _ st5 b hb
    exact (I8.pin (b,o) (List.mem_append_right _ (List.mem_append_right _ (E1 hb e)))).2.1
   cases b with
   | false=>
     rw [if_neg Bool.false_ne_true] at q7 ⊢
     obtain ⟨m',hm,w7⟩:=q7
     obtain ⟨a1,a2,a3,a4,a5⟩:=back I7
     exact ⟨m',hm,i + 1,acc,its,nn,σ6,H7,a5,a3,a4,hv,a1,a2,w7⟩
   | true=>
     rw [if_pos rfl] at q7 ⊢
     refine thn (he CC _ s7 σ6 H7 _ I7 q7) fun y s8 ⟨v8,H8,I8,r8,m',hm,w8⟩=>?_
     obtain ⟨a1,a2,a3,a4,a5⟩:=back I8
     have hsz:its.toArray.size≤sizeLine:=by
      have e:=hv.length
      simpa [e] using hz
     refine wpAny_list_append_plain (hsz:=hsz) ⟨nn,a1⟩ fun h9 hl9 hs9=>?_
     obtain ⟨n9,e9⟩:=hl9
     have e9':h9.get? DD=some { cls:=.type "list",data:=.seq (its++[y]).toArray n9 }:=by simpa using e9
     refine ⟨m',hm,i + 1,acc++[v8],its++[y],n9,σ6,H8,a5.turned (t':=s8.toks) (h':=h9) (it:=DD) (fun b o hb e=>hs9.extBut b o hb e) a2 hDC (.inr (show s2.heap.objs.size≤DD by rw [hDD];exact Nat.le_refl _)) (fun x' c e z=>?_) (fun p hp=>nomatch hp),T.keep _ _ _ a3 fun b hb o e=>hs9.extBut b o (Nat.ne_of_lt (hlt' b hb)) e,a4,hv.append (.cons r8 .nil),e9',a2,w8⟩
     obtain ⟨v,o,ho,hd⟩:=I2.cell x' c (e2 x' c e)
     have:=Heap.lt_size ho
     rw [hDD,z] at this
     exact Nat.lt_irrefl _ this
 exact codeAny_compStart_list (loop _ rfl) (T.self _ 0 _ _ _ (T.keep _ _ _ st2 fun b _ o e=>old b o e) (loop _ rfl))
end
section
variable {X:Cx} {tg elt iter:Expr} {ifs:List Expr} {scope:Scope} {pos:Pos} {N':List Str} {wi:TI} {g:TG} {tt:TT} {te:TE} {σf:St→St}
theorem J5 {pins:List (Addr×Obj)} {σ σ':St} {H2 H':Hp} {s2 s':Shared} {cl:List (Str×Addr)} {fp:List Addr} {C:Addr} {acc:List V} {its:List Value} {n:Nat} {h':Heap} (I2:Inv X pins σ H2 s2) (f2:∀b∈fp,FpOk X pins H2 b)
 (hC:s2.heap.objs.size≤C) (hCD:C≠s2.heap.objs.size) (I':Inv (B8 X N' scope cl C s2 H2 fp) [] σ' H' s') (hDn:H' s2.heap.objs.size=none) (hz:acc.length≤sizeLine) (hv:Vals acc its)
 (hD:s'.heap.get? s2.heap.objs.size=some { cls:=.type "list",data:=.seq its.toArray n }) (hs:Heap.SameBut C s'.heap h') :
 Inv X pins σ (upd H' s2.heap.objs.size (.lst acc)) { s' with heap:=h' }:=by
 have U:=I'.base
 have lt:∀b o,s2.heap.get? b=some o→b≠C∧b≠s2.heap.objs.size:=fun b o e=>⟨Nat.ne_of_lt (Nat.lt_of_lt_of_le (Heap.lt_size e) hC),Nat.ne_of_lt (Heap.lt_size e)⟩
 have neD:∀b u,H' b=some u→b≠s2.heap.objs.size:=fun b u e=>Bj e hDn
 have neC:∀b u,H' b=some u→b≠C:=fun b u e=>Bj e I'.free
 refine I2.call' (s':={ s' with heap:=h' }) (ch:=fp) I'.os ⟨fun b o e n hb hx=>?_,fun b o e n hb hx=>?_,fun b o e n hx=>?_,fun b o e hx=>?_,fun b xs e=>?_,fun b o u e=>?_,fun b ps e=>?_⟩ ?_ I'.bare (fun b hb=>⟨(f2 b hb).2.2.2.1,(f2 b hb).2.1,(f2 b hb).2.2.2.2.1,(f2 b hb).2.2.2.2.2⟩) I'.tk
 ·exact hs.extBut b o (lt b o e).1 (U.keep b o e n hb hx)
 ·obtain ⟨sl,q⟩:=U.slot b o e n hb hx
  exact ⟨sl,hs.extBut b _ (lt b o e).1 q⟩
 ·rw [Ar (lt b o e).2];exact U.free b o e n hx
 ·obtain ⟨o',q⟩:=U.there b o e hx
  exact ⟨o',hs.extBut b _ (lt b o e).1 q⟩
 ·have q:=U.tups b xs e;rw [Ar (neD b _ q)];exact q
 ·have q:=U.frzs b o u e;rw [Ar (neD b _ q)];exact q
 ·obtain ⟨m,q⟩:=U.tbls b ps e
  exact ⟨m,by rw [Ar (neD b _ q)];exact q⟩
 ·intro b u e
  by_cases hb:b=s2.heap.objs.size
  ·subst hb
   rw [AN] at e
   cases e
   exact ⟨hz,its,n,hv,hs.extBut _ _ (Ne.symm hCD) hD⟩
  ·rw [Ar hb] at e
   refine (I'.hok b u e).stay (fun c v hc q=>hs.extBut c v ?_ q) (fun c q=>by rw [Ar (neD c _ q)];exact q) fun c xs q=>by rw [Ar (neD c _ q)];exact q
   rcases hc with z | z
   ·rw [z];exact neC b u e
   ·exact neC c _ z
theorem Ni (O:CmpOk X scope N' σf) (hc:X.calm=true) (hi:PI X tg iter wi)
 (hg:∀cl C s2 H2 fp,PG (B8 X N' scope cl C s2 H2 fp) tg g) (ht:∀cl C s2 H2 fp,PIf (B8 X N' scope cl C s2 H2 fp) ifs tt) (he:∀cl C s2 H2 fp,PE (B8 X N' scope cl C s2 H2 fp) elt te)
 (hs:∀x,foldedSetIterable iter X.env x=pure x:=by intro _;rfl):PE X (.ListComp elt [⟨tg,iter,ifs,0⟩] scope pos) (KP wi g tt te σf):=by
 intro pins s σ H Q I h
 obtain ⟨cl,e1,e2,e4⟩:=Ii (scope:=scope) (env:=X.env) fun y hy hf=>I.ok.has y.1 (O.free y hy hf)
 rw [eval_ListComp]
 refine wpAny_comprehension_free (use:=none) rfl hs e1 O.kind O.loc (thn (hi pins s σ H _ I h) fun v s1 h1=>thn h1 fun itv s2 h2=>?_)
 obtain ⟨it,fp,tn,J,H2,rfl,I2,T,st2,f2,B⟩:=h2
 refine K5 (RR:=fun acc C=>compPost (model X.prog X.w) X.A X.xe none (EP X pins σ Q) acc C) O hc I2 T st2 f2 e2 e4 (fun C=>hg cl C s2 H2 fp) (fun C=>ht cl C s2 H2 fp) (fun C=>he cl C s2 H2 fp) B ?_
 intro C s' σ' H' acc m hC hCD I' hDn hz hL fin hn
 obtain ⟨its,n,hv,hD⟩:=hL
 refine ⟨m,hn,fun h' hs'=>?_⟩
 exact ⟨.ref s2.heap.objs.size,upd H' _ (.lst acc),J5 I2 f2 hC hCD I' hDn hz hv hD hs',rfl,fin _ hDn hz⟩
theorem Nl {i:Nat} {y:Str} {py spos:Pos} (O:CmpOk X scope N' σf) (hc:X.calm=true) (hN:X.N.Nodup) (hiN:X.N[i]?=some y) (hx:X.env.scope.names.lookup y=some .local) (hi:PI X tg iter wi)
 (hg:∀cl C s2 H2 fp,PG (B8 X N' scope cl C s2 H2 fp) tg g) (ht:∀cl C s2 H2 fp,PIf (B8 X N' scope cl C s2 H2 fp) ifs tt) (he:∀cl C s2 H2 fp,PE (B8 X N' scope cl C s2 H2 fp) elt te)
 (hsw:swapsWith (.ListComp elt [⟨tg,iter,ifs,0⟩] scope pos) (some (.Name y py)) spos.line X.env=pure true:=by rfl)
 (hs:∀x,foldedSetIterable iter X.env x=pure x:=by intro _;rfl):PS X (.Assign [.Name y py] (.ListComp elt [⟨tg,iter,ifs,0⟩] scope pos) spos) (Mm (KP wi g tt te σf) (Ir i)):=by
 intro pins s σ H D I h
 obtain ⟨cl,e1,e2,e4⟩:=Ii (scope:=scope) (env:=X.env) fun y hy hf=>I.ok.has y.1 (O.free y hy hf)
 rw [exec_Assign_Name_used _ _ _ _ hsw]
 refine wpAny_bind (wpAny_standAt (wpAny_bind ?_))
 show wpAny _ X.A (do let _ ←comprehension (.ListComp elt [⟨tg,iter,ifs,0⟩] scope pos) scope X.env _ (newList []) false (eval iter X.env) (some (assign (.Name y py) X.env))) _ _ s
 refine wpAny_bind (thn (wpAny_comprehension_free (use:=some (assign (.Name y py) X.env)) (Q:=fun _ s'=>SP X pins D .next s') rfl hs e1 O.kind O.loc (thn (hi pins s σ H _ I h) fun v s1 h1=>thn h1 fun itv s2 h2=>?_)) (fun _ s' hq=>wpAny_pure (wpAny_pure hq)))
 obtain ⟨it,fp,tn,J,H2,rfl,I2,T,st2,f2,B⟩:=h2
 refine K5 (RR:=fun acc C=>compPost (model X.prog X.w) X.A X.xe (some (assign (.Name y py) X.env)) (fun _ s'=>SP X pins D .next s') acc C) O hc I2 T st2 f2 e2 e4 (fun C=>hg cl C s2 H2 fp) (fun C=>ht cl C s2 H2 fp) (fun C=>he cl C s2 H2 fp) B ?_
 intro C s' σ' H' acc m hC hCD I' hDn hz hL fin hn
 obtain ⟨its,n,hv,hD⟩:=hL
 show wpAny _ X.A (assign (.Name y py) X.env (.ref s2.heap.objs.size)) _ _ _
 have I3:=J5 I2 f2 hC hCD I' hDn hz hv hD (Heap.SameBut.refl ..)
 refine wpAny_assign_Name (Kb I3 hN hiN (.inl hx) (v:=.ref s2.heap.objs.size) rfl (fun s4 I4 ⟨a,hsb,ha⟩=>?_) (.inr hx))
 have hCL:C≠X.env.locals:=Nat.ne_of_gt (Nat.lt_of_lt_of_le I2.lt hC)
 have hCc:∀x c,X.env.cells.lookup x=some c→c≠C:=fun x c e z=>by
  obtain ⟨v,q⟩:=I2.cell x c e
  exact absurd (Nat.lt_of_lt_of_le q.lt (by rw [z];exact hC)) (Nat.lt_irrefl _)
 have hCa:C≠a:=by
  rcases ha with z | z
  ·rw [z];exact hCL
  ·exact fun q=>hCc _ _ z q.symm
 refine ⟨m,hn.sameBut hsb hCa,fun h' hs'=>?_⟩
 have hnC:(upd H' s2.heap.objs.size (.lst acc)) C=none:=by rw [Ar hCD];exact I'.free
 refine ⟨_,_,I4.turned (t':=s4.toks) (h':=h') (it:=C) (fun b o hb e=>hs'.extBut b o hb e) hnC hCL (.inr (Nat.le_trans I2.sz hC)) hCc (fun p hp z=>?_),fin _ hDn hz⟩
 exact absurd (Nat.lt_of_lt_of_le (Heap.lt_size (I2.pin p hp).1) (by rw [z];exact hC)) (Nat.lt_irrefl _)
end
end L2
set_option autoImplicit false
namespace F2
open PySem L2 PySem.Spec
inductive D where
 | non | bl (b:Bool) | int (i:Int) | str (x:Str) | tup (xs:List D) | lst (xs:List D) | scr (ns:List Int) | dic | obj (k:Nat) | ty (n:String) | exc (n:Str) (xs:List D)
def nfz:HO→Bool
 | .frz _ _=>false
 | _=>true
abbrev NFz:={ o:HO // nfz o=true }
structure Cf where
 ι:List Addr
 O:Addr→Prop
def Cf.A (c:Cf) (a:Addr):Prop:=a∈c.ι∨c.O a
def Scr (K:PySem.W.Frag) (c:Cf) (H:Hp) (a:Addr) (vs:List V):Prop:=
 ((∃o,H a=some (.frz o (.lst vs)))∧¬c.A a)∨
   ∃(o:Obj) (its:Array Value) (n:Nat),K.lookup a=some o∧o.cls = .type "list"∧o.dict=none∧o.data = .seq its n∧its.size≤sizeLine∧Vals vs its.toList
def XIs (qx:Bool) (x C:Addr) (dx:Option Addr) (h:Heap):Prop:=∃(o:Obj) (vs:Array Value),h.get? x=some o∧o.cls = .ref C∧o.dict=dx∧o.data = .fields vs∧(qx=true→vs[2]?=some .none∧4 < vs.size)
def UH (n:Str):List Str:=if n = "NoTalk" then ["at"] else if n = "Broken" then ["at", "side"] else []
def XFld (c:Cf) (H:Hp) (dx:Option Addr) (ns:List Str) (vs:List V):Prop:=match dx with
 | none=>vs=[]
 | some d=>H d=some (.xd (ns.zip vs))∧¬c.A d
mutual
inductive Rep (K:PySem.W.Frag) (c:Cf) (H:Hp):V→D→Prop where
 | non:Rep K c H .non .non
 | bl (b:Bool):Rep K c H (.bl b) (.bl b)
 | int (i:Int):Rep K c H (.int i) (.int i)
 | str (x:Str):Rep K c H (.str x) (.str x)
 | ty (n:String):Rep K c H (.ty n) (.ty n)
 | tup {a:Addr} {vs:List V} {ds:List D}:H a=some (.tup vs)→¬c.A a→Reps K c H vs ds→Rep K c H (.ref a) (.tup ds)
 | lst {a:Addr} {vs:List V} {ds:List D}:H a=some (.lst vs)→¬c.A a→Reps K c H vs ds→Rep K c H (.ref a) (.lst ds)
 | scr {a:Addr} {ns:List Int}:Scr K c H a (ns.map V.int)→Rep K c H (.ref a) (.scr ns)
 | dic {a:Addr}:H a=some (.dK [])→¬c.A a→Rep K c H (.ref a) .dic
 | obj {a:Addr} {k:Nat}:c.ι[k]?=some a→Rep K c H (.ref a) (.obj k)
 | exc {qx:Bool} {x C:Addr} {dx:Option Addr} {n:Str} {vs:List V} {ds:List D}:PySem.W.nsIn K mainGlobals n=some (some (.ref C))→H x=some (.ext (XIs qx x C dx))→¬c.A x→XFld c H dx (UH n) vs→Reps K c H vs ds→Rep K c H (.ref x) (.exc n ds)
inductive Reps (K:PySem.W.Frag) (c:Cf) (H:Hp):List V→List D→Prop where
 | nil:Reps K c H [] []
 | cons {v:V} {d:D} {vs:List V} {ds:List D}:Rep K c H v d→Reps K c H vs ds→Reps K c H (v :: vs) (d :: ds)
end
structure Ext (c:Cf) (H:Hp) (c':Cf) (H':Hp):Prop where
 keep:∀b o,H b=some o→¬c.A b→H' b=some o
 av:∀b o,H b=some o→c'.A b→c.A b
 io:∀(k:Nat) (a:Addr),c.ι[k]?=some a→c'.ι[k]?=some a
theorem Ext.refl {c:Cf} {H:Hp}:Ext c H c H:=⟨fun _ _ h _=>h,fun _ _ _ h=>h,fun _ _ h=>h⟩
theorem Ext.trans {c c1 c2:Cf} {H H1 H2:Hp} (a:Ext c H c1 H1) (b:Ext c1 H1 c2 H2):Ext c H c2 H2:=by
 refine ⟨fun x o h n=>?_,fun x o h n=>?_,fun k x h=>b.io k x (a.io k x h)⟩
 ·exact b.keep x o (a.keep x o h n) fun z=>n (a.av x o h z)
 ·by_cases q:c.A x
  ·exact q
  ·exact a.av x o h (b.av x o (a.keep x o h q) n)
theorem Scr.mono {K:PySem.W.Frag} {c c':Cf} {H H':Hp} {a:Addr} {vs:List V} (e:Ext c H c' H') (h:Scr K c H a vs):Scr K c' H' a vs:=by
 rcases h with ⟨⟨o,h⟩,n⟩ | h
 ·exact .inl ⟨⟨o,e.keep _ _ h n⟩,fun z=>n (e.av _ _ h z)⟩
 ·exact .inr h
theorem Scr.sq {K:PySem.W.Frag} {c:Cf} {H:Hp} {a:Addr} {vs:List V} (h:Scr K c H a vs):SqL K H a vs:=by
 rcases h with ⟨h,_⟩ | h
 ·exact .inl (.inr h)
 ·exact .inr h
theorem XFld.mono {c c':Cf} {H H':Hp} {dx:Option Addr} {ns:List Str} {vs:List V} (e:Ext c H c' H') (h:XFld c H dx ns vs):XFld c' H' dx ns vs:=by
 cases dx with
 | none=>exact h
 | some d=>exact ⟨e.keep _ _ h.1 h.2,fun z=>h.2 (e.av _ _ h.1 z)⟩
mutual
theorem Rep.mono {K:PySem.W.Frag} {c c':Cf} {H H':Hp} (e:Ext c H c' H'):∀{v:V} {d:D},Rep K c H v d→Rep K c' H' v d
 | _,_,.non=>.non
 | _,_,.bl b=>.bl b
 | _,_,.int i=>.int i
 | _,_,.str x=>.str x
 | _,_,.ty n=>.ty n
 | _,_,.tup h n r=>.tup (e.keep _ _ h n) (fun z=>n (e.av _ _ h z)) (Reps.mono e r)
 | _,_,.lst h n r=>.lst (e.keep _ _ h n) (fun z=>n (e.av _ _ h z)) (Reps.mono e r)
 | _,_,.scr h=>.scr (h.mono e)
 | _,_,.dic h n=>.dic (e.keep _ _ h n) (fun z=>n (e.av _ _ h z))
 | _,_,.obj h=>.obj (e.io _ _ h)
 | _,_,.exc g h n f r=>.exc g (e.keep _ _ h n) (fun z=>n (e.av _ _ h z)) (f.mono e) (Reps.mono e r)
theorem Reps.mono {K:PySem.W.Frag} {c c':Cf} {H H':Hp} (e:Ext c H c' H'):∀{vs:List V} {ds:List D},Reps K c H vs ds→Reps K c' H' vs ds
 | _,_,.nil=>.nil
 | _,_,.cons h t=>.cons (Rep.mono e h) (Reps.mono e t)
end
section
variable {K:PySem.W.Frag} {c:Cf} {H:Hp}
theorem Reps.length:∀{vs:List V} {ds:List D},Reps K c H vs ds→vs.length=ds.length
 | _,_,.nil=>rfl
 | _,_,.cons _ t=>by simp [Reps.length t]
theorem Reps.get:∀{vs:List V} {ds:List D} {i:Nat} {v:V} {d:D},Reps K c H vs ds→vs[i]?=some v→ds[i]?=some d→Rep K c H v d
 | _,_,_,_,_,.nil,e,_=>by simp at e
 | _,_,0,_,_,.cons r _,e,e'=>by simp at e e';subst e e';exact r
 | _,_,i + 1,_,_,.cons _ t,e,e'=>Reps.get (i:=i) t (by simpa using e) (by simpa using e')
theorem Reps.at:∀{vs:List V} {ds:List D} {i:Nat} {d:D},Reps K c H vs ds→ds[i]?=some d→∃v,vs[i]?=some v∧Rep K c H v d
 | _,_,_,_,.nil,e=>by simp at e
 | _,_,0,_,.cons r _,e=>by simp at e;subst e;exact ⟨_,rfl,r⟩
 | _,_,i + 1,_,.cons _ t,e=>by
   obtain ⟨v,h1,h2⟩:=Reps.at (i:=i) t (by simpa using e)
   exact ⟨v,by simpa using h1,h2⟩
theorem Reps.append:∀{vs ws:List V} {ds es:List D},Reps K c H vs ds→Reps K c H ws es→Reps K c H (vs++ws) (ds++es)
 | _,_,_,_,.nil,s=>s
 | _,_,_,_,.cons r t,s=>.cons r (Reps.append t s)
theorem Reps.take:∀{vs:List V} {ds:List D} (n:Nat),Reps K c H vs ds→Reps K c H (vs.take n) (ds.take n)
 | _,_,0,_=>.nil
 | _,_,_ + 1,.nil=>.nil
 | _,_,n + 1,.cons r t=>.cons r (Reps.take n t)
theorem Reps.drop:∀{vs:List V} {ds:List D} (n:Nat),Reps K c H vs ds→Reps K c H (vs.drop n) (ds.drop n)
 | _,_,0,r=>r
 | _,_,_ + 1,.nil=>.nil
 | _,_,n + 1,.cons _ t=>Reps.drop n t
theorem Reps.set {v:V} {d:D} (r:Rep K c H v d):∀{vs:List V} {ds:List D} (i:Nat),Reps K c H vs ds→Reps K c H (vs.set i v) (ds.set i d)
 | _,_,_,.nil=>.nil
 | _,_,0,.cons _ t=>.cons r t
 | _,_,i + 1,.cons q t=>.cons q (Reps.set r i t)
theorem Reps.ints:∀ns:List Int,Reps K c H (ns.map V.int) (ns.map D.int)
 | []=>.nil
 | n :: r=>.cons (.int n) (Reps.ints r)
theorem Reps.rep {vs:List V} {ds:List D} (h:Reps K c H vs ds):∀k:Nat,Reps K c H (List.replicate k vs).flatten (List.replicate k ds).flatten
 | 0=>.nil
 | k + 1=>by
   rw [List.replicate_succ,List.replicate_succ,List.flatten_cons,List.flatten_cons]
   exact h.append (Reps.rep h k)
end
structure LamD where
 qual:Str
 params:Arguments
 body:Expr
 scope:Scope
 names:List Str
abbrev Gm (o:Obj):HO:=.frz o (.own 0)
def Ou (oc:Obj) (qual:Str):Prop:=∃vs t,oc.data = .fields vs∧vs[1]?=some (.str qual t)
inductive Ob where
 | lst (xs:List D)
 | dct (kvs:List (Key×D))
 | ins (n:Str) (fs:List (Str×D))
 /-- a code object's table with at most the one lambda in it;a lambda,with what it captured -/
 | tab (P line col:Nat) (qual:Str)
 | fn (L:LamD) (ds:List D)
inductive Sl where
 | val (d:D)
 | own (xs:List D)
structure T where
 env:List (Option Sl)
 S:List Ob
def KVR (K:PySem.W.Frag) (c:Cf) (H:Hp):List (Key×V)→List (Key×D)→Prop:=Paired fun p q=>p.1=q.1∧Rep K c H p.2 q.2
def Xb:List Str:=["Reader", "Side", "Lasting", "Parley", "Listener", "Relay", "Desk"]
def atN:List Str:=["grammar", "standing", "wires", "places", "side", "said", "taken", "handed", "left", "right", "under_way", "grammars", "standings", "heard", "left_grammar", "right_grammar", "rows", "pair", "broken", "parley"]
def W2 (K:PySem.W.Frag) (c:Cf) (H:Hp):List (Str×V)→List (Str×D)→Prop:=Paired fun p q=>p.1=q.1∧Rep K c H p.2 q.2
def CellR (K:PySem.W.Frag) (c:Cf) (H:Hp):List Addr→List D→Prop:=Paired fun b d=>∃(o:Obj) (w:HO) (v:V) (u:Value),H b=some (.frz o w)∧o.data = .cell (some u)∧RelV v u∧Rep K c H v d∧¬c.A b
def CodR (c:Cf) (H:Hp) (c':Addr) (qual:Str):Prop:=∃oc,H c'=some (Gm oc)∧Ou oc qual∧¬c.A c'
theorem CodR.mono {c c1:Cf} {H H1:Hp} {c':Addr} {qual:Str} (e:Ext c H c1 H1) (h:CodR c H c' qual):CodR c1 H1 c' qual:=by
 obtain ⟨oc,h1,h2,h3⟩:=h
 exact ⟨oc,e.keep _ _ h1 h3,h2,fun z=>h3 (e.av _ _ h1 z)⟩
theorem CellR.mono {K:PySem.W.Frag} {c c1:Cf} {H H1:Hp} {cs:List Addr} {ds:List D} (e:Ext c H c1 H1) (h:CellR K c H cs ds):CellR K c1 H1 cs ds:=
 Paired.mapP h fun b d ⟨o,w,v,u,h1,h2,h3,h4,h5⟩=>⟨o,w,v,u,e.keep _ _ h1 h5,h2,h3,h4.mono e,fun z=>h5 (e.av _ _ h1 z)⟩
def ObR (K:PySem.W.Frag) (c:Cf) (H:Hp) (a:Addr):Ob→Prop
 | .lst ds=>∃vs,H a=some (.lst vs)∧Reps K c H vs ds
 | .dct kvs=>∃us,H a=some (.dK us)∧KVR K c H us kvs
 | .ins n fs=>(n∈Xb∧∀p∈fs,p.1∈atN)∧∃C dx us,PySem.W.nsIn K mainGlobals n=some (some (.ref C))∧H a=some (.ins C dx us)∧W2 K c H us fs
 | .tab P line col qual=>a=P∧∃ps,H a=some (.tbl ps)∧(ps=#[]∨∃c',ps=#[rawInt line,rawInt col,.ref c']∧CodR c H c' qual)
 | .fn L ds=>∃(c':Addr) (ctv pm:Value) (cs:List Addr),H a=some (Gm (PySem.W.kla_obj "<lambda>" L.qual L.params L.body L.scope (L.names.zip cs) pm c' ctv))∧(cs.length=L.names.length∧cs.Nodup)∧CodR c H c' L.qual∧CellR K c H cs ds
theorem ObR.mono {K:PySem.W.Frag} {c c':Cf} {H H':Hp} {a:Addr} {o:Ob} (e:Ext c H c' H') (h:ObR K c H a o) (ha:H' a=H a):ObR K c' H' a o:=by
 cases o with
 | lst ds=>obtain ⟨vs,h1,h2⟩:=h;exact ⟨vs,ha.trans h1,h2.mono e⟩
 | dct kvs=>obtain ⟨us,h1,h2⟩:=h;exact ⟨us,ha.trans h1,Paired.mapP h2 fun _ _ z=>⟨z.1,z.2.mono e⟩⟩
 | ins n fs=>obtain ⟨h0,C,dx,us,g,h1,h2⟩:=h;exact ⟨h0,C,dx,us,g,ha.trans h1,Paired.mapP h2 fun _ _ z=>⟨z.1,z.2.mono e⟩⟩
 | tab P line col qual=>obtain ⟨h0,ps,h1,h2⟩:=h;exact ⟨h0,ps,ha.trans h1,h2.imp id fun ⟨c',h3,h4⟩=>⟨c',h3,h4.mono e⟩⟩
 | fn L ds=>obtain ⟨c',ctv,pm,cs,h1,h2,h3,h4⟩:=h;exact ⟨c',ctv,pm,cs,ha.trans h1,h2,h3.mono e,h4.mono e⟩
theorem ObR.some {K:PySem.W.Frag} {c:Cf} {H:Hp} {a:Addr} {o:Ob} (h:ObR K c H a o):∃u,H a=some u:=by
 cases o with
 | lst ds=>obtain ⟨vs,h1,_⟩:=h;exact ⟨_,h1⟩
 | dct kvs=>obtain ⟨us,h1,_⟩:=h;exact ⟨_,h1⟩
 | ins n fs=>obtain ⟨_,_,_,_,_,h1,_⟩:=h;exact ⟨_,h1⟩
 | tab P line col qual=>obtain ⟨_,_,h1,_⟩:=h;exact ⟨_,h1⟩
 | fn L ds=>obtain ⟨_,_,_,_,h1,_⟩:=h;exact ⟨_,h1⟩
structure SInv (K:PySem.W.Frag) (c:Cf) (S:List Ob) (H:Hp):Prop where
 len:c.ι.length=S.length
 nd:c.ι.Nodup
 obs:∀(k:Nat) (a:Addr) (o:Ob),c.ι[k]?=some a→S[k]?=some o→ObR K c H a o
 trk:∀b,c.O b→∃o:NFz,H b=some o.1
 dis:∀b,c.O b→b∉c.ι
theorem SInv.trkA {K:PySem.W.Frag} {c:Cf} {S:List Ob} {H:Hp} (s:SInv K c S H) {b:Addr} (h:c.A b):∃o,H b=some o:=by
 rcases h with h | h
 ·obtain ⟨k,hk,e⟩:=List.mem_iff_getElem.mp h
  have e1:c.ι[k]?=some b:=by rw [List.getElem?_eq_getElem hk,e]
  have hk':k < S.length:=by rw [←s.len];exact hk
  exact (s.obs k b _ e1 (List.getElem?_eq_getElem hk')).some
 ·obtain ⟨o,e⟩:=s.trk b h;exact ⟨o.1,e⟩
theorem SInv.free {K:PySem.W.Frag} {c:Cf} {S:List Ob} {H:Hp} (s:SInv K c S H) {b:Addr} (h:H b=none):¬c.A b:=fun z=>by
 obtain ⟨o,e⟩:=s.trkA z
 rw [h] at e;cases e
structure FInv (K:PySem.W.Frag) (Oo:Addr→Prop) (c:Cf) (t:T) (σ:St) (H:Hp):Prop where
 s:SInv K c t.S H
 len:t.env.length=σ.length
 sub:∀b,Oo b→c.O b
 val:∀(i:Nat) (d:D),t.env[i]?=some (some (.val d))→∃v,σ[i]?=some (some v)∧Rep K c H v d
 own:∀(i:Nat) (ds:List D),t.env[i]?=some (some (.own ds))→∃a vs,σ[i]?=some (some (.ref a))∧c.O a∧¬Oo a∧H a=some (.lst vs)∧Reps K c H vs ds
 inj:∀(i j:Nat) (ds es:List D) (a:Addr),t.env[i]?=some (some (.own ds))→t.env[j]?=some (some (.own es))→σ[i]?=some (some (.ref a))→σ[j]?=some (some (.ref a))→i=j
structure Stp (Oo:Addr→Prop) (c:Cf) (H:Hp) (c':Cf) (H':Hp):Prop where
 ext:Ext c H c' H'
 oo:∀b,Oo b→H' b=H b
theorem Stp.refl {Oo:Addr→Prop} {c:Cf} {H:Hp}:Stp Oo c H c H:=⟨.refl,fun _ _=>rfl⟩
theorem Stp.trans {Oo:Addr→Prop} {c c1 c2:Cf} {H H1 H2:Hp} (a:Stp Oo c H c1 H1) (b:Stp Oo c1 H1 c2 H2):Stp Oo c H c2 H2:=
 ⟨a.ext.trans b.ext,fun x h=>(b.oo x h).trans (a.oo x h)⟩
section
variable {K:PySem.W.Frag} {Oo:Addr→Prop} {c:Cf} {t:T} {σ:St} {H:Hp}
theorem Ext.laid {S:List Ob} (s:SInv K c S H) {p:Addr} {o:HO} (h:H p=none):Ext c H c (upd H p o):=
 ⟨fun b u e _=>by rw [Ar (Bj e h)];exact e,fun _ _ _ z=>z,fun _ _ e=>e⟩
theorem SInv.laid {S:List Ob} (s:SInv K c S H) {p:Addr} {o:HO} (h:H p=none):SInv K c S (upd H p o):=
 ⟨s.len,s.nd,fun k a u e1 e2=>by
  have q:=s.obs k a u e1 e2
  obtain ⟨w,hw⟩:=q.some
  exact q.mono (Ext.laid s h) (Ar (Bj hw h)),
  fun b z=>by obtain ⟨u,e⟩:=s.trk b z;exact ⟨u,by rw [Ar (Bj e h)];exact e⟩,s.dis⟩
theorem FInv.laid (f:FInv K Oo c t σ H) {p:Addr} {o:HO} (h:H p=none):FInv K Oo c t σ (upd H p o):=by
 have e:=Ext.laid (o:=o) f.s h
 refine ⟨f.s.laid h,f.len,f.sub,fun i d q=>?_,fun i ds q=>?_,f.inj⟩
 ·obtain ⟨v,h1,h2⟩:=f.val i d q
  exact ⟨v,h1,h2.mono e⟩
 ·obtain ⟨a,vs,h1,h2,h3,h4,h5⟩:=f.own i ds q
  exact ⟨a,vs,h1,h2,h3,by rw [Ar (Bj h4 h)];exact h4,h5.mono e⟩
theorem FInv.stp_laid (f:FInv K Oo c t σ H) {p:Addr} {o:HO} (h:H p=none):Stp Oo c H c (upd H p o):=
 ⟨Ext.laid f.s h,fun b z=>by obtain ⟨u,e⟩:=f.s.trk b (f.sub b z);exact Ar (Bj e h)⟩
theorem FInv.set (f:FInv K Oo c t σ H) {i:Nat} {v:V} {d:D} (r:Rep K c H v d):FInv K Oo c { t with env:=t.env.set i (some (.val d)) } (σ.set i (some v)) H:=by
 have neq:∀{j:Nat} {x:Sl},(t.env.set i (some (.val d)))[j]?=some (some x)→(j=i∧x = .val d∧j < t.env.length)∨(j≠i∧t.env[j]?=some (some x)):=fun {j x} q=>by
  by_cases h:j=i
  ·subst h
   rw [List.getElem?_set] at q
   split at q
   ·split at q
    ·next h1=>injection q with q;injection q with q;exact .inl ⟨rfl,q.symm,h1⟩
    ·cases q
   ·next h1=>exact absurd rfl h1
  ·rw [List.getElem?_set_ne (Ne.symm h)] at q
   exact .inr ⟨h,q⟩
 refine ⟨f.s,by simp [f.len],f.sub,fun j e q=>?_,fun j ds q=>?_,fun j k ds es a q1 q2 q3 q4=>?_⟩
 ·rcases neq q with ⟨rfl,z,hl⟩ | ⟨h,q⟩
  ·cases z
   exact ⟨v,by rw [List.getElem?_set_self (by rw [←f.len];exact hl)],r⟩
  ·obtain ⟨u,h1,h2⟩:=f.val j e q
   exact ⟨u,by rw [List.getElem?_set_ne (Ne.symm h)];exact h1,h2⟩
 ·rcases neq q with ⟨rfl,z,_⟩ | ⟨h,q⟩
  ·cases z
  ·obtain ⟨a,vs,h1,h2⟩:=f.own j ds q
   exact ⟨a,vs,by rw [List.getElem?_set_ne (Ne.symm h)];exact h1,h2⟩
 ·rcases neq q1 with ⟨_,z,_⟩ | ⟨h,q1⟩
  ·cases z
  rcases neq q2 with ⟨_,z,_⟩ | ⟨h',q2⟩
  ·cases z
  rw [List.getElem?_set_ne (Ne.symm h)] at q3
  rw [List.getElem?_set_ne (Ne.symm h')] at q4
  exact f.inj j k ds es a q1 q2 q3 q4
theorem FInv.setOwn (f:FInv K Oo c t σ H) {i:Nat} {p:Addr} {vs:List V} {ds:List D} (h:H p=none) (r:Reps K c H vs ds) :
 ∃c',FInv K Oo c' { t with env:=t.env.set i (some (.own ds)) } (σ.set i (some (.ref p))) (upd H p (.lst vs))∧Stp Oo c H c' (upd H p (.lst vs)):=by
 let c':Cf:=⟨c.ι,fun b=>c.O b∨b=p⟩
 have nA:¬c.A p:=f.s.free h
 have ext:Ext c H c' (upd H p (.lst vs)):=by
  refine ⟨fun b u e _=>by rw [Ar (Bj e h)];exact e,fun b u e z=>?_,fun _ _ e=>e⟩
  rcases z with z | z | z
  ·exact .inl z
  ·exact .inr z
  ·subst z;rw [h] at e;cases e
 have stp:Stp Oo c H c' (upd H p (.lst vs)):=⟨ext,fun b z=>by obtain ⟨u,e⟩:=f.s.trk b (f.sub b z);exact Ar (Bj e h)⟩
 have sinv:SInv K c' t.S (upd H p (.lst vs)):=by
  refine ⟨f.s.len,f.s.nd,fun k a u e1 e2=>?_,fun b z=>?_,fun b z hb=>?_⟩
  ·have q:=f.s.obs k a u e1 e2
   obtain ⟨w,hw⟩:=q.some
   exact q.mono ext (Ar (Bj hw h))
  ·rcases z with z | z
   ·obtain ⟨u,e⟩:=f.s.trk b z;exact ⟨u,by rw [Ar (Bj e h)];exact e⟩
   ·subst z;exact ⟨⟨.lst vs,rfl⟩,AN⟩
  ·rcases z with z | z
   ·exact f.s.dis b z hb
   ·subst z;exact nA (.inl hb)
 have neq:∀{j:Nat} {x:Sl},(t.env.set i (some (.own ds)))[j]?=some (some x)→(j=i∧x = .own ds∧j < t.env.length)∨(j≠i∧t.env[j]?=some (some x)):=fun {j x} q=>by
  by_cases h:j=i
  ·subst h
   rw [List.getElem?_set] at q
   split at q
   ·split at q
    ·next h1=>injection q with q;injection q with q;exact .inl ⟨rfl,q.symm,h1⟩
    ·cases q
   ·next h1=>exact absurd rfl h1
  ·rw [List.getElem?_set_ne (Ne.symm h)] at q
   exact .inr ⟨h,q⟩
 have fresh:∀(j:Nat) (es:List D),t.env[j]?=some (some (.own es))→σ[j]?≠some (some (.ref p)):=fun j es q z=>by
  obtain ⟨a,vs',h1,_,_,h4,_⟩:=f.own j es q
  rw [h1] at z;injection z with z;injection z with z;injection z with z;subst z;rw [h] at h4;cases h4
 refine ⟨c',⟨sinv,by simp [f.len],fun b z=>.inl (f.sub b z),fun j e q=>?_,fun j es q=>?_,fun j k ds' es a q1 q2 q3 q4=>?_⟩,stp⟩
 ·rcases neq q with ⟨_,z,_⟩ | ⟨hn,q⟩
  ·cases z
  ·obtain ⟨u,h1,h2⟩:=f.val j e q
   exact ⟨u,by rw [List.getElem?_set_ne (Ne.symm hn)];exact h1,h2.mono ext⟩
 ·rcases neq q with ⟨rfl,z,hl⟩ | ⟨hn,q⟩
  ·cases z
   refine ⟨p,vs,by rw [List.getElem?_set_self (by rw [←f.len];exact hl)],.inr rfl,fun z=>?_,AN,r.mono ext⟩
   obtain ⟨u,e⟩:=f.s.trk p (f.sub p z)
   rw [h] at e;cases e
  ·obtain ⟨a,ws,h1,h2,h3,h4,h5⟩:=f.own j es q
   exact ⟨a,ws,by rw [List.getElem?_set_ne (Ne.symm hn)];exact h1,.inl h2,h3,by rw [Ar (Bj h4 h)];exact h4,h5.mono ext⟩
 ·rcases neq q1 with ⟨z1,z2,l1⟩ | ⟨n1,r1⟩
  ·rcases neq q2 with ⟨y1,_,_⟩ | ⟨n2,r2⟩
   ·rw [z1,y1]
   ·subst z1
    rw [List.getElem?_set_self (by rw [←f.len];exact l1)] at q3
    injection q3 with q3;injection q3 with q3;injection q3 with q3;subst q3
    rw [List.getElem?_set_ne (Ne.symm n2)] at q4
    exact absurd q4 (fresh k es r2)
  ·rcases neq q2 with ⟨y1,y2,l2⟩ | ⟨n2,r2⟩
   ·subst y1
    rw [List.getElem?_set_self (by rw [←f.len];exact l2)] at q4
    injection q4 with q4;injection q4 with q4;injection q4 with q4;subst q4
    rw [List.getElem?_set_ne (Ne.symm n1)] at q3
    exact absurd q3 (fresh j ds' r1)
   ·rw [List.getElem?_set_ne (Ne.symm n1)] at q3
    rw [List.getElem?_set_ne (Ne.symm n2)] at q4
    exact f.inj j k ds' es a r1 r2 q3 q4
theorem FInv.frz (f:FInv K Oo c t σ H) {i:Nat} {ds:List D} (q:t.env[i]?=some (some (.own ds))) :
 ∃c' v,FInv K Oo c' { t with env:=t.env.set i (some (.val (.lst ds))) } σ H∧Stp Oo c H c' H∧σ[i]?=some (some v)∧Rep K c' H v (.lst ds):=by
 obtain ⟨a,vs,h1,h2,h3,h4,h5⟩:=f.own i ds q
 let c':Cf:=⟨c.ι,fun b=>c.O b∧b≠a⟩
 have ext:Ext c H c' H:=⟨fun _ _ e _=>e,fun b u e z=>z.elim .inl fun w=>.inr w.1,fun _ _ e=>e⟩
 have sinv:SInv K c' t.S H:=⟨f.s.len,f.s.nd,fun k b u e1 e2=>(f.s.obs k b u e1 e2).mono ext rfl,fun b z=>f.s.trk b z.1,fun b z=>f.s.dis b z.1⟩
 have nA:¬c'.A a:=fun z=>z.elim (fun w=>f.s.dis a h2 w) fun w=>w.2 rfl
 have hσ:σ.set i (some (.ref a))=σ:=by
  apply List.ext_getElem?
  intro j
  by_cases hj:j=i
  ·subst hj
   rw [List.getElem?_set_self (by have:=(List.getElem?_eq_some_iff.mp h1).1;exact this),h1]
  ·rw [List.getElem?_set_ne (Ne.symm hj)]
 have r:Rep K c' H (.ref a) (.lst ds):=.lst h4 nA (h5.mono ext)
 have f0:FInv K Oo c' { t with env:=t.env.set i (some (.val (.lst ds))) } σ H:=by
  have neq:∀{j:Nat} {x:Sl},(t.env.set i (some (.val (.lst ds))))[j]?=some (some x)→(j=i∧x = .val (.lst ds))∨(j≠i∧t.env[j]?=some (some x)):=fun {j x} q=>by
   by_cases h:j=i
   ·subst h
    rw [List.getElem?_set] at q
    split at q
    ·split at q
     ·injection q with q;injection q with q;exact .inl ⟨rfl,q.symm⟩
     ·cases q
    ·next h1=>exact absurd rfl h1
   ·rw [List.getElem?_set_ne (Ne.symm h)] at q
    exact .inr ⟨h,q⟩
  refine ⟨sinv,by simp [f.len],fun b z=>⟨f.sub b z,fun w=>h3 (w ▸ z)⟩,fun j e q'=>?_,fun j es q'=>?_,fun j k ds' es b q1 q2 q3 q4=>?_⟩
  ·rcases neq q' with ⟨rfl,z⟩ | ⟨hn,q'⟩
   ·cases z;exact ⟨_,h1,r⟩
   ·obtain ⟨u,w1,w2⟩:=f.val j e q'
    exact ⟨u,w1,w2.mono ext⟩
  ·rcases neq q' with ⟨_,z⟩ | ⟨hn,q'⟩
   ·cases z
   ·obtain ⟨b,ws,w1,w2,w3,w4,w5⟩:=f.own j es q'
    refine ⟨b,ws,w1,⟨w2,fun z=>?_⟩,w3,w4,w5.mono ext⟩
    subst z
    exact hn (f.inj j i es ds b q' q w1 h1)
  ·rcases neq q1 with ⟨_,z⟩ | ⟨_,q1⟩
   ·cases z
   rcases neq q2 with ⟨_,z⟩ | ⟨_,q2⟩
   ·cases z
   exact f.inj j k ds' es b q1 q2 q3 q4
 exact ⟨c',_,f0,⟨ext,fun _ _=>rfl⟩,h1,r⟩
theorem FInv.wrOwn (f:FInv K Oo c t σ H) {i:Nat} {ds ds':List D} {vs':List V} {a:Addr} (q:t.env[i]?=some (some (.own ds))) (h1:σ[i]?=some (some (.ref a))) (r:Reps K c H vs' ds') :
 FInv K Oo c { t with env:=t.env.set i (some (.own ds')) } σ (upd H a (.lst vs'))∧Stp Oo c H c (upd H a (.lst vs')):=by
 obtain ⟨a',vs,g1,h2,h3,h4,h5⟩:=f.own i ds q
 rw [h1] at g1;injection g1 with g1;injection g1 with g1;injection g1 with g1;subst g1
 have ext:Ext c H c (upd H a (.lst vs')):=⟨fun b u e n=>by rw [Ar (fun (z:b=a)=>n (.inr (by rw [z];exact h2)))];exact e,fun _ _ _ z=>z,fun _ _ e=>e⟩
 have stp:Stp Oo c H c (upd H a (.lst vs')):=⟨ext,fun b z=>Ar fun w=>h3 (w ▸ z)⟩
 have sinv:SInv K c t.S (upd H a (.lst vs')):=by
  refine ⟨f.s.len,f.s.nd,fun k b u e1 e2=>(f.s.obs k b u e1 e2).mono ext (Ar fun z=>f.s.dis a h2 (z ▸ List.mem_of_getElem? e1)),fun b z=>?_,f.s.dis⟩
  by_cases hb:b=a
  ·subst hb;exact ⟨⟨.lst vs',rfl⟩,AN⟩
  ·obtain ⟨u,e⟩:=f.s.trk b z;exact ⟨u,by rw [Ar hb];exact e⟩
 have neq:∀{j:Nat} {x:Sl},(t.env.set i (some (.own ds')))[j]?=some (some x)→(j=i∧x = .own ds')∨(j≠i∧t.env[j]?=some (some x)):=fun {j x} q=>by
  by_cases h:j=i
  ·subst h
   rw [List.getElem?_set] at q
   split at q
   ·split at q
    ·injection q with q;injection q with q;exact .inl ⟨rfl,q.symm⟩
    ·cases q
   ·next h1=>exact absurd rfl h1
  ·rw [List.getElem?_set_ne (Ne.symm h)] at q
   exact .inr ⟨h,q⟩
 refine ⟨⟨sinv,by simp [f.len],f.sub,fun j e q'=>?_,fun j es q'=>?_,fun j k es es' b q1 q2 q3 q4=>?_⟩,stp⟩
 ·rcases neq q' with ⟨_,z⟩ | ⟨_,q'⟩
  ·cases z
  ·obtain ⟨u,w1,w2⟩:=f.val j e q'
   exact ⟨u,w1,w2.mono ext⟩
 ·rcases neq q' with ⟨rfl,z⟩ | ⟨hn,q'⟩
  ·cases z;exact ⟨a,vs',h1,h2,h3,AN,r.mono ext⟩
  ·obtain ⟨b,ws,w1,w2,w3,w4,w5⟩:=f.own j es q'
   have hb:b≠a:=fun z=>by subst z;exact hn (f.inj j i es ds b q' q w1 h1)
   exact ⟨b,ws,w1,w2,w3,by rw [Ar hb];exact w4,w5.mono ext⟩
 ·have old:∀{j:Nat} {x:List D},(t.env.set i (some (.own ds')))[j]?=some (some (.own x))→∃y,t.env[j]?=some (some (.own y)):=fun {j x} q'=>by
   rcases neq q' with ⟨rfl,_⟩ | ⟨_,q'⟩
   ·exact ⟨ds,q⟩
   ·exact ⟨x,q'⟩
  obtain ⟨y1,z1⟩:=old q1
  obtain ⟨y2,z2⟩:=old q2
  exact f.inj j k y1 y2 b z1 z2 q3 q4
theorem FInv.wrObj (f:FInv K Oo c t σ H) {k:Nat} {a:Addr} {o:Ob} {u:HO} (e:c.ι[k]?=some a) (r:∀c' H',Ext c H c' H'→H' a=some u→ObR K c' H' a o) :
 FInv K Oo c { t with S:=t.S.set k o } σ (upd H a u)∧Stp Oo c H c (upd H a u):=by
 have hA:a∈c.ι:=List.mem_of_getElem? e
 have ext:Ext c H c (upd H a u):=⟨fun b w h n=>by rw [Ar (fun (z:b=a)=>n (.inl (by rw [z];exact hA)))];exact h,fun _ _ _ z=>z,fun _ _ e=>e⟩
 have neO:∀b,c.O b→b≠a:=fun b z w=>f.s.dis b z (w ▸ hA)
 have stp:Stp Oo c H c (upd H a u):=⟨ext,fun b z=>Ar (neO b (f.sub b z))⟩
 have sinv:SInv K c (t.S.set k o) (upd H a u):=by
  refine ⟨by simp [f.s.len],f.s.nd,fun j b o' e1 e2=>?_,fun b z=>?_,f.s.dis⟩
  ·by_cases hj:j=k
   ·subst hj
    rw [e] at e1;cases e1
    have hl:j < t.S.length:=by rw [←f.s.len];exact (List.getElem?_eq_some_iff.mp e).1
    rw [List.getElem?_set_self hl] at e2;cases e2
    exact r c _ ext AN
   ·rw [List.getElem?_set_ne (Ne.symm hj)] at e2
    refine (f.s.obs j b o' e1 e2).mono ext (Ar fun z=>?_)
    subst z
    obtain ⟨l1,g1⟩:=List.getElem?_eq_some_iff.mp e1
    obtain ⟨l2,g2⟩:=List.getElem?_eq_some_iff.mp e
    exact hj ((List.getElem_inj f.s.nd).mp (g1.trans g2.symm))
  ·obtain ⟨w,h⟩:=f.s.trk b z;exact ⟨w,by rw [Ar (neO b z)];exact h⟩
 refine ⟨⟨sinv,f.len,f.sub,fun i d q=>?_,fun i ds q=>?_,f.inj⟩,stp⟩
 ·obtain ⟨v,h1,h2⟩:=f.val i d q
  exact ⟨v,h1,h2.mono ext⟩
 ·obtain ⟨b,vs,h1,h2,h3,h4,h5⟩:=f.own i ds q
  exact ⟨b,vs,h1,h2,h3,by rw [Ar (neO b h2)];exact h4,h5.mono ext⟩
theorem FInv.newObj (f:FInv K Oo c t σ H) {p:Addr} {o:Ob} {u:HO} (h:H p=none) (r:∀c' H',Ext c H c' H'→H' p=some u→ObR K c' H' p o) :
 ∃c',FInv K Oo c' { t with S:=t.S++[o] } σ (upd H p u)∧Stp Oo c H c' (upd H p u)∧c'.ι[t.S.length]?=some p:=by
 let c':Cf:=⟨c.ι++[p],c.O⟩
 have nA:¬c.A p:=f.s.free h
 have ext:Ext c H c' (upd H p u):=by
  refine ⟨fun b w e _=>by rw [Ar (Bj e h)];exact e,fun b w e z=>?_,fun k a e=>?_⟩
  ·rcases z with z | z
   ·rcases List.mem_append.mp z with z | z
    ·exact .inl z
    ·rw [List.mem_singleton] at z;subst z;rw [h] at e;cases e
   ·exact .inr z
  ·show (c.ι++[p])[k]?=some a
   rw [List.getElem?_append_left (List.getElem?_eq_some_iff.mp e).1];exact e
 have stp:Stp Oo c H c' (upd H p u):=⟨ext,fun b z=>by obtain ⟨w,e⟩:=f.s.trk b (f.sub b z);exact Ar (Bj e h)⟩
 have at_:(c.ι++[p])[t.S.length]?=some p:=by rw [←f.s.len,List.getElem?_append_right (Nat.le_refl _)];simp
 have sinv:SInv K c' (t.S++[o]) (upd H p u):=by
  refine ⟨by simp [c',f.s.len],?_,fun j b o' e1 e2=>?_,fun b z=>?_,fun b z hb=>?_⟩
  ·show (c.ι++[p]).Nodup
   exact List.nodup_append.mpr ⟨f.s.nd,by simp,fun x hx y hy z=>by rw [List.mem_singleton] at hy;subst z;subst hy;exact nA (.inl hx)⟩
  ·have hlt:j < (t.S++[o]).length:=(List.getElem?_eq_some_iff.mp e2).1
   by_cases hj:j < t.S.length
   ·have e1':c.ι[j]?=some b:=by
     have q:(c.ι++[p])[j]?=some b:=e1
     rw [List.getElem?_append_left (by rw [f.s.len];exact hj)] at q;exact q
    rw [List.getElem?_append_left hj] at e2
    have q:=f.s.obs j b o' e1' e2
    obtain ⟨w,hw⟩:=q.some
    exact q.mono ext (Ar (Bj hw h))
   ·have hj':j=t.S.length:=by simp at hlt;lia
    subst hj'
    rw [at_] at e1;cases e1
    rw [List.getElem?_append_right (Nat.le_refl _)] at e2
    simp at e2;subst e2
    exact r c' _ ext AN
  ·obtain ⟨w,e⟩:=f.s.trk b z;exact ⟨w,by rw [Ar (Bj e h)];exact e⟩
  ·rcases List.mem_append.mp hb with w | w
   ·exact f.s.dis b z w
   ·rw [List.mem_singleton] at w;subst w;exact nA (.inr z)
 refine ⟨c',⟨sinv,f.len,f.sub,fun i d q=>?_,fun i ds q=>?_,f.inj⟩,stp,at_⟩
 ·obtain ⟨v,h1,h2⟩:=f.val i d q
  exact ⟨v,h1,h2.mono ext⟩
 ·obtain ⟨b,vs,h1,h2,h3,h4,h5⟩:=f.own i ds q
  exact ⟨b,vs,h1,h2,h3,by rw [Ar (Bj h4 h)];exact h4,h5.mono ext⟩
theorem FInv.after (f:FInv K Oo c t σ H) {c':Cf} {S':List Ob} {H':Hp} (s:SInv K c' S' H') (st:Stp c.O c H c' H') (ho:∀b,c'.O b↔c.O b):FInv K Oo c' { t with S:=S' } σ H'∧Stp Oo c H c' H':=by
 refine ⟨⟨s,f.len,fun b z=>(ho b).mpr (f.sub b z),fun i d q=>?_,fun i ds q=>?_,f.inj⟩,st.ext,fun b z=>st.oo b (f.sub b z)⟩
 ·obtain ⟨v,h1,h2⟩:=f.val i d q
  exact ⟨v,h1,h2.mono st.ext⟩
 ·obtain ⟨b,vs,h1,h2,h3,h4,h5⟩:=f.own i ds q
  exact ⟨b,vs,h1,(ho b).mpr h2,h3,(st.oo b h2).trans h4,h5.mono st.ext⟩
end
abbrev M (α:Type):=T→Option (α×T)
inductive Out where
 | next | brk | cont | ret (d:D)
def ret {α:Type} (a:α):M α:=fun t=>some (a,t)
def fail {α:Type}:M α:=fun _=>none
def bnd {α β:Type} (f:M α) (g:α→M β):M β:=fun t=>match f t with
 | some (a,t1)=>g a t1
 | none=>none
theorem Am {α β:Type} {f:M α} {g:α→M β} {t:T} {z:β×T} (h:bnd f g t=some z):∃a t1,f t=some (a,t1)∧g a t1=some z:=by
 unfold bnd at h
 cases e:f t with
 | none=>rw [e] at h;cases h
 | some p=>obtain ⟨a,t1⟩:=p;rw [e] at h;exact ⟨a,t1,rfl,h⟩
def LIM:Nat:=100000
theorem Ct:LIM≤sizeLine:=by unfold LIM;decide
theorem Up:LIM < sizeLine:=by unfold LIM;decide
section
variable (K:PySem.W.Frag)
inductive RE (f:M D) (σ:L2.St) (H:Hp) (Q:VK):Prop where
 | mk (Oo:Addr→Prop) (c:Cf) (t:T) (fi:FInv K Oo c t σ H) (r:D) (t':T) (e:f t=some (r,t')) (k:∀v H' c',FInv K Oo c' t' σ H'→Stp Oo c H c' H'→Rep K c' H' v r→Q v H'):RE f σ H Q
inductive RT (f:M Bool) (σ:L2.St) (H:Hp) (Q:Bool→Hp→Prop):Prop where
 | mk (Oo:Addr→Prop) (c:Cf) (t:T) (fi:FInv K Oo c t σ H) (r:Bool) (t':T) (e:f t=some (r,t')) (k:∀H' c',FInv K Oo c' t' σ H'→Stp Oo c H c' H'→Q r H'):RT f σ H Q
inductive RA (f:M (List D)) (σ:L2.St) (H:Hp) (Q:List V→Hp→Prop):Prop where
 | mk (Oo:Addr→Prop) (c:Cf) (t:T) (fi:FInv K Oo c t σ H) (r:List D) (t':T) (e:f t=some (r,t')) (k:∀vs H' c',FInv K Oo c' t' σ H'→Stp Oo c H c' H'→Reps K c' H' vs r→Q vs H'):RA f σ H Q
inductive RF (f:M (List D)) (σ:L2.St) (H:Hp) (Q:VK):Prop where
 | mk (Oo:Addr→Prop) (c:Cf) (t:T) (fi:FInv K Oo c t σ H) (ds:List D) (t':T) (e:f t=some (ds,t')) (k:∀p vs H' c',FInv K Oo c' t' σ H'→Stp Oo c H c' H'→Reps K c' H' vs ds→H' p=none→Q (.ref p) (upd H' p (.lst vs))):RF f σ H Q
inductive RSg (μ:Cf→Hp→D→(V→Hp→Prop)→Prop) (f:M Out) (E:Ends) (σ:L2.St) (H:Hp):Prop where
 | mk (Oo:Addr→Prop) (c:Cf) (t:T) (fi:FInv K Oo c t σ H) (o:Out) (t':T) (e:f t=some (o,t')) (k:∀σ' H' c',FInv K Oo c' t' σ' H'→Stp Oo c H c' H'→
 match (generalizing:=false) o with
 | .next=>E.nx σ' H'
 | .brk=>E.bk σ' H'
 | .cont=>E.ct σ' H'
 | .ret r=>μ c' H' r E.rt):RSg μ f E σ H
def μR:Cf→Hp→D→(V→Hp→Prop)→Prop:=fun c H r rt=>∀v,Rep K c H v r→rt v H
abbrev RS (f:M Out):TS:=RSg K (μR K) f
inductive RG (f:D→M Unit) (v:V) (σ:L2.St) (H:Hp) (Q:L2.St→Hp→Prop):Prop where
 | mk (Oo:Addr→Prop) (c:Cf) (t:T) (d:D) (fi:FInv K Oo c t σ H) (r:Rep K c H v d) (t':T) (e:f d t=some ((),t')) (k:∀σ' H' c',FInv K Oo c' t' σ' H'→Stp Oo c H c' H'→Q σ' H'):RG f v σ H Q
structure ItOk (J:It) (c:Cf) (H:Hp) (ds:List D):Prop where
 go:∀c' H' (i:Nat),Ext c H c' H'→i < ds.length→J.go i H'
 yld:∀c' H' (i:Nat) x H'' d,Ext c H c' H'→ds[i]?=some d→J.yld i H' x H''→H''=H'∧Rep K c' H' x d
 stop:∀c' H',Ext c H c' H'→J.stop ds.length H'
inductive RI (f:M (List D)) (σ:L2.St) (H:Hp) (R:It→Hp→Prop):Prop where
 | mk (Oo:Addr→Prop) (c:Cf) (t:T) (fi:FInv K Oo c t σ H) (ds:List D) (t':T) (e:f t=some (ds,t')) (k:∀J H' c',FInv K Oo c' t' σ H'→Stp Oo c H c' H'→ItOk K J c' H' ds→R J H'):RI f σ H R
def Ur (R:V→Hp→VK→Prop) (h:D→M D):Prop:=∀{Oo:Addr→Prop} {c:Cf} {t:T} {σ:L2.St} {H:Hp} {x:V} {dx r:D} {t':T} {Q:VK},FInv K Oo c t σ H→Rep K c H x dx→h dx t=some (r,t')→
 (∀v H' c',FInv K Oo c' t' σ H'→Stp Oo c H c' H'→Rep K c' H' v r→Q v H')→R x H Q
def B0 (R:R2) (h:D→D→M D):Prop:=∀{Oo:Addr→Prop} {c:Cf} {t:T} {σ:L2.St} {H:Hp} {x y:V} {dx dy r:D} {t':T} {Q:VK},FInv K Oo c t σ H→Rep K c H x dx→Rep K c H y dy→h dx dy t=some (r,t')→
 (∀v H' c',FInv K Oo c' t' σ H'→Stp Oo c H c' H'→Rep K c' H' v r→Q v H')→R x y H Q
def EN (R:List V→Hp→VK→Prop) (h:List D→M D):Prop:=∀{Oo:Addr→Prop} {c:Cf} {t:T} {σ:L2.St} {H:Hp} {xs:List V} {ds:List D} {r:D} {t':T} {Q:VK},FInv K Oo c t σ H→Reps K c H xs ds→h ds t=some (r,t')→
 (∀v H' c',FInv K Oo c' t' σ H'→Stp Oo c H c' H'→Rep K c' H' v r→Q v H')→R xs H Q
def Yq (R:R2) (h:D→D→M (List D)):Prop:=∀{Oo:Addr→Prop} {c:Cf} {t:T} {σ:L2.St} {H:Hp} {x y:V} {dx dy:D} {r:List D} {t':T} {Q:VK},FInv K Oo c t σ H→Rep K c H x dx→Rep K c H y dy→h dx dy t=some (r,t')→
 (∀p vs H' c',FInv K Oo c' t' σ H'→Stp Oo c H c' H'→Reps K c' H' vs r→H' p=none→Q (.ref p) (upd H' p (.lst vs)))→R x y H Q
def KB (R:List V→Hp→VK→Prop) (h:List D→M (List D)):Prop:=∀{Oo:Addr→Prop} {c:Cf} {t:T} {σ:L2.St} {H:Hp} {xs:List V} {ds r:List D} {t':T} {Q:VK},FInv K Oo c t σ H→Reps K c H xs ds→h ds t=some (r,t')→
 (∀p vs H' c',FInv K Oo c' t' σ H'→Stp Oo c H c' H'→Reps K c' H' vs r→H' p=none→Q (.ref p) (upd H' p (.lst vs)))→R xs H Q
end
section
variable {X:Cx} {e a b:Expr} {pos:Pos}
theorem BA {t t':TE} (h:PE X e t) (i:∀σ H Q,t' σ H Q→t σ H Q):PE X e t':=fun pins s σ H Q I q=>h pins s σ H Q I (i σ H Q q)
theorem Ia {t t':TT} (h:PT X e t) (i:∀σ H Q,t' σ H Q→t σ H Q):PT X e t':=fun pins s σ H Q I q=>h pins s σ H Q I (i σ H Q q)
theorem Oz {t t':TT} (h:PW X e t) (i:∀σ H Q,t' σ H Q→t σ H Q):PW X e t':=fun w pins s σ H Q I q=>h w pins s σ H Q I (i σ H Q q)
theorem Ov {es:List Expr} {t t':TA} (h:PA X es t) (i:∀σ H Q,t' σ H Q→t σ H Q):PA X es t':=fun pos pins s σ H Q I q=>h pos pins s σ H Q I (i σ H Q q)
theorem CY {st:Stmt} {t t':TS} (h:PS X st t) (i:∀E σ H,t' E σ H→t E σ H):PS X st t':=fun pins s σ H E I q=>h pins s σ H E I (i E σ H q)
theorem MU {st:List Stmt} {t t':TS} (h:PSs X st t) (i:∀E σ H,t' E σ H→t E σ H):PSs X st t':=fun pins s σ H E I q=>h pins s σ H E I (i E σ H q)
theorem H9 {t t':TG} (h:PG X e t) (i:∀v σ H Q,t' v σ H Q→t v σ H Q):PG X e t':=fun pins s σ H v u Q I r q=>h pins s σ H v u Q I r (i v σ H Q q)
theorem KZ {tg:Expr} {t t':TI} (h:PI X tg e t) (i:∀σ H R,t' σ H R→t σ H R):PI X tg e t':=fun pins s σ H R I q=>h pins s σ H R I (i σ H R q)
def fC (d:D):M D:=ret d
theorem HB {v:V} {d:D} (h:PE X e (tC v)) (r:∀c H,Rep X.K c H v d):PE X e (RE X.K (fC d)):=
 BA h fun σ H Q ⟨Oo,c,t,f,r',t',eq,k⟩=>by
  cases eq
  exact k v H c f .refl (r c H)
theorem Af {i:Int} {j:Nat}:PE X (.Constant (.int i) j pos) (RE X.K (fC (.int i))):=HB U8 fun _ _=>.int i
theorem B4 {i:Bool} {j:Nat}:PE X (.Constant (.bool i) j pos) (RE X.K (fC (.bl i))):=HB Wh fun _ _=>.bl i
theorem Ao {i:Str} {j:Nat}:PE X (.Constant (.str i) j pos) (RE X.K (fC (.str i))):=HB Pu fun _ _=>.str i
theorem Lo {j:Nat}:PE X (.Constant .none j pos) (RE X.K (fC .non)):=HB Vb fun _ _=>.non
theorem Cs {x:Str} {i:Int} {tk:Tok} (hg:Gl X x) (hm:X.mg x=some (.int i tk)) (hd:(x == ("__debug__" : Str))=false:=by decide):PE X (.Name x pos) (RE X.K (fC (.int i))):=
 HB (Nj hg hm (v:=.int i) ⟨tk,rfl⟩ hd) fun _ _=>.int i
theorem HC {x:Str} {y:Str} {tk:Tok} (hg:Gl X x) (hm:X.mg x=some (.str y tk)) (hd:(x == ("__debug__" : Str))=false:=by decide):PE X (.Name x pos) (RE X.K (fC (.str y))):=
 HB (Nj hg hm (v:=.str y) ⟨tk,rfl⟩ hd) fun _ _=>.str y
theorem Cc {x:Str} {n:String} (hg:Gl X x) (hm:X.mg x=none) (hv:bootBuiltins x=some (.type n)) (hn:x≠"__name__":=by decide) (hd:(x == ("__debug__" : Str))=false:=by decide):PE X (.Name x pos) (RE X.K (fC (.ty n))):=
 HB (To hg hm hv (v:=.ty n) rfl hn hd) fun _ _=>.ty n
def Ad (i:Nat):M D:=fun t=>match t.env[i]? with
 | some (some (.val d))=>some (d,t)
 | some (some (.own ds))=>some (.lst ds,{ t with env:=t.env.set i (some (.val (.lst ds))) })
 | _=>none
theorem NT {i:Nat} {t t':T} {r:D} (h:Ad i t=some (r,t')):(t.env[i]?=some (some (.val r))∧t'=t)∨∃ds,t.env[i]?=some (some (.own ds))∧r = .lst ds∧t' = { t with env:=t.env.set i (some (.val (.lst ds))) }:=by
 unfold Ad at h
 cases e:t.env[i]? with
 | none=>rw [e] at h;cases h
 | some o=>
   cases o with
   | none=>rw [e] at h;cases h
   | some sl=>
     cases sl with
     | val d=>rw [e] at h;cases h;exact .inl ⟨rfl,rfl⟩
     | own ds=>rw [e] at h;cases h;exact .inr ⟨ds,rfl,rfl,rfl⟩
theorem Ab (i:Nat) {x:Str} (hN:X.N[i]?=some x:=by rfl) (hv:Vis X.env.scope x:=by first | exact Or.inl rfl | exact Or.inr (Or.inl rfl) | exact Or.inr (Or.inr rfl)) (hd:(x == ("__debug__" : Str))=false:=by decide)
 (hcd:(x == ("__classdict__" : Str))=false:=by decide):PE X (.Name x pos) (RE X.K (Ad i)):=
 BA (LU hN hv hd hcd) fun σ H Q ⟨Oo,c,t,f,r,t',eq,k⟩=>by
  rcases NT eq with ⟨q,rfl⟩ | ⟨ds,q,rfl,rfl⟩
  ·obtain ⟨v,h1,h2⟩:=f.val i r q
   exact ⟨v,h1,k v H c f .refl h2⟩
  ·obtain ⟨c',v,f',st,h1,h2⟩:=f.frz q
   exact ⟨v,h1,k v H c' f' st h2⟩
def Aj (f g:M D) (h:D→D→M D):M D:=bnd f fun x=>bnd g fun y=>h x y
theorem RE.two {K:PySem.W.Frag} {f g:M D} {h:D→D→M D} {R:R2} (s:B0 K R h) {σ:L2.St} {H:Hp} {Q:VK} (q:RE K (Aj f g h) σ H Q):tOp R (RE K f) (RE K g) σ H Q:=by
 obtain ⟨Oo,c,t,fi,r,t',eq,k⟩:=q
 obtain ⟨dx,t1,e1,eq⟩:=Am eq
 obtain ⟨dy,t2,e2,eq⟩:=Am eq
 exact ⟨Oo,c,t,fi,dx,t1,e1,fun x H1 c1 f1 s1 rx=>⟨Oo,c1,t1,f1,dy,t2,e2,fun y H2 c2 f2 s2 ry=>s f2 (rx.mono s2.ext) ry eq fun v H' c' f' s' rv=>k v H' c' f' ((s1.trans s2).trans s') rv⟩⟩
theorem AG {op:Operator} {R:R2} {f g:M D} {h:D→D→M D} (ho:OpR X (binaryOp op) R) (s:B0 X.K R h) (ha:PE X a (RE X.K f)) (hb:PE X b (RE X.K g)):PE X (.BinOp a op b pos) (RE X.K (Aj f g h)):=
 BA (Wj ho ha hb) fun _ _ _ q=>RE.two s q
theorem Eb {op:CmpOp} {R:R2} {f g:M D} {h:D→D→M D} (ho:OpR X (compareOp op) R) (s:B0 X.K R h) (ha:PE X a (RE X.K f)) (hb:PE X b (RE X.K g)) (hm:behindInMarks op b=false):PE X (.Compare a [op] [b] pos) (RE X.K (Aj f g h)):=
 BA (Tq ho ha hb hm) fun _ _ _ q=>RE.two s q
theorem AA {R:R2} {f g:M D} {h:D→D→M D} (hr:IxR X R) (s:B0 X.K R h) (ha:PE X a (RE X.K f)) (hb:PE X b (RE X.K g)) (hs:MV b):PE X (.Subscript a b pos) (RE X.K (Aj f g h)):=
 BA (Wi hr ha hb hs) fun _ _ _ q=>RE.two s q
def fUn (f:M D) (h:D→M D):M D:=bnd f h
theorem RJ {op:UnaryOp} {R:V→Hp→VK→Prop} {f:M D} {h:D→M D} (ho:UnR X (unaryOp op) R) (s:Ur X.K R h) (ha:PE X a (RE X.K f)):PE X (.UnaryOp op a pos) (RE X.K (fUn f h)):=
 BA (Wl ho ha) fun σ H Q ⟨Oo,c,t,fi,r,t',eq,k⟩=>by
  obtain ⟨dx,t1,e1,eq⟩:=Am eq
  exact ⟨Oo,c,t,fi,dx,t1,e1,fun x H1 c1 f1 s1 rx=>s f1 rx eq fun v H' c' f' s' rv=>k v H' c' f' (s1.trans s') rv⟩
def toB:D→M Bool
 | .bl b=>ret b
 | _=>fail
def Az (f:M D):M Bool:=bnd f toB
theorem HX {d:D} {t:T} {z:Bool×T} (h:toB d t=some z):∃b,d = .bl b∧z=(b,t):=by
 cases d with
 | bl b=>cases h;exact ⟨b,rfl,rfl⟩
 | _=>cases h
theorem RT.val {K:PySem.W.Frag} {f:M D} {σ:L2.St} {H:Hp} {Q:Bool→Hp→Prop} (q:RT K (Az f) σ H Q):RE K f σ H fun x H1=>∃k,x = .bl k∧Q k H1:=by
 obtain ⟨Oo,c,t,fi,r,t',eq,k⟩:=q
 obtain ⟨d,t1,e1,eq⟩:=Am eq
 obtain ⟨b,rfl,z⟩:=HX eq
 cases z
 refine ⟨Oo,c,t,fi,_,t',e1,fun v H1 c1 f1 s1 rv=>?_⟩
 cases rv
 exact ⟨r,rfl,k H1 c1 f1 s1⟩
theorem Bs {f:M D} (h:PE X e (RE X.K f)) (he:∀whole,isTrue e X.env whole=(do let v ←whole;standAt e.pos;holding [v] (truthy v)):=by intro _;rfl):PT X e (RT X.K (Az f)):=
 Ia (Vi h he) fun _ _ _ q=>RT.val q
theorem AW {op:CmpOp} {R:R2} {f g:M D} {h:D→D→M D} (ho:OpR X (compareOp op) R) (s:B0 X.K R h) (ha:PE X a (RE X.K f)) (hb:PE X b (RE X.K g)) (hm:behindInMarks op b=false):PT X (.Compare a [op] [b] pos) (RT X.K (Az (Aj f g h))):=
 Ia (TJ ho ha hb hm) fun σ H Q q=>RE.two s (RT.val q)
def CM (f g w:M D) (h h':D→D→M D):M D:=bnd f fun x=>bnd g fun y=>bnd (Az (h x y)) fun k=>if k=true then bnd w fun z=>h' y z else ret (.bl false)
theorem RE.chain {K:PySem.W.Frag} {f g w:M D} {h h':D→D→M D} {R R':R2} (s:B0 K R h) (s':B0 K R' h') {σ:L2.St} {H:Hp} {Q:VK} (q:RE K (CM f g w h h') σ H Q):Mn R R' (RE K f) (RE K g) (RE K w) σ H Q:=by
 obtain ⟨Oo,c,t,fi,r,t',eq,k⟩:=q
 obtain ⟨dx,t1,e1,eq⟩:=Am eq
 obtain ⟨dy,t2,e2,eq⟩:=Am eq
 obtain ⟨kb,t3,e3,eq⟩:=Am eq
 obtain ⟨d3,t3',e3',e3⟩:=Am e3
 obtain ⟨b3,rfl,z⟩:=HX e3
 cases z
 refine ⟨Oo,c,t,fi,dx,t1,e1,fun x H1 c1 f1 s1 rx=>⟨Oo,c1,t1,f1,dy,t2,e2,fun y H2 c2 f2 s2 ry=>s f2 (rx.mono s2.ext) ry e3' fun v H3 c3 f3 s3 rv=>?_⟩⟩
 cases rv
 refine ⟨kb,rfl,?_⟩
 cases kb with
 | false=>
   rw [if_neg Bool.false_ne_true] at eq ⊢
   cases eq
   exact k _ H3 c3 f3 ((s1.trans s2).trans s3) (.bl false)
 | true=>
   rw [if_pos rfl] at eq ⊢
   obtain ⟨dz,t4,e4,eq⟩:=Am eq
   exact ⟨Oo,c3,t3,f3,dz,t4,e4,fun w' H4 c4 f4 s4 rw'=>s' f4 (ry.mono (s3.trans s4).ext) rw' eq fun v H' c' f' s' rv=>k v H' c' f' ((((s1.trans s2).trans s3).trans s4).trans s') rv⟩
theorem Qw {d:Expr} {op op':CmpOp} {R R':R2} {f g w:M D} {h h':D→D→M D} (ho:OpR X (compareOp op) R) (ho':OpR X (compareOp op') R') (s:B0 X.K R h) (s':B0 X.K R' h') (ha:PE X a (RE X.K f)) (hb:PE X b (RE X.K g)) (hd:PE X d (RE X.K w))
 (hm:lastMarks [op,op'] [b,d]=false:=by with_unfolding_all rfl):PE X (.Compare a [op,op'] [b,d] pos) (RE X.K (CM f g w h h')):=
 BA (QS ho ho' ha hb hd hm) fun _ _ _ q=>RE.chain s s' q
theorem Et {d:Expr} {op op':CmpOp} {R R':R2} {f g w:M D} {h h':D→D→M D} (ho:OpR X (compareOp op) R) (ho':OpR X (compareOp op') R') (s:B0 X.K R h) (s':B0 X.K R' h') (ha:PE X a (RE X.K f)) (hb:PE X b (RE X.K g)) (hd:PE X d (RE X.K w))
 (hm:lastMarks [op,op'] [b,d]=false:=by with_unfolding_all rfl):PT X (.Compare a [op,op'] [b,d] pos) (RT X.K (Az (CM f g w h h'))):=
 Ia (Q3 ho ho' ha hb hd hm) fun σ H Q q=>RE.chain s s' (RT.val q)
def Em (f g:M Bool):M Bool:=bnd f fun k=>if k=true then g else ret false
def fOr (f g:M Bool):M Bool:=bnd f fun k=>if k=true then ret true else g
def BX (f:M Bool):M Bool:=bnd f fun k=>ret (!k)
def D8 (f g:M D):M D:=bnd (Az f) fun k=>if k=true then g else ret (.bl false)
def UD (f g:M D):M D:=bnd (Az f) fun k=>if k=true then ret (.bl true) else g
def Im (f:M D):M D:=bnd (Az f) fun k=>ret (.bl (!k))
def fIf (f:M Bool) (g h:M D):M D:=bnd f fun k=>if k=true then g else h
variable {f g:M Bool} {u v w:M D} {rest:List Expr}
theorem Ce (h:PW X e (RT X.K f)):PT X e (RT X.K f):=h.pt
theorem D6 (ha:PT X a (RT X.K f)):PW X (.BoolOp .And [a] pos) (RT X.K f):=TK ha
theorem Df (ha:PT X a (RT X.K f)):PW X (.BoolOp .Or [a] pos) (RT X.K f):=Vl ha
theorem Ec (ha:PT X a (RT X.K f)) (hb:PW X (.BoolOp .And (b :: rest) pos) (RT X.K g)):PW X (.BoolOp .And (a :: b :: rest) pos) (RT X.K (Em f g)):=
 Oz (Vk ha hb) fun σ H Q ⟨Oo,c,t,fi,r,t',eq,k⟩=>by
  obtain ⟨kb,t1,e1,eq⟩:=Am eq
  refine ⟨Oo,c,t,fi,kb,t1,e1,fun H1 c1 f1 s1=>?_⟩
  cases kb with
  | false=>rw [if_neg Bool.false_ne_true] at eq ⊢;cases eq;exact k H1 c1 f1 s1
  | true=>rw [if_pos rfl] at eq ⊢;exact ⟨Oo,c1,t1,f1,r,t',eq,fun H2 c2 f2 s2=>k H2 c2 f2 (s1.trans s2)⟩
theorem C8 (ha:PT X a (RT X.K f)) (hb:PW X (.BoolOp .Or (b :: rest) pos) (RT X.K g)):PW X (.BoolOp .Or (a :: b :: rest) pos) (RT X.K (fOr f g)):=
 Oz (Wo ha hb) fun σ H Q ⟨Oo,c,t,fi,r,t',eq,k⟩=>by
  obtain ⟨kb,t1,e1,eq⟩:=Am eq
  refine ⟨Oo,c,t,fi,kb,t1,e1,fun H1 c1 f1 s1=>?_⟩
  cases kb with
  | true=>rw [if_pos rfl] at eq ⊢;cases eq;exact k H1 c1 f1 s1
  | false=>rw [if_neg Bool.false_ne_true] at eq ⊢;exact ⟨Oo,c1,t1,f1,r,t',eq,fun H2 c2 f2 s2=>k H2 c2 f2 (s1.trans s2)⟩
theorem BK (ha:PT X a (RT X.K f)):PT X (.UnaryOp .Not a pos) (RT X.K (BX f)):=
 Ia (Vh ha) fun σ H Q ⟨Oo,c,t,fi,r,t',eq,k⟩=>by
  obtain ⟨kb,t1,e1,eq⟩:=Am eq
  cases eq
  exact ⟨Oo,c,t,fi,kb,_,e1,fun H1 c1 f1 s1=>k H1 c1 f1 s1⟩
theorem Mo {f:M D} {t:T} {kb:Bool} {t1:T} (h:Az f t=some (kb,t1)):f t=some (.bl kb,t1):=by
 obtain ⟨d,t2,e1,e2⟩:=Am h
 obtain ⟨b,rfl,z⟩:=HX e2
 cases z
 exact e1
theorem FY {op:PySem.BoolOp} (h:PE X a (RE X.K u)):PE X (.BoolOp op [a] pos) (RE X.K u):=Vd h
theorem Ff (ha:PE X a (RE X.K u)) (hb:PE X (.BoolOp .And (b :: rest) pos) (RE X.K v)):PE X (.BoolOp .And (a :: b :: rest) pos) (RE X.K (D8 u v)):=
 BA (U7 ha hb) fun σ H Q ⟨Oo,c,t,fi,r,t',eq,k⟩=>by
  obtain ⟨kb,t1,e1,eq⟩:=Am eq
  refine ⟨Oo,c,t,fi,_,t1,Mo e1,fun x H1 c1 f1 s1 rx=>?_⟩
  cases rx
  refine ⟨kb,rfl,?_⟩
  cases kb with
  | false=>rw [if_neg Bool.false_ne_true] at eq ⊢;cases eq;exact k _ H1 c1 f1 s1 (.bl false)
  | true=>rw [if_pos rfl] at eq ⊢;exact ⟨Oo,c1,t1,f1,r,t',eq,fun y H2 c2 f2 s2 ry=>k y H2 c2 f2 (s1.trans s2) ry⟩
theorem UF (ha:PE X a (RE X.K u)):PE X (.UnaryOp .Not a pos) (RE X.K (Im u)):=
 BA (Vc ha) fun σ H Q ⟨Oo,c,t,fi,r,t',eq,k⟩=>by
  obtain ⟨kb,t1,e1,eq⟩:=Am eq
  cases eq
  refine ⟨Oo,c,t,fi,_,_,Mo e1,fun x H1 c1 f1 s1 rx=>?_⟩
  cases rx
  exact ⟨kb,rfl,k _ H1 c1 f1 s1 (.bl (!kb))⟩
theorem Fg {d:Expr} (hc:PT X d (RT X.K f)) (ha:PE X a (RE X.K u)) (hb:PE X b (RE X.K v)):PE X (.IfExp d a b pos) (RE X.K (fIf f u v)):=
 BA (QT hc ha hb) fun σ H Q ⟨Oo,c,t,fi,r,t',eq,k⟩=>by
  obtain ⟨kb,t1,e1,eq⟩:=Am eq
  refine ⟨Oo,c,t,fi,kb,t1,e1,fun H1 c1 f1 s1=>?_⟩
  cases kb with
  | false=>rw [if_neg Bool.false_ne_true] at eq ⊢;exact ⟨Oo,c1,t1,f1,r,t',eq,fun y H2 c2 f2 s2 ry=>k y H2 c2 f2 (s1.trans s2) ry⟩
  | true=>rw [if_pos rfl] at eq ⊢;exact ⟨Oo,c1,t1,f1,r,t',eq,fun y H2 c2 f2 s2 ry=>k y H2 c2 f2 (s1.trans s2) ry⟩
end
section
variable {X:Cx} {e a b:Expr} {es:List Expr} {pos:Pos}
def Ah:M (List D):=ret []
def Ac (f:M D) (g:M (List D)):M (List D):=bnd f fun d=>bnd g fun ds=>ret (d :: ds)
theorem Ae:PA X [] (RA X.K Ah):=Ov Pp fun σ H Q ⟨Oo,c,t,fi,r,t',eq,k⟩=>by
 cases eq
 exact k [] H c fi .refl .nil
theorem SE {f:M D} {g:M (List D)} (ha:PE X e (RE X.K f)) (hr:PA X es (RA X.K g)) (hs:starEach (e :: es) X.env=(false,eval e X.env) :: starEach es X.env:=by rfl):PA X (e :: es) (RA X.K (Ac f g)):=
 Ov (Nh ha hr hs) fun σ H Q ⟨Oo,c,t,fi,r,t',eq,k⟩=>by
  obtain ⟨d,t1,e1,eq⟩:=Am eq
  obtain ⟨ds,t2,e2,eq⟩:=Am eq
  cases eq
  exact ⟨Oo,c,t,fi,d,t1,e1,fun x H1 c1 f1 s1 rx=>⟨Oo,c1,t1,f1,ds,_,e2,fun xs H2 c2 f2 s2 rxs=>k _ H2 c2 f2 (s1.trans s2) (.cons (rx.mono s2.ext) rxs)⟩⟩
def lim {α:Type} (n:Nat) (a:α):M α:=fun t=>if n≤LIM then some (a,t) else none
theorem Eu {α:Type} {n:Nat} {a:α} {t:T} {z:α×T} (h:lim n a t=some z):n≤LIM∧z=(a,t):=by
 unfold lim at h
 split at h
 ·next h1=>cases h;exact ⟨h1,rfl⟩
 ·cases h
def BB (f:M (List D)):M D:=bnd f fun ds=>lim ds.length (.tup ds)
theorem Bd {x1:Nat} {f:M (List D)} (h:PA X es (RA X.K f)):PE X (.Tuple es x1 pos) (RE X.K (BB f)):=
 BA (Ve h) fun σ H Q ⟨Oo,c,t,fi,r,t',eq,k⟩=>by
  obtain ⟨ds,t1,e1,eq⟩:=Am eq
  obtain ⟨hl,z⟩:=Eu eq
  cases z
  refine ⟨Oo,c,t,fi,ds,_,e1,fun xs H1 c1 f1 s1 rxs=>⟨by rw [rxs.length];exact Nat.le_trans hl Ct,fun p hp=>?_⟩⟩
  exact k _ _ c1 (f1.laid hp) (s1.trans (f1.stp_laid hp)) (.tup AN (f1.s.free hp) (rxs.mono (Ext.laid f1.s hp)))
def Cu (f:M (List D)):M (List D):=bnd f fun ds=>lim ds.length ds
theorem B5 {f:M (List D)} (h:PA X es (RA X.K f)):PE X (.List es pos) (RF X.K (Cu f)):=
 BA (Va h) fun σ H Q ⟨Oo,c,t,fi,r,t',eq,k⟩=>by
  obtain ⟨ds,t1,e1,eq⟩:=Am eq
  obtain ⟨hl,z⟩:=Eu eq
  cases z
  exact ⟨Oo,c,t,fi,_,_,e1,fun xs H1 c1 f1 s1 rxs=>⟨by rw [rxs.length];exact Nat.le_trans hl Ct,fun p hp=>k p xs H1 c1 f1 s1 rxs hp⟩⟩
def Bo (f:M (List D)):M D:=bnd f fun ds=>ret (.lst ds)
theorem Bn {f:M (List D)} (h:PE X e (RF X.K f)):PE X e (RE X.K (Bo f)):=
 BA h fun σ H Q ⟨Oo,c,t,fi,r,t',eq,k⟩=>by
  obtain ⟨ds,t1,e1,eq⟩:=Am eq
  cases eq
  exact ⟨Oo,c,t,fi,ds,_,e1,fun p xs H1 c1 f1 s1 rxs hp=>k _ _ c1 (f1.laid hp) (s1.trans (f1.stp_laid hp)) (.lst AN (f1.s.free hp) (rxs.mono (Ext.laid f1.s hp)))⟩
def N7 (o:Ob):M D:=fun t=>some (.obj t.S.length,{ t with S:=t.S++[o] })
def FM (f:M (List D)):M D:=bnd f fun ds=>N7 (.lst ds)
theorem Lp {f:M (List D)} (h:PE X e (RF X.K f)):PE X e (RE X.K (FM f)):=
 BA h fun σ H Q ⟨Oo,c,t,fi,r,t',eq,k⟩=>by
  obtain ⟨ds,t1,e1,eq⟩:=Am eq
  cases eq
  refine ⟨Oo,c,t,fi,ds,_,e1,fun p xs H1 c1 f1 s1 rxs hp=>?_⟩
  obtain ⟨c2,f2,s2,e2⟩:=f1.newObj (o:=.lst ds) (u:=.lst xs) hp fun c' H' ex hu=>⟨xs,hu,rxs.mono ex⟩
  exact k _ _ c2 f2 (s1.trans s2) (.obj e2)
abbrev Fn:=List D→List Ob→Option (D×List Ob)
inductive spF (K:PySem.W.Frag) (f:Fn) (vs:List V) (H:Hp) (Q:VK) (E:XK):Prop where
 | mk (c:Cf) (ds:List D) (S:List Ob) (si:SInv K c S H) (rs:Reps K c H vs ds) (r:D) (S':List Ob) (e:f ds S=some (r,S')) (k:∀v H' c',SInv K c' S' H'→Stp c.O c H c' H'→(∀b,c'.O b↔c.O b)→Rep K c' H' v r→Q v H'):spF K f vs H Q E
def Av (g:Fn) (f:M (List D)):M D:=bnd f fun ds t=>match g ds t.S with
 | some (r,S')=>some (r,{ t with S:=S' })
 | none=>none
theorem J1 {g:Fn} {ds:List D} {t:T} {r:D} {t':T} (h:(match g ds t.S with | some (r,S')=>some (r,{ t with S:=S' }) | none=>none:Option (D×T))=some (r,t')):∃S',g ds t.S=some (r,S')∧t' = { t with S:=S' }:=by
 cases e:g ds t.S with
 | none=>rw [e] at h;cases h
 | some p=>obtain ⟨r',S'⟩:=p;rw [e] at h;cases h;exact ⟨S',rfl,rfl⟩
theorem SF {k:Nat} {fa:Addr} {fd:FuncData} {ps:List Str} {g:Fn} {f:M (List D)} {x:Str} {p:Pos} (F:FnOk X.prog X.w X.K X.mg X.base CX0 k fa fd ps (spF X.K g)) (hr:Room k X.A) (hg:Gl X x) (hm:X.mg x=some (.ref fa)) (hk:PySem.W.keepIn X.K (.ref fa)=true) (hb:Binds X.K fd ps [])
 (ha:PA X (e :: es) (RA X.K f)) (hdb:(x == ("__debug__" : Str))=false:=by decide) (he:starEach (e :: es) X.env=(false,eval e X.env) :: starEach es X.env:=by rfl) (hpl:(backTo pos (starEach es X.env)).any (·.1)=false:=by rfl) :
 PE X (.Call (.Name x p) (e :: es) [] pos) (RE X.K (Av g f)):=
 BA (Tp F hr hg hm hk hb .nil RY ha hdb he hpl) fun σ H Q ⟨Oo,c,t,fi,r,t',eq,kk⟩=>by
  obtain ⟨ds,t1,e1,eq⟩:=Am eq
  obtain ⟨S',e2,rfl⟩:=J1 eq
  refine ⟨Oo,c,t,fi,ds,t1,e1,fun vs H1 c1 f1 s1 rvs=>?_⟩
  show spF X.K g (vs++[]) H1 Q E0
  rw [List.append_nil]
  refine ⟨c1,ds,t1.S,f1.s,rvs,r,S',e2,fun v H' c' si st ho rv=>?_⟩
  obtain ⟨f2,s2⟩:=f1.after si st ho
  exact kk v H' c' f2 (s1.trans s2) rv
def fB (f:M (List D)) (h:List D→M D):M D:=bnd f h
theorem RE.callB {K:PySem.W.Frag} {f:M (List D)} {h:List D→M D} {R:List V→Hp→VK→Prop} (s:EN K R h) {σ:L2.St} {H:Hp} {Q:VK} (q:RE K (fB f h) σ H Q):tCB R (RA K f) σ H Q:=by
 obtain ⟨Oo,c,t,fi,r,t',eq,k⟩:=q
 obtain ⟨ds,t1,e1,eq⟩:=Am eq
 exact ⟨Oo,c,t,fi,ds,t1,e1,fun xs H1 c1 f1 s1 rxs=>s f1 rxs eq fun v H' c' f' s' rv=>k v H' c' f' (s1.trans s') rv⟩
def fBF (f:M (List D)) (h:List D→M (List D)):M (List D):=bnd f h
theorem RF.callB {K:PySem.W.Frag} {f:M (List D)} {h:List D→M (List D)} {R:List V→Hp→VK→Prop} (s:KB K R h) {σ:L2.St} {H:Hp} {Q:VK} (q:RF K (fBF f h) σ H Q):tCB R (RA K f) σ H Q:=by
 obtain ⟨Oo,c,t,fi,r,t',eq,k⟩:=q
 obtain ⟨ds,t1,e1,eq⟩:=Am eq
 exact ⟨Oo,c,t,fi,ds,t1,e1,fun xs H1 c1 f1 s1 rxs=>s f1 rxs eq fun p vs H' c' f' s' rv hp=>k p vs H' c' f' (s1.trans s') rv hp⟩
end
section
variable {X:Cx} {e a b:Expr} {pos:Pos} {st:Stmt} {sts:List Stmt}
def Ap (f g:M Out):M Out:=fun t=>match f t with
 | some (.next,t1)=>g t1
 | z=>z
def AU:M Out:=ret .next
theorem AE {μ:Cf→Hp→D→(V→Hp→Prop)→Prop}:PSs X [] (RSg X.K μ AU):=MU TF fun E σ H ⟨Oo,c,t,fi,o,t',eq,k⟩=>by
 cases eq
 exact k σ H c fi .refl
theorem Ai {μ:Cf→Hp→D→(V→Hp→Prop)→Prop} {f g:M Out} (h1:PS X st (RSg X.K μ f)) (h2:PSs X sts (RSg X.K μ g)):PSs X (st :: sts) (RSg X.K μ (Ap f g)):=
 MU (Q2 h1 h2) fun E σ H ⟨Oo,c,t,fi,o,t',eq,k⟩=>by
  unfold Ap at eq
  cases e1:f t with
  | none=>rw [e1] at eq;cases eq
  | some p=>
    obtain ⟨o1,t1⟩:=p
    rw [e1] at eq
    refine ⟨Oo,c,t,fi,o1,t1,e1,fun σ1 H1 c1 f1 s1=>?_⟩
    cases o1 with
    | next=>exact ⟨Oo,c1,t1,f1,o,t',eq,fun σ2 H2 c2 f2 s2=>k σ2 H2 c2 f2 (s1.trans s2)⟩
    | brk=>cases eq;exact k σ1 H1 c1 f1 s1
    | cont=>cases eq;exact k σ1 H1 c1 f1 s1
    | ret d=>cases eq;exact k σ1 H1 c1 f1 s1
theorem Ak {μ:Cf→Hp→D→(V→Hp→Prop)→Prop} {f:M Out} (h1:PS X st (RSg X.K μ f)):PSs X [st] (RSg X.K μ f):=TH h1
def AH (f:M D):M Out:=bnd f fun d=>ret (.ret d)
theorem Aq {f:M D} (h:PE X e (RE X.K f)):PS X (.Return (some e) pos) (RS X.K (AH f)):=
 CY (Vg h) fun E σ H ⟨Oo,c,t,fi,o,t',eq,k⟩=>by
  obtain ⟨d,t1,e1,eq⟩:=Am eq
  cases eq
  exact ⟨Oo,c,t,fi,d,_,e1,fun v H1 c1 f1 s1 rv=>k σ H1 c1 f1 s1 v rv⟩
def DU (f:M D):M Out:=bnd f fun _=>ret .next
theorem Es {μ:Cf→Hp→D→(V→Hp→Prop)→Prop} {f:M D} (h:PE X e (RE X.K f)) (hs:swapsWith e none pos.line X.env=pure false:=by rfl):PS X (.Expr e pos) (RSg X.K μ (DU f)):=
 CY (JG h hs) fun E σ H ⟨Oo,c,t,fi,o,t',eq,k⟩=>by
  obtain ⟨d,t1,e1,eq⟩:=Am eq
  cases eq
  exact ⟨Oo,c,t,fi,d,_,e1,fun v H1 c1 f1 s1 rv=>k σ H1 c1 f1 s1⟩
def ifS (f:M Bool) (g h:M Out):M Out:=bnd f fun k=>if k=true then g else h
theorem A2 {μ:Cf→Hp→D→(V→Hp→Prop)→Prop} {f:M Bool} {g h:M Out} {sa sb:List Stmt} (hc:PT X e (RT X.K f)) (ha:PSs X sa (RSg X.K μ g)) (hb:PSs X sb (RSg X.K μ h)):PS X (.If e sa sb pos) (RSg X.K μ (ifS f g h)):=
 CY (Wn hc ha hb) fun E σ H ⟨Oo,c,t,fi,o,t',eq,k⟩=>by
  obtain ⟨kb,t1,e1,eq⟩:=Am eq
  refine ⟨Oo,c,t,fi,kb,t1,e1,fun H1 c1 f1 s1=>?_⟩
  cases kb with
  | true=>rw [if_pos rfl] at eq ⊢;exact ⟨Oo,c1,t1,f1,o,t',eq,fun σ2 H2 c2 f2 s2=>k σ2 H2 c2 f2 (s1.trans s2)⟩
  | false=>rw [if_neg Bool.false_ne_true] at eq ⊢;exact ⟨Oo,c1,t1,f1,o,t',eq,fun σ2 H2 c2 f2 s2=>k σ2 H2 c2 f2 (s1.trans s2)⟩
def Bv (i:Nat) (d:D):M Unit:=fun t=>some ((),{ t with env:=t.env.set i (some (.val d)) })
def Bf (i:Nat) (f:M D):M Out:=bnd f fun d=>bnd (Bv i d) fun _=>ret .next
theorem RS.set {μ:Cf→Hp→D→(V→Hp→Prop)→Prop} {K:PySem.W.Frag} {i:Nat} {f:M D} {E:Ends} {σ:L2.St} {H:Hp} (q:RSg K μ (Bf i f) E σ H):Mm (RE K f) (Ir i) E σ H:=by
 obtain ⟨Oo,c,t,fi,o,t',eq,k⟩:=q
 obtain ⟨d,t1,e1,eq⟩:=Am eq
 cases eq
 exact ⟨Oo,c,t,fi,d,t1,e1,fun v H1 c1 f1 s1 rv=>k _ H1 c1 (f1.set rv) s1⟩
theorem AZ {μ:Cf→Hp→D→(V→Hp→Prop)→Prop} {i:Nat} {x:Str} {f:M D} {pos':Pos} (hN:X.N.Nodup) (hi:X.N[i]?=some x) (hx:Loc X.env.scope x) (he:PE X e (RE X.K f)) (hs:swapsWith e (some (.Name x pos')) pos.line X.env=pure false:=by rfl) (hf:X.fn x=true∨X.env.scope.names.lookup x=some .local:=by first | exact .inl rfl | exact .inr rfl | assumption) :
 PS X (.Assign [.Name x pos'] e pos) (RSg X.K μ (Bf i f)):=CY (PD hN hi hx he hs hf) fun _ _ _ q=>RS.set q
def G3 (i:Nat) (f:M (List D)):M Out:=bnd f fun ds t=>some (.next,{ t with env:=t.env.set i (some (.own ds)) })
theorem RS.own {μ:Cf→Hp→D→(V→Hp→Prop)→Prop} {K:PySem.W.Frag} {i:Nat} {f:M (List D)} {E:Ends} {σ:L2.St} {H:Hp} (q:RSg K μ (G3 i f) E σ H):Mm (RF K f) (Ir i) E σ H:=by
 obtain ⟨Oo,c,t,fi,o,t',eq,k⟩:=q
 obtain ⟨ds,t1,e1,eq⟩:=Am eq
 cases eq
 refine ⟨Oo,c,t,fi,ds,t1,e1,fun p vs H1 c1 f1 s1 rv hp=>?_⟩
 obtain ⟨c2,f2,s2⟩:=f1.setOwn (i:=i) hp rv
 exact k _ _ c2 f2 (s1.trans s2)
theorem Ls {μ:Cf→Hp→D→(V→Hp→Prop)→Prop} {i:Nat} {x:Str} {f:M (List D)} {pos':Pos} (hN:X.N.Nodup) (hi:X.N[i]?=some x) (hx:Loc X.env.scope x) (he:PE X e (RF X.K f)) (hs:swapsWith e (some (.Name x pos')) pos.line X.env=pure false:=by rfl) (hf:X.fn x=true∨X.env.scope.names.lookup x=some .local:=by first | exact .inl rfl | exact .inr rfl | assumption) :
 PS X (.Assign [.Name x pos'] e pos) (RSg X.K μ (G3 i f)):=CY (PD hN hi hx he hs hf) fun _ _ _ q=>RS.own q
theorem A3 {i:Nat} {x:Str} (hN:X.N.Nodup) (hi:X.N[i]?=some x) (hx:Loc X.env.scope x) (hf:X.fn x=true∨X.env.scope.names.lookup x=some .local:=by first | exact .inl rfl | exact .inr rfl | assumption):PG X (.Name x pos) (RG X.K (Bv i)):=
 H9 (Ts hN hi hx hf) fun v σ H Q ⟨Oo,c,t,d,fi,rv,t',eq,k⟩=>by
  cases eq
  exact k _ H c (fi.set rv) .refl
def FI (f:M D) (g:D→M Unit):M Out:=bnd f fun d=>bnd (g d) fun _=>ret .next
theorem F0 {μ:Cf→Hp→D→(V→Hp→Prop)→Prop} {tg:Expr} {f:M D} {g:D→M Unit} (he:PE X e (RE X.K f)) (hg:PG X tg (RG X.K g)) (hs:swapsWithSole [tg] e pos.line X.env=pure false:=by rfl) (hw:swappedStores [tg] e X.env=pure none:=by rfl) (hp:(assignEach [tg] X.env).map (·.2)=[assign tg X.env]:=by rfl) :
 PS X (.Assign [tg] e pos) (RSg X.K μ (FI f g)):=
 CY (by first | exact PB he hg hs hw | exact PB he hg hs hw hp) fun E σ H ⟨Oo,c,t,fi,o,t',eq,k⟩=>by
  obtain ⟨d,t1,e1,eq⟩:=Am eq
  obtain ⟨u,t2,e2,eq⟩:=Am eq
  cases eq
  exact ⟨Oo,c,t,fi,d,t1,e1,fun v H1 c1 f1 s1 rv=>⟨Oo,c1,t1,d,f1,rv,_,e2,fun σ2 H2 c2 f2 s2=>k σ2 H2 c2 f2 (s1.trans s2)⟩⟩
inductive RGs (K:PySem.W.Frag) (f:List D→M Unit) (vs:List V) (σ:L2.St) (H:Hp) (Q:L2.St→Hp→Prop):Prop where
 | mk (Oo:Addr→Prop) (c:Cf) (t:T) (ds:List D) (fi:FInv K Oo c t σ H) (r:Reps K c H vs ds) (t':T) (e:f ds t=some ((),t')) (k:∀σ' H' c',FInv K Oo c' t' σ' H'→Stp Oo c H c' H'→Q σ' H'):RGs K f vs σ H Q
theorem MT {ts:List Expr} {t t':TGs} (h:PGs X ts t) (i:∀v σ H Q,t' v σ H Q→t v σ H Q):PGs X ts t':=fun pins s σ H vs us Q I r q=>h pins s σ H vs us Q I r (i vs σ H Q q)
def G7:List D→M Unit
 | []=>ret ()
 | _=>fail
def C7 (f:D→M Unit) (g:List D→M Unit):List D→M Unit
 | d :: ds=>bnd (f d) fun _=>g ds
 | []=>fail
theorem M3:PGs X [] (RGs X.K G7):=MT Tt fun vs σ H Q ⟨Oo,c,t,ds,fi,rv,t',eq,k⟩=>by
 cases rv with
 | nil=>cases eq;exact ⟨rfl,k σ H c fi .refl⟩
 | cons _ _=>cases eq
theorem RGs.cons {K:PySem.W.Frag} {f:D→M Unit} {g:List D→M Unit} {vs:List V} {σ:L2.St} {H:Hp} {Q:L2.St→Hp→Prop} (q:RGs K (C7 f g) vs σ H Q):RU (RG K f) (RGs K g) vs σ H Q:=by
 obtain ⟨Oo,c,t,ds,fi,rv,t',eq,k⟩:=q
 cases rv with
 | nil=>cases eq
 | cons r rs=>
   obtain ⟨u,t1,e1,eq⟩:=Am eq
   exact ⟨_,_,rfl,Oo,c,t,_,fi,r,t1,e1,fun σ1 H1 c1 f1 s1=>⟨Oo,c1,t1,_,f1,rs.mono s1.ext,t',eq,fun σ2 H2 c2 f2 s2=>k σ2 H2 c2 f2 (s1.trans s2)⟩⟩
def unT (n:Nat) (g:List D→M Unit):D→M Unit
 | .tup ds=>if ds.length=n then g ds else fail
 | _=>fail
def Dn (st:D→M Unit) (b:M Out):List D→M Out
 | []=>ret .next
 | d :: r=>fun t=>match st d t with
   | none=>none
   | some (_,t1)=>match b t1 with
     | some (.next,t2)=>Dn st b r t2
     | some (.cont,t2)=>Dn st b r t2
     | some (.brk,t2)=>some (.next,t2)
     | some (.ret x,t2)=>some (.ret x,t2)
     | none=>none
def Dx (f:M (List D)) (st:D→M Unit) (b:M Out):M Out:=bnd f fun ds=>Dn st b ds
theorem RS.for {μ:Cf→Hp→D→(V→Hp→Prop)→Prop} {K:PySem.W.Frag} {f:M (List D)} {g:D→M Unit} {b:M Out} {E:Ends} {σ:L2.St} {H:Hp} (q:RSg K μ (Dx f g b) E σ H):Rk (RI K f) (RG K g) (RSg K μ b) E σ H:=by
 obtain ⟨Oo,c,t,fi,o,t',eq,k⟩:=q
 obtain ⟨ds,t1,e1,eq⟩:=Am eq
 refine ⟨Oo,c,t,fi,ds,t1,e1,fun J H1 c1 f1 s1 it=>?_⟩
 refine ⟨fun i m σ' H'=>m=ds.length - i∧i≤ds.length∧∃c' t2,FInv K Oo c' t2 σ' H'∧Stp Oo c1 H1 c' H'∧Dn g b (ds.drop i) t2=some (o,t'),⟨_,rfl,Nat.zero_le _,c1,t1,f1,.refl,by rw [List.drop_zero];exact eq⟩,?_⟩
 rintro i m σ' H' ⟨rfl,hi,c',t2,f2,s2,e2⟩
 by_cases hlt:i < ds.length
 ·refine .inr ⟨it.go c' H' i s2.ext hlt,fun σ3 H3=>∃c3 t3,FInv K Oo c3 t3 σ3 H3∧Stp Oo c1 H1 c3 H3∧Dn g b (ds.drop (i + 1)) t3=some (o,t'),fun σ3 H3 h=>⟨ds.length - (i + 1),by lia,rfl,hlt,h⟩,fun x H'' hy=>?_⟩
  obtain ⟨rfl,rx⟩:=it.yld c' H' i x H'' _ s2.ext (List.getElem?_eq_getElem hlt) hy
  rw [List.drop_eq_getElem_cons hlt] at e2
  unfold Dn at e2
  cases e3:g ds[i] t2 with
  | none=>rw [e3] at e2;cases e2
  | some p=>
    obtain ⟨u,t3⟩:=p
    rw [e3] at e2
    try dsimp only at e2
    refine ⟨Oo,c',t2,_,f2,rx,t3,e3,fun σ3 H3 c3 f3 s3=>?_⟩
    cases e4:b t3 with
    | none=>rw [e4] at e2;cases e2
    | some p=>
      obtain ⟨o4,t4⟩:=p
      rw [e4] at e2
      try dsimp only at e2
      refine ⟨Oo,c3,t3,f3,o4,t4,e4,fun σ5 H5 c5 f5 s5=>?_⟩
      have s':=(s2.trans s3).trans s5
      cases o4 with
      | next=>exact ⟨c5,t4,f5,s',e2⟩
      | cont=>exact ⟨c5,t4,f5,s',e2⟩
      | brk=>cases e2;exact k σ5 H5 c5 f5 (s1.trans s')
      | ret r=>cases e2;exact k σ5 H5 c5 f5 (s1.trans s')
 ·have hi':i=ds.length:=by lia
  subst hi'
  rw [List.drop_length] at e2
  cases e2
  exact .inl ⟨it.stop c' H' s2.ext,k σ' H' c' f2 (s1.trans s2)⟩
theorem Dy {μ:Cf→Hp→D→(V→Hp→Prop)→Prop} {tg iter:Expr} {body:List Stmt} {f:M (List D)} {g:D→M Unit} {b:M Out} (hp:PassesOwn (model X.prog X.w) X.A X.env X.xe) (hc:X.calm=true) (hi:PI X tg iter (RI X.K f)) (hg:PG X tg (RG X.K g)) (hb:PSs X body (RSg X.K μ b))
 (hs:∀x,foldedSetIterable iter X.env x=pure x:=by intro _;rfl):PS X (.For tg iter body [] pos) (RSg X.K μ (Dx f g b)):=
 CY (PC hp hc hi hg hb hs) fun _ _ _ q=>RS.for q
theorem ItOk.lst {K:PySem.W.Frag} {c:Cf} {H:Hp} {p:Addr} {ds:List D} (r:∀c' H',Ext c H c' H'→∃vs,SqL K H' p vs∧Reps K c' H' vs ds):ItOk K (Itl K p) c H ds:=by
 refine ⟨fun c' H' i ex hi=>?_,fun c' H' i x H'' d ex hd hy=>?_,fun c' H' ex=>?_⟩
 ·obtain ⟨vs,h1,h2⟩:=r c' H' ex
  obtain ⟨v,e,_⟩:=h2.at (List.getElem?_eq_getElem hi)
  exact ⟨vs,v,h1,e⟩
 ·obtain ⟨vs,h1,h2⟩:=r c' H' ex
  obtain ⟨rfl,h⟩:=hy
  exact ⟨rfl,h2.get (h vs h1) hd⟩
 ·obtain ⟨vs,h1,h2⟩:=r c' H' ex
  exact ⟨vs,h1,by rw [h2.length];exact Nat.le_refl _⟩
theorem ItOk.tup {K:PySem.W.Frag} {c:Cf} {H:Hp} {p:Addr} {ds:List D} (r:∀c' H',Ext c H c' H'→∃vs,SqT K H' p vs∧Reps K c' H' vs ds):ItOk K (Itt K p) c H ds:=by
 refine ⟨fun c' H' i ex hi=>?_,fun c' H' i x H'' d ex hd hy=>?_,fun c' H' ex=>?_⟩
 ·obtain ⟨vs,h1,h2⟩:=r c' H' ex
  obtain ⟨v,e,_⟩:=h2.at (List.getElem?_eq_getElem hi)
  exact ⟨vs,v,h1,e⟩
 ·obtain ⟨vs,h1,h2⟩:=r c' H' ex
  obtain ⟨rfl,h⟩:=hy
  exact ⟨rfl,h2.get (h vs h1) hd⟩
 ·obtain ⟨vs,h1,h2⟩:=r c' H' ex
  exact ⟨vs,h1,by rw [h2.length];exact Nat.le_refl _⟩
end
theorem FInv.leave {K:PySem.W.Frag} {Oo:Addr→Prop} {c:Cf} {t:T} {σ:L2.St} {H:Hp} (f:FInv K Oo c t σ H):SInv K ⟨c.ι,Oo⟩ t.S H∧Ext c H ⟨c.ι,Oo⟩ H:=by
 have ext:Ext c H ⟨c.ι,Oo⟩ H:=⟨fun _ _ e _=>e,fun b o _ z=>z.elim .inl fun w=>.inr (f.sub b w),fun _ _ e=>e⟩
 exact ⟨⟨f.s.len,f.s.nd,fun k a o e1 e2=>(f.s.obs k a o e1 e2).mono ext rfl,fun b z=>f.s.trk b (f.sub b z),fun b z=>f.s.dis b (f.sub b z)⟩,ext⟩
def env0 (m:Nat) (ds:List D):List (Option Sl):=ds.map (fun d=>some (.val d))++List.replicate (m - ds.length) none
def fnOf (n m:Nat) (g:M Out):Fn:=fun ds S=>if ds.length=n then (match g ⟨env0 m ds,S⟩ with
 | some (.ret r,t)=>some (r,t.S)
 | some (.next,t)=>some (.non,t.S)
 | _=>none) else none
theorem Gk {K:PySem.W.Frag} {c:Cf} {S:List Ob} {H:Hp} {vs:List V} {ds:List D} {N:List Str} (s:SInv K c S H) (r:Reps K c H vs ds):FInv K c.O c ⟨env0 N.length ds,S⟩ (L2.DL N vs) H:=by
 have hlen:vs.length=ds.length:=r.length
 have none_:∀{i:Nat} {x:Sl},(env0 N.length ds)[i]?=some (some x)→∃d,ds[i]?=some d∧x = .val d:=fun {i x} q=>by
  unfold env0 at q
  by_cases hi:i < ds.length
  ·rw [List.getElem?_append_left (by simpa using hi),List.getElem?_map,List.getElem?_eq_getElem hi] at q
   simp at q
   exact ⟨ds[i],List.getElem?_eq_getElem hi,q.symm⟩
  ·rw [List.getElem?_append_right (by simpa using hi),List.getElem?_replicate] at q
   split at q <;> simp at q
 refine ⟨s,by simp [env0,L2.DL,hlen],fun _ z=>z,fun i d q=>?_,fun i es q=>?_,fun i j es _ a q _ _ _=>?_⟩
 ·obtain ⟨d',h1,h2⟩:=none_ q
  cases h2
  obtain ⟨v,h3,h4⟩:=r.at h1
  refine ⟨v,?_,h4⟩
  unfold L2.DL
  have hi:=(List.getElem?_eq_some_iff.mp h3).1
  rw [List.getElem?_append_left (by simpa using hi),List.getElem?_map,h3]
  rfl
 ·obtain ⟨_,_,h2⟩:=none_ q;cases h2
 ·obtain ⟨_,_,h2⟩:=none_ q;cases h2
theorem V9 {P:Program} {w:World} {K:PySem.W.Frag} {mg:Str→Option Value} {base:Heap} {x qual:Str} {st:Stmt} {fa:Addr} {fd:FuncData} {N ps:List Str} {k:Nat} {g:M Out} (F:Fun K x qual st fa fd) (S:FnScope N ps (Aw st))
 (hb:∀(cdv:Value) (A:Around) (outer:List Env) (s:Shared) (H:Hp) (E:XK),Room k (A.deeper (PyProof.Rows.envOfC qual (Aw st) s.heap.objs.size fa cdv))→
   PSs (Gi CX0 P w K mg base N qual (Aw st) fa cdv A outer s H E).nox (Dj st) (RS K g)):FnOk P w K mg base CX0 (k + 1) fa fd ps (spF K (fnOf ps.length N.length g)):=by
 have hlen:∀{ds:List D} {S:List Ob} {z:D×List Ob},fnOf ps.length N.length g ds S=some z→ds.length=ps.length:=fun {ds S z} h=>by
  unfold fnOf at h
  split at h
  ·next h1=>exact h1
  ·cases h
 refine F.ok S (fun vs H Q E h=>?_) (fun cdv A outer s H vs Q E hr h=>?_)
 ·obtain ⟨c,ds,S,si,rs,r,S',e,_⟩:=h
  rw [rs.length];exact hlen e
 obtain ⟨c,ds,S0,si,rs,r,S',e,kk⟩:=h
 refine ⟨RS K g,hb cdv A outer s H E hr,?_⟩
 have hl:=hlen e
 unfold fnOf at e
 rw [if_pos hl] at e
 cases eg:g ⟨env0 N.length ds,S0⟩ with
 | none=>rw [eg] at e;cases e
 | some p=>
   obtain ⟨o,t⟩:=p
   rw [eg] at e
   refine ⟨c.O,c,_,Gk si rs,o,t,eg,fun σ' H' c' f' s'=>?_⟩
   obtain ⟨si',ext'⟩:=f'.leave
   have st':Stp c.O c H ⟨c'.ι,c.O⟩ H':=⟨s'.ext.trans ext',s'.oo⟩
   cases o with
   | next=>cases e;exact kk .non H' _ si' st' (fun _=>Iff.rfl) .non
   | ret d=>cases e;exact fun v rv=>kk v H' _ si' st' (fun _=>Iff.rfl) (rv.mono ext')
   | brk=>cases e
   | cont=>cases e
section
variable {X:Cx} {e a b:Expr} {pos:Pos}
def items:D→M (List D)
 | .lst ds=>ret ds
 | .tup ds=>ret ds
 | .scr ns=>ret (ns.map .int)
 | _=>fail
def CG (lo:Int) (n:Nat):List D:=(List.range n).map fun i=>.int (lo + (i:Nat))
theorem ItOk.rng {K:PySem.W.Frag} {c:Cf} {H:Hp} {lo:Int} {n:Nat}:ItOk K (Itr lo n) c H (CG lo n):=by
 refine ⟨fun c' H' i ex hi=>?_,fun c' H' i x H'' d ex hd hy=>?_,fun c' H' ex=>?_⟩
 ·have:i < n:=by simpa [CG] using hi
  exact this
 ·obtain ⟨rfl,rfl⟩:=hy
  refine ⟨rfl,?_⟩
  have hi:i < n:=by
   have:=(List.getElem?_eq_some_iff.mp hd).1
   simpa [CG] using this
  have:d = .int (lo + (i:Nat)):=by
   rw [CG,List.getElem?_map,List.getElem?_range hi] at hd
   simpa using hd.symm
  rw [this]
  exact .int _
 ·show n≤(CG lo n).length
  simp [CG]
def CW (i:Int):Bool:=decide (-(2 ^ 62)≤i) && decide (i < 2 ^ 62)
def JJ:List D→M (List D)
 | [.int j]=>fun t=>if CW j=true then some (CG 0 j.toNat,t) else none
 | _=>fail
def Q7:List D→M (List D)
 | [.int i,.int j]=>fun t=>if (CW i && CW j)=true then some (CG i (j - i).toNat,t) else none
 | _=>fail
def D9 (f:M (List D)):M (List D):=bnd f JJ
def RC (f:M (List D)):M (List D):=bnd f Q7
theorem FH {i:Int} (h:CW i=true) : -(2 ^ 62)≤i∧i < 2 ^ 62:=by
 unfold CW at h
 rw [Bool.and_eq_true] at h
 exact ⟨of_decide_eq_true h.1,of_decide_eq_true h.2⟩
theorem O0 {tg:Expr} {f:M (List D)} {p:Pos} (hg:Gl X "range") (hm:X.mg "range" = none) (ha:PA X [a] (RA X.K f)) (hs:starEach [a] X.env=[(false,eval a X.env)]:=by rfl):PI X tg (.Call (.Name "range" p) [a] [] pos) (RI X.K (D9 f)):=
 KZ (Px hg hm ha hs) fun σ H R ⟨Oo,c,t,fi,ds,t',eq,k⟩=>by
  obtain ⟨xs,t1,e1,eq⟩:=Am eq
  refine ⟨Oo,c,t,fi,xs,t1,e1,fun vs H1 c1 f1 s1 rv=>?_⟩
  unfold JJ at eq
  split at eq
  ·next j=>
   split at eq
   ·next hs=>
    cases eq
    cases rv with
    | cons r rs=>
      cases rs
      cases r
      obtain ⟨h1,h2⟩:=FH hs
      exact ⟨j,rfl,h1,h2,k _ H1 c1 f1 s1 ItOk.rng⟩
   ·cases eq
  ·cases eq
def CU (st:D→M Unit) (tst:M Bool) (elt:M D):List D→M (List D)
 | []=>ret []
 | d :: r=>bnd (st d) fun _=>bnd tst fun k=>if k=true then bnd elt fun x=>bnd (CU st tst elt r) fun xs=>ret (x :: xs) else CU st tst elt r
def Wz:Option (Option Sl)→Option Sl
 | some (some (.val d))=>some (.val d)
 | _=>none
def cenv (n:Nat) (fr:List Nat) (env:List (Option Sl)):List (Option Sl):=List.replicate n none++fr.map fun i=>Wz env[i]?
def ES (n:Nat) (fr:List Nat) (σ:L2.St):L2.St:=List.replicate n none++fr.map fun i=>(σ[i]?).join
def Cz (n:Nat) (fr:List Nat) (f:M (List D)) (st:D→M Unit) (tst:M Bool) (elt:M D):M (List D):=bnd f fun ds t=>match CU st tst elt ds ⟨cenv n fr t.env,t.S⟩ with
 | some (xs,t')=>if xs.length≤LIM then some (xs,{ t with S:=t'.S }) else none
 | none=>none
theorem Hy {n:Nat} {fr:List Nat} {env:List (Option Sl)} {j:Nat} {x:Sl} (h:(cenv n fr env)[j]?=some (some x)):∃i d,n≤j∧fr[j - n]?=some i∧env[i]?=some (some (.val d))∧x = .val d:=by
 unfold cenv at h
 by_cases hj:j < n
 ·rw [List.getElem?_append_left (by simpa using hj),List.getElem?_replicate] at h
  split at h <;> simp at h
 ·rw [List.getElem?_append_right (by simpa using hj),List.length_replicate,List.getElem?_map] at h
  cases e:fr[j - n]? with
  | none=>rw [e] at h;simp at h
  | some i=>
    rw [e] at h
    simp only [Option.map_some,Option.some.injEq] at h
    cases e2:env[i]? with
    | none=>rw [e2] at h;cases h
    | some o=>
      cases o with
      | none=>rw [e2] at h;cases h
      | some sl=>
        cases sl with
        | own _=>rw [e2] at h;cases h
        | val d=>rw [e2] at h;cases h;exact ⟨i,d,by lia,rfl,e2,rfl⟩
theorem Ip {K:PySem.W.Frag} {Oo:Addr→Prop} {c:Cf} {t:T} {σ:L2.St} {H:Hp} {n:Nat} {fr:List Nat} (f:FInv K Oo c t σ H):FInv K c.O c ⟨cenv n fr t.env,t.S⟩ (ES n fr σ) H:=by
 refine ⟨f.s,by simp [cenv,ES],fun _ z=>z,fun j d q=>?_,fun j es q=>?_,fun j _ es _ _ q _ _ _=>?_⟩
 ·obtain ⟨i,d',h0,h1,h2,h3⟩:=Hy q
  cases h3
  obtain ⟨v,h4,h5⟩:=f.val i d h2
  refine ⟨v,?_,h5⟩
  unfold ES
  rw [List.getElem?_append_right (by simpa using h0),List.length_replicate,List.getElem?_map,h1]
  simp [h4]
 ·obtain ⟨_,_,_,_,_,h⟩:=Hy q;cases h
 ·obtain ⟨_,_,_,_,_,h⟩:=Hy q;cases h
theorem RF.comp {K:PySem.W.Frag} {n:Nat} {fr:List Nat} {f:M (List D)} {st:D→M Unit} {tst:M Bool} {elt:M D} {σ:L2.St} {H:Hp} {Q:VK} (q:RF K (Cz n fr f st tst elt) σ H Q):KP (RI K f) (RG K st) (RT K tst) (RE K elt) (ES n fr) σ H Q:=by
 obtain ⟨Oo,c,t,fi,xs,t',eq,k⟩:=q
 obtain ⟨ds,t1,e1,eq⟩:=Am eq
 refine ⟨Oo,c,t,fi,ds,t1,e1,fun J H1 c1 f1 s1 it=>?_⟩
 cases e3:CU st tst elt ds ⟨cenv n fr t1.env,t1.S⟩ with
 | none=>rw [e3] at eq;cases eq
 | some p=>
   obtain ⟨ys,t3⟩:=p
   rw [e3] at eq
   dsimp only at eq
   split at eq
   case isFalse=>cases eq
   next hl=>
   cases eq
   refine ⟨fun i m acc σ' H'=>m=ds.length - i∧i≤ds.length∧∃c' t2 zs rest,FInv K c1.O c' t2 σ' H'∧Stp c1.O c1 H1 c' H'∧Reps K c' H' acc zs∧CU st tst elt (ds.drop i) t2=some (rest,t3)∧xs=zs++rest,
    ⟨_,rfl,Nat.zero_le _,c1,_,[],xs,Ip f1,.refl,.nil,by rw [List.drop_zero];exact e3,rfl⟩,?_⟩
   rintro i m acc σ' H' ⟨rfl,hi,c',t2,zs,rest,f2,s2,ra,e2,ez⟩
   have hacc:acc.length≤sizeLine:=by
    have:zs.length≤xs.length:=by rw [ez,List.length_append];exact Nat.le_add_right _ _
    rw [ra.length]
    exact Nat.le_trans this (Nat.le_trans hl Ct)
   refine ⟨hacc,?_⟩
   by_cases hlt:i < ds.length
   ·refine .inr ⟨it.go c' H' i s2.ext hlt,fun x H'' hy=>?_⟩
    obtain ⟨rfl,rx⟩:=it.yld c' H' i x H'' _ s2.ext (List.getElem?_eq_getElem hlt) hy
    rw [List.drop_eq_getElem_cons hlt] at e2
    unfold CU at e2
    obtain ⟨u,t4,e4,e2⟩:=Am e2
    obtain ⟨kb,t5,e5,e2⟩:=Am e2
    refine ⟨c1.O,c',t2,_,f2,rx,t4,e4,fun σ3 H3 c3 f3 s3=>⟨c1.O,c3,t4,f3,kb,t5,e5,fun H4 c4 f4 s4=>?_⟩⟩
    cases kb with
    | false=>
      rw [if_neg Bool.false_ne_true] at e2 ⊢
      exact ⟨ds.length - (i + 1),by lia,rfl,hlt,c4,t5,zs,rest,f4,(s2.trans s3).trans s4,ra.mono (s3.trans s4).ext,e2,ez⟩
    | true=>
      rw [if_pos rfl] at e2 ⊢
      obtain ⟨x6,t6,e6,e2⟩:=Am e2
      obtain ⟨r7,t7,e7,e2⟩:=Am e2
      cases e2
      refine ⟨c1.O,c4,t5,f4,x6,t6,e6,fun v H5 c5 f5 s5 rv=>?_⟩
      exact ⟨ds.length - (i + 1),by lia,rfl,hlt,c5,t6,zs++[x6],r7,f5,((s2.trans s3).trans s4).trans s5,(ra.mono ((s3.trans s4).trans s5).ext).append (.cons rv .nil),e7,by rw [ez,List.append_assoc];rfl⟩
   ·have hi':i=ds.length:=by lia
    subst hi'
    rw [List.drop_length] at e2
    cases e2
    refine .inl ⟨it.stop c' H' s2.ext,fun p hp _=>?_⟩
    obtain ⟨si,ext⟩:=f2.leave
    obtain ⟨f6,s6⟩:=f1.after si ⟨s2.ext.trans ext,s2.oo⟩ (fun _=>Iff.rfl)
    rw [List.append_nil] at ez
    subst ez
    exact k p acc H' _ f6 (s1.trans s6) (ra.mono ext) hp
end
end F2
namespace F2
open PySem L2 PySem.Spec PySem.SeqAt
def eq0:D→D→Option Bool
 | .non,.non=>some true
 | .bl a,.bl b=>some (a == b)
 | .int a,.int b=>some (a == b)
 | .str a,.str b=>some (a == b)
 | .bl a,.int b=>some ((if a then (1:Int) else 0) == b)
 | .int a,.bl b=>some (a == (if b then (1:Int) else 0))
 | .non,.bl _=>some false | .non,.int _=>some false | .non,.str _=>some false | .non,.lst _=>some false | .non,.tup _=>some false
 | .bl _,.non=>some false | .bl _,.str _=>some false | .bl _,.lst _=>some false | .bl _,.tup _=>some false
 | .int _,.non=>some false | .int _,.str _=>some false | .int _,.lst _=>some false | .int _,.tup _=>some false
 | .str _,.non=>some false | .str _,.bl _=>some false | .str _,.int _=>some false | .str _,.lst _=>some false | .str _,.tup _=>some false
 | .lst _,.non=>some false | .lst _,.bl _=>some false | .lst _,.int _=>some false | .lst _,.str _=>some false | .lst _,.tup _=>some false
 | .tup _,.non=>some false | .tup _,.bl _=>some false | .tup _,.int _=>some false | .tup _,.str _=>some false | .tup _,.lst _=>some false
 | _,_=>none
def CD (f:D→D→Option Bool):List D→List D→Option Bool
 | x :: xs,y :: ys=>match f x y,CD f xs ys with
   | some a,some b=>some (a && b)
   | _,_=>none
 | _,_=>some true
def eqN:Nat→D→D→Option Bool
 | 0,x,y=>eq0 x y
 | n + 1,.tup xs,.tup ys=>(CD (eqN n) xs ys).map fun b=>b && xs.length == ys.length
 | n + 1,.lst xs,.lst ys=>if xs.length=ys.length then CD (eqN n) xs ys else some false
 | _ + 1,x,y=>eq0 x y
def ej (f:D→D→Option Bool) (xs ys:List D) (j:Nat):Bool:=match xs[j]?,ys[j]? with
 | some d,some e=>(f d e).getD true
 | _,_=>true
theorem Dw {f:D→D→Option Bool}:∀{xs ys:List D} {b:Bool},CD f xs ys=some b→b=(List.range (min xs.length ys.length)).all (ej f xs ys)∧∀(j:Nat) d e,xs[j]?=some d→ys[j]?=some e→∃k,f d e=some k
 | [],ys,b,h=>by
   have h:some true=some b:=by simpa [CD] using h
   cases h
   refine ⟨by simp,fun j d e q _=>by simp at q⟩
 | x :: xs,[],b,h=>by
   have h:some true=some b:=by simpa [CD] using h
   cases h
   refine ⟨by simp,fun j d e _ q=>by simp at q⟩
 | x :: xs,y :: ys,b,h=>by
   unfold CD at h
   cases e1:f x y with
   | none=>rw [e1] at h;cases h
   | some a=>
     cases e2:CD f xs ys with
     | none=>rw [e1,e2] at h;cases h
     | some c=>
       rw [e1,e2] at h
       cases h
       obtain ⟨h1,h2⟩:=Dw e2
       refine ⟨?_,fun j d e q1 q2=>?_⟩
       ·have hm:min (x :: xs).length (y :: ys).length=min xs.length ys.length + 1:=by simp [Nat.succ_min_succ]
        rw [hm,List.range_succ_eq_map,List.all_cons,List.all_map,h1]
        have:ej f (x :: xs) (y :: ys) 0=a:=by simp [ej,e1]
        rw [this]
        rfl
       ·cases j with
        | zero=>simp at q1 q2;subst q1 q2;exact ⟨a,e1⟩
        | succ j=>exact h2 j d e (by simpa using q1) (by simpa using q2)
theorem B6 {P:Program} {w:World} {H:Hp} {h:Heap} {a:Addr} {vs:List V} (o:HOk P w H h) (e:H a=some (.lst vs)):∃its:List Value,Vals vs its∧h.IsList a its.toArray:=by
 obtain ⟨_,its,n,r,q⟩:=o a _ e
 exact ⟨its,r,_,q,rfl,n,rfl⟩
theorem Cg {P:Program} {w:World} {H:Hp} {h:Heap} {a:Addr} {vs:List V} (o:HOk P w H h) (e:H a=some (.tup vs)):∃its:List Value,Vals vs its∧h.IsTuple a its.toArray:=by
 obtain ⟨_,its,r,q⟩:=o a _ e
 exact ⟨its,r,q⟩
theorem IS {vs:List V} {its:List Value} {j:Nat} (r:Vals vs its) (h:j < its.toArray.size):∃v,vs[j]?=some v∧RelV v its.toArray[j]:=by
 have h':j < its.length:=by simpa using h
 have hl:j < vs.length:=by rw [r.length];exact h'
 obtain ⟨u,e1,e2⟩:=r.get (List.getElem?_eq_getElem hl)
 refine ⟨vs[j],List.getElem?_eq_getElem hl,?_⟩
 rw [List.getElem?_eq_getElem h'] at e1
 cases e1
 simpa using e2
theorem OW {f:D→D→Option Bool} {xs ys:List D} {b:Bool} (h:CD f xs ys=some b) (ht:∀(j:Nat) d e k,xs[j]?=some d→ys[j]?=some e→f d e=some k→k=true):b=true:=by
 obtain ⟨h1,h2⟩:=Dw h
 rw [h1,List.all_eq_true]
 intro j hj
 have hj':=List.mem_range.mp hj
 have l1:j < xs.length:=by lia
 have l2:j < ys.length:=by lia
 obtain ⟨k,ek⟩:=h2 j _ _ (List.getElem?_eq_getElem l1) (List.getElem?_eq_getElem l2)
 have:=ht j _ _ k (List.getElem?_eq_getElem l1) (List.getElem?_eq_getElem l2) ek
 unfold ej
 rw [List.getElem?_eq_getElem l1,List.getElem?_eq_getElem l2]
 simp [ek,this]
theorem Ji {K:PySem.W.Frag} {c:Cf} {H:Hp}:∀(n:Nat) {v:V} {d e:D} {b:Bool},Rep K c H v d→Rep K c H v e→eqN n d e=some b→b=true
 | n,v,d,e,b,rd,re,q=>by
   have items:∀{m:Nat} {vs:List V} {ds es:List D} {b':Bool},n=m + 1→Reps K c H vs ds→Reps K c H vs es→CD (eqN m) ds es=some b'→b'=true:=fun {m vs ds es b'} hm r1 r2 e'=>
    OW e' fun j d e k q1 q2 ek=>by
     obtain ⟨v,g1,g2⟩:=r1.at q1
     exact Ji m g2 (r2.get g1 q2) ek
   cases rd with
   | non=>cases re;cases n <;> cases q <;> rfl
   | bl k=>cases re;cases n <;> cases q <;> simp
   | int k=>cases re;cases n <;> cases q <;> simp
   | str k=>cases re;cases n <;> cases q <;> simp
   | ty k=>cases re;cases n <;> cases q
   | lst h1 h2 h3=>
     cases re with
     | lst g1 g2 g3=>
       rw [h1] at g1;cases g1
       cases n with
       | zero=>cases q
       | succ m=>
         have hl:_=_:=h3.length.symm.trans g3.length
         have q:(if _ then CD (eqN m) _ _ else some false)=some b:=q
         rw [if_pos hl] at q
         exact items rfl h3 g3 q
     | tup g1 g2 g3=>rw [h1] at g1;cases g1
     | _=>cases n <;> cases q
   | tup h1 h2 h3=>
     cases re with
     | tup g1 g2 g3=>
       rw [h1] at g1;cases g1
       cases n with
       | zero=>cases q
       | succ m=>
         have hl:_=_:=h3.length.symm.trans g3.length
         have q:(CD (eqN m) _ _).map (fun b=>b && _)=some b:=q
         obtain ⟨b',e1,e2⟩:=Option.map_eq_some_iff.mp q
         rw [←e2,items rfl h3 g3 e1,hl]
         simp
     | lst g1 g2 g3=>rw [h1] at g1;cases g1
     | _=>cases n <;> cases q
   | _=>cases re <;> cases n <;> cases q
theorem Jh {P:Program} {w:World} {K:PySem.W.Frag} {c:Cf} {H:Hp} {s:Shared} (hok:HOk P w H s.heap):∀(n:Nat) {A:Around} {x y:V} {u v:Value} {dx dy:D} {b:Bool},RelV x u→RelV y v→Rep K c H x dx→Rep K c H y dy→eqN n dx dy=some b→A.units + n < cLine→
 RcAt A s u v b∧(EqAt A s u v b)
 | n,A,x,y,u,v,dx,dy,b,ru,rv,rx,ry,e,hu=>by
   have items:∀{m:Nat} {vs ws:List V} {is js:List Value} {ds es:List D} {b':Bool},n=m + 1→Vals vs is→Vals ws js→Reps K c H vs ds→Reps K c H ws es→CD (eqN m) ds es=some b'→
    ∀j (h1:j < is.toArray.size) (h2:j < js.toArray.size),EqAt A.in1 s is.toArray[j] js.toArray[j] (ej (eqN m) ds es j):=fun {m vs ws is js ds es b'} hm r1 r2 q1 q2 e' j h1 h2=>by
    obtain ⟨v1,a1,a2⟩:=IS r1 h1
    obtain ⟨v2,b1,b2⟩:=IS r2 h2
    obtain ⟨l1,g1⟩:=List.getElem?_eq_some_iff.mp a1
    obtain ⟨l2,g2⟩:=List.getElem?_eq_some_iff.mp b1
    have k1:ds[j]?=some (ds[j]'(by rw [←q1.length];exact l1)):=List.getElem?_eq_getElem _
    have k2:es[j]?=some (es[j]'(by rw [←q2.length];exact l2)):=List.getElem?_eq_getElem _
    obtain ⟨kk,ek⟩:=(Dw e').2 j _ _ k1 k2
    have:ej (eqN m) ds es j=kk:=by unfold ej;rw [k1,k2];simp [ek]
    rw [this]
    have hu':A.in1.units + m < cLine:=by
     have:A.in1.units=A.units + 1:=by first | rfl | exact Around.units_in1 _ | simp [Around.in1,Around.units]
     lia
    exact (Jh hok m a2 b2 (q1.get a1 k1) (q2.get b1 k2) ek hu').2
   have hu0:A.units < cLine:=by lia
   have conc:∀{p q:Addr} {k:Bool},p≠q→RcAt A s (.ref p) (.ref q) k→RcAt A s (.ref p) (.ref q) k∧EqAt A s (.ref p) (.ref q) k:=fun hn h=>⟨h,EqAt.of_refs hn h⟩
   cases rx with
   | non=>
     cases ru
     cases ry with
     | non=>cases rv;cases n <;> cases e <;> exact ⟨RcAt.none_none,EqAt.same _⟩
     | bl k=>cases rv;cases n <;> cases e <;> exact ⟨RcAt.none_bool _,EqAt.none_bool _⟩
     | int k=>obtain ⟨t,rfl⟩:=rv;cases n <;> cases e <;> exact ⟨RcAt.none_int _ _,EqAt.none_int _ _⟩
     | str k=>obtain ⟨t,rfl⟩:=rv;cases n <;> cases e <;> exact ⟨RcAt.none_str _ _,EqAt.none_str _ _⟩
     | lst h1 h2 h3=>cases rv;obtain ⟨its,r,l⟩:=B6 hok h1;cases n <;> cases e <;> exact ⟨RcAt.none_list l hu0,EqAt.none_list l hu0⟩
     | tup h1 h2 h3=>cases rv;obtain ⟨its,r,l⟩:=Cg hok h1;cases n <;> cases e <;> exact ⟨RcAt.none_tuple l hu0,EqAt.none_tuple l hu0⟩
     | _=>cases n <;> cases e
   | bl k'=>
     cases ru
     cases ry with
     | non=>cases rv;cases n <;> cases e <;> exact ⟨RcAt.bool_none _,EqAt.bool_none _⟩
     | bl k=>cases rv;cases n <;> cases e <;> exact ⟨RcAt.bool_bool _ _,EqAt.bool_bool _ _⟩
     | int k=>obtain ⟨t,rfl⟩:=rv;cases n <;> cases e <;> exact ⟨RcAt.bool_int _ _ _,EqAt.bool_int _ _ _⟩
     | str k=>obtain ⟨t,rfl⟩:=rv;cases n <;> cases e <;> exact ⟨RcAt.bool_str _ _ _,EqAt.bool_str _ _ _⟩
     | lst h1 h2 h3=>cases rv;obtain ⟨its,r,l⟩:=B6 hok h1;cases n <;> cases e <;> exact ⟨RcAt.bool_list _ l hu0,EqAt.bool_list _ l hu0⟩
     | tup h1 h2 h3=>cases rv;obtain ⟨its,r,l⟩:=Cg hok h1;cases n <;> cases e <;> exact ⟨RcAt.bool_tuple _ l hu0,EqAt.bool_tuple _ l hu0⟩
     | _=>cases n <;> cases e
   | int k'=>
     obtain ⟨t',rfl⟩:=ru
     cases ry with
     | non=>cases rv;cases n <;> cases e <;> exact ⟨RcAt.int_none _ _,EqAt.int_none _ _⟩
     | bl k=>cases rv;cases n <;> cases e <;> exact ⟨RcAt.int_bool _ _ _,EqAt.int_bool _ _ _⟩
     | int k=>obtain ⟨t,rfl⟩:=rv;cases n <;> cases e <;> exact ⟨RcAt.int_int _ _ _ _,EqAt.int_int _ _ _ _⟩
     | str k=>obtain ⟨t,rfl⟩:=rv;cases n <;> cases e <;> exact ⟨RcAt.int_str _ _ _ _,EqAt.int_str _ _ _ _⟩
     | lst h1 h2 h3=>cases rv;obtain ⟨its,r,l⟩:=B6 hok h1;cases n <;> cases e <;> exact ⟨RcAt.int_list _ _ l hu0,EqAt.int_list _ _ l hu0⟩
     | tup h1 h2 h3=>cases rv;obtain ⟨its,r,l⟩:=Cg hok h1;cases n <;> cases e <;> exact ⟨RcAt.int_tuple _ _ l hu0,EqAt.int_tuple _ _ l hu0⟩
     | _=>cases n <;> cases e
   | str k'=>
     obtain ⟨t',rfl⟩:=ru
     cases ry with
     | non=>cases rv;cases n <;> cases e <;> exact ⟨RcAt.str_none _ _,EqAt.str_none _ _⟩
     | bl k=>cases rv;cases n <;> cases e <;> exact ⟨RcAt.str_bool _ _ _,EqAt.str_bool _ _ _⟩
     | int k=>obtain ⟨t,rfl⟩:=rv;cases n <;> cases e <;> exact ⟨RcAt.str_int _ _ _ _,EqAt.str_int _ _ _ _⟩
     | str k=>obtain ⟨t,rfl⟩:=rv;cases n <;> cases e <;> exact ⟨RcAt.str_str _ _ _ _,EqAt.str_str _ _ _ _⟩
     | lst h1 h2 h3=>cases rv;obtain ⟨its,r,l⟩:=B6 hok h1;cases n <;> cases e <;> exact ⟨RcAt.str_list _ _ l hu0,EqAt.str_list _ _ l hu0⟩
     | tup h1 h2 h3=>cases rv;obtain ⟨its,r,l⟩:=Cg hok h1;cases n <;> cases e <;> exact ⟨RcAt.str_tuple _ _ l hu0,EqAt.str_tuple _ _ l hu0⟩
     | _=>cases n <;> cases e
   | @lst p vs ds g1 g2 g3=>
     cases ru
     obtain ⟨is,r1,l1⟩:=B6 hok g1
     cases ry with
     | non=>cases rv;cases n <;> cases e <;> exact ⟨RcAt.list_none l1 hu0,EqAt.list_none l1 hu0⟩
     | bl k=>cases rv;cases n <;> cases e <;> exact ⟨RcAt.list_bool _ l1 hu0,EqAt.list_bool _ l1 hu0⟩
     | int k=>obtain ⟨t,rfl⟩:=rv;cases n <;> cases e <;> exact ⟨RcAt.list_int _ _ l1 hu0,EqAt.list_int _ _ l1 hu0⟩
     | str k=>obtain ⟨t,rfl⟩:=rv;cases n <;> cases e <;> exact ⟨RcAt.list_str _ _ l1 hu0,EqAt.list_str _ _ l1 hu0⟩
     | @tup q ws es h1 h2 h3=>cases rv;obtain ⟨js,r2,l2⟩:=Cg hok h1;cases n <;> cases e <;> exact ⟨RcAt.list_tuple l1 l2 hu0,EqAt.list_tuple l1 l2 hu0⟩
     | @lst q ws es h1 h2 h3=>
       cases rv
       obtain ⟨js,r2,l2⟩:=B6 hok h1
       cases n with
       | zero=>cases e
       | succ m=>
         have hs1:is.toArray.size=ds.length:=by rw [←g3.length,r1.length];simp
         have hs2:js.toArray.size=es.length:=by rw [←h3.length,r2.length];simp
         have e:(if ds.length=es.length then CD (eqN m) ds es else some false)=some b:=e
         by_cases hl:ds.length=es.length
         ·rw [if_pos hl] at e
          have hsz:is.toArray.size=js.toArray.size:=by rw [hs1,hs2,hl]
          have rc:=RcAt.lists l1 l2 hsz hu0 (items rfl r1 r2 g3 h3 e)
          have eb:(List.range is.toArray.size).all (ej (eqN m) ds es)=b:=by rw [(Dw e).1,hs1,←hl,Nat.min_self]
          rw [eb] at rc
          by_cases hpq:p=q
          ·refine ⟨rc,?_⟩
           subst hpq
           have:=Ji (m + 1) (Rep.lst g1 g2 g3) (Rep.lst h1 h2 h3) (by show (if ds.length=es.length then CD (eqN m) ds es else some false)=some b;rw [if_pos hl];exact e)
           rw [this]
           exact EqAt.same _
          ·exact conc hpq rc
         ·rw [if_neg hl] at e
          cases e
          have hsz:(is.toArray.size != js.toArray.size)=true:=by rw [hs1,hs2];simpa using hl
          refine conc (fun z=>hl ?_) (RcAt.lists_lengths l1 l2 hsz hu0)
          subst z
          rw [g1] at h1;cases h1
          rw [←g3.length,←h3.length]
     | _=>cases n <;> cases e
   | @tup p vs ds g1 g2 g3=>
     cases ru
     obtain ⟨is,r1,l1⟩:=Cg hok g1
     cases ry with
     | non=>cases rv;cases n <;> cases e <;> exact ⟨RcAt.tuple_none l1 hu0,EqAt.tuple_none l1 hu0⟩
     | bl k=>cases rv;cases n <;> cases e <;> exact ⟨RcAt.tuple_bool _ l1 hu0,EqAt.tuple_bool _ l1 hu0⟩
     | int k=>obtain ⟨t,rfl⟩:=rv;cases n <;> cases e <;> exact ⟨RcAt.tuple_int _ _ l1 hu0,EqAt.tuple_int _ _ l1 hu0⟩
     | str k=>obtain ⟨t,rfl⟩:=rv;cases n <;> cases e <;> exact ⟨RcAt.tuple_str _ _ l1 hu0,EqAt.tuple_str _ _ l1 hu0⟩
     | @lst q ws es h1 h2 h3=>cases rv;obtain ⟨js,r2,l2⟩:=B6 hok h1;cases n <;> cases e <;> exact ⟨RcAt.tuple_list l1 l2 hu0,EqAt.tuple_list l1 l2 hu0⟩
     | @tup q ws es h1 h2 h3=>
       cases rv
       obtain ⟨js,r2,l2⟩:=Cg hok h1
       cases n with
       | zero=>cases e
       | succ m=>
         have hs1:is.toArray.size=ds.length:=by rw [←g3.length,r1.length];simp
         have hs2:js.toArray.size=es.length:=by rw [←h3.length,r2.length];simp
         have e0:=e
         have e:(CD (eqN m) ds es).map (fun b=>b && ds.length == es.length)=some b:=e
         obtain ⟨b',e1,e2⟩:=Option.map_eq_some_iff.mp e
         have rc:=RcAt.tuples l1 l2 hu0 (items rfl r1 r2 g3 h3 e1)
         have eb:((List.range (min is.toArray.size js.toArray.size)).all (ej (eqN m) ds es) && is.toArray.size == js.toArray.size)=b:=by rw [hs1,hs2,←(Dw e1).1];exact e2
         rw [eb] at rc
         by_cases hpq:p=q
         ·refine ⟨rc,?_⟩
          subst hpq
          have:=Ji (m + 1) (Rep.tup g1 g2 g3) (Rep.tup h1 h2 h3) e0
          rw [this]
          exact EqAt.same _
         ·exact conc hpq rc
     | _=>cases n <;> cases e
   | _=>cases ry <;> cases n <;> cases e
theorem Tb {P:Program} {w:World} {K:PySem.W.Frag} {c:Cf} {H:Hp} {s:Shared} (hok:HOk P w H s.heap) (n:Nat) {A:Around} {x y:V} {u v:Value} {dx dy:D} {b:Bool} (ru:RelV x u) (rv:RelV y v) (rx:Rep K c H x dx) (ry:Rep K c H y dy) (e:eqN n dx dy=some b) (hu:A.units + n < cLine) :
 RcNeAt A s u v (!b):=by
 have items:∀{m:Nat} {vs ws:List V} {is js:List Value} {ds es:List D} {b':Bool},n=m + 1→Vals vs is→Vals ws js→Reps K c H vs ds→Reps K c H ws es→CD (eqN m) ds es=some b'→
  ∀j (h1:j < is.toArray.size) (h2:j < js.toArray.size),EqAt A.in1 s is.toArray[j] js.toArray[j] (ej (eqN m) ds es j):=fun {m vs ws is js ds es b'} hm r1 r2 q1 q2 e' j h1 h2=>by
  obtain ⟨v1,a1,a2⟩:=IS r1 h1
  obtain ⟨v2,b1,b2⟩:=IS r2 h2
  obtain ⟨l1,g1⟩:=List.getElem?_eq_some_iff.mp a1
  obtain ⟨l2,g2⟩:=List.getElem?_eq_some_iff.mp b1
  have k1:ds[j]?=some (ds[j]'(by rw [←q1.length];exact l1)):=List.getElem?_eq_getElem _
  have k2:es[j]?=some (es[j]'(by rw [←q2.length];exact l2)):=List.getElem?_eq_getElem _
  obtain ⟨kk,ek⟩:=(Dw e').2 j _ _ k1 k2
  have:ej (eqN m) ds es j=kk:=by unfold ej;rw [k1,k2];simp [ek]
  rw [this]
  have hu':A.in1.units + m < cLine:=by
   have:A.in1.units=A.units + 1:=rfl
   lia
  exact (Jh hok m a2 b2 (q1.get a1 k1) (q2.get b1 k2) ek hu').2
 have hu0:A.units < cLine:=by lia
 cases rx with
 | non=>
   cases ru
   cases ry with
   | non=>cases rv;cases n <;> cases e <;> exact RcNeAt.none_none
   | bl k=>cases rv;cases n <;> cases e <;> exact RcNeAt.none_bool _
   | int k=>obtain ⟨t,rfl⟩:=rv;cases n <;> cases e <;> exact RcNeAt.none_int _ _
   | str k=>obtain ⟨t,rfl⟩:=rv;cases n <;> cases e <;> exact RcNeAt.none_str _ _
   | lst h1 h2 h3=>cases rv;obtain ⟨its,r,l⟩:=B6 hok h1;cases n <;> cases e <;> exact RcNeAt.none_list l hu0
   | tup h1 h2 h3=>cases rv;obtain ⟨its,r,l⟩:=Cg hok h1;cases n <;> cases e <;> exact RcNeAt.none_tuple l hu0
   | _=>cases n <;> cases e
 | bl k'=>
   cases ru
   cases ry with
   | non=>cases rv;cases n <;> cases e <;> exact RcNeAt.bool_none _
   | bl k=>cases rv;cases n <;> cases e <;> exact RcNeAt.bool_bool _ _
   | int k=>obtain ⟨t,rfl⟩:=rv;cases n <;> cases e <;> exact RcNeAt.bool_int _ _ _
   | str k=>obtain ⟨t,rfl⟩:=rv;cases n <;> cases e <;> exact RcNeAt.bool_str _ _ _
   | lst h1 h2 h3=>cases rv;obtain ⟨its,r,l⟩:=B6 hok h1;cases n <;> cases e <;> exact RcNeAt.bool_list _ l hu0
   | tup h1 h2 h3=>cases rv;obtain ⟨its,r,l⟩:=Cg hok h1;cases n <;> cases e <;> exact RcNeAt.bool_tuple _ l hu0
   | _=>cases n <;> cases e
 | int k'=>
   obtain ⟨t',rfl⟩:=ru
   cases ry with
   | non=>cases rv;cases n <;> cases e <;> exact RcNeAt.int_none _ _
   | bl k=>cases rv;cases n <;> cases e <;> exact RcNeAt.int_bool _ _ _
   | int k=>obtain ⟨t,rfl⟩:=rv;cases n <;> cases e <;> exact RcNeAt.int_int _ _ _ _
   | str k=>obtain ⟨t,rfl⟩:=rv;cases n <;> cases e <;> exact RcNeAt.int_str _ _ _ _
   | lst h1 h2 h3=>cases rv;obtain ⟨its,r,l⟩:=B6 hok h1;cases n <;> cases e <;> exact RcNeAt.int_list _ _ l hu0
   | tup h1 h2 h3=>cases rv;obtain ⟨its,r,l⟩:=Cg hok h1;cases n <;> cases e <;> exact RcNeAt.int_tuple _ _ l hu0
   | _=>cases n <;> cases e
 | str k'=>
   obtain ⟨t',rfl⟩:=ru
   cases ry with
   | non=>cases rv;cases n <;> cases e <;> exact RcNeAt.str_none _ _
   | bl k=>cases rv;cases n <;> cases e <;> exact RcNeAt.str_bool _ _ _
   | int k=>obtain ⟨t,rfl⟩:=rv;cases n <;> cases e <;> exact RcNeAt.str_int _ _ _ _
   | str k=>obtain ⟨t,rfl⟩:=rv;cases n <;> cases e <;> exact RcNeAt.str_str _ _ _ _
   | lst h1 h2 h3=>cases rv;obtain ⟨its,r,l⟩:=B6 hok h1;cases n <;> cases e <;> exact RcNeAt.str_list _ _ l hu0
   | tup h1 h2 h3=>cases rv;obtain ⟨its,r,l⟩:=Cg hok h1;cases n <;> cases e <;> exact RcNeAt.str_tuple _ _ l hu0
   | _=>cases n <;> cases e
 | @lst p vs ds g1 g2 g3=>
   cases ru
   obtain ⟨is,r1,l1⟩:=B6 hok g1
   cases ry with
   | non=>cases rv;cases n <;> cases e <;> exact RcNeAt.list_none l1 hu0
   | bl k=>cases rv;cases n <;> cases e <;> exact RcNeAt.list_bool _ l1 hu0
   | int k=>obtain ⟨t,rfl⟩:=rv;cases n <;> cases e <;> exact RcNeAt.list_int _ _ l1 hu0
   | str k=>obtain ⟨t,rfl⟩:=rv;cases n <;> cases e <;> exact RcNeAt.list_str _ _ l1 hu0
   | @tup q ws es h1 h2 h3=>cases rv;obtain ⟨js,r2,l2⟩:=Cg hok h1;cases n <;> cases e <;> exact RcNeAt.list_tuple l1 l2 hu0
   | @lst q ws es h1 h2 h3=>
     cases rv
     obtain ⟨js,r2,l2⟩:=B6 hok h1
     cases n with
     | zero=>cases e
     | succ m=>
       have hs1:is.toArray.size=ds.length:=by rw [←g3.length,r1.length];simp
       have hs2:js.toArray.size=es.length:=by rw [←h3.length,r2.length];simp
       have e:(if ds.length=es.length then CD (eqN m) ds es else some false)=some b:=e
       by_cases hl:ds.length=es.length
       ·rw [if_pos hl] at e
        have hsz:is.toArray.size=js.toArray.size:=by rw [hs1,hs2,hl]
        have rc:=RcNeAt.lists l1 l2 hsz hu0 (items rfl r1 r2 g3 h3 e)
        have eb:(List.range is.toArray.size).all (ej (eqN m) ds es)=b:=by rw [(Dw e).1,hs1,←hl,Nat.min_self]
        rw [eb] at rc
        exact rc
       ·rw [if_neg hl] at e
        cases e
        exact RcNeAt.lists_lengths l1 l2 (by rw [hs1,hs2];simpa using hl) hu0
   | _=>cases n <;> cases e
 | @tup p vs ds g1 g2 g3=>
   cases ru
   obtain ⟨is,r1,l1⟩:=Cg hok g1
   cases ry with
   | non=>cases rv;cases n <;> cases e <;> exact RcNeAt.tuple_none l1 hu0
   | bl k=>cases rv;cases n <;> cases e <;> exact RcNeAt.tuple_bool _ l1 hu0
   | int k=>obtain ⟨t,rfl⟩:=rv;cases n <;> cases e <;> exact RcNeAt.tuple_int _ _ l1 hu0
   | str k=>obtain ⟨t,rfl⟩:=rv;cases n <;> cases e <;> exact RcNeAt.tuple_str _ _ l1 hu0
   | @lst q ws es h1 h2 h3=>cases rv;obtain ⟨js,r2,l2⟩:=B6 hok h1;cases n <;> cases e <;> exact RcNeAt.tuple_list l1 l2 hu0
   | @tup q ws es h1 h2 h3=>
     cases rv
     obtain ⟨js,r2,l2⟩:=Cg hok h1
     cases n with
     | zero=>cases e
     | succ m=>
       have hs1:is.toArray.size=ds.length:=by rw [←g3.length,r1.length];simp
       have hs2:js.toArray.size=es.length:=by rw [←h3.length,r2.length];simp
       have e:(CD (eqN m) ds es).map (fun b=>b && ds.length == es.length)=some b:=e
       obtain ⟨b',e1,e2⟩:=Option.map_eq_some_iff.mp e
       have rc:=RcNeAt.tuples l1 l2 hu0 (items rfl r1 r2 g3 h3 e1)
       have eb:((List.range (min is.toArray.size js.toArray.size)).all (ej (eqN m) ds es) && is.toArray.size == js.toArray.size)=b:=by rw [hs1,hs2,←(Dw e1).1];exact e2
       rw [eb] at rc
       exact rc
   | _=>cases n <;> cases e
 | _=>cases ry <;> cases n <;> cases e
def EQD:Nat:=40
def neD (x y:D):M D:=fun t=>(eqN EQD x y).map fun b=>(.bl (!b),t)
def Of (K:PySem.W.Frag) (g:Bool→Bool):R2:=fun x y H Q=>∃c dx dy b,Rep K c H x dx∧Rep K c H y dy∧eqN EQD dx dy=some b∧Q (.bl (g b)) H
theorem Bx {X:Cx} (hu:X.A.units + 64 < cLine):OpR X (compareOp .Eq) (Of X.K id):=by
 intro pins s σ H x y v u Q I rx ry h
 obtain ⟨c,dx,dy,b,q1,q2,e,q⟩:=h
 have hu':X.A.units + EQD < cLine:=by unfold EQD;lia
 exact (Jh I.hok EQD rx ry q1 q2 e hu').1 X.prog X.w _ _ ⟨.bl b,H,I,rfl,q⟩
theorem Dg {X:Cx} (hu:X.A.units + 64 < cLine):OpR X (compareOp .NotEq) (Of X.K (!·)):=by
 intro pins s σ H x y v u Q I rx ry h
 obtain ⟨c,dx,dy,b,q1,q2,e,q⟩:=h
 have hu':X.A.units + EQD < cLine:=by unfold EQD;lia
 exact Tb I.hok EQD rx ry q1 q2 e hu' X.prog X.w _ _ ⟨.bl (!b),H,I,rfl,q⟩
end F2
set_option maxHeartbeats 4000000
namespace F2
open PySem L2 PySem.Spec
section
variable {K:PySem.W.Frag}
def i2 (g:Int→Int→D):D→D→M D
 | .int i,.int j=>ret (g i j)
 | _,_=>fail
theorem UM {g:Int→Int→D} {x y:D} {t:T} {z:D×T} (h:i2 g x y t=some z):∃i j,x = .int i∧y = .int j∧z=(g i j,t):=by
 cases x with
 | int i=>cases y with
   | int j=>cases h;exact ⟨i,j,rfl,rfl,rfl⟩
   | _=>cases h
 | _=>cases h
theorem VF {gV:Int→Int→V} {g:Int→Int→D} (hr:∀i j c H,Rep K c H (gV i j) (g i j)):B0 K (rI0 gV) (i2 g):=fun {Oo c t σ H x y dx dy r t' Q} f rx ry eq k=>by
 obtain ⟨i,j,rfl,rfl,z⟩:=UM eq
 cases z
 cases rx
 cases ry
 exact ⟨i,j,rfl,rfl,k _ H c f .refl (hr i j c H)⟩
def i2C (C:Int→Int→Bool) (g:Int→Int→D):D→D→M D
 | .int i,.int j=>fun t=>if C i j=true then some (g i j,t) else none
 | _,_=>fail
theorem SO {C:Int→Int→Bool} {g:Int→Int→D} {x y:D} {t:T} {z:D×T} (h:i2C C g x y t=some z):∃i j,x = .int i∧y = .int j∧C i j=true∧z=(g i j,t):=by
 cases x with
 | int i=>cases y with
   | int j=>
     unfold i2C at h
     dsimp only at h
     by_cases hc:C i j=true
     ·rw [if_pos hc] at h;cases h;exact ⟨i,j,rfl,rfl,hc,rfl⟩
     ·rw [if_neg hc] at h;cases h
   | _=>cases h
 | _=>cases h
theorem Hk {P:Int→Int→Prop} {C:Int→Int→Bool} {gV:Int→Int→V} {g:Int→Int→D} (hP:∀i j,C i j=true→P i j) (hr:∀i j c H,Rep K c H (gV i j) (g i j)):B0 K (rI P gV) (i2C C g):=fun {Oo c t σ H x y dx dy r t' Q} f rx ry eq k=>by
 obtain ⟨i,j,rfl,rfl,hc,z⟩:=SO eq
 cases z
 cases rx
 cases ry
 exact ⟨i,j,rfl,rfl,hP i j hc,k _ H c f .refl (hr i j c H)⟩
def Ew:=i2 fun i j=>.int (i - j)
def NR (_ j:Int):Bool:=decide (0 < j) && decide (j < 1073741824)
def RD:=i2C NR fun i j=>.int (i / j)
def FR:=i2C (fun _ j=>decide (0 < j)) fun i j=>.int (i % j)
def KN (i j:Int):Bool:=decide (0≤j) && decide (j≤1000000) && decide (i.natAbs < 2 ^ 64)
def HN:=i2C KN fun i j=>.int (i ^ j.toNat)
def Gp (i j:Int):Bool:=(decide (-(2 ^ 64) < i) && decide (i < 2 ^ 64)) || (decide (-(2 ^ 64) < j) && decide (j < 2 ^ 64))
theorem DK:B0 K (rI0 fun i j=>.int (i - j)) Ew:=VF fun i j _ _=>.int _
theorem E9:B0 K (rI (fun _ j=>0 < j) fun i j=>.int (i % j)) FR:=Hk (fun i j h=>of_decide_eq_true h) fun i j _ _=>.int _
theorem Hl:B0 K (rI Uo fun i j=>.int (i ^ j.toNat)) HN:=Hk (fun i j h=>by
 unfold KN at h;rw [Bool.and_eq_true,Bool.and_eq_true] at h;exact ⟨of_decide_eq_true h.1.1,of_decide_eq_true h.1.2,of_decide_eq_true h.2⟩) fun i j _ _=>.int _
theorem Pm {i j:Int} (h:Gp i j=true):CMul i j:=by
 unfold Gp at h
 rw [Bool.or_eq_true,Bool.and_eq_true,Bool.and_eq_true] at h
 rcases h with h | h
 ·exact .inl ⟨of_decide_eq_true h.1,of_decide_eq_true h.2⟩
 ·exact .inr ⟨of_decide_eq_true h.1,of_decide_eq_true h.2⟩
def LH:D→M D
 | .int i=>ret (.int (-i))
 | _=>fail
theorem Nv:Ur K (rU fun i=>.int (-i)) LH:=fun {Oo c t σ H x dx r t' Q} f rx eq k=>by
 cases rx with
 | int i=>cases eq;exact ⟨i,rfl,k _ H c f .refl (.int _)⟩
 | _=>cases eq
def Ql:D→D→M D
 | .int i,.int j=>ret (.int (i + j))
 | .str x,.str y=>lim (x.length + y.length) (.str (x++y))
 | .lst xs,.lst ys=>lim (xs.length + ys.length) (.lst (xs++ys))
 | .tup xs,.tup ys=>fun t=>if xs.isEmpty=false∧xs.length + ys.length≤LIM then some (.tup (xs++ys),t) else none
 | _,_=>fail
def TL:R2:=fun x y H Q=>∃i j,x = .str i∧y = .str j∧i.length + j.length≤sizeLine∧Q (.str (i++j)) H
def Oe (K:PySem.W.Frag):R2:=fun x y H Q=>rI0 (fun i j=>.int (i + j)) x y H Q∨(TL x y H Q∨(Vm x y H Q∨R3 K x y H Q))
theorem op_add4 {X:Cx}:OpR X (binaryOp .Add) (Oe X.K):=op_add.or (op_add_str.or (op_cat.or Tk))
theorem TU:B0 K (Oe K) Ql:=fun {Oo c t σ H x y dx dy r t' Q} f rx ry eq k=>by
 cases rx with
 | int i=>
   cases ry with
   | int j=>cases eq;exact .inl ⟨i,j,rfl,rfl,k _ H c f .refl (.int _)⟩
   | _=>cases eq
 | str i=>
   cases ry with
   | str j=>
     obtain ⟨h,z⟩:=Eu eq
     cases z
     exact .inr (.inl ⟨i,j,rfl,rfl,Nat.le_trans h Ct,k _ H c f .refl (.str _)⟩)
   | _=>cases eq
 | @lst a vs ds h1 h2 h3=>
   cases ry with
   | @lst b ws es g1 g2 g3=>
     obtain ⟨h,z⟩:=Eu eq
     cases z
     refine .inr (.inr (.inl ⟨a,b,vs,ws,rfl,rfl,h1,g1,?_,fun p hp=>?_⟩))
     ·rw [h3.length,g3.length];exact Nat.le_trans h Ct
     ·exact k _ _ c (f.laid hp) (f.stp_laid hp) (.lst AN (f.s.free hp) ((h3.append g3).mono (Ext.laid f.s hp)))
   | _=>cases eq
 | @tup a vs ds h1 h2 h3=>
   cases ry with
   | @tup b ws es g1 g2 g3=>
     unfold Ql at eq
     dsimp only at eq
     split at eq
     ·next h=>
      cases eq
      have hne:vs≠[]:=fun z=>by
       have:=h3.length
       rw [z] at this
       have h0:ds.length=0:=this.symm
       have:ds=[]:=List.length_eq_zero_iff.mp h0
       rw [this] at h
       simp at h
      refine .inr (.inr (.inr ⟨a,b,vs,ws,rfl,rfl,SqT.of h1,SqT.of g1,hne,?_,fun z=>?_,fun z p hp=>?_⟩))
      ·rw [h3.length,g3.length];exact Nat.le_trans h.2 Ct
      ·subst z
       have:es=[]:=List.length_eq_zero_iff.mp g3.length.symm
       subst this
       rw [List.append_nil] at k
       exact k _ H c f .refl (.tup h1 h2 h3)
      ·exact k _ _ c (f.laid hp) (f.stp_laid hp) (.tup AN (f.s.free hp) ((h3.append g3).mono (Ext.laid f.s hp)))
     ·cases eq
   | _=>cases eq
 | _=>cases eq
def Uz:D→D→M (List D)
 | .lst xs,.lst ys=>lim (xs.length + ys.length) (xs++ys)
 | _,_=>fail
def isC:D→D→M D
 | x,.non=>fun t=>some (.bl (match x with | .non=>true | _=>false),t)
 | x,.bl b=>fun t=>some (.bl (match x with | .bl c=>c == b | _=>false),t)
 | _,_=>fail
def O8 (x y:D):M D:=bnd (isC x y) fun d=>match d with | .bl b=>ret (.bl (!b)) | _=>fail
def rIs (g:Bool→Bool):R2:=fun x y H Q=>(y = .non∨∃b,y = .bl b)∧Q (.bl (g (decide (x=y)))) H
theorem Ss {x y:V} {v u:Value} (rx:RelV x v) (ry:RelV y u) (hy:y = .non∨∃b,y = .bl b):plainIs v u=true∧(v == u)=decide (x=y):=by
 rcases hy with rfl | ⟨b,rfl⟩
 ·cases ry
  cases x with
  | non=>cases rx;exact ⟨rfl,by simp⟩
  | bl _=>cases rx;exact ⟨rfl,by simp⟩
  | int _=>obtain ⟨t,rfl⟩:=rx;exact ⟨rfl,by simp⟩
  | str _=>obtain ⟨t,rfl⟩:=rx;exact ⟨rfl,by simp⟩
  | byt _=>obtain ⟨t,rfl⟩:=rx;exact ⟨rfl,by simp⟩
  | flt _=>obtain ⟨t,rfl⟩:=rx;exact ⟨rfl,by simp⟩
  | ref _=>cases rx;exact ⟨rfl,by simp⟩
  | ty _=>cases rx;exact ⟨rfl,by simp⟩
 ·cases ry
  cases x with
  | non=>cases rx;exact ⟨rfl,by simp⟩
  | bl c=>cases rx;exact ⟨rfl,by simp;cases c <;> cases b <;> rfl⟩
  | int _=>obtain ⟨t,rfl⟩:=rx;exact ⟨rfl,by simp⟩
  | str _=>obtain ⟨t,rfl⟩:=rx;exact ⟨rfl,by simp⟩
  | byt _=>obtain ⟨t,rfl⟩:=rx;exact ⟨rfl,by simp⟩
  | flt _=>obtain ⟨t,rfl⟩:=rx;exact ⟨rfl,by simp⟩
  | ref _=>cases rx;exact ⟨rfl,by simp⟩
  | ty _=>cases rx;exact ⟨rfl,by simp⟩
theorem U5 {X:Cx}:OpR X (compareOp .Is) (rIs id):=by
 intro pins s σ H x y v u Q I rx ry h
 obtain ⟨hy,q⟩:=h
 obtain ⟨h1,h2⟩:=Ss rx ry hy
 exact wpAny_is_plain h1 ⟨.bl _,H,I,by rw [h2];rfl,q⟩
theorem SR {c:Cf} {H:Hp} {x y:V} {dx dy:D} {t:T} {z:D×T} (rx:Rep K c H x dx) (ry:Rep K c H y dy) (eq:isC dx dy t=some z):(y = .non∨∃b,y = .bl b)∧z=(.bl (decide (x=y)),t):=by
 cases ry with
 | non=>
   refine ⟨.inl rfl,?_⟩
   cases rx <;> (cases eq;simp)
 | bl b=>
   refine ⟨.inr ⟨b,rfl⟩,?_⟩
   cases rx <;> (cases eq;simp)
   next a=>cases a <;> cases b <;> rfl
 | _=>cases eq
theorem VG:B0 K (rIs id) isC:=fun {Oo c t σ H x y dx dy r t' Q} f rx ry eq k=>by
 obtain ⟨h,z⟩:=SR rx ry eq
 cases z
 exact ⟨h,k _ H c f .refl (.bl _)⟩
def ixD:D→D→M D
 | .lst ds,.int i=>fun t=>(atI ds i).map fun d=>(d,t)
 | .tup ds,.int i=>fun t=>(atI ds i).map fun d=>(d,t)
 | .scr ns,.int i=>fun t=>(atI ns i).map fun n=>(.int n,t)
 | .str x,.int i=>fun t=>if x.length≤LIM then (atI x.cps.toList i).map fun n=>(.str ⟨#[n]⟩,t) else none
 | .obj k,.int i=>fun t=>match t.S[k]? with
   | some (.lst ds)=>(atI ds i).map fun d=>(d,t)
   | _=>none
 | _,_=>fail
theorem Hw {c:Cf} {H:Hp} {vs:List V} {ds:List D} {i:Int} {d:D} (r:Reps K c H vs ds) (h:atI ds i=some d):∃v,atI vs i=some v∧Rep K c H v d:=by
 unfold atI at h ⊢
 obtain ⟨j,h1,h2⟩:=Option.bind_eq_some_iff.mp h
 obtain ⟨v,h3,h4⟩:=r.at h2
 exact ⟨v,by rw [r.length,h1];exact h3,h4⟩
theorem Sq {α β:Type} (g:α→β) (xs:List α) (i:Int):atI (xs.map g) i=(atI xs i).map g:=by
 unfold atI
 rw [List.length_map]
 cases ixN xs.length i with
 | none=>rfl
 | some j=>simp
theorem Au:B0 K (rIx K) ixD:=fun {Oo c t σ H x y dx dy r t' Q} f rx ry eq k=>by
 cases ry with
 | int i=>
   cases rx with
   | @lst a vs ds h1 h2 h3=>
     obtain ⟨d,e1,e2⟩:=Option.map_eq_some_iff.mp eq
     cases e2
     obtain ⟨v,e3,e4⟩:=Hw h3 e1
     exact .inl ⟨a,vs,i,v,rfl,rfl,SqL.of h1,e3,k _ H c f .refl e4⟩
   | @tup a vs ds h1 h2 h3=>
     obtain ⟨d,e1,e2⟩:=Option.map_eq_some_iff.mp eq
     cases e2
     obtain ⟨v,e3,e4⟩:=Hw h3 e1
     exact .inr (.inl ⟨a,vs,i,v,rfl,rfl,SqT.of h1,e3,k _ H c f .refl e4⟩)
   | @scr a ns h1=>
     obtain ⟨n,e1,e2⟩:=Option.map_eq_some_iff.mp eq
     cases e2
     exact .inl ⟨a,_,i,.int n,rfl,rfl,h1.sq,by rw [Sq,e1];rfl,k _ H c f .refl (.int n)⟩
   | str z=>
     unfold ixD at eq
     dsimp only at eq
     split at eq
     ·next hl=>
      obtain ⟨n,e1,e2⟩:=Option.map_eq_some_iff.mp eq
      cases e2
      exact .inr (.inr ⟨z,i,n,rfl,rfl,Nat.le_trans hl Ct,e1,k _ H c f .refl (.str _)⟩)
     ·cases eq
   | @obj a kk h1=>
     unfold ixD at eq
     dsimp only at eq
     cases es:t.S[kk]? with
     | none=>rw [es] at eq;cases eq
     | some o=>
       rw [es] at eq
       cases o with
       | dct _ | ins _ _ | tab _ _ _ _ | fn _ _=>cases eq
       | lst ds=>
         obtain ⟨d,e1,e2⟩:=Option.map_eq_some_iff.mp eq
         cases e2
         obtain ⟨vs,g1,g2⟩:=f.s.obs kk a _ h1 es
         obtain ⟨v,e3,e4⟩:=Hw g2 e1
         exact .inl ⟨a,vs,i,v,rfl,rfl,SqL.of g1,e3,k _ H c f .refl e4⟩
   | _=>cases eq
 | _=>cases rx <;> cases eq
end
section
variable {X:Cx} {e a b:Expr} {es:List Expr} {pos:Pos}
inductive RO (K:PySem.W.Frag) (f:M (Option Int)) (σ:L2.St) (H:Hp) (Q:Option Int→Hp→Prop):Prop where
 | mk (Oo:Addr→Prop) (c:Cf) (t:T) (fi:FInv K Oo c t σ H) (r:Option Int) (t':T) (e:f t=some (r,t')) (k:∀H' c',FInv K Oo c' t' σ H'→Stp Oo c H c' H'→Q r H'):RO K f σ H Q
theorem Oy {oe:Option Expr} {t t':TO} (h:PO X oe t) (i:∀σ H Q,t' σ H Q→t σ H Q):PO X oe t':=fun pins s σ H Q I q=>h pins s σ H Q I (i σ H Q q)
def fNo:M (Option Int):=ret none
def asI:D→M (Option Int)
 | .int i=>ret (some i)
 | _=>fail
def BW (f:M D):M (Option Int):=bnd f asI
theorem E6:PO X none (RO X.K fNo):=Oy Ty fun σ H Q ⟨Oo,c,t,fi,r,t',eq,k⟩=>by
 cases eq
 exact k H c fi .refl
theorem BZ {f:M D} (h:PE X e (RE X.K f)):PO X (some e) (RO X.K (BW f)):=Oy (Tz h) fun σ H Q ⟨Oo,c,t,fi,r,t',eq,k⟩=>by
 obtain ⟨d,t1,e1,eq⟩:=Am eq
 refine ⟨Oo,c,t,fi,d,t1,e1,fun v H1 c1 f1 s1 rv=>?_⟩
 cases rv with
 | int i=>cases eq;exact ⟨i,rfl,k H1 c1 f1 s1⟩
 | _=>cases eq
def Qg (K:PySem.W.Frag) (R:V→Option Int→Option Int→Hp→VK→Prop) (h:D→Option Int→Option Int→M D):Prop:=∀{Oo:Addr→Prop} {c:Cf} {t:T} {σ:L2.St} {H:Hp} {x:V} {dx r:D} {lo hi:Option Int} {t':T} {Q:VK},FInv K Oo c t σ H→Rep K c H x dx→h dx lo hi t=some (r,t')→
 (∀v H' c',FInv K Oo c' t' σ H'→Stp Oo c H c' H'→Rep K c' H' v r→Q v H')→R x lo hi H Q
def fSl (f:M D) (l u:M (Option Int)) (h:D→Option Int→Option Int→M D):M D:=bnd f fun x=>bnd l fun lo=>bnd u fun hi=>h x lo hi
theorem Ci {R:V→Option Int→Option Int→Hp→VK→Prop} {h:D→Option Int→Option Int→M D} {f:M D} {l u:M (Option Int)} {lo hi:Option Expr} {p2:Pos} (hr:SlR X R) (s:Qg X.K R h) (he:PE X e (RE X.K f)) (hl:PO X lo (RO X.K l)) (hu:PO X hi (RO X.K u)):PE X (.Subscript e (.Slice lo hi none p2) pos) (RE X.K (fSl f l u h)):=
 BA (QU hr he hl hu) fun σ H Q ⟨Oo,c,t,fi,r,t',eq,k⟩=>by
  obtain ⟨d,t1,e1,eq⟩:=Am eq
  obtain ⟨ol,t2,e2,eq⟩:=Am eq
  obtain ⟨oh,t3,e3,eq⟩:=Am eq
  exact ⟨Oo,c,t,fi,d,t1,e1,fun v H1 c1 f1 s1 rv=>⟨Oo,c1,t1,f1,ol,t2,e2,fun H2 c2 f2 s2=>⟨Oo,c2,t2,f2,oh,t3,e3,fun H3 c3 f3 s3=>
   s f3 (rv.mono (s2.trans s3).ext) eq fun v H' c' f' s' rv'=>k v H' c' f' (((s1.trans s2).trans s3).trans s') rv'⟩⟩⟩
def cutD {α:Type} (xs:List α) (lo hi:Option Int):List α:=(xs.drop (HT.sIx xs.length 0 lo)).take (HT.sIx xs.length xs.length hi - HT.sIx xs.length 0 lo)
def slD:D→Option Int→Option Int→M D
 | .lst ds,lo,hi=>ret (.lst (cutD ds lo hi))
 | .scr ns,lo,hi=>ret (.lst ((cutD ns lo hi).map .int))
 | .tup ds,lo,hi=>fun t=>if HT.sIx ds.length 0 lo=0∧HT.sIx ds.length ds.length hi=ds.length then none else some (.tup (cutD ds lo hi),t)
 | _,_,_=>fail
theorem HS {K:PySem.W.Frag} {c:Cf} {H:Hp} {vs:List V} {ds:List D} (r:Reps K c H vs ds) (lo hi:Option Int):Reps K c H (Gh vs lo hi) (cutD ds lo hi):=by
 unfold Gh cutD
 rw [r.length]
 exact (r.drop _).take _
theorem Qr {α β:Type} (g:α→β) (xs:List α) (lo hi:Option Int):cutD (xs.map g) lo hi=(cutD xs lo hi).map g:=by
 unfold cutD
 rw [List.length_map,List.map_take,List.map_drop]
theorem OO (ns:List Int) (lo hi:Option Int):Gh (ns.map V.int) lo hi=(cutD ns lo hi).map V.int:=Qr V.int ns lo hi
def Q5 (K:PySem.W.Frag):V→Option Int→Option Int→Hp→VK→Prop:=fun x lo hi H Q=>Vu K x lo hi H Q∨Vw K x lo hi H Q
theorem sl2:SlR X (Q5 X.K):=sl_list.or VL
theorem VH {K:PySem.W.Frag}:Qg K (Q5 K) slD:=fun {Oo c t σ H x dx r lo hi t' Q} f rx eq k=>by
 cases rx with
 | @lst p vs ds h1 h2 h3=>
   cases eq
   exact .inl ⟨p,vs,rfl,SqL.of h1,fun q hq=>k _ _ c (f.laid hq) (f.stp_laid hq) (.lst AN (f.s.free hq) ((HS h3 lo hi).mono (Ext.laid f.s hq)))⟩
 | @scr p ns h1=>
   cases eq
   refine .inl ⟨p,_,rfl,h1.sq,fun q hq=>k _ _ c (f.laid hq) (f.stp_laid hq) (.lst AN (f.s.free hq) ?_)⟩
   rw [OO]
   exact Reps.ints _
 | @tup p vs ds h1 h2 h3=>
   unfold slD at eq
   dsimp only at eq
   split at eq
   ·cases eq
   ·next hn=>
    cases eq
    exact .inr ⟨p,vs,rfl,SqT.of h1,by rw [h3.length];exact hn,fun q hq=>k _ _ c (f.laid hq) (f.stp_laid hq) (.tup AN (f.s.free hq) ((HS h3 lo hi).mono (Ext.laid f.s hq)))⟩
 | _=>cases eq
theorem Xe {id:String} {R:List V→Hp→VK→Prop} {h:List D→M D} {f:M (List D)} {x:Str} {p:Pos} (hc:CL X (.builtin id) R) (s:EN X.K R h) (hg:Gl X x) (hm:X.mg x=none) (hv:bootBuiltins x=some (.builtin id)) (ha:PA X (e :: es) (RA X.K f)) (hn:x≠"__name__":=by decide) (hdb:(x == ("__debug__" : Str))=false:=by decide)
 (he:starEach (e :: es) X.env=(false,eval e X.env) :: starEach es X.env:=by rfl) (hpl:(backTo pos (starEach es X.env)).any (·.1)=false:=by rfl):PE X (.Call (.Name x p) (e :: es) [] pos) (RE X.K (fB f h)):=
 BA (LS hc hg hm hv ha hn hdb he hpl) fun _ _ _ q=>RE.callB s q
theorem Xf {id:String} {R:List V→Hp→VK→Prop} {h:List D→M D} {f:M (List D)} {x:Str} {p:Pos} (hc:CL X (.type id) R) (s:EN X.K R h) (hg:Gl X x) (hm:X.mg x=none) (hv:bootBuiltins x=some (.type id)) (ha:PA X (e :: es) (RA X.K f)) (hn:x≠"__name__":=by decide) (hdb:(x == ("__debug__" : Str))=false:=by decide)
 (he:starEach (e :: es) X.env=(false,eval e X.env) :: starEach es X.env:=by rfl) (hpl:(backTo pos (starEach es X.env)).any (·.1)=false:=by rfl):PE X (.Call (.Name x p) (e :: es) [] pos) (RE X.K (fB f h)):=
 BA (G4 hc hg hm hv ha hn hdb he hpl) fun _ _ _ q=>RE.callB s q
theorem Xg {id:String} {R:List V→Hp→VK→Prop} {h:List D→M (List D)} {f:M (List D)} {x:Str} {p:Pos} (hc:CL X (.type id) R) (s:KB X.K R h) (hg:Gl X x) (hm:X.mg x=none) (hv:bootBuiltins x=some (.type id)) (ha:PA X (e :: es) (RA X.K f)) (hn:x≠"__name__":=by decide) (hdb:(x == ("__debug__" : Str))=false:=by decide)
 (he:starEach (e :: es) X.env=(false,eval e X.env) :: starEach es X.env:=by rfl) (hpl:(backTo pos (starEach es X.env)).any (·.1)=false:=by rfl):PE X (.Call (.Name x p) (e :: es) [] pos) (RF X.K (fBF f h)):=
 BA (G4 hc hg hm hv ha hn hdb he hpl) fun _ _ _ q=>RF.callB s q
end
section
variable {K:PySem.W.Frag}
theorem Ds {c:Cf} {H:Hp} {xs:List V} {d:D} (r:Reps K c H xs [d]):∃v,xs=[v]∧Rep K c H v d:=by
 cases r with
 | cons r rs=>cases rs;exact ⟨_,rfl,r⟩
theorem R9 {c:Cf} {H:Hp} {xs:List V} {d e:D} (r:Reps K c H xs [d,e]):∃v u,xs=[v,u]∧Rep K c H v d∧Rep K c H u e:=by
 cases r with
 | cons r rs=>
   obtain ⟨u,rfl,q⟩:=Ds rs
   exact ⟨_,u,rfl,r,q⟩
def BT:List D→M D
 | [.lst ds]=>ret (.int ds.length)
 | [.tup ds]=>ret (.int ds.length)
 | [.scr ns]=>ret (.int ns.length)
 | [.str x]=>lim x.length (.int x.length)
 | [.obj k]=>fun t=>match t.S[k]? with
   | some (.lst ds)=>some (.int ds.length,t)
   | _=>none
 | _=>fail
theorem BV:EN K (fun xs H Q=>∃x n,xs=[x]∧Uq K x H n∧Q (.int n) H) BT:=fun {Oo c t σ H xs ds r t' Q} f rx eq k=>by
 match ds,rx,eq with
 | [],_,eq=>cases eq
 | d0 :: _ :: _,_,eq=>cases d0 <;> cases eq
 | [d],rx,eq=>
   obtain ⟨v,rfl,rv⟩:=Ds rx
   cases rv with
   | @lst a vs ds h1 h2 h3=>cases eq;exact ⟨_,ds.length,rfl,.inl ⟨vs,SqL.of h1,h3.length.symm⟩,k _ H c f .refl (.int _)⟩
   | @tup a vs ds h1 h2 h3=>cases eq;exact ⟨_,ds.length,rfl,.inr ⟨vs,SqT.of h1,h3.length.symm⟩,k _ H c f .refl (.int _)⟩
   | @scr a ns h1=>cases eq;exact ⟨_,ns.length,rfl,.inl ⟨_,h1.sq,by simp⟩,k _ H c f .refl (.int _)⟩
   | str x=>
     obtain ⟨hl,z⟩:=Eu eq
     cases z
     exact ⟨_,x.length,rfl,⟨Nat.le_trans hl Ct,rfl⟩,k _ H c f .refl (.int _)⟩
   | @obj a kk h1=>
     unfold BT at eq
     dsimp only at eq
     cases es:t.S[kk]? with
     | none=>rw [es] at eq;cases eq
     | some o=>
       rw [es] at eq
       cases o with
       | dct _ | ins _ _ | tab _ _ _ _ | fn _ _=>cases eq
       | lst ds=>
         cases eq
         obtain ⟨vs,g1,g2⟩:=f.s.obs kk a _ h1 es
         exact ⟨_,ds.length,rfl,.inl ⟨vs,SqL.of g1,g2.length.symm⟩,k _ H c f .refl (.int _)⟩
   | _=>cases eq
def tyD:D→Option String
 | .non=>some "NoneType"
 | .bl _=>some "bool"
 | .int _=>some "int"
 | .str _=>some "str"
 | .lst _=>some "list"
 | .tup _=>some "tuple"
 | .dic=>some "dict"
 | _=>none
def GX (n m:String):Option Bool:=match m with
 | "int"=>some (n == "int" || n == "bool")
 | "bool"=>some (n == "bool")
 | "str"=>some (n == "str")
 | "list"=>some (n == "list")
 | "tuple"=>some (n == "tuple")
 | "dict"=>some (n == "dict")
 | _=>none
def Co:List D→M D
 | [d,.ty m]=>fun t=>match tyD d with
   | some n=>(GX n m).map fun b=>(.bl b,t)
   | none=>none
 | _=>fail
theorem Na {d:D} {n m:String} {b:Bool} (h1:tyD d=some n) (h2:GX n m=some b):PySem.W.kitOne K (.type n) (.type m)=some b:=by
 have hm:m = "int"∨m = "bool"∨m = "str"∨m = "list"∨m = "tuple"∨m = "dict":=by
  unfold GX at h2
  split at h2 <;> simp_all
 have hn:n = "NoneType"∨n = "bool"∨n = "int"∨n = "str"∨n = "list"∨n = "tuple"∨n = "dict":=by
  cases d <;> simp [tyD] at h1 <;> simp [←h1]
 rcases hm with rfl | rfl | rfl | rfl | rfl | rfl <;> rcases hn with rfl | rfl | rfl | rfl | rfl | rfl | rfl <;> (cases h2;rfl)
def Q4 (K:PySem.W.Frag):List V→Hp→VK→Prop:=fun xs H Q=>∃x n t b,xs=[x,.ty n]∧TyOf K H x t∧PySem.W.kitOne K t (.type n)=some b∧Q (.bl b) H
theorem BL {X:Cx}:CL X (.builtin "isinstance") (Q4 X.K):=by
 intro pins s σ H xs us Q I r h
 obtain ⟨x,n,t,b,rfl,ty,e,q⟩:=h
 obtain ⟨u,w',rfl,rx,rt⟩:=Sg r
 cases rt
 exact wpAny_with_toks (Nat.le_refl s.toks) (O9 I rx ty e fun tk ht=>⟨.bl b,H,I.tok tk,rfl,q⟩)
theorem B2:EN K (Q4 K) Co:=fun {Oo c t σ H xs ds r t' Q} f rx eq k=>by
 unfold Co at eq
 split at eq
 ·next d m=>
  obtain ⟨v,u,rfl,rv,ru⟩:=R9 rx
  cases ru
  cases et:tyD d with
  | none=>rw [et] at eq;cases eq
  | some n=>
    rw [et] at eq
    obtain ⟨b,e1,e2⟩:=Option.map_eq_some_iff.mp eq
    cases e2
    refine ⟨v,m,.type n,b,rfl,?_,Na et e1,k _ H c f .refl (.bl b)⟩
    cases rv <;> first | (cases et;first | exact .non | exact .bl _ | exact .int _ | exact .str _ | exact .lst ‹_› | exact .tup ‹_› | exact .dK ‹_›) | cases et
 ·cases eq
def Ha:List D→M D
 | [.lst ds]=>ret (.tup ds)
 | [.tup ds]=>ret (.tup ds)
 | [.obj k]=>fun t=>match t.S[k]? with
   | some (.lst ds)=>some (.tup ds,t)
   | _=>none
 | _=>fail
theorem JP:EN K (fun xs H Q=>∃p ys,xs=[.ref p]∧((SqL K H p ys∧∀l,H l=none→Q (.ref l) (upd H l (.tup ys)))∨(SqT K H p ys∧Q (.ref p) H))) Ha:=fun {Oo c t σ H xs ds r t' Q} f rx eq k=>by
 match ds,rx,eq with
 | [],_,eq=>cases eq
 | d0 :: _ :: _,_,eq=>cases d0 <;> cases eq
 | [d],rx,eq=>
   obtain ⟨v,rfl,rv⟩:=Ds rx
   cases rv with
   | @lst a vs ds h1 h2 h3=>cases eq;exact ⟨a,vs,rfl,.inl ⟨SqL.of h1,fun q hq=>k _ _ c (f.laid hq) (f.stp_laid hq) (.tup AN (f.s.free hq) (h3.mono (Ext.laid f.s hq)))⟩⟩
   | @tup a vs ds h1 h2 h3=>cases eq;exact ⟨a,vs,rfl,.inr ⟨SqT.of h1,k _ H c f .refl (.tup h1 h2 h3)⟩⟩
   | @obj a kk h1=>
     unfold Ha at eq
     dsimp only at eq
     cases es:t.S[kk]? with
     | none=>rw [es] at eq;cases eq
     | some o=>
       rw [es] at eq
       cases o with
       | dct _ | ins _ _ | tab _ _ _ _ | fn _ _=>cases eq
       | lst ds=>
         cases eq
         obtain ⟨vs,g1,g2⟩:=f.s.obs kk a _ h1 es
         exact ⟨a,vs,rfl,.inl ⟨SqL.of g1,fun q hq=>k _ _ c (f.laid hq) (f.stp_laid hq) (.tup AN (f.s.free hq) (g2.mono (Ext.laid f.s hq)))⟩⟩
   | _=>cases eq
def FQ:List D→M (List D)
 | [.lst ds]=>ret ds
 | [.tup ds]=>ret ds
 | [.scr ns]=>ret (ns.map .int)
 | [.obj k]=>fun t=>match t.S[k]? with
   | some (.lst ds)=>some (ds,t)
   | _=>none
 | _=>fail
theorem Nu:KB K (fun xs H Q=>∃p ys,xs=[.ref p]∧(SqL K H p ys∨SqT K H p ys)∧∀l,H l=none→Q (.ref l) (upd H l (.lst ys))) FQ:=fun {Oo c t σ H xs ds r t' Q} f rx eq k=>by
 match ds,rx,eq with
 | [],_,eq=>cases eq
 | d0 :: _ :: _,_,eq=>cases d0 <;> cases eq
 | [d],rx,eq=>
   obtain ⟨v,rfl,rv⟩:=Ds rx
   cases rv with
   | @lst a vs ds h1 h2 h3=>cases eq;exact ⟨a,vs,rfl,.inl (SqL.of h1),fun q hq=>k q vs H c f .refl h3 hq⟩
   | @tup a vs ds h1 h2 h3=>cases eq;exact ⟨a,vs,rfl,.inr (SqT.of h1),fun q hq=>k q vs H c f .refl h3 hq⟩
   | @scr a ns h1=>cases eq;exact ⟨a,_,rfl,.inl h1.sq,fun q hq=>k q _ H c f .refl (Reps.ints ns) hq⟩
   | @obj a kk h1=>
     unfold FQ at eq
     dsimp only at eq
     cases es:t.S[kk]? with
     | none=>rw [es] at eq;cases eq
     | some o=>
       rw [es] at eq
       cases o with
       | dct _ | ins _ _ | tab _ _ _ _ | fn _ _=>cases eq
       | lst ds=>
         cases eq
         obtain ⟨vs,g1,g2⟩:=f.s.obs kk a _ h1 es
         exact ⟨a,vs,rfl,.inl (SqL.of g1),fun q hq=>k q vs H c f .refl g2 hq⟩
   | _=>cases eq
def Lx:List D→M D
 | [.int i]=>ret (.int i)
 | [.bl b]=>ret (.int (if b then 1 else 0))
 | _=>fail
theorem TX:EN K (fun xs H Q=>(∃i,xs=[.int i]∧Q (.int i) H)∨∃k,xs=[.bl k]∧Q (.int (if k then 1 else 0)) H) Lx:=fun {Oo c t σ H xs ds r t' Q} f rx eq k=>by
 match ds,rx,eq with
 | [],_,eq=>cases eq
 | d0 :: _ :: _,_,eq=>cases d0 <;> cases eq
 | [d],rx,eq=>
   obtain ⟨v,rfl,rv⟩:=Ds rx
   cases rv with
   | int i=>cases eq;exact .inl ⟨i,rfl,k _ H c f .refl (.int _)⟩
   | bl b=>cases eq;exact .inr ⟨b,rfl,k _ H c f .refl (.int _)⟩
   | _=>cases eq
def Fl:List D→M D
 | [.int i]=>fun t=>if i.natAbs.log2 < 1920 then some (.str (toString i),t) else none
 | _=>fail
theorem Fa:EN K (fun xs H Q=>∃i,xs=[.int i]∧i.natAbs.log2 < 1920∧Q (.str (toString i)) H) Fl:=fun {Oo c t σ H xs ds r t' Q} f rx eq k=>by
 match ds,rx,eq with
 | [],_,eq=>cases eq
 | d0 :: _ :: _,_,eq=>cases d0 <;> cases eq
 | [d],rx,eq=>
   obtain ⟨v,rfl,rv⟩:=Ds rx
   cases rv with
   | int i=>
     unfold Fl at eq
     dsimp only at eq
     split at eq
     ·next h=>cases eq;exact ⟨i,rfl,h,k _ H c f .refl (.str _)⟩
     ·cases eq
   | _=>cases eq
def W9:List D→M D
 | [.int i]=>ret (.int (if i < 0 then -i else i))
 | _=>fail
def Xq:List D→M D
 | [.int i,.int j]=>ret (.int (if j < i then j else i))
 | _=>fail
def Xp:List D→M D
 | [.int i,.int j]=>ret (.int (if j > i then j else i))
 | _=>fail
end
end F2
namespace L2
open PySem PySem.Spec PyProof.Rows
open AutoSeq1 (wpAny_loadPart')
def R1 (K:PySem.W.Frag):R2:=fun x y H Q=>∃a b ys,x = .ref a∧y = .ref b∧SqT K H a []∧SqT K H b ys∧Q (.ref b) H
theorem Tj {X:Cx}:OpR X (binaryOp .Add) (R1 X.K):=by
 intro pins s σ H x y v u Q I rx ry h
 obtain ⟨a,b,ys,rfl,rfl,h1,h2,q⟩:=h
 cases rx
 cases ry
 obtain ⟨its,r,⟨⟨cls,dd,data,sl⟩,ho,hc,n,hd⟩,z⟩:=I.tuple h1
 obtain ⟨its2,r2,⟨⟨cls2,dd2,data2,sl2⟩,ho2,hc2,n2,hd2⟩,z2⟩:=I.tuple h2
 simp only at hc hd hc2 hd2
 subst hc hd hc2 hd2
 cases r
 exact concat_meets ⟨_,ho,rfl⟩ ⟨_,ho2,rfl⟩ noFill_tuple_add seq_tuple_add PySem.F.slot_tuple_add PySem.F.entry_tuple_add (PySem.F.args_tuple_add_2 _ _)
  (tuple_addW0 a b #[] its2.toArray n n2 dd dd2 sl sl2 rfl) ⟨ho,ho2,.ref b,H,I,rfl,q⟩
theorem HG:fillsNumberSlot (.type "tuple") "mul" = pure false:=
 PySem.fillsNumberSlot_seq (id:="tuple.__mul__") (r:=some (.builtin "tuple.__rmul__")) F.slot_tuple_mul.lookup (by decide +kernel) F.slot_tuple_rmul.lookup (by decide +kernel)
theorem L6:seqRepeat? (.type "tuple")=pure (some (.builtin "tuple.__mul__")):=by
 unfold seqRepeat?
 rw [PySem.seqSlot_of (T:="tuple") (name:="__mul__") (id:="tuple.__mul__") F.slot_tuple_mul.lookup (by decide +kernel),PySem.seqSlot_of (T:="tuple") (name:="__rmul__") (id:="tuple.__rmul__") F.slot_tuple_rmul.lookup (by decide +kernel)]
 rfl
theorem JI (a:Int) (t:Tok) (l:Addr) (items:Array Value) (n:Nat) (dd:Option Addr) (sl:Array (Option Value)) :
 Meets (Builtin.«int.__rmul__» ⟨[.int a t,.ref l],[]⟩) (fun _ R s=>s.heap.get? l=some { cls:=.type "tuple",dict:=dd,data:=.seq items n,slots:=sl }∧R (.ok (.ret Value.notImplemented)) s):=
 .of_wp fun prog w A R s h=>by obtain ⟨hp,g,d,tk,os⟩:=s;obtain ⟨hl,h⟩:=h;wp_walk;exact ⟨_,rfl,h⟩
theorem MP (l:Addr) (items:Array Value) (n:Nat) (dd:Option Addr) (sl:Array (Option Value)) (x:Int) (u:Tok) (hc0:(decide (x < -(2 ^ 63)) || decide (x ≥ 2 ^ 63))=false) (hc1:(items.isEmpty || x == 1)=true) :
 Meets (Builtin.«tuple.__mul__» ⟨[.ref l,.int x u],[]⟩) (fun _ R s=>s.heap.get? l=some { cls:=.type "tuple",dict:=dd,data:=.seq items n,slots:=sl }∧R (.ok (.ret (Value.ref l))) s):=
 .of_wp fun prog w A R s h=>by
  obtain ⟨hp,g,d,tk,os⟩:=s;obtain ⟨hl,h⟩:=h;have f1:=AutoSeq1.idx_int;have f2:=AutoSeq1.sub_tuple_tuple;have f3:=AutoSeq1.sub_list_list;have f4:=AutoSeq1.sub_tuple_list;have f5:=AutoSeq1.sub_list_tuple
  wp_walk using wpAny_loadPart' hl
  refine wpAny_ite_split (fun z=>absurd z (by rw [hc0];decide)) fun _=>?_
  wp_walk using wpAny_loadPart' hl
  exact ⟨_,rfl,h⟩
theorem MQ (l:Addr) (items:Array Value) (n:Nat) (dd:Option Addr) (sl:Array (Option Value)) (x:Int) (u:Tok) (hc0:(decide (x < -(2 ^ 63)) || decide (x ≥ 2 ^ 63))=false) (hc1:(items.isEmpty || x == 1)=false) (hc2:(decide (x≤0) || items.isEmpty)=true) :
 Meets (Builtin.«tuple.__mul__» ⟨[.ref l,.int x u],[]⟩) (fun _ R s=>s.heap.get? l=some { cls:=.type "tuple",dict:=dd,data:=.seq items n,slots:=sl }∧R (.ok (.ret (Value.ref s.heap.objs.size))) { s with heap:=s.heap.push { cls:=Value.type "tuple",data:=Data.seq #[] },toks:=s.toks }):=
 .of_wp fun prog w A R s h=>by
  obtain ⟨hp,g,d,tk,os⟩:=s;obtain ⟨hl,h⟩:=h;have f1:=AutoSeq1.idx_int;have f2:=AutoSeq1.sub_tuple_tuple;have f3:=AutoSeq1.sub_list_list;have f4:=AutoSeq1.sub_tuple_list;have f5:=AutoSeq1.sub_list_tuple
  wp_walk using wpAny_loadPart' hl
  refine wpAny_ite_split (fun z=>absurd z (by rw [hc0];decide)) fun _=>?_
  wp_walk using wpAny_loadPart' hl
  exact ⟨_,rfl,h⟩
theorem MR (l:Addr) (items:Array Value) (n:Nat) (dd:Option Addr) (sl:Array (Option Value)) (x:Int) (u:Tok) (hc0:(decide (x < -(2 ^ 63)) || decide (x ≥ 2 ^ 63))=false) (hc1:(items.isEmpty || x == 1)=false) (hc2:(decide (x≤0) || items.isEmpty)=false)
 (hc3:¬(items.size:Int) * x > (2 ^ 63 - 1) / 8) (hc4:Builtin.Tuple.tupleTooMany ((items.size:Int) * x)=false) (hsz:(List.foldl (fun x1 x2=>x1++x2) #[] (List.replicate x.toNat items)).size≤sizeLine) :
 Meets (Builtin.«tuple.__mul__» ⟨[.ref l,.int x u],[]⟩) (fun _ R s=>s.heap.get? l=some { cls:=.type "tuple",dict:=dd,data:=.seq items n,slots:=sl }∧R (.ok (.ret (Value.ref s.heap.objs.size))) { s with heap:=s.heap.push { cls:=Value.type "tuple",data:=Data.seq (List.foldl (fun x1 x2=>x1++x2) #[] (List.replicate x.toNat items)) },toks:=s.toks }):=
 .of_wp fun prog w A R s h=>by
  obtain ⟨hp,g,d,tk,os⟩:=s;obtain ⟨hl,h⟩:=h;have f1:=AutoSeq1.idx_int;have f2:=AutoSeq1.sub_tuple_tuple;have f3:=AutoSeq1.sub_list_list;have f4:=AutoSeq1.sub_tuple_list;have f5:=AutoSeq1.sub_list_tuple
  wp_walk using wpAny_loadPart' hl
  refine wpAny_ite_split (fun z=>absurd z (by rw [hc0];decide)) fun _=>?_
  wp_walk using wpAny_loadPart' hl
  refine wpAny_ite_split (fun z=>absurd z hc3) fun _=>?_
  wp_walk using wpAny_loadPart' hl
  exact ⟨_,rfl,h⟩
end L2
namespace L2
open PySem PySem.Spec PyProof.Rows
open AutoSeq1 (wpAny_loadPart')
def R7 (K:PySem.W.Frag):R2:=fun x y H Q=>∃a k xs,x = .ref a∧y = .int k∧SqT K H a xs∧-(2 ^ 62)≤k∧k < 2 ^ 62∧xs.length * k.toNat≤sizeLine∧
 ((xs=[]∨k=1)→Q (.ref a) H)∧(¬(xs=[]∨k=1)→∀p,H p=none→Q (.ref p) (upd H p (.tup (List.replicate k.toNat xs).flatten)))
theorem Inv.tnew {X:Cx} {pins:List (Addr×Obj)} {σ:L2.St} {H:Hp} {s:Shared} {ys:List V} {its:List Value} {t':Nat} (I:Inv X pins σ H s) (hv:Vals ys its) (hz:ys.length≤sizeLine) (ht:s.toks≤t':=by first | exact Nat.le_refl _ | assumption | lia | (dsimp only;lia)) :
 Inv X pins σ (upd H s.heap.objs.size (.tup ys)) { s with heap:=s.heap.push { cls:=.type "tuple",data:=.seq its.toArray },toks:=t' }:=
 I.laid (fun b u e=>Heap.get?_push_of_some _ e) (Nat.le_refl _) ⟨hz,its,hv,⟨_,Heap.get?_push_size _ rfl,rfl,_,rfl⟩⟩
theorem op_mulT {X:Cx}:OpR X (binaryOp .Mult) (R7 X.K):=by
 intro pins s σ H x y v u Q I rx ry h
 obtain ⟨a,k,xs,rfl,rfl,hq,h1,h2,hz,q1,q2⟩:=h
 cases rx
 obtain ⟨t,rfl⟩:=ry
 obtain ⟨its,r,⟨⟨cls,dd,data,sl⟩,ho,hc,n,hd⟩,z⟩:=I.tuple hq
 simp only at hc hd
 subst hc hd
 have hl:=r.length
 have hc0:(decide (k < -(2 ^ 63)) || decide (k ≥ 2 ^ 63))=false:=by
  rw [Bool.or_eq_false_iff];exact ⟨decide_eq_false (by lia),decide_eq_false (by lia)⟩
 refine wpAny_binaryOp_repeat_ref (T:="tuple") (U:="int") (by decide) ⟨_,ho,rfl⟩ (fun s'=>typeIs_int s' k t) HG F.fills_int_mul F.slot_int_rmul L6 F.slot_int_index.lookup
  (call_meets F.slot_int_rmul (typeIs_int s k t) F.entry_int_rmul (F.args_int_rmul_2 _ _) (JI k t a its.toArray n dd sl) ⟨ho,rfl,⟨_,ho,rfl⟩,?_⟩)
 by_cases hs:xs=[]∨k=1
 ·have hc1:(its.toArray.isEmpty || k == 1)=true:=by
   rw [Bool.or_eq_true]
   rcases hs with z | z
   ·subst z;cases r;exact .inl rfl
   ·exact .inr (by simp [z])
  exact call_meets F.slot_tuple_mul ⟨_,ho,rfl⟩ F.entry_tuple_mul (F.args_tuple_mul_2 _ _) (MP a its.toArray n dd sl k t hc0 hc1) ⟨ho,.ref a,H,I,rfl,q1 hs⟩
 ·have hne:its≠[]:=fun z=>hs (.inl (by subst z;cases r;rfl))
  have hk1:k≠1:=fun z=>hs (.inr z)
  have hem:its.toArray.isEmpty=false:=by cases its with | nil=>exact absurd rfl hne | cons _ _=>rfl
  have hc1:(its.toArray.isEmpty || k == 1)=false:=by rw [hem];simpa using hk1
  by_cases hk:k≤0
  ·have hc2:(decide (k≤0) || its.toArray.isEmpty)=true:=by rw [decide_eq_true hk];rfl
   refine call_meets F.slot_tuple_mul ⟨_,ho,rfl⟩ F.entry_tuple_mul (F.args_tuple_mul_2 _ _) (MQ a its.toArray n dd sl k t hc0 hc1 hc2) ⟨ho,?_⟩
   have hk0:k.toNat=0:=by lia
   refine ⟨.ref _,_,I.tnew (t':=s.toks) (ys:=[]) (its:=[]) .nil (Nat.zero_le _),rfl,?_⟩
   have:=q2 hs _ I.fresh
   rw [hk0] at this
   exact this
  ·have hc2:(decide (k≤0) || its.toArray.isEmpty)=false:=by rw [decide_eq_false hk,hem];rfl
   have hsz:its.length * k.toNat≤sizeLine:=by rw [←hl];exact hz
   have hmul:((its.toArray.size:Nat):Int) * k=((its.length * k.toNat:Nat):Int):=by
    rw [List.size_toArray,Int.natCast_mul,Int.toNat_of_nonneg (by lia)]
   have hline:(sizeLine:Nat)≤(2 ^ 63 - 1) / 8:=by decide
   have hc3:¬(its.toArray.size:Int) * k > (2 ^ 63 - 1) / 8:=by rw [hmul];lia
   have hc4:Builtin.Tuple.tupleTooMany ((its.toArray.size:Int) * k)=false:=by
    unfold Builtin.Tuple.tupleTooMany;rw [hmul];exact decide_eq_false (by lia)
   have f0:List.foldl (fun x1 x2=>x1++x2) #[] (List.replicate k.toNat its.toArray)=(List.replicate k.toNat its).flatten.toArray:=by
    have:=GV its k.toNat []
    rw [List.nil_append] at this
    exact this
   have hfz:(List.foldl (fun x1 x2=>x1++x2) #[] (List.replicate k.toNat its.toArray)).size≤sizeLine:=by
    rw [f0,List.size_toArray,Jq,Nat.mul_comm];exact hsz
   refine call_meets F.slot_tuple_mul ⟨_,ho,rfl⟩ F.entry_tuple_mul (F.args_tuple_mul_2 _ _) (MR a its.toArray n dd sl k t hc0 hc1 hc2 hc3 hc4 hfz) ⟨ho,?_⟩
   rw [f0]
   exact ⟨.ref _,_,I.tnew (t':=s.toks) (r.rep k.toNat) (by rw [Jq,Nat.mul_comm];exact hz),rfl,q2 hs _ I.fresh⟩
theorem G2 (l:Addr) (items:Array Value) (n:Nat) (b:Addr) (items2:Array Value) (n2:Nat) (dd:Option Addr) (sl:Array (Option Value)) (hs0:¬(!items.isEmpty && Builtin.List.listTooLong (items.size + items2.size))=true) (hs1:items.size≤sizeLine) (hs2:items.size + items2.size≤sizeLine + 1) :
 Meets (Builtin.«list.extend» ⟨[.ref l,.ref b],[]⟩) (fun _ R s=>s.heap.get? l=some { cls:=.type "list",dict:=none,data:=.seq items n,slots:=#[] }∧s.heap.get? b=some { cls:=.type "tuple",dict:=dd,data:=.seq items2 n2,slots:=sl }∧R (.ok (.ret Value.none)) { s with heap:=s.heap.update l (Obj.mapSeq fun x=>x++items2),toks:=s.toks }):=
 .of_wp fun prog w A R s h=>by
  obtain ⟨hp,g,d,tk,os⟩:=s;obtain ⟨hl,hb,h⟩:=h;have f1:=AutoSeq1.idx_int;have f2:=AutoSeq1.sub_tuple_tuple;have f3:=AutoSeq1.sub_list_list;have f4:=AutoSeq1.sub_tuple_list;have f5:=AutoSeq1.sub_list_tuple
  have hz':(items++items2).size≤sizeLine + 1:=by rw [Array.size_append];exact hs2
  wp_walk using (wpAny_updateSeq hl rfl (hz:=hs1) (_hz':=hz')),wpAny_loadPart' hl,wpAny_loadPart' hb;exact ⟨_,rfl,h⟩
def L3 (K:PySem.W.Frag):V→List V→Hp→VK→Prop:=fun x vs H Q=>∃l b xs zs,x = .ref l∧vs=[.ref b]∧H l=some (.lst xs)∧SqT K H b zs∧xs.length + zs.length≤sizeLine∧Q .non (upd H l (.lst (xs++zs)))
theorem N6 {X:Cx}:MtM X "list.extend" (L3 X.K):=by
 intro pins s σ H x vs v us Q I rx rv h
 obtain ⟨l,b,xs,zs,rfl,rfl,hH,hB,hz,q⟩:=h
 cases rx
 obtain ⟨u,rfl,ru⟩:=rv.one
 cases ru
 obtain ⟨z,its,n,r,hl,e⟩:=I.lstM hH
 obtain ⟨its2,r2,⟨⟨cls,dd,data,sl⟩,ho,hc,n2,hd⟩,z2⟩:=I.tuple hB
 simp only at hc hd
 subst hc hd
 have hl2:=r2.length
 have hsz:its.toArray.size + its2.toArray.size≤sizeLine:=by rw [List.size_toArray,List.size_toArray];lia
 have hlong:¬(!its.toArray.isEmpty && Builtin.List.listTooLong (its.toArray.size + its2.toArray.size))=true:=by
  rw [HH hsz,Bool.and_false]
  exact Bool.false_ne_true
 refine call_meets F.slot_list_extend ⟨_,e,rfl⟩ F.entry_list_extend (F.args_list_extend_2 _ _)
  (G2 l its.toArray n b its2.toArray n2 dd sl hlong (by rw [List.size_toArray];lia) (by lia)) ⟨e,ho,?_⟩
 refine ⟨.non,_,I.lset (its':=its++its2) hH e (by simp) (r.append r2) ?_,rfl,q⟩
 rw [List.length_append]
 lia
theorem MtM.or {X:Cx} {id:String} {r r':V→List V→Hp→VK→Prop} (h:MtM X id r) (h':MtM X id r'):MtM X id (fun x xs H Q=>r x xs H Q∨r' x xs H Q):=by
 intro pins s σ H x xs v us Q I rx rv q
 rcases q with q | q
 ·exact h pins s σ H x xs v us Q I rx rv q
 ·exact h' pins s σ H x xs v us Q I rx rv q
section
variable {X:Cx} {a b c d:Expr} {ta tb tc td:TE} {pos:Pos}
end
end L2
namespace F2
open PySem L2 PySem.Spec
section
variable {K:PySem.W.Frag}
def A7 (x y:D):M D:=match x,y with
 | .tup [],.tup ys=>ret (.tup ys)
 | x,y=>Ql x y
def R0 (K:PySem.W.Frag):R2:=fun x y H Q=>Oe K x y H Q∨R1 K x y H Q
theorem AM {X:Cx}:OpR X (binaryOp .Add) (R0 X.K):=op_add4.or Tj
theorem AC:B0 K (R0 K) A7:=fun {Oo c t σ H x y dx dy r t' Q} f rx ry eq k=>by
 unfold A7 at eq
 split at eq
 ·next ys=>
  cases eq
  cases rx with
  | tup h1 h2 h3=>
    cases h3
    cases ry with
    | tup g1 g2 g3=>exact .inr ⟨_,_,_,rfl,rfl,SqT.of h1,SqT.of g1,k _ H c f .refl (.tup g1 g2 g3)⟩
 ·exact .inl (TU f rx ry eq k)
def LF:D→D→M D
 | .int i,.int j=>fun t=>if Gp i j=true then some (.int (i * j),t) else none
 | .tup xs,.int k=>fun t=>if CW k=true∧xs.length * k.toNat≤LIM then some (.tup (List.replicate k.toNat xs).flatten,t) else none
 | .lst xs,.int k=>fun t=>if CW k=true∧xs.length * k.toNat≤LIM then some (.lst (List.replicate k.toNat xs).flatten,t) else none
 | _,_=>fail
def Og (K:PySem.W.Frag):R2:=fun x y H Q=>rI CMul (fun i j=>.int (i * j)) x y H Q∨(R7 K x y H Q∨Vs x y H Q)
theorem op_mul3 {X:Cx}:OpR X (binaryOp .Mult) (Og X.K):=op_mul.or (op_mulT.or U6)
theorem TY:B0 K (Og K) LF:=fun {Oo c t σ H x y dx dy r t' Q} f rx ry eq k=>by
 cases ry with
 | int j=>
   cases rx with
   | int i=>
     unfold LF at eq
     dsimp only at eq
     split at eq
     ·next h=>cases eq;exact .inl ⟨i,j,rfl,rfl,Pm h,k _ H c f .refl (.int _)⟩
     ·cases eq
   | @tup a vs ds h1 h2 h3=>
     unfold LF at eq
     dsimp only at eq
     split at eq
     ·next h=>
      cases eq
      obtain ⟨g1,g2⟩:=FH h.1
      refine .inr (.inl ⟨a,j,vs,rfl,rfl,SqT.of h1,g1,g2,by rw [h3.length];exact Nat.le_trans h.2 Ct,fun hs=>?_,fun hs p hp=>?_⟩)
      ·rcases hs with z | z
       ·subst z
        have:ds=[]:=List.length_eq_zero_iff.mp h3.length.symm
        subst this
        have e:(List.replicate j.toNat ([]:List D)).flatten=[]:=by simp
        rw [e] at k
        exact k _ H c f .refl (.tup h1 h2 h3)
       ·subst z
        have e:(List.replicate (1:Int).toNat ds).flatten=ds:=by simp
        rw [e] at k
        exact k _ H c f .refl (.tup h1 h2 h3)
      ·exact k _ _ c (f.laid hp) (f.stp_laid hp) (.tup AN (f.s.free hp) ((h3.rep j.toNat).mono (Ext.laid f.s hp)))
     ·cases eq
   | @lst a vs ds h1 h2 h3=>
     unfold LF at eq
     dsimp only at eq
     split at eq
     ·next h=>
      cases eq
      obtain ⟨g1,g2⟩:=FH h.1
      refine .inr (.inr ⟨a,j,vs,rfl,rfl,h1,by lia,by lia,by rw [h3.length];exact Nat.le_trans h.2 Ct,fun p hp=>?_⟩)
      exact k _ _ c (f.laid hp) (f.stp_laid hp) (.lst AN (f.s.free hp) ((h3.rep j.toNat).mono (Ext.laid f.s hp)))
     ·cases eq
   | _=>cases eq
 | _=>cases rx <;> cases eq
end
section
variable {X:Cx} {e a b:Expr} {pos:Pos}
def Dm (xs:List D):List D→Option (List D)
 | [d]=>if xs.length < LIM then some (xs++[d]) else none
 | _=>none
def HA (xs:List D):List D→Option (List D)
 | [.lst ys]=>if xs.length + ys.length≤LIM then some (xs++ys) else none
 | [.tup ys]=>if xs.length + ys.length≤LIM then some (xs++ys) else none
 | _=>none
def ownM (i:Nat) (h:List D→List D→Option (List D)) (g:M (List D)):M Out:=fun t=>match t.env[i]? with
 | some (some (.own _))=>bnd g (fun ds t1=>match t1.env[i]? with
   | some (some (.own xs))=>(h xs ds).map fun ys=>(.next,{ t1 with env:=t1.env.set i (some (.own ys)) })
   | _=>none) t
 | _=>none
def NE (K:PySem.W.Frag) (R:V→List V→Hp→VK→Prop) (h:List D→List D→Option (List D)):Prop:=∀{c:Cf} {S:List Ob} {H:Hp} {a:Addr} {vs us:List V} {xs ds ys:List D} {Q:VK},SInv K c S H→H a=some (.lst vs)→Reps K c H vs xs→Reps K c H us ds→h xs ds=some ys→
 (∀ws,Reps K c H ws ys→Q .non (upd H a (.lst ws)))→R (.ref a) us H Q
theorem Nt {K:PySem.W.Frag}:NE K Nm Dm:=fun {c S H a vs us xs ds ys Q} s h r rs e k=>by
 unfold Dm at e
 split at e
 ·next d=>
  split at e
  ·next hl=>
   cases e
   obtain ⟨v,rfl,rv⟩:=Ds rs
   exact ⟨a,vs,v,rfl,rfl,h,by rw [r.length];exact Nat.lt_of_lt_of_le hl Ct,k _ (r.append (.cons rv .nil))⟩
  ·cases e
 ·cases e
def R4 (K:PySem.W.Frag):V→List V→Hp→VK→Prop:=fun x xs H Q=>Nn x xs H Q∨L3 K x xs H Q
theorem SZ {X:Cx}:MtM X "list.extend" (R4 X.K):=mt_extend.or N6
theorem TV {K:PySem.W.Frag}:NE K (R4 K) HA:=fun {c S H a vs us xs ds ys Q} s h r rs e k=>by
 unfold HA at e
 split at e
 ·split at e
  ·next hl=>
   cases e
   obtain ⟨v,rfl,rv⟩:=Ds rs
   cases rv with
   | lst h1 h2 h3=>exact .inl ⟨a,_,vs,_,rfl,rfl,h,h1,by rw [r.length,h3.length];exact Nat.le_trans hl Ct,k _ (r.append h3)⟩
  ·cases e
 ·split at e
  ·next hl=>
   cases e
   obtain ⟨v,rfl,rv⟩:=Ds rs
   cases rv with
   | tup h1 h2 h3=>exact .inr ⟨a,_,vs,_,rfl,rfl,h,SqT.of h1,by rw [r.length,h3.length];exact Nat.le_trans hl Ct,k _ (r.append h3)⟩
  ·cases e
 ·cases e
theorem RS.ownM {μ:Cf→Hp→D→(V→Hp→Prop)→Prop} {K:PySem.W.Frag} {i:Nat} {h:List D→List D→Option (List D)} {g:M (List D)} {R:V→List V→Hp→VK→Prop} (s:NE K R h) {E:Ends} {σ:L2.St} {H:Hp} (q:RSg K μ (F2.ownM i h g) E σ H):Se (tBM K "list" R (VQ i) (RA K g)) E σ H:=by
 obtain ⟨Oo,c,t,fi,o,t',eq,k⟩:=q
 unfold F2.ownM at eq
 split at eq
 ·next xs0 e0=>
  obtain ⟨ds,t1,e1,eq⟩:=Am eq
  obtain ⟨a,vs0,h1,h2,h3,h4,h5⟩:=fi.own i xs0 e0
  refine ⟨.ref a,h1,.inl ⟨rfl,vs0,SqL.of h4⟩,Oo,c,t,fi,ds,t1,e1,fun us H1 c1 f1 s1 rus=>?_⟩
  split at eq
  ·next xs ex=>
   obtain ⟨ys,ey,ez⟩:=Option.map_eq_some_iff.mp eq
   cases ez
   obtain ⟨a',vs,g1,g2,g3,g4,g5⟩:=f1.own i xs ex
   rw [h1] at g1;injection g1 with g1;injection g1 with g1;injection g1 with g1;subst g1
   refine s f1.s g4 g5 rus ey fun ws rws=>?_
   obtain ⟨f2,s2⟩:=f1.wrOwn ex h1 rws
   exact k σ _ c1 f2 (s1.trans s2)
  ·cases eq
 ·cases eq
theorem O1 {μ:Cf→Hp→D→(V→Hp→Prop)→Prop} (i:Nat) {x:Str} {es:List Expr} {g:M (List D)} {px apos cpos:Pos} (ha:PA X (e :: es) (RA X.K g)) (hN:X.N[i]?=some x:=by rfl) (hv:Vis X.env.scope x:=by first | exact Or.inl rfl | exact Or.inr (Or.inl rfl) | exact Or.inr (Or.inr rfl)) (hd:(x == ("__debug__" : Str))=false:=by decide)
 (hcd:(x == ("__classdict__" : Str))=false:=by decide)
 (hbase:attributeBase (.Name x px) "append" X.env (eval (.Name x px) X.env)=eval (.Name x px) X.env:=by rfl)
 (hfew:((backTo cpos (starEach (e :: es) X.env)).all (fun x=>!x.1) && (backToKw cpos (keywordEach [] X.env)).all (fun x=>x.1.isSome) && decide ((e :: es).length + ([]:List Keyword).length + (if ([]:List Keyword).isEmpty then 0 else 1) < 30))=true:=by rfl)
 (hline:(apos.endLine == cpos.line)=true:=by rfl) (hs:starEach (e :: es) X.env=(false,eval e X.env) :: starEach es X.env:=by rfl) (hplain:(backTo cpos (starEach es X.env)).any (·.1)=false:=by rfl) :
 PS X (.Expr (.Call (.Attribute (.Name x px) "append" apos) (e :: es) [] cpos) pos) (RSg X.K μ (ownM i Dm g)):=
 CY (JG (FE PySem.F.plainAttrs_list PySem.F.slot_list_append PySem.F.type_list_append J6 (LU hN hv hd hcd) ha hbase hfew hline hs hplain)) fun _ _ _ q=>RS.ownM Nt q
theorem O2 {μ:Cf→Hp→D→(V→Hp→Prop)→Prop} (i:Nat) {x:Str} {es:List Expr} {g:M (List D)} {px apos cpos:Pos} (ha:PA X (e :: es) (RA X.K g)) (hN:X.N[i]?=some x:=by rfl) (hv:Vis X.env.scope x:=by first | exact Or.inl rfl | exact Or.inr (Or.inl rfl) | exact Or.inr (Or.inr rfl)) (hd:(x == ("__debug__" : Str))=false:=by decide)
 (hcd:(x == ("__classdict__" : Str))=false:=by decide)
 (hbase:attributeBase (.Name x px) "extend" X.env (eval (.Name x px) X.env)=eval (.Name x px) X.env:=by rfl)
 (hfew:((backTo cpos (starEach (e :: es) X.env)).all (fun x=>!x.1) && (backToKw cpos (keywordEach [] X.env)).all (fun x=>x.1.isSome) && decide ((e :: es).length + ([]:List Keyword).length + (if ([]:List Keyword).isEmpty then 0 else 1) < 30))=true:=by rfl)
 (hline:(apos.endLine == cpos.line)=true:=by rfl) (hs:starEach (e :: es) X.env=(false,eval e X.env) :: starEach es X.env:=by rfl) (hplain:(backTo cpos (starEach es X.env)).any (·.1)=false:=by rfl) :
 PS X (.Expr (.Call (.Attribute (.Name x px) "extend" apos) (e :: es) [] cpos) pos) (RSg X.K μ (ownM i HA g)):=
 CY (JG (FE PySem.F.plainAttrs_list PySem.F.slot_list_extend PySem.F.type_list_extend SZ (LU hN hv hd hcd) ha hbase hfew hline hs hplain)) fun _ _ _ q=>RS.ownM TV q
def objM (h:List D→List D→Option (List D)) (f:M D) (g:M (List D)):M D:=bnd f fun o=>match o with
 | .obj k=>fun t=>match t.S[k]? with
   | some (.lst _)=>bnd g (fun ds t1=>match t1.S[k]? with
     | some (.lst xs)=>(h xs ds).map fun ys=>(.non,{ t1 with S:=t1.S.set k (.lst ys) })
     | _=>none) t
   | _=>none
 | _=>fail
theorem RE.objM {K:PySem.W.Frag} {h:List D→List D→Option (List D)} {f:M D} {g:M (List D)} {R:V→List V→Hp→VK→Prop} (s:NE K R h) {σ:L2.St} {H:Hp} {Q:VK} (q:RE K (F2.objM h f g) σ H Q):tBM K "list" R (RE K f) (RA K g) σ H Q:=by
 obtain ⟨Oo,c,t,fi,r,t',eq,k⟩:=q
 obtain ⟨o,t0,e0,eq⟩:=Am eq
 refine ⟨Oo,c,t,fi,o,t0,e0,fun x H0 c0 f0 s0 rx=>?_⟩
 cases rx with
 | @obj a kk hk=>
   dsimp only at eq
   split at eq
   ·next xs0 ex0=>
    obtain ⟨ds,t1,e1,eq⟩:=Am eq
    obtain ⟨vs0,g0,g0'⟩:=f0.s.obs kk a _ hk ex0
    refine ⟨.inl ⟨rfl,vs0,SqL.of g0⟩,Oo,c0,t0,f0,ds,t1,e1,fun us H1 c1 f1 s1 rus=>?_⟩
    split at eq
    ·next xs ex=>
     obtain ⟨ys,ey,ez⟩:=Option.map_eq_some_iff.mp eq
     cases ez
     have hk1:=s1.ext.io _ _ hk
     obtain ⟨vs,g1,g2⟩:=f1.s.obs kk a _ hk1 ex
     refine s f1.s g1 g2 rus ey fun ws rws=>?_
     obtain ⟨f2,s2⟩:=f1.wrObj (o:=.lst ys) (u:=.lst ws) hk1 fun c' H' ext hu=>⟨ws,hu,rws.mono ext⟩
     exact k _ _ c1 f2 ((s0.trans s1).trans s2) .non
    ·cases eq
   ·cases eq
 | _=>cases eq
theorem EJ {o:Expr} {es:List Expr} {f:M D} {g:M (List D)} {apos cpos:Pos} (ho:PE X o (RE X.K f)) (ha:PA X (e :: es) (RA X.K g))
 (hbase:attributeBase o "append" X.env (eval o X.env)=eval o X.env:=by rfl)
 (hfew:((backTo cpos (starEach (e :: es) X.env)).all (fun x=>!x.1) && (backToKw cpos (keywordEach [] X.env)).all (fun x=>x.1.isSome) && decide ((e :: es).length + ([]:List Keyword).length + (if ([]:List Keyword).isEmpty then 0 else 1) < 30))=true:=by rfl)
 (hline:(apos.endLine == cpos.line)=true:=by rfl) (hs:starEach (e :: es) X.env=(false,eval e X.env) :: starEach es X.env:=by rfl) (hplain:(backTo cpos (starEach es X.env)).any (·.1)=false:=by rfl) :
 PE X (.Call (.Attribute o "append" apos) (e :: es) [] cpos) (RE X.K (objM Dm f g)):=
 BA (FE PySem.F.plainAttrs_list PySem.F.slot_list_append PySem.F.type_list_append J6 ho ha hbase hfew hline hs hplain) fun _ _ _ q=>RE.objM Nt q
def GA (o i d:D):M Unit:=match o,i with
 | .obj k,.int j=>fun t=>match t.S[k]? with
   | some (.lst xs)=>(ixN xs.length j).map fun n=>((),{ t with S:=t.S.set k (.lst (xs.set n d)) })
   | _=>none
 | _,_=>fail
def stD (f g:M D) (d:D):M Unit:=bnd f fun o=>bnd g fun i=>GA o i d
theorem OZ {o i:Expr} {f g:M D} (ho:PE X o (RE X.K f)) (hi:PE X i (RE X.K g))
 (ha:∀v,assign (.Subscript o i pos) X.env v=(do
   let ov ←holding [v] (eval o X.env)
   let iv ←holding [v,ov] (eval i X.env)
   standAt pos
   holding [v,ov,iv] (setItem ov iv v)
   release [v,ov,iv] []):=by intro _;rfl):PG X (.Subscript o i pos) (RG X.K (stD f g)):=
 H9 (Pv ho hi Rc ha) fun v σ H Q ⟨Oo,c,t,d,fi,rv,t',eq,k⟩=>by
  obtain ⟨d0,t1,e1,eq⟩:=Am eq
  obtain ⟨di,t2,e2,eq⟩:=Am eq
  refine ⟨Oo,c,t,fi,_,t1,e1,fun x H1 c1 f1 s1 rx=>⟨Oo,c1,t1,f1,di,t2,e2,fun y H2 c2 f2 s2 ry=>?_⟩⟩
  unfold GA at eq
  split at eq
  ·cases ry with
   | int j=>
   cases rx with
   | @obj a kk hk=>
     split at eq
     ·next xs ex=>
      obtain ⟨n,en,ez⟩:=Option.map_eq_some_iff.mp eq
      cases ez
      have hk2:=s2.ext.io _ _ hk
      obtain ⟨vs,g1,g2⟩:=f2.s.obs _ a _ hk2 ex
      refine ⟨a,vs,_,n,rfl,rfl,g1,by rw [g2.length];exact en,?_⟩
      have rv2:=rv.mono (s1.trans s2).ext
      obtain ⟨f3,s3⟩:=f2.wrObj (o:=.lst (xs.set n d)) (u:=.lst (vs.set n v)) hk2 fun c' H' ext hu=>⟨_,hu,(Reps.set rv2 n g2).mono ext⟩
      exact k σ _ c2 f3 ((s1.trans s2).trans s3)
     ·cases eq
  ·cases eq
end
section
variable {X:Cx} {e a b tg iter elt:Expr} {ifs:List Expr} {pos:Pos} {scope:Scope} {N':List Str} {n:Nat} {fr:List Nat} {f:M (List D)} {st:D→M Unit} {tst:M Bool} {el:M D}
def Cy:M Bool:=ret true
theorem Cd:PIf X [] (RT X.K Cy):=fun pins s σ H Q I ⟨Oo,c,t,fi,r,t',eq,k⟩=>Tu pins s σ H Q I (by cases eq;exact k H c fi .refl)
theorem M4 {g:M Bool} (h:PT X e (RT X.K g)):PIf X [e] (RT X.K g):=Tv h
theorem DC (O:CmpOk X scope N' (ES n fr)) (hc:X.calm=true) (hi:PI X tg iter (RI X.K f))
 (hg:∀cl C s2 H2 fp,PG (B8 X N' scope cl C s2 H2 fp) tg (RG X.K st)) (ht:∀cl C s2 H2 fp,PIf (B8 X N' scope cl C s2 H2 fp) ifs (RT X.K tst)) (he:∀cl C s2 H2 fp,PE (B8 X N' scope cl C s2 H2 fp) elt (RE X.K el))
 (hs:∀x,foldedSetIterable iter X.env x=pure x:=by intro _;rfl):PE X (.ListComp elt [⟨tg,iter,ifs,0⟩] scope pos) (RF X.K (Cz n fr f st tst el)):=
 BA (Ni O hc hi hg ht he hs) fun _ _ _ q=>RF.comp q
theorem RF.ofPure {K:PySem.W.Frag} {f:M (List D)} {σ:L2.St} {H:Hp} {Q:VK} (q:RE K (Bo f) σ H Q):RF K f σ H Q:=by
 obtain ⟨Oo,c,t,fi,r,t',eq,k⟩:=q
 obtain ⟨ds,t1,e1,eq⟩:=Am eq
 cases eq
 exact ⟨Oo,c,t,fi,ds,_,e1,fun p xs H1 c1 f1 s1 rxs hp=>k _ _ c1 (f1.laid hp) (s1.trans (f1.stp_laid hp)) (.lst AN (f1.s.free hp) (rxs.mono (Ext.laid f1.s hp)))⟩
theorem Cl (tgs:List Str) (frn:List (Nat×Str)) (hk:scope.kind = .function) (hcell:(scope.names.all fun y=>y.2 != .cell)=true) (hloc:(scope.names.all fun y=>y.2 != .local || scope.names.lookup y.1 == some .local)=true)
 (hfree:(scope.names.all fun y=>y.2 != .free || X.env.kindOf y.1 == some .cell || X.env.kindOf y.1 == some .free)=true)
 (hf:(frn.all fun p=>X.N[p.1]? == some p.2 && scope.names.lookup p.2 == some .free)=true):CmpOk X scope (tgs++frn.map (·.2)) (ES tgs.length (frn.map (·.1))):=by
 rw [List.all_eq_true] at hcell hloc hfree hf
 refine ⟨hk,fun y hy=>by simpa using hcell y hy,fun y hy hl=>?_,fun y hy hl=>?_,fun σ _=>by simp [ES],fun σ j x v h1 h2=>?_⟩
 ·have:=hloc y hy
  simpa [hl] using this
 ·have:=hfree y hy
  simpa [hl] using this
 ·unfold ES at h2
  by_cases hj:j < tgs.length
  ·rw [List.getElem?_append_left (by simpa using hj),List.getElem?_replicate] at h2
   split at h2 <;> simp at h2
  ·rw [List.getElem?_append_right (by simpa using hj),List.length_replicate,List.getElem?_map,List.getElem?_map] at h2
   rw [List.getElem?_append_right (by simpa using hj),List.getElem?_map] at h1
   cases e:frn[j - tgs.length]? with
   | none=>rw [e] at h1;cases h1
   | some p=>
     rw [e] at h1 h2
     simp only [Option.map_some,Option.some.injEq] at h1 h2
     have hp:=hf p (List.mem_of_getElem? e)
     rw [Bool.and_eq_true] at hp
     refine ⟨p.1,by rw [←h1];simpa using hp.1,?_,by rw [←h1];simpa using hp.2⟩
     cases e2:σ[p.1]? with
     | none=>rw [e2] at h2;cases h2
     | some o=>rw [e2] at h2;simpa using h2
end
mutual
def B3:D→Bool
 | .tup xs=>Gv xs
 | .lst xs=>Gv xs
 | .obj _=>false
 | .scr _=>false
 | .exc _ _=>false
 | _=>true
def Gv:List D→Bool
 | []=>true
 | d :: r=>B3 d && Gv r
end
def c0:Cf:=⟨[],fun _=>False⟩
theorem Hx (a:Addr):¬c0.A a:=fun h=>h.elim (fun z=>nomatch z) fun z=>z
mutual
theorem DS {K:PySem.W.Frag} {c:Cf} {H:Hp}:∀{v:V} {d:D},Rep K c H v d→B3 d=true→Rep K c0 H v d
 | _,_,.non,_=>.non
 | _,_,.bl b,_=>.bl b
 | _,_,.int i,_=>.int i
 | _,_,.str x,_=>.str x
 | _,_,.ty n,_=>.ty n
 | _,_,.tup h n r,p=>.tup h (Hx _) (Hi r (by simpa [B3] using p))
 | _,_,.lst h n r,p=>.lst h (Hx _) (Hi r (by simpa [B3] using p))
 | _,_,.scr h,p=>by simp [B3] at p
 | _,_,.dic h n,_=>.dic h (Hx _)
 | _,_,.obj h,p=>by simp [B3] at p
 | _,_,.exc _ _ _ _ _,p=>by simp [B3] at p
theorem Hi {K:PySem.W.Frag} {c:Cf} {H:Hp}:∀{vs:List V} {ds:List D},Reps K c H vs ds→Gv ds=true→Reps K c0 H vs ds
 | _,_,.nil,_=>.nil
 | _,_,.cons h t,p=>by
   simp only [Gv,Bool.and_eq_true] at p
   exact .cons (DS h p.1) (Hi t p.2)
end
def Fj (S:List Ob):D→D
 | .obj k=>match S[k]? with
   | some (.lst ds)=>.lst ds
   | _=>.obj k
 | d=>d
def QC:D→Bool
 | .obj _=>true
 | _=>false
def eqS (g:Bool→Bool) (x y:D):M D:=fun t=>
 if (QC x || QC y)=true then (if (B3 (Fj t.S x) && B3 (Fj t.S y))=true then (eqN EQD (Fj t.S x) (Fj t.S y)).map fun b=>(.bl (g b),t) else none)
 else (eqN EQD x y).map fun b=>(.bl (g b),t)
theorem L5 {K:PySem.W.Frag} {c:Cf} {S:List Ob} {H:Hp} {v:V} {d:D} (s:SInv K c S H) (r:Rep K c H v d) (p:B3 (Fj S d)=true):Rep K c0 H v (Fj S d):=by
 cases r with
 | @obj a k hk=>
   unfold Fj at p ⊢
   dsimp only at p ⊢
   split
   ·next ds e=>
    rw [e] at p
    obtain ⟨vs,h1,h2⟩:=s.obs k a _ hk e
    exact .lst h1 (Hx _) (Hi h2 (by simpa [B3] using p))
   ·next h=>
    split at p
    ·next ds e=>exact absurd e (h ds)
    ·simp [B3] at p
 | non=>exact .non
 | bl b=>exact .bl b
 | int b=>exact .int b
 | str b=>exact .str b
 | ty b=>exact .ty b
 | tup h n q=>exact DS (.tup h n q) p
 | lst h n q=>exact DS (.lst h n q) p
 | scr h=>exact DS (c:=c) (.scr h) p
 | dic h n=>exact DS (.dic h n) p
 | exc a b n f q=>exact DS (.exc a b n f q) p
theorem AV {K:PySem.W.Frag} {g:Bool→Bool}:B0 K (Of K g) (eqS g):=fun {Oo c t σ H x y dx dy r t' Q} f rx ry eq k=>by
 unfold eqS at eq
 split at eq
 ·split at eq
  ·next hp=>
   rw [Bool.and_eq_true] at hp
   obtain ⟨b,e1,e2⟩:=Option.map_eq_some_iff.mp eq
   cases e2
   exact ⟨c0,_,_,b,L5 f.s rx hp.1,L5 f.s ry hp.2,e1,k _ H c f .refl (.bl (g b))⟩
  ·cases eq
 ·obtain ⟨b,e1,e2⟩:=Option.map_eq_some_iff.mp eq
  cases e2
  exact ⟨c,dx,dy,b,rx,ry,e1,k _ H c f .refl (.bl (g b))⟩
end F2
namespace L2
open PySem PySem.Spec PyProof.Rows
section
variable {prog:Program} {w:World} {A:Around} {E:Value→Shared→Prop} {s:Shared}
theorem Il {it l:Addr} {items:Array Value} (hne:l≠it):∀(n i:Nat) (s:Shared) (Q:List Value→Shared→Prop),s.heap.IsListIter it l i→s.heap.IsList l items→i + n≤items.size→
 (∀h',h'.IsListIter it l (i + n)→Heap.SameBut it s.heap h'→Q ((items.toList.drop i).take n) { s with heap:=h' })→wpAny (model prog w) A (draw (.ref it) n) Q E s
 | 0,i,s,Q,hit,_,_,hQ=>wpAny_pure (by simpa using hQ s.heap hit (Heap.SameBut.refl ..))
 | n + 1,i,s,Q,hit,ht,hle,hQ=>by
   have hlt:i < items.size:=by lia
   refine wpAny_bind (wpAny_pyNext_list_item hit ht (x:=items[i]) (by simp [hlt]) fun h1 hit1 hs1=>?_)
   refine wpAny_bind (wpAny_holding (Il hne n (i + 1) _ _ hit1 (ht.extBut hs1.extBut hne) (by lia) fun h2 hit2 hs2=>wpAny_pure ?_))
   have hd:items.toList.drop i=items[i] :: items.toList.drop (i + 1):=by simp [List.drop_eq_getElem_cons,hlt]
   have:=hQ h2 (by rw [show i + (n + 1)=i + 1 + n by lia];exact hit2) (hs1.trans hs2)
   rw [hd,List.take_succ_cons] at this
   exact this
theorem Mq {l:Addr} {items:Array Value} {targets:List (Bool×(Value→Sem Unit))} {Q:Unit→Shared→Prop} (hh:A.handled=none) (ht:s.heap.IsList l items) (hn:targets.length=items.size) (hstar:targets.findIdx? (·.1)=none)
 (h:∀h',Heap.ExtBut s.heap.objs.size s.heap h'→wpAny (model prog w) A (assignInOrder (targets.map (·.2)) items.toList) Q E { s with heap:=h' }):wpAny (model prog w) A (unpack (.ref l) targets) Q E s:=by
 have hlt:l≠s.heap.objs.size:=by obtain ⟨o,ho,_⟩:=ht;exact Nat.ne_of_lt (Heap.lt_size ho)
 unfold unpack
 rw [hn,hstar]
 refine wpAny_bind (wpAny_holding ?_)
 unfold unpackItems
 refine wpAny_bind ?_
 unfold notIterableAtAll
 refine wpAny_bind (wpAny_specialOf ht.typeIs PySem.F.slot_list_iter.lookup ?_)
 refine wpAny_pure ?_
 simp only [Bool.false_eq_true,if_false]
 refine wpAny_bind (wpAny_holding (wpAny_pyIter_list ht ?_))
 have hp:Heap.IsList (s.heap.push { cls:=.type "list_iterator",data:=.fields #[.ref l,.int 0 0] }) l items:=by
  obtain ⟨o,ho,r⟩:=ht
  exact ⟨o,Heap.get?_push_of_some _ ho,r⟩
 refine wpAny_bind (wpAny_holding (Il hlt items.size 0 _ _ ⟨_,Heap.get?_push_size _ rfl,rfl,rfl⟩ hp (by lia) fun h1 hit1 hs1=>?_))
 have hall:List.take items.size (List.drop 0 items.toList)=items.toList:=by
  rw [List.drop_zero];exact List.take_of_length_le (by simp)
 rw [hall]
 rw [if_neg (by simp)]
 have ht1:Heap.IsList h1 l items:=hp.extBut hs1.extBut hlt
 refine wpAny_bind (wpAny_holding (wpAny_pyNext_list_end hh hit1 ht1 (by simp) fun h2 he2=>?_))
 simp only [Option.isSome_none,Bool.false_eq_true,if_false]
 exact wpAny_pure (h h2 fun b o hb e=>he2 b o hb (hs1.extBut b o hb (Heap.get?_push_of_some _ e)))
end
section
variable {X:Cx} {pos:Pos}
def gUn (K:PySem.W.Frag) (n:Nat) (t:TGs):TG:=fun v σ H Q=>∃a xs,v = .ref a∧(SqT K H a xs∨SqL K H a xs)∧xs.length=n∧t xs σ H Q
theorem Wm {es:List Expr} {k:Nat} {t:TGs} {n:Nat} (hc:X.calm=true) (h:PGs X es t)
 (hn:(assignEach es X.env).length=n:=by rfl) (hst:(assignEach es X.env).findIdx? (·.1)=none:=by rfl):PG X (.Tuple es k pos) (gUn X.K n t):=by
 intro pins s σ H v u Q I r hw
 obtain ⟨a,xs,e1,hq | hq,hl,hw⟩:=hw
 ·exact Vf hc h hn hst pins s σ H v u Q I r ⟨a,xs,e1,hq,hl,hw⟩
 ·subst e1
  cases r
  obtain ⟨its,rv,ht,hz⟩:=I.list hq
  rw [assign_Tuple]
  refine wpAny_bind (wpAny_standAt (Mq (I.ok.hd hc) ht.isList (by simp [hn,←hl,rv.length]) hst fun h' hx=>?_))
  have I1:Inv X pins σ H { s with heap:=h' }:=I.kept (t':=s.toks) fun b o e=>hx b o (Nat.ne_of_lt (Heap.lt_size e)) e
  exact h pins _ σ H xs _ Q I1 (by simpa using rv) hw
end
section
open HT
variable {prog:Program} {w:World} {A:Around} {E:Value→Shared→Prop} {s:Shared}
theorem GJ {t sl:Addr} {items:Array Value} {vl vu:Value} {lo hi:Option Int} {Q:Value→Shared→Prop} (ht:IsTup s.heap t items) (hs:s.heap.IsSliceOf sl vl vu .none) (pl:IsPart vl lo) (pu:IsPart vu hi)
 (hw:sIx items.size 0 lo=0∧sIx items.size items.size hi=items.size) (h:Q (.ref t) s):wpAny (model prog w) A (getItem (.ref t) (.ref sl)) Q E s:=by
 obtain ⟨os,hos,hcs,hds⟩:=id hs
 have hTs:s.TypeIs (.ref sl) "slice":=⟨os,hos,hcs⟩
 unfold getItem
 try with_reducible refine wpAny_holding ?_
 first | refine wpAny_bind (wpAny_pure ?_) | skip
 refine wpAny_bind (wpAny_sequenceKey ht.typeIs (by decide) ?_)
 refine wpAny_bind (wpAny_callSpecial?_slot (name:=Str.ofString "__getitem__") ht.typeIs PyProof.Rows.slot_tuple_getitem
  (wpAny_call_entry PyProof.Rows.slot_tuple_getitem ht.typeIs entry_tuple_getitem ?_ (args_tuple_getitem _ _)))
 show wpAny _ _ (Builtin.Tuple.tupleItemsOf (.ref t) >>= _) _ _ s
 refine wpAny_bind (tupleItemsOf_ ht ?_)
 refine wpAny_bind (wpAny_typeOf hTs ?_)
 rw [if_pos (by decide)]
 refine wpAny_bind (Fk hs pl pu ?_)
 have hyes:(((sIx items.size 0 lo:Nat):Int) == 0 && (1:Int) == 1 && (sIx items.size items.size hi - sIx items.size 0 lo) == items.size)=true:=by
  rw [hw.1,hw.2];simp
 show wpAny _ _ (if (((sIx items.size 0 lo:Nat):Int) == 0 && (1:Int) == 1 && (sIx items.size items.size hi - sIx items.size 0 lo) == items.size)=true then _ else _) _ _ s
 rw [if_pos hyes]
 refine wpAny_bind (m:=Builtin.Tuple.tupleIsExact _) ?_
 unfold Builtin.Tuple.tupleIsExact
 refine wpAny_bind (wpAny_typeOf ht.typeIs (wpAny_pure ?_))
 rw [if_pos (by decide)]
 first
  | exact wpAny_bind (wpAny_rule (wpAny_pure ⟨_,rfl,wpAny_pure h⟩))
  | exact wpAny_bind (wpAny_rule (wpAny_bind (wpAny_pure (wpAny_pure ⟨_,rfl,wpAny_pure h⟩))))
end
section
variable {X:Cx}
def Vx (K:PySem.W.Frag):V→Option Int→Option Int→Hp→VK→Prop:=fun x lo hi H Q=>∃a xs,x = .ref a∧SqT K H a xs∧(HT.sIx xs.length 0 lo=0∧HT.sIx xs.length xs.length hi=xs.length)∧Q (.ref a) H
theorem T5:SlR X (Vx X.K):=by
 intro pins s σ H x v vl vu lo hi sl Q I rx hs pl pu h
 obtain ⟨a,xs,rfl,hx,hw,q⟩:=h
 cases rx
 obtain ⟨its,r,ht,hz⟩:=I.tuple hx
 have hlen:its.toArray.size=xs.length:=by rw [List.size_toArray];exact r.length.symm
 exact ⟨"tuple",_,PyProof.Rows.slot_tuple_getitem.lookup,ht.typeIs,GJ ht hs pl pu (by rw [hlen];exact hw) ⟨.ref a,H,I,rfl,q⟩⟩
end
def Its (z:Str):It:=⟨fun i _=>i < z.cps.size,fun i H x H'=>H'=H∧∃c,z.cps[i]?=some c∧x = .str ⟨#[c]⟩,fun i _=>i=z.cps.size⟩
theorem Mp {P:Program} {w:World} {K:PySem.W.Frag} {tg:Expr} {T:String} {x:Str} {t:Tok} (it:Addr) (hT:["enumerate", "zip", "dict_itemiterator", "dict_reverseitemiterator", "odict_iterator", "itertools.zip_longest", "itertools.pairwise"].contains T=false)
 (W:∀A:Around,A.handled=none→Walks P w A it [it] [it] x.cps.size (SignAt x) (fun i h=>h.IsStrIter it T x t i))
 (self:∀(A:Around) (i:Nat) (s:Shared) (Q:Value→Shared→Prop) (E:Value→Shared→Prop),s.heap.IsStrIter it T x t i→Q (.ref it) s→wpAny (model P w) A (pyIter (.ref it)) Q E s) :
 Turn P w K tg (Its x) [it] it (fun i h=>h.IsStrIter it T x t i) where
 mem:=by simp
 obj:=fun i h st b hb=>by
  have e:b=it:=by simpa using hb
  subst e
  obtain ⟨o,e,c,d⟩:=st
  exact ⟨o,e,fun v z=>by rw [d] at z;cases z⟩
 keep:=fun i h h' st k=>by
  obtain ⟨o,e,r⟩:=st
  exact ⟨o,k it (by simp) o e,r⟩
 item:=by
  intro X hP hw hK hc i pins s σ H E I hf st hg
  subst hP hw hK
  obtain ⟨f0,f1,f2,f3,f4,f5⟩:=hf it (by simp)
  refine wpAny_with_toks (Nat.le_refl s.toks) ((W X.A (I.ok.hd hc)).item i s _ _ hg st fun v h' tk hv st' kk ht=>?_)
  obtain ⟨c,u,hcc,rfl⟩:=hv
  have I1:Inv X pins σ H { s with heap:=h',toks:=tk }:=I.turned (fun b o hb e=>kk b o (by simpa using hb) e) f0 f1 f3 f4 f5
  obtain ⟨o,e,ec,ed⟩:=id st'
  exact ⟨_,rfl,KI (s:={ s with heap:=h',toks:=tk }) e ec ed hT ⟨.str ⟨#[c]⟩,H,I1,⟨u,rfl⟩,⟨rfl,c,hcc,rfl⟩,st',fun b hb=>(hf b hb).1⟩⟩
 done:=by
  intro X hP hw hK hc i pins s σ H E I hf st hg
  subst hP hw hK
  obtain ⟨f0,f1,f2,f3,f4,f5⟩:=hf it (by simp)
  have hg':i=x.cps.size:=hg
  subst hg'
  exact wpAny_with_toks (Nat.le_refl s.toks) ((W X.A (I.ok.hd hc)).done s _ _ st fun h' tk kk ht=>⟨rfl,I.turned (fun b o hb e=>kk b o (by simpa using hb) e) f0 f1 f3 f4 f5⟩)
 self:=fun A i s Q E st h=>self A i s Q E st h
section
variable {X:Cx} {tg:Expr} {pos:Pos}
def Xk (K:PySem.W.Frag) (tl:TE):TI:=fun σ H R=>tl σ H fun x H1=>(∃a,x = .ref a∧(∃xs,SqL K H1 a xs)∧R (Itl K a) H1)∨(∃a,x = .ref a∧(∃xs,SqT K H1 a xs)∧R (Itt K a) H1)∨∃z,x = .str z∧R (Its z) H1
theorem Pw {l:Expr} {tl:TE} (hl:PE X l tl):PI X tg l (Xk X.K tl):=by
 intro pins s σ H R I h
 refine thn (hl pins s σ H _ I h) fun v s1 ⟨x,H1,I1,r1,q1⟩=>?_
 have fp:∀b∈[s1.heap.objs.size],FpOk X pins H1 b:=fun b hb=>by
  have e:b=s1.heap.objs.size:=by simpa using hb
  subst e
  exact I1.fpOk (Nat.le_refl _) (I1.hok.fresh (Nat.le_refl _))
 rcases q1 with ⟨a,rfl,⟨xs,hq⟩,q⟩ | ⟨a,rfl,⟨xs,hq⟩,q⟩ | ⟨z,rfl,q⟩
 ·cases r1
  obtain ⟨its,rv,p,hz⟩:=I1.list hq
  refine wpAny_pyIter_list p.isList ?_
  exact ⟨s1.heap.objs.size,[s1.heap.objs.size],_,_,H1,rfl,I1.kept (t':=s1.toks) fun b o e=>Heap.get?_push_of_some _ e,PZ a _,⟨_,Heap.get?_push_size _ rfl,rfl,rfl⟩,fp,q⟩
 ·cases r1
  obtain ⟨its,rv,p,hz⟩:=I1.tuple hq
  refine wpAny_pyIter_tuple (show s1.heap.IsTuple a its.toArray from p) ?_
  exact ⟨s1.heap.objs.size,[s1.heap.objs.size],_,_,H1,rfl,I1.kept (t':=s1.toks) fun b o e=>Heap.get?_push_of_some _ e,On a _,⟨_,Heap.get?_push_size _ rfl,rfl,rfl⟩,fp,q⟩
 ·obtain ⟨t,rfl⟩:=r1
  cases ha:z.cps.all (· < 128)
  ·refine wpAny_pyIter_wide ha ?_
   exact ⟨s1.heap.objs.size,[s1.heap.objs.size],_,_,H1,rfl,I1.kept (t':=s1.toks) fun b o e=>Heap.get?_push_of_some _ e,Mp (T:="str_iterator") (x:=z) (t:=t) _ (by decide) (fun A hA=>Walks.strWide hA _ z t) (fun _ _ _ _ _ st h=>wpAny_pyIter_striter_wide st h),⟨_,Heap.get?_push_size _ rfl,rfl,rfl⟩,fp,q⟩
  ·refine wpAny_pyIter_ascii ha ?_
   exact ⟨s1.heap.objs.size,[s1.heap.objs.size],_,_,H1,rfl,I1.kept (t':=s1.toks) fun b o e=>Heap.get?_push_of_some _ e,Mp (T:="str_ascii_iterator") (x:=z) (t:=t) _ (by decide) (fun A hA=>Walks.strAscii hA _ z t) (fun _ _ _ _ _ st h=>wpAny_pyIter_striter_ascii st h),⟨_,Heap.get?_push_size _ rfl,rfl,rfl⟩,fp,q⟩
def R6:R2:=fun x y H Q=>∃z k,x = .str z∧y = .int k∧MulOk z k∧Q (.str (Txt.mul z k)) H
theorem Tl:OpR X (binaryOp .Mult) R6:=by
 intro pins s σ H x y v u Q I rx ry h
 obtain ⟨z,k,rfl,rfl,hk,q⟩:=h
 obtain ⟨t,rfl⟩:=rx
 obtain ⟨t',rfl⟩:=ry
 exact wpAny_with_toks (Nat.le_refl s.toks) (SB.mul hk fun t2 tk ht=>⟨.str _,H,I.tok tk,⟨t2,rfl⟩,q⟩)
def Vv:V→Option Int→Option Int→Hp→VK→Prop:=fun x lo hi H Q=>∃z,x = .str z∧z.length≤sizeLine∧Q (.str (Txt.slice z lo hi)) H
theorem sl_str:SlR X Vv:=by
 intro pins s σ H x v vl vu lo hi sl Q I rx hs pl pu h
 obtain ⟨z,rfl,hz,q⟩:=h
 obtain ⟨t,rfl⟩:=rx
 refine ⟨"str",_,PySem.F.slot_str_getitem.lookup,typeIs_str _ _ _,?_⟩
 have part:∀{v:Value} {o:Option Int},IsPart v o→∃l:Option (Int×Tok),v=partValue l∧l.map (·.1)=o:=fun {v o} p=>by
  cases p with
  | none=>exact ⟨none,rfl,rfl⟩
  | int i t=>exact ⟨some (i,t),rfl,rfl⟩
 obtain ⟨l,rfl,el⟩:=part pl
 obtain ⟨u,rfl,eu⟩:=part pu
 refine wpAny_getItem_str_slice (l:=l) (u:=u) (st:=none) (by obtain ⟨o,h1,h2,h3⟩:=hs;exact ⟨o,h1,h2,h3⟩) rfl ?_
 unfold sliceMade slicePicked
 rw [el,eu]
 show (if ((1:Int) == 1 && (Builtin.Str.strSliceIndices lo hi 1 z.length).length == z.length)=true then Made.val (.str z t) else Made.str ⟨((Builtin.Str.strSliceIndices lo hi 1 z.length).filterMap (z.cps[·]?)).toArray⟩).post _ s
 have hle:=Txt.slice_le z lo hi
 unfold Txt.slice at q hle
 by_cases hc:((1:Int) == 1 && (Builtin.Str.strSliceIndices lo hi 1 z.length).length == z.length)=true
 ·rw [if_pos hc] at q ⊢
  exact ⟨.str z,H,I,⟨t,rfl⟩,q⟩
 ·rw [if_neg hc] at q hle ⊢
  exact ⟨Nat.le_trans hle hz,.str _,H,I.tok _,⟨_,rfl⟩,q⟩
def HQ (g:Int→Int→Bool) (h:List Nat→List Nat→Bool):R2:=fun x y H Q=>(∃i j,x = .int i∧y = .int j∧Q (.bl (g i j)) H)∨∃i j,x = .str i∧y = .str j∧Q (.bl (h i.cps.toList j.cps.toList)) H
theorem F6:OpR X (compareOp .Lt) (HQ (fun i j=>decide (i < j)) fun i j=>decide (i < j)):=op_lt.or fun pins s σ H x y v u Q I rx ry h=>by
 obtain ⟨i,j,rfl,rfl,q⟩:=h
 obtain ⟨t,rfl⟩:=rx
 obtain ⟨t',rfl⟩:=ry
 exact P.lt_str ⟨.bl _,H,I,rfl,q⟩
theorem CQ:OpR X (compareOp .LtE) (HQ (fun i j=>decide (i≤j)) fun i j=>!(decide (j < i))):=op_le.or fun pins s σ H x y v u Q I rx ry h=>by
 obtain ⟨i,j,rfl,rfl,q⟩:=h
 obtain ⟨t,rfl⟩:=rx
 obtain ⟨t',rfl⟩:=ry
 exact P.le_str ⟨.bl _,H,I,rfl,q⟩
theorem IF:OpR X (compareOp .Gt) (HQ (fun i j=>decide (j < i)) fun i j=>decide (j < i)):=op_gt.or fun pins s σ H x y v u Q I rx ry h=>by
 obtain ⟨i,j,rfl,rfl,q⟩:=h
 obtain ⟨t,rfl⟩:=rx
 obtain ⟨t',rfl⟩:=ry
 exact P.gt_str ⟨.bl _,H,I,rfl,q⟩
end
end L2
namespace F2
open PySem L2 PySem.Spec
def Dz:D→M (List D)
 | .lst ds=>ret ds
 | .scr ns=>ret (ns.map .int)
 | .tup ds=>ret ds
 | .str x=>ret (x.cps.toList.map fun c=>.str ⟨#[c]⟩)
 | _=>fail
def CF (f:M D):M (List D):=bnd f Dz
def Js:D→D→M D
 | .str x,.int k=>fun t=>if CW k=true∧x.length * k.toNat≤LIM∧k≤LIM∧x.length≤LIM then some (.str (Txt.mul x k),t) else none
 | x,y=>LF x y
def Ca:D→Option Int→Option Int→M D
 | .str x,lo,hi=>lim x.length (.str (Txt.slice x lo hi))
 | .tup ds,lo,hi=>ret (.tup (cutD ds lo hi))
 | x,lo,hi=>slD x lo hi
def Lg (g:Int→Int→Bool) (h:List Nat→List Nat→Bool):D→D→M D
 | .int i,.int j=>ret (.bl (g i j))
 | .str x,.str y=>ret (.bl (h x.cps.toList y.cps.toList))
 | _,_=>fail
def ltA:=Lg (fun i j=>decide (i < j)) (fun i j=>decide (i < j))
def leA:=Lg (fun i j=>decide (i≤j)) (fun i j=>!(decide (j < i)))
def gtA:=Lg (fun i j=>decide (j < i)) (fun i j=>decide (j < i))
def geA:=Lg (fun i j=>decide (j≤i)) (fun i j=>!(decide (i < j)))
def unS (n:Nat) (g:List D→M Unit):D→M Unit
 | .tup ds=>if ds.length=n then g ds else fail
 | .lst ds=>if ds.length=n then g ds else fail
 | _=>fail
def Xd:M D:=fC .dic
section
variable {X:Cx} {e a b:Expr} {pos:Pos} {st:Stmt}
theorem D5 {μ:Cf→Hp→D→(V→Hp→Prop)→Prop}:PS X st (RSg X.K μ fail):=fun pins s σ H E I ⟨Oo,c,t,fi,o,t',eq,k⟩=>by cases eq
theorem ItOk.str {K:PySem.W.Frag} {c:Cf} {H:Hp} {x:Str}:ItOk K (Its x) c H (x.cps.toList.map fun c=>.str ⟨#[c]⟩):=by
 refine ⟨fun c' H' i ex hi=>?_,fun c' H' i y H'' d ex hd hy=>?_,fun c' H' ex=>?_⟩
 ·show i < x.cps.size
  simpa using hi
 ·obtain ⟨rfl,n,hn,rfl⟩:=hy
  refine ⟨rfl,?_⟩
  have:d = .str ⟨#[n]⟩:=by
   rw [List.getElem?_map] at hd
   have hn':x.cps.toList[i]?=some n:=by simpa using hn
   rw [hn'] at hd
   simpa using hd.symm
  rw [this]
  exact .str _
 ·show _=x.cps.size
  simp
theorem Cv {tg:Expr} {f:M D} (h:PE X e (RE X.K f)):PI X tg e (RI X.K (CF f)):=
 KZ (Pw h) fun σ H R ⟨Oo,c,t,fi,ds,t',eq,k⟩=>by
  obtain ⟨d,t1,e1,eq⟩:=Am eq
  refine ⟨Oo,c,t,fi,d,t1,e1,fun v H1 c1 f1 s1 rv=>?_⟩
  cases rv with
  | @lst p vs ds' h1 h2 h3=>
    cases eq
    exact .inl ⟨p,rfl,⟨vs,SqL.of h1⟩,k _ H1 c1 f1 s1 (ItOk.lst fun c' H' ex=>⟨vs,SqL.of (ex.keep _ _ h1 h2),h3.mono ex⟩)⟩
  | @scr p ns h1=>
    cases eq
    exact .inl ⟨p,rfl,⟨_,h1.sq⟩,k _ H1 c1 f1 s1 (ItOk.lst fun c' H' ex=>⟨_,(h1.mono ex).sq,Reps.ints ns⟩)⟩
  | @tup p vs ds' h1 h2 h3=>
    cases eq
    exact .inr (.inl ⟨p,rfl,⟨vs,SqT.of h1⟩,k _ H1 c1 f1 s1 (ItOk.tup fun c' H' ex=>⟨vs,SqT.of (ex.keep _ _ h1 h2),h3.mono ex⟩)⟩)
  | str x=>
    cases eq
    exact .inr (.inr ⟨x,rfl,k _ H1 c1 f1 s1 ItOk.str⟩)
  | _=>cases eq
theorem RG.un {K:PySem.W.Frag} {n:Nat} {g:List D→M Unit} {v:V} {σ:L2.St} {H:Hp} {Q:L2.St→Hp→Prop} (q:RG K (unS n g) v σ H Q):gUn K n (RGs K g) v σ H Q:=by
 obtain ⟨Oo,c,t,d,fi,rv,t',eq,k⟩:=q
 cases rv with
 | @tup a vs ds h1 h2 h3=>
   unfold unS at eq
   by_cases hn:ds.length=n
   ·dsimp only at eq
    rw [if_pos hn] at eq
    exact ⟨a,vs,rfl,.inl (SqT.of h1),by rw [h3.length];exact hn,Oo,c,t,ds,fi,h3,t',eq,k⟩
   ·dsimp only at eq
    rw [if_neg hn] at eq;cases eq
 | @lst a vs ds h1 h2 h3=>
   unfold unS at eq
   by_cases hn:ds.length=n
   ·dsimp only at eq
    rw [if_pos hn] at eq
    exact ⟨a,vs,rfl,.inr (SqL.of h1),by rw [h3.length];exact hn,Oo,c,t,ds,fi,h3,t',eq,k⟩
   ·dsimp only at eq
    rw [if_neg hn] at eq;cases eq
 | _=>cases eq
theorem RL {es:List Expr} {k n:Nat} {g:List D→M Unit} (hc:X.calm=true) (h:PGs X es (RGs X.K g)) (hn:(assignEach es X.env).length=n:=by rfl) (hst:(assignEach es X.env).findIdx? (·.1)=none:=by rfl):PG X (.Tuple es k pos) (RG X.K (unS n g)):=
 H9 (Wm hc h hn hst) fun _ _ _ _ q=>RG.un q
theorem Eo {es:List Expr} {f:D→M Unit} {g:List D→M Unit} (h1:PG X e (RG X.K f)) (h2:PGs X es (RGs X.K g)) (hs:(assignEach (e :: es) X.env).map (·.2)=assign e X.env :: (assignEach es X.env).map (·.2):=by rfl):PGs X (e :: es) (RGs X.K (C7 f g)):=
 MT (QV h1 h2 hs) fun _ _ _ _ q=>RGs.cons q
end
section
variable {K:PySem.W.Frag}
def R5 (K:PySem.W.Frag):R2:=fun x y H Q=>Og K x y H Q∨R6 x y H Q
theorem Ng {X:Cx}:OpR X (binaryOp .Mult) (R5 X.K):=op_mul3.or Tl
theorem MH {x:Str} {k:Int} (h:CW k=true∧x.length * k.toNat≤LIM∧k≤LIM∧x.length≤LIM):MulOk x k:=by
 obtain ⟨g1,g2⟩:=FH h.1
 have hL:LIM=100000:=rfl
 refine ⟨?_,fun h1 _=>?_,fun h1 _=>?_⟩
 ·rw [Bool.or_eq_false_iff];exact ⟨decide_eq_false (by lia),decide_eq_false (by lia)⟩
 ·have h2:k≤100000:=by have:=h.2.2.1;rw [hL] at this;exact this
  have h3:x.length≤100000:=by have:=h.2.2.2;rw [hL] at this;exact this
  have h4:(92233720368547:Int)≤(2 ^ 63 - 1) / k:=by
   rw [Int.le_ediv_iff_mul_le (by lia)]
   lia
  lia
 ·have h5:=h.2.1
  rw [hL] at h5
  unfold Builtin.Str.tooLong
  first | exact decide_eq_false (by unfold sizeLine;lia) | (unfold sizeLine;exact decide_eq_false (by lia))
theorem Mc:B0 K (R5 K) Js:=fun {Oo c t σ H x y dx dy r t' Q} f rx ry eq k=>by
 unfold Js at eq
 split at eq
 ·next z kk=>
  split at eq
  ·next h=>
   cases eq
   cases rx
   cases ry
   exact .inr ⟨z,kk,rfl,rfl,MH h,k _ H c f .refl (.str _)⟩
  ·cases eq
 ·exact .inl (TY f rx ry eq k)
def Vt (K:PySem.W.Frag):V→Option Int→Option Int→Hp→VK→Prop:=fun x lo hi H Q=>Q5 K x lo hi H Q∨(Vv x lo hi H Q∨Vx K x lo hi H Q)
theorem sl3 {X:Cx}:SlR X (Vt X.K):=sl2.or (sl_str.or T5)
theorem NQ {α:Type} {xs:List α} {lo hi:Option Int} (h:HT.sIx xs.length 0 lo=0∧HT.sIx xs.length xs.length hi=xs.length):cutD xs lo hi=xs:=by
 unfold cutD;rw [h.1,h.2];simp
theorem CJ:Qg K (Vt K) Ca:=fun {Oo c t σ H x dx r lo hi t' Q} f rx eq k=>by
 unfold Ca at eq
 split at eq
 ·next z=>
  obtain ⟨h,e⟩:=Eu eq
  cases e
  cases rx
  exact .inr (.inl ⟨z,rfl,Nat.le_trans h Ct,k _ H c f .refl (.str _)⟩)
 ·next ds=>
  cases eq
  cases rx with
  | @tup p vs ds h1 h2 h3=>
    by_cases hw:HT.sIx ds.length 0 lo=0∧HT.sIx ds.length ds.length hi=ds.length
    ·rw [NQ hw] at k
     exact .inr (.inr ⟨p,vs,rfl,SqT.of h1,by rw [h3.length];exact hw,k _ H c f .refl (.tup h1 h2 h3)⟩)
    ·exact .inl (.inr ⟨p,vs,rfl,SqT.of h1,by rw [h3.length];exact hw,fun q hq=>k _ _ c (f.laid hq) (f.stp_laid hq) (.tup AN (f.s.free hq) ((HS h3 lo hi).mono (Ext.laid f.s hq)))⟩)
 ·exact .inl (VH f rx eq k)
theorem JN {g:Int→Int→Bool} {h:List Nat→List Nat→Bool}:B0 K (HQ g h) (Lg g h):=fun {Oo c t σ H x y dx dy r t' Q} f rx ry eq k=>by
 cases rx with
 | int i=>cases ry with
   | int j=>cases eq;exact .inl ⟨i,j,rfl,rfl,k _ H c f .refl (.bl _)⟩
   | _=>cases eq
 | str i=>cases ry with
   | str j=>cases eq;exact .inr ⟨i,j,rfl,rfl,k _ H c f .refl (.bl _)⟩
   | _=>cases eq
 | _=>cases eq
theorem E8:B0 K (HQ (fun i j=>decide (i < j)) fun i j=>decide (i < j)) ltA:=JN
theorem Ch:B0 K (HQ (fun i j=>decide (i≤j)) fun i j=>!(decide (j < i))) leA:=JN
theorem Hj:B0 K (HQ (fun i j=>decide (j < i)) fun i j=>decide (j < i)) gtA:=JN
end
theorem Bg {P:Program} {w:World} {K:PySem.W.Frag} {mg:Str→Option Value} {base:Heap} {x qual:Str} {st:Stmt} {fa:Addr} {fd:FuncData} {N ps:List Str} {k n m:Nat} {g:M Out} (e1:ps.length=n) (e2:N.length=m) (F:Fun K x qual st fa fd) (S:FnScope N ps (Aw st))
 (hb:∀(cdv:Value) (A:Around) (outer:List Env) (s:Shared) (H:Hp) (E:XK),Room k (A.deeper (PyProof.Rows.envOfC qual (Aw st) s.heap.objs.size fa cdv))→
   PSs (Gi CX0 P w K mg base N qual (Aw st) fa cdv A outer s H E).nox (Dj st) (RS K g)):FnOk P w K mg base CX0 (k + 1) fa fd ps (spF K (fnOf n m g)):=by
 subst e1 e2
 exact V9 F S hb
theorem Be {P:Program} {w:World} {K:PySem.W.Frag} {mg:Str→Option Value} {base:Heap} {fa:Addr} {fd:FuncData} {ps:List Str} {k:Nat} {f g:Fn} (e:f=g) (h:FnOk P w K mg base CX0 k fa fd ps (spF K g)):FnOk P w K mg base CX0 k fa fd ps (spF K f):=by rw [e];exact h
theorem B1:bootBuiltins "len" = some (.builtin "len"):=by decide +kernel
theorem A0:bootBuiltins "isinstance" = some (.builtin "isinstance"):=by decide +kernel
theorem K6:bootBuiltins "int" = some (.type "int"):=by decide +kernel
theorem Dd:bootBuiltins "str" = some (.type "str"):=by decide +kernel
theorem MY:bootBuiltins "bool" = some (.type "bool"):=by decide +kernel
theorem E5:bootBuiltins "list" = some (.type "list"):=by decide +kernel
theorem CS:bootBuiltins "tuple" = some (.type "tuple"):=by decide +kernel
def C2:Expr→Bool
 | .Starred _ _=>true
 | _=>false
theorem CK {e:Expr} {es:List Expr} {env:Env} (h:C2 e=false):starEach (e :: es) env=(false,eval e env) :: starEach es env:=by
 cases e <;> first | rfl | cases h
def C5 (es:List Expr):Bool:=es.all fun e=>!C2 e
theorem Cr:∀{es:List Expr} {env:Env} {p:Pos},C5 es=true→(backTo p (starEach es env)).any (·.1)=false∧(backTo p (starEach es env)).all (fun x=>!x.1)=true
 | [],env,p,_=>⟨rfl,rfl⟩
 | e :: es,env,p,h=>by
   have h':C2 e=false∧C5 es=true:=by
    rw [C5,List.all_cons,Bool.and_eq_true] at h
    exact ⟨by simpa using h.1,h.2⟩
   obtain ⟨h1,h2⟩:=Cr (es:=es) (env:=env) (p:=p) h'.2
   rw [CK h'.1]
   refine ⟨?_,?_⟩
   ·show (false || (backTo p (starEach es env)).any (·.1))=false
    rw [h1];rfl
   ·show (!false && (backTo p (starEach es env)).all (fun x=>!x.1))=true
    rw [h2];rfl
section
variable {X:Cx} {e a b:Expr} {es:List Expr} {pos:Pos}
theorem Aa {f:M D} {g:M (List D)} (ha:PE X e (RE X.K f)) (hr:PA X es (RA X.K g)) (hs:C2 e=false:=by rfl):PA X (e :: es) (RA X.K (Ac f g)):=SE ha hr (CK hs)
theorem An {k:Nat} {fa:Addr} {fd:FuncData} {ps:List Str} {g:Fn} {f:M (List D)} {x:Str} {p:Pos} (F:FnOk X.prog X.w X.K X.mg X.base CX0 k fa fd ps (spF X.K g)) (hr:Room k X.A) (hg:Gl X x) (hm:X.mg x=some (.ref fa)) (hk:PySem.W.keepIn X.K (.ref fa)=true) (hb:Binds X.K fd ps [])
 (ha:PA X (e :: es) (RA X.K f)) (hdb:(x == ("__debug__" : Str))=false:=by decide) (h1:C2 e=false:=by rfl) (h2:C5 es=true:=by rfl) :
 PE X (.Call (.Name x p) (e :: es) [] pos) (RE X.K (Av g f)):=SF F hr hg hm hk hb ha hdb (CK h1) (Cr h2).1
theorem Br {id:String} {R:List V→Hp→VK→Prop} {h:List D→M D} {f:M (List D)} {x:Str} {p:Pos} (hc:CL X (.builtin id) R) (s:EN X.K R h) (hg:Gl X x) (hm:X.mg x=none) (hv:bootBuiltins x=some (.builtin id)) (ha:PA X (e :: es) (RA X.K f)) (hn:x≠"__name__":=by decide) (hdb:(x == ("__debug__" : Str))=false:=by decide)
 (h1:C2 e=false:=by rfl) (h2:C5 es=true:=by rfl):PE X (.Call (.Name x p) (e :: es) [] pos) (RE X.K (fB f h)):=Xe hc s hg hm hv ha hn hdb (CK h1) (Cr h2).1
theorem Ea {id:String} {R:List V→Hp→VK→Prop} {h:List D→M D} {f:M (List D)} {x:Str} {p:Pos} (hc:CL X (.type id) R) (s:EN X.K R h) (hg:Gl X x) (hm:X.mg x=none) (hv:bootBuiltins x=some (.type id)) (ha:PA X (e :: es) (RA X.K f)) (hn:x≠"__name__":=by decide) (hdb:(x == ("__debug__" : Str))=false:=by decide)
 (h1:C2 e=false:=by rfl) (h2:C5 es=true:=by rfl):PE X (.Call (.Name x p) (e :: es) [] pos) (RE X.K (fB f h)):=Xf hc s hg hm hv ha hn hdb (CK h1) (Cr h2).1
theorem RK {id:String} {R:List V→Hp→VK→Prop} {h:List D→M (List D)} {f:M (List D)} {x:Str} {p:Pos} (hc:CL X (.type id) R) (s:KB X.K R h) (hg:Gl X x) (hm:X.mg x=none) (hv:bootBuiltins x=some (.type id)) (ha:PA X (e :: es) (RA X.K f)) (hn:x≠"__name__":=by decide) (hdb:(x == ("__debug__" : Str))=false:=by decide)
 (h1:C2 e=false:=by rfl) (h2:C5 es=true:=by rfl):PE X (.Call (.Name x p) (e :: es) [] pos) (RF X.K (fBF f h)):=Xg hc s hg hm hv ha hn hdb (CK h1) (Cr h2).1
theorem DE {tg:Expr} {f:M (List D)} {p:Pos} (hg:Gl X "range") (hm:X.mg "range" = none) (ha:PA X [a] (RA X.K f)) (h1:C2 a=false:=by rfl):PI X tg (.Call (.Name "range" p) [a] [] pos) (RI X.K (D9 f)):=O0 hg hm ha (CK h1)
theorem OY {cpos:Pos} (h1:C2 e=false) (h2:C5 es=true) (h3:es.length < 20):((backTo cpos (starEach (e :: es) X.env)).all (fun x=>!x.1) && (backToKw cpos (keywordEach [] X.env)).all (fun x=>x.1.isSome) && decide ((e :: es).length + ([]:List Keyword).length + (if ([]:List Keyword).isEmpty then 0 else 1) < 30))=true:=by
 rw [(Cr (es:=e :: es) (env:=X.env) (p:=cpos) (by rw [C5,List.all_cons,h1];exact h2)).2]
 show (true && true && decide (es.length + 1 + 0 + 0 < 30))=true
 simp;lia
theorem Iq {μ:Cf→Hp→D→(V→Hp→Prop)→Prop} (i:Nat) {x:Str} {g:M (List D)} {px apos cpos:Pos} (ha:PA X (e :: es) (RA X.K g)) (hN:X.N[i]?=some x:=by rfl) (hv:Vis X.env.scope x:=by first | exact Or.inl rfl | exact Or.inr (Or.inl rfl) | exact Or.inr (Or.inr rfl)) (hd:(x == ("__debug__" : Str))=false:=by decide)
 (hcd:(x == ("__classdict__" : Str))=false:=by decide) (hline:(apos.endLine == cpos.line)=true:=by rfl) (h1:C2 e=false:=by rfl) (h2:C5 es=true:=by rfl) (h3:es.length < 20:=by decide) :
 PS X (.Expr (.Call (.Attribute (.Name x px) "append" apos) (e :: es) [] cpos) pos) (RSg X.K μ (ownM i Dm g)):=O1 i ha hN hv hd hcd rfl (OY h1 h2 h3) hline (CK h1) (Cr h2).1
theorem NU {μ:Cf→Hp→D→(V→Hp→Prop)→Prop} (i:Nat) {x:Str} {g:M (List D)} {px apos cpos:Pos} (ha:PA X (e :: es) (RA X.K g)) (hN:X.N[i]?=some x:=by rfl) (hv:Vis X.env.scope x:=by first | exact Or.inl rfl | exact Or.inr (Or.inl rfl) | exact Or.inr (Or.inr rfl)) (hd:(x == ("__debug__" : Str))=false:=by decide)
 (hcd:(x == ("__classdict__" : Str))=false:=by decide) (hline:(apos.endLine == cpos.line)=true:=by rfl) (h1:C2 e=false:=by rfl) (h2:C5 es=true:=by rfl) (h3:es.length < 20:=by decide) :
 PS X (.Expr (.Call (.Attribute (.Name x px) "extend" apos) (e :: es) [] cpos) pos) (RSg X.K μ (ownM i HA g)):=O2 i ha hN hv hd hcd rfl (OY h1 h2 h3) hline (CK h1) (Cr h2).1
end
end F2
namespace HT
open PySem PySem.Spec L2 PyProof.Rows
section
variable {prog:Program} {w:World} {A:Around} {E:Value→Shared→Prop} {s:Shared}
end
end HT
namespace L2
open PySem PySem.Spec PyProof.Rows
section
variable {X:Cx} {e ek:Expr} {p2 pos:Pos} {te:TE} {tk:TO}
end
section
variable {X:Cx}
end
section
variable {X:Cx}
end
section
variable {X:Cx}
end
end L2
namespace F2
open PySem L2 PySem.Spec
section
variable {X:Cx} {K:PySem.W.Frag}
def Fo:List D→Option (List Str)
 | []=>some []
 | .str x :: r=>if x.length≤8 then (Fo r).map (x :: ·) else none
 | _=>none
theorem Ml {c:Cf} {H:Hp}:∀{ds:List D} {vs:List V} {ys:List Str},Reps K c H vs ds→Fo ds=some ys→vs=ys.map V.str∧∀y∈ys,y.length≤8
 | [],_,ys,r,e=>by
   cases r
   cases e
   exact ⟨rfl,fun _ h=>nomatch h⟩
 | d :: ds,_,ys,r,e=>by
   cases r with
   | cons r1 r2=>
     cases r1 with
     | str x=>
       unfold Fo at e
       split at e
       ·next hx=>
        obtain ⟨zs,e1,rfl⟩:=Option.map_eq_some_iff.mp e
        obtain ⟨h1,h2⟩:=Ml r2 e1
        refine ⟨by rw [h1];rfl,fun y hy=>?_⟩
        rcases List.mem_cons.mp hy with rfl | hy
        ·exact hx
        ·exact h2 y hy
       ·cases e
     | _=>cases e
end
end F2
namespace L2
open PySem PySem.Spec PyProof.Rows
def PH:R2:=fun x y H Q=>∃a kvs k v,x = .ref a∧y = .str k∧H a=some (.dK kvs)∧ET kvs (Sum.inr k:Key)=some v∧Q v H
def Vn:V→V→V→Hp→(Hp→Prop)→Prop:=fun o i v H Q=>∃a kvs k,o = .ref a∧i = .str k∧H a=some (.dK kvs)∧kvs.length < sizeLine∧Q (upd H a (.dK (DN kvs (Sum.inr k:Key) v)))
section
variable {X:Cx}
theorem Iv:IxR X PH:=by
 intro value slice pins s σ H x y v u Q I rx ry h hs
 obtain ⟨a,kvs,k,z,rfl,rfl,e,l,q⟩:=h
 cases rx
 obtain ⟨_,_,vs,rel,dd⟩:=NS I.hok e
 have g:DGet H a (kV (Sum.inr k:Key)) (some z):=by rw [←l];exact DGet.k e
 have hT:=dd.typeIs
 unfold subscriptTail
 refine wpAny_bind ?_
 rw [getitemInPython_of_ne hT.not_modules]
 refine wpAny_bind (wpAny_specialOf hT PySem.F.slot_dict_getitem.lookup ?_)
 have get:wpAny (model X.prog X.w) X.A (getItem (.ref a) u) (EP X pins σ Q) X.xe s:=by
  obtain ⟨w',hw,rw'⟩:=RelO.some_of (v:=z) (o:=valueAt vs (Sum.inr k:Key)) (by rw [←l];exact rel.val _)
  exact wpAny_getItem_of (N0 (k:=(Sum.inr k:Key)) ry) dd.mapOf hw ⟨z,H,I.tok _,rw',q⟩
 have fin:wpAny (model X.prog X.w) X.A (subscripted slice false (.ref a) u) (fun r s₃=>wpAny (model X.prog X.w) X.A (letTemporaryGo value (.ref a) r >>= fun _=>pure r) (EP X pins σ Q) X.xe s₃) X.xe s:=by
  rw [hs]
  exact wpAny_operating (wpAny_mono get (fun r s₃ h₃=>wpAny_bind (wpAny_letTemporaryGo (wpAny_pure h₃))) fun _ _ x=>x)
 first
  | exact wpAny_pure (wpAny_bind fin)
  | exact wpAny_bind (wpAny_pure (wpAny_bind fin))
  | exact wpAny_bind fin
theorem TZ:Qe X Vn:=by
 intro pins s σ H o i v ov iv u Q I ro ri rv h
 obtain ⟨a,kvs,k,rfl,rfl,e,l,q⟩:=h
 cases ro
 obtain ⟨z,hd,vs,rel,dd⟩:=NS I.hok e
 have hz:vs.length≤sizeLine:=by rw [←rel.length];exact z
 have hl:(DN kvs (Sum.inr k:Key) v).length≤sizeLine:=by have:=Ht kvs (Sum.inr k:Key) v;lia
 refine wpAny_setItem_pairs (hsz:=hz) (N0 (k:=(Sum.inr k:Key)) ri) dd fun h' dd' hs=>⟨_,?_,q⟩
 have he:∃q,h'.get? a=some q:=let ⟨q,_,_,hq,_⟩:=dd';⟨q,hq⟩
 exact M1 I (by rw [e];exact True.intro) hs he (OU hl hd (rel.put _ rv) dd')
end
end L2
namespace F2
open PySem L2 PySem.Spec
def CV (kvs:List (Key×D)) (k:Key):Option D:=(kvs.find? fun kv=>decide (kv.1=k)).map (·.2)
def CN (kvs:List (Key×D)) (k:Key) (d:D):List (Key×D):=
 if (kvs.any fun kv=>decide (kv.1=k))=true then kvs.map (fun kv=>if kv.1=k then (kv.1,d) else kv) else kvs++[(k,d)]
def Fv:D→D→M D
 | .obj n,.str x=>fun t=>match t.S[n]? with
   | some (.dct kvs)=>(CV kvs (.inr x)).map fun d=>(d,t)
   | _=>none
 | _,_=>fail
def Ga:D→D→D→M Unit
 | .obj n,.str x,d=>fun t=>match t.S[n]? with
   | some (.dct kvs)=>if kvs.length < LIM then some ((),{ t with S:=t.S.set n (.dct (CN kvs (.inr x) d)) }) else none
   | _=>none
 | _,_,_=>fail
def IP (f g:M D) (d:D):M Unit:=bnd f fun o=>bnd g fun i=>Ga o i d
def DR:List (Str×M D)→M (List (Key×D))
 | []=>ret []
 | (k,f) :: r=>bnd f fun d=>bnd (DR r) fun ps=>ret ((.inr k,d) :: ps)
def F4 (ps:List (Key×D)):List (Key×D):=ps.foldl (fun acc kv=>CN acc kv.1 kv.2) []
def Jg (n:Nat) (ps:List (Key×D)):M D:=fun t=>match t.S[n]? with
 | some (.dct [])=>if ps.length≤15 then some (.obj n,{ t with S:=t.S.set n (.dct (F4 ps)) }) else none
 | _=>none
def KH (l:List (Str×M D)):M D:=fun t=>bnd (DR l) (Jg t.S.length) { t with S:=t.S++[.dct []] }
section
variable {K:PySem.W.Frag} {c:Cf} {H:Hp}
theorem KVR.get {us:List (Key×V)} {kvs:List (Key×D)} (r:KVR K c H us kvs) (k:Key) {d:D} (e:CV kvs k=some d):∃v,ET us k=some v∧Rep K c H v d:=by
 unfold KVR at r
 induction r with
 | nil=>simp [CV] at e
 | @cons p q ps qs h t ih=>
   by_cases hk:p.1=k
   ·have hq:q.1=k:=h.1.symm.trans hk
    have:CV (q :: qs) k=some q.2:=by simp [CV,List.find?_cons,hq]
    rw [this] at e;cases e
    exact ⟨p.2,Ms hk,h.2⟩
   ·have hq:¬q.1=k:=fun z=>hk (h.1.trans z)
    have:CV (q :: qs) k=CV qs k:=by simp [CV,List.find?_cons,hq]
    rw [this] at e
    rw [Mr hk]
    exact ih e
theorem KVR.any {us:List (Key×V)} {kvs:List (Key×D)} (r:KVR K c H us kvs) (k:Key):(us.any fun kv=>decide (kv.1=k))=(kvs.any fun kv=>decide (kv.1=k)):=by
 unfold KVR at r
 induction r with
 | nil=>rfl
 | @cons p q ps qs h t ih=>rw [List.any_cons,List.any_cons,ih,h.1]
theorem KVR.put {us:List (Key×V)} {kvs:List (Key×D)} (r:KVR K c H us kvs) (k:Key) {v:V} {d:D} (rv:Rep K c H v d):KVR K c H (DN us k v) (CN kvs k d):=by
 unfold DN CN
 rw [r.any k]
 by_cases q:(kvs.any fun kv=>decide (kv.1=k))=true
 ·rw [if_pos q,if_pos q]
  clear q
  unfold KVR at r ⊢
  induction r with
  | nil=>exact .nil
  | @cons p q ps qs h t ih=>
    rw [List.map_cons,List.map_cons]
    refine .cons ?_ ih
    by_cases e:p.1=k
    ·rw [if_pos e,if_pos (h.1.symm.trans e)];exact ⟨h.1,rv⟩
    ·rw [if_neg e,if_neg (fun z=>e (h.1.trans z))];exact h
 ·rw [if_neg q,if_neg q]
  exact Paired.snoc r ⟨rfl,rv⟩
theorem KVR.length {us:List (Key×V)} {kvs:List (Key×D)} (r:KVR K c H us kvs):us.length=kvs.length:=Paired.length r
theorem KVR.mono {c':Cf} {H':Hp} {us:List (Key×V)} {kvs:List (Key×D)} (e:Ext c H c' H') (r:KVR K c H us kvs):KVR K c' H' us kvs:=Paired.mapP r fun _ _ z=>⟨z.1,z.2.mono e⟩
theorem KVR.merge:∀{ps:List (Key×D)} {us:List (Key×V)} {acc:List (Key×D)} {ua:List (Key×V)},KVR K c H us ps→KVR K c H ua acc→KVR K c H (Fi ua us) (ps.foldl (fun acc kv=>CN acc kv.1 kv.2) acc):=by
 intro ps us acc ua r
 unfold KVR at r
 induction r generalizing acc ua with
 | nil=>intro q;exact q
 | @cons p q ps qs h t ih=>
   intro r0
   refine ih ?_
   show KVR K c H (DN ua p.1 p.2) (CN acc q.1 q.2)
   have:=KVR.put r0 p.1 h.2
   rw [←h.1]
   exact this
theorem FF:B0 K PH Fv:=fun {Oo c t σ H x y dx dy r t' Q} f rx ry eq k=>by
 unfold Fv at eq
 split at eq
 ·next n z=>
  cases ry
  cases rx with
  | @obj a kk hk=>
    split at eq
    ·next kvs es=>
     obtain ⟨d,e1,e2⟩:=Option.map_eq_some_iff.mp eq
     cases e2
     obtain ⟨us,g1,g2⟩:=f.s.obs _ a _ hk es
     obtain ⟨v,e3,e4⟩:=g2.get _ e1
     exact ⟨a,us,z,v,rfl,rfl,g1,e3,k _ H c f .refl e4⟩
    ·cases eq
 ·cases eq
end
section
variable {X:Cx} {pos:Pos} {e:Expr}
theorem GU {o i:Expr} {f g:M D} (ho:PE X o (RE X.K f)) (hi:PE X i (RE X.K g))
 (ha:∀v,assign (.Subscript o i pos) X.env v=(do
   let ov ←holding [v] (eval o X.env)
   let iv ←holding [v,ov] (eval i X.env)
   standAt pos
   holding [v,ov,iv] (setItem ov iv v)
   release [v,ov,iv] []):=by intro _;rfl):PG X (.Subscript o i pos) (RG X.K (IP f g)):=
 H9 (Pv ho hi TZ ha) fun v σ H Q ⟨Oo,c,t,d,fi,rv,t',eq,k⟩=>by
  obtain ⟨d0,t1,e1,eq⟩:=Am eq
  obtain ⟨di,t2,e2,eq⟩:=Am eq
  refine ⟨Oo,c,t,fi,_,t1,e1,fun x H1 c1 f1 s1 rx=>⟨Oo,c1,t1,f1,di,t2,e2,fun y H2 c2 f2 s2 ry=>?_⟩⟩
  unfold Ga at eq
  split at eq
  ·next n z dd=>
   cases ry
   cases rx with
   | @obj a kk hk=>
     split at eq
     ·next kvs es=>
      split at eq
      ·next hl=>
       cases eq
       have hk2:=s2.ext.io _ _ hk
       obtain ⟨us,g1,g2⟩:=f2.s.obs _ a _ hk2 es
       refine ⟨a,us,z,rfl,rfl,g1,by rw [g2.length];exact Nat.lt_trans hl Up,?_⟩
       have rv2:=rv.mono (s1.trans s2).ext
       obtain ⟨f3,s3⟩:=f2.wrObj (o:=.dct (CN kvs (.inr z) d)) (u:=.dK (DN us (.inr z) v)) hk2 fun c' H' ext hu=>⟨_,hu,(g2.put _ rv2).mono ext⟩
       exact k σ _ c2 f3 ((s1.trans s2).trans s3)
      ·cases eq
     ·cases eq
  ·cases eq
def RP (K:PySem.W.Frag) (f:M (List (Key×D))) (σ:St) (H:Hp) (Q:List (V×V)→Hp→Prop):Prop:=
 ∃Oo c t,FInv K Oo c t σ H∧∃ps t',f t=some (ps,t')∧∀us H' c',FInv K Oo c' t' σ H'→Stp Oo c H c' H'→KVR K c' H' us ps→Q (us.map fun kv=>(kV kv.1,kv.2)) H'
def PPf (X:Cx) (pos:Pos) (keys:List (Option Expr)) (values:List Expr) (f:M (List (Key×D))):Prop:=
 ∃trs,PPs X pos keys values trs∧∀σ H Q,RP X.K f σ H Q→IR trs σ H Q
theorem SJ:PPf X pos [] [] (DR []):=⟨[],TC,fun σ H Q ⟨Oo,c,t,fi,ps,t',eq,k⟩=>by
 cases eq
 exact k [] H c fi .refl .nil⟩
theorem HD {k:Str} {j:Nat} {kp:Pos} {v:Expr} {ks:List (Option Expr)} {vs:List Expr} {f:M D} {r:List (Str×M D)} (hv:PE X v (RE X.K f)) (hr:PPf X pos ks vs (DR r)) :
 PPf X pos (some (.Constant (.str k) j kp) :: ks) (v :: vs) (DR ((k,f) :: r)):=by
 obtain ⟨trs,h1,h2⟩:=hr
 refine ⟨_,QZ Pu hv h1,fun σ H Q ⟨Oo,c,t,fi,ps,t',eq,kk⟩=>?_⟩
 obtain ⟨d,t1,e1,eq⟩:=Am eq
 obtain ⟨qs,t2,e2,eq⟩:=Am eq
 cases eq
 refine ⟨Oo,c,t,fi,d,t1,e1,fun y H1 c1 f1 s1 ry=>?_⟩
 refine h2 σ H1 _ ⟨Oo,c1,t1,f1,qs,_,e2,fun us H2 c2 f2 s2 ru=>?_⟩
 exact kk ((.inr k,y) :: us) H2 c2 f2 (s1.trans s2) (.cons ⟨rfl,ry.mono s2.ext⟩ ru)
theorem SG {keys:List (Option Expr)} {values:List Expr} {l:List (Str×M D)} (h:PPf X pos keys values (DR l)) (hall:keys.all (·.isSome)=true:=by rfl) (hl:keys.length=values.length:=by rfl) (h0:keys≠[]:=by exact List.cons_ne_nil _ _)
 (h15:keys.length≤15:=by exact Nat.le_of_ble_eq_true rfl):PE X (.Dict keys values pos) (RE X.K (KH l)):=by
 obtain ⟨trs,h1,h2⟩:=h
 refine BA (Tr h1 hall hl h0 h15) fun σ H Q ⟨Oo,c,t,fi,r,t',eq,k⟩=>?_
 intro p hp
 obtain ⟨c1,f1,s1,e1⟩:=fi.newObj (o:=.dct []) (u:=.dK []) hp fun c' H' ex hu=>⟨[],hu,.nil⟩
 obtain ⟨ps,t2,e2,eq⟩:=Am eq
 refine h2 σ _ _ ⟨Oo,c1,_,f1,ps,t2,e2,fun us H2 c2 f2 s2 ru=>?_⟩
 unfold Jg at eq
 split at eq
 ·next es=>
  split at eq
  ·next hl15=>
   cases eq
   have hk2:=s2.ext.io _ _ e1
   obtain ⟨u0,g1,g2⟩:=f2.s.obs _ p _ hk2 es
   cases g2
   refine ⟨g1,us,rfl,by rw [ru.length];exact hl15,?_⟩
   obtain ⟨f3,s3⟩:=f2.wrObj (o:=.dct (F4 ps)) (u:=.dK (Fi [] us)) hk2 fun c' H' ext hu=>⟨_,hu,(KVR.merge ru .nil).mono ext⟩
   exact k _ _ c2 f3 (s1.trans (s2.trans s3)) (.obj hk2)
  ·cases eq
 ·cases eq
end
end F2
namespace L2
open PySem PySem.Spec PyProof.Rows
section
variable {X:Cx}
end
end L2
namespace F2
open PySem L2 PySem.Spec
section
variable {X:Cx} {pos:Pos} {e:Expr} {es:List Expr}
end
end F2
namespace L2
open PySem PySem.Spec PyProof.Rows
def dd1 (acc:List Str) (x:Str):List Str:=if acc.contains x=true then acc else acc++[x]
def ddT (xs:List Str):List Str:=xs.foldl dd1 []
theorem Lk (xs:List Str) (x:Str):ddT (xs++[x])=dd1 (ddT xs) x:=by unfold ddT;rw [List.foldl_append];rfl
theorem M2 (acc:List Str) (x:Str):(dd1 acc x).length=if acc.contains x=true then acc.length else acc.length + 1:=by unfold dd1;split <;> simp
theorem SD (acc:List Str) (x y:Str):(dd1 acc x).contains y=(acc.contains y || decide (y=x)):=by
 unfold dd1
 by_cases h:acc.contains x=true
 ·rw [if_pos h]
  by_cases e:y=x
  ·subst e;rw [h];rfl
  ·simp [e]
 ·rw [if_neg h]
  by_cases e:y=x
  ·subst e;simp
  ·simp [e]
theorem OP:∀n:Nat,∀f:Nat→Str,(ddT ((List.range n).map f)).length≤n
 | 0,f=>Nat.le_refl _
 | n + 1,f=>by
   rw [List.range_succ,List.map_append]
   show (ddT (_++[f n])).length≤_
   rw [Lk,M2]
   have:=OP n f
   split <;> lia
abbrev D0 (prog:Program) (w:World) (h:Heap) (a:Addr) (xs:List Str):Prop:=h.SetOf (PySem.strKind prog w) a (fun y=>(ddT xs).contains y) (ddT xs).length
section
variable {prog:Program} {w:World} {A:Around} {I:Addr} {fp wr:List Addr} {G:Array GenState→Array GenState→Prop} {n:Nat} {P:Nat→Value→Prop} {St:Nat→Shared→Prop}
theorem J9 {s s':Shared} {a:Addr} {xs:List Str} (hm:∀o,s.heap.get? a=some o→s'.heap.get? a=some o) (h:D0 prog w s.heap a xs):D0 prog w s'.heap a xs:=
 let ⟨o,es,ep,t,ho,r⟩:=h;⟨o,es,ep,t,hm o ho,r⟩
theorem PN {R:Result→Shared→Prop} (Wk:WalksS prog w A.in1 I fp wr G n P St) (a:Addr) (ha:a∉fp) (f:Nat→Str) (hf:∀i v,P i v→∃t,v = .str (f i) t) (hn:n + 1 < scanBound) :
 ∀(m i:Nat) (s:Shared),i + m=n→St i s→D0 prog w s.heap a ((List.range i).map f)→(∀s',Moved (a :: wr) G s s'→D0 prog w s'.heap a ((List.range n).map f)→R (.ok (.ret .none)) s')→
  codeAny (model prog w) A (.builtin "set.update.loop" ⟨[.ref a,.ref I],[]⟩) R s:=by
 have na:a∉wr:=fun z=>ha (Wk.sub _ z)
 have up:∀b∈wr,b∈a :: wr:=fun _ z=>List.mem_cons_of_mem _ z
 intro m
 induction m with
 | zero=>
   intro i s him st hs hR;cases (show i=n by lia)
   refine codeAny_builtin PyProof.Rows.F.entry_set_update_loop ?_;rw [Around.under_plainId PyProof.Rows.F.plain_set_update_loop _]
   show wpAny _ A.in1 (pyNext (.ref I) >>= _) _ _ _
   exact wpAny_bind (Wk.done s _ _ st fun s' mv=>(show wpAny _ A.in1 (ret Value.none) _ _ s' from wpAny_pure (hR s' (mv.mono up) (J9 (fun o ho=>mv.heap a _ na ho) hs))))
 | succ m ih=>
   intro i s him st hs hR
   refine codeAny_builtin PyProof.Rows.F.entry_set_update_loop ?_;rw [Around.under_plainId PyProof.Rows.F.plain_set_update_loop _]
   show wpAny _ A.in1 (pyNext (.ref I) >>= _) _ _ _
   refine wpAny_bind (Wk.item i s _ _ (by lia) st fun v s1 pv st1 mv=>?_)
   obtain ⟨t,rfl⟩:=hf i v pv
   have h1:D0 prog w s1.heap a ((List.range i).map f):=J9 (fun o ho=>mv.heap a _ na ho) hs
   show wpAny _ A.in1 (holding [Value.str (f i) t] (setAdd a (.str (f i) t)) >>= _) _ _ _
   refine wpAny_bind (wpAny_holding ?_);unfold setAdd;refine wpAny_holding ?_
   have isk:(PySem.strKind prog w).is (f i) (.str (f i) t)=true:=by show Value.isStrOf (f i) (.str (f i) t)=true;unfold Value.isStrOf;simp
   refine wpAny_bind ((PySem.strKind prog w).pyHash (k:=f i) isk ?_)
   refine wpAny_setAddHashed_of (knd:=PySem.strKind prog w) (s:={ s1 with toks:=s1.toks + 1 }) isk rfl h1 (by have:=OP i f;lia) fun h' sb h2=>?_
   have h3:D0 prog w h' a ((List.range (i + 1)).map f):=by
    have e:((List.range (i + 1)).map f)=(List.range i).map f++[f i]:=by rw [List.range_succ,List.map_append];rfl
    unfold D0;rw [e,Lk]
    exact SetOf_congr h2 (fun y=>by rw [SD]) (by rw [M2])
   refine wpAny_pure ⟨plainId_quiet PyProof.Rows.F.plain_set_update_loop _,ih (i + 1) _ (by lia) (Wk.frame _ s1 _ _ st1 (Nat.le_succ _) fun b hb o e=>?_) h3 fun s2 mv2 h4=>hR s2 (Moved.trans Wk.gtrans ((mv.mono up).then_heap (Nat.le_succ _) fun b o hb e=>?_) mv2) h4⟩
   ·rw [sb.2 b fun z=>ha (z ▸ hb)];exact e
   ·rw [sb.2 b fun z=>hb (by rw [z];exact List.mem_cons_self)];exact e
theorem OJ {s:Shared} {E:Value→Shared→Prop} {l:Addr} {its:Array Value} {xs:List Str} {Q:Value→Shared→Prop} (hh:A.handled=none) (hl:s.heap.IsList l its) (hz:its.size=xs.length) (hi:∀(i:Nat) v,its[i]?=some v→∃t,v = .str (xs.getD i Str.empty) t) (hb:its.size + 1 < scanBound)
 (h:∀(h':Heap) (tk:Nat),D0 prog w h' s.heap.objs.size xs→(∀b o,s.heap.get? b=some o→h'.get? b=some o)→Q (.ref s.heap.objs.size) { s with heap:=h',toks:=tk }):wpAny (model prog w) A (call (.type "set") [.ref l]) Q E s:=by
 have exs:(List.range its.size).map (fun i=>xs.getD i Str.empty)=xs:=by
  refine List.ext_getElem (by simp [hz]) fun i h1 h2=>?_
  simp [List.getD_eq_getElem?_getD,List.getElem?_eq_getElem h2]
 obtain ⟨c,tl,mroE⟩:=F.called_set.mro;have madeE:=F.called_set.made;have subE:=F.called_set.sub
 refine wpAny_call (codeAny_of_tree ?_)
 show wpAny _ _ (callAny (.type "set") _) _ _ _
 refine wpAny_pure ⟨Code.quiet_builtin _ (by decide +kernel),codeAny_builtin F.entry_type_call ?_⟩;rw [Around.under_plain (weight_type_call_type "set" [.ref l] []) rfl]
 have q1:=F.called_set.notType;have q2:=F.called_set.canCreate;have q3:=PySem.F.typeCall_set_1 (.ref l)
 repeat (any_goals (first | assumption | wp_step))
 refine codeAny_mono (PySem.code_set_new_1 (.ref l) (E:=E) (Q₁:=fun ob s1=>∃led:Bool,ob = .ref s.heap.objs.size∧s1 = { s with heap:=s.heap.push { cls:=.type "set",dict:=none,data:=.set #[] 0 (.fresh 0 0 led) } }) fun led=>⟨led,rfl,rfl⟩) fun r s1 hr=>?_
 cases r with
 | error e=>exact hr
 | ok fl=>
 cases fl with
 | ret ob=>
   obtain ⟨led,rfl,rfl⟩:=hr
   generalize hN:({ cls:=.type "set",dict:=none,data:=.set #[] 0 (.fresh 0 0 led) }:Obj)=N
   have hS:(s.heap.push N).get? s.heap.objs.size=some N:=Heap.get?_push_size _ (by rw [←hN];rfl)
   have hT:Shared.TypeIs { s with heap:=s.heap.push N } (.ref s.heap.objs.size) "set":=⟨_,hS,by rw [←hN]⟩
   have q4:=F.called_set.init.lookup;have q5:=F.called_set.init.bind (.ref s.heap.objs.size)
   repeat (any_goals (first | assumption | wp_step))
   refine codeAny_mono (codeAny_call_builtin (R:=wants (fun r s2=>r = .none∧∃h' tk,s2 = { s with heap:=h',toks:=tk }∧D0 prog w h' s.heap.objs.size xs∧(∀b o,s.heap.get? b=some o→h'.get? b=some o)) E) F.called_set.init.plain F.entry_set_init (PySem.check_set_init_1 hT ?_)) fun r2 s2 hr2=>?_
   ·obtain ⟨⟨c0,d0,a0,e0⟩,g0,g1,nl,g2⟩:=hl
    simp only at g1 g2;subst g1 g2
    have hol:(s.heap.push N).get? l=some { cls:=.type "list",dict:=d0,data:=.seq its nl,slots:=e0 }:=Heap.get?_push_of_some _ g0
    have q6:=PySem.F.sub_list_set;have q7:=PySem.F.sub_list_frozenset;have q8:(Value.type "list" == Value.type "dict")=false:=by decide
    have hl1:(s.heap.push N).IsList l its:=⟨_,hol,rfl,nl,rfl⟩
    have ll:l < s.heap.objs.size:=Heap.lt_size g0
    have sz:(s.heap.push N).objs.size=s.heap.objs.size + 1:=Heap.size_push ..
    subst hN
    unfold Builtin.«set.__init__» noKeywords Builtin.Frozenset.updateFrom
    generalize hp:pyIter=pi;wp_walk;subst hp
    refine wpAny_pyIter_list hl1 ?_;refine wpAny_bind (wpAny_runValue ?_)
    refine PN ((Walks.list (by simp [hh]) _ l (by rw [sz];exact Nat.ne_of_lt (Nat.lt_succ_of_lt ll)) its).toS) s.heap.objs.size (by rw [sz];simp only [List.mem_cons,List.not_mem_nil,or_false,not_or];exact ⟨Nat.ne_of_lt (Nat.lt_succ_self _),Nat.ne_of_gt ll⟩) (fun i=>xs.getD i Str.empty) hi hb its.size 0 _ (by lia) ⟨⟨_,Heap.get?_push_size _ rfl,rfl,rfl⟩,(hl1.push _)⟩ ?_ fun s' mv hS2=>?_
    ·refine SetOf_congr ((setObjOf_fresh (knd:=PySem.strKind prog w) led).setOf (a:=s.heap.objs.size) ?_ (by unfold scanBound;lia)) (fun _=>rfl) rfl
     exact Heap.get?_push_of_some _ hS
    ·obtain ⟨h',g',d',tk',os'⟩:=s'
     obtain rfl:g'=s.gens:=mv.gens
     obtain rfl:d'=s.drawn:=mv.drawn
     obtain rfl:os'=s.os:=mv.os
     rw [exs] at hS2
     refine wpAny_pure (show wpAny _ _ (ret Value.none) _ _ _ from wpAny_pure ⟨rfl,h',tk',rfl,hS2,fun b o e=>?_⟩)
     have lb:=Heap.lt_size e
     exact mv.heap b o (by rw [sz];simp only [List.mem_cons,List.not_mem_nil,or_false,not_or];exact ⟨Nat.ne_of_lt lb,Nat.ne_of_lt (Nat.lt_succ_of_lt lb)⟩) (Heap.get?_push_of_some _ (Heap.get?_push_of_some _ e))
   ·cases r2 with
    | error e=>exact hr2
    | ok f2=>
    cases f2 with
    | ret r=>
      obtain ⟨rfl,h',tk,rfl,g1,g2⟩:=hr2
      repeat (any_goals (first | assumption | wp_step))
      exact h _ _ g1 g2
    | _=>exact hr2.elim
 | _=>exact hr.elim
end
section
variable {X:Cx}
theorem Rb {P:Program} {w:World} {h h':Heap} {a:Addr} {xs:List Str} (k:∀o,h.get? a=some o→h'.get? a=some o) (q:D0 P w h a xs):D0 P w h' a xs:=
 let ⟨o,es,ep,t,ho,r⟩:=q;⟨o,es,ep,t,k o ho,r⟩
theorem OK (hc:X.calm=true):CL X (.type "set") (fun xs H Q=>∃p ys,xs=[.ref p]∧SqL X.K H p (ys.map V.str)∧ys.length≤4000∧∀l,H l=none→Q (.ref l) (upd H l (.ext fun h=>D0 X.prog X.w h l ys))):=by
 intro pins s σ H xs us Q I r h
 obtain ⟨p,ys,rfl,hq,hn,q⟩:=h
 obtain ⟨u,rfl,rx⟩:=Dt r
 cases rx
 obtain ⟨its,rv,pl,hz⟩:=I.list hq
 have hl:=rv.length
 rw [List.length_map] at hl
 refine wpAny_with_toks (Nat.le_refl s.toks) (OJ (I.ok.hd hc) pl.isList (by simpa using hl.symm) (fun i v e=>?_) (by simp only [List.size_toArray];unfold scanBound;lia) fun h' tk hS hk ht=>?_)
 ·have e':its[i]?=some v:=by simpa using e
  obtain ⟨hi,_⟩:=List.getElem?_eq_some_iff.mp e'
  have hy:(ys.map V.str)[i]?=some (.str (ys.getD i Str.empty)):=by
   rw [List.getElem?_map,List.getD_eq_getElem?_getD,List.getElem?_eq_getElem (by lia)];rfl
  obtain ⟨w',ew,rw'⟩:=rv.get hy
  rw [e'] at ew;cases ew
  exact rw'
 ·obtain ⟨o,es,ep,t,ho,rr⟩:=id hS
  exact ⟨.ref s.heap.objs.size,_,I.laid (t':=tk) hk (Nat.le_refl _) (show ObjOk X.prog X.w _ h' _ (.ext fun h=>D0 X.prog X.w h s.heap.objs.size ys) from ⟨hS,⟨o,ho⟩,fun h1 h2 p1 k=>Rb k p1⟩),rfl,q _ (I.hok.fresh (Nat.le_refl _))⟩
theorem MD:CL X (.builtin "len") (fun xs H Q=>∃l ys,xs=[.ref l]∧H l=some (.ext fun h=>D0 X.prog X.w h l ys)∧ys.length≤4000∧Q (.int (ddT ys).length) H):=by
 intro pins s σ H xs us Q I r h
 obtain ⟨l,ys,rfl,hl,hn,q⟩:=h
 obtain ⟨u,rfl,rx⟩:=Dt r
 cases rx
 obtain ⟨⟨o,es,ep,t,ho,hex,hd,_,_,hb,hf,hz⟩,_⟩:=(show ObjOk X.prog X.w H s.heap l (.ext fun h=>D0 X.prog X.w h l ys) from I.hok l _ hl)
 refine call_len_set ho hex hd hf (by have:es.size < 4096:=hb;lia) ⟨.int (ddT ys).length,H,I.tok _,⟨_,by rw [hz]⟩,q⟩
end
end L2
namespace F2
open PySem L2 PySem.Spec PyProof.Rows
def F9:List D→M D
 | [.lst ds]=>fun t=>match Fo ds with
   | some xs=>if xs.length≤4000 then some (.int (ddT xs).length,t) else none
   | none=>none
 | _=>fail
section
variable {X:Cx} {pos:Pos} {e:Expr}
theorem OX {f:M (List D)} {p p2 pos2:Pos} (hc:X.calm=true) (hgl:Gl X "len") (hml:X.mg "len" = none) (hgs:Gl X "set") (hms:X.mg "set" = none) (ha:PA X [e] (RA X.K f)) (h1:C2 e=false:=by rfl) :
 PE X (.Call (.Name "len" p) [.Call (.Name "set" p2) [e] [] pos2] [] pos) (RE X.K (fB f F9)):=
 BA (LS MD hgl hml (by decide +kernel) (Nh (G4 (OK hc) hgs hms (by decide +kernel) ha (by decide) (by decide) (CK h1) rfl) Pp (CK rfl)) (by decide) (by decide) (CK rfl) rfl) fun σ H Q ⟨Oo,c,t,fi,r,t',eq,k⟩=>by
  obtain ⟨as,t1,e1,eq⟩:=Am eq
  unfold F9 at eq
  split at eq
  ·next ds=>
   split at eq
   ·next xs ex=>
    split at eq
    ·next hl=>
     cases eq
     refine ⟨Oo,c,t,fi,_,_,e1,fun vs H1 c1 f1 s1 rv=>?_⟩
     obtain ⟨v,rfl,rw1⟩:=Ds rv
     cases rw1 with
     | @lst a ws ds g1 g2 g3=>
     obtain ⟨eqs,_⟩:=Ml g3 ex
     subst eqs
     refine ⟨a,xs,rfl,SqL.of g1,hl,fun l hnl=>⟨l,xs,rfl,AN,hl,?_⟩⟩
     exact k _ _ c1 (f1.laid hnl) (s1.trans (f1.stp_laid hnl)) (.int _)
    ·cases eq
   ·cases eq
  ·cases eq
end
end F2
namespace F2
open PySem L2 PySem.Spec
def Di (f:M Bool) (b:M Out):Nat→M Out
 | 0=>fun _=>none
 | n + 1=>fun t=>match f t with
   | none=>none
   | some (false,t1)=>some (.next,t1)
   | some (true,t1)=>match b t1 with
     | some (.next,t2)=>Di f b n t2
     | some (.cont,t2)=>Di f b n t2
     | some (.brk,t2)=>some (.next,t2)
     | some (.ret x,t2)=>some (.ret x,t2)
     | none=>none
def Hc:Nat:=1000000
def IX (f:M Bool) (b:M Out):M Out:=Di f b Hc
theorem RS.while {μ:Cf→Hp→D→(V→Hp→Prop)→Prop} {K:PySem.W.Frag} {f:M Bool} {b:M Out} {E:Ends} {σ:L2.St} {H:Hp} (q:RSg K μ (IX f b) E σ H):PX (RT K f) (RSg K μ b) E σ H:=by
 obtain ⟨Oo,c,t,fi,o,t',eq,k⟩:=q
 refine ⟨fun m σ' H'=>∃c' t2,FInv K Oo c' t2 σ' H'∧Stp Oo c H c' H'∧Di f b m t2=some (o,t'),⟨Hc,c,t,fi,.refl,eq⟩,?_⟩
 rintro m σ' H' ⟨c',t2,f2,s2,e2⟩
 cases m with
 | zero=>cases e2
 | succ m=>
 rw [Di] at e2
 dsimp only at e2
 cases ef:f t2 with
 | none=>rw [ef] at e2;cases e2
 | some p=>
 obtain ⟨r,t3⟩:=p
 rw [ef] at e2
 refine ⟨Oo,c',t2,f2,r,t3,ef,fun H3 c3 f3 s3=>?_⟩
 cases r with
 | false=>
   cases e2
   exact k σ' H3 c3 f3 (s2.trans s3)
 | true=>
   rw [if_pos rfl]
   dsimp only at e2
   refine ⟨fun σ4 H4=>∃c4 t4,FInv K Oo c4 t4 σ4 H4∧Stp Oo c H c4 H4∧Di f b m t4=some (o,t'),fun σ4 H4 h=>⟨m,Nat.lt_succ_self m,h⟩,?_⟩
   cases eb:b t3 with
   | none=>rw [eb] at e2;cases e2
   | some p=>
   obtain ⟨ob,t4⟩:=p
   rw [eb] at e2
   refine ⟨Oo,c3,t3,f3,ob,t4,eb,fun σ4 H4 c4 f4 s4=>?_⟩
   cases ob with
   | next=>exact ⟨c4,t4,f4,(s2.trans s3).trans s4,e2⟩
   | cont=>exact ⟨c4,t4,f4,(s2.trans s3).trans s4,e2⟩
   | brk=>
     cases e2
     exact k σ4 H4 c4 f4 ((s2.trans s3).trans s4)
   | ret x=>
     cases e2
     exact k σ4 H4 c4 f4 ((s2.trans s3).trans s4)
section
variable {X:Cx} {pos:Pos}
theorem Lv {μ:Cf→Hp→D→(V→Hp→Prop)→Prop} {e:Expr} {body:List Stmt} {f:M Bool} {b:M Out} (hp:PassesOwn (model X.prog X.w) X.A X.env X.xe) (hc:PT X e (RT X.K f)) (hb:PSs X body (RSg X.K μ b)):PS X (.While e body [] pos) (RSg X.K μ (IX f b)):=
 CY (Q1 hp hc hb) fun _ _ _ q=>RS.while q
end
end F2
namespace L2
open PySem PySem.Spec PyProof.Rows
end L2
namespace F2
open PySem L2 PySem.Spec
end F2
namespace L2
open PySem PySem.Spec PyProof.Rows
section
variable {X:Cx} {tg:Expr}
end
end L2
namespace F2
open PySem L2 PySem.Spec
section
variable {X:Cx} {pos:Pos} {e:Expr} {es:List Expr}
end
section
variable {K:PySem.W.Frag} {Oo:Addr→Prop} {c:Cf} {t:T} {σ:L2.St} {H:Hp}
end
section
variable {X:Cx} {pos:Pos} {e:Expr} {es:List Expr}
inductive spFF (K:PySem.W.Frag) (f:Fn) (vs:List V) (H:Hp) (Q:VK) (E:XK):Prop where
 | mk (c:Cf) (ds:List D) (S:List Ob) (si:SInv K c S H) (rp:Reps K c H vs ds) (rs:List D) (S':List Ob) (e:f ds S=some (.lst rs,S')) (k:∀p us H' c',SInv K c' S' H'→Stp c.O c H c' H'→(∀b,c'.O b↔c.O b)→Reps K c' H' us rs→H' p=none→Q (.ref p) (upd H' p (.lst us))):spFF K f vs H Q E
end
end F2
namespace L2
open PySem PySem.Spec PyProof.Rows
section
variable {X:Cx}
end
end L2
namespace F2
open PySem L2 PySem.Spec
section
variable {X:Cx} {pos:Pos} {e:Expr} {es:List Expr}
end
section
variable {X:Cx} {b elt:Expr} {pos:Pos}
end
end F2
namespace L2
open PySem PySem.Spec PyProof.Rows
end L2
namespace F2
open PySem L2 PySem.Spec
structure ItOk2 (K:PySem.W.Frag) (J:It) (c:Cf) (H:Hp) (ds:List D):Prop where
 go:∀c' H' (i:Nat),Ext c H c' H'→i < ds.length→J.go i H'
 yld:∀c' H' (i:Nat) x H'' d,Ext c H c' H'→ds[i]?=some d→J.yld i H' x H''→∃p vs es,x = .ref p∧H' p=none∧H''=upd H' p (.tup vs)∧d = .tup es∧Reps K c' H' vs es
 stop:∀c' H',Ext c H c' H'→J.stop ds.length H'
inductive RI2 (K:PySem.W.Frag) (f:M (List D)) (σ:L2.St) (H:Hp) (R:It→Hp→Prop):Prop where
 | mk (Oo:Addr→Prop) (c:Cf) (t:T) (fi:FInv K Oo c t σ H) (ds:List D) (t':T) (e:f t=some (ds,t')) (k:∀J H' c',FInv K Oo c' t' σ H'→Stp Oo c H c' H'→ItOk2 K J c' H' ds→R J H'):RI2 K f σ H R
section
variable {X:Cx} {pos:Pos} {e:Expr}
end
end F2
namespace L2
open PySem PySem.Spec PyProof.Rows
section
variable {X:Cx}
end
end L2
namespace F2
open PySem L2 PySem.Spec
section
variable {X:Cx} {pos:Pos} {e:Expr} {es:List Expr}
end
end F2
namespace L2
open PySem PySem.Spec PyProof.Rows
section
variable {X:Cx} {e ek:Expr} {p2 pos:Pos} {te:TE} {tk:TO}
end
end L2
namespace F2
open PySem L2 PySem.Spec
section
variable {X:Cx}
end
end F2
namespace L2
open PySem PySem.Spec PyProof.Rows
section
variable {X:Cx}
end
end L2
namespace F2
open PySem L2 PySem.Spec
section
variable {X:Cx} {pos:Pos}
end
end F2
namespace L2
open PySem PySem.Spec PyProof.Rows
theorem Km {x y:Int} (h0:0 < y) (h1:y < 18446744073709551616):Builtin.divisionGoesByPylong x y=false:=by
 unfold Builtin.divisionGoesByPylong
 have hl:y.natAbs.log2 < 64:=(Nat.log2_lt (by lia)).mpr (by show y.natAbs < 2 ^ 64;lia)
 have e:(y == 0)=false:=by rw [beq_eq_false_iff_ne];lia
 simp only [e,Bool.false_eq_true,if_false]
 rw [Bool.and_eq_false_iff]
 left
 rw [decide_eq_false_iff_not]
 lia
def Ru (i j:Int):Prop:=0 < j∧j < 18446744073709551616
section
variable {X:Cx}
theorem J0 {i:Int} (h:i.natAbs < 2 ^ 512):Builtin.Int.intBits i≤2 ^ 20:=by
 unfold Builtin.Int.intBits
 split
 ·exact Nat.zero_le _
 ·next z=>
  have hz:i.natAbs≠0:=by
   intro e
   have:i=0:=by lia
   subst this
   exact z rfl
  have:=(Nat.log2_lt hz).mpr h
  lia
def Rv (i j:Int):Prop:=i.natAbs < 2 ^ 512∧j.natAbs < 2 ^ 512
theorem JF:OpR X (binaryOp .Mult) (rI Rv fun i j=>.int (i * j)):=opI fun _ _ _ _ _ _ _ hc q=>mul_int q (IntMulOk.of_bits (J0 hc.1) (J0 hc.2))
theorem LR:OpR X (binaryOp .FloorDiv) (rI Ru fun i j=>.int (i / j)):=opI fun i j _ _ _ _ _ hc q=>by
 have h1:(0:Int) < j:=hc.1
 exact floordiv_int (by lia) (by rw [Int.fdiv_eq_ediv_of_nonneg i (by lia)];exact q) (.inl (Km hc.1 hc.2))
end
end L2
namespace F2
open PySem L2 PySem.Spec
def Ll (i j:Int):Bool:=decide (0 < j) && decide (j < 18446744073709551616)
def Io:=i2C Ll fun i j=>.int (i / j)
theorem J8 {K:PySem.W.Frag}:B0 K (rI Ru fun i j=>.int (i / j)) Io:=Hk (fun i j h=>by
 unfold Ll at h
 rw [Bool.and_eq_true,decide_eq_true_eq,decide_eq_true_eq] at h
 exact h) fun _ _ _ _=>.int _
def LG (i j:Int):Bool:=decide (i.natAbs < 2 ^ 512) && decide (j.natAbs < 2 ^ 512)
def Jt:=i2C LG fun i j=>.int (i * j)
theorem HV {K:PySem.W.Frag}:B0 K (rI Rv fun i j=>.int (i * j)) Jt:=Hk (fun i j h=>by
 unfold LG at h
 rw [Bool.and_eq_true] at h
 exact ⟨of_decide_eq_true h.1,of_decide_eq_true h.2⟩) fun _ _ _ _=>.int _
end F2
namespace L2
open PySem PySem.Spec PyProof.Rows
section
variable {X:Cx}
end
section
variable {X:Cx}
end
section
variable {X:Cx}
end
end L2
namespace F2
open PySem L2 PySem.Spec
section
variable {X:Cx} {pos:Pos} {e:Expr} {es:List Expr}
end
end F2
namespace L2
open PySem PySem.Spec PyProof.Rows
section
variable {X:Cx}
end
end L2
namespace F2
open PySem L2 PySem.Spec
def N2:List (Key×D)→Option (List Int)
 | []=>some []
 | (.inl k,_) :: r=>(N2 r).map (k :: ·)
 | _=>none
section
variable {K:PySem.W.Frag} {c:Cf} {H:Hp}
end
section
variable {X:Cx} {pos:Pos} {e b:Expr}
end
end F2
namespace L2
open PySem PySem.Spec PyProof.Rows
def tb (led:Bool) (pl:List Nat):SetTable:={ mask:=7,place:=pl.toArray,dummies:=#[],finger:=0,led:=led,moves:=0,plain:=true }
def pls:Nat→List (List Nat)
 | 0=>[[]]
 | k + 1=>(pls k).flatMap fun l=>(List.range 8).filterMap fun j=>if l.all (· < j) then some (l++[j]) else none
section
variable {P:Program} {w:World} {A:Around} {E:Value→Shared→Prop} {s:Shared}
end
section
variable {P:Program} {w:World} {A:Around} {I:Addr} {fp wr:List Addr} {G:Array GenState→Array GenState→Prop} {n:Nat} {Pr:Nat→Value→Prop} {St:Nat→Shared→Prop}
end
section
variable {P:Program} {w:World} {A:Around} {E:Value→Shared→Prop} {s:Shared}
end
section
variable {prog:Program} {w:World} {A:Around}
end
section
variable {X:Cx}
end
end L2
namespace F2
open PySem L2 PySem.Spec PyProof.Rows
section
variable {X:Cx} {pos:Pos} {e:Expr}
end
end F2
namespace L2
open PySem PySem.Spec PyProof.Rows
section
variable {P:Program} {w:World} {A:Around} {E:Value→Shared→Prop} {s:Shared}
structure ZT (h:Heap) (z TI TO i1 i2 t1 t2:Addr) (n:Nat):Prop where
 zz:IsZip h z TI TO .none
 ti:IsPair h TI (.ref i1) (.ref i2)
 ot:∃a b,IsPair h TO a b
 p1:h.IsTupleIter i1 t1 n
 p2:h.IsTupleIter i2 t2 n
end
section
variable {P:Program} {w:World} {A:Around} {E:Value→Shared→Prop} {s:Shared}
end
def Itz (K:PySem.W.Frag) (a b:Addr):It:=
 ⟨fun i H=>∃xs ys x y,SqT K H a xs∧SqT K H b ys∧xs[i]?=some x∧ys[i]?=some y,fun i H v H'=>∃p x y,v = .ref p∧H p=none∧(∀xs,SqT K H a xs→xs[i]?=some x)∧(∀ys,SqT K H b ys→ys[i]?=some y)∧H'=upd H p (.tup [x,y]),fun i H=>∃xs ys,SqT K H a xs∧SqT K H b ys∧(xs.length≤i∨ys.length≤i)⟩
end L2
namespace F2
open PySem L2 PySem.Spec
def X8:List D→List D→List D
 | x :: xs,y :: ys=>.tup [x,y] :: X8 xs ys
 | _,_=>[]
section
variable {X:Cx} {e a b tg iter elt:Expr} {ifs:List Expr} {pos:Pos} {scope:Scope} {N':List Str} {n:Nat} {fr:List Nat} {f:M (List D)} {st:D→M Unit} {tst:M Bool} {el:M D}
end
def GW:List D→M D
 | [.obj k,.ty m]=>fun t=>match t.S[k]? with
   | some (.lst _)=>(GX "list" m).map fun b=>(.bl b,t)
   | _=>none
 | ds=>Co ds
theorem Gy {K:PySem.W.Frag}:EN K (Q4 K) GW:=fun {Oo c t σ H xs ds r t' Q} f rx eq k=>by
 unfold GW at eq
 split at eq
 ·next n m=>
  obtain ⟨v,u,rfl,rv,ru⟩:=R9 rx
  cases ru
  cases rv with
  | @obj a kk hk=>
  split at eq
  ·next ds es=>
   obtain ⟨b,e1,e2⟩:=Option.map_eq_some_iff.mp eq
   cases e2
   obtain ⟨us,g1,g2⟩:=f.s.obs _ a _ hk es
   exact ⟨.ref a,m,.type "list",b,rfl,.lst g1,Na (d:=.lst []) rfl e1,k _ H c f .refl (.bl b)⟩
  ·cases eq
 ·exact B2 f rx eq k
section
variable {X:Cx} {elt:Expr} {pos:Pos} {e:Expr} {es:List Expr}
end
end F2
namespace L2
open PySem PySem.Spec PyProof.Rows
section
variable {X:Cx} {pins:List (Addr×Obj)} {σ:St} {H:Hp} {s:Shared} {a:Addr} {kvs:List (Key×V)} {o:Obj}
end
section
variable {X:Cx}
end
section
variable {X:Cx}
end
end L2
namespace F2
open PySem L2 PySem.Spec SeqAt
def Ot (K:PySem.W.Frag) (H:Hp) (v w:V):Prop:=∃c dv dw,Rep K c H v dv∧Rep K c H w dw∧eqN EQD dv dw=some true
def Um (K:PySem.W.Frag) (H:Hp) (v w:V):Prop:=Ot K H v w∨∃a b us ts,v = .ref a∧w = .ref b∧H a=some (.dK us)∧H b=some (.dK ts)∧us.length=ts.length∧(∀kv∈us,∃n:Int,kv.1=Sum.inl n)∧(∀kv∈ts,∃n:Int,kv.1=Sum.inl n)∧∀kv∈us,∃z,ET ts kv.1=some z∧Ot K H kv.2 z
def YI (K:PySem.W.Frag) (b:Bool):R2:=fun x y H Q=>∃p q vs ws,x = .ref p∧y = .ref q∧H p=some (.lst vs)∧H q=some (.lst ws)∧vs.length=ws.length∧(∀(j:Nat) v w,vs[j]?=some v→ws[j]?=some w→Um K H v w)∧Q (.bl b) H
def K4 (S:List Ob) (x y:D):Bool:=B3 (Fj S x) && B3 (Fj S y) && decide (eqN EQD (Fj S x) (Fj S y)=some true)
def Yk (S:List Ob) (x y:D):Bool:=match x,y with
 | .obj m,.obj n=>match S[m]?,S[n]? with
   | some (.dct kvs),some (.dct lvs)=>kvs.length == lvs.length && (N2 kvs).isSome && (N2 lvs).isSome && kvs.all (fun kv=>match CV lvs kv.1 with | some e=>K4 S kv.2 e | none=>false)
   | _,_=>K4 S x y
 | _,_=>K4 S x y
end F2
namespace F2
open PySem L2 PySem.Spec
section
variable {X:Cx} {pos:Pos}
end
end F2
namespace L2
open PySem PySem.Spec PyProof.Rows
structure ZL (h:Heap) (z TI TO i1 i2 t1 t2:Addr) (n:Nat):Prop where
 zz:IsZip h z TI TO .none
 ti:IsPair h TI (.ref i1) (.ref i2)
 ot:∃a b,IsPair h TO a b
 p1:h.IsListIter i1 t1 n
 p2:h.IsListIter i2 t2 n
end L2
namespace F2
open PySem L2 PySem.Spec
section
variable {X:Cx} {a b:Expr} {pos:Pos}
end
end F2
namespace L2
open PySem PySem.Spec PyProof.Rows PySem.W
section
variable {prog:Program} {w:World} {A:Around} {h:Heap} {g:Array GenState} {d:Drawn} {t:Nat} {os:OsState} {R:Result→Shared→Prop}
variable {nm q:Str} {C N fI:Addr} {bs bm bmB:List Value} {hdct:Bool} {sn:List Str} {sub:List Value} {ab:Bool} {col:Option Bool} {dd:Option Addr} {k0 k1 k2 k3 k5:Option Value} {B newId initId:String} {mN:Str→Option Value}
end
end L2
namespace L2
open PySem PySem.Spec PyProof.Rows PySem.W PySem.Builtin PySem.Builtin.ObjectAttr
section
variable {prog:Program} {w:World} {A:Around} {s:Shared} {K:PySem.W.Frag} {x C P tp:Addr} {R:Result→Shared→Prop} {name:Str} {v:Value} {tk:Tok} {cd:ClassData}
end
end L2
namespace L2
open PySem PySem.Spec PyProof.Rows PySem.W
variable {qx:Bool}
def Uv (qx:Bool) (h:Heap) (x C:Addr) (dx:Option Addr) (tb:Value):Prop:=∃(o:Obj) (vs:Array Value),h.get? x=some o∧o.cls = .ref C∧o.dict=dx∧o.data = .fields vs∧vs[1]?=some tb∧(qx=true→vs[2]?=some .none∧4 < vs.size)
def XTb (h:Heap) (T:Addr):Prop:=∃(o:Obj) (ts:Array Value),h.get? T=some o∧o.data = .fields ts∧ts[3]?=some .none
structure XKeep (fs ch:List Addr) (h h':Heap):Prop where
 keep:∀b o,b∉ch→b∉fs→h.get? b=some o→h'.get? b=some o
 slot:∀b o,b∉ch→h.get? b=some o→∃sl,h'.get? b=some { o with slots:=sl }
section
variable {M:Model} {A:Around} {E:Value→Shared→Prop} {s:Shared} {env:Env} {outer:List Env} {base:Heap} {L x C:Addr} {dx:Option Addr} {tb:Value} {Q:Unit→Shared→Prop}
end
end L2
namespace L2
open PySem PySem.Spec PyProof.Rows PySem.W
variable {qx:Bool}
abbrev VE:List Value:=[.type "ValueError",.type "Exception",.type "BaseException",.type "object"]
structure XCl (K:PySem.W.Frag) (C:Addr) (bm:List Value):Prop where
 ex:∃cd dd k0 k1 k2 k3 k5,K.lookup C=some { cls:=.type "type",dict:=dd,data:=.cls cd,slots:=#[k0,k1,k2,k3,some (.builtin "ValueError.__new__"),k5] }∧cd.mro = .ref C :: bm∧cd.hasDel=false∧cd.hasDict=true∧nsOkIn K cd.ns=true
 tl:tailIn K VE bm=true
section
variable {M:Model} {A:Around} {E:Value→Shared→Prop} {env:Env} {K:PySem.W.Frag} {C:Addr} {bm:List Value} {s:Shared}
end
def CX1 (qx:Bool) (P:Program) (w:World):CXT:=fun outer H s E e s'=>∃(x C:Addr) (dx:Option Addr) (T:Addr) (H':Hp),e = .ref x∧s'.os=s.os∧AllBare s'.gens∧Un (frs outer) [] H H' s.heap s'.heap∧HOk P w H' s'.heap∧
 H' x=some (.ext (F2.XIs qx x C dx))∧s.heap.objs.size≤x∧s.heap.objs.size≤T∧T≠x∧H' T=none∧Uv qx s'.heap x C dx (.ref T)∧XTb s'.heap T∧E (.ref x) dx H'
section
variable {X:Cx} {pins:List (Addr×Obj)} {σ:St} {H H':Hp} {s s':Shared} {h':Heap} {x C T:Addr} {dx:Option Addr} {ch:List Addr}
end
section
variable {P:Program} {w:World} {K:PySem.W.Frag} {mg:Str→Option Value} {base:Heap} {N:List Str} {qual:Str} {scope:Scope} {f:Addr} {cd:Value} {A:Around} {outer:List Env} {s₀:Shared} {H₀:Hp} {E:XK}
end
end L2
namespace L2
open PySem PySem.Spec PyProof.Rows PySem.W
structure XAt (K:PySem.W.Frag) (C P:Addr) (f:Str):Prop where
 cl:XCl K C (.ref P :: VE)
 set:findIn K (.ref C) "__setattr__" = some (some (.builtin "object.__setattr__"))
 no:findIn K (.ref C) f=some none
variable {qx:Bool}
structure XMk (K:PySem.W.Frag) (C P f:Addr):Prop where
 cl:XCl K C (.ref P :: VE)
 init:∃cd,clsIn K C=some cd∧nsIn K cd.ns "__init__" = some (some (.ref f))
 fn:isFn K (.ref f)=true
 kp:keepIn K (.ref C)=true
section
variable {X:Cx} {k:Nat} {f C P:Addr} {fd:FuncData} {pins:List (Addr×Obj)} {σ:St} {H:Hp} {s:Shared} {Q:Value→Shared→Prop} {us:List Value} {vs:List V} {a:Str} {ps:List Str} {v:V} {u:Value}
end
end L2
namespace L2
open PySem PySem.Spec PyProof.Rows PySem.W
variable {qx:Bool}
section
variable {M:Model} {A:Around} {E:Value→Shared→Prop} {K:PySem.W.Frag} {s:Shared} {x C C':Addr} {bm bm':List Value} {dx:Option Addr} {tb:Value}
end
end L2
namespace L2
open PySem PySem.Spec PyProof.Rows PySem.W
variable {qx:Bool}
def W8 (h:Heap) (T:Addr) (fl:Value):Prop:=∃(o:Obj) (ts:Array Value),h.get? T=some o∧o.data = .fields ts∧ts[3]?=some fl
section
variable {M:Model} {A:Around} {E:Value→Shared→Prop} {s:Shared} {env:Env} {outer:List Env} {base:Heap} {L x C:Addr} {dx:Option Addr} {tb:Value} {Q:Unit→Shared→Prop}
end
structure XOn (qx:Bool) (X:Cx) (pins:List (Addr×Obj)) (H:Hp) (s:Shared) (x C:Addr) (dx:Option Addr) (T:Option Addr) (fl:Value):Prop where
 hx:H x=some (.ext (F2.XIs qx x C dx))
 nx:X.s₀.heap.objs.size≤x
 rc:Uv qx s.heap x C dx (match T with | some a=>.ref a | none=>.none)
 tb:∀a,T=some a→a≠x∧H a=none∧X.s₀.heap.objs.size≤a∧(a≠X.env.locals∧(∀y c,X.env.cells.lookup y=some c→c≠a)∧∀p∈X.pn++pins,p.1≠a)∧W8 s.heap a fl
 fo:fl = .none∨fl=rawInt X.env.locals
section
variable {M:Model} {A:Around} {Er:Value→Shared→Prop} {X:Cx} {pins:List (Addr×Obj)} {σ:St} {H:Hp} {s:Shared} {x C:Addr} {dx T:Option Addr} {fl:Value} {Q:Unit→Shared→Prop}
end
def XE (qx:Bool) (X:Cx) (E:St→XK):Value→Shared→Prop:=fun e s=>∃pins σ H x C dx T fl,e = .ref x∧Inv X pins σ H s∧XOn qx X pins H s x C dx T fl∧E σ (.ref x) dx H
section
variable {M:Model} {X:Cx} {E:St→XK}
end
section
variable {P:Program} {w:World} {K:PySem.W.Frag} {mg:Str→Option Value} {base:Heap}
end
section
variable {X:Cx} {CX:CXT} {k:Nat} {f:Addr} {fd:FuncData} {ps:List Str} {sp:Sp} {E:St→XK} {x:Str} {p pos:Pos} {e:Expr} {es:List Expr} {t:TA}
end
end L2
namespace L2
open PySem PySem.Spec PyProof.Rows PySem.W
variable {qx:Bool}
section
variable {prog:Program} {w:World} {A:Around} {E:Value→Shared→Prop} {h:Heap} {g:Array GenState} {d:Drawn} {t:Nat} {os:OsState} {Q:Value→Shared→Prop}
variable {nm q:Str} {C N:Addr} {bs bm bmB:List Value} {hdct:Bool} {sn:List Str} {sub:List Value} {ab:Bool} {col:Option Bool} {dd:Option Addr} {k0 k1 k2 k3 k5:Option Value} {B newId initId:String} {mN:Str→Option Value}
end
section
variable {X:Cx} {k:Nat} {f C P:Addr} {fd:FuncData} {a:Str} {ps:List Str} {n:Str} {p pos:Pos} {e:Expr} {es:List Expr}
end
end L2
namespace L2
open PySem PySem.Spec PyProof.Rows PySem.W
variable {qx:Bool}
section
variable {X:Cx} {pins:List (Addr×Obj)} {σ:St} {H:Hp} {s:Shared} {D:Ends}
end
section
variable {X:Cx} {n v:Str} {C':Addr} {bm':List Value} {p pos:Pos} {b₀:Stmt} {suite:List Stmt} {rest:List ExceptHandler} {ts:Addr→TS} {tr:Addr→Addr→Option Addr→TS} {i:Nat}
end
end L2
namespace F2
open PySem L2 PySem.Spec
variable {qx:Bool}
def EA:D→Bool
 | .exc _ _=>true
 | _=>false
def exE (E:XK) (v:V) (H:Hp):Prop:=∀x dx,v = .ref x→E (.ref x) dx H
section
variable (K:PySem.W.Frag)
inductive RX (E:L2.St→XK) (f:M D) (σ:L2.St) (H:Hp) (Q:VK):Prop where
 | mk (Oo:Addr→Prop) (c:Cf) (t:T) (fi:FInv K Oo c t σ H) (r:D) (t':T) (e:f t=some (r,t')) (k:∀v H' c',FInv K Oo c' t' σ H'→Stp Oo c H c' H'→Rep K c' H' v r→if EA r=true then exE (E σ) v H' else Q v H'):RX E f σ H Q
inductive RSX (E:L2.St→XK) (f:M Out) (D:Ends) (σ:L2.St) (H:Hp):Prop where
 | mk (Oo:Addr→Prop) (c:Cf) (t:T) (fi:FInv K Oo c t σ H) (o:Out) (t':T) (e:f t=some (o,t')) (k:∀σ' H' c',FInv K Oo c' t' σ' H'→Stp Oo c H c' H'→
 match (generalizing:=false) o with
 | .next=>D.nx σ' H'
 | .brk=>D.bk σ' H'
 | .cont=>D.ct σ' H'
 | .ret r=>∀v,Rep K c' H' v r→if EA r=true then exE (E σ') v H' else D.rt v H'):RSX E f D σ H
inductive spX (f:Fn) (vs:List V) (H:Hp) (Q:VK) (E:XK):Prop where
 | mk (c:Cf) (ds:List D) (S:List Ob) (si:SInv K c S H) (rs:Reps K c H vs ds) (r:D) (S':List Ob) (e:f ds S=some (r,S')) (k:∀v H' c',SInv K c' S' H'→Stp c.O c H c' H'→(∀b,c'.O b↔c.O b)→Rep K c' H' v r→if EA r=true then exE E v H' else Q v H'):spX f vs H Q E
end
def YH (g:Fn):Fn:=fun ds S=>match g ds S with
 | some (r,S')=>if EA r=true then none else some (r,S')
 | none=>none
section
variable {P:Program} {w:World} {K:PySem.W.Frag} {mg:Str→Option Value} {base:Heap}
end
section
variable {X:Cx} {e a b:Expr} {es:List Expr} {pos:Pos} {E:L2.St→XK} {st:Stmt}
def nxD (f:M D):M D:=bnd f fun d=>if EA d=true then fail else ret d
def Qp (g:M D) (h:D→M D):M D:=bnd g fun y=>if EA y=true then ret y else nxD (h y)
def Yy (f g:M D) (h:D→D→M D):M D:=bnd f fun x=>Qp g fun y=>h x y
def Yz (f g:M D) (h:D→D→M D):M D:=Qp f fun x=>bnd g fun y=>h x y
def Yl (g:Fn) (f:M D):M D:=Qp f fun d t=>match g [d] t.S with
 | some (r,S')=>some (r,{ t with S:=S' })
 | none=>none
def YJ (i:Nat) (f:M D):M Out:=bnd f fun d=>if EA d=true then ret (.ret d) else bnd (Bv i d) fun _=>ret .next
def Yx (f:M D):M Out:=bnd f fun d=>if EA d=true then ret (.ret d) else ret .next
def YE (f:M D) (g:D→M Unit):M Out:=bnd f fun d=>if EA d=true then ret (.ret d) else bnd (g d) fun _=>ret .next
end
end F2
namespace L2
open PySem PySem.Spec PyProof.Rows PySem.W PySem.Builtin PySem.Builtin.ObjectAttr
structure XGet (K:PySem.W.Frag) (C:Addr):Prop where
 ga:findIn K (.ref C) "__getattribute__" = some (some (.builtin "BaseException.__getattribute__"))
 gt:findIn K (.ref C) "__getattr__" = some none
 mb:mroIn K C (.type "BaseException")=some true
 mo:mroIn K C (.type "object")=some true
 hd:hasDictIn K C=true
section
variable {prog:Program} {w:World} {A:Around} {E:Value→Shared→Prop} {s:Shared} {K:PySem.W.Frag} {x C:Addr} {ox:Obj} {od:Option Obj} {name:Str} {tk:Tok} {Q:Value→Shared→Prop} {R:Result→Shared→Prop}
end
end L2
namespace L2
open PySem PySem.Spec PyProof.Rows PySem.W
end L2
namespace F2
open PySem L2 PySem.Spec PySem.W
variable {qx:Bool}
abbrev DM:List Str:=["NoValue", "Short", "Broken", "NoTalk", "NoName", "NoText", "NoRow"]
structure XM (K:PySem.W.Frag) (mg:Str→Option Value) (P:Addr) (ca:Str→Addr):Prop where
 pm:mg "ParleyError" = some (.ref P)
 pc:XCl K P VE
 ns:∀n∈DM,nsIn K mainGlobals n=some (some (.ref (ca n)))
 ms:∀n∈DM,mg n=some (.ref (ca n))
 cl:∀n∈DM,XCl K (ca n) (.ref P :: VE)
 inj:∀n∈DM,∀m∈DM,ca n=ca m→n=m
 np:∀n∈DM,ca n≠P
 kp:∀n∈DM,keepIn K (.ref (ca n))=true
 gt:∀n∈DM,XGet K (ca n)
 gc:∀n∈DM,findIn K (.ref (ca n)) "__class__" = some (some (.builtin "object.__class__"))
 na:∀n∈DM,findIn K (.ref (ca n)) "at" = some none
 nd:∀n∈DM,findIn K (.ref (ca n)) "side" = some none
def Rj (n m:Str):Bool:=m == "ParleyError" || m == "ValueError" || n == m
section
variable {K:PySem.W.Frag} {mg:Str→Option Value} {P:Addr} {ca:Str→Addr}
end
section
variable {X:Cx} {e:Expr} {es:List Expr} {pos p pos2:Pos} {E:L2.St→XK} {P:Addr} {ca:Str→Addr}
def Yo (n:Str) (f:M (List D)):M Out:=bnd f fun ds=>match ds with
 | [d]=>ret (.ret (.exc n [d]))
 | _=>fail
def Yn (n:Str) (f:M (List D)):M Out:=bnd f fun ds=>if ds.length≤1000 then ret (.ret (.exc n [])) else fail
end
section
variable {X:Cx} {pos p:Pos} {P:Addr} {ca:Str→Addr} {μ:Cf→Hp→D→(V→Hp→Prop)→Prop}
inductive RH (K:PySem.W.Frag) (ca:Str→Addr) (μ:Cf→Hp→D→(V→Hp→Prop)→Prop) (h:D→M Out) (x C:Addr) (dx:Option Addr) (E:Ends) (σ:L2.St) (H:Hp):Prop where
 | mk (Oo:Addr→Prop) (c:Cf) (t:T) (n:Str) (ds:List D) (fi:FInv K Oo c t σ H) (hn:n∈DM) (hC:C=ca n) (rp:Rep K c H (.ref x) (.exc n ds)) (o:Out) (t':T) (e:h (.exc n ds) t=some (o,t')) (k:∀σ' H' c',FInv K Oo c' t' σ' H'→Stp Oo c H c' H'→
   match (generalizing:=false) o with
   | .next=>E.nx σ' H'
   | .brk=>E.bk σ' H'
   | .cont=>E.ct σ' H'
   | .ret r=>μ c' H' r E.rt):RH K ca μ h x C dx E σ H
def unE (i:Nat) (t:T):T:={ t with env:=t.env.set i none }
def hAs (n':Str) (i:Nat) (s:M Out) (r:D→M Out):D→M Out:=fun e t=>match e with
 | .exc n ds=>if Rj n n'=true then (match s { t with env:=t.env.set i (some (.val (.exc n ds))) } with
   | some (o,t2)=>some (o,unE i t2)
   | none=>none) else r (.exc n ds) t
 | _=>none
def hNo (n':Str) (s:M Out) (r:D→M Out):D→M Out:=fun e t=>match e with
 | .exc n ds=>if Rj n n'=true then s t else r (.exc n ds) t
 | _=>none
def YL (b:M Out) (h:D→M Out):M Out:=fun t=>match b t with
 | some (.ret (.exc n ds),t1)=>if n∈DM then h (.exc n ds) t1 else none
 | z=>z
end
end F2
namespace F2
open PySem L2 PySem.Spec PySem.W
variable {qx:Bool}
def YG (n:Str):D→M D
 | .exc m _=>if m∈DM then ret (.bl (Rj m n)) else fail
 | .non=>ret (.bl false)
 | .bl _=>ret (.bl false)
 | .int _=>ret (.bl false)
 | .str _=>ret (.bl false)
 | .lst _=>ret (.bl false)
 | .tup _=>ret (.bl false)
 | .dic=>ret (.bl false)
 | _=>fail
section
variable {X:Cx} {P:Addr} {ca:Str→Addr} {a:Expr} {f:M D} {p pos q:Pos}
def YF (nm:Str):D→M D
 | .exc n ds=>if n∈DM then (match ((UH n).zip ds).lookup nm with
   | some d=>ret d
   | none=>fail) else fail
 | _=>fail
end
end F2
namespace F2
open PySem L2 PySem.Spec PySem.W
variable {qx:Bool}
structure XOne (K:PySem.W.Frag) (P c:Addr):Prop where
 cl:XCl K c (.ref P :: VE)
 kp:keepIn K (.ref c)=true
 gt:XGet K c
 gc:findIn K (.ref c) "__class__" = some (some (.builtin "object.__class__"))
 na:findIn K (.ref c) "at" = some none
 nd:findIn K (.ref c) "side" = some none
end F2
namespace F2
open PySem L2 PySem.Spec PySem.W
inductive Kd where
 | pl | fr | ex | er
section
variable {X:Cx} {e a b:Expr} {pos:Pos} {f g:M D}
end
variable {qx:Bool}
section
variable {X:Cx} {P:Addr} {ca:Str→Addr} {a:Expr} {es:List Expr} {f:M D} {p pos q:Pos} {i:Nat} {ns:List Str}
end
end F2
namespace F2
open PySem L2 PySem.Spec SeqAt
end F2
namespace L2
open PySem PySem.Spec PyProof.Rows PySem.W PySem.Builtin PySem.Builtin.ObjectAttr
variable {qx:Bool}
section
variable {prog:Program} {w:World} {A:Around} {s:Shared} {K:PySem.W.Frag} {x C P dx:Addr} {ox:Obj} {od:Option Obj} {R:Result→Shared→Prop} {name:Str} {v:Value} {tk:Tok} {cd:ClassData}
end
section
variable {X:Cx} {k:Nat} {f C P:Addr} {fd:FuncData} {pins:List (Addr×Obj)} {σ:St} {H:Hp} {s:Shared} {Q:Value→Shared→Prop} {us:List Value} {vs:List V} {a b:Str} {ps:List Str} {v v2:V} {u u2:Value}
end
section
variable {X:Cx} {k:Nat} {f C P:Addr} {fd:FuncData} {a b:Str} {ps:List Str} {n:Str} {p pos:Pos} {e e':Expr}
end
end L2
namespace F2
open PySem L2 PySem.Spec PySem.W
variable {qx:Bool}
section
variable {X:Cx} {e e':Expr} {pos p pos2:Pos} {E:L2.St→XK} {P:Addr} {ca:Str→Addr}
end
end F2
namespace L2
open PySem PySem.Spec PyProof.Rows PySem.W
end L2
namespace F2
open PySem L2 PySem.Spec
section
variable {X:Cx} {a b:Expr} {pos:Pos}
end
end F2
namespace L2
open PySem PySem.Spec PyProof.Rows
abbrev q1:Str:="\""
abbrev q2:Str:=q1++q1
section
variable {X:Cx} {o:Expr} {to:TE} {p1 p2 p3 p4 apos cpos:Pos}
theorem Kg:∀(l:List (Str×Tok)),Vals ((l.map (·.1)).map V.str) (strValues l)
 | []=>.nil
 | (y,t) :: r=>.cons ⟨t,rfl⟩ (Kg r)
def PK:V→List V→Hp→VK→Prop:=fun x xs H Q=>∃z y,x = .str z∧xs=[.str y]∧(y.length == 0)=false∧z.length≤1000000∧∀l,H l=none→Q (.ref l) (upd H l (.lst ((Txt.split z y).map V.str)))
theorem QJ:MtR X "str.split" PK:=by
 intro pins s σ H x xs v us Q I rx rs h
 obtain ⟨z,y,rfl,rfl,hy,hz,q⟩:=h
 obtain ⟨t,rfl⟩:=rx
 obtain ⟨u,rfl,t2,rfl⟩:=Dt rs
 have hl:sizeLine=16777216:=sizeLine_eq
 have hpl:(Builtin.Str.partsBetween z (Builtin.Str.occurrences z y 0 z.length (z.length + 1)) y.length).length≤z.length + 2:=by
  rw [len_partsBetween]
  have:=PySem.StrLaws.occ_length_le z y 0 z.length (z.length + 1)
  lia
 have fin:∀(l:List (Str×Tok)) (k:Nat),l.map (·.1)=Txt.split z y→s.toks≤k→EP X pins σ Q (.ref s.heap.objs.size) { s with toks:=k,heap:=s.heap.push { cls:=.type "list",data:=.seq (strValues l).toArray } }:=fun l k e hk=>by
  have hsp:(Txt.split z y).length≤z.length + 2:=split_le z y
  have I2:=I.lnew (t':=k) (its:=strValues l) (ys:=(Txt.split z y).map V.str) (by rw [←e];exact Kg l) (by rw [List.length_map];lia)
  exact ⟨.ref _,_,I2,rfl,q _ I.fresh⟩
 cases h1:(decide (z.length < y.length) || decide (Builtin.Str.strKind z < Builtin.Str.strKind y))
 ·cases hf:(Builtin.Str.occurrences z y 0 z.length (z.length + 1)).isEmpty
  ·refine call_meets F.slot_str_split (typeIs_str _ _ _) F.entry_str_split (F.args_str_split_2 _ _) (meets_str_split_sep z y t t2 h1 hy hf (by lia) (by lia)) ?_
   have:=fin (numbered s.toks (Builtin.Str.partsBetween z (Builtin.Str.occurrences z y 0 z.length (z.length + 1)) y.length)) (s.toks + (Builtin.Str.partsBetween z (Builtin.Str.occurrences z y 0 z.length (z.length + 1)) y.length).length) ((numbered_texts _ _).trans ((if_neg (ne_true_of_eq_false h1)).trans (if_neg (ne_true_of_eq_false hf))).symm) (by lia)
   rw [←strsFrom_eq] at this
   exact this
  ·exact call_meets F.slot_str_split (typeIs_str _ _ _) F.entry_str_split (F.args_str_split_2 _ _) (meets_str_split_not_found z y t t2 h1 hy hf)
    (fin [(z,t)] s.toks ((if_neg (ne_true_of_eq_false h1)).trans (if_pos hf)).symm (Nat.le_refl _))
 ·exact call_meets F.slot_str_split (typeIs_str _ _ _) F.entry_str_split (F.args_str_split_2 _ _) (meets_str_split_cannot_occur z y t t2 h1)
   (fin [(z,t)] s.toks (if_pos h1).symm (Nat.le_refl _))
def PJ (K:PySem.W.Frag):V→List V→Hp→VK→Prop:=fun x xs H Q=>∃z a ys,x = .str z∧xs=[.ref a]∧SqL K H a (ys.map V.str)∧z.length≤16∧(ys.map (·.length)).sum + ys.length≤1048576∧Q (.str (Txt.join z ys)) H
theorem IQ:∀{ys:List Str} {us:List Value},Vals (ys.map V.str) us→StrsAre us ys
 | [],_,r=>by cases r;exact .nil
 | _ :: _,_,r=>by
   cases r with
   | cons r1 r2=>obtain ⟨t,rfl⟩:=r1;exact .cons _ _ (IQ r2)
theorem QH:MtR X "str.join" (PJ X.K):=by
 intro pins s σ H x xs v us Q I rx rs h
 obtain ⟨z,a,ys,rfl,rfl,ha,h1,h2,q⟩:=h
 obtain ⟨t,rfl⟩:=rx
 obtain ⟨u,rfl,ru⟩:=Dt rs
 cases ru
 obtain ⟨its,r,pl,_⟩:=I.list ha
 refine wpAny_with_toks (Nat.le_refl s.toks) (join_listW pl.isList (by simpa using IQ r) h1 h2 fun t' k ht=>?_)
 exact ⟨.str _,H,I.tok _,⟨_,rfl⟩,q⟩
end
end L2
namespace F2
open PySem L2 PySem.Spec PyProof.Rows
variable {K:PySem.W.Frag}
def splitM (f:M D) (g:M (List D)):M (List D):=bnd f fun o=>bnd g fun as=>match o,as with
 | .str z,[.str y]=>if (y.length == 0)=false∧z.length≤1000000 then ret ((Txt.split z y).map D.str) else fail
 | _,_=>fail
def DZ:List D→Option (List Str)
 | []=>some []
 | .str x :: r=>(DZ r).map (x :: ·)
 | _=>none
def joinW (f:M D) (g:M (List D)):M D:=bnd f fun o=>bnd g fun as=>match o,as with
 | .str z,[.lst ds]=>match DZ ds with
   | some ys=>if z.length≤16∧(ys.map (·.length)).sum + ys.length≤1048576 then ret (.str (Txt.join z ys)) else fail
   | none=>fail
 | _,_=>fail
theorem Ke {c:Cf} {H:Hp}:∀{ds:List D} {vs:List V} {ys:List Str},Reps K c H vs ds→DZ ds=some ys→vs=ys.map V.str
 | [],_,ys,r,e=>by
   cases r
   cases e
   rfl
 | d :: ds,_,ys,r,e=>by
   cases r with
   | cons r1 r2=>
     cases r1 with
     | str x=>
       obtain ⟨zs,e1,rfl⟩:=Option.map_eq_some_iff.mp e
       rw [Ke r2 e1];rfl
     | _=>cases e
theorem J7 {c:Cf} {H:Hp}:∀(ys:List Str),Reps K c H (ys.map V.str) (ys.map D.str)
 | []=>.nil
 | y :: r=>.cons (.str y) (J7 r)
theorem RE.joinW {f:M D} {g:M (List D)} {σ:L2.St} {H:Hp} {Q:VK} (q:RE K (F2.joinW f g) σ H Q):tBM K "str" (PJ K) (RE K f) (RA K g) σ H Q:=by
 obtain ⟨Oo,c,t,fi,r,t',eq,k⟩:=q
 obtain ⟨d,t1,e1,eq1⟩:=Am eq
 clear eq
 obtain ⟨as,t2,e2,eq⟩:=Am eq1
 clear eq1
 refine ⟨Oo,c,t,fi,d,t1,e1,fun v H1 c1 f1 s1 rv=>?_⟩
 split at eq
 ·next z ds=>
  cases rv
  refine ⟨rfl,Oo,c1,t1,f1,_,t2,e2,fun us H2 c2 f2 s2 rus=>?_⟩
  obtain ⟨w,rfl,rw'⟩:=Ds rus
  cases ey:DZ ds with
  | none=>rw [ey] at eq;cases eq
  | some ys=>
    rw [ey] at eq
    dsimp only at eq
    by_cases hz:z.length≤16∧(ys.map (·.length)).sum + ys.length≤1048576
    ·rw [if_pos hz] at eq
     cases eq
     cases rw' with
     | @lst p vs ds h1 h2 h3=>
       have h4:=Ke h3 ey
       subst h4
       exact ⟨_,p,ys,rfl,rfl,SqL.of h1,hz.1,hz.2,k _ _ c2 f2 (s1.trans s2) (.str _)⟩
    ·rw [if_neg hz] at eq;cases eq
 ·cases eq
theorem RF.splitM {f:M D} {g:M (List D)} {σ:L2.St} {H:Hp} {Q:VK} (q:RF K (F2.splitM f g) σ H Q):tBM K "str" PK (RE K f) (RA K g) σ H Q:=by
 obtain ⟨Oo,c,t,fi,r,t',eq,k⟩:=q
 obtain ⟨d,t1,e1,eq1⟩:=Am eq
 clear eq
 obtain ⟨as,t2,e2,eq⟩:=Am eq1
 clear eq1
 refine ⟨Oo,c,t,fi,d,t1,e1,fun v H1 c1 f1 s1 rv=>?_⟩
 split at eq
 ·next z y=>
  cases rv
  refine ⟨rfl,Oo,c1,t1,f1,_,t2,e2,fun us H2 c2 f2 s2 rus=>?_⟩
  obtain ⟨w,rfl,rw'⟩:=Ds rus
  by_cases hz:(y.length == 0)=false∧z.length≤1000000
  ·rw [if_pos hz] at eq
   cases eq
   cases rw'
   exact ⟨_,_,rfl,rfl,hz.1,hz.2,fun l hl=>k l _ H2 c2 f2 (s1.trans s2) (J7 _) hl⟩
  ·rw [if_neg hz] at eq;cases eq
 ·cases eq
section
variable {X:Cx} {o e:Expr} {es:List Expr} {f:M D} {g:M (List D)} {apos cpos p1 p2 p3 p4:Pos}
theorem D1 (ho:PE X o (RE X.K f)) (ha:PA X (e :: es) (RA X.K g))
 (hbase:attributeBase o "join" X.env (eval o X.env)=eval o X.env:=by rfl)
 (hfew:((backTo cpos (starEach (e :: es) X.env)).all (fun x=>!x.1) && (backToKw cpos (keywordEach [] X.env)).all (fun x=>x.1.isSome) && decide ((e :: es).length + ([]:List Keyword).length + (if ([]:List Keyword).isEmpty then 0 else 1) < 30))=true:=by rfl)
 (hline:(apos.endLine == cpos.line)=true:=by rfl) (hs:starEach (e :: es) X.env=(false,eval e X.env) :: starEach es X.env:=by rfl) (hplain:(backTo cpos (starEach es X.env)).any (·.1)=false:=by rfl) :
 PE X (.Call (.Attribute o "join" apos) (e :: es) [] cpos) (RE X.K (joinW f g)):=
 BA (FE PySem.F.plainAttrs_str PySem.F.slot_str_join PySem.F.type_str_join QH ho ha hbase hfew hline hs hplain) fun _ _ _ q=>RE.joinW q
theorem Lq (ho:PE X o (RE X.K f)) (ha:PA X (e :: es) (RA X.K g))
 (hbase:attributeBase o "split" X.env (eval o X.env)=eval o X.env:=by rfl)
 (hfew:((backTo cpos (starEach (e :: es) X.env)).all (fun x=>!x.1) && (backToKw cpos (keywordEach [] X.env)).all (fun x=>x.1.isSome) && decide ((e :: es).length + ([]:List Keyword).length + (if ([]:List Keyword).isEmpty then 0 else 1) < 30))=true:=by rfl)
 (hline:(apos.endLine == cpos.line)=true:=by rfl) (hs:starEach (e :: es) X.env=(false,eval e X.env) :: starEach es X.env:=by rfl) (hplain:(backTo cpos (starEach es X.env)).any (·.1)=false:=by rfl) :
 PE X (.Call (.Attribute o "split" apos) (e :: es) [] cpos) (RF X.K (splitM f g)):=
 BA (FE PySem.F.plainAttrs_str PySem.F.slot_str_split PySem.F.type_str_split QJ ho ha hbase hfew hline hs hplain) fun _ _ _ q=>RF.splitM q
end
end F2
namespace L2
open PySem
end L2
namespace L2
open PySem PySem.Spec PyProof.Rows
section
variable {X:Cx}
def No:V→List V→Hp→VK→Prop:=fun x xs H Q=>∃z y i,x = .str z∧xs=[.str y,.int i]∧Q (.bl (Txt.startswith3 z y i)) H
theorem Pl:MtR X "str.startswith" No:=by
 intro pins s σ H x xs v us Q I rx rs h
 obtain ⟨z,y,i,rfl,rfl,q⟩:=h
 obtain ⟨t,rfl⟩:=rx
 obtain ⟨u1,u2,rfl,⟨t1,rfl⟩,⟨t2,rfl⟩⟩:=Sg rs
 exact SC.startswith3 ⟨.bl _,H,I,rfl,q⟩
def inT (y x:Str):Bool:=!(Builtin.Str.occurrences x y 0 x.length 1).isEmpty
def Vo:R2:=fun x y H Q=>∃a b,x = .str a∧y = .str b∧Q (.bl (inT a b)) H
theorem U4:OpR X (compareOp .In) Vo:=by
 intro pins s σ H x y v u Q I rx ry h
 obtain ⟨a,b,rfl,rfl,q⟩:=h
 obtain ⟨t1,rfl⟩:=rx
 obtain ⟨t2,rfl⟩:=ry
 exact PySem.P.in_str ⟨.bl _,H,I,rfl,q⟩
theorem OI:CL X (.type "int") (fun xs H Q=>∃x n,xs=[.str x]∧PySem.intText? x=some n∧x.length≤640∧Q (.int n) H):=by
 intro pins s σ H xs us Q I r h
 obtain ⟨x,n,rfl,hn,hl,q⟩:=h
 obtain ⟨u,rfl,t,rfl⟩:=Dt r
 exact PySem.W.KIN.call_text hn hl ⟨.int _,H,I.tok _,⟨_,rfl⟩,q⟩
end
end L2
namespace F2
open PySem L2 PySem.Spec PyProof.Rows
section
variable {X:Cx} {K:PySem.W.Frag} {o e:Expr} {es:List Expr} {f:M D} {g:M (List D)} {apos cpos:Pos}
def startsM (f:M D) (g:M (List D)):M D:=bnd f fun o=>bnd g fun as=>match o,as with
 | .str z,[.str y,.int i]=>ret (.bl (Txt.startswith3 z y i))
 | _,_=>fail
theorem VA {c:Cf} {H:Hp} {us:List V} {a b:D} (h:Reps K c H us [a,b]):∃u v,us=[u,v]∧Rep K c H u a∧Rep K c H v b:=by
 cases h with
 | cons r t=>cases t with
   | cons r2 t2=>cases t2;exact ⟨_,_,rfl,r,r2⟩
theorem RE.startsM {σ:L2.St} {H:Hp} {Q:VK} (q:RE K (F2.startsM f g) σ H Q):tBM K "str" No (RE K f) (RA K g) σ H Q:=by
 obtain ⟨Oo,c,t,fi,r,t',eq,k⟩:=q
 obtain ⟨d,t1,e1,eq⟩:=Am eq
 obtain ⟨as,t2,e2,eq⟩:=Am eq
 refine ⟨Oo,c,t,fi,d,t1,e1,fun v H1 c1 f1 s1 rv=>?_⟩
 split at eq
 ·next z y i=>
  cases rv
  refine ⟨rfl,Oo,c1,t1,f1,_,t2,e2,fun us H2 c2 f2 s2 rus=>?_⟩
  obtain ⟨w1,w2,rfl,r1,r2⟩:=VA rus
  cases eq
  cases r1
  cases r2
  exact ⟨_,_,_,rfl,rfl,k _ _ c2 f2 (s1.trans s2) (.bl _)⟩
 ·cases eq
theorem Fw (ho:PE X o (RE X.K f)) (ha:PA X (e :: es) (RA X.K g))
 (hbase:attributeBase o "startswith" X.env (eval o X.env)=eval o X.env:=by rfl)
 (hfew:((backTo cpos (starEach (e :: es) X.env)).all (fun x=>!x.1) && (backToKw cpos (keywordEach [] X.env)).all (fun x=>x.1.isSome) && decide ((e :: es).length + ([]:List Keyword).length + (if ([]:List Keyword).isEmpty then 0 else 1) < 30))=true:=by rfl)
 (hline:(apos.endLine == cpos.line)=true:=by rfl) (hs:starEach (e :: es) X.env=(false,eval e X.env) :: starEach es X.env:=by rfl) (hplain:(backTo cpos (starEach es X.env)).any (·.1)=false:=by rfl) :
 PE X (.Call (.Attribute o "startswith" apos) (e :: es) [] cpos) (RE X.K (startsM f g)):=
 BA (FE PySem.F.plainAttrs_str PySem.F.slot_str_startswith PySem.F.type_str_startswith Pl ho ha hbase hfew hline hs hplain) fun _ _ _ q=>RE.startsM q
def NV (x y:D):M D:=fun t=>match x,y with
 | .str a,.str b=>some (.bl (inT a b),t)
 | _,_=>none
theorem TW:B0 K Vo NV:=fun {Oo c t σ H x y dx dy r t' Q} f rx ry eq k=>by
 unfold NV at eq
 split at eq
 ·next a b=>
  cases eq
  cases rx
  cases ry
  exact ⟨_,_,rfl,rfl,k _ H c f .refl (.bl _)⟩
 ·cases eq
def Jl:List D→M D
 | [.str x]=>fun t=>match PySem.intText? x with
   | some n=>if x.length≤640 then some (.int n,t) else none
   | none=>none
 | _=>fail
theorem Ra:EN K (fun xs H Q=>∃x n,xs=[.str x]∧PySem.intText? x=some n∧x.length≤640∧Q (.int n) H) Jl:=fun {Oo c t σ H xs ds r t' Q} f rx eq k=>by
 unfold Jl at eq
 split at eq
 ·next x=>
  obtain ⟨v,rfl,rv⟩:=Ds rx
  cases en:PySem.intText? x with
  | none=>rw [en] at eq;cases eq
  | some n=>
    rw [en] at eq
    dsimp only at eq
    by_cases hz:x.length≤640
    ·rw [if_pos hz] at eq
     cases eq
     cases rv
     exact ⟨x,n,rfl,en,hz,k _ H c f .refl (.int _)⟩
    ·rw [if_neg hz] at eq;cases eq
 ·cases eq
end
end F2
namespace L2
open PySem PySem.Spec PyProof.Rows
section
variable {X:Cx} {pins:List (Addr×Obj)} {σ:St} {H:Hp} {s:Shared} {a:Addr} {o:Obj}
theorem Inv.track (I:Inv X pins σ H s) (h0:X.s₀.heap.objs.size≤a) (ho:s.heap.get? a=some o) (hn:H a=none) (hL:a≠X.env.locals) (hp:∀p∈X.pn++pins,p.1≠a) (hz:∀x,X.env.cells.lookup x=some a→x∈Ep):Inv X pins σ (upd H a (.frz o (.own 0))) s:=by
 have ne:∀b u,H b=some u→b≠a:=fun b u e z=>by rw [z,hn] at e;cases e
 have nn:∀b u,H b=some u→upd H a (.frz o (.own 0)) b=some u:=fun b u e=>by rw [Ar (ne b u e)];exact e
 refine ⟨I.ok,I.os,I.bare,⟨I.base.keep,I.base.slot,fun b ob q n hx=>?_,I.base.there,fun b xs q=>nn _ _ (I.base.tups b xs q),fun b ob u q=>nn _ _ (I.base.frzs b ob u q),fun b ps q=>?_⟩,I.loc,I.cell,by rw [Ar hL.symm];exact I.free,fun x c q=>?_,fun p hp'=>?_,fun b u q=>?_,I.len,I.tk⟩
 ·rw [Ar (Nat.ne_of_lt (Nat.lt_of_lt_of_le (Heap.lt_size q) h0))]
  exact I.base.free b ob q n hx
 ·obtain ⟨more,e⟩:=I.base.tbls b ps q
  exact ⟨more,nn _ _ e⟩
 ·by_cases hc:c=a
  ·subst hc
   exact .inr ⟨hz x q,o,_,AN⟩
  ·rw [Ar hc]
   exact I.freeC x c q
 ·obtain ⟨q1,q2,q3⟩:=I.pin p hp'
  exact ⟨q1,by rw [Ar (hp p hp')];exact q2,q3⟩
 ·by_cases hb:b=a
  ·subst hb
   rw [AN] at q;cases q
   exact ⟨ho,o,ho⟩
  ·rw [Ar hb] at q
   exact (I.hok b u q).stay (fun _ _ _ z=>z) (fun c z=>nn _ _ z) fun c xs z=>nn _ _ z
theorem Inv.grow {ps more:Array Value} {h':Heap} {t':Nat} (I:Inv X pins σ H s) (e:H a=some (.tbl ps)) (k:∀b u,b≠a→s.heap.get? b=some u→h'.get? b=some u) (hP:h'.get? a=some { cls:=.none,data:=.fields (ps++more) })
 (ht:s.toks≤t':=by first | exact Nat.le_refl _ | assumption | lia | (dsimp only;lia)):Inv X pins σ (upd H a (.tbl (ps++more))) { s with heap:=h',toks:=t' }:=by
 have ne:∀b u,H b=some u→(∀ps,u≠.tbl ps)→b≠a:=fun b u q n z=>by
  rw [z,e] at q;cases q;exact n _ rfl
 have nf:∀b,H b=none→b≠a:=fun b q z=>by rw [z,e] at q;cases q
 refine I.un ⟨fun b u q n _ _=>k b u (nf b n) q,fun b u q n _ _=>⟨u.slots,k b u (nf b n) q⟩,fun b u q n _=>by rw [Ar (nf b n)];exact n,fun b u q _=>?_,fun b xs q=>by rw [Ar (ne b _ q (by simp))];exact q,fun b ob u q=>by rw [Ar (ne b _ q (by simp))];exact q,fun b qs q=>?_⟩ (fun b u q=>?_) ht
 ·by_cases hb:b=a
  ·subst hb;exact ⟨_,hP⟩
  ·exact ⟨u,k b u hb q⟩
 ·by_cases hb:b=a
  ·subst hb
   rw [e] at q;cases q
   exact ⟨more,AN⟩
  ·exact ⟨#[],by rw [Ar hb,q];simp⟩
 ·by_cases hb:b=a
  ·subst hb
   rw [AN] at q;cases q
   exact hP
  ·rw [Ar hb] at q
   refine (I.hok b u q).stay (fun c v hc z=>k c v ?_ z) (fun c z=>?_) fun c xs z=>?_
   ·rcases hc with hc | hc
    ·rw [hc];exact hb
    ·exact ne c _ hc (by simp)
   ·rw [Ar (ne c _ z (by simp))];exact z
   ·rw [Ar (ne c _ z (by simp))];exact z
theorem Rl {H:Hp} {a b:Addr} {x y:HO} (h:a≠b):upd (upd H b y) a x=upd (upd H a x) b y:=by
 funext d
 by_cases h1:d=a
 ·subst h1;rw [AN,Ar h,AN]
 ·by_cases h2:d=b
  ·subst h2;rw [Ar h1,AN,AN]
  ·rw [Ar h1,Ar h2,Ar h2,Ar h1]
def KW (H H1:Hp):Prop:=∀b u,H b=some u→H1 b=some u
def CellsV (H:Hp):List Addr→List V→Prop:=Paired fun c v=>∃(o:Obj) (w:HO) (u:Value),H c=some (.frz o w)∧o.data = .cell (some u)∧RelV v u
theorem Inv.frzL:∀{l:List (Str×Addr)} {vs:List V},Paired (fun (p:Str×Addr) v=>X.env.cells.lookup p.1=some p.2∧X.fn p.1=true∧p.1∈Ep∧∃u,RelV v u∧s.heap.IsCell p.2 (some u)) l vs→∀{H:Hp},Inv X pins σ H s→
 ∃H1,Inv X pins σ H1 s∧KW H H1∧CellsV H1 (l.map (·.2)) vs
 | _,_,.nil,H,I=>⟨H,I,fun _ _ e=>e,.nil⟩
 | (x,c) :: l,v :: vs,.cons ⟨h1,h2,hz,u,h3,o,h4,h5⟩ t,H,I=>by
   have go:∃H1,Inv X pins σ H1 s∧KW H H1∧∃w,H1 c=some (.frz o w):=by
    rcases I.freeC x c h1 with hn | ⟨_,of,uf,hf⟩
    ·refine ⟨_,I.track (I.ok.cab x c h2 h1) h4 hn (I.cne x c h1) (fun p hp z=>?_) (fun y hy=>(I.ok.inj x y c h1 hy) ▸ hz),fun b q e=>?_,_,AN⟩
     ·obtain ⟨q1,_,_,_,q5⟩:=I.pin p hp
      rw [z] at q1
      rw [h4] at q1
      cases q1
      exact q5 _ h5
     ·rw [Ar (fun z=>by rw [z,hn] at e;cases e)];exact e
    ·have q1:=(I.hok c _ hf).1
     rw [h4] at q1;cases q1
     exact ⟨H,I,fun _ _ e=>e,uf,hf⟩
   obtain ⟨H1,I1,m1,w,e1⟩:=go
   obtain ⟨H2,I2,m2,c2⟩:=Inv.frzL t I1
   exact ⟨H2,I2,fun b q e=>m2 _ _ (m1 _ _ e),.cons ⟨o,w,u,m2 _ _ e1,h5,h3⟩ c2⟩
structure TabAt (base:Heap) (mg:Str→Option Value) (c P:Addr):Prop where
 hd:PySem.W.CodeHd base c P
 bl:base.BuiltinsAt mg P
 ne:mainGlobals≠P
def OM (oc:Obj) (qual:Str):Prop:=∃vs t,oc.data = .fields vs∧vs[1]?=some (.str qual t)
abbrev L7 (pos:Pos) (c':Addr):Array Value:=#[rawInt pos.line,rawInt pos.col,.ref c']
def VP (P:Addr) (qual:Str) (params:Arguments) (body:Expr) (scope:Scope) (pos:Pos) (names:List Str) (js:List Nat):TE:=fun σ H Q=>∃vs:List V,Paired (fun j v=>σ[j]?=some (some v)) js vs∧∃ps,H P=some (.tbl ps)∧
 ((ps=#[]∧∀H1 cs c' oc f pm ctv,KW H H1→CellsV H1 cs vs→cs.length=names.length→cs.Nodup→H1 c'=none→OM oc qual→H1 f=none→f≠c'→
    Q (.ref f) (upd (upd (upd H1 c' (.frz oc (.own 0))) P (.tbl (L7 pos c'))) f (.frz (PySem.W.kla_obj "<lambda>" qual params body scope (names.zip cs) pm c' ctv) (.own 0))))∨
  ∃c',ps=L7 pos c'∧∀H1 cs f pm ctv,KW H H1→CellsV H1 cs vs→cs.length=names.length→cs.Nodup→H1 f=none→
   Q (.ref f) (upd H1 f (.frz (PySem.W.kla_obj "<lambda>" qual params body scope (names.zip cs) pm c' ctv) (.own 0))))
theorem U9 {c P:Addr} {params:Arguments} {body:Expr} {scope:Scope} {pos:Pos} {names:List Str} {cs:List Addr} {js:List Nat} (T:TabAt X.base X.mg c P) (hcode:X.env.code = .ref c) (hlen:cs.length=names.length) (hnd:cs.Nodup)
 (hcl:closureFor scope X.env=pure (names.zip cs)) (hdef:defaultsOf params X.env=([],[]))
 (hn:Paired (fun (p:Str×Addr) j=>X.N[j]?=some p.1∧X.env.kindOf p.1=some .cell∧X.env.cells.lookup p.1=some p.2∧X.fn p.1=true∧p.1∈Ep) (names.zip cs) js) :
 PE X (.Lambda params body scope pos) (VP P (X.env.qual++"<lambda>") params body scope pos names js):=by
 intro pins s σ H Q I h
 obtain ⟨vs,hvs,ps,hP,hh⟩:=h
 obtain ⟨m,hns,hl⟩:=id I.loc
 have cells:∀{l:List (Str×Addr)} {js:List Nat} {vs:List V},Paired (fun (p:Str×Addr) j=>X.N[j]?=some p.1∧X.env.kindOf p.1=some .cell∧X.env.cells.lookup p.1=some p.2∧X.fn p.1=true∧p.1∈Ep) l js→Paired (fun j v=>σ[j]?=some (some v)) js vs→
  Paired (fun (p:Str×Addr) v=>X.env.cells.lookup p.1=some p.2∧X.fn p.1=true∧p.1∈Ep∧∃u,RelV v u∧s.heap.IsCell p.2 (some u)) l vs:=by
  intro l js vs h1
  induction h1 generalizing vs with
  | nil=>intro h2;cases h2;exact .nil
  | cons a _ ih=>
    intro h2
    cases h2 with
    | cons b t=>
      refine .cons ⟨a.2.2.1,a.2.2.2.1,a.2.2.2.2,?_⟩ (ih t)
      obtain ⟨u,r,lk⟩:=hl _ _ _ a.1 b (.inr (.inl a.2.1))
      rcases lk with ⟨k,_⟩ | ⟨_,c1,e1,z⟩
      ·rw [a.2.1] at k;cases k
      ·rw [a.2.2.1] at e1;cases e1
       exact ⟨u,r,z⟩
 obtain ⟨H1,I1,m1,cv⟩:=I.frzL (cells hn hvs)
 have ecs:(names.zip cs).map (·.2)=cs:=by
  rw [show (fun (x:Str×Addr)=>x.2)=Prod.snd from rfl,List.map_snd_zip (Nat.le_of_eq hlen)]
 rw [ecs] at cv
 have hP1:=m1 _ _ hP
 have hPo:s.heap.get? P=some (PySem.W.tabObj ps):=I1.hok P _ hP1
 have hg:s.heap.Ns mainGlobals X.mg:=I.mod.glob.keeps I.bk
 have C:PySem.W.CodeHd s.heap c P:=T.hd.keeps I.bk
 obtain ⟨bm,ob,b1,b2,b3,b4,b5,b6⟩:=T.bl
 have hb:s.heap.BuiltinsAt X.mg P:=⟨bm,ob,b1,b2,b3,b4,I.bk _ _ b5,b6⟩
 refine PySem.W.kla_eval hdef ?_
 rcases hh with ⟨rfl,q⟩ | ⟨c',rfl,q⟩
 ·refine wpAny_with_toks (Nat.le_refl s.toks) (PySem.W.kla_makeFunction (mg:=X.mg) hcl I.ok.glob hg hcode C hPo trivial rfl T.ne hb fun c' ctv h' tk hx hge hlt hrec htb htk=>?_)
  have htk':s.toks≤tk:=htk
  obtain ⟨c2,oc,ws,tq,e2,hoc,hd,hv⟩:=hrec
  cases e2
  have htb':h'.get? P=some { cls:=.none,data:=.fields ((#[]:Array Value)++L7 pos c') }:=by simpa using htb
  have I2:=I1.grow (t':=tk) hP1 (fun b u nb e=>hx b u nb e) htb'
  have n1:H1 c'=none:=I1.hok.fresh hge
  have nP:c'≠P:=fun z=>by rw [z,hP1] at n1;cases n1
  have n2:upd H1 P (.tbl (#[]++L7 pos c')) c'=none:=by rw [Ar nP];exact n1
  have I3:=I2.track (a:=c') (Nat.le_trans I1.sz hge) hoc n2 (Nat.ne_of_gt (Nat.lt_of_lt_of_le I1.lt hge)) (fun p hp z=>Nat.ne_of_lt (Nat.lt_of_lt_of_le (Heap.lt_size (I1.pin p hp).1) hge) z) (fun y hy=>by obtain ⟨_,oo,g1,_⟩:=I1.cell y c' hy;exact absurd (Heap.lt_size g1) (Nat.not_lt.mpr hge))
  have I4:=I3.laid (a:=h'.objs.size) (h':=h'.push (PySem.W.kla_obj "<lambda>" (X.env.qual++"<lambda>") params body scope (names.zip cs) ((X.mg "__name__").getD .none) c' ctv)) (t':=tk)
   (o:=.frz (PySem.W.kla_obj "<lambda>" (X.env.qual++"<lambda>") params body scope (names.zip cs) ((X.mg "__name__").getD .none) c' ctv) (.own 0)) (fun b u e=>Heap.get?_push_of_some _ e) (Nat.le_refl _) ⟨Heap.get?_push_size _ rfl,_,Heap.get?_push_size _ rfl⟩
  refine ⟨.ref h'.objs.size,_,I4,rfl,?_⟩
  have:=q H1 cs c' oc h'.objs.size ((X.mg "__name__").getD .none) ctv m1 cv hlen hnd n1 ⟨ws,tq,hd,hv⟩ (I1.hok.fresh (Nat.le_trans hge (Nat.le_of_lt hlt))) (Nat.ne_of_gt hlt)
  rw [Rl nP]
  simpa using this
 ·refine wpAny_with_toks (Nat.le_refl s.toks) (PySem.W.kla_makeFunctionHit (mg:=X.mg) (cv:=.ref c') hcl I.ok.glob hg hcode C hPo ⟨⟩ (by simp [codeAmong,rawInt]) hb fun ctv h' tk hk hsz htk=>?_)
  have htk':s.toks≤tk:=htk
  have I2:=I1.kept (h':=h') (t':=tk) hk
  have I4:=I2.laid (a:=h'.objs.size) (h':=h'.push (PySem.W.kla_obj "<lambda>" (X.env.qual++"<lambda>") params body scope (names.zip cs) ((X.mg "__name__").getD .none) c' ctv)) (t':=tk)
   (o:=.frz (PySem.W.kla_obj "<lambda>" (X.env.qual++"<lambda>") params body scope (names.zip cs) ((X.mg "__name__").getD .none) c' ctv) (.own 0)) (fun b u e=>Heap.get?_push_of_some _ e) (Nat.le_refl _) ⟨Heap.get?_push_size _ rfl,_,Heap.get?_push_size _ rfl⟩
  exact ⟨.ref h'.objs.size,_,I4,rfl,q H1 cs h'.objs.size _ ctv m1 cv hlen hnd (I1.hok.fresh hsz)⟩
end
theorem CellsV.at {H:Hp}:∀{names:List Str} {cs:List Addr} {vs:List V} {j:Nat} {y:Str} {v:V},names.Nodup→cs.length=names.length→CellsV H cs vs→names[j]?=some y→vs[j]?=some v→
 ∃(c:Addr) (o:Obj) (w:HO) (u:Value),(names.zip cs).lookup y=some c∧H c=some (.frz o w)∧o.data = .cell (some u)∧RelV v u
 | [],_,_,_,_,_,_,_,_,e,_=>by simp at e
 | n :: names,[],_,_,_,_,_,hl,_,_,_=>by simp at hl
 | n :: names,c :: cs,v0 :: vs,0,y,v,nd,hl,.cons ⟨o,w,u,h1,h2,h3⟩ _,e,e'=>by
   simp at e e';subst e e'
   exact ⟨c,o,w,u,by simp [List.lookup],h1,h2,h3⟩
 | n :: names,c :: cs,v0 :: vs,j + 1,y,v,nd,hl,.cons _ t,e,e'=>by
   have ey:names[j]?=some y:=by simpa using e
   have ne:(y == n)=false:=by
    rw [beq_eq_false_iff_ne]
    rintro rfl
    exact (List.nodup_cons.mp nd).1 (List.mem_of_getElem? ey)
   obtain ⟨c1,o,w,u,h1,h2⟩:=CellsV.at (j:=j) (List.nodup_cons.mp nd).2 (by simpa using hl) t ey (by simpa using e')
   exact ⟨c1,o,w,u,by rw [List.zip_cons_cons,List.lookup_cons,ne];exact h1,h2⟩
theorem CellsV.mem {H:Hp}:∀{cs:List Addr} {vs:List V} {c:Addr},CellsV H cs vs→c∈cs→∃(o:Obj) (w:HO) (u:Value),H c=some (.frz o w)∧o.data = .cell (some u)
 | c0 :: cs,_,c,.cons ⟨o,w,u,h1,h2,_⟩ t,h=>by
   rcases List.mem_cons.mp h with rfl | h
   ·exact ⟨o,w,u,h1,h2⟩
   ·exact CellsV.mem t h
def Hd (CX:CXT) (P:Program) (w:World) (K:PySem.W.Frag) (mg:Str→Option Value) (base:Heap) (N:List Str) (qual:Str) (scope:Scope) (f:Addr) (cd:Value) (cl:List (Str×Addr)) (A:Around) (outer:List Env) (s:Shared) (H:Hp) (E:XK):Cx where
 prog:=P
 w:=w
 K:=K
 mg:=mg
 base:=base
 A:=A.deeper (PySem.W.envX qual scope s.heap.objs.size f cd cl)
 N:=N
 s₀:=s
 H₀:=H
 env:=PySem.W.envX qual scope s.heap.objs.size f cd cl
 outer:=outer
 stack:=PySem.W.envX qual scope s.heap.objs.size f cd cl :: outer
 ex:=[]
 calm:=true
 fn:=fun _=>false
 pn:=[]
 xe:=fun e s'=>wpAny (model P w) (A.deeper (PySem.W.envX qual scope s.heap.objs.size f cd cl)) (leaving (PySem.W.envX qual scope s.heap.objs.size f cd cl) e) (fun _ s''=>CX outer H s E e s'') (fun e' s''=>CX outer H s E e' s'') s'
theorem Ph {CX:CXT} {P:Program} {w:World} {K:PySem.W.Frag} {mg:Str→Option Value} {base:Heap} {qual:Str} {scope:Scope} {f:Addr} {cd:Value} {A:Around} {outer:List Env} {s:Shared} {H:Hp} {E:XK} {x:Str} {names:List Str} {cs:List Addr} {caps:List V} {v:V} {u:Value} {h1:Heap} {tk:Nat}
 (hk:scope.kind = .function) (hx:scope.names.lookup x=some .local) (hfr:∀y∈names,scope.names.lookup y=some .free) (hall:∀y,scope.names.lookup y=some .free→y∈names) (hcell:∀y∈scope.names,y.2≠.cell) (hnd:cs.Nodup) (nd:names.Nodup) (hlen:cs.length=names.length) (hfz:∀y∈names,y∈Ep)
 (cv:CellsV H cs caps) (hd:A.handled=none) (e0:Env0 P w K mg base A outer s H) (r:RelV v u) (hns:h1.Ns s.heap.objs.size (fun y=>([(x,u)]:List (Str×Value)).reverse.lookup y)) (hk1:∀b o,s.heap.get? b=some o→h1.get? b=some o) (ht:s.toks≤tk) :
 Inv (Hd CX P w K mg base (x :: names) qual scope f cd (names.zip cs) A outer s H E) [] (some v :: caps.map some) H { s with heap:=h1,toks:=tk }:=by
 have noA:∀b:Addr,b∉(Hd CX P w K mg base (x :: names) qual scope f cd (names.zip cs) A outer s H E).ex:=fun b z=>absurd (show b∈([]:List Addr) from z) (by simp)
 have lc:caps.length=names.length:=by have:=cv.length;lia
 have csmem:∀{y:Str} {c:Addr},(names.zip cs).lookup y=some c→c∈cs:=fun e=>(List.of_mem_zip (PySem.mem_of_lookup e)).2
 have pw:∀{ns:List Str} {cs:List Addr},cs.Nodup→(ns.zip cs).Pairwise fun a b=>a.2≠b.2:=by
  intro ns
  induction ns with
  | nil=>intro cs _;simp
  | cons n ns ih=>
    intro cs hc
    cases cs with
    | nil=>simp
    | cons c cs=>
      rw [List.zip_cons_cons,List.pairwise_cons]
      exact ⟨fun a ha z=>(List.nodup_cons.mp hc).1 (by have:c=a.2:=z;rw [this];exact (List.of_mem_zip ha).2),ih (List.nodup_cons.mp hc).2⟩
 refine ⟨⟨e0.mod,hk,rfl,rfl,Nat.le_refl _,fun y z c h1 h2=>?_,fun y hy=>?_,fun y c z _=>absurd z (by intro q;cases q),fun _=>hd,Around.frames_deeper e0.frames,.inr ⟨rfl,rfl⟩,fun b z=>absurd z (noA b),e0.bs,e0.bsz,fun b _ _=>noA b,fun b z=>absurd z (noA b),e0.funs,e0.frf⟩,
  rfl,e0.bare,Un.kept hk1,⟨_,hns,fun i y v' q1 q2 q3=>?_⟩,fun y c h=>?_,e0.hok.fresh (Nat.le_refl _),fun y c h=>?_,fun p hp=>absurd (show p∈([]:List (Addr×Obj)) from hp) (by simp),e0.hok.kept hk1,?_,Nat.le_trans e0.tk ht⟩
 ·exact name_of_addr (pw hnd) (PySem.mem_of_lookup h1) (PySem.mem_of_lookup h2)
 ·have hy:scope.names.lookup y=some .cell∨scope.names.lookup y=some .free:=hy
  rcases hy with hy | hy
  ·exact absurd rfl (hcell _ (PySem.mem_of_lookup hy))
  ·have hm:=hall y hy
   obtain ⟨j,hj,ej⟩:=List.mem_iff_getElem.mp hm
   have e1:names[j]?=some y:=by rw [List.getElem?_eq_getElem hj,ej]
   obtain ⟨c,_,_,_,h,_⟩:=CellsV.at (j:=j) (v:=caps[j]'(by lia)) nd hlen cv e1 (List.getElem?_eq_getElem _)
   exact ⟨c,h⟩
 ·cases i with
  | zero=>
    have q1:some x=some y:=by simpa [Hd] using q1
    have q2:some (some v)=some (some v'):=by simpa using q2
    cases q1;cases q2
    exact ⟨u,r,.inl ⟨hx,by simp [List.lookup]⟩⟩
  | succ j=>
    have q1:names[j]?=some y:=by simpa [Hd] using q1
    have q2:caps[j]?=some v':=by
     rw [List.getElem?_cons_succ,List.getElem?_map] at q2
     cases e:caps[j]? with
     | none=>rw [e] at q2;cases q2
     | some a=>rw [e] at q2;cases q2;rfl
    obtain ⟨c,o,w',u',h,h2,h3,h4⟩:=cv.at nd hlen q1 q2
    exact ⟨u',h4,.inr ⟨.inr (hfr y (List.mem_of_getElem? q1)),c,h,o,hk1 _ _ (e0.hok c _ h2).1,h3⟩⟩
 ·obtain ⟨o,w',u',h2,h3⟩:=cv.mem (csmem h)
  exact ⟨_,o,hk1 _ _ (e0.hok c _ h2).1,h3⟩
 ·obtain ⟨o,w',u',h2,h3⟩:=cv.mem (csmem h)
  exact .inr ⟨hfz y (List.of_mem_zip (PySem.mem_of_lookup h)).1,o,w',h2⟩
 ·show _=(x :: names).length
  simp [lc]
theorem UV {CX:CXT} {P:Program} {w:World} {K:PySem.W.Frag} {mg:Str→Option Value} {base:Heap} {k:Nat} {f c':Addr} {qual:Str} {params:Arguments} {body:Expr} {scope:Scope} {x:Str} {names:List Str} {cs:List Addr} {caps:List V} {pm ctv:Value} {sp:Sp}
 (hk:scope.kind = .function) (hco:scope.isCoroutine=false) (hgen:scope.isGenerator=false) (hx:scope.names.lookup x=some .local) (hfr:∀y∈names,scope.names.lookup y=some .free) (hall:∀y,scope.names.lookup y=some .free→y∈names)
 (hcell:∀y∈scope.names,y.2≠.cell) (hnd:cs.Nodup) (nd:names.Nodup) (hlen:cs.length=names.length) (hfz:∀y∈names,y∈Ep)
 (hsp:∀vs H Q E,sp vs H Q E→vs.length=1∧(∃w0,H f=some (.frz (PySem.W.kla_obj "<lambda>" qual params body scope (names.zip cs) pm c' ctv) w0))∧(∃oc w1,H c'=some (.frz oc w1)∧OM oc qual)∧CellsV H cs caps)
 (hbody:∀(A:Around) (outer:List Env) (s:Shared) (H:Hp) (v:V) (Q:VK) (E:XK),Room k (A.deeper (PySem.W.envX qual scope s.heap.objs.size f (.ref c') (names.zip cs)))→sp [v] H Q E→
   ∃t,PE (Hd CX P w K mg base (x :: names) qual scope f (.ref c') (names.zip cs) A outer s H E) body t∧t (some v :: caps.map some) H Q) :
 FnOk P w K mg base CX (k + 1) f (PySem.W.kla_fn "<lambda>" qual params body scope (names.zip cs) pm (.ref c') ctv) [x] sp:=by
 refine ⟨fun vs H Q E q=>(hsp _ _ _ _ q).1,fun A outer s H args us vs Q E hr e0 hb r q=>?_⟩
 obtain ⟨hl,⟨w0,hf⟩,⟨oc,w1,hc,wsc,tq,hd,hv⟩,cv⟩:=hsp _ _ _ _ q
 obtain ⟨v,rfl⟩:∃v,vs=[v]:=List.length_eq_one_iff.mp hl
 obtain ⟨u,rfl,ru⟩:=Dt r
 have lim:s.heap.NoLimit:=e0.mod.nolimit.keeps fun b o e=>(e0.bs b o e).1
 refine PySem.W.kla_callFunE hr.depth (e0.hok f _ hf).1 rfl hco hgen rfl ⟨c',oc,wsc,tq,rfl,(e0.hok c' _ hc).1,hd,hv⟩ (hb _ _ _ _ ?_)
 refine wpAny_newFunctionEnv hcell (fun y hy=>by simp at hy;subst hy;exact hx) (fun h1 hns hsb=>⟨lim.fresh _ hsb,?_⟩) hk
 have hk1:∀b o,s.heap.get? b=some o→h1.get? b=some o:=fun b o e=>hsb.extBut b o (Nat.ne_of_lt (Heap.lt_size e)) (Heap.get?_push_of_some _ e)
 show codeAny _ _ (.expr body (PySem.W.envX qual scope s.heap.objs.size f (.ref c') (names.zip cs))) _ _
 obtain ⟨t,ht,hq⟩:=hbody A outer s H v Q E (hr.deeper _) q
 have I:=Ph (CX:=CX) (E:=E) (qual:=qual) (f:=f) (cd:=.ref c') hk hx hfr hall hcell hnd nd hlen hfz cv hr.hd e0 ru hns hk1 (Nat.le_add_right s.toks 1)
 refine PySem.W.kla_codeExpr (wpAny_mono (ht [] _ _ H Q I hq) (fun u' s' hs=>?_) fun e s' hs=>hs)
 obtain ⟨v',H',J,rv,q'⟩:=hs
 exact ⟨v',H',J.os,J.bare,J.base,J.hok,rv,q'⟩
end L2
namespace F2
open PySem L2 PySem.Spec PyProof.Rows
section
variable {K:PySem.W.Frag} {Oo:Addr→Prop} {c:Cf} {t:T} {σ:L2.St} {H H1:Hp}
theorem FInv.more (f:FInv K Oo c t σ H) (m:KW H H1):FInv K Oo c t σ H1∧Stp Oo c H c H1:=by
 have ext:Ext c H c H1:=⟨fun b o e _=>m b o e,fun _ _ _ z=>z,fun _ _ e=>e⟩
 refine ⟨⟨⟨f.s.len,f.s.nd,fun k a u e1 e2=>?_,fun b z=>?_,f.s.dis⟩,f.len,f.sub,fun i d q=>?_,fun i ds q=>?_,f.inj⟩,ext,fun b z=>?_⟩
 ·have q:=f.s.obs k a u e1 e2
  obtain ⟨w,hw⟩:=q.some
  exact q.mono ext (by rw [hw,m _ _ hw])
 ·obtain ⟨u,e⟩:=f.s.trk b z;exact ⟨u,m _ _ e⟩
 ·obtain ⟨v,h1,h2⟩:=f.val i d q
  exact ⟨v,h1,h2.mono ext⟩
 ·obtain ⟨a,vs,h1,h2,h3,h4,h5⟩:=f.own i ds q
  exact ⟨a,vs,h1,h2,h3,m _ _ h4,h5.mono ext⟩
 ·obtain ⟨u,e⟩:=f.s.trk b (f.sub b z)
  rw [e,m _ _ e]
def Ig (env:List (Option Sl)):List Nat→Option (List D)
 | []=>some []
 | j :: js=>match env[j]?,Ig env js with
   | some (some (.val d)),some ds=>some (d :: ds)
   | _,_=>none
theorem J2 (f:FInv K Oo c t σ H):∀{js:List Nat} {ds:List D},Ig t.env js=some ds→∃vs,Paired (fun j v=>σ[j]?=some (some v)) js vs∧Reps K c H vs ds
 | [],ds,e=>by cases e;exact ⟨[],.nil,.nil⟩
 | j :: js,ds,e=>by
   unfold Ig at e
   split at e
   ·next d ds' h1 h2=>
    cases e
    obtain ⟨v,e1,r1⟩:=f.val j d h1
    obtain ⟨vs,p,r⟩:=J2 f h2
    exact ⟨v :: vs,.cons e1 p,.cons r1 r⟩
   ·cases e
def Jj (kt P line col:Nat) (L:LamD) (js:List Nat):M D:=fun t=>match t.S[kt]?,Ig t.env js with
 | some (.tab P' l k q),some ds=>if P'=P∧l=line∧k=col∧q=L.qual then some (.obj t.S.length,{ t with S:=t.S++[.fn L ds] }) else none
 | _,_=>none
theorem FInv.cellNo (f:FInv K Oo c t σ H) {b:Addr} {o:Obj} {w:HO} {u:Option Value} (h:H b=some (.frz o w)) (hd:o.data = .cell u):¬c.A b:=fun z=>by
 rcases z with z | z
 ·obtain ⟨k,hk,e⟩:=List.mem_iff_getElem.mp z
  have e1:c.ι[k]?=some b:=by rw [List.getElem?_eq_getElem hk,e]
  have hk':k < t.S.length:=by rw [←f.s.len];exact hk
  have q:=f.s.obs k b _ e1 (List.getElem?_eq_getElem hk')
  cases es:t.S[k] with
  | lst ds=>rw [es] at q;obtain ⟨vs,q,_⟩:=q;rw [h] at q;cases q
  | dct kvs=>rw [es] at q;obtain ⟨vs,q,_⟩:=q;rw [h] at q;cases q
  | ins n fs=>rw [es] at q;obtain ⟨_,_,_,_,_,q,_⟩:=q;rw [h] at q;cases q
  | tab P l k' qu=>rw [es] at q;obtain ⟨_,_,q,_⟩:=q;rw [h] at q;cases q
  | fn L ds=>rw [es] at q;obtain ⟨_,_,_,_,q,_⟩:=q;rw [h] at q;cases q;cases hd
 ·obtain ⟨u',e⟩:=f.s.trk b z
  rw [h] at e
  have:=u'.2
  rw [←Option.some.inj e] at this
  cases this
theorem GO (f:FInv K Oo c t σ H):∀{cs:List Addr} {vs:List V} {ds:List D},CellsV H cs vs→Reps K c H vs ds→CellR K c H cs ds
 | [],_,_,.nil,.nil=>.nil
 | b :: cs,_,_,.cons ⟨o,w,u,h1,h2,h3⟩ t,.cons r rs=>.cons ⟨o,w,_,u,h1,h2,h3,r,f.cellNo h1 h2⟩ (GO f t rs)
theorem DA {S:List Ob} {k:Nat} {o:Ob} (h:S[k]?=some o):S.set k o=S:=by
 apply List.ext_getElem?
 intro j
 by_cases hj:j=k
 ·subst hj;rw [List.getElem?_set_self (List.getElem?_eq_some_iff.mp h).1,h]
 ·rw [List.getElem?_set_ne (Ne.symm hj)]
theorem RE.lam {kt P:Nat} {pos:Pos} {L:LamD} {js:List Nat} {Q:VK} (q:RE K (Jj kt P pos.line pos.col L js) σ H Q):VP P L.qual L.params L.body L.scope pos L.names js σ H Q:=by
 obtain ⟨Oo,c,t,fi,r,t',eq,k⟩:=q
 unfold Jj at eq
 split at eq
 ·next P' l kk qu ds hS hds=>
  split at eq
  ·next hc=>
   obtain ⟨rfl,rfl,rfl,rfl⟩:=hc
   cases eq
   obtain ⟨vs,pv,rv⟩:=J2 fi hds
   have hlt:kt < c.ι.length:=by rw [fi.s.len];exact (List.getElem?_eq_some_iff.mp hS).1
   have e1:c.ι[kt]?=some (c.ι[kt]):=List.getElem?_eq_getElem hlt
   obtain ⟨hp,ps,hP,hps⟩:=fi.s.obs kt _ _ e1 hS
   rw [hp] at e1 hP
   refine ⟨vs,pv,ps,hP,?_⟩
   rcases hps with rfl | ⟨c',rfl,hcod⟩
   ·refine .inl ⟨rfl,fun H1 cs c' oc f pm ctv m cv hl hnd n1 hco nf ne=>?_⟩
    obtain ⟨f1,s1⟩:=fi.more m
    have cr:=GO f1 cv (rv.mono s1.ext)
    have f2:=f1.laid (o:=Gm oc) n1
    have s2:=f1.stp_laid (o:=Gm oc) n1
    have nA:¬c.A c':=f1.s.free n1
    have cod:CodR c (upd H1 c' (Gm oc)) c' L.qual:=⟨oc,AN,hco,nA⟩
    obtain ⟨f3,s3⟩:=f2.wrObj (o:=.tab P' pos.line pos.col L.qual) (u:=.tbl (L7 pos c')) e1 fun c2 H2 ex h2=>⟨rfl,_,h2,.inr ⟨c',rfl,cod.mono ex⟩⟩
    rw [DA hS] at f3
    have nP:f≠P':=fun z=>by rw [z,m _ _ hP] at nf;cases nf
    obtain ⟨c4,f4,s4,e4⟩:=f3.newObj (p:=f) (o:=.fn L ds) (u:=Gm (PySem.W.kla_obj "<lambda>" L.qual L.params L.body L.scope (L.names.zip cs) pm c' ctv)) (by rw [Ar nP,Ar ne];exact nf)
     fun c5 H5 ex h5=>⟨c',ctv,pm,cs,h5,⟨hl,hnd⟩,(cod.mono s3.ext).mono ex,((cr.mono s2.ext).mono s3.ext).mono ex⟩
    exact k _ _ c4 f4 (((s1.trans s2).trans s3).trans s4) (.obj e4)
   ·refine .inr ⟨c',rfl,fun H1 cs f pm ctv m cv hl hnd nf=>?_⟩
    obtain ⟨f1,s1⟩:=fi.more m
    have cr:=GO f1 cv (rv.mono s1.ext)
    obtain ⟨c4,f4,s4,e4⟩:=f1.newObj (p:=f) (o:=.fn L ds) (u:=Gm (PySem.W.kla_obj "<lambda>" L.qual L.params L.body L.scope (L.names.zip cs) pm c' ctv)) nf
     fun c5 H5 ex h5=>⟨c',ctv,pm,cs,h5,⟨hl,hnd⟩,(hcod.mono s1.ext).mono ex,cr.mono ex⟩
    exact k _ _ c4 f4 (s1.trans s4) (.obj e4)
  ·cases eq
 ·cases eq
end
end F2
namespace L2
open PySem PySem.Spec PyProof.Rows
section
variable {X:Cx} {x:Str} {p pos:Pos} {e:Expr} {es:List Expr} {t:TA}
theorem M5 {f:Addr} {h:Heap} {o:Obj} {fd:FuncData} (ho:h.get? f=some o) (hd:o.data = .func fd):PySem.W.FnAt f h:=by
 obtain ⟨oc,od,dt,sl⟩:=o
 cases hd
 exact ⟨oc,od,fd,sl,ho⟩
def VO (X:Cx) (i:Nat) (t:TA):TE:=fun σ H Q=>∃f:Addr,σ[i]?=some (some (.ref f))∧(∃(fd:FuncData) (o:Obj) (w:HO),H f=some (.frz o w)∧o.data = .func fd)∧
 t σ H fun vs H1=>∃(fd:FuncData) (o:Obj) (w:HO) (k:Nat) (ps:List Str) (sp:Sp),H1 f=some (.frz o w)∧o.data = .func fd∧FnOk X.prog X.w X.K X.mg X.base CX0 k f fd ps sp∧Room k X.A∧Binds X.K fd ps []∧sp vs H1 Q E0
theorem QR {i:Nat} (hN:X.N[i]?=some x) (hv:Vis X.env.scope x) (ha:PA X (e :: es) t) (hdb:(x == ("__debug__" : Str))=false:=by decide) (hcd:(x == ("__classdict__" : Str))=false:=by decide)
 (he:starEach (e :: es) X.env=(false,eval e X.env) :: starEach es X.env:=by rfl) (hpl:(backTo pos (starEach es X.env)).any (·.1)=false:=by rfl):PE X (.Call (.Name x p) (e :: es) [] pos) (VO X i t):=by
 intro pins s σ H Q I h
 obtain ⟨f,h1,⟨fd,o,w,h2,h3⟩,h4⟩:=h
 obtain ⟨m,hn,hl⟩:=id I.loc
 obtain ⟨u,r,l⟩:=hl i x _ hN h1 hv
 cases r
 have go:wpAny (model X.prog X.w) X.A (callWith pos (.ref f) [] (backTo pos (starEach (e :: es) X.env)) []) (EP X pins σ Q) X.xe s:=by
  refine PySem.W.callWith_F (M5 (I.hok f _ h2).1 h3) (thn (ha pos pins s σ H _ I h4) fun us s1 ⟨vs,H1,I1,r1,fd1,o1,w1,k,ps,sp,q1,q2,F,hr,hb,q⟩=>⟨M5 (I1.hok f _ q1).1 q2,?_⟩) he hpl
  exact PL (dvs:=[]) (ds:=[]) F hr hb .nil RY I1 r1 (by rw [List.append_nil];exact q)
 rcases l with ⟨hk,hm⟩ | ⟨hk,c,hc,hcell⟩
 ·exact wpAny_Call_Name_kw (wpAny_Name (wpAny_loadName_local I.ok.kind hk hn hm go) hdb)
 ·rcases hk with hk | hk
  ·exact wpAny_Call_Name_kw (wpAny_Name (wpAny_loadName_cell I.ok.kind hk hc hcell go) hdb)
  ·exact wpAny_Call_Name_kw (wpAny_Name (wpAny_loadName_free I.ok.kind hk hc hcell go hcd) hdb)
end
end L2
namespace F2
open PySem L2 PySem.Spec PyProof.Rows
def HE (n:Nat) (m:M D):List D→Fn:=fun caps ds S=>if ds.length=1 then (match m ⟨env0 n (ds++caps),S⟩ with
 | some (r,t)=>some (r,t.S)
 | none=>none) else none
inductive spV (K:PySem.W.Frag) (g:List D→Fn) (L:LamD) (f c':Addr) (pm ctv:Value) (cs:List Addr) (capsV:List V) (vs:List V) (H:Hp) (Q:VK) (E:XK):Prop where
 | mk (hl:vs.length=1) (hf:H f=some (Gm (PySem.W.kla_obj "<lambda>" L.qual L.params L.body L.scope (L.names.zip cs) pm c' ctv))) (hc:∃oc,H c'=some (Gm oc)∧Ou oc L.qual) (cv:CellsV H cs capsV)
    (c:Cf) (ds caps:List D) (S:List Ob) (si:SInv K c S H) (rs:Reps K c H vs ds) (rc:Reps K c H capsV caps) (r:D) (S':List Ob) (e:g caps ds S=some (r,S'))
    (k:∀v H' c',SInv K c' S' H'→Stp c.O c H c' H'→(∀b,c'.O b↔c.O b)→Rep K c' H' v r→Q v H'):spV K g L f c' pm ctv cs capsV vs H Q E
structure LamOk (L:LamD) (x:Str):Prop where
 kind:L.scope.kind = .function
 co:L.scope.isCoroutine=false
 gen:L.scope.isGenerator=false
 par:L.scope.names.lookup x=some .local
 fre:∀y∈L.names,L.scope.names.lookup y=some .free
 all:∀y,L.scope.names.lookup y=some .free→y∈L.names
 cel:∀y∈L.scope.names,y.2≠.cell
 nd:L.names.Nodup
 fz:∀y∈L.names,y∈Ep
theorem UW {P:Program} {w:World} {K:PySem.W.Frag} {mg:Str→Option Value} {base:Heap} {k:Nat} {L:LamD} {x:Str} {m:M D} {f c':Addr} {pm ctv:Value} {cs:List Addr} {capsV:List V} (O:LamOk L x) (hnd:cs.Nodup) (hlen:cs.length=L.names.length)
 (hm:∀(A:Around) (outer:List Env) (s:Shared) (H:Hp) (E:XK),Room k (A.deeper (PySem.W.envX L.qual L.scope s.heap.objs.size f (.ref c') (L.names.zip cs)))→
   PE (Hd CX0 P w K mg base (x :: L.names) L.qual L.scope f (.ref c') (L.names.zip cs) A outer s H E) L.body (RE K m)) :
 FnOk P w K mg base CX0 (k + 1) f (PySem.W.kla_fn "<lambda>" L.qual L.params L.body L.scope (L.names.zip cs) pm (.ref c') ctv) [x] (spV K (HE (L.names.length + 1) m) L f c' pm ctv cs capsV):=by
 refine UV (caps:=capsV) O.kind O.co O.gen O.par O.fre O.all O.cel hnd O.nd hlen O.fz (fun vs H Q E q=>?_) fun A outer s H v Q E hr q=>⟨_,hm A outer s H E hr,?_⟩
 ·obtain ⟨hl,hf,⟨oc,hc,hco⟩,cv,_⟩:=q
  exact ⟨hl,⟨_,hf⟩,⟨oc,_,hc,hco⟩,cv⟩
 ·obtain ⟨hl,hf,hc,cv,c,ds,caps,S,si,rs,rc,r,S',e,kk⟩:=q
  have lc:capsV.length=L.names.length:=by have:=cv.length;lia
  have eσ:(some v :: capsV.map some:L2.St)=L2.DL (x :: L.names) ([v]++capsV):=by
   unfold L2.DL
   simp [lc]
  unfold HE at e
  split at e
  ·cases em:m ⟨env0 (L.names.length + 1) (ds++caps),S⟩ with
   | none=>rw [em] at e;cases e
   | some p=>
     obtain ⟨r',t'⟩:=p
     rw [em] at e
     cases e
     rw [eσ]
     have fi:=Gk (N:=x :: L.names) si (rs.append rc)
     refine ⟨c.O,c,_,fi,r,t',em,fun v' H' c2 f2 s2 rv=>?_⟩
     obtain ⟨s3,e3⟩:=f2.leave
     exact kk v' H' ⟨c2.ι,c.O⟩ s3 ⟨s2.ext.trans e3,s2.oo⟩ (fun _=>.rfl) (rv.mono e3)
  ·cases e
def FX (i:Nat) (L:LamD) (g:List D→Fn) (f:M (List D)):M D:=fun t0=>match t0.env[i]? with
 | some (some (.val (.obj k)))=>match t0.S[k]? with
   | some (.fn _ _)=>bnd f (fun ds t=>match t.S[k]? with
     | some (.fn L' caps)=>@ite _ (L'=L) (Classical.propDecidable _) (match g caps ds t.S with | some (r,S')=>some (r,{ t with S:=S' }) | none=>none) none
     | _=>none) t0
   | _=>none
 | _=>none
theorem CellR.vals {K:PySem.W.Frag} {c:Cf} {H:Hp}:∀{cs:List Addr} {ds:List D},CellR K c H cs ds→∃vs,CellsV H cs vs∧Reps K c H vs ds
 | [],_,.nil=>⟨[],.nil,.nil⟩
 | _ :: _,_,.cons ⟨o,w,v,u,h1,h2,h3,h4,_⟩ t=>by
   obtain ⟨vs,a,b⟩:=CellR.vals t
   exact ⟨v :: vs,.cons ⟨o,w,u,h1,h2,h3⟩ a,.cons h4 b⟩
section
variable {X:Cx} {x y:Str} {p pos:Pos} {e:Expr} {es:List Expr}
theorem QA {n:Nat} {m:M D} {caps ds:List D} {S:List Ob} {z:D×List Ob} (e:HE n m caps ds S=some z):ds.length=1:=by
 unfold HE at e
 split at e
 ·assumption
 ·cases e
theorem Ln {i k:Nat} {L:LamD} {g:List D→Fn} {f:M (List D)} (hg:∀{caps ds:List D} {S:List Ob} {z:D×List Ob},g caps ds S=some z→ds.length=1)
 (hF:∀(fa c':Addr) (pm ctv:Value) (cs:List Addr) (capsV:List V),cs.Nodup→cs.length=L.names.length→FnOk X.prog X.w X.K X.mg X.base CX0 k fa (PySem.W.kla_fn "<lambda>" L.qual L.params L.body L.scope (L.names.zip cs) pm (.ref c') ctv) [x] (spV X.K g L fa c' pm ctv cs capsV))
 (hr:Room k X.A) (hb:∀(c':Addr) (pm ctv:Value) (cs:List Addr),Binds X.K (PySem.W.kla_fn "<lambda>" L.qual L.params L.body L.scope (L.names.zip cs) pm (.ref c') ctv) [x] [])
 (hN:X.N[i]?=some y) (hv:Vis X.env.scope y) (ha:PA X (e :: es) (RA X.K f)) (hdb:(y == ("__debug__" : Str))=false:=by decide) (hcd:(y == ("__classdict__" : Str))=false:=by decide)
 (he:starEach (e :: es) X.env=(false,eval e X.env) :: starEach es X.env:=by rfl) (hpl:(backTo pos (starEach es X.env)).any (·.1)=false:=by rfl) :
 PE X (.Call (.Name y p) (e :: es) [] pos) (RE X.K (FX i L g f)):=
 BA (QR hN hv ha hdb hcd he hpl) fun σ H Q ⟨Oo,c,t,fi,r,t',eq,kk⟩=>by
  unfold FX at eq
  split at eq
  ·next kN henv=>
   split at eq
   ·next L0 caps0 hS0=>
    obtain ⟨v,e1,rv⟩:=fi.val i _ henv
    cases rv with
    | @obj a _ hι=>
      obtain ⟨_,_,_,_,hH,_⟩:=fi.s.obs kN a _ hι hS0
      obtain ⟨ds,t1,ef,eq⟩:=Am eq
      refine ⟨a,e1,⟨_,_,_,hH,rfl⟩,Oo,c,t,fi,ds,t1,ef,fun vs H1 c1 f1 s1 rvs=>?_⟩
      split at eq
      ·next L' caps hS1=>
       by_cases hL:L'=L
       ·subst hL
        rw [if_pos rfl] at eq
        obtain ⟨S',e2,rfl⟩:=J1 eq
        obtain ⟨c',ctv,pm,cs,hH1,⟨hl,hnd⟩,⟨oc,hc1,hc2,_⟩,hcell⟩:=f1.s.obs kN a _ (s1.ext.io _ _ hι) hS1
        obtain ⟨capsV,cv,rc⟩:=hcell.vals
        have hd1:ds.length=1:=hg e2
        refine ⟨_,_,_,k,[x],_,hH1,rfl,hF a c' pm ctv cs capsV hnd hl,hr,hb c' pm ctv cs,?_⟩
        refine ⟨rvs.length.trans hd1,hH1,⟨oc,hc1,hc2⟩,cv,c1,ds,caps,t1.S,f1.s,rvs,rc,r,S',e2,fun v' H' c2 si st ho rv'=>?_⟩
        obtain ⟨f2,s2⟩:=f1.after si st ho
        exact kk v' H' c2 f2 (s1.trans s2) rv'
       ·rw [if_neg hL] at eq;cases eq
      ·cases eq
   ·cases eq
  ·cases eq
theorem UE {kt c P:Nat} {L:LamD} {cs:List Addr} {js:List Nat} (T:TabAt X.base X.mg c P) (hcode:X.env.code = .ref c) (hq:L.qual=X.env.qual++"<lambda>") (hlen:cs.length=L.names.length) (hnd:cs.Nodup)
 (hcl:closureFor L.scope X.env=pure (L.names.zip cs)) (hdef:defaultsOf L.params X.env=([],[]))
 (hn:Paired (fun (p:Str×Addr) j=>X.N[j]?=some p.1∧X.env.kindOf p.1=some .cell∧X.env.cells.lookup p.1=some p.2∧X.fn p.1=true∧p.1∈Ep) (L.names.zip cs) js) :
 PE X (.Lambda L.params L.body L.scope pos) (RE X.K (Jj kt P pos.line pos.col L js)):=
 BA (U9 T hcode hlen hnd hcl hdef hn) fun σ H Q q=>by rw [←hq];exact RE.lam q
end
end F2
namespace L2
open PySem PySem.Spec PyProof.Rows
def KA (Pt:Addr) (H:Hp):Prop:=∀b,H b=none∨(∃o xs,H b=some (.frz o (.lst xs)))∨(b=Pt∧H b=some (.tbl #[]))
theorem Pi {P:Program} {w:World} {K:PySem.W.Frag} {mg mb:Str→Option Value} {CX:CXT} {k:Nat} {fa a c Pt:Addr} {fd:FuncData} {x:Str} {sp:Sp} {s₁:Shared} {vs:List Value} {ns:List Int}
 (KX:K.In s₁.heap) (hns:s₁.heap.Ns mainGlobals mg) (hb:s₁.heap.Ns builtinsNs mb) (hbb:∀x:Str,x≠"__name__"→mb x=bootBuiltins x) (hlim:s₁.heap.NoLimit) (hg:s₁.gens=#[])
 (ha:s₁.heap.get? a=some { cls:=.type "list",data:=.seq vs.toArray }) (hi:IntsAre vs ns) (hl:ns.length≤sizeLine) (hr:Room k callerA)
 (hP:s₁.heap.get? Pt=some { cls:=.none,data:=.fields #[] }) (hKP:K.lookup Pt=none) (T:TabAt s₁.heap mg c Pt)
 (F:∀base:Heap,K.In base→base.Ns mainGlobals mg→TabAt base mg c Pt→FnOk P w K mg base CX k fa fd [x] sp) (hbind:∀(s:Shared) (u:Value),BindsTo s fd ⟨[u],[]⟩ [(x,u)])
 (hsp:∀H:Hp,KA Pt H→H Pt=some (.tbl #[])→SqL K H a (ns.map V.int)→sp [.ref a] H (fun v _=>v = .bl true) fun _ _ _=>False)
 (hCX:∀H e s',CX [] H s₁ (fun _ _ _=>False) e s'→False) (htk:Ge K≤s₁.toks) :
 codeAny (model P w) callerA (.call (.ref fa) ⟨[.ref a],[]⟩) (fun r s'=>r = .ok (.ret (.bool true))∧OldK s₁.heap s'.heap∧s'.os=s₁.os∧AllBare s'.gens) s₁:=by
 have rv:=Kf hi
 have lenV:=hi.length
 have neP:a≠Pt:=fun z=>by rw [z,hP] at ha;cases ha
 have core:∀H:Hp,KA Pt H→H Pt=some (.tbl #[])→SqL K H a (ns.map V.int)→HOk P w H s₁.heap→(∀b,H b≠none→b=a∨b=Pt)→(H a≠none→K.lookup a=none)→
  codeAny (model P w) callerA (.call (.ref fa) ⟨[.ref a],[]⟩) (fun r s'=>r = .ok (.ret (.bool true))∧OldK s₁.heap s'.heap∧s'.os=s₁.os∧AllBare s'.gens) s₁:=by
  intro H hO hHP hS hok hA hK
  have base_of:∀{b:Addr} {o:Obj},s₁.heap.get? b=some o→H b=none→(FN s₁.heap H).get? b=some o:=fun e n=>QB e n
  have noB:∀{b:Addr} {o:Obj},s₁.heap.get? b=some o→o.cls≠.none→o.cls≠.type "list"→H b=none:=fun {b o} e d1 d2=>by
   cases q:H b with
   | none=>rfl
   | some u=>
     rcases hA b (by rw [q];simp) with e' | e'
     ·subst e';rw [ha] at e;cases e;exact absurd rfl d2
     ·subst e';rw [hP] at e;cases e;exact absurd rfl d1
  have noA:∀{b:Addr} {o:Obj} {es:Array DictEntry} {ep:Nat},s₁.heap.get? b=some o→o.data = .dict es ep→H b=none:=fun {b o es ep} e d=>by
   cases q:H b with
   | none=>rfl
   | some u=>
     rcases hA b (by rw [q];simp) with e' | e'
     ·subst e'
      rw [ha] at e;cases e
      have d':Data.seq vs.toArray _=Data.dict es ep:=d
      cases d'
     ·subst e'
      rw [hP] at e;cases e
      have d':Data.fields #[]=Data.dict es ep:=d
      cases d'
  have nsK:∀{b:Addr} {m:Str→Option Value},s₁.heap.Ns b m→(FN s₁.heap H).Ns b m:=fun {b m} ⟨o,es,ep,e,d,r⟩=>⟨o,es,ep,base_of e (noA e d),d,r⟩
  have hKb:K.In (FN s₁.heap H):=fun b o e=>base_of (KX b o e) (by
   cases q:H b with
   | none=>rfl
   | some u=>
     rcases hA b (by rw [q];simp) with e' | e'
     ·subst e'
      rw [hK (by rw [q];simp)] at e;cases e
     ·subst e'
      rw [hKP] at e;cases e)
  have hT:TabAt (FN s₁.heap H) mg c Pt:=by
   obtain ⟨⟨o,ws,f1,f2,f3,f4,f5,f6,f7,g1,g2,g3⟩,⟨bm,ob,b1,b2,b3,b4,b5,b6,b7⟩,ne⟩:=T
   exact ⟨⟨o,ws,f1,f2,f3,f4,f5,f6,f7,base_of g1 (noB g1 (by rw [g2];simp) (by rw [g2];decide)),g2,g3⟩,⟨bm,ob,b1,b2,b3,b4,base_of b5 (noB b5 (by rw [b6];simp) (by rw [b6];decide)),b6,b7⟩,ne⟩
  have hM:Mod K mg (FN s₁.heap H):=⟨hKb,nsK hns,⟨mb,nsK hb,hbb⟩,let ⟨mc,h1,h2⟩:=hlim;⟨mc,nsK h1,h2⟩⟩
  have e0:Env0 P w K mg (FN s₁.heap H) callerA [] s₁ H:=⟨rfl,hM,fun b o e=>Tg e,Nat.le_of_eq (O6 _ _),trivial,fun b hb=>absurd (show b∈([]:List Addr) from hb) (by simp),hok,.of_eq hg,htk⟩
  refine codeAny_mono ((F _ hKb (nsK hns) hT).run callerA [] s₁ H ⟨[.ref a],[]⟩ [.ref a] [.ref a] _ _ hr e0 (hbind s₁ (.ref a)) (.cons rfl .nil) (hsp H hO hHP hS)) fun r s' h=>?_
  cases r with
  | error e=>exact (hCX H e s' h).elim
  | ok fl=>
    cases fl with
    | next=>exact False.elim h
    | brk=>exact False.elim h
    | cont=>exact False.elim h
    | ret u=>
      obtain ⟨v,H',os,bare,un,hok',r',q⟩:=h
      have q':v = .bl true:=q
      subst q'
      obtain rfl:u=Value.bool true:=r'
      refine ⟨rfl,⟨fun b o e=>?_,fun b o e=>un.there b o e (by simp)⟩,os,bare⟩
      rcases hO b with z | ⟨ob,xs,z⟩ | ⟨rfl,z⟩
      ·exact .inl (un.keep b o e z (by intro z;exact absurd (show b∈([]:List Addr) from z) (by simp)) (by simp))
      ·have z2:=un.frzs b ob _ z
       obtain ⟨e1,_⟩:=hok b _ z
       obtain ⟨e2,_⟩:=hok' b _ z2
       rw [e] at e1;cases e1
       exact .inl e2
      ·obtain ⟨more,z2⟩:=un.tbls b _ z
       have e2:s'.heap.get? b=some { cls:=.none,data:=.fields (#[]++more) }:=hok' b _ z2
       rw [hP] at e;cases e
       obtain ⟨oc,ws,_,_,_,_,_,_,_,g1,g2,g3,g4,_⟩:=T.hd
       exact .inr (.inl ⟨⟨c,oc,ws,g1,g2,g3,g4⟩,rfl,#[],more,rfl,e2⟩)
 cases hk:K.lookup a with
 | some o=>
   have e:=KX a o hk
   rw [ha] at e
   cases e
   refine core (upd (fun _=>none) Pt (.tbl #[])) (fun b=>?_) AN (.inr ⟨_,vs.toArray,_,hk,rfl,rfl,rfl,by rw [List.size_toArray,lenV];exact hl,by simpa using rv⟩) (fun b u z=>?_) (fun b z=>?_) fun z=>absurd (Ar neP) z
   ·by_cases hb:b=Pt
    ·subst hb;exact .inr (.inr ⟨rfl,AN⟩)
    ·exact .inl (Ar hb)
   ·by_cases hb:b=Pt
    ·subst hb;rw [AN] at z;cases z;exact hP
    ·rw [Ar hb] at z;cases z
   ·by_cases hb:b=Pt
    ·exact .inr hb
    ·exact absurd (Ar hb) z
 | none=>
   refine core (upd (fun b=>if b=a then some (.frz { cls:=.type "list",data:=.seq vs.toArray } (.lst (ns.map V.int))) else none) Pt (.tbl #[])) (fun b=>?_) AN (.inl (.inr ⟨{ cls:=.type "list",data:=.seq vs.toArray },(Ar neP).trans (if_pos rfl)⟩)) (fun b u z=>?_) (fun b z=>?_) fun _=>hk
   ·by_cases hb:b=Pt
    ·subst hb;exact .inr (.inr ⟨rfl,AN⟩)
    ·rw [Ar hb]
     by_cases hb:b=a
     ·exact .inr (.inl ⟨_,_,if_pos hb⟩)
     ·exact .inl (if_neg hb)
   ·by_cases hb:b=Pt
    ·subst hb;rw [AN] at z;cases z;exact hP
    ·rw [Ar hb] at z
     by_cases hb:b=a
     ·have z':=(if_pos hb).symm.trans z
      cases z'
      subst hb
      exact ⟨ha,by rw [List.length_map];exact hl,vs,_,rv,ha⟩
     ·have z':=(if_neg hb).symm.trans z
      cases z'
   ·by_cases hb:b=Pt
    ·exact .inr hb
    ·rw [Ar hb] at z
     by_cases hb:b=a
     ·exact .inl hb
     ·exact absurd (if_neg hb) z
theorem Rs {c Pt:Addr} {l:PySem.W.OpenLaw} {n k:Nat} {q:Program} {loose:List Str} {XP:(Str→Option Value)→Heap→Prop} {α:Type} {Yf:Shared→α} {Ya:World→α} {d:DefRec} {K:Params→PySem.W.Frag} {CX:World→CXT} {sp:World→Sp} {x:Str}
 (hn:l.most=some n) (hn2:n≤sizeLine) (hdf:d.params.defaults=[]) (hr:Room k callerA)
 (hY:∀(w:World) (s:Shared),Yf s=Ya w→(K w.params).In s.heap∧Ge (K w.params)≤s.toks∧s.heap.get? Pt=some { cls:=.none,data:=.fields #[] }∧PySem.W.CodeHd s.heap c Pt)
 (hKP:∀w:World,(K w.params).lookup Pt=none)
 (F:∀(w:World) (mg:Str→Option Value) (fa:Addr) (h:Heap),(K w.params).In h→h.Ns mainGlobals mg→mg d.name=some (.ref fa)→
   ∃fd:FuncData,(∀(s:Shared) (u:Value),BindsTo s fd ⟨[u],[]⟩ [(x,u)])∧
    ∀base:Heap,(K w.params).In base→base.Ns mainGlobals mg→TabAt base mg c Pt→FnOk l.prog w (K w.params) mg base (CX w) k fa fd [x] (sp w))
 (hsp:∀(w:World) (H:Hp) (a:Addr) (ns:List Int),ns.length≤n→KA Pt H→H Pt=some (.tbl #[])→SqL (K w.params) H a (ns.map V.int)→sp w [.ref a] H (fun v _=>v = .bl true) fun _ _ _=>False)
 (hCX:∀(w:World) (H:Hp) (s:Shared) (e:Value) (s':Shared),CX w [] H s (fun _ _ _=>False) e s'→False) :
 PySem.W.WalkX q loose XP Yf Ya l.row.toRowW d [] (fun f vs=>PySem.call f vs):=by
 intro w t₀ t₁ mg mb G Y fa o pm cd doc dV kV ho hd hcd hD hmg hg args vals as L hpre hlay hrd hwl hlo
 have e1:dV = .none:=PySem.W.Dflts.none hD hdf
 have e2:kV = .none:=PySem.W.Dflts.noKw hD
 subst e1;subst e2
 obtain ⟨a,us,ns,rfl,rfl,hobj,hints,hlen⟩:=Att.script_of hn hpre hwl
 have KX:=(hY w t₀ Y).1.keeps L.keeps
 have tt:Ge (K w.params)≤t₁.toks:=by
  obtain ⟨ord,_,z⟩:=L.laid
  exact Nat.le_trans (hY w t₀ Y).2.1 (PySem.W.layAllW_grows _ _ _ z).toks
 have hP:=L.keeps _ _ (hY w t₀ Y).2.2.1
 have hgP:mainGlobals≠Pt:=fun q=>by
  obtain ⟨o,es,ep,e,hd,_⟩:=G.T.g
  rw [q,hP] at e;cases e;cases hd
 have T:TabAt t₁.heap mg c Pt:=by
  obtain ⟨bm,ob,b1,b2,b3,b4,b5,b6⟩:=G.T.bmain
  refine ⟨(hY w t₀ Y).2.2.2.keeps L.keeps,⟨bm,ob,b1,b2,fun q=>?_,fun q=>?_,b3,b4,b5,b6⟩,hgP⟩
  ·obtain ⟨o,es,ep,e,hd,_⟩:=G.T.g
   rw [q,e] at b3;cases b3;rw [hd] at b6;cases b6
  ·rw [q,hP] at b3;cases b3;cases b4
 obtain ⟨fd,hb,hF⟩:=F w mg fa _ KX G.T.g hmg
 refine PySem.W.enter_call (codeAny_mono (Pi KX G.T.g G.T.b G.T.builtins G.T.nolimit hg hobj hints (Nat.le_trans hlen hn2) hr hP (hKP w) T hF hb (fun H hO hT hS=>hsp w H a ns hlen hO hT hS) (fun H e s'=>hCX w H t₁ e s') tt) fun r s' hq=>?_)
 obtain ⟨rfl,h2,h3,h4⟩:=hq
 exact ⟨.inl ⟨.bool true,.bool true,[],rfl,fun _=>rfl,.bool true,Att.post_true l _,fun _=>⟨List.Pairwise.nil,fun _ hm=>(nomatch hm)⟩⟩,h2,h3,h4⟩
def wo (Pt:Addr) (K:PySem.W.Frag):PySem.W.Frag:=K.filter fun p=>!(p.1 == Pt)
theorem JU {Pt:Addr}:∀{K:PySem.W.Frag},(wo Pt K).lookup Pt=none
 | []=>rfl
 | (b,o) :: r=>by
   have ih:=JU (Pt:=Pt) (K:=r)
   unfold wo at ih ⊢
   rw [List.filter_cons]
   by_cases h:b=Pt
   ·subst h;simpa using ih
   ·have h1:(Pt == b)=false:=by rw [beq_eq_false_iff_ne];exact fun z=>h z.symm
    have h2:(b == Pt)=false:=by rw [beq_eq_false_iff_ne];exact h
    simp only [h2,Bool.not_false,if_true,List.lookup_cons,h1]
    exact ih
theorem IY {Pt a:Addr} (n:a≠Pt):∀{K:PySem.W.Frag},(wo Pt K).lookup a=K.lookup a
 | []=>rfl
 | (b,o) :: r=>by
   have ih:=IY n (K:=r)
   unfold wo at ih ⊢
   rw [List.filter_cons]
   by_cases h:b=Pt
   ·subst h
    have h1:(a == b)=false:=by rw [beq_eq_false_iff_ne];exact n
    simp only [beq_self_eq_true,Bool.not_true,Bool.false_eq_true,if_false,List.lookup_cons,h1]
    exact ih
   ·have h2:(b == Pt)=false:=by rw [beq_eq_false_iff_ne];exact h
    simp only [h2,Bool.not_false,if_true,List.lookup_cons]
    rw [ih]
def D7 (K:PySem.W.Frag) (Pt:Addr):Prop:=K.lookup Pt=some { cls:=.none,data:=.fields #[] }
section
variable {K:PySem.W.Frag} {Pt:Addr} (T:D7 K Pt)
include T
theorem Mx {a:Addr} {oc:Value} {od:Option Addr} {fd:FuncData} {sl:Array (Option Value)} (e:K.lookup a=some ⟨oc,od,.func fd,sl⟩):(wo Pt K).lookup a=some ⟨oc,od,.func fd,sl⟩:=by
 rw [IY]
 ·exact e
 ·rintro rfl
  unfold D7 at T
  rw [T] at e;cases e
theorem B7 {g:Addr} {n:Str} {x:Option Value} (e:PySem.W.nsIn K g n=some x):PySem.W.nsIn (wo Pt K) g n=some x:=by
 unfold PySem.W.nsIn at e ⊢
 rw [IY]
 ·exact e
 ·rintro rfl
  unfold D7 at T
  rw [T] at e;cases e
theorem Uj {cd:Value} {q:Str} (e:PySem.W.codeIn K cd q=true):PySem.W.codeIn (wo Pt K) cd q=true:=by
 unfold PySem.W.codeIn at e ⊢
 split at e
 ·next c=>
  rw [IY]
  ·exact e
  ·rintro rfl
   unfold D7 at T
   rw [T] at e
   simp at e
 ·cases e
theorem Uk {f:Addr} {oc:Value} {od:Option Addr} {fd:FuncData} {sl:Array (Option Value)} (e:K.lookup f=some ⟨oc,od,.func fd,sl⟩):PySem.W.keepIn (wo Pt K) (.ref f)=true:=by
 have:=Mx T e
 unfold PySem.W.keepIn
 dsimp only
 rw [this]
end
theorem WX {K:PySem.W.Frag} {Pt:Addr} {h:Heap} (X:K.In h):(wo Pt K).In h:=fun a o e=>by
 by_cases n:a=Pt
 ·subst n;rw [JU] at e;cases e
 ·rw [IY n] at e;exact X a o e
def Jf (K:PySem.W.Frag) (c P:Addr):Bool:=match K.lookup c with
 | some ⟨.type t,_,.fields vs,_⟩=>t == "code" && (match (vs[11]? : Option Value) with | some (.ref p)=>p == P | _=>false) && (match (vs.getD 18 .none:Value) with | .str _ _=>true | _=>false) &&
    (match (vs.getD 7 .none:Value) with | .int _ _=>true | _=>false) && (match (vs.getD 9 .none:Value) with | .bool _=>true | _=>false) && (match (vs.getD 10 .none:Value) with | .int _ _=>true | _=>false) && !(c == P)
 | _=>false
theorem OL {K:PySem.W.Frag} {c P:Addr} {h:Heap} (X:K.In h) (e:Jf K c P=true):PySem.W.CodeHd h c P:=by
 unfold Jf at e
 split at e
 ·next t od vs sl hl=>
  simp only [Bool.and_eq_true] at e
  obtain ⟨⟨⟨⟨⟨⟨e1,e2⟩,e3⟩,e4⟩,e5⟩,e6⟩,e7⟩:=e
  split at e2
  ·next p hp=>
   split at e3
   ·next fl tf h3=>
    split at e4
    ·next fg tg h4=>
     split at e5
     ·next b h5=>
      split at e6
      ·next x tt h6=>
       have e2':p=P:=by simpa using e2
       subst e2'
       have t1:t = "code":=by simpa using e1
       subst t1
       exact ⟨_,vs,fl,tf,fg,tg,b,x,tt,X _ _ hl,rfl,rfl,hp,by rw [Array.getD_eq_getD_getElem?,hp];rfl,h3,h4,h5,h6,by simpa using e7⟩
      ·cases e6
     ·cases e5
    ·cases e4
   ·cases e3
  ·cases e2
 ·cases e
theorem PY {K:PySem.W.Frag} {n:Nat} (e:PySem.W.nsIn K mainGlobals "QUOTE" = some none):Ge K≤n:=by
 unfold Ge;rw [e];exact Nat.zero_le _
end L2
namespace F2
open PySem L2 PySem.Spec PyProof.Rows
theorem UI {P:Program} {w:World} {K:PySem.W.Frag} {mg:Str→Option Value} {base:Heap} {x qual:Str} {st:Stmt} {fa:Addr} {fd:FuncData} {N ps:List Str} {k n m:Nat} {g:M Out} {cd:Value} (e1:ps.length=n) (e2:N.length=m) (F:Fun K x qual st fa fd) (hc:fd.code=cd) (S:FnScope N ps (Aw st))
 (hb:∀(A:Around) (outer:List Env) (s:Shared) (H:Hp) (E:XK),Room k (A.deeper (PyProof.Rows.envOfC qual (Aw st) s.heap.objs.size fa cd))→
   PSs (Gi CX0 P w K mg base N qual (Aw st) fa cd A outer s H E).nox (Dj st) (RS K g)):FnOk P w K mg base CX0 (k + 1) fa fd ps (spF K (fnOf n m g)):=by
 subst e1 e2
 have hlen:∀{ds:List D} {S:List Ob} {z:D×List Ob},fnOf ps.length N.length g ds S=some z→ds.length=ps.length:=fun {ds S z} h=>by
  unfold fnOf at h
  split at h
  ·next h1=>exact h1
  ·cases h
 obtain ⟨oc,od,kV,doc,pm,an,cdv,ct,osl,rfl,lk,hcd⟩:=F.ex
 have hcv:cdv=cd:=hc
 subst hcv
 refine RN lk hcd S (fun vs H Q E h=>?_) fun A outer s H vs Q E hr h=>?_
 ·obtain ⟨c,ds,S,si,rs,r,S',e,_⟩:=h
  rw [rs.length];exact hlen e
 obtain ⟨c,ds,S0,si,rs,r,S',e,kk⟩:=h
 refine ⟨RS K g,(hb A outer s H E hr).nox,?_⟩
 have hl:=hlen e
 unfold fnOf at e
 rw [if_pos hl] at e
 cases eg:g ⟨env0 N.length ds,S0⟩ with
 | none=>rw [eg] at e;cases e
 | some p=>
   obtain ⟨o,t⟩:=p
   rw [eg] at e
   refine ⟨c.O,c,_,Gk si rs,o,t,eg,fun σ' H' c' f' s'=>?_⟩
   obtain ⟨si',ext'⟩:=f'.leave
   have st':Stp c.O c H ⟨c'.ι,c.O⟩ H':=⟨s'.ext.trans ext',s'.oo⟩
   cases o with
   | next=>cases e;exact kk .non H' _ si' st' (fun _=>Iff.rfl) .non
   | ret d=>cases e;exact fun v rv=>kk v H' _ si' st' (fun _=>Iff.rfl) (rv.mono ext')
   | brk=>cases e
   | cont=>cases e
theorem N4 {K:PySem.W.Frag} {H:Hp} {a Pt l col:Nat} {qual:Str} {ns:List Int} {f:Fn} {S':List Ob} (hO:KA Pt H) (hP:H Pt=some (.tbl #[])) (hS:SqL K H a (ns.map V.int)) (e:f [.scr ns] [.tab Pt l col qual]=some (.bl true,S')):spF K f [.ref a] H (fun v _=>v = .bl true) fun _ _ _=>False:=by
 refine ⟨⟨[Pt],fun _=>False⟩,[.scr ns],[.tab Pt l col qual],⟨rfl,by simp,fun k a o h1 h2=>?_,fun b z=>z.elim,fun b z=>z.elim⟩,.cons (.scr ?_) .nil,.bl true,S',e,fun v H' c' _ _ _ rv=>by cases rv;rfl⟩
 ·cases k with
  | zero=>
    have h1:some Pt=some a:=by simpa using h1
    have h2:some (Ob.tab Pt l col qual)=some o:=by simpa using h2
    cases h1;cases h2
    exact ⟨rfl,_,hP,.inl rfl⟩
  | succ k=>simp at h1
 ·have nA:∀{x:HO},H a=some x→(∀ps,x≠.tbl ps)→¬(Cf.mk [Pt] fun _=>False).A a:=fun {x} q n z=>by
   rcases z with z | z
   ·have z:a=Pt:=by simpa using z
    rw [z,hP] at q;cases q;exact n _ rfl
   ·exact z
  rcases hS with (h | ⟨o,h⟩) | h
  ·rcases hO a with z | ⟨o,xs,z⟩ | ⟨z,z2⟩
   ·rw [z] at h;cases h
   ·rw [z] at h;cases h
   ·rw [z2] at h;cases h
  ·exact .inl ⟨⟨o,h⟩,nA h (by simp)⟩
  ·exact .inr h
def KU (P:Program) (w:World) (K:PySem.W.Frag) (mg:Str→Option Value) (base:Heap) (k:Nat) (L:LamD) (x:Str) (g:List D→Fn):Prop:=
 ∀(fa c':Addr) (pm ctv:Value) (cs:List Addr) (capsV:List V),cs.Nodup→cs.length=L.names.length→FnOk P w K mg base CX0 k fa (PySem.W.kla_fn "<lambda>" L.qual L.params L.body L.scope (L.names.zip cs) pm (.ref c') ctv) [x] (spV K g L fa c' pm ctv cs capsV)
def Wb (q:Str) (names:List Str):Expr→LamD
 | .Lambda a b s _=>⟨q,a,b,s,names⟩
 | e=>⟨q,⟨[],[],none,[],[],none,[]⟩,e,default,names⟩
def stE:Stmt→Expr
 | .Assign _ v _=>v
 | .Return (some v) _=>v
 | _=>.Name "" ⟨0,0,0,0⟩
def Sw (i:Nat):Expr→Expr
 | .Call _ as _ _=>as.getD i (.Name "" ⟨0,0,0,0⟩)
 | e=>e
end F2
namespace L2
open PySem PySem.Spec PyProof.Rows
section
variable {X:Cx}
def Oh (g:Str→Str→Str×Str×Str):V→List V→Hp→VK→Prop:=fun x xs H Q=>∃z y,x = .str z∧xs=[.str y]∧(y.length == 0)=false∧z.length≤100000∧∀l,H l=none→Q (.ref l) (upd H l (.tup [.str (g z y).1,.str (g z y).2.1,.str (g z y).2.2]))
theorem Ta:MtR X "str.partition" (Oh Txt.partition):=by
 intro pins s σ H x xs v us Q I rx rs h
 obtain ⟨z,y,rfl,rfl,hy,hz,q⟩:=h
 obtain ⟨t,rfl⟩:=rx
 obtain ⟨u,rfl,t2,rfl⟩:=Dt rs
 have hl:sizeLine=16777216:=sizeLine_eq
 have fin:∀(a b c:Str) (ta tb tc k:Nat),Txt.partition z y=(a,b,c)→s.toks≤k→EP X pins σ Q (.ref s.heap.objs.size) { s with toks:=k,heap:=s.heap.push { cls:=.type "tuple",data:=.seq [.str a ta,.str b tb,.str c tc].toArray } }:=fun a b c ta tb tc k e hk=>by
  have q':=q _ I.fresh
  rw [e] at q'
  exact ⟨.ref _,_,I.tnew (t':=k) (its:=[.str a ta,.str b tb,.str c tc]) (ys:=[.str a,.str b,.str c]) (.cons ⟨_,rfl⟩ (.cons ⟨_,rfl⟩ (.cons ⟨_,rfl⟩ .nil))) (by rw [hl];show 3≤16777216;decide),rfl,q'⟩
 refine call_meets F.slot_str_partition (typeIs_str _ _ _) F.entry_str_partition (F.args_str_partition_2 _ _) (meets_str_partition z y t t2 hy (by lia)) ?_
 have e:Txt.partition z y=match Builtin.Str.occurrences z y 0 z.length 1 with
  | i :: _=>(Builtin.Str.strSub z 0 i,y,Builtin.Str.strSub z (i + y.length) z.length)
  | []=>(z,Str.empty,Str.empty):=rfl
 revert e
 cases Builtin.Str.occurrences z y 0 z.length 1 with
 | nil=>intro e;exact fin _ _ _ _ _ _ _ e (by lia)
 | cons i r=>intro e;exact fin _ _ _ _ _ _ _ e (by lia)
theorem QI:MtR X "str.rpartition" (Oh Txt.rpartition):=by
 intro pins s σ H x xs v us Q I rx rs h
 obtain ⟨z,y,rfl,rfl,hy,hz,q⟩:=h
 obtain ⟨t,rfl⟩:=rx
 obtain ⟨u,rfl,t2,rfl⟩:=Dt rs
 have hl:sizeLine=16777216:=sizeLine_eq
 have fin:∀(a b c:Str) (ta tb tc k:Nat),Txt.rpartition z y=(a,b,c)→s.toks≤k→EP X pins σ Q (.ref s.heap.objs.size) { s with toks:=k,heap:=s.heap.push { cls:=.type "tuple",data:=.seq [.str a ta,.str b tb,.str c tc].toArray } }:=fun a b c ta tb tc k e hk=>by
  have q':=q _ I.fresh
  rw [e] at q'
  exact ⟨.ref _,_,I.tnew (t':=k) (its:=[.str a ta,.str b tb,.str c tc]) (ys:=[.str a,.str b,.str c]) (.cons ⟨_,rfl⟩ (.cons ⟨_,rfl⟩ (.cons ⟨_,rfl⟩ .nil))) (by rw [hl];show 3≤16777216;decide),rfl,q'⟩
 refine call_meets F.slot_str_rpartition (typeIs_str _ _ _) F.entry_str_rpartition (F.args_str_rpartition_2 _ _) (meets_str_rpartition z y t t2 hy (by lia)) ?_
 have e:Txt.rpartition z y=match Builtin.Str.lastOccurrence z y 0 z.length with
  | some i=>(Builtin.Str.strSub z 0 i,y,Builtin.Str.strSub z (i + y.length) z.length)
  | none=>(Str.empty,Str.empty,z):=rfl
 revert e
 cases Builtin.Str.lastOccurrence z y 0 z.length with
 | none=>intro e;exact fin _ _ _ _ _ _ _ e (by lia)
 | some i=>intro e;exact fin _ _ _ _ _ _ _ e (by lia)
end
end L2
namespace F2
open PySem L2 PySem.Spec PyProof.Rows
section
variable {X:Cx} {K:PySem.W.Frag} {o e:Expr} {es:List Expr} {f:M D} {g:M (List D)} {apos cpos:Pos}
def partM (h:Str→Str→Str×Str×Str) (f:M D) (g:M (List D)):M D:=bnd f fun o=>bnd g fun as=>match o,as with
 | .str z,[.str y]=>if (y.length == 0)=false∧z.length≤100000 then ret (.tup [.str (h z y).1,.str (h z y).2.1,.str (h z y).2.2]) else fail
 | _,_=>fail
theorem RE.partM {h:Str→Str→Str×Str×Str} {σ:L2.St} {H:Hp} {Q:VK} (q:RE K (F2.partM h f g) σ H Q):tBM K "str" (Oh h) (RE K f) (RA K g) σ H Q:=by
 obtain ⟨Oo,c,t,fi,r,t',eq,k⟩:=q
 obtain ⟨d,t1,e1,eq1⟩:=Am eq
 clear eq
 obtain ⟨as,t2,e2,eq⟩:=Am eq1
 clear eq1
 refine ⟨Oo,c,t,fi,d,t1,e1,fun v H1 c1 f1 s1 rv=>?_⟩
 split at eq
 ·next z y=>
  cases rv
  refine ⟨rfl,Oo,c1,t1,f1,_,t2,e2,fun us H2 c2 f2 s2 rus=>?_⟩
  obtain ⟨w1,rfl,r1⟩:=Ds rus
  cases r1
  split at eq
  ·next hc=>
   cases eq
   refine ⟨_,_,rfl,rfl,hc.1,hc.2,fun l hl=>?_⟩
   have f3:=f2.laid (o:=.tup [.str (h z y).1,.str (h z y).2.1,.str (h z y).2.2]) hl
   have s3:=f2.stp_laid (o:=.tup [.str (h z y).1,.str (h z y).2.1,.str (h z y).2.2]) hl
   exact k _ _ c2 f3 ((s1.trans s2).trans s3) (.tup AN (f2.s.free hl) (.cons (.str _) (.cons (.str _) (.cons (.str _) .nil))))
  ·cases eq
 ·cases eq
theorem SH (ho:PE X o (RE X.K f)) (ha:PA X (e :: es) (RA X.K g))
 (hbase:attributeBase o "partition" X.env (eval o X.env)=eval o X.env:=by rfl)
 (hfew:((backTo cpos (starEach (e :: es) X.env)).all (fun x=>!x.1) && (backToKw cpos (keywordEach [] X.env)).all (fun x=>x.1.isSome) && decide ((e :: es).length + ([]:List Keyword).length + (if ([]:List Keyword).isEmpty then 0 else 1) < 30))=true:=by rfl)
 (hline:(apos.endLine == cpos.line)=true:=by rfl) (hs:starEach (e :: es) X.env=(false,eval e X.env) :: starEach es X.env:=by rfl) (hplain:(backTo cpos (starEach es X.env)).any (·.1)=false:=by rfl) :
 PE X (.Call (.Attribute o "partition" apos) (e :: es) [] cpos) (RE X.K (partM Txt.partition f g)):=
 BA (FE PySem.F.plainAttrs_str PySem.F.slot_str_partition PySem.F.type_str_partition Ta ho ha hbase hfew hline hs hplain) fun _ _ _ q=>RE.partM q
theorem Qx (ho:PE X o (RE X.K f)) (ha:PA X (e :: es) (RA X.K g))
 (hbase:attributeBase o "rpartition" X.env (eval o X.env)=eval o X.env:=by rfl)
 (hfew:((backTo cpos (starEach (e :: es) X.env)).all (fun x=>!x.1) && (backToKw cpos (keywordEach [] X.env)).all (fun x=>x.1.isSome) && decide ((e :: es).length + ([]:List Keyword).length + (if ([]:List Keyword).isEmpty then 0 else 1) < 30))=true:=by rfl)
 (hline:(apos.endLine == cpos.line)=true:=by rfl) (hs:starEach (e :: es) X.env=(false,eval e X.env) :: starEach es X.env:=by rfl) (hplain:(backTo cpos (starEach es X.env)).any (·.1)=false:=by rfl) :
 PE X (.Call (.Attribute o "rpartition" apos) (e :: es) [] cpos) (RE X.K (partM Txt.rpartition f g)):=
 BA (FE PySem.F.plainAttrs_str PySem.F.slot_str_rpartition PySem.F.type_str_rpartition QI ho ha hbase hfew hline hs hplain) fun _ _ _ q=>RE.partM q
end
section
variable {K:PySem.W.Frag}
end
abbrev Gd:=Option (Nat×List D)
def Gon (g:Gd) (S:List Ob):Prop:=∀k xs,g=some (k,xs)→S[k]?=some (.lst xs)
def chk (g:Gd):M Unit:=fun t=>@ite _ (Gon g t.S) (Classical.propDecidable _) (some ((),t)) none
theorem Gg {g:Gd} {t t':T} {u:Unit} (h:chk g t=some (u,t')):Gon g t.S∧t'=t:=by
 unfold chk at h
 split at h
 ·next q=>cases h;exact ⟨q,rfl⟩
 ·cases h
theorem GP {g:Gd} {t:T} (h:Gon g t.S):chk g t=some ((),t):=by unfold chk;rw [if_pos h]
def compG (g:Gd) (st:D→M Unit) (tst:M Bool) (elt:M D):List D→M (List D)
 | []=>bnd (chk g) fun _=>ret []
 | d :: r=>bnd (chk g) fun _=>bnd (st d) fun _=>bnd tst fun k=>if k=true then bnd elt fun x=>bnd (compG g st tst elt r) fun xs=>ret (x :: xs) else compG g st tst elt r
def DQ (n:Nat) (fr:List Nat) (f:M (Gd×List D)) (st:D→M Unit) (tst:M Bool) (elt:M D):M (List D):=bnd f fun p t=>match compG p.1 st tst elt p.2 ⟨cenv n fr t.env,t.S⟩ with
 | some (xs,t')=>if xs.length≤LIM then some (xs,{ t with S:=t'.S }) else none
 | none=>none
structure ItOk3 (K:PySem.W.Frag) (J:It) (g:Gd) (c:Cf) (H:Hp) (ds:List D):Prop where
 go:∀c' H' S' (i:Nat),Ext c H c' H'→SInv K c' S' H'→Gon g S'→i < ds.length→J.go i H'
 yld:∀c' H' S' (i:Nat) x H'' d,Ext c H c' H'→SInv K c' S' H'→Gon g S'→ds[i]?=some d→J.yld i H' x H''→∃p vs es,x = .ref p∧H' p=none∧H''=upd H' p (.tup vs)∧d = .tup es∧Reps K c' H' vs es
 stop:∀c' H' S',Ext c H c' H'→SInv K c' S' H'→Gon g S'→J.stop ds.length H'
inductive RI3 (K:PySem.W.Frag) (f:M (Gd×List D)) (σ:L2.St) (H:Hp) (R:It→Hp→Prop):Prop where
 | mk (Oo:Addr→Prop) (c:Cf) (t:T) (fi:FInv K Oo c t σ H) (p:Gd×List D) (t':T) (e:f t=some (p,t')) (k:∀J H' c',FInv K Oo c' t' σ H'→Stp Oo c H c' H'→ItOk3 K J p.1 c' H' p.2→R J H'):RI3 K f σ H R
section
variable {X:Cx} {e a b tg iter elt:Expr} {ifs:List Expr} {pos:Pos} {scope:Scope} {N':List Str} {n:Nat} {fr:List Nat} {st:D→M Unit} {tst:M Bool} {el:M D}
end
structure ItOkG (K:PySem.W.Frag) (J:It) (g:Gd) (c:Cf) (H:Hp) (ds:List D):Prop where
 go:∀c' H' S' (i:Nat),Ext c H c' H'→SInv K c' S' H'→Gon g S'→i < ds.length→J.go i H'
 yld:∀c' H' S' (i:Nat) x H'' d,Ext c H c' H'→SInv K c' S' H'→Gon g S'→ds[i]?=some d→J.yld i H' x H''→H''=H'∧Rep K c' H' x d
 stop:∀c' H' S',Ext c H c' H'→SInv K c' S' H'→Gon g S'→J.stop ds.length H'
theorem ItOk.toG {K:PySem.W.Frag} {J:It} {g:Gd} {c:Cf} {H:Hp} {ds:List D} (h:ItOk K J c H ds):ItOkG K J g c H ds:=
 ⟨fun c' H' _ i e _ _=>h.go c' H' i e,fun c' H' _ i x H'' d e _ _=>h.yld c' H' i x H'' d e,fun c' H' _ e _ _=>h.stop c' H' e⟩
def RIG (K:PySem.W.Frag) (f:M (Gd×List D)):TI:=fun σ H R=>∃Oo c t,FInv K Oo c t σ H∧∃p t',f t=some (p,t')∧∀J H' c',FInv K Oo c' t' σ H'→Stp Oo c H c' H'→ItOkG K J p.1 c' H' p.2→R J H'
def forG (g:Gd) (st:D→M Unit) (b:M Out):List D→M Out
 | []=>bnd (chk g) fun _=>ret .next
 | d :: r=>bnd (chk g) fun _=>bnd (st d) fun _=>bnd b fun o=>match o with
   | .next=>forG g st b r
   | .cont=>forG g st b r
   | .brk=>ret .next
   | .ret x=>ret (.ret x)
def Fy (f:M (Gd×List D)) (st:D→M Unit) (b:M Out):M Out:=bnd f fun p=>forG p.1 st b p.2
theorem RS.forG {μ:Cf→Hp→D→(V→Hp→Prop)→Prop} {K:PySem.W.Frag} {f:M (Gd×List D)} {st:D→M Unit} {b:M Out} {E:Ends} {σ:L2.St} {H:Hp} (q:RSg K μ (Fy f st b) E σ H):Rk (RIG K f) (RG K st) (RSg K μ b) E σ H:=by
 obtain ⟨Oo,c,t,fi,o,t',eq,k⟩:=q
 obtain ⟨pg,t1,e1,eq⟩:=Am eq
 refine ⟨Oo,c,t,fi,pg,t1,e1,fun J H1 c1 f1 s1 it=>?_⟩
 obtain ⟨g,ds⟩:=pg
 dsimp only at eq it
 refine ⟨fun i m σ' H'=>m=ds.length - i∧i≤ds.length∧∃c' t2,FInv K Oo c' t2 σ' H'∧Stp Oo c1 H1 c' H'∧F2.forG g st b (ds.drop i) t2=some (o,t'),⟨_,rfl,Nat.zero_le _,c1,t1,f1,.refl,by rw [List.drop_zero];exact eq⟩,?_⟩
 rintro i m σ' H' ⟨rfl,hi,c',t2,f2,s2,e2⟩
 by_cases hlt:i < ds.length
 ·rw [List.drop_eq_getElem_cons hlt] at e2
  unfold F2.forG at e2
  obtain ⟨u0,t0,e0,e2⟩:=Am e2
  obtain ⟨hon,ht0⟩:=Gg e0
  rw [ht0] at e2
  clear e0 ht0
  refine .inr ⟨it.go c' H' _ i s2.ext f2.s hon hlt,fun σ3 H3=>∃c3 t3,FInv K Oo c3 t3 σ3 H3∧Stp Oo c1 H1 c3 H3∧F2.forG g st b (ds.drop (i + 1)) t3=some (o,t'),fun σ3 H3 h=>⟨ds.length - (i + 1),by lia,rfl,hlt,h⟩,fun x H'' hy=>?_⟩
  obtain ⟨rfl,rx⟩:=it.yld c' H' _ i x H'' _ s2.ext f2.s hon (List.getElem?_eq_getElem hlt) hy
  obtain ⟨u,t3,e3,e2⟩:=Am e2
  obtain ⟨o4,t4,e4,e2⟩:=Am e2
  refine ⟨Oo,c',t2,_,f2,rx,t3,e3,fun σ3 H3 c3 f3 s3=>?_⟩
  refine ⟨Oo,c3,t3,f3,o4,t4,e4,fun σ5 H5 c5 f5 s5=>?_⟩
  have s':=(s2.trans s3).trans s5
  cases o4 with
  | next=>exact ⟨c5,t4,f5,s',e2⟩
  | cont=>exact ⟨c5,t4,f5,s',e2⟩
  | brk=>cases e2;exact k σ5 H5 c5 f5 (s1.trans s')
  | ret r=>cases e2;exact k σ5 H5 c5 f5 (s1.trans s')
 ·have hi':i=ds.length:=by lia
  subst hi'
  rw [List.drop_length] at e2
  unfold F2.forG at e2
  obtain ⟨u0,t0,e0,e2⟩:=Am e2
  obtain ⟨hon,ht0⟩:=Gg e0
  rw [ht0] at e2
  clear e0 ht0
  cases e2
  exact .inl ⟨it.stop c' H' _ s2.ext f2.s hon,k σ' H' c' f2 (s1.trans s2)⟩
theorem RF.compG {K:PySem.W.Frag} {n:Nat} {fr:List Nat} {f:M (Gd×List D)} {st:D→M Unit} {tst:M Bool} {elt:M D} {σ:L2.St} {H:Hp} {Q:VK} (q:RF K (DQ n fr f st tst elt) σ H Q):KP (RIG K f) (RG K st) (RT K tst) (RE K elt) (ES n fr) σ H Q:=by
 obtain ⟨Oo,c,t,fi,xs,t',eq,k⟩:=q
 obtain ⟨pg,t1,e1,eq⟩:=Am eq
 refine ⟨Oo,c,t,fi,pg,t1,e1,fun J H1 c1 f1 s1 it=>?_⟩
 obtain ⟨g,ds⟩:=pg
 dsimp only at eq it
 cases e3:F2.compG g st tst elt ds ⟨cenv n fr t1.env,t1.S⟩ with
 | none=>rw [e3] at eq;cases eq
 | some p=>
   obtain ⟨ys,t3⟩:=p
   rw [e3] at eq
   dsimp only at eq
   split at eq
   case isFalse=>cases eq
   next hl=>
   cases eq
   refine ⟨fun i m acc σ' H'=>m=ds.length - i∧i≤ds.length∧∃c' t2 zs rest,FInv K c1.O c' t2 σ' H'∧Stp c1.O c1 H1 c' H'∧Reps K c' H' acc zs∧F2.compG g st tst elt (ds.drop i) t2=some (rest,t3)∧xs=zs++rest,
    ⟨_,rfl,Nat.zero_le _,c1,_,[],xs,Ip f1,.refl,.nil,by rw [List.drop_zero];exact e3,rfl⟩,?_⟩
   rintro i m acc σ' H' ⟨rfl,hi,c',t2,zs,rest,f2,s2,ra,e2,ez⟩
   have hacc:acc.length≤sizeLine:=by
    have:zs.length≤xs.length:=by rw [ez,List.length_append];exact Nat.le_add_right _ _
    rw [ra.length]
    exact Nat.le_trans this (Nat.le_trans hl Ct)
   refine ⟨hacc,?_⟩
   by_cases hlt:i < ds.length
   ·rw [List.drop_eq_getElem_cons hlt] at e2
    unfold F2.compG at e2
    obtain ⟨u0,t0,e0,e2⟩:=Am e2
    obtain ⟨hon,ht0⟩:=Gg e0
    rw [ht0] at e2
    clear e0 ht0
    refine .inr ⟨it.go c' H' _ i s2.ext f2.s hon hlt,fun x H'' hy=>?_⟩
    obtain ⟨rfl,rx⟩:=it.yld c' H' _ i x H'' _ s2.ext f2.s hon (List.getElem?_eq_getElem hlt) hy
    obtain ⟨u,t4,e4,e2⟩:=Am e2
    obtain ⟨kb,t5,e5,e2⟩:=Am e2
    refine ⟨c1.O,c',t2,_,f2,rx,t4,e4,fun σ3 H3 c3 f3 s3=>⟨c1.O,c3,t4,f3,kb,t5,e5,fun H4 c4 f4 s4=>?_⟩⟩
    cases kb with
    | false=>
      rw [if_neg Bool.false_ne_true] at e2 ⊢
      exact ⟨ds.length - (i + 1),by lia,rfl,hlt,c4,t5,zs,rest,f4,(s2.trans s3).trans s4,ra.mono (s3.trans s4).ext,e2,ez⟩
    | true=>
      rw [if_pos rfl] at e2 ⊢
      obtain ⟨x6,t6,e6,e2⟩:=Am e2
      obtain ⟨r7,t7,e7,e2⟩:=Am e2
      cases e2
      refine ⟨c1.O,c4,t5,f4,x6,t6,e6,fun v H5 c5 f5 s5 rv=>?_⟩
      exact ⟨ds.length - (i + 1),by lia,rfl,hlt,c5,t6,zs++[x6],r7,f5,((s2.trans s3).trans s4).trans s5,(ra.mono ((s3.trans s4).trans s5).ext).append (.cons rv .nil),e7,by rw [ez,List.append_assoc];rfl⟩
   ·have hi':i=ds.length:=by lia
    subst hi'
    rw [List.drop_length] at e2
    unfold F2.compG at e2
    obtain ⟨u0,t0,e0,e2⟩:=Am e2
    obtain ⟨hon,ht0⟩:=Gg e0
    rw [ht0] at e2
    clear e0 ht0
    cases e2
    refine .inl ⟨it.stop c' H' _ s2.ext f2.s hon,fun p hp _=>?_⟩
    obtain ⟨si,ext⟩:=f2.leave
    obtain ⟨f6,s6⟩:=f1.after si ⟨s2.ext.trans ext,s2.oo⟩ (fun _=>Iff.rfl)
    rw [List.append_nil] at ez
    subst ez
    exact k p acc H' _ f6 (s1.trans s6) (ra.mono ext) hp
def GY:D→M (Gd×List D)
 | .obj k=>fun t=>match t.S[k]? with
   | some (.lst ds)=>some ((some (k,ds),ds),t)
   | _=>none
 | d=>bnd (Dz d) fun ds=>ret (none,ds)
def En (f:M D):M (Gd×List D):=bnd f GY
theorem ItOkG.lst {K:PySem.W.Frag} {g:Gd} {c:Cf} {H:Hp} {p:Addr} {ds:List D} (r:∀c' H' S',Ext c H c' H'→SInv K c' S' H'→Gon g S'→∃vs,SqL K H' p vs∧Reps K c' H' vs ds):ItOkG K (Itl K p) g c H ds:=by
 refine ⟨fun c' H' S' i ex si on hi=>?_,fun c' H' S' i x H'' d ex si on hd hy=>?_,fun c' H' S' ex si on=>?_⟩
 ·obtain ⟨vs,h1,h2⟩:=r c' H' S' ex si on
  obtain ⟨v,e,_⟩:=h2.at (List.getElem?_eq_getElem hi)
  exact ⟨vs,v,h1,e⟩
 ·obtain ⟨vs,h1,h2⟩:=r c' H' S' ex si on
  obtain ⟨rfl,hx⟩:=hy
  exact ⟨rfl,h2.get (hx vs h1) hd⟩
 ·obtain ⟨vs,h1,h2⟩:=r c' H' S' ex si on
  exact ⟨vs,h1,by rw [h2.length];exact Nat.le_refl _⟩
section
variable {X:Cx} {e a b tg iter elt:Expr} {ifs:List Expr} {pos:Pos} {scope:Scope} {N':List Str} {n:Nat} {fr:List Nat} {st:D→M Unit} {tst:M Bool} {el:M D}
theorem F1 {μ:Cf→Hp→D→(V→Hp→Prop)→Prop} {body:List Stmt} {f:M (Gd×List D)} {b:M Out} (hp:PassesOwn (model X.prog X.w) X.A X.env X.xe) (hc:X.calm=true) (hi:PI X tg iter (RIG X.K f)) (hg:PG X tg (RG X.K st)) (hb:PSs X body (RSg X.K μ b))
 (hs:∀x,foldedSetIterable iter X.env x=pure x:=by intro _;rfl):PS X (.For tg iter body [] pos) (RSg X.K μ (Fy f st b)):=
 CY (PC hp hc hi hg hb hs) fun _ _ _ q=>RS.forG q
theorem Gj {f:M (Gd×List D)} (O:CmpOk X scope N' (ES n fr)) (hc:X.calm=true) (hi:PI X tg iter (RIG X.K f))
 (hg:∀cl C s2 H2 fp,PG (B8 X N' scope cl C s2 H2 fp) tg (RG X.K st)) (ht:∀cl C s2 H2 fp,PIf (B8 X N' scope cl C s2 H2 fp) ifs (RT X.K tst)) (he:∀cl C s2 H2 fp,PE (B8 X N' scope cl C s2 H2 fp) elt (RE X.K el))
 (hs:∀x,foldedSetIterable iter X.env x=pure x:=by intro _;rfl):PE X (.ListComp elt [⟨tg,iter,ifs,0⟩] scope pos) (RF X.K (DQ n fr f st tst el)):=
 BA (Ni O hc hi hg ht he hs) fun _ _ _ q=>RF.compG q
theorem C0 {f:M D} (h:PE X e (RE X.K f)):PI X tg e (RIG X.K (En f)):=
 KZ (Pw h) fun σ H R z=>by
  obtain ⟨Oo,c,t,fi,ds,t',eq,k⟩:=z
  obtain ⟨d,t1,e1,eq⟩:=Am eq
  refine ⟨Oo,c,t,fi,d,t1,e1,fun v H1 c1 f1 s1 rv=>?_⟩
  cases rv with
  | @obj a kk hk=>
    unfold GY at eq
    dsimp only at eq
    split at eq
    ·next es hS=>
     cases eq
     obtain ⟨ws,g1,g3⟩:=f1.s.obs kk a _ hk hS
     refine .inl ⟨a,rfl,⟨ws,SqL.of g1⟩,k _ H1 c1 f1 s1 (ItOkG.lst fun c' H' S' ex si on=>?_)⟩
     obtain ⟨us,q1,q2⟩:=si.obs kk a _ (ex.io _ _ hk) (on kk es rfl)
     exact ⟨us,SqL.of q1,q2⟩
    ·cases eq
  | @lst p vs ds' h1 h2 h3=>
    cases eq
    exact .inl ⟨p,rfl,⟨vs,SqL.of h1⟩,k _ H1 c1 f1 s1 (ItOk.toG (ItOk.lst fun c' H' ex=>⟨vs,SqL.of (ex.keep _ _ h1 h2),h3.mono ex⟩))⟩
  | @scr p ns h1=>
    cases eq
    exact .inl ⟨p,rfl,⟨_,h1.sq⟩,k _ H1 c1 f1 s1 (ItOk.toG (ItOk.lst fun c' H' ex=>⟨_,(h1.mono ex).sq,Reps.ints ns⟩))⟩
  | @tup p vs ds' h1 h2 h3=>
    cases eq
    exact .inr (.inl ⟨p,rfl,⟨vs,SqT.of h1⟩,k _ H1 c1 f1 s1 (ItOk.toG (ItOk.tup fun c' H' ex=>⟨vs,SqT.of (ex.keep _ _ h1 h2),h3.mono ex⟩))⟩)
  | str x=>
    cases eq
    exact .inr (.inr ⟨x,rfl,k _ H1 c1 f1 s1 (ItOk.toG ItOk.str)⟩)
  | _=>cases eq
end
def B9 (S:List Ob):Nat→D→D
 | 0,d=>d
 | n + 1,.obj k=>match S[k]? with
   | some (.lst ds)=>.lst (ds.map (B9 S n))
   | _=>.obj k
 | n + 1,.tup ds=>.tup (ds.map (B9 S n))
 | n + 1,.lst ds=>.lst (ds.map (B9 S n))
 | _ + 1,d=>d
def eqO (g:Bool→Bool) (x y:D):M D:=fun t=>if (B3 (B9 t.S 16 x) && B3 (B9 t.S 16 y))=true then (eqN EQD (B9 t.S 16 x) (B9 t.S 16 y)).map fun b=>(.bl (g b),t) else none
theorem HR {K:PySem.W.Frag} {c:Cf} {S:List Ob} {H:Hp} (s:SInv K c S H):∀(n:Nat) {v:V} {d:D},Rep K c H v d→B3 (B9 S n d)=true→Rep K c0 H v (B9 S n d)
 | 0,v,d,r,p=>DS r (by simpa only [B9] using p)
 | n + 1,v,d,r,p=>by
   have row:∀{vs:List V} {ds:List D},Reps K c H vs ds→Gv (ds.map (B9 S n))=true→Reps K c0 H vs (ds.map (B9 S n)):=by
    intro vs ds q
    induction ds generalizing vs with
    | nil=>intro _;cases q;exact .nil
    | cons d ds ih=>
      intro p
      cases q with
      | cons a b=>
        rw [List.map_cons,Gv,Bool.and_eq_true] at p
        exact .cons (HR s n a p.1) (ih b p.2)
   cases r with
   | @obj a k hk=>
     unfold B9 at p ⊢
     split
     ·next ds e=>
      rw [e] at p
      obtain ⟨vs,h1,h2⟩:=s.obs k a _ hk e
      exact .lst h1 (Hx _) (row h2 (by simpa [B3] using p))
     ·next h=>
      split at p
      ·next ds e=>exact absurd e (h ds)
      ·simp [B3] at p
   | tup h m q=>rw [B9] at p ⊢;exact .tup h (Hx _) (row q (by simpa only [B3] using p))
   | lst h m q=>rw [B9] at p ⊢;exact .lst h (Hx _) (row q (by simpa only [B3] using p))
   | non=>exact .non
   | bl b=>exact .bl b
   | int b=>exact .int b
   | str b=>exact .str b
   | ty b=>exact .ty b
   | scr h=>exact DS (c:=c) (.scr h) p
   | dic h n=>exact DS (.dic h n) p
   | exc a b n f q=>exact DS (.exc a b n f q) p
theorem JO {K:PySem.W.Frag} {g:Bool→Bool}:B0 K (Of K g) (eqO g):=fun {Oo c t σ H x y dx dy r t' Q} f rx ry eq k=>by
 unfold eqO at eq
 split at eq
 ·next hp=>
  rw [Bool.and_eq_true] at hp
  obtain ⟨b,e1,e2⟩:=Option.map_eq_some_iff.mp eq
  cases e2
  exact ⟨c0,_,_,b,HR f.s 16 rx hp.1,HR f.s 16 ry hp.2,e1,k _ H c f .refl (.bl (g b))⟩
 ·cases eq
section
variable {X:Cx} {e elt tg iter:Expr} {pos:Pos} {scope:Scope} {N':List Str} {ifs:List Expr} {n:Nat} {fr:List Nat} {f:M (List D)} {st:D→M Unit} {tst:M Bool} {el:M D}
theorem RF.ofObj {K:PySem.W.Frag} {f:M (List D)} {σ:L2.St} {H:Hp} {Q:VK} (q:RE K (FM f) σ H Q):RF K f σ H Q:=by
 obtain ⟨Oo,c,t,fi,r,t',eq,k⟩:=q
 obtain ⟨ds,t1,e1,eq⟩:=Am eq
 cases eq
 refine ⟨Oo,c,t,fi,ds,_,e1,fun p xs H1 c1 f1 s1 rxs hp=>?_⟩
 obtain ⟨c2,f2,s2,e2⟩:=f1.newObj (o:=.lst ds) (u:=.lst xs) hp fun c' H' ex hu=>⟨xs,hu,rxs.mono ex⟩
 exact k _ _ c2 f2 (s1.trans s2) (.obj e2)
theorem Qy {μ:Cf→Hp→D→(V→Hp→Prop)→Prop} {i:Nat} {y:Str} {py spos:Pos} (O:CmpOk X scope N' (ES n fr)) (hc:X.calm=true) (hN:X.N.Nodup) (hiN:X.N[i]?=some y) (hx:X.env.scope.names.lookup y=some .local) (hi:PI X tg iter (RI X.K f))
 (hg:∀cl C s2 H2 fp,PG (B8 X N' scope cl C s2 H2 fp) tg (RG X.K st)) (ht:∀cl C s2 H2 fp,PIf (B8 X N' scope cl C s2 H2 fp) ifs (RT X.K tst)) (he:∀cl C s2 H2 fp,PE (B8 X N' scope cl C s2 H2 fp) elt (RE X.K el))
 (hsw:swapsWith (.ListComp elt [⟨tg,iter,ifs,0⟩] scope pos) (some (.Name y py)) spos.line X.env=pure true:=by rfl)
 (hs:∀x,foldedSetIterable iter X.env x=pure x:=by intro _;rfl):PS X (.Assign [.Name y py] (.ListComp elt [⟨tg,iter,ifs,0⟩] scope pos) spos) (RSg X.K μ (Bf i (FM (Cz n fr f st tst el)))):=
 CY (Nl O hc hN hiN hx hi hg ht he hsw hs) fun E σ H q=>RF.comp (RF.ofObj (RS.set q))
end
section
variable {X:Cx} {e elt tg iter:Expr} {pos:Pos} {scope:Scope} {N':List Str} {ifs:List Expr} {n:Nat} {fr:List Nat} {st:D→M Unit} {tst:M Bool} {el:M D}
theorem Lu {f:M (Gd×List D)} {μ:Cf→Hp→D→(V→Hp→Prop)→Prop} {i:Nat} {y:Str} {py spos:Pos} (O:CmpOk X scope N' (ES n fr)) (hc:X.calm=true) (hN:X.N.Nodup) (hiN:X.N[i]?=some y) (hx:X.env.scope.names.lookup y=some .local) (hi:PI X tg iter (RIG X.K f))
 (hg:∀cl C s2 H2 fp,PG (B8 X N' scope cl C s2 H2 fp) tg (RG X.K st)) (ht:∀cl C s2 H2 fp,PIf (B8 X N' scope cl C s2 H2 fp) ifs (RT X.K tst)) (he:∀cl C s2 H2 fp,PE (B8 X N' scope cl C s2 H2 fp) elt (RE X.K el))
 (hsw:swapsWith (.ListComp elt [⟨tg,iter,ifs,0⟩] scope pos) (some (.Name y py)) spos.line X.env=pure true:=by rfl)
 (hs:∀x,foldedSetIterable iter X.env x=pure x:=by intro _;rfl):PS X (.Assign [.Name y py] (.ListComp elt [⟨tg,iter,ifs,0⟩] scope pos) spos) (RSg X.K μ (Bf i (Bo (DQ n fr f st tst el)))):=
 CY (Nl O hc hN hiN hx hi hg ht he hsw hs) fun E σ H q=>RF.compG (RF.ofPure (RS.set q))
end
end F2
namespace LW
open PySem L2 F2
def EC:M Out:=
 (AH (D8 (fB (Ac (Ad 0) (Ac (fC (.ty "int")) Ah)) Co) (Im (fB (Ac (Ad 0) (Ac (fC (.ty "bool")) Ah)) Co))))
def CP (La:Fn):M Out:=
 (AH (D8 (Av La (Ac (Ad 0) Ah)) (CM (Ad 1) (Ad 0) (Ad 2) leA leA)))
def EV (MB:Fn):M Out:=
 (Ap (Bf 1 (Bo (Cu (Ac (Ad 0) Ah))))
 (Ap (Bf 2 (fC (.int 0)))
 (Ap (Dx (D9 (Ac (fC (.int 6)) Ah)) (Bv 3)
   (Ap (Bf 2 (Aj (Ad 2) (fB (Ac (Ad 1) Ah) BT) A7))
 (Ap (ifS (Az (Aj (Ad 2) (fC (.int 60)) gtA))
   (AH (fC (.bl false)))
   AU)
 (Ap (G3 4 (Cu Ah))
 (Ap (Dx (CF (Ad 1)) (Bv 5)
   (Ap (Bf 6 (Av MB (Ac (Ad 5) Ah)))
 (Ap (ifS (Az (Aj (Ad 6) (fC .non) isC))
   (AH (fC (.bl false)))
   AU)
 (ownM 4 HA (Ac (Ad 6) Ah)))))
 (Ap (ifS (Az (Aj (fB (Ac (Ad 4) Ah) BT) (fC (.int 0)) (eqS id)))
   (AH (fC (.bl true)))
   AU)
 (Bf 1 (Ad 4))))))))
 (AH (fC (.bl false))))))
def EX (BQ NM:Fn):M Out:=
 (Ap (ifS (fOr (BX (Az (fB (Ac (Ad 0) (Ac (fC (.ty "tuple")) Ah)) Co))) (fOr (Az (Aj (fB (Ac (Ad 0) Ah) BT) (fC (.int 0)) (eqS id))) (BX (Az (fB (Ac (Aj (Ad 0) (fC (.int 0)) ixD) (Ac (fC (.ty "str")) Ah)) Co)))))
   (AH (fC .non))
   AU)
 (Ap (Bf 1 (BB (Ac (Aj (Ad 0) (fC (.int 0)) ixD) (Ac (fB (Ac (Ad 0) Ah) BT) Ah))))
 (Ap (ifS (Az (Aj (Ad 1) (BB (Ac (fC (.str "nothing")) (Ac (fC (.int 1)) Ah))) (eqS id)))
   (AH (BB Ah))
   AU)
 (Ap (ifS (Em (Az (Aj (Ad 1) (BB (Ac (fC (.str "number")) (Ac (fC (.int 3)) Ah))) (eqS id))) (Az (Av NM (Ac (Aj (Ad 0) (fC (.int 1)) ixD) (Ac (Aj (Ad 0) (fC (.int 2)) ixD) Ah)))))
   (AH (BB Ah))
   AU)
 (Ap (ifS (Em (Az (Aj (Ad 1) (BB (Ac (fC (.str "text")) (Ac (fC (.int 2)) Ah))) (eqS id))) (Az (Av BQ (Ac (Aj (Ad 0) (fC (.int 1)) ixD) (Ac (fC (.int 0)) (Ac (fC (.int 250)) Ah))))))
   (AH (BB Ah))
   AU)
 (Ap (ifS (Em (Az (Aj (Ad 1) (BB (Ac (fC (.str "list")) (Ac (fC (.int 3)) Ah))) (eqS id))) (Az (Av BQ (Ac (Aj (Ad 0) (fC (.int 2)) ixD) (Ac (fC (.int 0)) (Ac (fC (.int 250)) Ah))))))
   (AH (BB (Ac (Aj (Ad 0) (fC (.int 1)) ixD) Ah)))
   AU)
 (Ap (ifS (Az (Aj (Ad 1) (BB (Ac (fC (.str "pair")) (Ac (fC (.int 3)) Ah))) (eqS id)))
   (AH (BB (Ac (Aj (Ad 0) (fC (.int 1)) ixD) (Ac (Aj (Ad 0) (fC (.int 2)) ixD) Ah))))
   AU)
 (Ap (ifS (Em (Az (Aj (Ad 1) (BB (Ac (fC (.str "choice")) (Ac (fC (.int 2)) Ah))) (eqS id))) (Em (Az (fB (Ac (Aj (Ad 0) (fC (.int 1)) ixD) (Ac (fC (.ty "tuple")) Ah)) Co)) (Az (CM (fC (.int 1)) (fB (Ac (Aj (Ad 0) (fC (.int 1)) ixD) Ah) BT) (fC (.int 9)) leA leA))))
   (AH (Aj (Ad 0) (fC (.int 1)) ixD))
   AU)
 (AH (fC .non))))))))))
def FB (BQ:Fn):M Out:=
 (AH (D8 (Av BQ (Ac (Ad 1) (Ac (fUn (fC (.int 999999999999999999)) LH) (Ac (fC (.int 999999999999999999)) Ah)))) (Av BQ (Ac (Ad 0) (Ac (fUn (fC (.int 999999999999999999)) LH) (Ac (Ad 1) Ah))))))
def D3:M Out:=
 (AH (Aj (Aj (Ad 0) (fC (.int 0)) ixD) (fC (.str "end")) (eqS id)))
def EW (K8:Fn):M Out:=
 (Ap (ifS (fOr (BX (Az (fB (Ac (Ad 0) (Ac (fC (.ty "tuple")) Ah)) Co))) (fOr (Az (Aj (fB (Ac (Ad 0) Ah) BT) (fC (.int 0)) (eqS id))) (BX (Az (fB (Ac (Aj (Ad 0) (fC (.int 0)) ixD) (Ac (fC (.ty "str")) Ah)) Co)))))
   (AH (fC (.bl false)))
   AU)
 (Ap (ifS (Az (Aj (Aj (Ad 0) (fC (.int 0)) ixD) (fC (.str "end")) (eqS id)))
   (AH (Aj (fB (Ac (Ad 0) Ah) BT) (fC (.int 1)) (eqS id)))
   AU)
 (Ap (ifS (Em (Az (Aj (Aj (Ad 0) (fC (.int 0)) ixD) (fC (.str "left")) (eqS fun b=>!b))) (Az (Aj (Aj (Ad 0) (fC (.int 0)) ixD) (fC (.str "right")) (eqS fun b=>!b))))
   (AH (fC (.bl false)))
   AU)
 (AH (D8 (Aj (fB (Ac (Ad 0) Ah) BT) (fC (.int 2)) (eqS id)) (Av K8 (Ac (Aj (Ad 0) (fC (.int 1)) ixD) (Ac (Ad 1) Ah))))))))
def FC (NL FJ BQ:Fn):M Out:=
 (Ap (ifS (fOr (BX (Az (fB (Ac (Ad 0) (Ac (fC (.ty "tuple")) Ah)) Co))) (Az (Aj (fB (Ac (Ad 0) Ah) BT) (fC (.int 3)) (eqS fun b=>!b))))
   (AH (fC (.bl false)))
   AU)
 (AH (D8 (Av NL (Ac (Aj (Ad 0) (fC (.int 0)) ixD) Ah)) (D8 (Av FJ (Ac (Aj (Ad 0) (fC (.int 1)) ixD) Ah)) (Av BQ (Ac (Aj (Ad 0) (fC (.int 2)) ixD) (Ac (fC (.int 0)) (Ac (Aj (Ad 1) (fC (.int 1)) Ew) Ah))))))))
def FA:M Out:=
 (Ap (ifS (fOr (BX (Az (fB (Ac (Ad 0) (Ac (fC (.ty "str")) Ah)) Co))) (BX (Az (CM (fC (.int 1)) (fB (Ac (Ad 0) Ah) BT) (fC (.int 8)) leA leA))))
   (AH (fC (.bl false)))
   AU)
 (Ap (Dx (CF (Ad 0)) (Bv 1)
   (ifS (BX (Az (CM (fC (.str "a")) (Ad 1) (fC (.str "z")) leA leA)))
   (AH (fC (.bl false)))
   AU))
 (AH (fC (.bl true)))))
def EB:M Out:=
 (Ap (Dx (CF (fSl (Ad 0) (BW (Ad 1)) (BW (Aj (Ad 1) (fC (.int 1)) A7)) Ca)) (Bv 2)
   (AH (Ad 2)))
 (AH (fC (.int 0))))
def Dp (Mz:Fn):M Out:=
 (Ap (Bf 2 (Av Mz (Ac (Ad 0) (Ac (Ad 1) Ah))))
 (AH (KH [("rest",(Ad 2)),("mixed",(Aj (Ad 2) (Aj (fC (.int 10)) (fC (.int 18)) HN) ltA)),("count",(Aj (fC (.int 7)) (Aj (fC (.int 3)) (Ad 1) Js) A7))])))
def Dq:M Out:=
 (Ap (Bf 2 (Aj (Ad 0) (fC (.str "rest")) Fv))
 (Ap (ifS (BX (Az (Aj (Ad 0) (fC (.str "mixed")) Fv)))
   (Ap (FI (Aj (Ad 2) (Ad 1) Io) (IP (Ad 0) (fC (.str "rest"))))
 (AH (Aj (Ad 2) (Ad 1) FR)))
   AU)
 (Ap (FI (Aj (Aj (Ad 0) (fC (.str "count")) Fv) (fC (.int 1)) A7) (IP (Ad 0) (fC (.str "count"))))
 (Ap (Bf 2 (Aj (Aj (Ad 2) (fC (.int 1000000000303)) FR) (Aj (fC (.int 90007)) (Aj (Ad 0) (fC (.str "count")) Fv) Jt) A7))
 (Ap (Bf 2 (Aj (Aj (Ad 2) (Aj (Ad 2) (fC (.int 53)) A7) Jt) (fC (.int 1000000000331)) FR))
 (Ap (Bf 2 (Aj (Aj (Ad 2) (Ad 2) Jt) (fC (.int 999999999877)) FR))
 (Ap (FI (Ad 2) (IP (Ad 0) (fC (.str "rest"))))
 (AH (Aj (Aj (Ad 2) (fC (.int 13)) Io) (Ad 1) FR)))))))))
def Db (CH A5:Fn):M Out:=
 (Ap (Bf 2 (Av A5 (Ac (Ad 0) (Ac (fC (.int 9)) Ah))))
 (Ap (ifS (Az (Aj (Ad 2) (fC (.int 0)) (eqS id)))
   (AH (BB (Ac (fC (.str "nothing")) Ah)))
   AU)
 (Ap (ifS (Az (Aj (Ad 2) (fC (.int 1)) (eqS id)))
   (AH (BB (Ac (fC (.str "text")) (Ac (Aj (Bo (Cu (Ac (fC (.int 0)) (Ac (fC (.int 1)) (Ac (fC (.int 5)) (Ac (fC (.int 250)) (Ac (Av A5 (Ac (Ad 0) (Ac (fC (.int 251)) Ah))) Ah))))))) (Av A5 (Ac (Ad 0) (Ac (fC (.int 5)) Ah))) ixD) Ah))))
   AU)
 (Ap (ifS (fOr (Az (Aj (Ad 1) (fC (.int 0)) (eqS id))) (Az (Aj (Ad 2) (fC (.int 4)) ltA)))
   (Ap (Bf 3 (Aj (Bo (Cu (Ac (fC (.int 0)) (Ac (Aj (Av A5 (Ac (Ad 0) (Ac (fC (.int 19)) Ah))) (fC (.int 9)) Ew) (Ac (Aj (Av A5 (Ac (Ad 0) (Ac (Aj (fC (.int 10)) (fC (.int 11)) HN) Ah))) (Aj (fC (.int 10)) (fC (.int 10)) HN) Ew) Ah))))) (Av A5 (Ac (Ad 0) (Ac (fC (.int 3)) Ah))) ixD))
 (AH (BB (Ac (fC (.str "number")) (Ac (Ad 3) (Ac (Aj (Ad 3) (Aj (Bo (Cu (Ac (fC (.int 0)) (Ac (fC (.int 1)) (Ac (fC (.int 9)) (Ac (fC (.int 255)) (Ac (fC (.int 256)) (Ac (fC (.int 70000)) (Ac (Aj (fC (.int 10)) (fC (.int 17)) HN) Ah))))))))) (Av A5 (Ac (Ad 0) (Ac (fC (.int 7)) Ah))) ixD) A7) Ah))))))
   AU)
 (Ap (ifS (Az (Aj (Ad 2) (fC (.int 6)) ltA))
   (AH (BB (Ac (fC (.str "list")) (Ac (Av CH (Ac (Ad 0) (Ac (Aj (Ad 1) (fC (.int 1)) Ew) Ah))) (Ac (Aj (Bo (Cu (Ac (fC (.int 0)) (Ac (fC (.int 1)) (Ac (fC (.int 3)) (Ac (fC (.int 250)) (Ac (Av A5 (Ac (Ad 0) (Ac (fC (.int 199)) Ah))) Ah))))))) (Av A5 (Ac (Ad 0) (Ac (fC (.int 5)) Ah))) ixD) Ah)))))
   AU)
 (Ap (ifS (Az (Aj (Ad 2) (fC (.int 7)) ltA))
   (AH (BB (Ac (fC (.str "pair")) (Ac (Av CH (Ac (Ad 0) (Ac (Aj (Ad 1) (fC (.int 1)) Ew) Ah))) (Ac (Av CH (Ac (Ad 0) (Ac (Aj (Ad 1) (fC (.int 1)) Ew) Ah))) Ah)))))
   AU)
 (Ap (Bf 4 (Aj (fC (.int 1)) (Av A5 (Ac (Ad 0) (Ac (Aj (Bo (Cu (Ac (fC (.int 3)) (Ac (fC (.int 9)) Ah)))) (fB (Ac (Aj (Ad 1) (fC (.int 1)) (eqS id)) Ah) Lx) ixD) Ah))) A7))
 (AH (BB (Ac (fC (.str "choice")) (Ac (fB (Ac (Bo (Cz 1 [0,1] (D9 (Ac (Ad 4) Ah)) (Bv 0) Cy (Av CH (Ac (Ad 1) (Ac (Aj (Ad 2) (fC (.int 1)) Ew) Ah))))) Ah) Ha) Ah)))))))))))
def Eg (Lb:Fn):M Out:=
 (Ap (Bf 1 (fIf (Az (Aj (Aj (Ad 0) (fC (.int 0)) ixD) (fC (.str "choice")) (eqS id))) (Aj (Ad 0) (fC (.int 1)) ixD) (fSl (Ad 0) (BW (fC (.int 1))) fNo Ca)))
 (Ap (ifS (Az (Aj (fB (Ac (Ad 1) Ah) BT) (fC (.int 0)) (eqS id)))
   (AH (Aj (Ad 0) (fC (.int 0)) ixD))
   AU)
 (AH (Aj (Aj (Aj (Aj (Ad 0) (fC (.int 0)) ixD) (fC (.str "(")) A7) (joinW (fC (.str ",")) (Ac (Bo (Cz 1 [] (CF (Ad 1)) (Bv 0) Cy (Av Lb (Ac (Ad 0) Ah)))) Ah)) A7) (fC (.str ")")) A7))))
def EE (EQ:Fn):M Out:=
 (AH (fIf (Az (fB (Ac (Ad 0) (Ac (fC (.ty "tuple")) Ah)) Co)) (Av EQ (Ac (Ad 0) Ah)) (fB (Ac (Ad 0) Ah) Fl)))
def Ef (FJ FK EO:Fn):M Out:=
 (Ap (DU (Av EO (Ac (Ad 0) Ah)))
 (Ap (Bf 1 (Av FK (Ac (Ad 0) (Ac (fC (.int 0)) (Ac (fC (.int 1)) Ah)))))
 (Ap (ifS (fOr (Az (Aj (Aj (Ad 1) (fC (.int 1)) ixD) (fB (Ac (Ad 0) Ah) BT) (eqS fun b=>!b))) (BX (Az (Av FJ (Ac (Aj (Ad 1) (fC (.int 0)) ixD) Ah)))))
   fail
   AU)
 (AH (Aj (Ad 1) (fC (.int 0)) ixD)))))
def Ee:M Out:=
 (ifS (BX (Az (fB (Ac (Ad 0) (Ac (fC (.ty "str")) Ah)) Co)))
   fail
   AU)
def EY (L:LamD) (Pt ln cl:Nat) (MC OG De:Fn):M Out:=
 (Ap (ifS (Az (Aj (Ad 2) (fC (.int 6)) gtA))
   fail
   AU)
 (Ap (Bf 3 (Av De (Ac (Ad 0) (Ac (Ad 1) (Ac (fC (.str "abcdefghijklmnopqrstuvwxyz")) Ah)))))
 (Ap (Bf 4 (fSl (Ad 0) (BW (Ad 1)) (BW (Ad 3)) Ca))
 (Ap (ifS (BX (Az (startsM (Ad 0) (Ac (fC (.str "(")) (Ac (Ad 3) Ah)))))
   (AH (BB (Ac (BB (Ac (Ad 4) Ah)) (Ac (Ad 3) Ah))))
   AU)
 (Ap (Bf 5 (Av OG (Ac (Ad 0) (Ac (Aj (Ad 3) (fC (.int 1)) A7) (Ac (fC (.str ")")) (Ac (Jj 0 Pt ln cl L [0,2]) Ah))))))
 (AH (BB (Ac (Av MC (Ac (Ad 4) (Ac (fB (Ac (Aj (Ad 5) (fC (.int 0)) ixD) Ah) Ha) Ah))) (Ac (Aj (Ad 5) (fC (.int 1)) ixD) Ah)))))))))
def EZ:M Out:=
 (AH (fIf (Az (Aj (Ad 0) (fC (.str "choice")) (eqS id))) (BB (Ac (Ad 0) (Ac (Ad 1) Ah))) (Aj (BB (Ac (Ad 0) Ah)) (Ad 1) A7)))
def FD (FK Fd De:Fn):M Out:=
 (Ap (Bf 3 (Aj (Av De (Ac (Ad 0) (Ac (Ad 1) (Ac (fC (.str "abcdefghijklmnopqrstuvwxyz")) Ah)))) (Ad 1) gtA))
 (AH (fIf (Az (Ad 3)) (Av FK (Ac (Ad 0) (Ac (Ad 1) (Ac (Ad 2) Ah)))) (Av Fd (Ac (Ad 0) (Ac (Ad 1) Ah))))))
def Go (L:LamD) (Rz:List D→Fn) (Jd:Fn):M Out:=
 (Ap (Bf 4 (FX 3 L Rz (Ac (Ad 1) Ah)))
 (Ap (G3 5 (Cu (Ac (Aj (Ad 4) (fC (.int 0)) ixD) Ah)))
 (Ap (IX (Az (startsM (Ad 0) (Ac (fC (.str ",")) (Ac (Aj (Ad 4) (fC (.int 1)) ixD) Ah))))
   (Ap (Bf 4 (FX 3 L Rz (Ac (Aj (Aj (Ad 4) (fC (.int 1)) ixD) (fC (.int 1)) A7) Ah)))
 (ownM 5 Dm (Ac (Aj (Ad 4) (fC (.int 0)) ixD) Ah))))
 (AH (BB (Ac (Ad 5) (Ac (Av Jd (Ac (Ad 0) (Ac (Aj (Ad 4) (fC (.int 1)) ixD) (Ac (Ad 2) Ah)))) Ah)))))))
def ED (De:Fn):M Out:=
 (Ap (Bf 2 (fIf (Az (startsM (Ad 0) (Ac (fC (.str "-")) (Ac (Ad 1) Ah)))) (Aj (Ad 1) (fC (.int 1)) A7) (Ad 1)))
 (Ap (Bf 3 (Av De (Ac (Ad 0) (Ac (Ad 2) (Ac (fC (.str "0123456789")) Ah)))))
 (Ap (ifS (BX (Az (CM (fC (.int 1)) (Aj (Ad 3) (Ad 2) Ew) (fC (.int 18)) leA leA)))
   fail
   AU)
 (Ap (Bf 4 (fB (Ac (fSl (Ad 0) (BW (Ad 1)) (BW (Ad 3)) Ca) Ah) Jl))
 (Ap (ifS (Az (Aj (fB (Ac (Ad 4) Ah) Fl) (fSl (Ad 0) (BW (Ad 1)) (BW (Ad 3)) Ca) (eqS fun b=>!b)))
   fail
   AU)
 (AH (BB (Ac (Ad 4) (Ac (Ad 3) Ah)))))))))
def DW:M Out:=
 (Ap (ifS (BX (Az (startsM (Ad 0) (Ac (Ad 2) (Ac (Ad 1) Ah)))))
   fail
   AU)
 (AH (Aj (Ad 1) (fC (.int 1)) A7)))
def Ed:M Out:=
 (Ap (Bf 3 (Ad 1))
 (Ap (IX (Em (Az (Aj (Ad 3) (fB (Ac (Ad 0) Ah) BT) ltA)) (Az (Aj (Aj (Ad 0) (Ad 3) ixD) (Ad 2) NV)))
   (Bf 3 (Aj (Ad 3) (fC (.int 1)) A7)))
 (AH (Ad 3))))
def DX (CI:Fn):M Out:=
 (Ap (Bf 1 (Aj (Ad 0) (fC (.int 0)) ixD))
 (Ap (ifS (Az (Aj (Ad 1) (fC (.str "nothing")) (eqS id)))
   (AH (Ad 1))
   AU)
 (Ap (ifS (Az (Aj (Ad 1) (fC (.str "list")) (eqS id)))
   (AH (Aj (Aj (Aj (Aj (fC (.str "list(")) (Av CI (Ac (Aj (Ad 0) (fC (.int 1)) ixD) Ah)) A7) (fC (.str ",")) A7) (fB (Ac (Aj (Ad 0) (fC (.int 2)) ixD) Ah) Fl) A7) (fC (.str ")")) A7))
   AU)
 (Ap (ifS (Az (Aj (Ad 1) (fC (.str "pair")) (eqS id)))
   (AH (Aj (Aj (Aj (Aj (fC (.str "pair(")) (Av CI (Ac (Aj (Ad 0) (fC (.int 1)) ixD) Ah)) A7) (fC (.str ",")) A7) (Av CI (Ac (Aj (Ad 0) (fC (.int 2)) ixD) Ah)) A7) (fC (.str ")")) A7))
   AU)
 (Ap (ifS (Az (Aj (Ad 1) (fC (.str "choice")) (eqS id)))
   (AH (Aj (Aj (fC (.str "choice(")) (joinW (fC (.str ",")) (Ac (Bo (Cz 1 [] (CF (Aj (Ad 0) (fC (.int 1)) ixD)) (Bv 0) Cy (Av CI (Ac (Ad 0) Ah)))) Ah)) A7) (fC (.str ")")) A7))
   AU)
 (AH (Aj (Aj (Aj (Ad 1) (fC (.str "(")) A7) (joinW (fC (.str ",")) (Ac (Bo (Cz 1 [] (CF (fSl (Ad 0) (BW (fC (.int 1))) fNo Ca)) (Bv 0) Cy (fB (Ac (Ad 0) Ah) Fl))) Ah)) A7) (fC (.str ")")) A7)))))))
def Iy (NO:Fn):M D:=
 (Av NO (Ac (Ad 1) (Ac (Ad 0) (Ac (Aj (Ad 2) (fC (.int 1)) A7) Ah))))
def Dr (MA:Fn):M Out:=
 (Ap (ifS (fOr (BX (Az (fB (Ac (Ad 0) (Ac (fC (.ty "list")) Ah)) GW))) (BX (Az (CM (fC (.int 1)) (fB (Ac (Ad 0) Ah) BT) (fC (.int 30)) leA leA))))
   (AH (fC (.bl false)))
   AU)
 (Ap (Fy (En (Ad 0)) (Bv 1)
   (ifS (BX (Az (Av MA (Ac (Ad 1) (Ac (fB (Ac (Ad 0) Ah) BT) Ah)))))
   (AH (fC (.bl false)))
   AU))
 (AH (fC (.bl true)))))
def DF (NN:Fn):M Out:=
 (Ap (ifS (fOr (BX (Az (fB (Ac (Ad 0) (Ac (fC (.ty "list")) Ah)) GW))) (BX (Az (CM (fC (.int 1)) (fB (Ac (Ad 0) Ah) BT) (fC (.int 9)) leA leA))))
   (AH (fC (.bl false)))
   AU)
 (Ap (Fy (En (Ad 0)) (Bv 2)
   (ifS (BX (Az (Av NN (Ac (Ad 2) (Ac (Ad 1) Ah)))))
   (AH (fC (.bl false)))
   AU))
 (AH (Aj (fB (Ac (Bo (DQ 1 [] (En (Ad 0)) (Bv 0) Cy (Aj (Ad 0) (fC (.int 0)) ixD))) Ah) F9) (fB (Ac (Ad 0) Ah) BT) (eqS id)))))
def DI (Kk:Fn):M Out:=
 (AH (joinW (fC (.str "; ")) (Ac (Bo (Cz 1 [] (CF (Ad 0)) (Bv 0) Cy (Av Kk (Ac (Ad 0) Ah)))) Ah)))
def Eh (Lc OF:Fn):M Out:=
 (Ap (ifS (Az (Av OF (Ac (Ad 0) Ah)))
   (AH (fC (.str "end")))
   AU)
 (AH (joinW (fC (.str " ")) (Ac (Aj (Bo (Cu (Ac (Aj (Ad 0) (fC (.int 0)) ixD) Ah))) (Bo (Cz 1 [] (CF (Aj (Ad 0) (fC (.int 1)) ixD)) (Bv 0) Cy (Av Lc (Ac (Ad 0) Ah)))) A7) Ah))))
def EF (EQ:Fn):M Out:=
 (AH (Aj (Aj (Aj (Aj (Aj (Ad 0) (fC (.int 0)) ixD) (fC (.str ":")) A7) (Av EQ (Ac (Aj (Ad 0) (fC (.int 1)) ixD) Ah)) A7) (fC (.str ">")) A7) (fB (Ac (Aj (Ad 0) (fC (.int 2)) ixD) Ah) Fl) A7))
def DH (Ki Kl EO:Fn):M Out:=
 (Ap (DU (Av EO (Ac (Ad 0) Ah)))
 (Ap (Bf 1 (FM (Cz 1 [] (CF (Bo (splitM (Ad 0) (Ac (fC (.str "; ")) Ah)))) (Bv 0) Cy (Av Kl (Ac (Ad 0) Ah)))))
 (Ap (ifS (BX (Az (Av Ki (Ac (Ad 1) Ah))))
   fail
   AU)
 (AH (Ad 1)))))
def Ei (Ld:Fn):M Out:=
 (Ap (ifS (Az (Aj (Ad 0) (fC (.str "end")) (eqS id)))
   (AH (BB (Ac (fC (.str "end")) Ah)))
   AU)
 (Ap (Bf 1 (Bo (splitM (Ad 0) (Ac (fC (.str " ")) Ah))))
 (AH (BB (Ac (Aj (Ad 1) (fC (.int 0)) ixD) (Ac (FM (Cz 1 [] (CF (fSl (Ad 1) (BW (fC (.int 1))) fNo Ca)) (Bv 0) Cy (Av Ld (Ac (Ad 0) Ah)))) Ah))))))
def EG (Je Kj:Fn):M Out:=
 (Ap (Bf 1 (partM Txt.partition (Ad 0) (Ac (fC (.str ":")) Ah)))
 (Ap (Bf 2 (partM Txt.rpartition (Aj (Ad 1) (fC (.int 2)) ixD) (Ac (fC (.str ">")) Ah)))
 (AH (BB (Ac (Aj (Ad 1) (fC (.int 0)) ixD) (Ac (Av Kj (Ac (Aj (Ad 2) (fC (.int 0)) ixD) Ah)) (Ac (Av Je (Ac (Aj (Ad 2) (fC (.int 2)) ixD) Ah)) Ah)))))))
def DY (Fd:Fn):M Out:=
 (Ap (Bf 1 (Av Fd (Ac (Ad 0) (Ac (fC (.int 0)) Ah))))
 (Ap (ifS (Az (Aj (Aj (Ad 1) (fC (.int 1)) ixD) (fB (Ac (Ad 0) Ah) BT) (eqS fun b=>!b)))
   fail
   AU)
 (AH (Aj (Ad 1) (fC (.int 0)) ixD))))
def CO (A5 CH Dv:Fn):M Out:=
 (Ap (Bf 4 (Bo (Cu (Ac (fC (.str "a")) (Ac (fC (.str "ab")) (Ac (fC (.str "b")) (Ac (fC (.str "hello")) (Ac (fC (.str "end")) (Ac (fC (.str "left")) (Ac (fC (.str "right")) (Ac (fC (.str "zzzzzzzz")) (Ac (fC (.str "list")) (Ac (fC (.str "nothing")) (Ac (fC (.str "x")) (Ac (fC (.str "say")) Ah)))))))))))))))
 (Ap (Bf 5 (FM (Cu Ah)))
 (Ap (Dx (D9 (Ac (Ad 2) Ah)) (Bv 6)
   (Ap (Bf 7 (Av Dv (Ac (Ad 0) (Ac (Aj (Ad 1) (Ad 6) A7) Ah))))
 (ifS (Az (Aj (Av A5 (Ac (Ad 7) (Ac (fC (.int 4)) Ah))) (fC (.int 0)) (eqS id)))
   (DU (objM Dm (Ad 5) (Ac (BB (Ac (fC (.str "end")) Ah)) Ah)))
   (Ap (Bf 8 (Aj (Bo (Cu (Ac (fC (.str "left")) (Ac (fC (.str "right")) Ah)))) (Av A5 (Ac (Ad 7) (Ac (fC (.int 2)) Ah))) ixD))
 (Ap (Bf 9 (Av A5 (Ac (Ad 7) (Ac (fC (.int 12)) Ah))))
 (Ap (Bf 10 (FM (Cu Ah)))
 (Ap (Dx (D9 (Ac (Aj (Bo (Cu (Ac (fC (.int 1)) (Ac (fC (.int 2)) (Ac (fC (.int 3)) (Ac (fC (.int 9)) Ah)))))) (Av A5 (Ac (Ad 7) (Ac (fC (.int 4)) Ah))) ixD) Ah)) (Bv 11)
   (DU (objM Dm (Ad 10) (Ac (BB (Ac (Aj (Ad 4) (Aj (Aj (Ad 9) (Aj (fC (.int 5)) (Ad 11) Js) A7) (fC (.int 12)) FR) ixD) (Ac (Av CH (Ac (Ad 7) (Ac (Ad 3) Ah))) (Ac (Av A5 (Ac (Ad 7) (Ac (Ad 2) Ah))) Ah)))) Ah))))
 (DU (objM Dm (Ad 5) (Ac (BB (Ac (Ad 8) (Ac (Ad 10) Ah))) Ah))))))))))
 (AH (Ad 5)))))
def CA (CI:Fn):M Out:=
 (Ap (ifS (Az (Aj (Aj (Ad 0) (fC (.int 0)) ixD) (fC (.str "end")) (eqS id)))
   (AH (fC (.str "end")))
   AU)
 (Ap (Bf 1 (Bo (DQ 3 [] (En (Aj (Ad 0) (fC (.int 1)) ixD)) (unS 3 (C7 (Bv 0) (C7 (Bv 1) (C7 (Bv 2) G7)))) Cy (Aj (Aj (Aj (Aj (Ad 0) (fC (.str ":")) A7) (Av CI (Ac (Ad 1) Ah)) A7) (fC (.str ">")) A7) (fB (Ac (Ad 2) Ah) Fl) A7))))
 (AH (joinW (fC (.str " ")) (Ac (Aj (Bo (Cu (Ac (Aj (Ad 0) (fC (.int 0)) ixD) Ah))) (Ad 1) A7) Ah)))))
def Da:M Out:=
 (Ap (ifS (BX (Az (fB (Ac (Ad 0) (Ac (fC (.ty "list")) Ah)) GW)))
   (AH (fC (.bl false)))
   AU)
 (Ap (Fy (En (Ad 0)) (Bv 1)
   (Ap (ifS (fOr (BX (Az (fB (Ac (Ad 1) (Ac (fC (.ty "tuple")) Ah)) Co))) (BX (Az (fB (Ac (Aj (Ad 1) (fC (.int 0)) ixD) (Ac (fC (.ty "str")) Ah)) Co))))
   (AH (fC (.bl false)))
   AU)
 (Dx (CF (fSl (Bo (fBF (Ac (fSl (Ad 1) (BW (fC (.int 1))) (BW (fC (.int 2))) Ca) Ah) FQ)) (BW (fC (.int 0))) (BW (fC (.int 1))) Ca)) (Bv 2)
   (Ap (ifS (fOr (BX (Az (fB (Ac (Ad 2) (Ac (fC (.ty "list")) Ah)) GW))) (Az (Aj (Bo (DQ 1 [] (En (Ad 2)) (Bv 0) (BX (Az (fB (Ac (Ad 0) (Ac (fC (.ty "tuple")) Ah)) Co))) (Ad 0))) (Bo (Cu Ah)) (eqS fun b=>!b))))
   (AH (fC (.bl false)))
   AU)
 (ifS (Az (Aj (Bo (DQ 1 [] (En (Ad 2)) (Bv 0) (Az (fB (Ac (Aj (Ad 0) (fC (.int 2)) ixD) (Ac (fC (.ty "bool")) Ah)) Co)) (Ad 0))) (Bo (Cu Ah)) (eqS fun b=>!b)))
   (AH (fC (.bl false)))
   AU)))))
 (AH (fC (.bl true)))))
def DG:M Out:=
 (Ap (G3 1 (Cu Ah))
 (Ap (Fy (En (Ad 0)) (Bv 2)
   (Dx (CF (fSl (Ad 2) (BW (fC (.int 1))) fNo Ca)) (Bv 3)
   (ownM 1 Dm (Ac (fB (Ac (Ad 3) Ah) BT) Ah))))
 (AH (Ad 1))))
def EK (Ft Fu FV Kh GI Dv A5 Ie:Fn):M Out:=
 (Ap (Bf 1 (Aj (fC (.int 1)) (Av A5 (Ac (Av Dv (Ac (Ad 0) (Ac (fC (.int 1)) Ah))) (Ac (fC (.int 30)) Ah))) A7))
 (Ap (Bf 2 (Av Ie (Ac (Ad 0) (Ac (fC (.int 2)) (Ac (Ad 1) (Ac (fC (.int 2)) Ah))))))
 (Ap (Bf 3 (Av Dv (Ac (Ad 0) (Ac (fC (.int 0)) Ah))))
 (Ap (Dx (D9 (Ac (Ad 1) Ah)) (Bv 4)
   (ifS (Em (Az (Aj (fB (Ac (Aj (Ad 2) (Ad 4) ixD) Ah) BT) (fC (.int 2)) (eqS id))) (Az (Aj (Av A5 (Ac (Ad 3) (Ac (fC (.int 8)) Ah))) (fC (.int 0)) (eqS id))))
   (Ap (FI (Aj (Aj (Aj (Ad 2) (Ad 4) ixD) (fC (.int 1)) ixD) (fC (.int 0)) ixD) (unS 3 (C7 (Bv 5) (C7 (Bv 6) (C7 (Bv 7) G7)))))
 (Ap (Dx (D9 (Ac (fC (.int 3)) Ah)) (Bv 8)
   (Bf 6 (Aj (Bo (Cu (Ac (BB (Ac (fC (.str "list")) (Ac (Ad 6) (Ac (fC (.int 250)) Ah)))) (Ac (BB (Ac (fC (.str "pair")) (Ac (Ad 6) (Ac (BB (Ac (fC (.str "nothing")) Ah)) Ah)))) Ah)))) (Av A5 (Ac (Ad 3) (Ac (fC (.int 2)) Ah))) ixD)))
 (FI (BB (Ac (Ad 5) (Ac (Ad 6) (Ac (Ad 7) Ah)))) (stD (Aj (Aj (Ad 2) (Ad 4) ixD) (fC (.int 1)) ixD) (fC (.int 0))))))
   AU))
 (Ap (ifS (Em (Az (Aj (Ad 1) (fC (.int 1)) gtA)) (Az (Aj (Av A5 (Ac (Av Dv (Ac (Ad 0) (Ac (fC (.int 1)) Ah))) (Ac (fC (.int 62)) Ah))) (fC (.int 31)) ltA)))
   (FI (Aj (Ad 2) (fC (.int 0)) ixD) (stD (Ad 2) (Aj (Ad 1) (fC (.int 1)) Ew)))
   AU)
 (Ap (Bf 9 (joinW (fC (.str "; ")) (Ac (Bo (DQ 1 [] (En (Ad 2)) (Bv 0) Cy (Av GI (Ac (Ad 0) Ah)))) Ah)))
 (Ap (Bf 10 (Bo (DQ 1 [] (En (Ad 2)) (Bv 0) Cy (Aj (BB (Ac (Aj (Ad 0) (fC (.int 0)) ixD) Ah)) (fB (Ac (Bo (Cz 1 [] (CF (fSl (Ad 0) (BW (fC (.int 1))) fNo Ca)) (Bv 0) Cy (Bo (fBF (Ac (Ad 0) Ah) FQ)))) Ah) Ha) A7))))
 (Ap (Bf 11 (Av Fu (Ac (Ad 10) Ah)))
 (Ap (ifS (fOr (BX (Az (fB (Ac (Ad 11) (Ac (fC (.ty "str")) Ah)) Co))) (fOr (Az (Aj (Ad 11) (Ad 9) (eqS fun b=>!b))) (Az (Aj (Ad 10) (Ad 2) (eqO fun b=>!b)))))
   (AH (fC (.bl false)))
   AU)
 (Ap (Bf 12 (Av Ft (Ac (Ad 9) Ah)))
 (Ap (ifS (fOr (Az (Aj (Ad 12) (Ad 2) (eqO fun b=>!b))) (BX (Az (Av Kh (Ac (Ad 12) Ah)))))
   (AH (fC (.bl false)))
   AU)
 (Ap (Fy (En (Ad 12)) (Bv 13)
   (Dx (CF (fSl (Ad 13) (BW (fC (.int 1))) fNo Ca)) (Bv 14)
   (DU (objM Dm (Ad 14) (Ac (BB (Ac (fC (.str "q")) (Ac (BB (Ac (fC (.str "nothing")) Ah)) (Ac (fC (.int 0)) Ah)))) Ah)))))
 (Ap (ifS (Az (Aj (Av FV (Ac (Ad 12) Ah)) (Bo (Cz 1 [] (CF (Av FV (Ac (Ad 2) Ah))) (Bv 0) Cy (Aj (fC (.int 1)) (Ad 0) A7))) (eqS fun b=>!b)))
   (AH (fC (.bl false)))
   AU)
 (Ap (DU (objM Dm (Ad 12) (Ac (BB (Ac (fC (.str "end")) Ah)) Ah)))
 (AH (D8 (Aj (Av Ft (Ac (Ad 9) Ah)) (Ad 2) (eqO id)) (Aj (Av Fu (Ac (Ad 10) Ah)) (Ad 9) (eqS id))))))))))))))))))
end LW
namespace F2
open PySem L2
def W {α:Type} (m:M α) (t:T) (P:α→T→Prop):Prop:=∃a t',m t=some (a,t')∧P a t'
def Wf (g:Fn) (ds:List D) (S:List Ob) (P:D→List Ob→Prop):Prop:=∃r S',g ds S=some (r,S')∧P r S'
theorem W.mono {α:Type} {m:M α} {t:T} {P Q:α→T→Prop} (h:W m t P) (i:∀a t',P a t'→Q a t'):W m t Q:=by
 obtain ⟨a,t',e,p⟩:=h
 exact ⟨a,t',e,i a t' p⟩
theorem Wf.mono {g:Fn} {ds:List D} {S:List Ob} {P Q:D→List Ob→Prop} (h:Wf g ds S P) (i:∀r S',P r S'→Q r S'):Wf g ds S Q:=by
 obtain ⟨a,t',e,p⟩:=h
 exact ⟨a,t',e,i a t' p⟩
section
variable {α β:Type}
theorem AO {m:M α} {t:T} {P:α→T→Prop} {a:α} {t':T} (e:m t=some (a,t')):W m t P↔P a t':=by
 constructor
 ·rintro ⟨a',t1,e',p⟩;rw [e] at e';cases e';exact p
 ·exact fun p=>⟨a,t',e,p⟩
theorem DP {m:M α} {t:T} {P:α→T→Prop} (e:m t=none):W m t P↔False:=by
 constructor
 ·rintro ⟨a',t1,e',p⟩;rw [e] at e';cases e'
 ·exact False.elim
@[simp] theorem W_ret {a:α} {t:T} {P:α→T→Prop}:W (ret a) t P↔P a t:=AO rfl
@[simp] theorem W_fail {t:T} {P:α→T→Prop}:W (fail:M α) t P↔False:=DP rfl
@[simp] theorem W_bnd {f:M α} {g:α→M β} {t:T} {P:β→T→Prop}:W (bnd f g) t P↔W f t fun a t1=>W (g a) t1 P:=by
 constructor
 ·rintro ⟨b,t',e,p⟩
  obtain ⟨a,t1,e1,e2⟩:=Am e
  exact ⟨a,t1,e1,b,t',e2,p⟩
 ·rintro ⟨a,t1,e1,b,t',e2,p⟩
  exact ⟨b,t',by unfold bnd;rw [e1];exact e2,p⟩
@[simp] theorem Rx {c:Prop} [Decidable c] {f g:M α} {t:T} {P:α→T→Prop}:W (if c then f else g) t P↔if c then W f t P else W g t P:=by split <;> rfl
@[simp] theorem Yt {n:Nat} {a:α} {t:T} {P:α→T→Prop}:W (lim n a) t P↔n≤LIM∧P a t:=by
 unfold lim
 constructor
 ·rintro ⟨a',t',e,p⟩
  split at e
  ·cases e;exact ⟨by assumption,p⟩
  ·cases e
 ·rintro ⟨h,p⟩
  exact ⟨a,t,by simp only [h,if_true],p⟩
end
variable {t:T} {env:List (Option Sl)} {S:List Ob}
@[simp] theorem W_fC {d:D} {P:D→T→Prop}:W (fC d) t P↔P d t:=AO rfl
@[simp] theorem OB {i:Nat} {P:D→T→Prop}:W (Ad i) t P↔match t.env[i]? with
 | some (some (.val d))=>P d t
 | some (some (.own ds))=>P (.lst ds) ⟨t.env.set i (some (.val (.lst ds))),t.S⟩
 | _=>False:=by
 cases e:t.env[i]? with
 | none=>exact DP (by unfold Ad;simp [e])
 | some o=>
   cases o with
   | none=>exact DP (by unfold Ad;simp [e])
   | some sl=>
     cases sl with
     | val d=>exact AO (by unfold Ad;simp [e])
     | own ds=>exact AO (by unfold Ad;simp [e])
@[simp] theorem W_fBin {f g:M D} {h:D→D→M D} {P:D→T→Prop}:W (Aj f g h) t P↔W f t fun x t1=>W g t1 fun y t2=>W (h x y) t2 P:=by simp [Aj]
@[simp] theorem W_fUn {f:M D} {h:D→M D} {P:D→T→Prop}:W (fUn f h) t P↔W f t fun x t1=>W (h x) t1 P:=by simp [fUn]
@[simp] theorem W_toB {b:Bool} {P:Bool→T→Prop}:W (toB (.bl b)) t P↔P b t:=AO rfl
@[simp] theorem W_fTst {f:M D} {P:Bool→T→Prop}:W (Az f) t P↔W f t fun x t1=>W (toB x) t1 P:=by simp [Az]
@[simp] theorem W_fChain {f g w:M D} {h h':D→D→M D} {P:D→T→Prop}:W (CM f g w h h') t P↔W f t fun x t1=>W g t1 fun y t2=>W (h x y) t2 fun k t3=>W (toB k) t3 fun k t4=>if k=true then W w t4 fun z t5=>W (h' y z) t5 P else P (.bl false) t4:=by
 simp [CM]
@[simp] theorem W_fAnd {f g:M Bool} {P:Bool→T→Prop}:W (Em f g) t P↔W f t fun k t1=>if k=true then W g t1 P else P false t1:=by simp [Em]
@[simp] theorem W_fOr {f g:M Bool} {P:Bool→T→Prop}:W (fOr f g) t P↔W f t fun k t1=>if k=true then P true t1 else W g t1 P:=by simp [fOr]
@[simp] theorem W_fNot {f:M Bool} {P:Bool→T→Prop}:W (BX f) t P↔W f t fun k t1=>P (!k) t1:=by simp [BX]
@[simp] theorem W_fAndV {f g:M D} {P:D→T→Prop}:W (D8 f g) t P↔W f t fun x t1=>W (toB x) t1 fun k t2=>if k=true then W g t2 P else P (.bl false) t2:=by simp [D8]
@[simp] theorem Yh {f g:M D} {P:D→T→Prop}:W (UD f g) t P↔W f t fun x t1=>W (toB x) t1 fun k t2=>if k=true then P (.bl true) t2 else W g t2 P:=by simp [UD]
@[simp] theorem W_fNotV {f:M D} {P:D→T→Prop}:W (Im f) t P↔W f t fun x t1=>W (toB x) t1 fun k t2=>P (.bl (!k)) t2:=by simp [Im]
@[simp] theorem W_fIf {f:M Bool} {g h:M D} {P:D→T→Prop}:W (fIf f g h) t P↔W f t fun k t1=>if k=true then W g t1 P else W h t1 P:=by simp [fIf]
@[simp] theorem W_fNil {P:List D→T→Prop}:W Ah t P↔P [] t:=AO rfl
@[simp] theorem W_fCons {f:M D} {g:M (List D)} {P:List D→T→Prop}:W (Ac f g) t P↔W f t fun d t1=>W g t1 fun ds t2=>P (d :: ds) t2:=by simp [Ac]
@[simp] theorem W_fTup {f:M (List D)} {P:D→T→Prop}:W (BB f) t P↔W f t fun ds t1=>ds.length≤LIM∧P (.tup ds) t1:=by simp [BB]
@[simp] theorem W_fLst {f:M (List D)} {P:List D→T→Prop}:W (Cu f) t P↔W f t fun ds t1=>ds.length≤LIM∧P ds t1:=by simp [Cu]
@[simp] theorem W_fPure {f:M (List D)} {P:D→T→Prop}:W (Bo f) t P↔W f t fun ds t1=>P (.lst ds) t1:=by simp [Bo]
@[simp] theorem W_newOb {o:Ob} {P:D→T→Prop}:W (N7 o) t P↔P (.obj t.S.length) ⟨t.env,t.S++[o]⟩:=AO rfl
@[simp] theorem Uu {f:M (List D)} {P:D→T→Prop}:W (FM f) t P↔W f t fun ds t1=>W (N7 (.lst ds)) t1 P:=by simp [FM]
@[simp] theorem W_fCall {g:Fn} {f:M (List D)} {P:D→T→Prop}:W (Av g f) t P↔W f t fun ds t1=>Wf g ds t1.S fun r S'=>P r ⟨t1.env,S'⟩:=by
 unfold Av
 rw [W_bnd]
 constructor
 ·rintro ⟨ds,t1,e1,r,t',e2,p⟩
  refine ⟨ds,t1,e1,?_⟩
  dsimp only at e2
  cases e:g ds t1.S with
  | none=>rw [e] at e2;cases e2
  | some z=>obtain ⟨r',S'⟩:=z;rw [e] at e2;cases e2;exact ⟨r,_,e,p⟩
 ·rintro ⟨ds,t1,e1,r,S',e2,p⟩
  exact ⟨ds,t1,e1,r,_,by simp only [e2],p⟩
@[simp] theorem W_fB {f:M (List D)} {h:List D→M D} {P:D→T→Prop}:W (fB f h) t P↔W f t fun ds t1=>W (h ds) t1 P:=by simp [fB]
@[simp] theorem W_fBF {f:M (List D)} {h:List D→M (List D)} {P:List D→T→Prop}:W (fBF f h) t P↔W f t fun ds t1=>W (h ds) t1 P:=by simp [fBF]
@[simp] theorem W_seqS {f g:M Out} {P:Out→T→Prop}:W (Ap f g) t P↔W f t fun o t1=>match o with
 | .next=>W g t1 P
 | .brk=>P .brk t1
 | .cont=>P .cont t1
 | .ret d=>P (.ret d) t1:=by
 unfold Ap
 constructor
 ·rintro ⟨o,t',e,p⟩
  dsimp only at e
  cases e1:f t with
  | none=>rw [e1] at e;cases e
  | some z=>
    obtain ⟨o1,t1⟩:=z
    rw [e1] at e
    refine ⟨o1,t1,e1,?_⟩
    cases o1 with
    | next=>exact ⟨o,t',e,p⟩
    | brk=>cases e;exact p
    | cont=>cases e;exact p
    | ret d=>cases e;exact p
 ·rintro ⟨o,t1,e,p⟩
  cases o with
  | next=>obtain ⟨o,t',e',p⟩:=p;exact ⟨o,t',by simp only [e];exact e',p⟩
  | brk=>exact ⟨_,_,by simp only [e],p⟩
  | cont=>exact ⟨_,_,by simp only [e],p⟩
  | ret d=>exact ⟨_,_,by simp only [e],p⟩
@[simp] theorem W_skipS {P:Out→T→Prop}:W AU t P↔P .next t:=AO rfl
@[simp] theorem W_retS {f:M D} {P:Out→T→Prop}:W (AH f) t P↔W f t fun d t1=>P (.ret d) t1:=by simp [AH]
@[simp] theorem W_dropS {f:M D} {P:Out→T→Prop}:W (DU f) t P↔W f t fun d t1=>P .next t1:=by simp [DU]
@[simp] theorem W_ifS {f:M Bool} {g h:M Out} {P:Out→T→Prop}:W (ifS f g h) t P↔W f t fun k t1=>if k=true then W g t1 P else W h t1 P:=by simp [ifS]
@[simp] theorem W_putV {i:Nat} {d:D} {P:Unit→T→Prop}:W (Bv i d) t P↔P () ⟨t.env.set i (some (.val d)),t.S⟩:=AO rfl
@[simp] theorem W_setS {i:Nat} {f:M D} {P:Out→T→Prop}:W (Bf i f) t P↔W f t fun d t1=>P .next ⟨t1.env.set i (some (.val d)),t1.S⟩:=by
 simp only [Bf,W_bnd,W_ret,W_putV]
@[simp] theorem W_ownS {i:Nat} {f:M (List D)} {P:Out→T→Prop}:W (G3 i f) t P↔W f t fun ds t1=>P .next ⟨t1.env.set i (some (.own ds)),t1.S⟩:=by
 unfold G3;rw [W_bnd]
 have:∀(ds:List D) (t1:T),W (fun t:T=>some (Out.next,({ t with env:=t.env.set i (some (.own ds)) }:T))) t1 P↔P .next ⟨t1.env.set i (some (.own ds)),t1.S⟩:=fun ds t1=>AO rfl
 simp only [this]
@[simp] theorem W_asgS {f:M D} {g:D→M Unit} {P:Out→T→Prop}:W (FI f g) t P↔W f t fun d t1=>W (g d) t1 fun _ t2=>P .next t2:=by simp [FI]
@[simp] theorem W_putNil {P:Unit→T→Prop}:W (G7 []) t P↔P () t:=AO rfl
@[simp] theorem W_putCons {f:D→M Unit} {g:List D→M Unit} {d:D} {ds:List D} {P:Unit→T→Prop}:W (C7 f g (d :: ds)) t P↔W (f d) t fun _ t1=>W (g ds) t1 P:=by simp [C7]
@[simp] theorem W1 {n:Nat} {g:List D→M Unit} {ds:List D} {P:Unit→T→Prop}:W (unS n g (.lst ds)) t P↔ds.length=n∧W (g ds) t P:=by
 unfold unS;simp only [Rx,W_fail];split <;> simp [*]
@[simp] theorem W_unS_tup {n:Nat} {g:List D→M Unit} {ds:List D} {P:Unit→T→Prop}:W (unS n g (.tup ds)) t P↔ds.length=n∧W (g ds) t P:=by
 unfold unS;simp only [Rx,W_fail];split <;> simp [*]
@[simp] theorem W_forS {f:M (List D)} {st:D→M Unit} {b:M Out} {P:Out→T→Prop}:W (Dx f st b) t P↔W f t fun ds t1=>W (Dn st b ds) t1 P:=by simp [Dx]
@[simp] theorem W_forL_nil {st:D→M Unit} {b:M Out} {P:Out→T→Prop}:W (Dn st b []) t P↔P .next t:=AO rfl
theorem W_forL_cons {st:D→M Unit} {b:M Out} {d:D} {r:List D} {P:Out→T→Prop}:W (Dn st b (d :: r)) t P↔W (st d) t fun _ t1=>W b t1 fun o t2=>match o with
 | .next=>W (Dn st b r) t2 P
 | .cont=>W (Dn st b r) t2 P
 | .brk=>P .next t2
 | .ret x=>P (.ret x) t2:=by
 constructor
 ·rintro ⟨o,t',e,p⟩
  unfold Dn at e
  cases e1:st d t with
  | none=>rw [e1] at e;cases e
  | some z=>
    obtain ⟨u,t1⟩:=z
    rw [e1] at e
    try dsimp only at e
    refine ⟨u,t1,e1,?_⟩
    cases e2:b t1 with
    | none=>rw [e2] at e;cases e
    | some z=>
      obtain ⟨o2,t2⟩:=z
      rw [e2] at e
      try dsimp only at e
      refine ⟨o2,t2,e2,?_⟩
      cases o2 with
      | next=>exact ⟨o,t',e,p⟩
      | cont=>exact ⟨o,t',e,p⟩
      | brk=>cases e;exact p
      | ret x=>cases e;exact p
 ·rintro ⟨u,t1,e1,o,t2,e2,p⟩
  cases o with
  | next=>obtain ⟨o,t',e',p⟩:=p;exact ⟨o,t',by unfold Dn;simp only [e1,e2];exact e',p⟩
  | cont=>obtain ⟨o,t',e',p⟩:=p;exact ⟨o,t',by unfold Dn;simp only [e1,e2];exact e',p⟩
  | brk=>exact ⟨_,_,by unfold Dn;simp only [e1,e2],p⟩
  | ret x=>exact ⟨_,_,by unfold Dn;simp only [e1,e2],p⟩
theorem Ez {st:D→M Unit} {b:M Out} {P:Out→T→Prop} (I:List D→T→Prop):∀(ds:List D) (t:T),I ds t→
 (∀d r t,I (d :: r) t→d∈ds→W (st d) t fun _ t1=>W b t1 fun o t2=>match o with
   | .next=>I r t2
   | .cont=>I r t2
   | .brk=>P .next t2
   | .ret x=>P (.ret x) t2)→(∀t,I [] t→P .next t)→W (Dn st b ds) t P
 | [],t,h,_,fin=>W_forL_nil.mpr (fin t h)
 | d :: r,t,h,turn,fin=>by
   rw [W_forL_cons]
   refine (turn d r t h List.mem_cons_self).mono fun _ t1 h1=>h1.mono fun o t2 h2=>?_
   cases o with
   | next=>exact Ez I r t2 h2 (fun d' r' t' h' m=>turn d' r' t' h' (List.mem_cons_of_mem _ m)) fin
   | cont=>exact Ez I r t2 h2 (fun d' r' t' h' m=>turn d' r' t' h' (List.mem_cons_of_mem _ m)) fin
   | brk=>exact h2
   | ret x=>exact h2
@[simp] theorem W_fComp {n:Nat} {fr:List Nat} {f:M (List D)} {st:D→M Unit} {tst:M Bool} {elt:M D} {P:List D→T→Prop}:W (Cz n fr f st tst elt) t P↔W f t fun ds t1=>W (CU st tst elt ds) ⟨cenv n fr t1.env,t1.S⟩ fun xs t'=>xs.length≤LIM∧P xs ⟨t1.env,t'.S⟩:=by
 unfold Cz
 rw [W_bnd]
 constructor
 ·rintro ⟨ds,t1,e1,xs,t',e2,p⟩
  refine ⟨ds,t1,e1,?_⟩
  dsimp only at e2
  cases e:CU st tst elt ds ⟨cenv n fr t1.env,t1.S⟩ with
  | none=>rw [e] at e2;cases e2
  | some z=>
    obtain ⟨ys,t3⟩:=z
    rw [e] at e2
    dsimp only at e2
    split at e2
    ·cases e2;exact ⟨_,_,e,by assumption,p⟩
    ·cases e2
 ·rintro ⟨ds,t1,e1,xs,t',e2,h,p⟩
  exact ⟨ds,t1,e1,xs,_,by simp only [e2,h,if_true],p⟩
@[simp] theorem W_compL_nil {st:D→M Unit} {tst:M Bool} {elt:M D} {P:List D→T→Prop}:W (CU st tst elt []) t P↔P [] t:=AO rfl
theorem GM {st:D→M Unit} {tst:M Bool} {elt:M D} {d:D} {r:List D} {P:List D→T→Prop}:W (CU st tst elt (d :: r)) t P↔W (st d) t fun _ t1=>W tst t1 fun k t2=>
 if k=true then W elt t2 fun x t3=>W (CU st tst elt r) t3 fun xs t4=>P (x :: xs) t4 else W (CU st tst elt r) t2 P:=by
 rw [CU];simp
theorem GL {st:D→M Unit} {tst:M Bool} {elt:M D} {P:List D→T→Prop} (I:List D→List D→T→Prop):∀(ds:List D) (acc:List D) (t:T),I acc ds t→
 (∀acc d r t,I acc (d :: r) t→d∈ds→W (st d) t fun _ t1=>W tst t1 fun k t2=>if k=true then W elt t2 fun x t3=>I (acc++[x]) r t3 else I acc r t2)→
 (∀acc t,I acc [] t→P acc t)→W (CU st tst elt ds) t fun xs t'=>P (acc++xs) t'
 | [],acc,t,h,_,fin=>W_compL_nil.mpr (by rw [List.append_nil];exact fin acc t h)
 | d :: r,acc,t,h,turn,fin=>by
   rw [GM]
   have turn':∀acc d' r' t',I acc (d' :: r') t'→d'∈r→_:=fun acc d' r' t' h' m=>turn acc d' r' t' h' (List.mem_cons_of_mem _ m)
   refine (turn acc d r t h List.mem_cons_self).mono fun _ t1 h1=>h1.mono fun k t2 h2=>?_
   cases k with
   | true=>
     rw [if_pos rfl] at h2 ⊢
     refine h2.mono fun x t3 h3=>(GL I r (acc++[x]) t3 h3 turn' fin).mono fun xs t4 h4=>?_
     rw [List.append_assoc] at h4
     exact h4
   | false=>
     rw [if_neg Bool.false_ne_true] at h2 ⊢
     exact GL I r acc t2 h2 turn' fin
theorem AX {n m:Nat} {g:M Out} {ds:List D} {P:D→List Ob→Prop} (h:ds.length=n) (w:W g ⟨env0 m ds,S⟩ fun o t=>match o with
 | .ret r=>P r t.S
 | .next=>P .non t.S
 | _=>False):Wf (fnOf n m g) ds S P:=by
 obtain ⟨o,t,e,p⟩:=w
 cases o with
 | ret r=>exact ⟨r,t.S,by unfold fnOf;rw [if_pos h,e],p⟩
 | next=>exact ⟨.non,t.S,by unfold fnOf;rw [if_pos h,e],p⟩
 | brk=>exact p.elim
 | cont=>exact p.elim
@[simp] theorem W_tTru {P:Bool→T→Prop}:W Cy t P↔P true t:=AO rfl
@[simp] theorem Yg {P:D→T→Prop}:W Xd t P↔P .dic t:=AO rfl
end F2
namespace F2
open PySem L2
variable {t:T} {P:D→T→Prop}
theorem KC {α β:Type} {o:Option β} {g:β→α×T} {Q:α→T→Prop} {m:M α} (e:m t=o.map g):W m t Q↔∃b,o=some b∧Q (g b).1 (g b).2:=by
 constructor
 ·rintro ⟨a,t',e',p⟩
  rw [e] at e'
  obtain ⟨b,h1,h2⟩:=Option.map_eq_some_iff.mp e'
  exact ⟨b,h1,by rw [h2];exact p⟩
 ·rintro ⟨b,h,p⟩
  exact ⟨_,_,by rw [e,h];rfl,p⟩
theorem NG {α:Type} {c:Prop} [Decidable c] {z:α×T} {Q:α→T→Prop} {m:M α} (e:m t=if c then some z else none):W m t Q↔c∧Q z.1 z.2:=by
 constructor
 ·rintro ⟨a,t',e',p⟩
  rw [e] at e'
  split at e'
  ·cases e';exact ⟨by assumption,p⟩
  ·cases e'
 ·rintro ⟨h,p⟩
  exact ⟨_,_,by rw [e,if_pos h],p⟩
theorem OC {α β:Type} {o:Option β} (f:β→α) {Q:α→T→Prop} {m:M α} (e:m t=o.map fun b=>(f b,t)):W m t Q↔∃b,o=some b∧Q (f b) t:=KC (g:=fun b=>(f b,t)) e
theorem Ic {α:Type} {c:Prop} [Decidable c] {a:α} {Q:α→T→Prop} {m:M α} (e:m t=if c then some (a,t) else none):W m t Q↔c∧Q a t:=NG (z:=(a,t)) e
@[simp] theorem W_ix_tup {ds:List D} {i:Int}:W (ixD (.tup ds) (.int i)) t P↔∃d,atI ds i=some d∧P d t:=OC id rfl
@[simp] theorem W_ix_lst {ds:List D} {i:Int}:W (ixD (.lst ds) (.int i)) t P↔∃d,atI ds i=some d∧P d t:=OC id rfl
@[simp] theorem W_ix_obj {k:Nat} {i:Int}:W (ixD (.obj k) (.int i)) t P↔∃ds,t.S[k]?=some (.lst ds)∧∃d,atI ds i=some d∧P d t:=by
 cases e:t.S[k]? with
 | none=>rw [DP (by simp only [ixD,e])];simp
 | some o=>
   cases o with
   | dct _ | ins _ _ | tab _ _ _ _ | fn _ _=>rw [DP (by simp only [ixD,e])];simp
   | lst ds=>
     have:ixD (.obj k) (.int i) t=(atI ds i).map fun d=>(d,t):=by simp only [ixD,e]
     rw [KC this];simp
@[simp] theorem KG {α:Type} {a:α} {r:List α}:atI (a :: r) 0=some a:=by simp [atI,ixN]
@[simp] theorem NJ {α:Type} {a b:α} {r:List α}:atI (a :: b :: r) 1=some b:=by
 have:(1:Int) < ((a :: b :: r).length:Nat):=by simp;lia
 simp only [atI,ixN,this,if_true,show (0:Int)≤1 by decide];rfl
@[simp] theorem NK {α:Type} {a b c:α} {r:List α}:atI (a :: b :: c :: r) 2=some c:=by
 have:(2:Int) < ((a :: b :: c :: r).length:Nat):=by simp;lia
 simp only [atI,ixN,this,if_true,show (0:Int)≤2 by decide];rfl
theorem Sr {α:Type} {xs:List α} {i:Int} (h0:0≤i) (h1:i < xs.length):∃d,atI xs i=some d∧d∈xs∧xs[i.toNat]?=some d:=by
 have hl:i.toNat < xs.length:=by lia
 refine ⟨xs[i.toNat],?_,List.getElem_mem hl,List.getElem?_eq_getElem hl⟩
 simp [atI,ixN,h0,h1,hl]
@[simp] theorem W_len_lst {ds:List D}:W (BT [.lst ds]) t P↔P (.int ds.length) t:=AO rfl
@[simp] theorem W_len_tup {ds:List D}:W (BT [.tup ds]) t P↔P (.int ds.length) t:=AO rfl
@[simp] theorem WZ {ds:List Int}:W (BT [.scr ds]) t P↔P (.int ds.length) t:=AO rfl
@[simp] theorem W_len_str {x:Str}:W (BT [.str x]) t P↔x.length≤LIM∧P (.int x.length) t:=by simp [BT]
@[simp] theorem W_len_obj {k:Nat}:W (BT [.obj k]) t P↔∃ds,t.S[k]?=some (.lst ds)∧P (.int ds.length) t:=by
 cases e:t.S[k]? with
 | none=>rw [DP (by simp only [BT,e])];simp
 | some o=>
   cases o with
   | dct _ | ins _ _ | tab _ _ _ _ | fn _ _=>rw [DP (by simp only [BT,e])];simp
   | lst ds=>rw [AO (a:=.int ds.length) (t':=t) (by simp only [BT,e])];simp
@[simp] theorem W_isi {d:D} {m:String}:W (Co [d,.ty m]) t P↔∃n,tyD d=some n∧∃b,GX n m=some b∧P (.bl b) t:=by
 cases e:tyD d with
 | none=>rw [DP (by simp only [Co,e])];simp
 | some n=>
   have:Co [d,.ty m] t=(GX n m).map fun b=>(.bl b,t):=by simp only [Co,e]
   rw [KC this];simp
def NW:D→Bool
 | .non=>true
 | _=>false
def Xl (b:Bool):D→Bool
 | .bl c=>c == b
 | _=>false
@[simp] theorem W_is_non {x:D}:W (isC x .non) t P↔P (.bl (NW x)) t:=AO (by cases x <;> rfl)
@[simp] theorem Yd {x:D} {b:Bool}:W (isC x (.bl b)) t P↔P (.bl (Xl b x)) t:=AO (by cases x <;> rfl)
@[simp] theorem Yc {x y:D}:W (O8 x y) t P↔W (isC x y) t fun d t1=>W (toB d) t1 fun b t2=>P (.bl (!b)) t2:=by
 unfold O8
 rw [W_bnd]
 constructor
 ·exact fun h=>h.mono fun d t1 h1=>by
   cases d with
   | bl b=>simpa using h1
   | _=>exact (W_fail.mp h1).elim
 ·exact fun h=>h.mono fun d t1 h1=>by
   cases d with
   | bl b=>simpa using h1
   | _=>obtain ⟨_,_,e,_⟩:=h1;cases e
@[simp] theorem W_add_int {i j:Int}:W (A7 (.int i) (.int j)) t P↔P (.int (i + j)) t:=AO rfl
@[simp] theorem W_sub_int {i j:Int}:W (Ew (.int i) (.int j)) t P↔P (.int (i - j)) t:=AO rfl
@[simp] theorem W_lt_int {i j:Int}:W (ltA (.int i) (.int j)) t P↔P (.bl (decide (i < j))) t:=AO rfl
@[simp] theorem W_le_int {i j:Int}:W (leA (.int i) (.int j)) t P↔P (.bl (decide (i≤j))) t:=AO rfl
@[simp] theorem W_gt_int {i j:Int}:W (gtA (.int i) (.int j)) t P↔P (.bl (decide (j < i))) t:=AO rfl
@[simp] theorem W4 {i j:Int}:W (geA (.int i) (.int j)) t P↔P (.bl (decide (j≤i))) t:=AO rfl
@[simp] theorem W7 {i j:Str}:W (ltA (.str i) (.str j)) t P↔P (.bl (decide (i.cps.toList < j.cps.toList))) t:=AO rfl
@[simp] theorem W5 {i j:Str}:W (gtA (.str i) (.str j)) t P↔P (.bl (decide (j.cps.toList < i.cps.toList))) t:=AO rfl
@[simp] theorem W_neg {i:Int}:W (LH (.int i)) t P↔P (.int (-i)) t:=AO rfl
@[simp] theorem Yi {i j:Int}:W (RD (.int i) (.int j)) t P↔(0 < j∧j < 1073741824)∧P (.int (i / j)) t:=by
 rw [NG (m:=RD (.int i) (.int j)) (c:=NR i j=true) (z:=(.int (i / j),t)) rfl];simp [NR]
@[simp] theorem W_mod {i j:Int}:W (FR (.int i) (.int j)) t P↔0 < j∧P (.int (i % j)) t:=by
 rw [NG (m:=FR (.int i) (.int j)) (c:=decide (0 < j)=true) (z:=(.int (i % j),t)) rfl];simp
@[simp] theorem W_pow {i j:Int}:W (HN (.int i) (.int j)) t P↔KN i j=true∧P (.int (i ^ j.toNat)) t:=Ic rfl
@[simp] theorem W_mul_int {i j:Int}:W (Js (.int i) (.int j)) t P↔Gp i j=true∧P (.int (i * j)) t:=Ic rfl
theorem Nc {i j:Int} (h1 : -18446744073709551616 < i) (h2:i < 18446744073709551616):Gp i j=true:=by simp [Gp,h1,h2]
theorem Rh {k:Int} (h1 : -4611686018427387904≤k) (h2:k < 4611686018427387904):CW k=true:=by simp [CW,h1,h2]
@[simp] theorem W_add_str {x y:Str}:W (A7 (.str x) (.str y)) t P↔x.length + y.length≤LIM∧P (.str (x++y)) t:=by
 have:A7 (.str x) (.str y)=lim (x.length + y.length) (.str (x++y)):=rfl
 rw [this];simp
@[simp] theorem W_add_lst {x y:List D}:W (A7 (.lst x) (.lst y)) t P↔x.length + y.length≤LIM∧P (.lst (x++y)) t:=by
 have:A7 (.lst x) (.lst y)=lim (x.length + y.length) (.lst (x++y)):=rfl
 rw [this];simp
@[simp] theorem W_add_tup {d:D} {x y:List D}:W (A7 (.tup (d :: x)) (.tup y)) t P↔x.length + 1 + y.length≤LIM∧P (.tup (d :: x++y)) t:=by
 have:A7 (.tup (d :: x)) (.tup y) t=if (d :: x).isEmpty=false∧(d :: x).length + y.length≤LIM then some (.tup (d :: x++y),t) else none:=rfl
 rw [NG this];simp
@[simp] theorem V4 {y:List D}:W (A7 (.tup []) (.tup y)) t P↔P (.tup y) t:=AO rfl
@[simp] theorem Ys {x y:List D} {Q:List D→T→Prop}:W (Uz (.lst x) (.lst y)) t Q↔x.length + y.length≤LIM∧Q (x++y) t:=by
 have:Uz (.lst x) (.lst y)=lim (x.length + y.length) (x++y):=rfl
 rw [this];simp
@[simp] theorem Yr {i:Int}:W (W9 [.int i]) t P↔P (.int (if i < 0 then -i else i)) t:=AO rfl
@[simp] theorem Yv {i j:Int}:W (Xq [.int i,.int j]) t P↔P (.int (if j < i then j else i)) t:=AO rfl
@[simp] theorem Yu {i j:Int}:W (Xp [.int i,.int j]) t P↔P (.int (if j > i then j else i)) t:=AO rfl
@[simp] theorem WY {i:Int}:W (Lx [.int i]) t P↔P (.int i) t:=AO rfl
@[simp] theorem W_int_bl {b:Bool}:W (Lx [.bl b]) t P↔P (.int (if b then 1 else 0)) t:=AO rfl
@[simp] theorem W_str_int {i:Int}:W (Fl [.int i]) t P↔i.natAbs.log2 < 1920∧P (.str (Str.ofString (toString i))) t:=Ic rfl
@[simp] theorem W_tup_lst {ds:List D}:W (Ha [.lst ds]) t P↔P (.tup ds) t:=AO rfl
@[simp] theorem W0 {ds:List D} {Q:List D→T→Prop}:W (FQ [.lst ds]) t Q↔Q ds t:=AO rfl
@[simp] theorem W_lst_tup {ds:List D} {Q:List D→T→Prop}:W (FQ [.tup ds]) t Q↔Q ds t:=AO rfl
@[simp] theorem W_eq_str {g:Bool→Bool} {x y:Str}:W (eqS g (.str x) (.str y)) t P↔P (.bl (g (x == y))) t:=AO rfl
@[simp] theorem W_eq_int {g:Bool→Bool} {x y:Int}:W (eqS g (.int x) (.int y)) t P↔P (.bl (g (x == y))) t:=AO rfl
@[simp] theorem X9 {g:Bool→Bool} {x y:Bool}:W (eqS g (.bl x) (.bl y)) t P↔P (.bl (g (x == y))) t:=AO rfl
@[simp] theorem W_eq_nil {g:Bool→Bool} {x:List D}:W (eqS g (.lst x) (.lst [])) t P↔P (.bl (g x.isEmpty)) t:=by
 refine AO ?_
 cases x <;> rfl
theorem BE {a b:String}:Str.ofString a=Str.ofString b↔a=b:=by
 constructor
 ·intro h
  rw [Str.ofString_eq_toList,Str.ofString_eq_toList] at h
  injection h with h
  have h:=congrArg Array.toList h
  simp only at h
  have hinj:∀xs ys:List Char,xs.map Char.toNat=ys.map Char.toNat→xs=ys:=by
   intro xs
   induction xs with
   | nil=>intro ys h;cases ys with | nil=>rfl | cons _ _=>simp at h
   | cons x xs ih=>
     intro ys h
     cases ys with
     | nil=>simp at h
     | cons y ys=>
       simp only [List.map_cons,List.cons.injEq] at h
       rw [ih ys h.2,Char.toNat_inj.mp h.1]
  exact String.toList_inj.mp (hinj _ _ (by simpa using h))
 ·exact fun h=>by rw [h]
@[simp] theorem U0 {a b:String}:(Str.ofString a == Str.ofString b)=(a == b):=by
 rw [Bool.eq_iff_iff,beq_iff_eq,beq_iff_eq,BE]
@[simp] theorem W_sl_lst {ds:List D} {lo hi:Option Int}:W (Ca (.lst ds) lo hi) t P↔P (.lst (cutD ds lo hi)) t:=AO rfl
@[simp] theorem W_sl_scr {ds:List Int} {lo hi:Option Int}:W (Ca (.scr ds) lo hi) t P↔P (.lst ((cutD ds lo hi).map .int)) t:=AO rfl
@[simp] theorem W_sl_str {x:Str} {lo hi:Option Int}:W (Ca (.str x) lo hi) t P↔x.length≤LIM∧P (.str (Txt.slice x lo hi)) t:=by
 have:Ca (.str x) lo hi=lim x.length (.str (Txt.slice x lo hi)):=rfl
 rw [this];simp
@[simp] theorem W_sl_tup {ds:List D} {lo hi:Option Int}:W (Ca (.tup ds) lo hi) t P↔P (.tup (cutD ds lo hi)) t:=AO rfl
@[simp] theorem W_fSl {f:M D} {l u:M (Option Int)} {h:D→Option Int→Option Int→M D}:W (fSl f l u h) t P↔W f t fun x t1=>W l t1 fun lo t2=>W u t2 fun hi t3=>W (h x lo hi) t3 P:=by simp [fSl]
@[simp] theorem W_fNo {Q:Option Int→T→Prop}:W fNo t Q↔Q none t:=AO rfl
@[simp] theorem W_asI {i:Int} {Q:Option Int→T→Prop}:W (asI (.int i)) t Q↔Q (some i) t:=AO rfl
@[simp] theorem W_fPart {f:M D} {Q:Option Int→T→Prop}:W (BW f) t Q↔W f t fun x t1=>W (asI x) t1 Q:=by simp [BW]
@[simp] theorem W_fItA {f:M D} {Q:List D→T→Prop}:W (CF f) t Q↔W f t fun x t1=>W (Dz x) t1 Q:=by simp [CF]
@[simp] theorem W_it_lst {ds:List D} {Q:List D→T→Prop}:W (Dz (.lst ds)) t Q↔Q ds t:=AO rfl
@[simp] theorem W_it_tup {ds:List D} {Q:List D→T→Prop}:W (Dz (.tup ds)) t Q↔Q ds t:=AO rfl
@[simp] theorem W6 {ds:List Int} {Q:List D→T→Prop}:W (Dz (.scr ds)) t Q↔Q (ds.map .int) t:=AO rfl
@[simp] theorem W_it_str {x:Str} {Q:List D→T→Prop}:W (Dz (.str x)) t Q↔Q (x.cps.toList.map fun c=>.str ⟨#[c]⟩) t:=AO rfl
@[simp] theorem W_fRng1 {f:M (List D)} {Q:List D→T→Prop}:W (D9 f) t Q↔W f t fun x t1=>W (JJ x) t1 Q:=by simp [D9]
@[simp] theorem Yb {f:M (List D)} {Q:List D→T→Prop}:W (RC f) t Q↔W f t fun x t1=>W (Q7 x) t1 Q:=by simp [RC]
@[simp] theorem W_rng1 {j:Int} {Q:List D→T→Prop}:W (JJ [.int j]) t Q↔CW j=true∧Q (CG 0 j.toNat) t:=Ic rfl
@[simp] theorem Yj {i j:Int} {Q:List D→T→Prop}:W (Q7 [.int i,.int j]) t Q↔(CW i && CW j)=true∧Q (CG i (j - i).toNat) t:=Ic rfl
@[simp] theorem W_ownM {i:Nat} {h:List D→List D→Option (List D)} {g:M (List D)} {Q:Out→T→Prop}:W (ownM i h g) t Q↔(∃xs,t.env[i]?=some (some (.own xs)))∧W g t fun ds t1=>∃xs,t1.env[i]?=some (some (.own xs))∧∃ys,h xs ds=some ys∧Q .next ⟨t1.env.set i (some (.own ys)),t1.S⟩:=by
 constructor
 ·rintro ⟨o,t',e,p⟩
  unfold ownM at e
  split at e
  ·next xs e0=>
   refine ⟨⟨xs,e0⟩,?_⟩
   obtain ⟨ds,t1,e1,e⟩:=Am e
   refine ⟨ds,t1,e1,?_⟩
   split at e
   ·next ys e2=>
    obtain ⟨zs,e3,e4⟩:=Option.map_eq_some_iff.mp e
    cases e4
    exact ⟨ys,e2,zs,e3,p⟩
   ·cases e
  ·cases e
 ·rintro ⟨⟨xs,e0⟩,ds,t1,e1,ys,e2,zs,e3,p⟩
  exact ⟨_,_,by unfold ownM bnd;simp only [e0,e1,e2,e3,Option.map_some],p⟩
@[simp] theorem app1_one {xs:List D} {d:D} {ys:List D}:Dm xs [d]=some ys↔xs.length < LIM∧xs++[d]=ys:=by
 unfold Dm;split <;> simp [*]
@[simp] theorem W_stD {f g:M D} {d:D} {Q:Unit→T→Prop}:W (stD f g d) t Q↔W f t fun o t1=>W g t1 fun i t2=>W (GA o i d) t2 Q:=by simp [stD]
@[simp] theorem W_stOb {k:Nat} {j:Int} {d:D} {Q:Unit→T→Prop}:W (GA (.obj k) (.int j) d) t Q↔∃xs,t.S[k]?=some (.lst xs)∧∃n,ixN xs.length j=some n∧Q () ⟨t.env,t.S.set k (.lst (xs.set n d))⟩:=by
 cases e:t.S[k]? with
 | none=>rw [DP (by simp only [GA,e])];simp
 | some o=>
   cases o with
   | dct _ | ins _ _ | tab _ _ _ _ | fn _ _=>rw [DP (by simp only [GA,e])];simp
   | lst ds=>
     have:GA (.obj k) (.int j) d t=(ixN ds.length j).map fun n=>((),{ t with S:=t.S.set k (.lst (ds.set n d)) }):=by simp only [GA,e]
     rw [KC this];simp
end F2
namespace F2
open PySem L2
variable {t:T} {P:D→T→Prop} {Q:List D→T→Prop} {R:Out→T→Prop} {B:Bool→T→Prop} {U:Unit→T→Prop}
def Fh (k:Bool) (A B:Prop):Prop:=if k=true then A else B
theorem Do {k:Bool} {A B:Prop} (h:k=true) (a:A):Fh k A B:=by unfold Fh;rw [if_pos h];exact a
theorem Bt {k:Bool} {A B:Prop} (h:k=false) (b:B):Fh k A B:=by unfold Fh;rw [if_neg (by rw [h];exact Bool.false_ne_true)];exact b
theorem Cj {k:Bool} {A B:Prop} (a:k=true→A) (b:k=false→B):Fh k A B:=by cases h:k with
 | true=>exact Do rfl (a h)
 | false=>exact Bt rfl (b h)
def Oj (g:M Out) (R:Out→T→Prop) (o:Out) (t1:T):Prop:=match o with
 | .next=>W g t1 R
 | o=>R o t1
theorem Cq {g:M Out} {t1:T} (h:W g t1 R):Oj g R .next t1:=h
theorem Me {g:M Out} {t1:T} {d:D} (h:R (.ret d) t1):Oj g R (.ret d) t1:=h
theorem Rr {f g:M Out} (h:W f t (Oj g R)):W (Ap f g) t R:=W_seqS.mpr (h.mono fun o t1 h1=>by cases o <;> exact h1)
theorem KS (h:R .next t):W AU t R:=W_skipS.mpr h
theorem Rq {f:M D} (h:W f t fun d t1=>R (.ret d) t1):W (AH f) t R:=W_retS.mpr h
theorem WG {f:M D} (h:W f t fun d t1=>R .next t1):W (DU f) t R:=W_dropS.mpr h
theorem wIf {f:M Bool} {g h:M Out} (w:W f t fun k t1=>Fh k (W g t1 R) (W h t1 R)):W (ifS f g h) t R:=W_ifS.mpr w
theorem XZ {i:Nat} {f:M D} (h:W f t fun d t1=>R .next ⟨t1.env.set i (some (.val d)),t1.S⟩):W (Bf i f) t R:=W_setS.mpr h
theorem XX {i:Nat} {f:M (List D)} (h:W f t fun d t1=>R .next ⟨t1.env.set i (some (.own d)),t1.S⟩):W (G3 i f) t R:=W_ownS.mpr h
theorem XD {f:M D} {g:D→M Unit} (h:W f t fun d t1=>W (g d) t1 fun _ t2=>R .next t2):W (FI f g) t R:=W_asgS.mpr h
theorem XF {f:M (List D)} {st:D→M Unit} {b:M Out} (h:W f t fun ds t1=>W (Dn st b ds) t1 R):W (Dx f st b) t R:=W_forS.mpr h
theorem wC {d:D} (h:P d t):W (fC d) t P:=W_fC.mpr h
theorem DO {i:Nat} {d:D} (e:t.env[i]?=some (some (.val d))) (h:P d t):W (Ad i) t P:=by rw [OB,e];exact h
theorem WW {i:Nat} {ds:List D} (e:t.env[i]?=some (some (.own ds))) (h:P (.lst ds) ⟨t.env.set i (some (.val (.lst ds))),t.S⟩):W (Ad i) t P:=by rw [OB,e];exact h
theorem Fp {f g:M D} {h:D→D→M D} (w:W f t fun x t1=>W g t1 fun y t2=>W (h x y) t2 P):W (Aj f g h) t P:=W_fBin.mpr w
theorem wUn {f:M D} {h:D→M D} (w:W f t fun x t1=>W (h x) t1 P):W (fUn f h) t P:=W_fUn.mpr w
theorem Ex {α β:Type} {f:M α} {g:α→M β} {K:β→T→Prop} (w:W f t fun x t1=>W (g x) t1 K):W (bnd f g) t K:=W_bnd.mpr w
theorem BJ {b:Bool} (h:B b t):W (toB (.bl b)) t B:=W_toB.mpr h
theorem Os {f:M D} (h:W f t fun x t1=>W (toB x) t1 B):W (Az f) t B:=W_fTst.mpr h
theorem VS {f g w:M D} {h h':D→D→M D} (q:W f t fun x t1=>W g t1 fun y t2=>W (h x y) t2 fun k t3=>W (toB k) t3 fun k t4=>Fh k (W w t4 fun z t5=>W (h' y z) t5 P) (P (.bl false) t4)):W (CM f g w h h') t P:=W_fChain.mpr q
theorem XA {f g:M Bool} (h:W f t fun k t1=>Fh k (W g t1 B) (B false t1)):W (Em f g) t B:=W_fAnd.mpr h
theorem wOr {f g:M Bool} (h:W f t fun k t1=>Fh k (B true t1) (W g t1 B)):W (fOr f g) t B:=W_fOr.mpr h
theorem XV {f:M Bool} (h:W f t fun k t1=>B (!k) t1):W (BX f) t B:=W_fNot.mpr h
theorem WD {f g:M D} (h:W f t fun x t1=>W (toB x) t1 fun k t2=>Fh k (W g t2 P) (P (.bl false) t2)):W (D8 f g) t P:=W_fAndV.mpr h
theorem WO {f:M D} (h:W f t fun x t1=>W (toB x) t1 fun k t2=>P (.bl (!k)) t2):W (Im f) t P:=W_fNotV.mpr h
theorem XH {f:M Bool} {g h:M D} (w:W f t fun k t1=>Fh k (W g t1 P) (W h t1 P)):W (fIf f g h) t P:=W_fIf.mpr w
theorem Mt (h:Q [] t):W Ah t Q:=W_fNil.mpr h
theorem E3 {f:M D} {g:M (List D)} (h:W f t fun d t1=>W g t1 fun ds t2=>Q (d :: ds) t2):W (Ac f g) t Q:=W_fCons.mpr h
def FP (n:Nat) (A:Prop):Prop:=n≤LIM∧A
theorem Bu {n:Nat} {A:Prop} (h:n≤LIM) (a:A):FP n A:=⟨h,a⟩
theorem X5 {f:M (List D)} (h:W f t fun ds t1=>FP ds.length (P (.tup ds) t1)):W (BB f) t P:=W_fTup.mpr h
theorem XS {f:M (List D)} (h:W f t fun ds t1=>FP ds.length (Q ds t1)):W (Cu f) t Q:=W_fLst.mpr h
theorem WR {f:M (List D)} (h:W f t fun ds t1=>P (.lst ds) t1):W (Bo f) t P:=W_fPure.mpr h
theorem XW {f:M (List D)} (h:W f t fun ds t1=>P (.obj t1.S.length) ⟨t1.env,t1.S++[.lst ds]⟩):W (FM f) t P:=by rw [Uu];exact h.mono fun ds t1 h=>W_newOb.mpr h
theorem IT {g:Fn} {f:M (List D)} (h:W f t fun ds t1=>Wf g ds t1.S fun r S'=>P r ⟨t1.env,S'⟩):W (Av g f) t P:=W_fCall.mpr h
theorem wB {f:M (List D)} {h:List D→M D} (w:W f t fun ds t1=>W (h ds) t1 P):W (fB f h) t P:=W_fB.mpr w
theorem wBF {f:M (List D)} {h:List D→M (List D)} (w:W f t fun ds t1=>W (h ds) t1 Q):W (fBF f h) t Q:=W_fBF.mpr w
theorem GD {i:Nat} {d:D} (h:U () ⟨t.env.set i (some (.val d)),t.S⟩):W (Bv i d) t U:=W_putV.mpr h
theorem Ug (h:U () t):W (G7 []) t U:=W_putNil.mpr h
theorem Rp {f:D→M Unit} {g:List D→M Unit} {d:D} {ds:List D} (h:W (f d) t fun _ t1=>W (g ds) t1 U):W (C7 f g (d :: ds)) t U:=W_putCons.mpr h
theorem X6 {n:Nat} {g:List D→M Unit} {ds:List D} (e:ds.length=n) (h:W (g ds) t U):W (unS n g (.tup ds)) t U:=W_unS_tup.mpr ⟨e,h⟩
theorem WE {n:Nat} {fr:List Nat} {f:M (List D)} {st:D→M Unit} {tst:M Bool} {elt:M D} (h:W f t fun ds t1=>W (CU st tst elt ds) ⟨cenv n fr t1.env,t1.S⟩ fun xs t'=>FP xs.length (Q xs ⟨t1.env,t'.S⟩)):W (Cz n fr f st tst elt) t Q:=W_fComp.mpr h
theorem GF (h:B true t):W Cy t B:=W_tTru.mpr h
theorem Rn {ds:List D} {i:Int} {d:D} (e:atI ds i=some d) (h:P d t):W (ixD (.tup ds) (.int i)) t P:=W_ix_tup.mpr ⟨d,e,h⟩
theorem FS {ds:List D} {i:Int} {d:D} (e:atI ds i=some d) (h:P d t):W (ixD (.lst ds) (.int i)) t P:=W_ix_lst.mpr ⟨d,e,h⟩
theorem JS {k:Nat} {ds:List D} {i:Int} {d:D} (e0:t.S[k]?=some (.lst ds)) (e:atI ds i=some d) (h:P d t):W (ixD (.obj k) (.int i)) t P:=W_ix_obj.mpr ⟨ds,e0,d,e,h⟩
theorem WK {ds:List D} (h:P (.int ds.length) t):W (BT [.lst ds]) t P:=W_len_lst.mpr h
theorem WL {ds:List D} (h:P (.int ds.length) t):W (BT [.tup ds]) t P:=W_len_tup.mpr h
theorem IV {k:Nat} {ds:List D} (e:t.S[k]?=some (.lst ds)) (h:P (.int ds.length) t):W (BT [.obj k]) t P:=W_len_obj.mpr ⟨ds,e,h⟩
theorem KR {x:Str} (e:x.length≤LIM) (h:P (.int x.length) t):W (BT [.str x]) t P:=W_len_str.mpr ⟨e,h⟩
theorem VX {d:D} {m n:String} {b:Bool} (e:tyD d=some n) (e':GX n m=some b) (h:P (.bl b) t):W (Co [d,.ty m]) t P:=W_isi.mpr ⟨n,e,b,e',h⟩
theorem XI {x:D} (h:P (.bl (NW x)) t):W (isC x .non) t P:=W_is_non.mpr h
theorem Si {i j:Int} (h:P (.int (i + j)) t):W (A7 (.int i) (.int j)) t P:=W_add_int.mpr h
theorem WT {i j:Int} (h:P (.int (i - j)) t):W (Ew (.int i) (.int j)) t P:=W_sub_int.mpr h
theorem XT {i j:Int} (h:P (.bl (decide (i < j))) t):W (ltA (.int i) (.int j)) t P:=W_lt_int.mpr h
theorem XR {i j:Int} (h:P (.bl (decide (i≤j))) t):W (leA (.int i) (.int j)) t P:=W_le_int.mpr h
theorem XG {i j:Int} (h:P (.bl (decide (j < i))) t):W (gtA (.int i) (.int j)) t P:=W_gt_int.mpr h
theorem XU {i:Int} (h:P (.int (-i)) t):W (LH (.int i)) t P:=W_neg.mpr h
theorem Ro {i j:Int} (h1:0 < j) (h:P (.int (i % j)) t):W (FR (.int i) (.int j)) t P:=W_mod.mpr ⟨h1,h⟩
theorem XY {i j:Int} (h1:KN i j=true) (h:P (.int (i ^ j.toNat)) t):W (HN (.int i) (.int j)) t P:=W_pow.mpr ⟨h1,h⟩
theorem Sm {i j:Int} (h1:Gp i j=true) (h:P (.int (i * j)) t):W (Js (.int i) (.int j)) t P:=W_mul_int.mpr ⟨h1,h⟩
theorem WB {x y:Str} (h:FP (x.length + y.length) (P (.str (x++y)) t)):W (A7 (.str x) (.str y)) t P:=W_add_str.mpr h
theorem WA {x y:List D} (h:FP (x.length + y.length) (P (.lst (x++y)) t)):W (A7 (.lst x) (.lst y)) t P:=W_add_lst.mpr h
theorem WC {d:D} {x y:List D} (h:FP (x.length + 1 + y.length) (P (.tup (d :: x++y)) t)):W (A7 (.tup (d :: x)) (.tup y)) t P:=W_add_tup.mpr h
theorem WH {i:Bool} (h:P (.int (if i then 1 else 0)) t):W (Lx [.bl i]) t P:=W_int_bl.mpr h
theorem HZ {i:Int} (e:i.natAbs.log2 < 1920) (h:P (.str (Str.ofString (toString i))) t):W (Fl [.int i]) t P:=W_str_int.mpr ⟨e,h⟩
theorem WU {ds:List D} (h:P (.tup ds) t):W (Ha [.lst ds]) t P:=W_tup_lst.mpr h
theorem WN {ds:List D} (h:Q ds t):W (FQ [.tup ds]) t Q:=W_lst_tup.mpr h
theorem Rm {g:Bool→Bool} {x y:Str} (h:P (.bl (g (x == y))) t):W (eqS g (.str x) (.str y)) t P:=W_eq_str.mpr h
theorem VT {g:Bool→Bool} {x y:Int} (h:P (.bl (g (x == y))) t):W (eqS g (.int x) (.int y)) t P:=W_eq_int.mpr h
theorem VU {g:Bool→Bool} {x:List D} (h:P (.bl (g x.isEmpty)) t):W (eqS g (.lst x) (.lst [])) t P:=W_eq_nil.mpr h
theorem X0 {ds:List D} {lo hi:Option Int} (h:P (.lst (cutD ds lo hi)) t):W (Ca (.lst ds) lo hi) t P:=W_sl_lst.mpr h
theorem X1 {ds:List Int} {lo hi:Option Int} (h:P (.lst ((cutD ds lo hi).map .int)) t):W (Ca (.scr ds) lo hi) t P:=W_sl_scr.mpr h
theorem X3 {ds:List D} {lo hi:Option Int} (h:P (.tup (cutD ds lo hi)) t):W (Ca (.tup ds) lo hi) t P:=W_sl_tup.mpr h
theorem X2 {x:Str} {lo hi:Option Int} (h:FP x.length (P (.str (Txt.slice x lo hi)) t)):W (Ca (.str x) lo hi) t P:=W_sl_str.mpr h
theorem wSl {f:M D} {l u:M (Option Int)} {h:D→Option Int→Option Int→M D} (w:W f t fun x t1=>W l t1 fun lo t2=>W u t2 fun hi t3=>W (h x lo hi) t3 P):W (fSl f l u h) t P:=W_fSl.mpr w
theorem wNo {K:Option Int→T→Prop} (h:K none t):W fNo t K:=W_fNo.mpr h
theorem XC {i:Int} {K:Option Int→T→Prop} (h:K (some i) t):W (asI (.int i)) t K:=W_asI.mpr h
theorem WQ {f:M D} {K:Option Int→T→Prop} (h:W f t fun x t1=>W (asI x) t1 K):W (BW f) t K:=W_fPart.mpr h
theorem XJ {f:M D} (h:W f t fun x t1=>W (Dz x) t1 Q):W (CF f) t Q:=W_fItA.mpr h
theorem XL {ds:List D} (h:Q ds t):W (Dz (.lst ds)) t Q:=W_it_lst.mpr h
theorem XO {ds:List D} (h:Q ds t):W (Dz (.tup ds)) t Q:=W_it_tup.mpr h
theorem XN {x:Str} (h:Q (x.cps.toList.map fun c=>.str ⟨#[c]⟩) t):W (Dz (.str x)) t Q:=W_it_str.mpr h
theorem WS {f:M (List D)} (h:W f t fun x t1=>W (JJ x) t1 Q):W (D9 f) t Q:=W_fRng1.mpr h
theorem Mu {j:Int} (e:CW j=true) (h:Q (CG 0 j.toNat) t):W (JJ [.int j]) t Q:=W_rng1.mpr ⟨e,h⟩
theorem WP {i:Nat} {xs:List D} {h:List D→List D→Option (List D)} {g:M (List D)} (e:t.env[i]?=some (some (.own xs))) (w:W g t fun ds t1=>∃xs,t1.env[i]?=some (some (.own xs))∧∃ys,h xs ds=some ys∧R .next ⟨t1.env.set i (some (.own ys)),t1.S⟩):W (ownM i h g) t R:=W_ownM.mpr ⟨⟨xs,e⟩,w⟩
theorem XB {i:Nat} {xs:List D} {d:D} {t1:T} {A:List D→Prop} (e:t1.env[i]?=some (some (.own xs))) (w:FP (xs.length + 1) (A (xs++[d]))):∃xs,t1.env[i]?=some (some (.own xs))∧∃ys,Dm xs [d]=some ys∧A ys:=
 ⟨xs,e,_,app1_one.mpr ⟨w.1,rfl⟩,w.2⟩
theorem X4 {f g:M D} {d:D} (h:W f t fun o t1=>W g t1 fun i t2=>W (GA o i d) t2 U):W (stD f g d) t U:=W_stD.mpr h
end F2
namespace F2
open PySem L2
section
variable {t:T} {P:D→T→Prop} {B:Bool→T→Prop} {Q:List D→T→Prop}
theorem WV {i:Nat} {n:Int} {ds:List D} {d:D} (e:t.env[i]?=some (some (.val (.tup ds)))) (a:atI ds n=some d) (h:P d t):W (Aj (Ad i) (fC (.int n)) ixD) t P:=Fp (DO e (wC (Rn a h)))
theorem WJ {i:Nat} {x y:Str} {ds:List D} {g:Bool→Bool} (e:t.env[i]?=some (some (.val (.tup (.str y :: ds))))) (h:B (g (y == x)) t):W (Az (Aj (Aj (Ad i) (fC (.int 0)) ixD) (fC (.str x)) (eqS g))) t B:=Os (Fp (Fp (DO e (wC (Rn KG (wC (Rm (BJ h))))))))
theorem V0 {i:Nat} {x y:Str} {g:Bool→Bool} (e:t.env[i]?=some (some (.val (.str y)))) (h:B (g (y == x)) t):W (Az (Aj (Ad i) (fC (.str x)) (eqS g))) t B:=Os (Fp (DO e (wC (Rm (BJ h)))))
theorem VZ {i:Nat} {x y:Int} {g:Bool→Bool} (e:t.env[i]?=some (some (.val (.int y)))) (h:B (g (y == x)) t):W (Az (Aj (Ad i) (fC (.int x)) (eqS g))) t B:=Os (Fp (DO e (wC (VT (BJ h)))))
theorem Ub {g:Fn} {i:Nat} {d:D} (e:t.env[i]?=some (some (.val d))) (h:Wf g [d] t.S fun r S'=>P r ⟨t.env,S'⟩):W (Av g (Ac (Ad i) Ah)) t P:=IT (E3 (DO e (Mt h)))
theorem Uc {g:Fn} {i j:Nat} {d d':D} (e:t.env[i]?=some (some (.val d))) (e':t.env[j]?=some (some (.val d'))) (h:Wf g [d,d'] t.S fun r S'=>P r ⟨t.env,S'⟩):W (Av g (Ac (Ad i) (Ac (Ad j) Ah))) t P:=IT (E3 (DO e (E3 (DO e' (Mt h)))))
theorem Ue {g:Fn} {i:Nat} {d d':D} (e:t.env[i]?=some (some (.val d))) (h:Wf g [d,d'] t.S fun r S'=>P r ⟨t.env,S'⟩):W (Av g (Ac (Ad i) (Ac (fC d') Ah))) t P:=IT (E3 (DO e (E3 (wC (Mt h)))))
theorem Ud {g:Fn} {i j k:Nat} {d d' d'':D} (e:t.env[i]?=some (some (.val d))) (e':t.env[j]?=some (some (.val d'))) (e'':t.env[k]?=some (some (.val d''))) (h:Wf g [d,d',d''] t.S fun r S'=>P r ⟨t.env,S'⟩):W (Av g (Ac (Ad i) (Ac (Ad j) (Ac (Ad k) Ah)))) t P:=IT (E3 (DO e (E3 (DO e' (E3 (DO e'' (Mt h)))))))
end
end F2
set_option maxHeartbeats 1000000
namespace LW
open PySem L2 F2
local macro_rules | `(tactic| walk_at "w1")=>`(tactic| first
 | ((with_reducible refine' WJ ?wv ?_);(case wv=>exact rfl)) | ((with_reducible refine' WV ?wv ?wu ?_);(case wv=>exact rfl);(case wu=>first | exact rfl | exact KG | exact NJ | exact NK)) | ((with_reducible refine' V0 ?wv ?_);(case wv=>exact rfl)) | ((with_reducible refine' VZ ?wv ?_);(case wv=>exact rfl))
 | ((with_reducible refine' Ub ?wv ?_);(case wv=>exact rfl)) | ((with_reducible refine' Uc ?wv ?wu ?_);(case wv=>exact rfl);(case wu=>exact rfl)) | ((with_reducible refine' Ue ?wv ?_);(case wv=>exact rfl)) | ((with_reducible refine' Ud ?wv ?wu ?wt ?_);(case wv=>exact rfl);(case wu=>exact rfl);(case wt=>exact rfl))
 | with_reducible refine Rr ?_ | with_reducible refine Cq ?_ | with_reducible refine Me ?_ | with_reducible refine XZ ?_ | with_reducible refine Fp ?_ | with_reducible refine wC ?_
 | ((with_reducible refine' DO ?wv ?_);(case wv=>exact rfl)) | with_reducible refine E3 ?_ | with_reducible refine Mt ?_ | with_reducible refine wIf ?_ | with_reducible refine Os ?_ | with_reducible refine BJ ?_ | with_reducible refine Rq ?_ | with_reducible refine IT ?_
 | ((with_reducible refine' Rn ?wv ?_);(case wv=>first | exact rfl | exact KG | exact NJ | exact NK)) | ((with_reducible refine' FS ?wv ?_);(case wv=>first | exact rfl | exact KG | exact NJ | exact NK)) | with_reducible refine Rm ?_ | with_reducible refine VT ?_ | with_reducible refine wEqB ?_ | with_reducible refine Si ?_ | with_reducible refine WT ?_
 | with_reducible refine KS ?_ | with_reducible refine wB ?_ | with_reducible refine wBF ?_ | with_reducible refine WR ?_ | with_reducible refine X5 ?_ | with_reducible refine XS ?_ | ((with_reducible refine Bu ?wv ?_);(case wv=>exact Nat.le_of_ble_eq_true rfl)) | with_reducible refine XW ?_ | with_reducible refine XD ?_ | with_reducible refine XF ?_
 | ((with_reducible refine Do ?wv ?_);(case wv=>exact rfl)) | ((with_reducible refine Bt ?wv ?_);(case wv=>exact rfl)) | with_reducible refine XA ?_ | with_reducible refine wOr ?_ | with_reducible refine XV ?_ | with_reducible refine WD ?_ | with_reducible refine wOrV ?_ | with_reducible refine WO ?_ | with_reducible refine XH ?_ | with_reducible refine VS ?_
 | ((with_reducible refine' WW ?wv ?_);(case wv=>exact rfl)) | with_reducible refine wUn ?_ | with_reducible refine XU ?_ | with_reducible refine XI ?_ | with_reducible refine wIsB ?_ | with_reducible refine wIsNot ?_
 | with_reducible refine XT ?_ | with_reducible refine XR ?_ | with_reducible refine XG ?_ | with_reducible refine wGeI ?_ | with_reducible refine wLtS ?_ | with_reducible refine wGtS ?_
 | with_reducible refine WK ?_ | with_reducible refine WL ?_ | with_reducible refine wLenR ?_ | ((with_reducible refine' VX ?wv ?wu ?_);(case wv=>exact rfl);(case wu=>exact rfl))
 | ((with_reducible refine XY ?wv ?_);(case wv=>decide)) | ((with_reducible refine wDiv ?wv ?wu ?_);(case wv=>decide);(case wu=>decide)) | ((with_reducible refine Ro ?wv ?_);(case wv=>decide))
 | with_reducible refine wAbs ?_ | with_reducible refine wMin ?_ | with_reducible refine wMax ?_ | with_reducible refine wInt ?_ | with_reducible refine WH ?_ | with_reducible refine WU ?_ | with_reducible refine wLstL ?_ | with_reducible refine WN ?_
 | with_reducible refine WB ?_ | with_reducible refine WA ?_ | with_reducible refine WC ?_ | with_reducible refine wAddT0 ?_ | with_reducible refine wCat ?_ | with_reducible refine VU ?_
 | with_reducible refine wSl ?_ | with_reducible refine wNo ?_ | with_reducible refine WQ ?_ | with_reducible refine XC ?_ | with_reducible refine X0 ?_ | with_reducible refine X1 ?_ | with_reducible refine X2 ?_ | with_reducible refine X3 ?_
 | with_reducible refine XJ ?_ | with_reducible refine XL ?_ | with_reducible refine XO ?_ | with_reducible refine wItR ?_ | with_reducible refine XN ?_ | with_reducible refine WS ?_ | with_reducible refine wRng2 ?_ | ((with_reducible refine Mu ?wv ?_);(case wv=>decide)) | ((with_reducible refine wRg2 ?wv ?_);(case wv=>decide))
 | with_reducible refine GD ?_ | with_reducible refine Ug ?_ | with_reducible refine Rp ?_ | ((with_reducible refine wUnL ?wv ?_);(case wv=>exact rfl)) | ((with_reducible refine X6 ?wv ?_);(case wv=>exact rfl)) | with_reducible refine WE ?_ | with_reducible refine GF ?_ | with_reducible refine wDic ?_ | with_reducible refine XX ?_ | with_reducible refine Ex ?_ | with_reducible refine WG ?_
 | ((with_reducible refine' WP ?wv ?_);(case wv=>exact rfl)) | ((with_reducible refine' XB ?wv ?_);(case wv=>exact rfl)) | with_reducible refine X4 ?_)
local macro_rules | `(tactic| walk_at "w")=>`(tactic| repeat (walk_at "w1"))
structure DeckAt (k c:Nat) (S:List Ob):Prop where
 ne:k≠c
 at_:∃(cells:List Int) (par pos:Int),S[k]?=some (.lst [.obj c,.int par,.int pos])∧S[c]?=some (.lst (cells.map .int))∧cells≠[]∧0≤pos
def YB (k c:Nat) (S S':List Ob):Prop:=S'.length=S.length∧∀j:Nat,j≠k→j≠c→S'[j]?=S[j]?
theorem M8 {n:Nat} {i:Int} (h0:0≤i) (h1:i < n):ixN n i=some i.toNat:=by simp [ixN,h0,h1]
theorem SL {S:List Ob} {k:Nat} {o o':Ob} (h:S[k]?=some o):(S.set k o')[k]?=some o':=by
 obtain ⟨hl,_⟩:=List.getElem?_eq_some_iff.mp h
 exact List.getElem?_set_self hl
inductive Sh where
 | nothing | number (lo hi:Int) | text (m:Int) | list (s:Sh) (m:Int) | pair (s r:Sh) | choice (ss:List Sh)
mutual
def Sh.d:Sh→D
 | .nothing=>.tup [.str "nothing"]
 | .number lo hi=>.tup [.str "number",.int lo,.int hi]
 | .text m=>.tup [.str "text",.int m]
 | .list s m=>.tup [.str "list",s.d,.int m]
 | .pair s r=>.tup [.str "pair",s.d,r.d]
 | .choice ss=>.tup [.str "choice",.tup (shD ss)]
def shD:List Sh→List D
 | []=>[]
 | s :: r=>s.d :: shD r
end
mutual
def Sh.depth:Sh→Nat
 | .nothing=>1
 | .number _ _=>1
 | .text _=>1
 | .list s _=>s.depth + 1
 | .pair s r=>max s.depth r.depth + 1
 | .choice ss=>Hm ss + 1
def Hm:List Sh→Nat
 | []=>0
 | s :: r=>max s.depth (Hm r)
end
theorem Nw:∀ss:List Sh,(shD ss).length=ss.length
 | []=>rfl
 | s :: r=>by simp [shD,Nw r]
theorem Sh.depth_pos (s:Sh):1≤s.depth:=by cases s <;> simp [Sh.depth]
def Sc (n:Nat):Bool:=decide (32≤n) && decide (n≤126) && decide (n≠37)
def Xm:Str→Bool:=fun o=>o == ("of" : Str)
mutual
def EU:Sh→D→Bool
 | .nothing,d=>NW d
 | .number lo hi,d=>match d with
   | .int i=>decide (lo≤i) && decide (i≤hi)
   | _=>false
 | .text m,d=>match d with
   | .str x=>decide ((x.length:Int)≤m) && x.cps.toList.all Sc
   | _=>false
 | .list s m,d=>match d with
   | .lst ds=>decide ((ds.length:Int)≤m) && ds.all fun e=>EU s e
   | _=>false
 | .pair s r,d=>match d with
   | .tup [a,b]=>EU s a && EU r b
   | _=>false
 | .choice ss,d=>match d with
   | .tup [.str o,.int k,x]=>Xm o && (decide (0≤k) && decide (k < ss.length)) && RM ss k.toNat x
   | _=>false
def RM:List Sh→Nat→D→Bool
 | [],_,_=>false
 | s :: _,0,d=>EU s d
 | _ :: r,k + 1,d=>RM r k d
end
mutual
def okD:D→Bool
 | .str x=>decide (x.length≤90000)
 | .tup xs=>oks xs
 | .lst xs=>oks xs
 | .obj _=>false
 | .scr _=>false
 | .exc _ _=>false
 | .ty _=>false
 | _=>true
def oks:List D→Bool
 | []=>true
 | d :: r=>okD d && oks r
end
theorem Hh:∀{xs:List D},oks xs=true→∀d∈xs,okD d=true
 | x :: r,h,d,m=>by
   rw [oks,Bool.and_eq_true] at h
   rcases List.mem_cons.mp m with z | z
   ·subst z;exact h.1
   ·exact Hh h.2 d z
theorem Po:∀{xs:List D},(∀d∈xs,okD d=true)→oks xs=true
 | [],_=>rfl
 | x :: r,h=>by
   rw [oks,Bool.and_eq_true]
   exact ⟨h x List.mem_cons_self,Po fun d m=>h d (List.mem_cons_of_mem _ m)⟩
abbrev Pure1 (f:Fn) (ds:List D) (r:D):Prop:=∀S,Wf f ds S fun v S'=>v=r∧S'=S
theorem Pure1.use {f:Fn} {ds:List D} {r:D} (h:Pure1 f ds r) {S:List Ob} {P:D→List Ob→Prop} (p:P r S):Wf f ds S P:=(h S).mono fun _ _ ⟨e1,e2⟩=>by subst e1 e2;exact p
def Ly:D→Bool
 | .int _=>true
 | _=>false
theorem Lz {d:D} (h:okD d=true):Pure1 (fnOf 1 1 EC) [d] (.bl (Ly d)):=by
 intro S
 refine AX rfl ?_
 unfold EC
 cases d <;> first | (simp [okD] at h;done) | (walk_at "w";exact ⟨rfl,rfl⟩)
def Dl (lo hi:Int):D→Bool
 | .int i=>decide (lo≤i) && decide (i≤hi)
 | _=>false
def MS (f:Fn):Prop:=∀d,okD d=true→Pure1 f [d] (.bl (Ly d))
def Fc (f:Fn):Prop:=∀d lo hi,okD d=true→Pure1 f [d,.int lo,.int hi] (.bl (Dl lo hi d))
theorem P7 {c:Fn} (hc:MS c):Fc (fnOf 3 3 (CP c)):=by
 intro d lo hi h S
 refine AX rfl ?_
 unfold CP
 walk_at "w"
 refine (hc d h).use ?_
 cases d with
 | int i=>
   walk_at "w"
   refine Cj (fun e=>?_) fun e=>?_
   ·walk_at "w"
    exact ⟨by simp only [Dl,e,Bool.true_and],rfl⟩
   ·exact ⟨by simp only [Dl,e,Bool.false_and],rfl⟩
 | _=>walk_at "w";exact ⟨rfl,rfl⟩
theorem LC (s:String):(Str.ofString s).length=s.toList.length:=by
 show (Str.ofString s).cps.size=_
 rw [Str.ofString_eq_toList];simp
theorem C9 {i:Int} (h1 : -1000000000000000000000000000000000000000000 < i) (h2:i < 1000000000000000000000000000000000000000000):i.natAbs.log2 < 1920:=by
 by_cases h:i.natAbs=0
 ·rw [h];decide
 ·rw [Nat.log2_lt h]
  have h3:i.natAbs < 1000000000000000000000000000000000000000000:=by lia
  have h4:(1000000000000000000000000000000000000000000:Nat)≤2 ^ 150:=by decide
  have h5:(2:Nat) ^ 150≤2 ^ 1920:=Nat.pow_le_pow_right (by decide) (by decide)
  exact Nat.lt_of_lt_of_le h3 (Nat.le_trans h4 h5)
theorem Fz (x:Str):x.length=x.cps.toList.length:=by simp [Str.length]
theorem JV (x y:Str):(x++y).cps.toList=x.cps.toList++y.cps.toList:=by
 show (x.cps++y.cps).toList=_
 simp
def IN (lo hi:D):Bool:=match lo,hi with
 | .int l,.int h=>decide (-1000000000000000000 < l) && decide (l≤h) && decide (h < 1000000000000000000)
 | _,_=>false
def Hg (m:D):Bool:=match m with
 | .int i=>decide (0≤i) && decide (i≤250)
 | _=>false
def By:D→Option (List D)
 | .tup [.str w]=>if w=Str.ofString "nothing" then some [] else none
 | .tup [.str w,a]=>
   if w=Str.ofString "text" then (if Hg a=true then some [] else none)
   else if w=Str.ofString "choice" then (match a with
    | .tup ss=>if 1≤ss.length∧ss.length≤9 then some ss else none
    | _=>none)
   else none
 | .tup [.str w,a,b]=>
   if w=Str.ofString "number" then (if IN a b=true then some [] else none)
   else if w=Str.ofString "list" then (if Hg b=true then some [a] else none)
   else if w=Str.ofString "pair" then some [a,b]
   else none
 | _=>none
def BR:List D→Option (List D)
 | []=>some []
 | d :: r=>match By d,BR r with
   | some a,some b=>some (a++b)
   | _,_=>none
def GZ:Nat→Nat→List D→Bool
 | 0,_,_=>false
 | n + 1,c,l=>if 60 < c + l.length then false else match BR l with
   | none=>false
   | some b=>if b.isEmpty then true else GZ n (c + l.length) b
def D2 (d:D):Bool:=GZ 6 0 [d]
@[simp] theorem W_eq_form {g:Bool→Bool} {x y:Str} {n m:Int} {t:T} {P:D→T→Prop}:W (eqS g (.tup [.str x,.int n]) (.tup [.str y,.int m])) t P↔P (.bl (g ((x == y && (n == m && true)) && true))) t:=AO rfl
theorem A1 {g:Bool→Bool} {x y:Str} {n m:Int} {t:T} {P:D→T→Prop} (h:P (.bl (g ((x == y && (n == m && true)) && true))) t):W (eqS g (.tup [.str x,.int n]) (.tup [.str y,.int m])) t P:=W_eq_form.mpr h
def K1 (f:Fn):Prop:=∀a b,okD a=true→okD b=true→Pure1 f [a,b] (.bl (IN a b))
theorem NY {c:Fn} (hc:Fc c):K1 (fnOf 2 2 (FB c)):=by
 intro a b ha hb S
 refine AX rfl ?_
 unfold FB
 walk_at "w"
 refine (hc b _ _ hb).use ?_
 walk_at "w"
 cases b with
 | int h=>
   refine Cj (fun q=>?_) fun q=>?_
   ·walk_at "w"
    refine (hc a _ _ ha).use ⟨?_,rfl⟩
    cases a with
    | int l=>
      simp only [Dl,Bool.and_eq_true,decide_eq_true_eq] at q
      simp only [IN,Dl]
      congr 1
      rw [Bool.eq_iff_iff]
      simp only [Bool.and_eq_true,decide_eq_true_eq]
      lia
    | _=>rfl
   ·refine ⟨?_,rfl⟩
    cases a with
    | int l=>
      simp only [Dl,Bool.and_eq_false_iff,decide_eq_false_iff_not] at q
      simp only [IN]
      congr 1
      symm
      rw [Bool.eq_false_iff]
      simp only [ne_eq,Bool.and_eq_true,decide_eq_true_eq]
      lia
    | _=>rfl
 | _=>walk_at "w";exact ⟨by cases a <;> rfl,rfl⟩
def Dc:Option (List D)→D
 | none=>.non
 | some ps=>.tup ps
def I9 (f:Fn):Prop:=∀d,okD d=true→Pure1 f [d] (Dc (By d))
theorem QP {cw cs:Fn} (hw:Fc cw) (hs:K1 cs):I9 (fnOf 1 2 (EX cw cs)):=by
 intro d h S
 refine AX rfl ?_
 unfold EX
 cases d with
 | tup ds=>
   have hx:∀d∈ds,okD d=true:=Hh (by simpa [okD] using h)
   match ds,hx with
   | [],_=>walk_at "w";exact ⟨rfl,rfl⟩
   | a :: r,hx=>
     have ha:=hx a List.mem_cons_self
     cases a with
     | str w=>
       walk_at "w"
       match r,hx with
       | [],_=>
         refine A1 ?_
         by_cases h1:w=Str.ofString "nothing"
         ·subst h1
          walk_at "w"
          exact ⟨by simp [By,Dc],rfl⟩
         ·refine BJ (Bt (by simp [h1]) ?_)
          walk_at "w"
          refine A1 (BJ (Bt (by simp) ?_))
          walk_at "w"
          refine A1 (BJ (Bt (by simp) ?_))
          walk_at "w"
          refine A1 (BJ (Bt (by simp) ?_))
          walk_at "w"
          refine A1 (BJ (Bt (by simp) ?_))
          walk_at "w"
          refine A1 (BJ (Bt (by simp) ?_))
          walk_at "w"
          exact ⟨by simp [By,Dc,h1],rfl⟩
       | [b],hx=>
         refine A1 (BJ (Bt (by simp) ?_))
         walk_at "w"
         refine A1 (BJ (Bt (by simp) ?_))
         walk_at "w"
         by_cases h1:w=Str.ofString "text"
         ·subst h1
          refine A1 (BJ (Do (by simp) ?_))
          walk_at "w"
          refine (hw b _ _ (hx b (by simp))).use ?_
          walk_at "w"
          have e:Dl 0 250 b=Hg b:=by cases b <;> rfl
          rw [e]
          refine Cj (fun q=>?_) fun q=>?_
          ·walk_at "w"
           exact ⟨by simp [By,Dc,q],rfl⟩
          ·walk_at "w"
           refine A1 (BJ (Bt (by simp) ?_))
           walk_at "w"
           refine A1 (BJ (Bt (by simp) ?_))
           walk_at "w"
           refine A1 (BJ (Bt (by simp) ?_))
           walk_at "w"
           exact ⟨by simp [By,Dc,q],rfl⟩
         ·refine A1 (BJ (Bt (by simp [h1]) ?_))
          walk_at "w"
          refine A1 (BJ (Bt (by simp) ?_))
          walk_at "w"
          refine A1 (BJ (Bt (by simp) ?_))
          walk_at "w"
          by_cases h2:w=Str.ofString "choice"
          ·subst h2
           refine A1 (BJ (Do (by simp) ?_))
           walk_at "w"
           have hb:=hx b (by simp)
           cases b with
           | tup ss=>
             walk_at "w"
             refine Cj (fun q=>?_) fun q=>?_
             ·walk_at "w"
              refine Cj (fun q'=>?_) fun q'=>?_
              ·walk_at "w"
               have q1:=of_decide_eq_true q
               have q2:=of_decide_eq_true q'
               refine ⟨?_,rfl⟩
               simp only [By,Dc,BE,reduceCtorEq,if_false,if_true,String.reduceEq]
               rw [if_pos ⟨by lia,by lia⟩]
              ·walk_at "w"
               have q2:=of_decide_eq_false q'
               refine ⟨?_,rfl⟩
               simp only [By,Dc,BE,if_false,if_true,String.reduceEq]
               rw [if_neg (by lia)]
             ·walk_at "w"
              have q1:=of_decide_eq_false q
              refine ⟨?_,rfl⟩
              simp only [By,Dc,BE,if_false,if_true,String.reduceEq]
              rw [if_neg (by lia)]
           | obj _=>simp [okD] at hb
           | scr _=>simp [okD] at hb
           | ty _=>simp [okD] at hb
           | exc _ _=>simp [okD] at hb
           | _=>walk_at "w";exact ⟨by simp [By,Dc,BE],rfl⟩
          ·refine A1 (BJ (Bt (by simp [h2]) ?_))
           walk_at "w"
           exact ⟨by simp [By,Dc,h1,h2],rfl⟩
       | [b,e],hx=>
         refine A1 (BJ (Bt (by simp) ?_))
         walk_at "w"
         by_cases h1:w=Str.ofString "number"
         ·subst h1
          refine A1 (BJ (Do (by simp) ?_))
          walk_at "w"
          refine (hs b e (hx b (by simp)) (hx e (by simp))).use ?_
          walk_at "w"
          refine Cj (fun q=>?_) fun q=>?_
          ·walk_at "w"
           exact ⟨by simp [By,Dc,q],rfl⟩
          ·walk_at "w"
           refine A1 (BJ (Bt (by simp) ?_))
           walk_at "w"
           refine A1 (BJ (Bt (by simp) ?_))
           walk_at "w"
           refine A1 (BJ (Bt (by simp) ?_))
           walk_at "w"
           refine A1 (BJ (Bt (by simp) ?_))
           walk_at "w"
           exact ⟨by simp [By,Dc,q],rfl⟩
         ·refine A1 (BJ (Bt (by simp [h1]) ?_))
          walk_at "w"
          refine A1 (BJ (Bt (by simp) ?_))
          walk_at "w"
          by_cases h2:w=Str.ofString "list"
          ·subst h2
           refine A1 (BJ (Do (by simp) ?_))
           walk_at "w"
           refine (hw e _ _ (hx e (by simp))).use ?_
           walk_at "w"
           have e':Dl 0 250 e=Hg e:=by cases e <;> rfl
           rw [e']
           refine Cj (fun q=>?_) fun q=>?_
           ·walk_at "w"
            exact ⟨by simp [By,Dc,q,BE],rfl⟩
           ·walk_at "w"
            refine A1 (BJ (Bt (by simp) ?_))
            walk_at "w"
            refine A1 (BJ (Bt (by simp) ?_))
            walk_at "w"
            exact ⟨by simp [By,Dc,q,BE],rfl⟩
          ·refine A1 (BJ (Bt (by simp [h2]) ?_))
           walk_at "w"
           by_cases h3:w=Str.ofString "pair"
           ·subst h3
            refine A1 (BJ (Do (by simp) ?_))
            walk_at "w"
            exact ⟨by simp [By,Dc,BE],rfl⟩
           ·refine A1 (BJ (Bt (by simp [h3]) ?_))
            walk_at "w"
            refine A1 (BJ (Bt (by simp) ?_))
            walk_at "w"
            exact ⟨by simp [By,Dc,h1,h2,h3],rfl⟩
       | b :: e :: f :: l,hx=>
         have ne:∀j:Int,j≤3→(((D.str w :: b :: e :: f :: l).length:Int) == j)=false:=fun j hj=>by
          have:¬(((D.str w :: b :: e :: f :: l).length:Int)=j):=by simp;lia
          simpa using this
         refine A1 (BJ (Bt (by simp only [ne 1 (by decide),Bool.false_and,Bool.and_false,id]) ?_))
         walk_at "w"
         refine A1 (BJ (Bt (by simp only [ne 3 (by decide),Bool.false_and,Bool.and_false,id]) ?_))
         walk_at "w"
         refine A1 (BJ (Bt (by simp only [ne 2 (by decide),Bool.false_and,Bool.and_false,id]) ?_))
         walk_at "w"
         refine A1 (BJ (Bt (by simp only [ne 3 (by decide),Bool.false_and,Bool.and_false,id]) ?_))
         walk_at "w"
         refine A1 (BJ (Bt (by simp only [ne 3 (by decide),Bool.false_and,Bool.and_false,id]) ?_))
         walk_at "w"
         refine A1 (BJ (Bt (by simp only [ne 2 (by decide),Bool.false_and,Bool.and_false,id]) ?_))
         walk_at "w"
         exact ⟨by simp [By,Dc],rfl⟩
     | obj _=>simp [okD] at ha
     | scr _=>simp [okD] at ha
     | ty _=>simp [okD] at ha
     | exc _ _=>simp [okD] at ha
     | _=>walk_at "w";exact ⟨by simp [By,Dc],rfl⟩
 | obj _=>simp [okD] at h
 | scr _=>simp [okD] at h
 | ty _=>simp [okD] at h
 | exc _ _=>simp [okD] at h
 | _=>walk_at "w";exact ⟨by simp [By,Dc],rfl⟩
def Fs (f:Fn):Prop:=∀d,okD d=true→Pure1 f [d] (.bl (D2 d))
theorem Ps {d:D} {ps:List D} (h:okD d=true) (e:By d=some ps):(∀p∈ps,okD p=true)∧ps.length≤9:=by
 unfold By at e
 split at e
 ·split at e
  ·cases e;exact ⟨fun p hp=>(nomatch hp),by decide⟩
  ·cases e
 ·next w a=>
  have ha:okD a=true:=by simp [okD,oks] at h;exact h.2
  split at e
  ·split at e
   ·cases e;exact ⟨fun p hp=>(nomatch hp),by decide⟩
   ·cases e
  ·split at e
   ·split at e
    ·split at e
     ·next hl=>cases e;exact ⟨Hh (by simpa [okD] using ha),hl.2⟩
     ·cases e
    ·cases e
   ·cases e
 ·next w a b=>
  have ha:okD a=true∧okD b=true:=by simp [okD,oks] at h;exact ⟨h.2.1,h.2.2⟩
  split at e
  ·split at e
   ·cases e;exact ⟨fun p hp=>(nomatch hp),by decide⟩
   ·cases e
  ·split at e
   ·split at e
    ·cases e;exact ⟨fun p hp=>by rw [List.mem_singleton] at hp;subst hp;exact ha.1,by simp⟩
    ·cases e
   ·split at e
    ·cases e
     refine ⟨fun p hp=>?_,by simp⟩
     simp only [List.mem_cons,List.not_mem_nil,or_false] at hp
     rcases hp with rfl | rfl
     ·exact ha.1
     ·exact ha.2
    ·cases e
 ·cases e
theorem Qv {xs ys:List D} (h:xs.length + ys.length≤LIM):HA xs [.tup ys]=some (xs++ys):=by simp [HA,h]
theorem ME {c:Fn} (hc:I9 c):Fs (fnOf 1 7 (EV c)):=by
 intro d hd S
 refine AX rfl ?_
 unfold EV
 have hL:LIM=100000:=rfl
 walk_at "w"
 refine Ez (fun r t=>∃(n:Nat) (cnt:Nat) (l:List D) (e3 e4 e5 e6:Option Sl),r.length=n∧l≠[]∧(∀d∈l,okD d=true)∧D2 d=GZ n cnt l∧t=⟨[some (.val d),some (.val (.lst l)),some (.val (.int cnt)),e3,e4,e5,e6],S⟩) _ _ ⟨6,0,[d],_,_,_,_,rfl,by simp,by simpa using hd,rfl,rfl⟩ ?_ ?_
 ·rintro x r t ⟨n,cnt,l,e3,e4,e5,e6,hr,hne,hl,hB,rfl⟩ _
  obtain ⟨m,rfl⟩:∃m,n=m + 1:=⟨r.length,by simpa using hr.symm⟩
  have hr':r.length=m:=by simpa using hr
  rw [GZ] at hB
  walk_at "w"
  refine Cj (fun q=>?_) fun q=>?_
  ·walk_at "w"
   have q1:(60:Int) < (cnt:Int) + (l.length:Int):=of_decide_eq_true q
   exact ⟨by rw [hB,if_pos (by lia)],rfl⟩
  have q1:¬(60:Int) < (cnt:Int) + (l.length:Int):=of_decide_eq_false q
  rw [if_neg (by lia)] at hB
  walk_at "w"
  have fin:∀(b:List D) (e5 e6:Option Sl),(BR l=some b)→(∀d∈b,okD d=true)→W (Ap (ifS (Az (Aj (fB (Ac (Ad 4) Ah) BT) (fC (.int 0)) (eqS id))) (AH (fC (.bl true))) AU) (Bf 1 (Ad 4))) ⟨[some (.val d),some (.val (.lst l)),some (.val (.int (cnt + l.length))),some (.val x),some (.own b),e5,e6],S⟩ (fun o t2=>match o with
   | .next=>∃(n:Nat) (cnt:Nat) (l:List D) (e3 e4 e5 e6:Option Sl),r.length=n∧l≠[]∧(∀d∈l,okD d=true)∧D2 d=GZ n cnt l∧t2=⟨[some (.val d),some (.val (.lst l)),some (.val (.int cnt)),e3,e4,e5,e6],S⟩
   | .cont=>∃(n:Nat) (cnt:Nat) (l:List D) (e3 e4 e5 e6:Option Sl),r.length=n∧l≠[]∧(∀d∈l,okD d=true)∧D2 d=GZ n cnt l∧t2=⟨[some (.val d),some (.val (.lst l)),some (.val (.int cnt)),e3,e4,e5,e6],S⟩
   | .brk=>False
   | .ret v=>v = .bl (D2 d)∧t2.S=S):=by
   intro b e5 e6 hb hbo
   rw [hb] at hB
   walk_at "w"
   cases b with
   | nil=>
     walk_at "w"
     exact ⟨by rw [hB];rfl,rfl⟩
   | cons y ys=>
     refine Bt (by show ((((y :: ys).length:Nat):Int) == 0)=false;simp;lia) ?_
     walk_at "w"
     exact ⟨m,cnt + l.length,y :: ys,_,_,_,_,hr',by simp,hbo,by rw [hB];rfl,rfl⟩
  refine (Ez (P:=fun o t1=>(∃b e5 e6,o = .next∧BR l=some b∧(∀d∈b,okD d=true)∧t1=⟨[some (.val d),some (.val (.lst l)),some (.val (.int (cnt + l.length))),some (.val x),some (.own b),e5,e6],S⟩)∨(o = .ret (.bl false)∧BR l=none∧t1.S=S))
   (fun r' t=>∃b e5 e6,(∃pre,l=pre++r'∧BR pre=some b)∧b.length + 9 * r'.length≤540∧(∀d∈b,okD d=true)∧t=⟨[some (.val d),some (.val (.lst l)),some (.val (.int (cnt + l.length))),some (.val x),some (.own b),e5,e6],S⟩) l _ ⟨[],_,_,⟨[],rfl,rfl⟩,by simp;lia,fun _ z=>(nomatch z),rfl⟩ ?_ ?_).mono ?_
  ·rintro y r' t ⟨b,e5,e6,⟨pre,hpre,hpa⟩,hlen,hbo,rfl⟩ hy
   walk_at "w"
   refine (hc y (hl y hy)).use ?_
   walk_at "w"
   cases e:By y with
   | none=>
     refine Do rfl ?_
     walk_at "w"
     refine .inr ⟨rfl,?_,rfl⟩
     have nn:∀pre':List D,BR (pre'++y :: r')=none:=by
      intro pre'
      induction pre' with
      | nil=>simp only [List.nil_append,BR,e]
      | cons z zs ih=>
        simp only [List.cons_append,BR,ih]
        cases By z <;> rfl
     rw [hpre];exact nn pre
   | some ps=>
     obtain ⟨h1,h2⟩:=Ps (hl y hy) e
     refine Bt rfl ?_
     walk_at "w"
     refine ⟨b,rfl,b++ps,Qv (by rw [hL];simp at hlen;lia),?_⟩
     refine ⟨b++ps,_,_,⟨pre++[y],by rw [hpre];simp,?_⟩,by simp at hlen ⊢;lia,fun d hd=>?_,rfl⟩
     ·have app:∀(pre':List D) (b':List D),BR pre'=some b'→BR (pre'++[y])=some (b'++ps):=by
       intro pre'
       induction pre' with
       | nil=>intro b' hb';simp only [BR,Option.some.injEq] at hb';subst hb';simp [BR,e]
       | cons z zs ih=>
         intro b' hb'
         simp only [BR] at hb'
         cases ez:By z with
         | none=>rw [ez] at hb';cases hb'
         | some a=>
           cases ezs:BR zs with
           | none=>rw [ez,ezs] at hb';cases hb'
           | some bs=>
             rw [ez,ezs] at hb'
             cases hb'
             simp only [List.cons_append,BR,ez,ih bs ezs,List.append_assoc]
      exact app pre b hpa
     ·rcases List.mem_append.mp hd with z | z
      ·exact hbo d z
      ·exact h1 d z
  ·rintro t ⟨b,e5,e6,⟨pre,hpre,hpa⟩,hlen,hbo,rfl⟩
   rw [List.append_nil] at hpre
   subst hpre
   exact .inl ⟨b,_,_,rfl,hpa,hbo,rfl⟩
  ·rintro o t1 (⟨b,e5,e6,rfl,hb,hbo,rfl⟩ | ⟨rfl,hn,hS⟩)
   ·refine Cq ((fin b e5 e6 hb hbo).mono fun o t2 h=>?_)
    cases o with
    | next=>exact h
    | cont=>exact h
    | brk=>exact h.elim
    | ret v=>exact h
   ·refine Me ?_
    rw [hn] at hB
    exact ⟨by rw [hB],hS⟩
 ·rintro t ⟨n,cnt,l,e3,e4,e5,e6,hr,hne,hl,hB,rfl⟩
  have:n=0:=by simpa using hr.symm
  subst this
  walk_at "w"
  exact ⟨by rw [hB];rfl,rfl⟩
mutual
def sz:D→Nat
 | .tup xs=>szs xs + 1
 | .lst xs=>szs xs + 1
 | _=>1
def szs:List D→Nat
 | []=>0
 | d :: r=>sz d + szs r
end
theorem LQ {s:String} (h:(Str.ofString s).length≤90000:=by decide +kernel):okD (.str (Str.ofString s))=true:=by rw [okD];exact decide_eq_true h
theorem U2 {xs:List D} (h:∀d∈xs,okD d=true):okD (.tup xs)=true:=by rw [okD];exact Po h
theorem RW {x y:D} (h1:okD x=true) (h2:okD y=true):okD (.tup [x,y])=true:=U2 (by simp only [List.forall_mem_cons];exact ⟨h1,h2,fun _ z=>nomatch z⟩)
theorem Oc {x y z:D} (h1:okD x=true) (h2:okD y=true) (h3:okD z=true):okD (.tup [x,y,z])=true:=U2 (by simp only [List.forall_mem_cons];exact ⟨h1,h2,h3,fun _ z=>nomatch z⟩)
mutual
def wf:Sh→Bool
 | .nothing=>true
 | .number lo hi=>decide (-1000000000000000000 < lo) && decide (lo≤hi) && decide (hi < 1000000000000000000)
 | .text m=>decide (0≤m) && decide (m≤250)
 | .list s m=>decide (0≤m) && decide (m≤250) && wf s
 | .pair s r=>wf s && wf r
 | .choice ss=>decide (1≤ss.length) && decide (ss.length≤9) && wfs ss
def wfs:List Sh→Bool
 | []=>true
 | s :: r=>wf s && wfs r
end
mutual
def cnt:Sh→Nat
 | .list s _=>cnt s + 1
 | .pair s r=>cnt s + cnt r + 1
 | .choice ss=>CB ss + 1
 | _=>1
def CB:List Sh→Nat
 | []=>0
 | s :: r=>cnt s + CB r
end
def C3:Sh→List Sh
 | .list s _=>[s]
 | .pair s r=>[s,r]
 | .choice ss=>ss
 | _=>[]
theorem JT:∀{ss:List Sh},wfs ss=true→∀s∈ss,wf s=true
 | x :: r,h,s,m=>by
   rw [wfs,Bool.and_eq_true] at h
   rcases List.mem_cons.mp m with z | z
   ·subst z;exact h.1
   ·exact JT h.2 s z
theorem P6:∀{ss:List Sh},(∀s∈ss,wf s=true)→wfs ss=true
 | [],_=>rfl
 | x :: r,h=>by rw [wfs,h x List.mem_cons_self,P6 fun s m=>h s (List.mem_cons_of_mem _ m)];rfl
theorem Sz (s:Sh):1≤cnt s:=by cases s <;> simp [cnt]
theorem Qq (s:Sh):cnt s=CB (C3 s) + 1:=by cases s <;> simp [cnt,C3,CB]
theorem Ev:∀ss:List Sh,shD ss=ss.map Sh.d
 | []=>rfl
 | s :: r=>by rw [shD,Ev r];rfl
theorem FG:∀{ss:List Sh} {s:Sh},s∈ss→s.depth≤Hm ss
 | x :: r,s,m=>by
   rw [Hm]
   rcases List.mem_cons.mp m with z | z
   ·subst z;lia
   ·have:=FG z;lia
theorem N3 {s:Sh} {n:Nat} (h:s.depth≤n + 1):∀k∈C3 s,k.depth≤n:=by
 intro k hk
 cases s with
 | list s m=>simp only [C3,List.mem_singleton] at hk;subst hk;rw [Sh.depth] at h;lia
 | pair s r=>
   simp only [C3,List.mem_cons,List.not_mem_nil,or_false] at hk
   rw [Sh.depth] at h
   rcases hk with rfl | rfl <;> lia
 | choice ss=>rw [Sh.depth] at h;have:=FG (show k∈ss from hk);lia
 | _=>simp [C3] at hk
theorem SU {s:Sh} (h:wf s=true):∀k∈C3 s,wf k=true:=by
 intro k hk
 cases s with
 | list s m=>simp only [C3,List.mem_singleton] at hk;subst hk;simp [wf] at h;exact h.2
 | pair s r=>
   simp only [C3,List.mem_cons,List.not_mem_nil,or_false] at hk
   simp [wf] at h
   rcases hk with rfl | rfl
   ·exact h.1
   ·exact h.2
 | choice ss=>simp [wf] at h;exact JT h.2 k hk
 | _=>simp [C3] at hk
theorem QQ {s:Sh} (h:wf s=true):By s.d=some ((C3 s).map Sh.d):=by
 cases s with
 | nothing=>rw [Sh.d];simp [By,C3]
 | number lo hi=>
   simp [wf] at h
   rw [Sh.d];simp [By,C3,IN,h]
 | text m=>simp [wf] at h;rw [Sh.d];simp [By,C3,Hg,h]
 | list s m=>simp [wf] at h;rw [Sh.d];simp [By,C3,Hg,h,BE]
 | pair s r=>rw [Sh.d];simp [By,C3,BE]
 | choice ss=>
   simp [wf] at h
   rw [Sh.d]
   simp only [By,BE,String.reduceEq,if_false,if_true,C3]
   rw [Nw,if_pos h.1,Ev]
theorem Hv:∀{ss:List Sh},(∀s∈ss,wf s=true)→BR (ss.map Sh.d)=some ((ss.flatMap C3).map Sh.d)
 | [],_=>rfl
 | s :: r,h=>by
   simp only [List.map_cons,BR,QQ (h s List.mem_cons_self),Hv fun s m=>h s (List.mem_cons_of_mem _ m),List.flatMap_cons,List.map_append]
theorem Lh:∀xs ys:List Sh,CB (xs++ys)=CB xs + CB ys
 | [],ys=>by simp [CB]
 | x :: xs,ys=>by simp [CB,Lh xs ys];lia
theorem J3:∀ss:List Sh,CB ss=ss.length + CB (ss.flatMap C3)
 | []=>rfl
 | s :: r=>by
   have:=J3 r
   rw [CB,Qq,List.flatMap_cons,Lh,List.length_cons]
   lia
theorem Pj:∀(n c:Nat) (ss:List Sh),ss≠[]→(∀s∈ss,wf s=true)→(∀s∈ss,s.depth≤n)→c + CB ss≤60→GZ n c (ss.map Sh.d)=true
 | 0,c,ss,hne,_,hd,_=>by
   cases ss with
   | nil=>exact absurd rfl hne
   | cons s r=>have:=hd s List.mem_cons_self;have:=s.depth_pos;lia
 | n + 1,c,ss,hne,hw,hd,hc=>by
   have e:=J3 ss
   rw [GZ,List.length_map,if_neg (by lia),Hv hw]
   simp only [List.isEmpty_map]
   cases hk:ss.flatMap C3 with
   | nil=>rfl
   | cons k ks=>
     rw [if_neg (by simp),←hk]
     refine Pj n _ _ (by rw [hk];simp) (fun s hs=>?_) (fun s hs=>?_) (by lia)
     ·obtain ⟨x,h1,h2⟩:=List.mem_flatMap.mp hs
      exact SU (hw x h1) s h2
     ·obtain ⟨x,h1,h2⟩:=List.mem_flatMap.mp hs
      exact N3 (hd x h1) s h2
theorem Mf {s:Sh} (hw:wf s=true) (hd:s.depth≤6) (hc:cnt s≤60):D2 s.d=true:=by
 have:=Pj 6 0 [s] (by simp) (by simpa using hw) (by simpa using hd) (by simpa [CB] using hc)
 exact this
mutual
theorem Hn:∀s:Sh,okD s.d=true
 | .nothing=>by rw [Sh.d];decide +kernel
 | .number _ _=>by rw [Sh.d];exact Oc LQ rfl rfl
 | .text _=>by rw [Sh.d];exact RW LQ rfl
 | .list s _=>by rw [Sh.d];exact Oc LQ (Hn s) rfl
 | .pair s r=>by rw [Sh.d];exact Oc LQ (Hn s) (Hn r)
 | .choice ss=>by rw [Sh.d];exact RW LQ (by rw [okD];exact PQ ss)
theorem PQ:∀ss:List Sh,oks (shD ss)=true
 | []=>rfl
 | s :: r=>by rw [shD,oks,Hn s,PQ r];rfl
end
theorem HM {xs:List D} {i:Int} (h0:0≤i) (h1:i < xs.length) {p:D→Prop} (h:∀d∈xs,p d):∃d,atI xs i=some d∧p d:=by
 obtain ⟨d,e,m,_⟩:=Sr h0 h1
 exact ⟨d,e,h d m⟩
def Rw (k c l:Nat) (S S':List Ob):Prop:=S'.length=S.length∧∀j:Nat,j≠k→j≠c→j≠l→S'[j]?=S[j]?
def Ol (deep:Int):Int:=if deep < 2 then 0 else 2 * deep + 4
def bd (deep x:Int):Int:=if deep < 2 then 1 else max x 1 + Ol deep - (if deep + 1≤x then 1 else 0)
def tb (deep y i:Int):Int:=if deep=2 then i else if i=0 then 0 else y + Ol (deep - 1) + i - 1 - (if deep≤y then 1 else 0)
structure ShapeRes (k c l:Nat) (S:List Ob) (deep x:Int) (s:Sh) (S':List Ob):Prop where
 w:wf s=true
 dep:(s.depth:Int)≤max deep 1
 lft:S'[l]?=some (.lst [.int (x - cnt s)])
 one:x≤1→cnt s=1
 few:(cnt s:Int)≤max x 1 + Ol deep
 deck:DeckAt k c S'
 kp:Rw k c l S S'
 few2:(cnt s:Int)≤bd deep x
structure Sep (ks:List (Nat×Nat)):Prop where
 sep:∀p∈ks,∀q∈ks,p=q∨(q.1≠p.1∧q.1≠p.2∧q.2≠p.1∧q.2≠p.2)
mutual
def dpt:D→Nat
 | .lst ds=>Qu ds + 1
 | .tup ds=>Qu ds + 1
 | _=>1
def Qu:List D→Nat
 | []=>0
 | d :: r=>max (dpt d) (Qu r)
end
mutual
def smD:D→Bool
 | .str x=>decide (x.length≤300)
 | .int i=>decide (-1000000000000000000000000 < i) && decide (i < 1000000000000000000000000)
 | .tup xs=>decide (xs.length≤300) && sms xs
 | .lst xs=>decide (xs.length≤300) && sms xs
 | .obj _=>false
 | .scr _=>false
 | .ty _=>false
 | .exc _ _=>false
 | _=>true
def sms:List D→Bool
 | []=>true
 | d :: r=>smD d && sms r
end
theorem GR {f:D→D→Option Bool}:∀{xs:List D},(∀d∈xs,f d d=some true)→CD f xs xs=some true
 | [],_=>rfl
 | x :: r,h=>by
   rw [CD,h x List.mem_cons_self,GR fun d m=>h d (List.mem_cons_of_mem _ m)]
   rfl
theorem Uf {d:D} {g:Bool→Bool} {t:T} {P:D→T→Prop} (h0:QC d=false) (h:eqN EQD d d=some true) (p:P (.bl (g true)) t):W (eqS g d d) t P:=⟨_,_,by simp [eqS,h0,h],p⟩
structure ValueRes (k c l:Nat) (S:List Ob) (s:Sh) (r:D) (S':List Ob):Prop where
 fit:EU s r=true
 lft:∃a b:Int,S'[l]?=some (.lst [.int a,.int b])
 deck:DeckAt k c S'
 kp:Rw k c l S S'
theorem KQ {n:Nat} {x:Str} {kvs:List (Key×D)} {d:D} {t:T} {P:D→T→Prop} (e:t.S[n]?=some (.dct kvs)) (e2:CV kvs (.inr x)=some d) (h:P d t):W (Fv (.obj n) (.str x)) t P:=
 ⟨d,t,by simp only [Fv,e,e2];rfl,h⟩
theorem Mv {f g:M D} {d:D} {t:T} {U:Unit→T→Prop} (h:W f t fun o t1=>W g t1 fun i t2=>W (Ga o i d) t2 U):W (IP f g d) t U:=Ex (h.mono fun o t1 h1=>Ex h1)
theorem HY {n:Nat} {x:Str} {d:D} {kvs:List (Key×D)} {t:T} {U:Unit→T→Prop} (e:t.S[n]?=some (.dct kvs)) (hl:kvs.length < LIM) (h:U () ⟨t.env,t.S.set n (.dct (CN kvs (.inr x) d))⟩):W (Ga (.obj n) (.str x) d) t U:=
 ⟨(),_,by simp only [Ga,e,if_pos hl],h⟩
theorem WF {l:List (Str×M D)} {t:T} {P:D→T→Prop} (h:W (DR l) ⟨t.env,t.S++[.dct []]⟩ fun ps t1=>t1.S[t.S.length]?=some (.dct [])∧ps.length≤15∧P (.obj t.S.length) ⟨t1.env,t1.S.set t.S.length (.dct (F4 ps))⟩):W (KH l) t P:=by
 obtain ⟨ps,t1,e1,e2,e3,p⟩:=h
 refine ⟨_,_,?_,p⟩
 unfold KH bnd
 simp only [e1]
 unfold Jg
 simp only [e2,if_pos e3]
theorem P2 {t:T} {Q:List (Key×D)→T→Prop} (h:Q [] t):W (DR []) t Q:=⟨_,_,rfl,h⟩
theorem GC {k:Str} {f:M D} {r:List (Str×M D)} {t:T} {Q:List (Key×D)→T→Prop} (h:W f t fun d t1=>W (DR r) t1 fun ps t2=>Q ((.inr k,d) :: ps) t2):W (DR ((k,f) :: r)) t Q:=
 Ex (h.mono fun d t1 h1=>Ex (h1.mono fun ps t2 h2=>⟨_,_,rfl,h2⟩))
structure St where
 rest:Int
 mixed:Bool
 turn:Int
def St.ob (s:St):Ob:=.dct [(.inr (Str.ofString "rest"),.int s.rest),(.inr (Str.ofString "mixed"),.bl s.mixed),(.inr (Str.ofString "turn"),.int s.turn)]
def take (s:St) (m:Int):Int×St:=
 if s.mixed=false then (s.rest % m,⟨s.rest / m,s.mixed,s.turn⟩)
 else
  let stir:=(s.rest % 2147483579 + 70001 * (s.turn + 1)) % 2147483579
  let rest:=(stir * stir % 2147483563 * 50021 + 7) % 2147483579
  (rest / 5 % m,⟨rest,s.mixed,s.turn + 1⟩)
theorem CT (a:Int) (n:Nat):(CG a n).length=n:=by simp [CG]
inductive GS where
 | fin
 | st (side:Str) (ws:List (Str×Sh×Int))
def wdD (w:Str×Sh×Int):D:=.tup [.str w.1,w.2.1.d,.int w.2.2]
def GS.d:GS→D
 | .fin=>.tup [.str (Str.ofString "end")]
 | .st side ws=>.tup [.str side,.lst (ws.map wdD)]
structure WOk (n:Int) (w:Str×Sh×Int):Prop where
 ok:wf w.2.1=true
 dep:w.2.1.depth≤3
 lo:0≤w.2.2
 hi:w.2.2 < n
 nm:w.1.length≤90000
inductive GSOk (n:Int):GS→Prop
 | fin:GSOk n .fin
 | st {side:Str} {ws:List (Str×Sh×Int)}:(side=Str.ofString "left"∨side=Str.ofString "right")→0 < ws.length→ws.length≤9→(ws.map (·.1)).Nodup→(∀w∈ws,WOk n w)→GSOk n (.st side ws)
structure GOk (g:List GS):Prop where
 ne:0 < g.length
 le:g.length≤30
 all:∀x∈g,GSOk g.length x
def GS.words:GS→D
 | .fin=>.tup []
 | .st _ ws=>.lst (ws.map wdD)
def GS.ws:GS→List (Str×Sh×Int)
 | .fin=>[]
 | .st _ ws=>ws
def GS.side:GS→Str
 | .fin=>Str.ofString "end"
 | .st s _=>s
def UK (g:List GS) (q:Nat):GS:=g.getD q .fin
def X7 (g:List GS) (q p:Nat):Str×Sh×Int:=(UK g q).ws.getD p (Str.ofString "",.nothing,0)
structure MvOk (g:List GS) (q:Nat) (p:Nat) (v:D):Prop where
 lt:q < g.length
 pl:p < (UK g q).ws.length
 fit:EU (X7 g q p).2.1 v=true
theorem Gf {f:M Bool} {b:M Out} {P:Out→T→Prop} (I:Nat→T→Prop) (turn:∀n t,I n t→W f t fun k t1=>match k with
 | true=>∃m,n=m + 1∧W b t1 fun o t2=>match o with
   | .next=>I m t2
   | .cont=>I m t2
   | .brk=>P .next t2
   | .ret x=>P (.ret x) t2
 | false=>P .next t1):∀(fuel n:Nat) (t:T),n < fuel→I n t→W (Di f b fuel) t P
 | 0,n,t,h,_=>absurd h (Nat.not_lt_zero _)
 | fuel + 1,n,t,h,i=>by
   obtain ⟨k,t1,e1,p⟩:=turn n t i
   cases k with
   | false=>exact ⟨_,_,by simp only [Di,e1],p⟩
   | true=>
     obtain ⟨m,rfl,o,t2,e2,p⟩:=p
     cases o with
     | next=>obtain ⟨o,t',e',p⟩:=Gf I turn fuel m t2 (by lia) p;exact ⟨o,t',by simp only [Di,e1,e2];exact e',p⟩
     | cont=>obtain ⟨o,t',e',p⟩:=Gf I turn fuel m t2 (by lia) p;exact ⟨o,t',by simp only [Di,e1,e2];exact e',p⟩
     | brk=>exact ⟨_,_,by simp only [Di,e1,e2],p⟩
     | ret x=>exact ⟨_,_,by simp only [Di,e1,e2],p⟩
def wid (n:Nat):Nat:=if n=0 then 0 else n.log2 / 8 + 1
def nb:Nat→Nat→List D
 | 0,_=>[]
 | w + 1,n=>nb w (n / 256)++[.int ((n % 256:Nat):Int)]
mutual
def K7:Sh→D→List D
 | .nothing,_=>[]
 | .number lo hi,d=>match d with
   | .int i=>nb (wid (hi - lo).toNat) (i - lo).toNat
   | _=>[]
 | .text _,d=>match d with
   | .str x=>.int (x.length:Nat) :: x.cps.toList.map fun n=>D.int (n:Nat)
   | _=>[]
 | .list s _,d=>match d with
   | .lst ds=>.int (ds.length:Nat) :: (ds.map fun d=>K7 s d).flatten
   | _=>[]
 | .pair s r,d=>match d with
   | .tup [a,b]=>K7 s a++K7 r b
   | _=>[]
 | .choice ss,d=>match d with
   | .tup [_,.int k,x]=>.int k :: Ry ss k.toNat x
   | _=>[]
def Ry:List Sh→Nat→D→List D
 | [],_,_=>[]
 | s :: _,0,d=>K7 s d
 | _ :: r,k + 1,d=>Ry r k d
end
abbrev kR:Key:=.inr (Str.ofString "rest")
abbrev kM:Key:=.inr (Str.ofString "mixed")
abbrev kC:Key:=.inr (Str.ofString "count")
theorem kRM:¬kR=kM:=by intro h;injection h with h;rw [BE] at h;exact absurd h (by decide)
theorem kRC:¬kR=kC:=by intro h;injection h with h;rw [BE] at h;exact absurd h (by decide)
theorem kMC:¬kM=kC:=by intro h;injection h with h;rw [BE] at h;exact absurd h (by decide)
theorem kMR:¬kM=kR:=fun h=>kRM h.symm
theorem kCR:¬kC=kR:=fun h=>kRC h.symm
abbrev Cp (a b c:D):List (Key×D):=[(kR,a),(kM,b),(kC,c)]
theorem Tw {a b c:D}:CV (Cp a b c) kR=some a:=by simp [CV,List.find?_cons]
theorem QY {a b c:D}:CV (Cp a b c) kM=some b:=by
 unfold CV Cp;rw [List.find?_cons,show decide (kR=kM)=false from decide_eq_false kRM];simp [List.find?_cons]
theorem LV {a b c:D}:CV (Cp a b c) kC=some c:=by
 unfold CV Cp
 rw [List.find?_cons,show decide (kR=kC)=false from decide_eq_false kRC]
 dsimp only
 rw [List.find?_cons,show decide (kM=kC)=false from decide_eq_false kMC]
 simp [List.find?_cons]
theorem Nk {a b c d:D}:CN (Cp a b c) kR d=Cp d b c:=by
 unfold CN Cp
 rw [if_pos (by simp)]
 simp only [List.map_cons,List.map_nil,if_true,if_neg kMR,if_neg kCR]
theorem Q0 {a b c d:D}:CN (Cp a b c) kC d=Cp a b d:=by
 unfold CN Cp
 rw [if_pos (by simp)]
 simp only [List.map_cons,List.map_nil,if_true,if_neg kRC,if_neg kMC]
theorem QX {a b c:D}:F4 (Cp a b c)=Cp a b c:=by
 unfold F4
 simp only [List.foldl_cons,List.foldl_nil]
 have e1:CN [] kR a=[(kR,a)]:=by simp [CN]
 rw [e1]
 have e2:CN [(kR,a)] kM b=[(kR,a),(kM,b)]:=by
  unfold CN
  rw [if_neg (by simp only [List.any_cons,List.any_nil,Bool.or_false,decide_eq_true_eq];exact kRM)];rfl
 rw [e2]
 unfold CN
 rw [if_neg (by
  simp only [List.any_cons,List.any_nil,Bool.or_false,Bool.or_eq_true,decide_eq_true_eq]
  intro h
  rcases h with h | h
  ·exact kRC h
  ·exact kMC h)]
 rfl
def Room (k r:Nat) (S:List Ob):Prop:=∃(a c:Int) (b:Bool),S[k]?=some (.dct (Cp (.int a) (.bl b) (.int c)))∧0≤c∧c + r≤1000000000000000000000000000000
theorem Room.mono {k r r':Nat} {S:List Ob} (h:Room k r S) (e:r'≤r):Room k r' S:=by
 obtain ⟨a,c,b,h1,h2,h3⟩:=h
 exact ⟨a,c,b,h1,h2,by lia⟩
theorem Room.loop {k r q m:Nat} {S:List Ob} (h:Room k (r + q * (m + 1)) S):Room k (r + q * m + q) S:=by rw [Nat.mul_succ,←Nat.add_assoc] at h;exact h
theorem Oq {i j:Int} {t:T} {P:D→T→Prop} (h1:i.natAbs < 2 ^ 512) (h2:j.natAbs < 2 ^ 512) (h:P (.int (i * j)) t):W (Jt (.int i) (.int j)) t P:=
 ⟨_,_,by simp only [Jt,i2C,LG,decide_eq_true h1,decide_eq_true h2];rfl,h⟩
theorem Sj {i j:Int} {t:T} {P:D→T→Prop} (h1:0 < j) (h2:j < 18446744073709551616) (h:P (.int (i / j)) t):W (Io (.int i) (.int j)) t P:=
 ⟨_,_,by simp only [Io,i2C,Ll,decide_eq_true h1,decide_eq_true h2];rfl,h⟩
theorem Ix {i:Int} (h0:0≤i) (h:i < 10000000000000000000000000000000000000000000000000000000000000000000000000000000):i.natAbs < 2 ^ 512:=by
 have:(10000000000000000000000000000000000000000000000000000000000000000000000000000000:Nat)≤2 ^ 512:=by decide
 lia
theorem Gu {k:Nat} {S:List Ob} {o o':Ob} (h:S[k]?=some o):(S.set k o')[k]?=some o':=SL h
theorem MX {S:List Ob} {x:Ob}:(S++[x])[S.length]?=some x:=by simp
def cs:Nat→Nat
 | 0=>10
 | d + 1=>10 + 3 * cs d
theorem IM {n m:Nat} (h:n≤m) (hm:m≤1000:=by decide):CW (n:Int)=true:=Rh (by lia) (by lia)
theorem QG {α:Type} {l:List α} {x:α} {m n:Nat} (h:l.length + (m + 1)=n):(l++[x]).length + m=n:=by rw [List.length_append,←h];simp only [List.length_cons,List.length_nil];lia
theorem SY {α:Type} {l:List α} {x:α} {p:α→Prop} (h:∀y∈l,p y) (hx:p x):∀y∈l++[x],p y:=fun y hy=>by
 rcases List.mem_append.mp hy with h' | h'
 ·exact h y h'
 ·rw [List.mem_singleton] at h';subst h';exact hx
theorem UZ {a n:Nat} (h:a≤n) (hn:n≤100000:=by decide):a≤LIM:=Nat.le_trans h hn
theorem Xc {ss:List Sh} {n:Nat} (h:∀x∈ss,x.depth≤n):(Sh.choice ss).depth≤n + 1:=by
 rw [Sh.depth]
 refine Nat.succ_le_succ ?_
 induction ss with
 | nil=>rw [Hm];exact Nat.zero_le _
 | cons x r ih=>rw [Hm];exact Nat.max_le.mpr ⟨h x List.mem_cons_self,ih fun y m=>h y (List.mem_cons_of_mem _ m)⟩
structure Drawn (k r:Nat) (dp:Nat) (v:D) (S':List Ob):Prop where
 ex:∃s:Sh,v=s.d∧s.depth≤dp∧wf s=true
 pool:Room k r S'
structure Val (k r:Nat) (s:Sh) (c:Nat) (v:D) (S':List Ob):Prop where
 fit:EU s v=true
 len:(K7 s v).length≤c
 pool:Room k r S'
mutual
def plD:D→Bool
 | .lst xs=>pls xs
 | .tup xs=>pls xs
 | .obj _=>false
 | .scr _=>false
 | .ty _=>false
 | .exc _ _=>false
 | .dic=>false
 | _=>true
def pls:List D→Bool
 | []=>true
 | d :: r=>plD d && pls r
end
section
variable {t:T} {P:D→T→Prop} {R:Out→T→Prop}
def YK (h:D→M Out) (R:Out→T→Prop) (o:Out) (t1:T):Prop:=match o with
 | .ret (.exc n ds)=>n∈DM∧W (h (.exc n ds)) t1 R
 | o=>R o t1
def xK (d:D) (A B:Prop):Prop:=if EA d=true then A else B
end
def Ox (f:Fn):Prop:=∀(ns:List Int) (k:Nat),k≤1000→∃c:Int,Pure1 f [.scr ns,.int k] (.int c)
theorem Tx:Ox (fnOf 2 3 EB):=by
 intro ns k hk
 refine ⟨(cutD ns (some (k:Int)) (some ((k:Int) + 1))).headD 0,fun S=>AX rfl ?_⟩
 unfold EB
 walk_at "w"
 generalize cutD ns (some (k:Int)) (some ((k:Int) + 1))=L
 refine Ez (fun r t=>r=L.map D.int∧t=⟨[some (.val (.scr ns)),some (.val (.int (k:Int))),none],S⟩) _ _ ⟨rfl,rfl⟩ ?_ ?_
 ·rintro d r t ⟨hr,rfl⟩ _
  cases L with
  | nil=>cases hr
  | cons x l=>
    injection hr with h1 h2
    subst h1
    walk_at "w"
    exact ⟨rfl,rfl⟩
 ·rintro t ⟨hr,rfl⟩
  cases L with
  | nil=>walk_at "w";exact ⟨rfl,rfl⟩
  | cons x l=>cases hr
def c6:Nat→Nat
 | 0=>10
 | d + 1=>10 + c6 d * 9
theorem V5 (d:Nat):10≤c6 d:=by cases d <;> simp [c6]
mutual
def wt:Sh→D→Nat
 | .nothing,_=>1
 | .number _ _,_=>25
 | .text _,d=>match d with
   | .str x=>2 * x.length + 2
   | _=>0
 | .list s _,d=>match d with
   | .lst ds=>(ds.map fun e=>wt s e + 1).sum + 2
   | _=>0
 | .pair s r,d=>match d with
   | .tup [a,b]=>wt s a + wt r b + 3
   | _=>0
 | .choice ss,d=>match d with
   | .tup [_,.int k,x]=>wtN ss k.toNat x + 25
   | _=>0
def wtN:List Sh→Nat→D→Nat
 | [],_,_=>0
 | s :: _,0,d=>wt s d
 | _ :: r,k + 1,d=>wtN r k d
end
def YD (sg:Str):Prop:=sg.cps.toList.all Sc=true∧0 < sg.length∧sg.length≤100
structure Val6 (k r:Nat) (s:Sh) (c:Nat) (v:D) (S':List Ob):Prop where
 fit:EU s v=true
 len:wt s v≤c
 pool:Room k r S'
theorem SV (s:Sh):∃(x:Str) (r:List D),s.d = .tup (.str x :: r):=by cases s <;> exact ⟨_,_,by rw [Sh.d]⟩
local macro_rules | `(tactic| walk_at "x1")=>`(tactic| first
 | walk_at "w1"
 | with_reducible refine wTry ?_ | with_reducible refine wSetX ?_ | with_reducible refine wDropX ?_ | with_reducible refine wAsgX ?_ | with_reducible refine wNx ?_ | with_reducible refine wBinX ?_ | with_reducible refine wBinY ?_ | with_reducible refine wBndX ?_ | with_reducible refine wCallY ?_ | with_reducible refine tryK_next ?_
 | ((with_reducible refine' tryK_ex ?wv ?_);(case wv=>decide)) | ((with_reducible refine' xK_ok ?wv ?_);(case wv=>exact rfl)) | ((with_reducible refine' xK_ex ?wv ?_);(case wv=>exact rfl))
 | with_reducible refine wRaiseT ?_ | with_reducible refine wRaiseV ?_ | ((with_reducible refine' wHAs ?wv ?_);(case wv=>decide)) | ((with_reducible refine' wHAsN ?wv ?_);(case wv=>decide)) | ((with_reducible refine' wHNo ?wv ?_);(case wv=>decide)) | ((with_reducible refine' wHNoN ?wv ?_);(case wv=>decide))
 | ((with_reducible refine' wIsiX ?wv ?_);(case wv=>decide)) | with_reducible refine wIsiXN ?_ | ((with_reducible refine' wAttX ?wv ?wu ?_);(case wv=>decide);(case wu=>exact rfl)))
local macro_rules | `(tactic| walk_at "x")=>`(tactic| repeat (walk_at "x1"))
theorem EM {f:M D} {g:M (List D)} {t:T} {P:D→T→Prop} (h:W f t fun o t1=>W g t1 fun as t2=>∃z ds ys,o = .str z∧as=[.lst ds]∧DZ ds=some ys∧(z.length≤16∧(ys.map (·.length)).sum + ys.length≤1048576)∧P (.str (Txt.join z ys)) t2):W (joinW f g) t P:=by
 unfold joinW
 refine Ex (h.mono fun o t1 h1=>Ex (h1.mono fun as t2 ⟨z,ds,ys,e1,e2,e3,e4,p⟩=>?_))
 subst e1 e2
 dsimp only
 rw [e3]
 dsimp only
 rw [if_pos e4]
 exact ⟨_,_,rfl,p⟩
theorem P4 {f:M D} {g:M (List D)} {t:T} {Q:List D→T→Prop} (h:W f t fun o t1=>W g t1 fun as t2=>∃z y,o = .str z∧as=[.str y]∧((y.length == 0)=false∧z.length≤1000000)∧Q ((Txt.split z y).map D.str) t2):W (splitM f g) t Q:=by
 unfold splitM
 refine Ex (h.mono fun o t1 h1=>Ex (h1.mono fun as t2 ⟨z,y,e1,e2,e3,p⟩=>?_))
 subst e1 e2
 dsimp only
 rw [if_pos e3]
 exact ⟨_,_,rfl,p⟩
theorem Kc:∀ys:List Str,DZ (ys.map D.str)=some ys
 | []=>rfl
 | y :: r=>by rw [List.map_cons,DZ,Kc r];rfl
theorem Bh (x y:Str):(x++y).length=x.length + y.length:=by rw [Fz,Fz,Fz,JV,List.length_append]
theorem OT {n k:Nat} (hk:0 < k) (h:n < 10 ^ k):n.repr.toList.length≤k:=by
 rw [Nat.toList_repr]
 exact (Nat.length_toDigits_le_iff (by decide) hk).mpr h
theorem Fm {i:Int} (h1 : -1000000000000000000≤i) (h2:i≤1000000000000000000):(Str.ofString (toString i)).length≤20:=by
 have e:(10:Nat) ^ 19=10000000000000000000:=by decide
 rw [LC,Int.toString_eq_repr,Int.repr_eq_if]
 split
 ·have:=OT (n:=i.toNat) (k:=19) (by decide) (by lia)
  lia
 ·have:=OT (n:=(-i).toNat) (k:=19) (by decide) (by lia)
  rw [String.toList_append,List.length_append]
  simp only [show "-".toList.length=1 from rfl]
  lia
mutual
def sho:Sh→D→Str
 | .nothing,_=>"-"
 | .number _ _,d=>match d with
   | .int i=>Str.ofString (toString i)
   | _=>""
 | .text _,d=>match d with
   | .str x=>q1++Txt.replace x q1 q2++q1
   | _=>""
 | .list s _,d=>match d with
   | .lst ds=>"["++Txt.join "," (ds.map fun e=>sho s e)++"]"
   | _=>""
 | .pair s r,d=>match d with
   | .tup [a,b]=>"("++sho s a++","++sho r b++")"
   | _=>""
 | .choice ss,d=>match d with
   | .tup [_,.int k,x]=>"#"++Str.ofString (toString k)++":"++VI ss k.toNat x
   | _=>""
def VI:List Sh→Nat→D→Str
 | [],_,_=>""
 | s :: _,0,d=>sho s d
 | _ :: r,k + 1,d=>VI r k d
end
def Ye (f:Fn) (n:Nat):Prop:=∀(s:Sh),s.depth≤n→wf s=true→∀d,EU s d=true→wt s d≤90000→Pure1 f [d] (.str (sho s d))
abbrev uc (x:Str):List Nat:=x.cps.toList
theorem BN (x:Str):(uc x).length=x.length:=(Fz x).symm
structure Rst (x:Str) (p:Nat) (r:List Nat):Prop where
 le:p≤(uc x).length
 eq:(uc x).drop p=r
theorem Rst.len {x:Str} {p:Nat} {r:List Nat} (h:Rst x p r):(uc x).length=p + r.length:=by
 have:=congrArg List.length h.eq
 rw [List.length_drop] at this
 have:=h.le
 lia
theorem Rst.go {x:Str} {p:Nat} {w r:List Nat} (h:Rst x p (w++r)):Rst x (p + w.length) r:=by
 refine ⟨?_,?_⟩
 ·have:=h.len
  rw [List.length_append] at this
  lia
 ·rw [←List.drop_drop,h.eq,List.drop_left]
theorem Rst.one {x:Str} {p c:Nat} {r:List Nat} (h:Rst x p (c :: r)):Rst x (p + 1) r:=Rst.go (w:=[c]) h
theorem Rst.at {x:Str} {p c:Nat} {r:List Nat} (h:Rst x p (c :: r)):atI (uc x) (p:Int)=some c:=by
 have hl:=h.len
 rw [List.length_cons] at hl
 have e:(uc x)[p]?=some c:=by
  have e0:(uc x)[p]?=((uc x).drop p)[0]?:=by rw [List.getElem?_drop];rfl
  rw [e0,h.eq]
  rfl
 exact D4 e
theorem E2 {x y:Str} {p c:Nat} {r:List Nat} (h:Rst x p r) (e:uc y=[c]):Txt.startswith3 x y (p:Int)=(r.head? == some c):=by
 have ly:y.length=1:=by rw [←BN,e];rfl
 have f:fromIndex x.length (p:Int)=p:=by
  unfold fromIndex
  rw [if_neg (by lia)]
  lia
 have hl:=h.len
 rw [BN] at hl
 unfold Txt.startswith3
 rw [f,StrLaws.subAt_eq,ly]
 show (decide _ && (List.take 1 (List.drop p (uc x)) == uc y))=_
 rw [h.eq,e]
 cases r with
 | nil=>simp
 | cons a r=>
   rw [List.length_cons] at hl
   rw [decide_eq_true (by lia)]
   simp
theorem M7 {c:Nat} {y:Str}:inT ⟨#[c]⟩ y=decide (c∈uc y):=by
 have h:=StrLaws.found_iff y ⟨#[c]⟩
 have e:(∃i,i + (⟨#[c]⟩:Str).length≤y.length∧Builtin.Str.subAt y ⟨#[c]⟩ i=true)↔c∈uc y:=by
  constructor
  ·rintro ⟨i,q⟩
   exact List.mem_of_getElem? ((StrLaws.subAt_one y c i).mp q)
  ·intro m
   obtain ⟨i,hi,q⟩:=List.mem_iff_getElem.mp m
   exact ⟨i,(StrLaws.subAt_one y c i).mpr (by rw [List.getElem?_eq_getElem hi,q])⟩
 rw [e] at h
 unfold inT
 by_cases m:c∈uc y
 ·rw [h.mpr m,decide_eq_true m]
 ·rw [decide_eq_false m]
  cases q:(!(Builtin.Str.occurrences y ⟨#[c]⟩ 0 y.length 1).isEmpty) with
  | false=>rfl
  | true=>exact absurd (h.mp q) m
theorem G9 {x:Str} {p:Nat} {w r:List Nat} (h:Rst x p (w++r)):Txt.slice x (some (p:Int)) (some ((p + w.length:Nat):Int))=⟨w.toArray⟩:=by
 have hl:=h.len
 rw [List.length_append] at hl
 have:=StrLaws.sliceText_plain (x:=x) (i:=(p:Int)) (j:=((p + w.length:Nat):Int)) ⟨by lia,by lia,by show _≤(((uc x).length:Nat):Int);lia⟩
 show StrLaws.sliceText x _ _=_
 rw [this]
 have e1:((p:Int)).toNat=p:=rfl
 have e2:(((p + w.length:Nat):Int) - (p:Int)).toNat=w.length:=by lia
 rw [e1,e2]
 show (⟨(List.take w.length (List.drop p (uc x))).toArray⟩:Str)=_
 rw [h.eq,List.take_left]
theorem Ho {f:M D} {g:M (List D)} {t:T} {P:D→T→Prop} (h:W f t fun o t1=>W g t1 fun as t2=>∃z y i,o = .str z∧as=[.str y,.int i]∧P (.bl (Txt.startswith3 z y i)) t2):W (startsM f g) t P:=by
 unfold startsM
 refine Ex (h.mono fun o t1 h1=>Ex (h1.mono fun as t2 ⟨z,y,i,e1,e2,p⟩=>?_))
 subst e1 e2
 exact ⟨_,_,rfl,p⟩
theorem VW {a b:Str} {t:T} {P:D→T→Prop} (h:P (.bl (inT a b)) t):W (NV (.str a) (.str b)) t P:=⟨_,_,rfl,h⟩
theorem WI {x:Str} {n:Int} {t:T} {P:D→T→Prop} (e:PySem.intText? x=some n) (l:x.length≤640) (h:P (.int n) t):W (Jl [.str x]) t P:=⟨_,_,by simp only [Jl,e];rw [if_pos l],h⟩
theorem Sk {x:Str} {i:Int} {n:Nat} {t:T} {P:D→T→Prop} (h:x.length≤LIM) (e:atI x.cps.toList i=some n) (p:P (.str ⟨#[n]⟩) t):W (ixD (.str x) (.int i)) t P:=⟨_,_,by simp only [ixD,if_pos h,e];rfl,p⟩
theorem XQ {kt P l c:Nat} {L:LamD} {js:List Nat} {ds:List D} {t:T} {Q:D→T→Prop} (h1:t.S[kt]?=some (.tab P l c L.qual)) (h2:Ig t.env js=some ds) (q:Q (.obj t.S.length) ⟨t.env,t.S++[.fn L ds]⟩):W (Jj kt P l c L js) t Q:=
 ⟨_,_,by unfold Jj;rw [h1,h2];dsimp only;rw [if_pos ⟨rfl,rfl,rfl,rfl⟩],q⟩
theorem P1 {i k:Nat} {L:LamD} {g:List D→Fn} {f:M (List D)} {caps0:List D} {t:T} {P:D→T→Prop} (h1:t.env[i]?=some (some (.val (.obj k)))) (h2:t.S[k]?=some (.fn L caps0)) (h:W f t fun ds t1=>∃caps,t1.S[k]?=some (.fn L caps)∧Wf (g caps) ds t1.S fun r S'=>P r ⟨t1.env,S'⟩):W (FX i L g f) t P:=by
 obtain ⟨ds,t1,e,caps,e1,r,S',e2,p⟩:=h
 refine ⟨r,⟨t1.env,S'⟩,?_,p⟩
 unfold FX
 rw [h1]
 dsimp only
 rw [h2]
 dsimp only
 unfold bnd
 rw [e]
 dsimp only
 rw [e1]
 dsimp only
 rw [if_pos rfl,e2]
def GK (f:Fn):Prop:=∀(x:Str) (p:Nat) (w r:List Nat) (y:Str),x.length≤LIM→Rst x p (w++r)→(∀c∈w,c∈uc y)→(∀c,r.head?=some c→c∉uc y)→Pure1 f [.str x,.int p,.str y] (.int ((p + w.length:Nat):Int))
theorem Ux:GK (fnOf 3 4 Ed):=by
 intro x p w r y hx hR hw hr S
 refine AX rfl ?_
 unfold Ed
 walk_at "w"
 have hl:=hR.len
 rw [BN,List.length_append] at hl
 have hL:LIM=100000:=rfl
 refine Gf (fun n t=>∃w1 w2:List Nat,w=w1++w2∧n=w2.length∧t=⟨[some (.val (.str x)),some (.val (.int p)),some (.val (.str y)),some (.val (.int ((p + w1.length:Nat):Int)))],S⟩) ?_ Hc w.length _ (by unfold Hc;lia) ⟨[],w,rfl,rfl,rfl⟩
 rintro n t ⟨w1,w2,rfl,rfl,rfl⟩
 walk_at "w"
 refine KR hx ?_
 walk_at "w"
 rw [List.append_assoc] at hR
 have hR2:=hR.go
 rw [List.length_append] at hl
 cases w2 with
 | cons c w2=>
   refine Do (decide_eq_true (by rw [List.length_cons] at hl;lia)) ?_
   walk_at "w"
   refine Sk hx hR2.at ?_
   walk_at "w"
   refine VW ?_
   rw [M7,decide_eq_true (hw c (by simp))]
   walk_at "w"
   refine ⟨w2.length,rfl,?_⟩
   walk_at "w"
   refine ⟨w1++[c],w2,by simp,rfl,?_⟩
   have e:((p + (w1++[c]).length:Nat):Int)=((p + w1.length:Nat):Int) + 1:=by rw [List.length_append,List.length_singleton];lia
   rw [e]
   rfl
 | nil=>
   rw [List.append_nil]
   rw [List.nil_append] at hR2
   cases r with
   | nil=>
     refine Bt (decide_eq_false (by simp at hl;lia)) ?_
     walk_at "w"
     exact ⟨rfl,rfl⟩
   | cons c r=>
     refine Do (decide_eq_true (by rw [List.length_cons] at hl;lia)) ?_
     walk_at "w"
     refine Sk hx hR2.at ?_
     walk_at "w"
     refine VW ?_
     rw [M7,decide_eq_false (hr c rfl)]
     walk_at "w"
     exact ⟨rfl,rfl⟩
def dg (i:Int):List Nat:=uc (Str.ofString (toString i))
theorem GB (x:Str):(⟨(uc x).toArray⟩:Str)=x:=by cases x;simp [uc]
theorem GQ (m:Nat):dg (m:Int)=(Nat.toDigits 10 m).map Char.toNat:=PySem.W.KIN.signs_num m
theorem EI (m:Nat):∀c∈dg (m:Int),48≤c∧c≤57:=by
 intro c hc
 rw [GQ] at hc
 obtain ⟨ch,hch,e⟩:=List.mem_map.mp hc
 have r:=PyProof.Rows.digit_range (Nat.isDigit_of_mem_toDigits (by decide) (by decide) hch)
 rw [←e]
 exact r
theorem Ik (m:Nat):1≤(dg (m:Int)).length:=by
 rw [GQ,List.length_map]
 exact PySem.toDigits_len_ge 10 m
theorem OR {m:Nat} (h:m < 1000000000000000000):(dg (m:Int)).length≤18:=by
 rw [GQ,List.length_map]
 exact (Nat.length_toDigits_le_iff (by decide) (by decide)).mpr (Nat.lt_of_lt_of_le h (by decide))
theorem OS {m:Nat} (h:0 < m):dg (-(m:Int))=45 :: dg (m:Int):=by
 have e:(toString (-(m:Int)):String) = "-"++toString (m:Int):=by
  obtain ⟨k,rfl⟩:∃k,m=k + 1:=⟨m - 1,by lia⟩
  rfl
 unfold dg uc
 rw [e]
 rw [PyProof.Rows.signs_ofString,PyProof.Rows.signs_ofString,String.toList_append,List.map_append]
 rfl
theorem Hz {i:Int} (h0 : -1000000000000000000 < i) (h1:i < 1000000000000000000):∃sg dd,dg i=sg++dd∧(sg=[]∨sg=[45])∧(∀c∈dd,48≤c∧c≤57)∧1≤dd.length∧dd.length≤18:=by
 by_cases h:0≤i
 ·obtain ⟨m,rfl⟩:=Int.eq_ofNat_of_zero_le h
  exact ⟨[],dg m,rfl,.inl rfl,EI m,Ik m,OR (by lia)⟩
 ·obtain ⟨m,rfl⟩:∃m:Nat,i = -(m:Int):=⟨(-i).toNat,by lia⟩
  exact ⟨[45],dg m,OS (by lia),.inr rfl,EI m,Ik m,OR (by lia)⟩
theorem Qs {i:Int} (h0 : -1000000000000000000 < i) (h1:i < 1000000000000000000):PySem.intText? (Str.ofString (toString i))=some i:=by
 have hl:(Str.ofString (toString i)).length≤4300:=Nat.le_trans (Fm (by lia) (by lia)) (by decide)
 by_cases h:0≤i
 ·obtain ⟨m,rfl⟩:=Int.eq_ofNat_of_zero_le h
  have e:=PySem.intText_digits (x:=Str.ofString (toString (m:Int))) (EI m) (fun z=>by have:=Ik m;unfold dg uc at this;rw [z] at this;simp at this) hl
  have e2:=GQ m
  unfold dg uc at e2
  rw [e2,PySem.W.KIN.val_back] at e
  exact e
 ·obtain ⟨m,rfl⟩:∃m:Nat,i = -(m:Int):=⟨(-i).toNat,by lia⟩
  have e:=PySem.intText_neg (x:=Str.ofString (toString (-(m:Int)))) (cs:=dg m) (OS (by lia)) (EI m) (fun z=>by have:=Ik m;rw [z] at this;simp at this) hl
  rw [GQ m,PySem.W.KIN.val_back] at e
  exact e
theorem UG:uc (Str.ofString "0123456789")=[48,49,50,51,52,53,54,55,56,57]:=by decide +kernel
theorem fig_mem {c:Nat}:c∈uc (Str.ofString "0123456789")↔48≤c∧c≤57:=by
 rw [UG]
 simp only [List.mem_cons,List.not_mem_nil,or_false]
 omega
theorem UY:uc (Str.ofString "abcdefghijklmnopqrstuvwxyz")=[97,98,99,100,101,102,103,104,105,106,107,108,109,110,111,112,113,114,115,116,117,118,119,120,121,122]:=by decide +kernel
theorem let_mem {c:Nat}:c∈uc (Str.ofString "abcdefghijklmnopqrstuvwxyz")↔97≤c∧c≤122:=by
 rw [UY]
 simp only [List.mem_cons,List.not_mem_nil,or_false]
 omega
def Kz (f:Fn):Prop:=∀(x:Str) (p:Nat) (i:Int) (r:List Nat),x.length≤LIM→-1000000000000000000 < i→i < 1000000000000000000→Rst x p (dg i++r)→(∀c,r.head?=some c→¬(48≤c∧c≤57))→Pure1 f [.str x,.int p] (.tup [.int i,.int ((p + (dg i).length:Nat):Int)])
theorem QM {cb:Fn} (hb:GK cb):Kz (fnOf 2 5 (ED cb)):=by
 intro x p i r hx h0 h1 hR hr S
 obtain ⟨sg,dd,e,hs,hd,d1,d2⟩:=Hz h0 h1
 have hR0:=hR
 rw [e,List.append_assoc] at hR
 have hb':=hb x (p + sg.length) dd r (Str.ofString "0123456789") hx hR.go (fun c m=>fig_mem.mpr (hd c m)) fun c m=>fun z=>hr c m (fig_mem.mp z)
 have eq0:p + sg.length + dd.length=p + (dg i).length:=by rw [e,List.length_append];lia
 rw [eq0] at hb'
 refine AX rfl ?_
 unfold ED
 walk_at "w"
 refine Ho ?_
 walk_at "w"
 refine ⟨x,_,_,rfl,rfl,?_⟩
 rw [E2 (c:=45) hR (by decide +kernel)]
 have fin:∀z:Int,z=((p + sg.length:Nat):Int)→F2.W (Ap (Bf 3 (Av cb (Ac (Ad 0) (Ac (Ad 2) (Ac (fC (.str "0123456789")) Ah)))))
  (Ap (ifS (BX (Az (CM (fC (.int 1)) (Aj (Ad 3) (Ad 2) Ew) (fC (.int 18)) leA leA))) fail AU)
  (Ap (Bf 4 (fB (Ac (fSl (Ad 0) (BW (Ad 1)) (BW (Ad 3)) Ca) Ah) Jl))
  (Ap (ifS (Az (Aj (fB (Ac (Ad 4) Ah) Fl) (fSl (Ad 0) (BW (Ad 1)) (BW (Ad 3)) Ca) (eqS fun b=>!b))) fail AU)
  (AH (BB (Ac (Ad 4) (Ac (Ad 3) Ah)))))))) ⟨[some (.val (.str x)),some (.val (.int p)),some (.val (.int z)),none,none],S⟩ fun o t=>match o with
    | .ret v=>v = .tup [.int i,.int ((p + (dg i).length:Nat):Int)]∧t.S=S
    | .next=>D.non = .tup [.int i,.int ((p + (dg i).length:Nat):Int)]∧t.S=S
    | _=>False:=by
  rintro z rfl
  walk_at "w"
  refine hb'.use ?_
  walk_at "w"
  refine Do (decide_eq_true (by lia)) ?_
  walk_at "w"
  rw [decide_eq_true (by lia)]
  walk_at "w"
  refine Bu hx ?_
  rw [G9 hR0]
  rw [show (⟨(dg i).toArray⟩:Str)=Str.ofString (toString i) from GB _]
  walk_at "w"
  refine WI (Qs h0 h1) (Nat.le_trans (Fm (by lia) (by lia)) (by decide)) ?_
  walk_at "w"
  refine HZ (C9 (by lia) (by lia)) ?_
  walk_at "w"
  refine Bu hx ?_
  rw [G9 hR0]
  rw [show (⟨(dg i).toArray⟩:Str)=Str.ofString (toString i) from GB _]
  walk_at "w"
  refine Bt (by simp) ?_
  walk_at "w"
  exact ⟨rfl,rfl⟩
 rcases hs with rfl | rfl
 ·cases dd with
  | nil=>simp at d1
  | cons c dd=>
    have hc:=hd c (by simp)
    walk_at "w"
    refine Bt (beq_eq_false_iff_ne.mpr fun z=>?_) (DO rfl (Cq (fin _ rfl)))
    have z:c=45:=by simpa using z
    lia
 ·refine BJ ?_
  refine Do rfl ?_
  refine Fp ?_
  refine DO rfl ?_
  refine wC ?_
  refine Si ?_
  exact Cq (fin ((p:Int) + 1) rfl)
def mkT (l:List Nat):Str:=⟨l.toArray⟩
theorem BY (l:List Nat):uc (mkT l)=l:=by simp [uc,mkT]
theorem EH (x:Str):mkT (uc x)=x:=GB x
theorem DT {x y:Str} (h:uc x=uc y):x=y:=by rw [←EH x,h,EH]
theorem BS (x y:Str):uc (x++y)=uc x++uc y:=JV x y
theorem Cm (l:List Nat):(mkT l).length=l.length:=by rw [←BN,BY]
def jn:List (List Nat)→List Nat
 | []=>[]
 | [w]=>w
 | w :: v :: r=>w++44 :: jn (v :: r)
theorem Jo:∀ys:List Str,uc (Txt.join (Str.ofString ",") ys)=jn (ys.map uc):=by
 intro ys
 show uc (Builtin.Str.glued _ ys)=_
 rw [StrLaws.glued_eq_join]
 induction ys with
 | nil=>rfl
 | cons y r ih=>
   cases r with
   | nil=>rfl
   | cons z r=>
     rw [PyProof.Rows.join_cons_cons,BS,BS,ih]
     show _=uc y++44 :: jn ((z :: r).map uc)
     rw [show uc (Str.ofString ",")=[44] by decide +kernel]
     simp
theorem Pa:∀ws:List (List Nat),(jn ws).length≤(ws.map fun w=>w.length + 1).sum
 | []=>by simp [jn]
 | [w]=>by simp [jn]
 | w :: v :: r=>by
   have:=Pa (v :: r)
   rw [jn,List.length_append,List.length_cons,List.map_cons,List.sum_cons]
   lia
def Ck (ws:List (List Nat)):List Nat:=40 :: (jn ws++[41])
mutual
def sw:Sh→List Nat
 | .nothing=>uc (Str.ofString "nothing")
 | .number lo hi=>uc (Str.ofString "number")++Ck [dg lo,dg hi]
 | .text m=>uc (Str.ofString "text")++Ck [dg m]
 | .list s m=>uc (Str.ofString "list")++Ck [sw s,dg m]
 | .pair s r=>uc (Str.ofString "pair")++Ck [sw s,sw r]
 | .choice ss=>uc (Str.ofString "choice")++Ck (sws ss)
def sws:List Sh→List (List Nat)
 | []=>[]
 | s :: r=>sw s :: sws r
end
theorem JR:∀ss:List Sh,sws ss=ss.map sw
 | []=>by rw [sws];rfl
 | s :: r=>by rw [sws,JR r];rfl
inductive Pt where
 | sh (s:Sh) | nu (i:Int)
def Pt.d:Pt→D
 | .sh s=>s.d
 | .nu i=>.int i
def Pt.w:Pt→List Nat
 | .sh s=>sw s
 | .nu i=>dg i
def Pt.ok (n:Nat):Pt→Prop
 | .sh s=>s.depth≤n∧wf s=true
 | .nu i=>-1000000000000000000 < i∧i < 1000000000000000000
def Pt.c:Pt→Nat
 | .sh s=>cnt s
 | .nu _=>0
def pts:Sh→List Pt
 | .nothing=>[]
 | .number lo hi=>[.nu lo,.nu hi]
 | .text m=>[.nu m]
 | .list s m=>[.sh s,.nu m]
 | .pair s r=>[.sh s,.sh r]
 | .choice ss=>ss.map .sh
def kdS:Sh→Str
 | .nothing=>Str.ofString "nothing"
 | .number _ _=>Str.ofString "number"
 | .text _=>Str.ofString "text"
 | .list _ _=>Str.ofString "list"
 | .pair _ _=>Str.ofString "pair"
 | .choice _=>Str.ofString "choice"
def Gn:Sh→Bool
 | .choice _=>true
 | _=>false
def C1:Sh→Bool
 | .nothing=>true
 | _=>false
theorem N1 (s:Sh):(kdS s == Str.ofString "choice")=Gn s:=by cases s <;> (dsimp only [kdS,Gn];decide +kernel)
theorem LB (s:Sh):∀c∈uc (kdS s),97≤c∧c≤122:=by cases s <;> (dsimp only [kdS];decide +kernel)
theorem Pd (s:Sh):1≤(uc (kdS s)).length∧(uc (kdS s)).length≤7:=by cases s <;> (dsimp only [kdS];decide +kernel)
theorem Sa {s:Sh} (h:Gn s=true):s.d = .tup [.str (kdS s),.tup ((pts s).map Pt.d)]:=by
 cases s <;> simp only [Gn,Bool.false_eq_true] at h
 rw [Sh.d,pts,Ev,List.map_map]
 rfl
theorem Sb {s:Sh} (h:Gn s=false):s.d = .tup (.str (kdS s) :: (pts s).map Pt.d):=by
 cases s <;> simp only [Gn,Bool.true_eq_false,reduceCtorEq] at h <;> rw [Sh.d] <;> rfl
theorem Re {s:Sh} (h:C1 s=false):sw s=uc (kdS s)++Ck ((pts s).map Pt.w):=by
 cases s <;> simp only [C1,Bool.true_eq_false,reduceCtorEq] at h <;> rw [sw]
 all_goals try rfl
 rw [JR,pts,List.map_map]
 rfl
theorem II {s:Sh} (h:C1 s=false) (hw:wf s=true):1≤(pts s).length:=by
 cases s <;> simp only [C1,Bool.true_eq_false,reduceCtorEq] at h <;> try (simp [pts];done)
 simp only [wf,Bool.and_eq_true,decide_eq_true_eq] at hw
 rw [pts,List.length_map]
 exact hw.1.1
theorem IH {s:Sh} (hw:wf s=true):(pts s).length≤9:=by
 cases s <;> try (simp [pts];done)
 simp only [wf,Bool.and_eq_true,decide_eq_true_eq] at hw
 rw [pts,List.length_map]
 exact hw.1.2
theorem G6 {s:Sh} {n:Nat} (hs:s.depth≤n + 1) (hw:wf s=true):∀q∈pts s,q.ok n:=by
 intro q hq
 cases s with
 | nothing=>simp [pts] at hq
 | number lo hi=>
   simp only [wf,Bool.and_eq_true,decide_eq_true_eq] at hw
   simp only [pts,List.mem_cons,List.not_mem_nil,or_false] at hq
   rcases hq with rfl | rfl <;> (unfold Pt.ok;dsimp only;lia)
 | text m=>
   simp only [wf,Bool.and_eq_true,decide_eq_true_eq] at hw
   simp only [pts,List.mem_cons,List.not_mem_nil,or_false] at hq
   subst hq;unfold Pt.ok;dsimp only;lia
 | list s m=>
   simp only [wf,Bool.and_eq_true,decide_eq_true_eq] at hw
   simp only [pts,List.mem_cons,List.not_mem_nil,or_false] at hq
   rw [Sh.depth] at hs
   rcases hq with rfl | rfl
   ·exact ⟨by lia,hw.2⟩
   ·unfold Pt.ok;dsimp only;lia
 | pair s r=>
   simp only [wf,Bool.and_eq_true] at hw
   simp only [pts,List.mem_cons,List.not_mem_nil,or_false] at hq
   rw [Sh.depth] at hs
   rcases hq with rfl | rfl
   ·exact ⟨by lia,hw.1⟩
   ·exact ⟨by lia,hw.2⟩
 | choice ss=>
   simp only [wf,Bool.and_eq_true,decide_eq_true_eq] at hw
   rw [Sh.depth] at hs
   obtain ⟨x,hx,rfl⟩:=List.mem_map.mp hq
   exact ⟨Nat.le_trans (FG hx) (by lia),JT hw.2 x hx⟩
theorem Li:∀{ss:List Sh} {x:Sh},x∈ss→cnt x≤CB ss
 | s :: r,x,h=>by
   rw [CB]
   rcases List.mem_cons.mp h with rfl | h
   ·lia
   ·have:=Li h
    lia
theorem RZ {s:Sh}:∀q∈pts s,q.c + 1≤cnt s:=by
 intro q hq
 have:=Sz s
 cases s with
 | nothing=>simp [pts] at hq
 | number lo hi=>simp only [pts,List.mem_cons,List.not_mem_nil,or_false] at hq;rcases hq with rfl | rfl <;> exact this
 | text m=>simp only [pts,List.mem_cons,List.not_mem_nil,or_false] at hq;subst hq;exact this
 | list s m=>
   simp only [pts,List.mem_cons,List.not_mem_nil,or_false] at hq
   rcases hq with rfl | rfl
   ·rw [cnt];exact Nat.le_refl _
   ·exact this
 | pair s r=>
   simp only [pts,List.mem_cons,List.not_mem_nil,or_false] at hq
   rw [cnt]
   rcases hq with rfl | rfl <;> (unfold Pt.c;dsimp only;lia)
 | choice ss=>
   obtain ⟨x,hx,rfl⟩:=List.mem_map.mp hq
   rw [cnt]
   have:=Li hx
   unfold Pt.c;dsimp only;lia
theorem He {i:Int} (h0 : -1000000000000000000 < i) (h1:i < 1000000000000000000):(dg i).length≤20:=by
 unfold dg;rw [BN];exact Fm (by lia) (by lia)
mutual
theorem Dh:∀s:Sh,wf s=true→(sw s).length + 1≤60 * cnt s
 | .nothing,_=>by rw [sw,cnt];decide +kernel;all_goals simp
 | .number lo hi,hw=>by
   simp only [wf,Bool.and_eq_true,decide_eq_true_eq] at hw
   have h1:=He (i:=lo) (by lia) (by lia)
   have h2:=He (i:=hi) (by lia) (by lia)
   have h3:(uc (Str.ofString "number")).length=6:=by decide +kernel
   rw [sw,cnt,Ck,jn,jn]
   ·simp only [List.length_append,List.length_cons,List.length_nil];lia
   all_goals simp
 | .text m,hw=>by
   simp only [wf,Bool.and_eq_true,decide_eq_true_eq] at hw
   have h1:=He (i:=m) (by lia) (by lia)
   have h3:(uc (Str.ofString "text")).length=4:=by decide +kernel
   rw [sw,cnt,Ck,jn]
   ·simp only [List.length_append,List.length_cons,List.length_nil];lia
   all_goals simp
 | .list s m,hw=>by
   simp only [wf,Bool.and_eq_true,decide_eq_true_eq] at hw
   have h0:=Dh s hw.2
   have h1:=He (i:=m) (by lia) (by lia)
   have h3:(uc (Str.ofString "list")).length=4:=by decide +kernel
   rw [sw,cnt,Ck,jn,jn]
   simp only [List.length_append,List.length_cons,List.length_nil];lia
 | .pair s r,hw=>by
   simp only [wf,Bool.and_eq_true] at hw
   have h0:=Dh s hw.1
   have h1:=Dh r hw.2
   have h3:(uc (Str.ofString "pair")).length=4:=by decide +kernel
   rw [sw,cnt,Ck,jn,jn]
   simp only [List.length_append,List.length_cons,List.length_nil];lia
 | .choice ss,hw=>by
   simp only [wf,Bool.and_eq_true] at hw
   have h0:=NA ss hw.2
   have h1:=Pa (sws ss)
   have h3:(uc (Str.ofString "choice")).length=6:=by decide +kernel
   rw [sw,cnt,Ck]
   simp only [List.length_append,List.length_cons,List.length_nil];lia
theorem NA:∀ss:List Sh,wfs ss=true→((sws ss).map fun w=>w.length + 1).sum≤60 * CB ss
 | [],_=>by rw [sws,CB];simp
 | s :: r,hw=>by
   rw [wfs,Bool.and_eq_true] at hw
   have h0:=Dh s hw.1
   have h1:=NA r hw.2
   rw [sws,CB,List.map_cons,List.sum_cons]
   lia
end
def Ja (r:List Nat):Prop:=∀c,r.head?=some c→c=44∨c=41∨c=93
def Ext (S S':List Ob):Prop:=∃E,S'=S++E
theorem Ext.refl {S:List Ob}:Ext S S:=⟨[],by simp⟩
theorem Ext.trans {S S1 S2:List Ob} (a:Ext S S1) (b:Ext S1 S2):Ext S S2:=by
 obtain ⟨E,rfl⟩:=a
 obtain ⟨F,rfl⟩:=b
 exact ⟨E++F,by simp⟩
theorem Ext.get {S S':List Ob} {k:Nat} {o:Ob} (h:Ext S S') (e:S[k]?=some o):S'[k]?=some o:=by
 obtain ⟨E,rfl⟩:=h
 rw [List.getElem?_append_left (List.getElem?_eq_some_iff.mp e).1]
 exact e
def cmT:List (List Nat)→List Nat
 | []=>[]
 | w :: ws=>44 :: jn (w :: ws)
theorem KJ (w:List Nat) (ws:List (List Nat)):jn (w :: ws)=w++cmT ws:=by
 cases ws with
 | nil=>simp [jn,cmT]
 | cons v r=>rw [jn,cmT]
def IZ (f:Fn):Prop:=∀(x y:Str) (p c:Nat) (r:List Nat),Rst x p (c :: r)→uc y=[c]→Pure1 f [.str x,.int p,.str y] (.int ((p:Int) + 1))
theorem Uy:IZ (fnOf 3 3 DW):=by
 intro x y p c r hR e S
 refine AX rfl ?_
 unfold DW
 walk_at "w"
 refine Ho ?_
 walk_at "w"
 refine ⟨x,_,_,rfl,rfl,?_⟩
 rw [E2 hR e]
 have e2:((c :: r).head? == some c)=true:=by simp
 rw [e2]
 walk_at "w"
 exact ⟨rfl,rfl⟩
def RdL (g:List D→Fn) (caps:List D) (τ:Ob) (x:Str) (q:D×List Nat):Prop:=∀(p:Nat) (r:List Nat) (S:List Ob),S[0]?=some τ→Rst x p (q.2++r)→Ja r→Wf (g caps) [.int p] S fun v S'=>v = .tup [q.1,.int ((p + q.2.length:Nat):Int)]∧Ext S S'
def ND (f:Fn) (L:LamD) (g:List D→Fn):Prop:=∀(τ:Ob) (x y:Str) (cl k p:Nat) (caps:List D) (items:List (D×List Nat)) (r:List Nat) (S:List Ob),x.length≤LIM→uc y=[cl]→cl=41∨cl=93→1≤items.length→items.length≤1000→S[0]?=some τ→S[k]?=some (.fn L caps)→(∀q∈items,RdL g caps τ x q)→
 Rst x p (jn (items.map (·.2))++cl :: r)→Wf f [.str x,.int p,.str y,.obj k] S fun v S'=>v = .tup [.lst (items.map (·.1)),.int ((p + (jn (items.map (·.2))).length + 1:Nat):Int)]∧Ext S S'
theorem M0 {ws:List (List Nat)} {cl:Nat} {r:List Nat} (h:cl=41∨cl=93):Ja (cmT ws++cl :: r):=by
 intro c hc
 cases ws with
 | nil=>simp [cmT] at hc;lia
 | cons w ws=>simp [cmT] at hc;lia
theorem Q8 {L:LamD} {g:List D→Fn} {cb:Fn} (hb:IZ cb):ND (fnOf 4 6 (Go L g cb)) L g:=by
 intro τ x y cl k p caps items r S hx hy hcl hi1 hi2 hτ hk hrd hR
 have hL:LIM=100000:=rfl
 cases items with
 | nil=>simp at hi1
 | cons q0 items=>
   obtain ⟨d0,w0⟩:=q0
   rw [List.map_cons,KJ,List.append_assoc] at hR
   refine AX rfl ?_
   unfold Go
   walk_at "w"
   refine P1 rfl hk ?_
   walk_at "w"
   refine ⟨caps,hk,?_⟩
   refine (hrd (d0,w0) (by simp) p _ S hτ hR (M0 hcl)).mono ?_
   rintro v S1 ⟨rfl,x1⟩
   walk_at "w"
   refine Gf (fun n t=>∃(d1 d2:List (D×List Nat)) (dl:D) (q:Nat) (S':List Ob),items=d1++d2∧n=d2.length∧Rst x q (cmT (d2.map (·.2))++cl :: r)∧q + (cmT (d2.map (·.2))).length=p + (w0++cmT (items.map (·.2))).length∧Ext S S'∧
    t=⟨[some (.val (.str x)),some (.val (.int p)),some (.val (.str y)),some (.val (.obj k)),some (.val (.tup [dl,.int (q:Int)])),some (.own (d0 :: d1.map (·.1)))],S'⟩) ?_ Hc items.length _ (by unfold Hc;rw [List.length_cons] at hi2;lia)
    ⟨[],items,d0,p + w0.length,S1,rfl,rfl,hR.go,by rw [List.length_append];lia,x1,rfl⟩
   rintro n t ⟨d1,d2,dl,q,S',rfl,rfl,hR2,hq,xx,rfl⟩
   walk_at "w"
   refine Ho ?_
   walk_at "w"
   refine ⟨x,_,_,rfl,rfl,?_⟩
   rw [E2 (c:=44) hR2 (by decide +kernel)]
   cases d2 with
   | cons q1 d2=>
     obtain ⟨de,we⟩:=q1
     rw [List.map_cons,cmT] at hR2 hq
     have e2:((44 :: jn (we :: d2.map (·.2))++cl :: r).head? == some 44)=true:=by simp
     rw [List.map_cons,cmT,e2]
     walk_at "w"
     refine ⟨d2.length,rfl,?_⟩
     have hR3:Rst x (q + 1) (we++(cmT (d2.map (·.2))++cl :: r)):=by
      have h:=hR2.one
      rw [KJ] at h
      have e:(((de,we).2++cmT (List.map (fun x=>x.2) d2)).append (cl :: r))=we++(cmT (d2.map (·.2))++cl :: r):=List.append_assoc _ _ _
      rw [e] at h
      exact h
     walk_at "w"
     refine P1 rfl (xx.get hk) ?_
     walk_at "w"
     refine ⟨caps,xx.get hk,?_⟩
     refine (hrd (de,we) (by simp) (q + 1) _ S' (xx.get hτ) hR3 (M0 hcl)).mono ?_
     rintro v S2 ⟨rfl,x2⟩
     walk_at "w"
     refine Bu (by rw [List.length_cons,List.length_map];rw [List.length_cons,List.length_append] at hi2;lia) ?_
     refine ⟨d1++[(de,we)],d2,de,q + 1 + we.length,S2,by simp,rfl,hR3.go,?_,xx.trans x2,?_⟩
     ·rw [←hq,List.length_cons,KJ,List.length_append];show _=q + (we.length + _ + 1);lia
     ·simp only [List.map_append,List.map_cons,List.map_nil]
      rfl
   | nil=>
     rw [List.map_nil,cmT,List.nil_append] at hR2
     rw [List.map_nil,cmT,List.nil_append]
     have e2:((cl :: r).head? == some 44)=false:=by
      rcases hcl with rfl | rfl <;> simp
     rw [e2]
     rw [List.map_nil,cmT,List.length_nil,Nat.add_zero] at hq
     walk_at "w"
     refine (hb x y q cl r hR2 hy).use ?_
     walk_at "w"
     refine ⟨?_,xx⟩
     have e3:((p + (jn (w0 :: List.map (fun z:D×List Nat=>z.2) (d1++[]))).length + 1:Nat):Int)=(q:Int) + 1:=by rw [KJ,←hq];lia
     rw [List.map_cons,List.map_cons,e3,List.append_nil]
theorem UX {cp:Fn} {x:Str} {p dep:Int} {S:List Ob} {P:D→List Ob→Prop} (h:Wf cp [.str x,.int p,.int (dep + 1)] S P):Wf (HE 3 (Iy cp) [.str x,.int dep]) [.int p] S P:=by
 obtain ⟨r,S',e,q⟩:=h
 refine ⟨r,S',?_,q⟩
 have w:F2.W (Iy cp) ⟨env0 3 ([D.int p]++[.str x,.int dep]),S⟩ fun v t=>v=r∧t.S=S':=by
  unfold Iy
  walk_at "w"
  exact ⟨r,S',e,rfl,rfl⟩
 obtain ⟨v,t,e1,rfl,rfl⟩:=w
 unfold HE
 rw [if_pos (show [D.int p].length=1 from rfl),e1]
def Us (f:Fn):Prop:=∀(k:Str) (ds:List D),ds.length≤1000→Pure1 f [.str k,.tup ds] (if (k == Str.ofString "choice")=true then .tup [.str k,.tup ds] else .tup (.str k :: ds))
theorem T3:Us (fnOf 2 2 EZ):=by
 intro k ds hl S
 refine AX rfl ?_
 unfold EZ
 walk_at "w"
 cases e:(k == Str.ofString "choice") with
 | true=>
   refine Do rfl ?_
   walk_at "w"
   exact ⟨rfl,rfl⟩
 | false=>
   refine Bt rfl ?_
   walk_at "w"
   refine Bu (by show 1 + ds.length≤100000;lia) ?_
   exact ⟨rfl,rfl⟩
def Pt.dp:Pt→Nat
 | .sh s=>s.depth
 | .nu _=>0
def NF (f:Fn) (τ:Ob) (n:Nat):Prop:=∀(s:Sh) (x:Str) (p dep:Nat) (r:List Nat) (S:List Ob),s.depth≤n→wf s=true→x.length≤LIM→dep + s.depth≤7→S[0]?=some τ→Rst x p (sw s++r)→Ja r→
 Wf f [.str x,.int p,.int dep] S fun v S'=>v = .tup [s.d,.int ((p + (sw s).length:Nat):Int)]∧Ext S S'
def OA (f:Fn) (τ:Ob) (n:Nat):Prop:=∀(q:Pt) (x:Str) (p dep:Nat) (r:List Nat) (S:List Ob),q.ok n→x.length≤LIM→dep + q.dp≤7→S[0]?=some τ→Rst x p (q.w++r)→Ja r→
 Wf f [.str x,.int p,.int dep] S fun v S'=>v = .tup [q.d,.int ((p + q.w.length:Nat):Int)]∧Ext S S'
theorem JQ (s:Sh):∃tl,sw s=uc (kdS s)++tl∧(C1 s=true→tl=[])∧(C1 s=false→tl=Ck ((pts s).map Pt.w)):=by
 cases h:C1 s with
 | false=>exact ⟨_,Re h,⟨(fun z=>by cases z),fun _=>rfl⟩⟩
 | true=>
   cases s <;> simp only [C1,Bool.false_eq_true] at h
   exact ⟨[],by rw [sw,List.append_nil];rfl,⟨fun _=>rfl,(fun z=>by cases z)⟩⟩
theorem NB {s:Sh} {tl r:List Nat} (h1:C1 s=true→tl=[]) (h2:C1 s=false→tl=Ck ((pts s).map Pt.w)) (hr:Ja r):∀c,(tl++r).head?=some c→c∉uc (Str.ofString "abcdefghijklmnopqrstuvwxyz"):=by
 intro c hc hm
 have hm:=let_mem.mp hm
 cases h:C1 s with
 | true=>
   rw [h1 h,List.nil_append] at hc
   have:=hr c hc
   lia
 | false=>
   rw [h2 h,Ck] at hc
   simp at hc
   lia
theorem Tn {cs cn cb:Fn} {τ:Ob} {n:Nat} (hs:NF cs τ n) (hn:Kz cn) (hb:GK cb):OA (fnOf 3 4 (FD cs cn cb)) τ n:=by
 intro q x p dep r S hq hx hd hτ hR hr
 refine AX rfl ?_
 unfold FD
 cases q with
 | sh s=>
   obtain ⟨tl,e,h1,h2⟩:=JQ s
   have hR1:Rst x p (uc (kdS s)++(tl++r)):=by rw [←List.append_assoc,←e];exact hR
   have hb':=hb x p (uc (kdS s)) (tl++r) (Str.ofString "abcdefghijklmnopqrstuvwxyz") hx hR1 (fun c m=>let_mem.mpr (LB s c m)) (NB h1 h2 hr)
   have hk:=(Pd s).1
   walk_at "w"
   refine hb'.use ?_
   walk_at "w"
   refine Do (decide_eq_true (by lia)) ?_
   walk_at "w"
   refine (hs s x p dep r S hq.1 hq.2 hx hd hτ hR hr).mono ?_
   rintro v S' ⟨rfl,xx⟩
   exact ⟨rfl,xx⟩
 | nu i=>
   have hR0:Rst x p (dg i++r):=hR
   have hb':=hb x p [] (dg i++r) (Str.ofString "abcdefghijklmnopqrstuvwxyz") hx hR0 (fun c m=>nomatch m) (fun c hc hm=>by
    have hm:=let_mem.mp hm
    obtain ⟨sg,dd,e,hsg,hdd,d1,d2⟩:=Hz hq.1 hq.2
    rw [e] at hc
    rcases hsg with rfl | rfl
    ·cases dd with
     | nil=>simp at d1
     | cons a dd=>
       have:=hdd a (by simp)
       simp at hc
       lia
    ·simp at hc
     lia)
   walk_at "w"
   refine hb'.use ?_
   walk_at "w"
   refine Bt (decide_eq_false (by simp)) ?_
   walk_at "w"
   refine (hn x p i r hx hq.1 hq.2 hR0 fun c hc=>by have:=hr c hc;lia).use ?_
   exact ⟨rfl,Ext.refl⟩
theorem T0 {L:LamD} {Pt' ln cl:Nat} {co cr cb:Fn} {g:List D→Fn} {n:Nat} (ho:Us co) (hr':ND cr L g) (hb:GK cb) (hg:∀(q:Pt) (x:Str) (p dep:Nat) (r:List Nat) (S:List Ob),q.ok n→x.length≤LIM→dep + 1 + q.dp≤7→S[0]?=some (.tab Pt' ln cl L.qual)→Rst x p (q.w++r)→Ja r→
 Wf (g [.str x,.int dep]) [.int p] S fun v S'=>v = .tup [q.d,.int ((p + q.w.length:Nat):Int)]∧Ext S S') :
 NF (fnOf 3 6 (EY L Pt' ln cl co cr cb)) (.tab Pt' ln cl L.qual) (n + 1):=by
 intro s x p dep r S hs hw hx hd hτ hR hr
 obtain ⟨tl,e,h1,h2⟩:=JQ s
 have hR1:Rst x p (uc (kdS s)++(tl++r)):=by rw [←List.append_assoc,←e];exact hR
 have hb':=hb x p (uc (kdS s)) (tl++r) (Str.ofString "abcdefghijklmnopqrstuvwxyz") hx hR1 (fun c m=>let_mem.mpr (LB s c m)) (NB h1 h2 hr)
 have hdp:=s.depth_pos
 refine AX rfl ?_
 unfold EY
 walk_at "w"
 refine Bt (decide_eq_false (by lia)) ?_
 walk_at "w"
 refine hb'.use ?_
 walk_at "w"
 refine Bu hx ?_
 rw [G9 hR1,show (⟨(uc (kdS s)).toArray⟩:Str)=kdS s from GB _]
 walk_at "w"
 refine Ho ?_
 walk_at "w"
 refine ⟨x,_,_,rfl,rfl,?_⟩
 rw [E2 (c:=40) hR1.go (by decide +kernel)]
 cases hno:C1 s with
 | true=>
   have ht:=h1 hno
   subst ht
   rw [List.nil_append]
   have e2:(r.head? == some 40)=false:=by
    rw [beq_eq_false_iff_ne]
    intro z
    have:=hr 40 z
    lia
   rw [e2]
   walk_at "w"
   refine ⟨?_,Ext.refl⟩
   cases s <;> simp only [C1,Bool.false_eq_true] at hno
   rw [e,List.append_nil,Sh.d]
   rfl
 | false=>
   have ht:=h2 hno
   have e2:((tl++r).head? == some 40)=true:=by rw [ht,Ck];simp
   rw [e2]
   walk_at "w"
   refine XQ hτ rfl ?_
   walk_at "w"
   have hR2:Rst x (p + (uc (kdS s)).length + 1) (jn ((pts s).map Pt.w)++41 :: r):=by
    have h:=hR1.go
    rw [ht,Ck] at h
    have h:=h.one
    have e3:((jn (List.map Pt.w (pts s))++[41]).append r)=jn ((pts s).map Pt.w)++41 :: r:=by
     show (jn (List.map Pt.w (pts s))++[41])++r=_
     simp
    rw [e3] at h
    exact h
   have emap:((pts s).map fun q=>(q.d,q.w)).map (·.2)=(pts s).map Pt.w:=by rw [List.map_map];rfl
   have emap1:((pts s).map fun q=>(q.d,q.w)).map (·.1)=(pts s).map Pt.d:=by rw [List.map_map];rfl
   have x0:Ext S (S++[.fn L [.str x,.int (dep:Int)]]):=⟨_,rfl⟩
   refine (hr' (.tab Pt' ln cl L.qual) x (Str.ofString ")") 41 S.length (p + (uc (kdS s)).length + 1) [.str x,.int (dep:Int)] ((pts s).map fun q=>(q.d,q.w)) r _ hx (by decide +kernel) (.inl rfl) (by rw [List.length_map];exact II hno hw) (by rw [List.length_map];have:=IH hw;lia) (x0.get hτ) (by simp) ?_ (by rw [emap];exact hR2)).mono ?_
   ·intro q hq
    obtain ⟨q,hq',rfl⟩:=List.mem_map.mp hq
    have hok:=G6 hs hw q hq'
    intro p' r' S' h0 hR' hr''
    refine hg q x p' dep r' S' hok hx ?_ h0 hR' hr''
    have:q.dp≤s.depth - 1:=by
     have:=G6 (n:=s.depth - 1) (by lia) hw q hq'
     cases q with
     | sh s'=>exact this.1
     | nu _=>exact Nat.zero_le _
    lia
   ·rintro v S' ⟨rfl,xx⟩
    rw [emap,emap1]
    walk_at "w"
    refine (ho (kdS s) ((pts s).map Pt.d) (by rw [List.length_map];have:=IH hw;lia)).use ?_
    walk_at "w"
    refine ⟨?_,x0.trans xx⟩
    have e4:p + (sw s).length=p + (uc (kdS s)).length + 1 + (jn ((pts s).map Pt.w)).length + 1:=by
     rw [e,ht,Ck]
     simp only [List.length_append,List.length_cons,List.length_nil]
     lia
    rw [e4,N1]
    cases hc:Gn s with
    | true=>rw [if_pos rfl,Sa hc]
    | false=>rw [if_neg (by simp),Sb hc]
theorem Lf {x:Str}:Pure1 (fnOf 1 1 Ee) [.str x] .non:=by
 intro S
 refine AX rfl ?_
 unfold Ee
 walk_at "w"
 exact ⟨rfl,rfl⟩
def Qf (f:Fn) (τ:Ob):Prop:=∀(s:Sh) (S:List Ob),s.depth≤6→wf s=true→cnt s≤60→S[0]?=some τ→Wf f [.str (mkT (sw s))] S fun v S'=>v=s.d∧Ext S S'
theorem TN {ci ca cc:Fn} {τ:Ob} (hi:Fs ci) (ha:NF ca τ 6) (hc:∀x:Str,Pure1 cc [.str x] .non):Qf (fnOf 1 2 (Ef ci ca cc)) τ:=by
 intro s S hs hw h60 hτ
 have hl:=Dh s hw
 have hx:(mkT (sw s)).length≤LIM:=by rw [Cm];show _≤100000;lia
 refine AX rfl ?_
 unfold Ef
 walk_at "w"
 refine (hc _).use ?_
 walk_at "w"
 refine (ha s (mkT (sw s)) 0 1 [] S hs hw hx (by lia) hτ ⟨Nat.zero_le _,by rw [BY,List.append_nil];rfl⟩ (fun c h=>nomatch h)).mono ?_
 rintro v S' ⟨rfl,xx⟩
 walk_at "w"
 refine KR hx ?_
 walk_at "w"
 refine Bt (by rw [Cm];simp) ?_
 walk_at "w"
 refine (hi s.d (Hn s)).use ?_
 rw [Mf hw hs h60]
 walk_at "w"
 exact ⟨rfl,xx⟩
theorem Cn {α:Type} {l:List α} {ι f:α→D} {fr:List (Option Sl)} {S:List Ob} {elt:M D} {z:Option Sl} (h:∀a∈l,W elt ⟨some (.val (ι a)) :: fr,S⟩ fun x t'=>x=f a∧t'=⟨some (.val (ι a)) :: fr,S⟩) :
 W (CU (Bv 0) Cy elt (l.map ι)) ⟨z :: fr,S⟩ fun xs t'=>xs=l.map f∧t'.S=S:=by
 induction l generalizing z with
 | nil=>exact W_compL_nil.mpr ⟨rfl,rfl⟩
 | cons a r ih=>
   rw [List.map_cons,GM]
   refine GD (GF ?_)
   rw [if_pos rfl]
   refine (h a List.mem_cons_self).mono fun x t' ⟨e1,e2⟩=>?_
   subst e1 e2
   refine (ih (z:=some (.val (ι a))) fun b hb=>h b (List.mem_cons_of_mem _ hb)).mono fun xs t' ⟨e1,e2⟩=>?_
   subst e1
   exact ⟨rfl,e2⟩
theorem Pc:∀ws:List (List Nat),1≤ws.length→(ws.map fun w=>w.length + 1).sum=(jn ws).length + 1
 | [],h=>by simp at h
 | [w],_=>by simp [jn]
 | w :: v :: r,_=>by
   have:=Pc (v :: r) (by simp)
   rw [jn,List.length_append,List.length_cons,List.map_cons,List.sum_cons,this]
   lia
theorem VN {α:Type} (f:α→Nat):∀l:List α,(l.map fun a=>f a + 1).sum=(l.map f).sum + l.length
 | []=>rfl
 | a :: l=>by
   have:=VN f l
   simp only [List.map_cons,List.sum_cons,List.length_cons,this]
   lia
theorem FL {a:D} {r:List D}:cutD (a :: r) (some 1) none=r:=by
 unfold cutD
 have e1:HT.sIx (a :: r).length 0 (some 1)=1:=by simp [HT.sIx]
 have e2:HT.sIx (a :: r).length (a :: r).length none=r.length + 1:=by simp [HT.sIx]
 rw [e1,e2]
 simp
def ShwOk (f:Fn) (n:Nat):Prop:=∀s:Sh,s.depth≤n→wf s=true→cnt s≤60→Pure1 f [s.d] (.str (mkT (sw s)))
theorem ShwOk.zero {f:Fn}:ShwOk f 0:=fun s h=>absurd s.depth_pos (by lia)
def PtW (f:Fn) (n:Nat):Prop:=∀q:Pt,q.ok n→q.c≤60→Pure1 f [q.d] (.str (mkT q.w))
theorem Vj {c:Fn} {n:Nat} (hc:ShwOk c n):PtW (fnOf 1 1 (EE c)) n:=by
 intro q hq h60 S
 refine AX rfl ?_
 unfold EE
 cases q with
 | sh s=>
   show F2.W _ ⟨env0 1 [s.d],S⟩ _
   walk_at "w"
   refine VX (n:="tuple") (b:=true) (by obtain ⟨x,r,e⟩:=SV s;rw [e];rfl) rfl ?_
   walk_at "w"
   exact (hc s hq.1 hq.2 h60).use ⟨rfl,rfl⟩
 | nu i=>
   show F2.W _ ⟨env0 1 [.int i],S⟩ _
   have hq : -1000000000000000000 < i∧i < 1000000000000000000:=hq
   walk_at "w"
   refine HZ (C9 (by lia) (by lia)) ?_
   exact ⟨by show _=D.str (mkT (uc _));rw [EH],rfl⟩
theorem DB {α:Type} (g:α→Str) (l:List α):DZ (l.map fun a=>D.str (g a))=some (l.map g):=by
 have:=Kc (l.map g)
 rw [List.map_map] at this
 exact this
theorem Gs {s:Sh} (h:C1 s=false) (hw:wf s=true) (h60:cnt s≤60):(((pts s).map fun q=>mkT q.w).map (·.length)).sum + ((pts s).map fun q=>mkT q.w).length≤3600∧uc (Txt.join (Str.ofString ",") ((pts s).map fun q=>mkT q.w))=jn ((pts s).map Pt.w)∧(jn ((pts s).map Pt.w)).length + (uc (kdS s)).length + 2=(sw s).length:=by
 have e1:(sw s).length=(uc (kdS s)).length + ((jn ((pts s).map Pt.w)).length + 1 + 1):=by
  rw [Re h,Ck]
  simp only [List.length_append,List.length_cons,List.length_nil]
 have h1:=Pc ((pts s).map Pt.w) (by rw [List.length_map];exact II h hw)
 have h2:=Dh s hw
 refine ⟨?_,?_,by lia⟩
 ·have e2:((pts s).map fun q=>mkT q.w).map (·.length)=(pts s).map fun q=>q.w.length:=by
   rw [List.map_map]
   exact List.map_congr_left fun q _=>Cm _
  rw [e2,List.length_map,←VN]
  rw [List.map_map] at h1
  have h1:((pts s).map fun q=>q.w.length + 1).sum=_:=h1
  lia
 ·rw [Jo,List.map_map]
  exact congrArg jn (List.map_congr_left fun q _=>BY _)
theorem VJ {c:Fn} {n:Nat} (hc:PtW c n):ShwOk (fnOf 1 2 (Eg c)) (n + 1):=by
 intro s hs hw h60 S
 have hL:LIM=100000:=rfl
 have l1:(Str.ofString "(").length=1:=by decide +kernel
 have l2:(Str.ofString ")").length=1:=by decide +kernel
 have l3:(Str.ofString ",").length=1:=by decide +kernel
 have hk:=Pd s
 rw [BN] at hk
 have hsl:=Dh s hw
 have fin:C1 s=false→(Txt.join (Str.ofString ",") ((pts s).map fun q=>mkT q.w)).length≤3600:=fun h=>by
  obtain ⟨_,h2,h3⟩:=Gs h hw h60
  rw [←BN,h2]
  lia
 have body:∀(z:Option Sl) (t0:T) (P:D→T→Prop),C1 s=false→(∀t',t'.env=t0.env→t'.S=t0.S→P (.str (mkT (sw s))) t')→t0.S=S→t0.env[1]?=some (some (.val (.tup ((pts s).map Pt.d))))→t0.env[0]?=some (some (.val s.d))→(∃k r,s.d = .tup (.str k :: r)∧k=kdS s)→
  F2.W (Aj (Aj (Aj (Aj (Ad 0) (fC (.int 0)) ixD) (fC (.str "(")) A7) (joinW (fC (.str ",")) (Ac (Bo (Cz 1 [] (CF (Ad 1)) (Bv 0) Cy (Av c (Ac (Ad 0) Ah)))) Ah)) A7) (fC (.str ")")) A7) t0 P:=by
  intro z t0 P h hP hS h1 h0 ⟨k,r,ek,kk⟩
  subst kk
  rw [ek] at h0
  obtain ⟨q1,q2,q3⟩:=Gs h hw h60
  have hf:=fin h
  refine Fp (Fp (Fp (Fp (DO h0 (wC ?_)))))
  walk_at "w"
  refine Bu (by rw [hL];lia) ?_
  refine EM ?_
  walk_at "w"
  refine DO h1 ?_
  walk_at "w"
  refine (Cn (l:=pts s) (ι:=Pt.d) (f:=fun q=>.str (mkT q.w)) (fr:=[]) ?_).mono ?_
  ·intro q m
   walk_at "w"
   refine (hc q (G6 hs hw q m) (by have:=RZ q m;lia)).use ⟨rfl,rfl⟩
  ·rintro xs t' ⟨rfl,hS'⟩
   refine Bu (by rw [List.length_map,hL];have:=IH hw;lia) ?_
   walk_at "w"
   refine ⟨_,_,(pts s).map fun q=>mkT q.w,rfl,rfl,DB _ _,⟨by rw [l3];decide,by lia⟩,?_⟩
   walk_at "w"
   refine Bu (by rw [hL,Bh];lia) ?_
   walk_at "w"
   refine Bu (by rw [hL,Bh,Bh];lia) ?_
   have e:kdS s++Str.ofString "("++Txt.join (Str.ofString ",") ((pts s).map fun q=>mkT q.w)++Str.ofString ")" = mkT (sw s):=by
    apply DT
    rw [BS,BS,BS,q2,BY,Re h,Ck,show uc (Str.ofString "(")=[40] by decide +kernel,show uc (Str.ofString ")")=[41] by decide +kernel]
    simp
   rw [e]
   exact hP _ rfl hS'
 refine AX rfl ?_
 unfold Eg
 cases hc':Gn s with
 | true=>
   have hno:C1 s=false:=by cases s <;> simp [Gn] at hc' <;> rfl
   have hd:=Sa hc'
   have hpn:=II hno hw
   rw [hd]
   walk_at "w"
   refine Do (by rw [id,N1,hc']) ?_
   walk_at "w"
   refine Bt (by simp;intro z;rw [z] at hpn;simp at hpn) ?_
   refine KS (Cq (Rq (body none _ _ hno (fun t' _ h=>⟨rfl,h⟩) rfl rfl ?_ ⟨_,_,hd,rfl⟩)))
   rw [hd];rfl
 | false=>
   have hd:=Sb hc'
   rw [hd]
   walk_at "w"
   refine Bt (by rw [id,N1,hc']) ?_
   walk_at "w"
   rw [FL]
   walk_at "w"
   cases hno:C1 s with
   | true=>
     cases s <;> simp only [C1,Bool.false_eq_true] at hno
     refine Do rfl ?_
     walk_at "w"
     refine ⟨?_,rfl⟩
     rw [sw,EH]
     rfl
   | false=>
     have hpn:=II hno hw
     refine Bt (by simp;intro z;rw [z] at hpn;simp at hpn) ?_
     refine KS (Cq (Rq (body none _ _ hno (fun t' _ h=>⟨rfl,h⟩) rfl rfl ?_ ⟨_,_,hd,rfl⟩)))
     rw [hd];rfl
theorem Rf {c:Fn} {n:Nat} (hc:ShwOk c n):ShwOk (fnOf 1 2 (DX c)) (n + 1):=by
 intro s hs hw h60 S
 have hL:LIM=100000:=rfl
 have hsl:=Dh s hw
 have a1:uc (Str.ofString "list(")=uc (Str.ofString "list")++[40]:=by decide +kernel
 have a2:uc (Str.ofString "pair(")=uc (Str.ofString "pair")++[40]:=by decide +kernel
 have a3:uc (Str.ofString "choice(")=uc (Str.ofString "choice")++[40]:=by decide +kernel
 have a4:uc (Str.ofString "(")=[40]:=by decide +kernel
 have a5:uc (Str.ofString ")")=[41]:=by decide +kernel
 have a6:uc (Str.ofString ",")=[44]:=by decide +kernel
 have b1:(Str.ofString "list(").length=5:=by decide +kernel
 have b2:(Str.ofString "pair(").length=5:=by decide +kernel
 have b3:(Str.ofString "choice(").length=7:=by decide +kernel
 have b4:(Str.ofString "(").length=1:=by decide +kernel
 have b5:(Str.ofString ")").length=1:=by decide +kernel
 have b6:(Str.ofString ",").length=1:=by decide +kernel
 have b7:(Str.ofString "number").length=6:=by decide +kernel
 have b8:(Str.ofString "text").length=4:=by decide +kernel
 refine AX rfl ?_
 unfold DX
 cases s with
 | nothing=>
   rw [Sh.d]
   walk_at "w"
   exact ⟨by rw [sw,EH],rfl⟩
 | number lo hi=>
   rw [Sh.d]
   simp only [wf,Bool.and_eq_true,decide_eq_true_eq] at hw
   have c1:=Fm (i:=lo) (by lia) (by lia)
   have c2:=Fm (i:=hi) (by lia) (by lia)
   walk_at "w"
   refine EM ?_
   walk_at "w"
   rw [FL]
   refine (Cn (l:=[lo,hi]) (ι:=D.int) (f:=fun i=>.str (Str.ofString (toString i))) (fr:=[]) ?_).mono ?_
   ·intro i m
    simp only [List.mem_cons,List.not_mem_nil,or_false] at m
    walk_at "w"
    refine HZ (C9 (by lia) (by lia)) ⟨rfl,rfl⟩
   ·rintro xs t' ⟨rfl,hS'⟩
    walk_at "w"
    refine ⟨_,_,[lo,hi].map fun i=>Str.ofString (toString i),rfl,rfl,DB _ _,⟨by rw [b6];decide,by simp only [List.map_cons,List.map_nil,List.sum_cons,List.sum_nil,List.length_cons,List.length_nil];lia⟩,?_⟩
    have e:uc (Txt.join (Str.ofString ",") ([lo,hi].map fun i=>Str.ofString (toString i)))=jn [dg lo,dg hi]:=Jo _
    have el:=congrArg List.length e
    rw [BN,jn,jn,List.length_append,List.length_cons] at el
    have d1:(dg lo).length≤20:=by unfold dg;rw [BN];exact c1
    have d2:(dg hi).length≤20:=by unfold dg;rw [BN];exact c2
    walk_at "w"
    refine Bu (by rw [hL,Bh];lia) ?_
    walk_at "w"
    refine Bu (by rw [hL,Bh,Bh];lia) ?_
    refine ⟨congrArg D.str (DT ?_),hS'⟩
    rw [BS,BS,BS,e,BY,sw,Ck,a4,a5]
    simp
 | text m=>
   rw [Sh.d]
   simp only [wf,Bool.and_eq_true,decide_eq_true_eq] at hw
   have c1:=Fm (i:=m) (by lia) (by lia)
   walk_at "w"
   refine EM ?_
   walk_at "w"
   rw [FL]
   refine (Cn (l:=[m]) (ι:=D.int) (f:=fun i=>.str (Str.ofString (toString i))) (fr:=[]) ?_).mono ?_
   ·intro i mm
    simp only [List.mem_cons,List.not_mem_nil,or_false] at mm
    walk_at "w"
    refine HZ (C9 (by lia) (by lia)) ⟨rfl,rfl⟩
   ·rintro xs t' ⟨rfl,hS'⟩
    walk_at "w"
    refine ⟨_,_,[m].map fun i=>Str.ofString (toString i),rfl,rfl,DB _ _,⟨by rw [b6];decide,by simp only [List.map_cons,List.map_nil,List.sum_cons,List.sum_nil,List.length_cons,List.length_nil];lia⟩,?_⟩
    have e:uc (Txt.join (Str.ofString ",") ([m].map fun i=>Str.ofString (toString i)))=jn [dg m]:=Jo _
    have el:=congrArg List.length e
    rw [BN,jn] at el
    have d1:(dg m).length≤20:=by unfold dg;rw [BN];exact c1
    walk_at "w"
    refine Bu (by rw [hL,Bh];lia) ?_
    walk_at "w"
    refine Bu (by rw [hL,Bh,Bh];lia) ?_
    refine ⟨congrArg D.str (DT ?_),hS'⟩
    rw [BS,BS,BS,e,BY,sw,Ck,a4,a5]
    simp
 | list s m=>
   rw [Sh.d]
   simp only [wf,Bool.and_eq_true,decide_eq_true_eq] at hw
   rw [Sh.depth] at hs
   rw [cnt] at h60
   have hs1:=Dh s hw.2
   have c1:=Fm (i:=m) (by lia) (by lia)
   have c2:=Cm (sw s)
   walk_at "w"
   refine (hc s (by lia) hw.2 (by lia)).use ?_
   walk_at "w"
   refine Bu (by rw [hL];lia) ?_
   walk_at "w"
   refine Bu (by rw [hL,Bh];lia) ?_
   walk_at "w"
   refine HZ (C9 (by lia) (by lia)) ?_
   walk_at "w"
   refine Bu (by rw [hL,Bh,Bh];lia) ?_
   walk_at "w"
   refine Bu (by rw [hL,Bh,Bh,Bh];lia) ?_
   refine ⟨congrArg D.str (DT ?_),rfl⟩
   rw [BS,BS,BS,BS,BY,BY,sw,Ck,jn,jn,a1,a5,a6]
   simp [dg]
 | pair s r=>
   rw [Sh.d]
   simp only [wf,Bool.and_eq_true] at hw
   rw [Sh.depth] at hs
   rw [cnt] at h60
   have hs1:=Dh s hw.1
   have hs2:=Dh r hw.2
   have c1:=Cm (sw r)
   have c2:=Cm (sw s)
   walk_at "w"
   refine (hc s (by lia) hw.1 (by lia)).use ?_
   walk_at "w"
   refine Bu (by rw [hL];lia) ?_
   walk_at "w"
   refine Bu (by rw [hL,Bh];lia) ?_
   walk_at "w"
   refine (hc r (by lia) hw.2 (by lia)).use ?_
   walk_at "w"
   refine Bu (by rw [hL,Bh,Bh];lia) ?_
   walk_at "w"
   refine Bu (by rw [hL,Bh,Bh,Bh];lia) ?_
   refine ⟨congrArg D.str (DT ?_),rfl⟩
   rw [BS,BS,BS,BS,BY,BY,BY,sw,Ck,jn,jn,a2,a5,a6]
   simp
 | choice ss=>
   obtain ⟨q1,q2,q3⟩:=Gs (s:=.choice ss) rfl hw h60
   have hle:=IH (s:=.choice ss) hw
   have hpk:∀x∈ss,x.depth≤n∧wf x=true∧cnt x≤60:=fun x hx=>by
    have h1:=G6 (s:=.choice ss) hs hw (.sh x) (List.mem_map.mpr ⟨x,hx,rfl⟩)
    have h2:cnt x + 1≤_:=RZ (s:=.choice ss) (.sh x) (List.mem_map.mpr ⟨x,hx,rfl⟩)
    exact ⟨h1.1,h1.2,by lia⟩
   rw [pts,List.map_map,List.map_map] at q1 q2
   rw [pts,List.map_map] at q3
   rw [pts,List.length_map] at hle
   rw [Sh.d,Ev]
   walk_at "w"
   refine EM ?_
   walk_at "w"
   refine (Cn (l:=ss) (ι:=Sh.d) (f:=fun s=>.str (mkT (sw s))) (fr:=[]) ?_).mono ?_
   ·intro x m
    obtain ⟨h1,h2,h3⟩:=hpk x m
    walk_at "w"
    exact (hc x h1 h2 h3).use ⟨rfl,rfl⟩
   ·rintro xs t' ⟨rfl,hS'⟩
    refine Bu (by rw [List.length_map,hL];lia) ?_
    walk_at "w"
    have q1':((ss.map fun s=>mkT (sw s)).map (·.length)).sum + (ss.map fun s=>mkT (sw s)).length≤3600:=by
     rw [List.map_map]
     rw [List.length_map,List.length_map] at q1
     rw [List.length_map]
     exact q1
    have q2':uc (Txt.join (Str.ofString ",") (ss.map fun s=>mkT (sw s)))=jn (ss.map sw):=q2
    have el:=congrArg List.length q2'
    rw [BN] at el
    have q3':(jn (ss.map sw)).length + (uc (kdS (.choice ss))).length + 2=(sw (.choice ss)).length:=q3
    refine ⟨_,_,ss.map fun s=>mkT (sw s),rfl,rfl,DB _ _,⟨by rw [b6];decide,by lia⟩,?_⟩
    walk_at "w"
    refine Bu (by rw [hL];lia) ?_
    walk_at "w"
    refine Bu (by rw [hL,Bh];lia) ?_
    refine ⟨congrArg D.str (DT ?_),hS'⟩
    rw [BS,BS,q2',BY,sw,Ck,JR,a3,a5]
    simp
def PlD:Nat→D→Bool
 | 0,_=>false
 | n + 1,.tup ds=>decide (ds.length≤1000) && ds.all (PlD n)
 | _ + 1,.str _=>true
 | _ + 1,.int _=>true
 | _ + 1,_=>false
def Yp (f:Fn) (n:Nat):Prop:=∀d,PlD n d=true→Pure1 f [d,d] (.bl true)
def V3 (τ:Ob) (k r:Nat) (S:List Ob):Prop:=Room k r S∧S[0]?=some τ∧k≠0
def cB:Nat→Nat
 | 0=>1
 | 1=>10
 | d + 2=>1 + 3 * cB (d + 1)
theorem OE (d:Nat):1≤cB d:=by
 match d with
 | 0=>exact Nat.le_refl _
 | 1=>decide
 | d + 2=>rw [cB];lia
theorem Sv (d:Nat):1 + 3 * cB d≤cB (d + 1):=by
 match d with
 | 0=>decide
 | d + 1=>rw [cB.eq_3];exact Nat.le_refl _
theorem SA {ss:List Sh} {b:Nat} (h:∀s∈ss,cnt s≤b):CB ss≤ss.length * b:=by
 induction ss with
 | nil=>rw [CB];exact Nat.zero_le _
 | cons s r ih=>
   have h1:=h s (by simp)
   have h2:=ih fun x hx=>h x (List.mem_cons_of_mem _ hx)
   rw [CB,List.length_cons,Nat.succ_mul]
   lia
structure DrawnT (τ:Ob) (k r dp c:Nat) (v:D) (S':List Ob):Prop where
 ex:∃s:Sh,v=s.d∧s.depth≤dp∧wf s=true∧cnt s≤c
 pool:V3 τ k r S'
def jnG (sep:List Nat):List (List Nat)→List Nat
 | []=>[]
 | [w]=>w
 | w :: v :: r=>w++(sep++jnG sep (v :: r))
theorem LA (sp:Str):∀ys:List Str,uc (Txt.join sp ys)=jnG (uc sp) (ys.map uc):=by
 intro ys
 show uc (Builtin.Str.glued _ ys)=_
 rw [StrLaws.glued_eq_join]
 induction ys with
 | nil=>rfl
 | cons y r ih=>
   cases r with
   | nil=>rfl
   | cons z r=>
     rw [PyProof.Rows.join_cons_cons,BS,BS,ih]
     show _=uc y++(uc sp++jnG (uc sp) ((z :: r).map uc))
     rw [List.append_assoc]
theorem Jm (sep:List Nat):∀ws:List (List Nat),(jnG sep ws).length≤(ws.map fun w=>w.length + sep.length).sum
 | []=>by simp [jnG]
 | [w]=>by simp [jnG]
 | w :: v :: r=>by
   have:=Jm sep (v :: r)
   rw [jnG,List.length_append,List.length_append,List.map_cons,List.sum_cons]
   omega
theorem at_iff {x y:Str} {i:Nat}:StrLaws.At x y x.length i↔∃r,Rst x i (uc y++r):=by
 constructor
 ·rintro ⟨h1,h2⟩
  rw [StrLaws.subAt_eq] at h2
  have h2:=eq_of_beq h2
  refine ⟨((uc x).drop i).drop y.length,⟨by rw [BN];omega,?_⟩⟩
  have e:(List.drop i (uc x)).take y.length=uc y:=h2
  rw [←e,List.take_append_drop]
 ·rintro ⟨r,h⟩
  have hl:=h.len
  rw [BN,List.length_append,BN] at hl
  refine ⟨by omega,?_⟩
  rw [StrLaws.subAt_eq]
  show ((List.drop i (uc x)).take y.length == uc y)=true
  rw [h.eq,←BN y,List.take_left]
  simp
theorem Rst.nth {x:Str} {p:Nat} {r:List Nat} (h:Rst x p r) {v:Nat} (h1:p≤v):(uc x)[v]?=r[v - p]?:=by
 have e0:(uc x)[v]?=((uc x).drop p)[v - p]?:=by rw [List.getElem?_drop];congr 1;omega
 rw [e0,h.eq]
theorem KL {x y:Str} {p c:Nat} {w r sr:List Nat} (h:Rst x p (w++r)) (hy:uc y=c :: sr) (hw:c∉w) {k:Nat} (h1:p≤k) (h2:k < p + w.length):¬StrLaws.At x y x.length k:=by
 rw [at_iff]
 rintro ⟨r',h'⟩
 have e1:=h.nth h1
 rw [List.getElem?_append_left (by omega)] at e1
 have e2:(uc x)[k]?=some c:=by
  have:=h'.nth (Nat.le_refl k)
  rw [hy,Nat.sub_self] at this
  exact this
 rw [e2] at e1
 exact hw (List.mem_of_getElem? e1.symm)
theorem Fb {x:Str} {p:Nat} {w r:List Nat} (h:Rst x p (w++r)):Builtin.Str.strSub x p (p + w.length)=mkT w:=by
 apply DT
 show (Builtin.Str.strSub x p (p + w.length)).cps.toList=_
 rw [StrLaws.strSub_toList,BY]
 have e:p + w.length - p=w.length:=by omega
 rw [e]
 show List.take w.length (List.drop p (uc x))=w
 rw [h.eq,List.take_left]
theorem Mh {x y:Str} {c:Nat} {sr:List Nat} (hy:uc y=c :: sr):∀(ws:List (List Nat)) (a f:Nat) (cuts:List Nat),1≤ws.length→(∀w∈ws,c∉w)→Rst x a (jnG (uc y) ws)→StrLaws.ChainG x y x.length a cuts f→(∀k,f≤k→¬StrLaws.At x y x.length k)→StrLaws.partsFrom x y.length a cuts=ws.map mkT
 | [],_,_,_,h,_,_,_,_=>by simp at h
 | [w],a,f,cuts,_,hw,hR,hc,hf=>by
   rw [jnG] at hR
   have hR':Rst x a (w++[]):=by rw [List.append_nil];exact hR
   have hl:=hR.len
   rw [BN] at hl
   cases cuts with
   | cons k cuts=>
     have hk:=hc.2.1.1
     have hyl:1≤y.length:=by rw [←BN,hy];simp
     exact absurd hc.2.1 (KL hR' hy (hw w (by simp)) hc.1 (by omega))
   | nil=>
     show [Builtin.Str.strSub x a x.length]=[mkT w]
     rw [hl,Fb hR']
 | w :: v :: r,a,f,cuts,_,hw,hR,hc,hf=>by
   rw [jnG] at hR
   have hat:StrLaws.At x y x.length (a + w.length):=at_iff.mpr ⟨_,hR.go⟩
   cases cuts with
   | nil=>
     have e:f=a:=hc
     exact absurd hat (hf _ (by omega))
   | cons k cuts=>
     obtain ⟨h1,h2,h3,h4⟩:=hc
     have hk:k=a + w.length:=by
      by_cases hlt:k < a + w.length
      ·exact absurd h2 (KL hR hy (hw w (by simp)) h1 hlt)
      ·by_cases hgt:a + w.length < k
       ·exact absurd hat (h3 _ (by omega) hgt)
       ·omega
     subst hk
     show Builtin.Str.strSub x a (a + w.length) :: StrLaws.partsFrom x y.length (a + w.length + y.length) cuts=_
     rw [Fb hR,Mh hy (v :: r) _ f cuts (by simp) (fun z hz=>hw z (List.mem_cons_of_mem _ hz)) (by have:=hR.go.go;rw [BN] at this;exact this) h4 hf]
     rfl
theorem QF {x:Str} (h:∀c∈uc x,c < 256):Builtin.Str.strKind x=1:=by
 unfold Builtin.Str.strKind
 rw [if_pos]
 rw [←Array.all_toList,List.all_eq_true]
 intro c hc
 exact decide_eq_true (h c hc)
theorem Mi {x y:Str} {c:Nat} {sr:List Nat} (hy:uc y=c :: sr) (hk:Builtin.Str.strKind y=1) (ws:List (List Nat)) (h1:1≤ws.length) (hw:∀w∈ws,c∉w) (hx:uc x=jnG (uc y) ws) (hlow:∀z∈uc x,z < 256):Txt.split x y=ws.map mkT:=by
 have hR:Rst x 0 (jnG (uc y) ws):=⟨Nat.zero_le _,hx⟩
 have hyl:1≤y.length:=by rw [←BN,hy];simp
 obtain ⟨f,hc,hf⟩:=StrLaws.occ_tight x y hyl
 have main:=Mh hy ws 0 f _ h1 hw hR hc hf
 have whole:∀cuts,cuts=[]→StrLaws.partsFrom x y.length 0 cuts=[x]:=by
  rintro _ rfl
  show [Builtin.Str.strSub x 0 x.length]=[x]
  rw [StrLaws.sub_whole]
 unfold Txt.split
 split
 ·next h=>
  have hlt:x.length < y.length:=by
   rw [QF hlow,hk] at h
   simpa using h
  have e:Builtin.Str.occurrences x y 0 x.length (x.length + 1)=[]:=by
   cases e:Builtin.Str.occurrences x y 0 x.length (x.length + 1) with
   | nil=>rfl
   | cons k r=>rw [e] at hc;have:=hc.2.1.1;omega
  rw [←main]
  exact (whole _ e).symm
 ·split
  ·next h=>
   rw [←main]
   exact (whole _ (List.isEmpty_iff.mp h)).symm
  ·rw [StrLaws.partsBetween_eq]
   exact main
theorem Tm {x y:Str} {c:Nat} {a b:List Nat} (hy:uc y=[c]) (hx:uc x=a++c :: b) (ha:c∉a):Txt.partition x y=(mkT a,y,mkT b):=by
 have hR:Rst x 0 (a++c :: b):=⟨Nat.zero_le _,hx⟩
 have hat:StrLaws.At x y x.length (0 + a.length):=at_iff.mpr ⟨b,by rw [hy];exact hR.go⟩
 have hl:=hR.len
 rw [BN,List.length_append,List.length_cons] at hl
 have hyl:y.length=1:=by rw [←BN,hy];rfl
 unfold Txt.partition
 rcases StrLaws.occ_head_from x y 0 1 (Nat.le_refl 1) with ⟨e,h⟩ | ⟨i,r,e,h0,h1,h2⟩
 ·exact absurd hat (h _ (Nat.zero_le _))
 ·have hi:i=0 + a.length:=by
   by_cases hlt:i < 0 + a.length
   ·exact absurd h1 (KL hR hy ha h0 hlt)
   ·by_cases hgt:0 + a.length < i
    ·exact absurd hat (h2 _ (Nat.zero_le _) hgt)
    ·omega
  subst hi
  rw [e]
  dsimp only
  rw [Fb hR,hyl]
  have hR2:Rst x (0 + a.length + 1) (b++[]):=by rw [List.append_nil];exact hR.go.one
  have e2:x.length=0 + a.length + 1 + b.length:=by omega
  rw [e2,Fb hR2]
def nmB (x:Str):Bool:=decide (1≤x.length) && decide (x.length≤8) && x.cps.toList.all fun c=>decide (97≤c) && decide (c≤122)
theorem Q9 {x y:Str} {c:Nat} {a b:List Nat} (hy:uc y=[c]) (hx:uc x=a++c :: b) (hb:c∉b):Txt.rpartition x y=(mkT a,y,mkT b):=by
 have hR:Rst x 0 (a++c :: b):=⟨Nat.zero_le _,hx⟩
 have hat:StrLaws.At x y x.length (0 + a.length):=at_iff.mpr ⟨b,by rw [hy];exact hR.go⟩
 have hl:=hR.len
 rw [BN,List.length_append,List.length_cons] at hl
 have hyl:y.length=1:=by rw [←BN,hy];rfl
 have hR2:Rst x (0 + a.length + 1) (b++[]):=by rw [List.append_nil];exact hR.go.one
 unfold Txt.rpartition
 rcases StrLaws.last_spec x y with ⟨e,h⟩ | ⟨i,e,h1,h2⟩
 ·exact absurd hat (h _)
 ·have hi:i=0 + a.length:=by
   by_cases hlt:i < 0 + a.length
   ·exact absurd hat (h2 _ hlt)
   ·by_cases hgt:0 + a.length < i
    ·have hb1:=h1.1
     exact absurd h1 (KL hR2 hy hb (by omega) (by omega))
    ·omega
  subst hi
  rw [e]
  dsimp only
  rw [Fb hR,hyl]
  have e2:x.length=0 + a.length + 1 + b.length:=by omega
  rw [e2,Fb hR2]
theorem VY {x y:Str} {t:T} {P:D→T→Prop} (h:P (.bl (!(decide (y.cps.toList < x.cps.toList)))) t):W (leA (.str x) (.str y)) t P:=⟨_,_,rfl,h⟩
theorem Uh {ds:List D} {xs:List Str} {t:T} {P:D→T→Prop} (e:Fo ds=some xs) (hl:xs.length≤4000) (h:P (.int (ddT xs).length) t):W (F9 [.lst ds]) t P:=
 ⟨_,_,by simp only [F9,e,if_pos hl],h⟩
def F3:D→Bool
 | .str x=>nmB x
 | _=>false
def KK (n:Int):D→Bool
 | .int i=>decide (0≤i) && decide (i≤n - 1)
 | _=>false
def E7 (n:Int):D→Bool
 | .tup [a,s,t]=>F3 a && (D2 s && KK n t)
 | _=>false
def KY (f:Fn):Prop:=∀d,okD d=true→Pure1 f [d] (.bl (F3 d))
theorem T4 (c:Nat):(!(decide ((⟨#[c]⟩:Str).cps.toList < (Str.ofString "a").cps.toList)) && !(decide ((Str.ofString "z").cps.toList < (⟨#[c]⟩:Str).cps.toList)))=(decide (97≤c) && decide (c≤122)):=by
 have e1:(Str.ofString "a").cps.toList=[97]:=by decide +kernel
 have e2:(Str.ofString "z").cps.toList=[122]:=by decide +kernel
 have e3:(⟨#[c]⟩:Str).cps.toList=[c]:=rfl
 rw [e1,e2,e3]
 have h1:decide ([c] < [97])=decide (c < 97):=decide_eq_decide.mpr (by simp [List.cons_lt_cons_iff])
 have h2:decide ([122] < [c])=decide (122 < c):=decide_eq_decide.mpr (by simp [List.cons_lt_cons_iff])
 rw [h1,h2,Bool.eq_iff_iff]
 simp only [Bool.and_eq_true,Bool.not_eq_true',decide_eq_false_iff_not,decide_eq_true_eq]
 omega
theorem NX:KY (fnOf 1 2 FA):=by
 intro d h S
 have hL:LIM=100000:=rfl
 refine AX rfl ?_
 unfold FA
 cases d with
 | str x=>
   have hx:x.length≤90000:=by simpa [okD] using h
   walk_at "w"
   refine KR (by rw [hL];omega) ?_
   walk_at "w"
   have fin:∀{t:T},(∀c∈x.cps.toList,(decide (97≤c) && decide (c≤122))=true)→t.S=S→(1:Int)≤x.length→(x.length:Int)≤8→((D.bl true = .bl (F3 (.str x)))∧t.S=S):=fun {t} h1 h2 h3 h4=>by
    refine ⟨?_,h2⟩
    congr 1
    show true=nmB x
    unfold nmB
    rw [List.all_eq_true.mpr h1,decide_eq_true (show 1≤x.length by omega),decide_eq_true (show x.length≤8 by omega)]
    rfl
   refine Cj (fun q=>?_) fun q=>?_
   ·walk_at "w"
    have q1:(1:Int)≤x.length:=of_decide_eq_true q
    refine Cj (fun q=>?_) fun q=>?_
    ·walk_at "w"
     refine ⟨?_,rfl⟩
     have:¬((x.length:Int)≤8):=by simpa using q
     congr 1
     show false=nmB x
     unfold nmB
     rw [show decide (x.length≤8)=false from decide_eq_false (by omega)]
     simp
    ·have q2:(x.length:Int)≤8:=by simpa using q
     walk_at "w"
     refine Ez (fun r t=>∃(l l':List Nat) (e1:Option Sl),x.cps.toList=l++l'∧(∀c∈l,(decide (97≤c) && decide (c≤122))=true)∧r=l'.map (fun c=>D.str ⟨#[c]⟩)∧t=⟨[some (.val (.str x)),e1],S⟩) _ _ ⟨[],_,_,rfl,by simp,rfl,rfl⟩ ?_ ?_
     ·rintro d r t ⟨l,l',e1,hl,ha,hr,rfl⟩ _
      cases l' with
      | nil=>cases hr
      | cons c l'=>
      rw [List.map_cons] at hr
      injection hr with hr1 hr2
      subst hr1
      have sz:=T4 c
      walk_at "w"
      refine VY ?_
      walk_at "w"
      have bad:(decide (97≤c) && decide (c≤122))=false→F3 (.str x)=false:=fun hb=>by
       show nmB x=false
       unfold nmB
       rw [hl,List.all_append,List.all_cons,hb]
       simp
      refine Cj (fun q=>?_) fun q=>?_
      ·rw [q,Bool.true_and] at sz
       walk_at "w"
       refine VY ?_
       walk_at "w"
       refine Cj (fun q=>?_) fun q=>?_
       ·walk_at "w"
        refine ⟨?_,rfl⟩
        rw [bad (by rw [←sz];simpa using q)]
       ·walk_at "w"
        refine ⟨l++[c],l',_,by rw [hl];simp,?_,hr2,rfl⟩
        refine List.forall_mem_append.mpr ⟨ha,?_⟩
        intro y hy
        rw [List.mem_singleton] at hy
        subst hy
        rw [←sz]
        simpa using q
      ·rw [q,Bool.false_and] at sz
       walk_at "w"
       refine ⟨?_,rfl⟩
       rw [bad sz.symm]
     ·rintro t ⟨l,l',e1,hl,ha,hr,rfl⟩
      have:l'=[]:=List.map_eq_nil_iff.mp hr.symm
      subst this
      rw [List.append_nil] at hl
      walk_at "w"
      exact fin (by rw [hl];exact ha) rfl q1 q2
   ·walk_at "w"
    refine ⟨?_,rfl⟩
    have:¬((1:Int)≤x.length):=of_decide_eq_false q
    congr 1
    show false=nmB x
    unfold nmB
    rw [show decide (1≤x.length)=false from decide_eq_false (by omega)]
    simp
 | obj _=>simp [okD] at h
 | scr _=>simp [okD] at h
 | ty _=>simp [okD] at h
 | exc _ _=>simp [okD] at h
 | _=>walk_at "w";exact ⟨rfl,rfl⟩
def K3 (f:Fn):Prop:=∀d (n:Int),okD d=true→Pure1 f [d,.int n] (.bl (E7 n d))
theorem Mw {d:D} {n:Int}:Dl 0 (n - 1) d=KK n d:=by
 cases d <;> simp [Dl,KK,Ly]
theorem NZ {cn cs cw:Fn} (hn:KY cn) (hs:Fs cs) (hw:Fc cw):K3 (fnOf 2 2 (FC cn cs cw)):=by
 intro d n h S
 refine AX rfl ?_
 unfold FC
 cases d with
 | tup ds=>
   have hx:∀d∈ds,okD d=true:=Hh (by simpa [okD] using h)
   match ds,hx with
   | [],_=>walk_at "w";exact ⟨rfl,rfl⟩
   | [a],_=>walk_at "w";exact ⟨rfl,rfl⟩
   | [a,b],_=>walk_at "w";exact ⟨rfl,rfl⟩
   | [a,b,c],hx=>
     walk_at "w"
     refine (hn a (hx a (by simp))).use ?_
     walk_at "w"
     refine Cj (fun q=>?_) fun q=>?_
     ·walk_at "w"
      refine (hs b (hx b (by simp))).use ?_
      walk_at "w"
      refine Cj (fun q2=>?_) fun q2=>?_
      ·walk_at "w"
       refine (hw c 0 (n - 1) (hx c (by simp))).use ?_
       refine ⟨?_,rfl⟩
       rw [Mw]
       simp only [E7,q,q2,Bool.true_and]
      ·exact ⟨by simp only [E7,q2,Bool.false_and,Bool.and_false],rfl⟩
     ·exact ⟨by simp only [E7,q,Bool.false_and],rfl⟩
   | a :: b :: c :: e :: l,_=>
     walk_at "w"
     exact ⟨rfl,rfl⟩
 | obj _=>simp [okD] at h
 | scr _=>simp [okD] at h
 | ty _=>simp [okD] at h
 | exc _ _=>simp [okD] at h
 | _=>walk_at "w";exact ⟨rfl,rfl⟩
abbrev Wd:=Str×Sh×Nat
def wdN (w:Wd):D:=.tup [.str w.1,w.2.1.d,.int (w.2.2:Int)]
structure WdOk (n:Nat) (w:Wd):Prop where
 nm:nmB w.1=true
 ok:wf w.2.1=true
 dep:w.2.1.depth≤6
 few:cnt w.2.1≤60
 hi:w.2.2 < n
inductive Gz where
 | fin
 | st (sd:Str) (ws:List Wd)
def Gz.d:Gz→D
 | .fin=>.tup [.str (Str.ofString "end")]
 | .st sd ws=>.tup [.str sd,.lst (ws.map wdN)]
inductive GzOk (n:Nat):Gz→Prop
 | fin:GzOk n .fin
 | st {sd:Str} {ws:List Wd}:(sd=Str.ofString "left"∨sd=Str.ofString "right")→1≤ws.length→ws.length≤9→(ws.map (·.1)).Nodup→(∀w∈ws,WdOk n w)→GzOk n (.st sd ws)
inductive NSt (S:List Ob):D→Gz→Prop
 | fin:NSt S (.tup [.str (Str.ofString "end")]) .fin
 | st {sd:Str} {k:Nat} {ws:List Wd}:S[k]?=some (.lst (ws.map wdN))→NSt S (.tup [.str sd,.obj k]) (.st sd ws)
def wdT (w:Wd):List Nat:=uc w.1++58 :: (sw w.2.1++62 :: dg (w.2.2:Int))
def gzT:Gz→List Nat
 | .fin=>uc (Str.ofString "end")
 | .st sd ws=>jnG [32] (uc sd :: ws.map wdT)
def grT (gs:List Gz):List Nat:=jnG [59,32] (gs.map gzT)
def okc (c:Nat):Bool:=decide (97≤c∧c≤122) || decide (48≤c∧c≤57) || decide (c=40) || decide (c=41) || decide (c=44) || decide (c=45)
theorem UC {i:Int} (h0 : -1000000000000000000 < i) (h1:i < 1000000000000000000):∀c∈dg i,okc c=true:=by
 obtain ⟨sg,dd,e,hs,hd,_,_⟩:=Hz h0 h1
 rw [e]
 intro c hc
 rcases List.mem_append.mp hc with hc | hc
 ·rcases hs with rfl | rfl
  ·cases hc
  ·have:c=45:=by simpa using hc
   subst this;rfl
 ·have:=hd c hc
  simp [okc,this]
theorem Pb:∀{ws:List (List Nat)},(∀w∈ws,∀c∈w,okc c=true)→∀c∈jn ws,okc c=true
 | [],_=>by simp [jn]
 | [w],h=>by rw [jn];exact h w (by simp)
 | w :: v :: r,h=>by
   intro c hc
   rw [jn] at hc
   rcases List.mem_append.mp hc with hc | hc
   ·exact h w (by simp) c hc
   ·rcases List.mem_cons.mp hc with rfl | hc
    ·rfl
    ·exact Pb (fun z hz=>h z (List.mem_cons_of_mem _ hz)) c hc
theorem PU:∀(n:Nat) (s:Sh),s.depth≤n→wf s=true→∀c∈sw s,okc c=true
 | 0,s,h,_=>absurd s.depth_pos (by omega)
 | n + 1,s,h,hw=>by
   obtain ⟨tl,e,h1,h2⟩:=JQ s
   rw [e]
   intro c hc
   rcases List.mem_append.mp hc with hc | hc
   ·have:=LB s c hc
    simp [okc,this]
   ·cases hn:C1 s with
    | true=>rw [h1 hn] at hc;cases hc
    | false=>
      rw [h2 hn,Ck] at hc
      rcases List.mem_cons.mp hc with rfl | hc
      ·rfl
      ·rcases List.mem_append.mp hc with hc | hc
       ·refine Pb (ws:=(pts s).map Pt.w) ?_ c hc
        intro w hw' c hc
        obtain ⟨q,hq,rfl⟩:=List.mem_map.mp hw'
        have hok:=G6 h hw q hq
        cases q with
        | sh s'=>exact PU n s' hok.1 hok.2 c hc
        | nu i=>exact UC hok.1 hok.2 c hc
       ·have:c=41:=by simpa using hc
        subst this;rfl
theorem Iz {x:Str} (h:nmB x=true):(1≤x.length∧x.length≤8)∧∀c∈uc x,97≤c∧c≤122:=by
 simp only [nmB,Bool.and_eq_true,decide_eq_true_eq,List.all_eq_true] at h
 exact ⟨h.1,fun c hc=>h.2 c hc⟩
theorem Ti {c:Nat} (h:okc c=true):c≠58∧c≠62∧c≠32∧c≠59∧c < 256:=by
 simp only [okc,Bool.or_eq_true,decide_eq_true_eq] at h
 omega
theorem RB {k:Nat}:∀c∈dg (k:Int),c≠62∧c≠58∧c≠32∧c≠59∧c < 256:=fun c hc=>by
 have:=EI k c hc
 omega
theorem P5 {n:Nat} {w:Wd} (h:WdOk n w):∀c∈wdT w,c≠32∧c≠59∧c < 256:=by
 intro c hc
 unfold wdT at hc
 rcases List.mem_append.mp hc with hc | hc
 ·have:=(Iz h.nm).2 c hc;omega
 ·rcases List.mem_cons.mp hc with rfl | hc
  ·decide
  ·rcases List.mem_append.mp hc with hc | hc
   ·have:=Ti (PU 6 _ h.dep h.ok c hc);omega
   ·rcases List.mem_cons.mp hc with rfl | hc
    ·decide
    ·have:=RB c hc;omega
def NC (f:Fn):Prop:=∀k:Nat,k < 1000→Pure1 f [.str (mkT (dg (k:Int)))] (.int (k:Int))
theorem QN {cn:Fn} (hn:Kz cn):NC (fnOf 1 2 (DY cn)):=by
 intro k hk S
 have hL:LIM=100000:=rfl
 have hl:(dg (k:Int)).length≤20:=He (by omega) (by omega)
 have hx:(mkT (dg (k:Int))).length≤LIM:=by rw [Cm,hL];omega
 refine AX rfl ?_
 unfold DY
 walk_at "w"
 refine (hn (mkT (dg (k:Int))) 0 (k:Int) [] hx (by omega) (by omega) ⟨Nat.zero_le _,by rw [BY,List.append_nil];rfl⟩ (fun c h=>nomatch h)).use ?_
 walk_at "w"
 refine KR hx ?_
 walk_at "w"
 refine Bt (by rw [Cm];simp) ?_
 walk_at "w"
 exact ⟨rfl,rfl⟩
theorem P3 {h:Str→Str→Str×Str×Str} {f:M D} {g:M (List D)} {t:T} {P:D→T→Prop} (w:W f t fun o t1=>W g t1 fun as t2=>∃z y,o = .str z∧as=[.str y]∧((y.length == 0)=false∧z.length≤100000)∧P (.tup [.str (h z y).1,.str (h z y).2.1,.str (h z y).2.2]) t2):W (partM h f g) t P:=by
 unfold partM
 refine Ex (w.mono fun o t1 h1=>Ex (h1.mono fun as t2 ⟨z,y,e1,e2,e3,p⟩=>?_))
 subst e1 e2
 dsimp only
 rw [if_pos e3]
 exact ⟨_,_,rfl,p⟩
def Qk (f:Fn) (τ:Ob):Prop:=∀(n:Nat) (w:Wd) (S:List Ob),n≤30→WdOk n w→S[0]?=some τ→Wf f [.str (mkT (wdT w))] S fun v S'=>v=wdN w∧Ext S S'
theorem Gc {n:Nat} {w:Wd} (h:WdOk n w) (hn:n≤30):(wdT w).length≤3640:=by
 have h1:=(Iz h.nm).1
 have h2:=Dh _ h.ok
 have h3:=h.few
 have h4:(dg (w.2.2:Int)).length≤20:=He (by omega) (by have:=h.hi;omega)
 have h5:=BN w.1
 unfold wdT
 simp only [List.length_append,List.length_cons]
 omega
theorem Ui {cn cr:Fn} {τ:Ob} (hn:NC cn) (hr:Qf cr τ):Qk (fnOf 1 3 (EG cn cr)) τ:=by
 intro n w S hn30 hw hτ
 have hl:=Gc hw hn30
 have e1:uc (mkT (wdT w))=uc w.1++58 :: (sw w.2.1++62 :: dg (w.2.2:Int)):=BY _
 have p1:=Tm (y:=Str.ofString ":") (c:=58) (by decide +kernel) e1 (fun z=>by have:=(Iz hw.nm).2 58 z;omega)
 have e2:uc (mkT (sw w.2.1++62 :: dg (w.2.2:Int)))=sw w.2.1++62 :: dg (w.2.2:Int):=BY _
 have p2:=Q9 (y:=Str.ofString ">") (c:=62) (by decide +kernel) e2 (fun z=>(RB 62 z).1 rfl)
 have hlen2:(sw w.2.1++62 :: dg (w.2.2:Int)).length≤3640:=by
  unfold wdT at hl
  rw [List.length_append,List.length_cons] at hl
  omega
 refine AX rfl ?_
 unfold EG
 walk_at "w"
 refine P3 ?_
 walk_at "w"
 refine ⟨_,_,rfl,rfl,⟨by decide +kernel,by rw [Cm];omega⟩,?_⟩
 rw [p1]
 dsimp only
 walk_at "w"
 refine P3 ?_
 walk_at "w"
 refine ⟨_,_,rfl,rfl,⟨by decide +kernel,by rw [Cm];omega⟩,?_⟩
 rw [p2]
 dsimp only
 walk_at "w"
 refine (hr w.2.1 S hw.dep hw.ok hw.few hτ).mono ?_
 rintro v S1 ⟨rfl,x1⟩
 walk_at "w"
 refine (hn w.2.2 (by have:=hw.hi;omega)).use ?_
 walk_at "w"
 rw [EH]
 exact ⟨rfl,x1⟩
def Gw (S S':List Ob):Prop:=S.length≤S'.length∧∀i,i < S.length→S'[i]?=S[i]?
theorem OD {S:List Ob} {x:Ob}:(S++[x])[S.length]?=some x:=by simp
theorem IW {k:Nat} {h:List D→List D→Option (List D)} {g:M (List D)} {f:M D} {t:T} {P:D→T→Prop} (w:W f t fun o t1=>o = .obj k∧∃xs0,t1.S[k]?=some (.lst xs0)∧W g t1 fun ds t2=>∃xs ys,t2.S[k]?=some (.lst xs)∧h xs ds=some ys∧P .non ⟨t2.env,t2.S.set k (.lst ys)⟩):W (objM h f g) t P:=by
 unfold objM
 refine W_bnd.mpr (w.mono fun o t1 ⟨e,xs0,e1,w⟩=>?_)
 subst e
 obtain ⟨ds,t2,e2,xs,ys,e3,e4,p⟩:=w
 refine ⟨_,_,?_,p⟩
 simp only [e1,bnd,e2,e3,e4]
 rfl
theorem IU {k:Nat} {m:String} {ds:List D} {b:Bool} {t:T} {P:D→T→Prop} (e:t.S[k]?=some (.lst ds)) (h:GX "list" m=some b) (q:P (.bl b) t):W (GW [.obj k,.ty m]) t P:=⟨_,_,by simp only [GW,e,h];rfl,q⟩
theorem Cw {S:List Ob} {k:Nat} {xs:List D} (h:S[k]?=some (.lst xs)):Gon (some (k,xs)) S:=fun _ _ z=>by cases z;exact h
section
variable {bq:Bool}
mutual
inductive Ow (bq:Bool) (S:List Ob):D→D→List Nat→Prop
 | non:Ow bq S .non .non []
 | int (i:Int):Ow bq S (.int i) (.int i) []
 | str (x:Str):Ow bq S (.str x) (.str x) []
 | tup {ds vs:List D} {fp:List Nat}:Ows bq S ds vs fp→Ow bq S (.tup ds) (.tup vs) fp
 | lst {ds vs:List D} {fp:List Nat}:bq=true→Ows bq S ds vs fp→Ow bq S (.lst ds) (.lst vs) fp
 | obj {k:Nat} {ds vs:List D} {fp:List Nat}:S[k]?=some (.lst ds)→Ows bq S ds vs fp→k∉fp→Ow bq S (.obj k) (.lst vs) (k :: fp)
inductive Ows (bq:Bool) (S:List Ob):List D→List D→List Nat→Prop
 | nil:Ows bq S [] [] []
 | cons {d v:D} {fp fp':List Nat} {ds vs:List D}:Ow bq S d v fp→Ows bq S ds vs fp'→(∀k∈fp,k∉fp')→Ows bq S (d :: ds) (v :: vs) (fp++fp')
end
theorem Fq {f:M D} {t:T} {P:Gd×List D→T→Prop} (h:W f t fun d t1=>W (GY d) t1 P):W (En f) t P:=W_bnd.mpr h
theorem El {k:Nat} {ds:List D} {t:T} {P:Gd×List D→T→Prop} (e:t.S[k]?=some (.lst ds)) (h:P (some (k,ds),ds) t):W (GY (.obj k)) t P:=⟨_,_,by simp only [GY,e],h⟩
local macro_rules | `(tactic| walk_at "y1")=>`(tactic| first | walk_at "w1" | ((with_reducible refine' wIsiP ?wv ?_);(case wv=>exact rfl)))
local macro_rules | `(tactic| walk_at "y")=>`(tactic| repeat (walk_at "y1"))
theorem Ib {g:Gd} {st:D→M Unit} {b:M Out} {t:T} {P:Out→T→Prop} (h:Gon g t.S) (q:P .next t):W (forG g st b []) t P:=by
 unfold forG
 exact W_bnd.mpr ⟨_,_,GP h,W_ret.mpr q⟩
theorem My {g:Gd} {st:D→M Unit} {b:M Out} {d:D} {r:List D} {t:T} {P:Out→T→Prop} (h:Gon g t.S) (q:W (st d) t fun _ t1=>W b t1 fun o t2=>o = .next∧W (forG g st b r) t2 P):W (forG g st b (d :: r)) t P:=by
 rw [forG]
 refine W_bnd.mpr ⟨_,_,GP h,W_bnd.mpr (q.mono fun _ t1 q=>W_bnd.mpr (q.mono fun o t2 q=>?_))⟩
 obtain ⟨rfl,q⟩:=q
 exact q
abbrev PureO (S:List Ob) (f:Fn) (ds:List D) (r:D):Prop:=Wf f ds S fun x S'=>x=r∧S'=S
theorem PureO.use {S:List Ob} {f:Fn} {ds:List D} {r:D} (h:PureO S f ds r) {P:D→List Ob→Prop} (p:P r S):Wf f ds S P:=Wf.mono h fun _ _ ⟨e1,e2⟩=>by subst e1 e2;exact p
theorem E4 {g:Gd} {st:D→M Unit} {b:M Out} {P:Out→T→Prop} (I:List D→T→Prop) (hg:∀r t,I r t→Gon g t.S):∀(ds:List D) (t:T),I ds t→
 (∀d r t,I (d :: r) t→W (st d) t fun _ t1=>W b t1 fun o t2=>match o with
   | .next=>I r t2
   | .cont=>I r t2
   | .brk=>P .next t2
   | .ret x=>P (.ret x) t2)→(∀t,I [] t→P .next t)→W (forG g st b ds) t P
 | [],t,h,_,fin=>Ib (hg _ _ h) (fin t h)
 | d :: r,t,h,turn,fin=>by
   rw [forG]
   refine W_bnd.mpr ⟨_,_,GP (hg _ _ h),W_bnd.mpr ((turn d r t h).mono fun _ t1 q=>W_bnd.mpr (q.mono fun o t2 q=>?_))⟩
   cases o with
   | next=>exact E4 I hg r t2 q turn fin
   | cont=>exact E4 I hg r t2 q turn fin
   | brk=>exact W_ret.mpr q
   | ret x=>exact W_ret.mpr q
theorem Hb {f:M (Gd×List D)} {st:D→M Unit} {b:M Out} {t:T} {P:Out→T→Prop} (h:W f t fun p t1=>W (forG p.1 st b p.2) t1 P):W (Fy f st b) t P:=W_bnd.mpr h
def Xz:List D→Bool
 | [_,_]=>true
 | [.str _,.int _,_]=>true
 | _=>false
mutual
def tm:D→Bool
 | .non=>true
 | .int _=>true
 | .str x=>decide (x.length≤90000)
 | .lst xs=>decide (xs.length≤1000) && tms xs
 | .tup xs=>tms xs && Xz xs
 | _=>false
def tms:List D→Bool
 | []=>true
 | d :: r=>tm d && tms r
end
end
local macro_rules | `(tactic| walk_at "y1")=>`(tactic| first | walk_at "w1" | ((with_reducible refine' wIsiP ?wv ?_);(case wv=>exact rfl)))
local macro_rules | `(tactic| walk_at "y")=>`(tactic| repeat (walk_at "y1"))
theorem Ey {g:Gd} {st:D→M Unit} {tst:M Bool} {elt:M D} {t:T} {P:List D→T→Prop} (h:Gon g t.S) (q:P [] t):W (compG g st tst elt []) t P:=by
 unfold compG
 exact W_bnd.mpr ⟨_,_,GP h,W_ret.mpr q⟩
theorem Du {g:Gd} {st:D→M Unit} {tst:M Bool} {elt:M D} {d:D} {r:List D} {t:T} {P:List D→T→Prop} (h:Gon g t.S) (q:W (st d) t fun _ t1=>W tst t1 fun k t2=>
 if k=true then W elt t2 fun x t3=>W (compG g st tst elt r) t3 fun xs t4=>P (x :: xs) t4 else W (compG g st tst elt r) t2 P):W (compG g st tst elt (d :: r)) t P:=by
 rw [compG]
 refine W_bnd.mpr ⟨_,_,GP h,W_bnd.mpr (q.mono fun _ t1 q=>W_bnd.mpr (q.mono fun k t2 q=>?_))⟩
 split
 ·next hk=>
  rw [if_pos hk] at q
  exact W_bnd.mpr (q.mono fun x t3 q=>W_bnd.mpr (q.mono fun xs t4 q=>W_ret.mpr q))
 ·next hk=>
  rw [if_neg hk] at q
  exact q
theorem Gb {n:Nat} {fr:List Nat} {f:M (Gd×List D)} {st:D→M Unit} {tst:M Bool} {elt:M D} {t:T} {P:List D→T→Prop} (h:W f t fun p t1=>W (compG p.1 st tst elt p.2) ⟨cenv n fr t1.env,t1.S⟩ fun xs t2=>FP xs.length (P xs { t1 with S:=t2.S })):W (DQ n fr f st tst elt) t P:=by
 refine W_bnd.mpr (h.mono fun p t1 h=>?_)
 obtain ⟨xs,t2,e,l,q⟩:=h
 refine ⟨xs,_,?_,q⟩
 simp only [e,if_pos l]
theorem FZ:∀(l acc:List Str),l.Nodup→(∀x∈l,acc.contains x=false)→l.foldl dd1 acc=acc++l
 | [],acc,_,_=>by simp
 | x :: l,acc,nd,h=>by
   rw [List.foldl_cons]
   have hx:=h x List.mem_cons_self
   have e:dd1 acc x=acc++[x]:=by unfold dd1;rw [if_neg (by rw [hx];exact Bool.false_ne_true)]
   rw [e,FZ l _ (List.nodup_cons.mp nd).2 fun y hy=>?_]
   ·simp
   ·have h1:=h y (List.mem_cons_of_mem _ hy)
    have h2:y≠x:=fun z=>(List.nodup_cons.mp nd).1 (z ▸ hy)
    simp at h1 ⊢
    exact ⟨h1,h2⟩
theorem OQ {l:List Str} (h:l.Nodup):ddT l=l:=by
 unfold ddT
 rw [FZ l [] h (by simp)]
 rfl
theorem ON {α:Type} {g:Gd} {l:List α} {ι f:α→D} {fr:List (Option Sl)} {S:List Ob} {elt:M D} (hg:Gon g S):∀{z:Option Sl},(∀a∈l,W elt ⟨some (.val (ι a)) :: fr,S⟩ fun x t'=>x=f a∧t'=⟨some (.val (ι a)) :: fr,S⟩)→
 W (compG g (Bv 0) Cy elt (l.map ι)) ⟨z :: fr,S⟩ fun xs t'=>xs=l.map f∧t'.S=S:=by
 induction l with
 | nil=>intro z _;exact Ey hg ⟨rfl,rfl⟩
 | cons a r ih=>
   intro z h
   rw [List.map_cons]
   refine Du hg ?_
   refine GD (GF ?_)
   rw [if_pos rfl]
   refine (h a List.mem_cons_self).mono fun x t' ⟨e1,e2⟩=>?_
   subst e1 e2
   refine (ih (z:=some (.val (ι a))) fun b hb=>h b (List.mem_cons_of_mem _ hb)).mono fun xs t' ⟨e1,e2⟩=>?_
   subst e1
   exact ⟨rfl,e2⟩
theorem V2 {n:Nat} {w:Wd} (h:WdOk n w):okD (wdN w)=true:=by
 have:=(Iz h.nm).1
 have h9:w.1.length≤90000:=by omega
 simp [wdN,okD,oks,h9,Hn]
theorem V1 {n:Nat} {w:Wd} (h:WdOk n w):E7 (n:Int) (wdN w)=true:=by
 have h1:=h.hi
 simp only [wdN,E7,F3,h.nm,Mf h.ok h.dep h.few,KK,Bool.true_and,Bool.and_eq_true,decide_eq_true_eq]
 omega
theorem Sd {n:Nat}:∀{ws:List Wd},(∀w∈ws,WdOk n w)→Fo (ws.map fun w=>D.str w.1)=some (ws.map (·.1))
 | [],_=>rfl
 | w :: r,h=>by
   have hw:=(Iz (h w List.mem_cons_self).nm).1
   rw [List.map_cons,Fo,Sd fun y m=>h y (List.mem_cons_of_mem _ m)]
   rw [if_pos hw.2]
   rfl
def P8 (f:Fn):Prop:=∀(n k:Nat) (sd:Str) (ws:List Wd) (S:List Ob),GzOk n (.st sd ws)→S[k]?=some (.lst (ws.map wdN))→PureO S f [.obj k,.int (n:Int)] (.bl true)
theorem So {c:Fn} (hc:K3 c):P8 (fnOf 2 3 (DF c)):=by
 intro n k sd ws S hg e
 have hL:LIM=100000:=rfl
 cases hg with
 | st _ h1 h2 h3 h4=>
   refine AX rfl ?_
   unfold DF
   walk_at "y"
   refine IU e rfl ?_
   walk_at "y"
   refine IV e ?_
   rw [List.length_map]
   walk_at "y"
   refine Do (decide_eq_true (by omega)) ?_
   walk_at "y"
   rw [decide_eq_true (by omega)]
   walk_at "y"
   refine Hb (Fq ?_)
   walk_at "y"
   refine El e ?_
   refine E4 (fun r t=>∃(us:List Wd) (z:Option Sl),r=us.map wdN∧(∀w∈us,WdOk n w)∧t=⟨[some (.val (.obj k)),some (.val (.int (n:Int))),z],S⟩) (fun r t h=>?_) _ _ ⟨ws,_,rfl,h4,rfl⟩ ?_ ?_
   ·obtain ⟨_,_,_,_,rfl⟩:=h
    exact Cw e
   ·rintro d r t ⟨us,z,er,hu,rfl⟩
    cases us with
    | nil=>cases er
    | cons u us=>
      rw [List.map_cons] at er
      cases er
      walk_at "y"
      refine (hc (wdN u) (n:Int) (V2 (hu u (by simp)))).use ?_
      rw [V1 (hu u (by simp))]
      walk_at "y"
      exact ⟨us,_,rfl,fun w hw=>hu w (List.mem_cons_of_mem _ hw),rfl⟩
   ·rintro t ⟨us,z,er,hu,rfl⟩
    walk_at "y"
    refine Gb (Fq ?_)
    walk_at "y"
    refine El e ?_
    refine (ON (l:=ws) (ι:=wdN) (f:=fun w=>.str w.1) (fr:=[]) (Cw e) ?_).mono ?_
    ·intro w _
     walk_at "y"
     unfold wdN
     walk_at "y"
     exact ⟨rfl,rfl⟩
    ·rintro xs t' ⟨rfl,hS⟩
     refine Bu (by rw [List.length_map,hL];omega) ?_
     walk_at "y"
     refine Uh (Sd h4) (by rw [List.length_map];omega) ?_
     rw [OQ h3]
     walk_at "y"
     refine IV (by rw [hS];exact e) ?_
     walk_at "y"
     exact ⟨by simp,hS⟩
def Qb (f:Fn):Prop:=∀(n:Nat) (d:D) (x:Gz) (S:List Ob),GzOk n x→NSt S d x→PureO S f [d,.int (n:Int)] (.bl true)
theorem ST {c:Fn} (hc:P8 c):Qb (fnOf 2 2 (EW c)):=by
 intro n d x S hg hd
 refine AX rfl ?_
 unfold EW
 cases hd with
 | fin=>
   walk_at "y"
   exact ⟨rfl,rfl⟩
 | @st sd k ws e=>
   have hg':=hg
   cases hg with
   | st hs h1 h2 h3 h4=>
     rcases hs with rfl | rfl
     ·walk_at "y"
      refine PureO.use (hc n k _ ws S hg' e) ?_
      exact ⟨rfl,rfl⟩
     ·walk_at "y"
      refine PureO.use (hc n k _ ws S hg' e) ?_
      exact ⟨rfl,rfl⟩
inductive NGs (S:List Ob):List D→List Gz→List Nat→Prop
 | nil:NGs S [] [] []
 | fin {ds:List D} {gs:List Gz} {fp:List Nat}:NGs S ds gs fp→NGs S (.tup [.str (Str.ofString "end")] :: ds) (.fin :: gs) fp
 | st {ds:List D} {gs:List Gz} {fp:List Nat} {sd:Str} {k:Nat} {ws:List Wd}:S[k]?=some (.lst (ws.map wdN))→NGs S ds gs fp→NGs S (.tup [.str sd,.obj k] :: ds) (.st sd ws :: gs) (k :: fp)
theorem NGs.gr {S S':List Ob} {ds:List D} {gs:List Gz} {fp:List Nat} (h:NGs S ds gs fp) (g:∀k∈fp,∀o:Ob,S[k]?=some o→S'[k]?=some o):NGs S' ds gs fp:=by
 induction h with
 | nil=>exact .nil
 | fin _ ih=>exact .fin (ih g)
 | st e _ ih=>exact .st (g _ List.mem_cons_self _ e) (ih fun k hk=>g k (List.mem_cons_of_mem _ hk))
theorem NGs.len {S:List Ob} {ds:List D} {gs:List Gz} {fp:List Nat} (h:NGs S ds gs fp):ds.length=gs.length:=by
 induction h with
 | nil=>rfl
 | fin _ ih=>rw [List.length_cons,List.length_cons,ih]
 | st _ _ ih=>rw [List.length_cons,List.length_cons,ih]
theorem NGs.lt {S:List Ob} {ds:List D} {gs:List Gz} {fp:List Nat} (h:NGs S ds gs fp):∀k∈fp,k < S.length:=by
 induction h with
 | nil=>exact fun k z=>nomatch z
 | fin _ ih=>exact ih
 | st e _ ih=>exact fun k hk=>(List.mem_cons.mp hk).elim (fun z=>by rw [z];exact (List.getElem?_eq_some_iff.mp e).1) (ih k)
theorem NGs.app {S:List Ob} {ds es:List D} {gs hs:List Gz} {fp fq:List Nat} (h:NGs S ds gs fp) (h2:NGs S es hs fq):NGs S (ds++es) (gs++hs) (fp++fq):=by
 induction h with
 | nil=>exact h2
 | fin _ ih=>exact .fin ih
 | st e _ ih=>exact .st e ih
structure GkOk (gs:List Gz):Prop where
 ne:1≤gs.length
 le:gs.length≤30
 all:∀x∈gs,GzOk gs.length x
def Qa (f:Fn):Prop:=∀(K:Nat) (ds:List D) (gs:List Gz) (fp:List Nat) (S:List Ob),GkOk gs→S[K]?=some (.lst ds)→NGs S ds gs fp→PureO S f [.obj K] (.bl true)
theorem SS {c:Fn} (hc:Qb c):Qa (fnOf 1 2 (Dr c)):=by
 intro K ds gs fp S hg e hn
 have hlen:=hn.len
 have g1:=hg.ne
 have g2:=hg.le
 refine AX rfl ?_
 unfold Dr
 walk_at "y"
 refine IU e rfl ?_
 walk_at "y"
 refine IV e ?_
 walk_at "y"
 refine Do (decide_eq_true (by omega)) ?_
 walk_at "y"
 rw [decide_eq_true (by omega)]
 walk_at "y"
 refine Hb (Fq ?_)
 walk_at "y"
 refine El e ?_
 refine E4 (fun r t=>∃(us:List Gz) (fq:List Nat) (z:Option Sl),NGs S r us fq∧(∀x∈us,GzOk gs.length x)∧t=⟨[some (.val (.obj K)),z],S⟩) (fun r t h=>?_) _ _ ⟨gs,fp,_,hn,hg.all,rfl⟩ ?_ ?_
 ·obtain ⟨_,_,_,_,_,rfl⟩:=h
  exact Cw e
 ·rintro d r t ⟨us,fq,z,hu,ha,rfl⟩
  walk_at "y"
  refine IV e ?_
  rw [hlen]
  walk_at "y"
  cases hu with
  | fin hu=>
    refine PureO.use (hc gs.length _ .fin S .fin .fin) ?_
    walk_at "y"
    exact ⟨_,_,_,hu,fun x hx=>ha x (List.mem_cons_of_mem _ hx),rfl⟩
  | @st _ _ _ sd k ws e1 hu=>
    refine PureO.use (hc gs.length _ (.st sd ws) S (ha _ (by simp)) (.st e1)) ?_
    walk_at "y"
    exact ⟨_,_,_,hu,fun x hx=>ha x (List.mem_cons_of_mem _ hx),rfl⟩
 ·rintro t ⟨us,fq,z,hu,ha,rfl⟩
  walk_at "y"
  exact ⟨rfl,rfl⟩
theorem Jn {sep:List Nat} {p:Nat→Prop}:∀{ws:List (List Nat)},(∀w∈ws,∀c∈w,p c)→(∀c∈sep,p c)→∀c∈jnG sep ws,p c
 | [],_,_=>by simp [jnG]
 | [w],h,_=>by rw [jnG];exact h w (by simp)
 | w :: v :: r,h,hs=>by
   intro c hc
   rw [jnG] at hc
   rcases List.mem_append.mp hc with hc | hc
   ·exact h w (by simp) c hc
   ·rcases List.mem_append.mp hc with hc | hc
    ·exact hs c hc
    ·exact Jn (fun z hz=>h z (List.mem_cons_of_mem _ hz)) hs c hc
theorem IK {sd:Str} (h:sd=Str.ofString "left"∨sd=Str.ofString "right"):(∀c∈uc sd,97≤c∧c≤122)∧(uc sd).length≤5∧(uc sd).head?≠some 101:=by
 rcases h with rfl | rfl <;> decide +kernel
theorem Lw {n:Nat} {x:Gz} (h:GzOk n x):∀c∈gzT x,c≠59∧c < 256:=by
 cases h with
 | fin=>
   intro c hc
   have hc:c∈uc (Str.ofString "end"):=hc
   have:∀c∈uc (Str.ofString "end"),c≠59∧c < 256:=by decide +kernel
   exact this c hc
 | @st sd ws hs h1 h2 h3 h4=>
   refine Jn (p:=fun c=>c≠59∧c < 256) ?_ (by decide)
   intro w hw c hc
   rcases List.mem_cons.mp hw with rfl | hw
   ·have:=(IK hs).1 c hc;omega
   ·obtain ⟨u,hu,rfl⟩:=List.mem_map.mp hw
    exact (P5 (h4 u hu) c hc).2
theorem EL {α:Type} {f:α→Nat} {b:Nat}:∀{l:List α},(∀a∈l,f a≤b)→(l.map f).sum≤l.length * b
 | [],_=>by simp
 | a :: l,h=>by
   have h1:=h a (by simp)
   have h2:=EL (l:=l) fun x hx=>h x (List.mem_cons_of_mem _ hx)
   rw [List.map_cons,List.sum_cons,List.length_cons,Nat.succ_mul]
   omega
theorem Jk {n:Nat} {x:Gz} (h:GzOk n x) (hn:n≤30):(gzT x).length≤33000:=by
 cases h with
 | fin=>decide +kernel
 | @st sd ws hs h1 h2 h3 h4=>
   have q:=Jm [32] (uc sd :: ws.map wdT)
   have s1:=(IK hs).2.1
   have s2:=EL (f:=fun w:List Nat=>w.length + [32].length) (b:=3641) (l:=ws.map wdT) (fun w hw=>by
    obtain ⟨u,hu,rfl⟩:=List.mem_map.mp hw
    have:=Gc (h4 u hu) hn
    show _ + 1≤_
    omega)
   rw [List.length_map] at s2
   rw [List.map_cons,List.sum_cons] at q
   have s3:ws.length * 3641≤9 * 3641:=Nat.mul_le_mul_right _ h2
   show (jnG [32] (uc sd :: ws.map wdT)).length≤_
   have e1:[32].length=1:=rfl
   rw [e1] at q s2
   omega
def Qh (f:Fn) (τ:Ob):Prop:=∀(n:Nat) (x:Gz) (S:List Ob),n≤30→GzOk n x→S[0]?=some τ→Wf f [.str (mkT (gzT x))] S fun d S'=>Ext S S'∧∃fp,NGs S' [d] [x] fp∧∀k∈fp,S.length≤k
theorem Lm {S S':List Ob} (h:Ext S S'):S.length≤S'.length:=by obtain ⟨E,rfl⟩:=h;simp
theorem T7 {c:Fn} {τ:Ob} (hc:Qk c τ):Qh (fnOf 1 2 (Ei c)) τ:=by
 intro n x S hn hg hτ
 have hL:LIM=100000:=rfl
 have hlen:=Jk hg hn
 refine AX rfl ?_
 unfold Ei
 cases hg with
 | fin=>
   have e:mkT (gzT .fin)=Str.ofString "end":=EH _
   rw [e]
   walk_at "w"
   exact ⟨Ext.refl,[],.fin .nil,fun k z=>nomatch z⟩
 | @st sd ws hs h1 h2 h3 h4=>
   have hne:(mkT (gzT (.st sd ws)) == Str.ofString "end")=false:=by
    rw [beq_eq_false_iff_ne]
    intro z
    have z:=congrArg uc z
    rw [BY] at z
    have hh:=(IK hs).2.2
    cases ws with
    | nil=>simp at h1
    | cons w ws=>
      have e:gzT (.st sd (w :: ws))=uc sd++([32]++jnG [32] ((w :: ws).map wdT)):=by rfl
      rw [e] at z
      have z2:=congrArg List.head? z
      rw [show (uc (Str.ofString "end")).head?=some 101 by decide +kernel] at z2
      cases hu:uc sd with
      | nil=>rcases hs with rfl | rfl <;> exact absurd hu (by decide +kernel)
      | cons a l=>
        rw [hu] at z2 hh
        exact hh z2
   have hsp:Txt.split (mkT (gzT (.st sd ws))) (Str.ofString " ")=(uc sd :: ws.map wdT).map mkT:=by
    have hy:uc (Str.ofString " ")=[32]:=by decide +kernel
    refine Mi (c:=32) (sr:=[]) hy (by decide +kernel) _ (by simp) ?_ (by rw [BY,hy];rfl) ?_
    ·intro w hw
     rcases List.mem_cons.mp hw with rfl | hw
     ·intro z;have:=(IK hs).1 32 z;omega
     ·obtain ⟨u,hu,rfl⟩:=List.mem_map.mp hw
      exact fun z=>(P5 (h4 u hu) 32 z).1 rfl
    ·rw [BY]
     exact fun c hc=>(Lw (.st hs h1 h2 h3 h4) c hc).2
   walk_at "w"
   rw [hne]
   walk_at "w"
   refine P4 ?_
   walk_at "w"
   refine ⟨_,_,rfl,rfl,⟨by decide +kernel,by rw [Cm];omega⟩,?_⟩
   rw [hsp,List.map_cons,List.map_cons,EH,List.map_map,List.map_map]
   walk_at "w"
   rw [FL]
   refine (GL (P:=fun xs t'=>xs=ws.map wdN∧Ext S t'.S) (fun acc q t=>∃(d1 d2:List Wd) (S':List Ob) (z:Option Sl),ws=d1++d2∧acc=d1.map wdN∧q=d2.map (D.str ∘ mkT ∘ wdT)∧Ext S S'∧t=⟨[z],S'⟩) _ [] _ ⟨[],ws,S,_,rfl,rfl,rfl,Ext.refl,rfl⟩ ?_ ?_).mono ?_
   ·rintro acc d q t ⟨d1,d2,S',z,rfl,rfl,eq,xx,rfl⟩ _
    cases d2 with
    | nil=>cases eq
    | cons w d2=>
      rw [List.map_cons] at eq
      cases eq
      refine GD (GF ?_)
      rw [if_pos rfl]
      walk_at "w"
      refine (hc n w S' hn (h4 w (by simp)) (xx.get hτ)).mono ?_
      rintro v S2 ⟨rfl,x2⟩
      exact ⟨d1++[w],d2,S2,_,by simp,by simp,rfl,xx.trans x2,rfl⟩
   ·rintro acc t ⟨d1,d2,S',z,rfl,rfl,eq,xx,rfl⟩
    cases d2 with
    | nil=>rw [List.append_nil];exact ⟨rfl,xx⟩
    | cons w d2=>cases eq
   ·rintro xs t' ⟨e1,xx⟩
    rw [List.nil_append] at e1
    subst e1
    refine Bu (by rw [List.length_map,hL];omega) ?_
    walk_at "w"
    refine ⟨xx.trans ⟨_,rfl⟩,[t'.S.length],.st (ws:=ws) (by simp) .nil,?_⟩
    intro k hk
    have:k=t'.S.length:=by simpa using hk
    subst this
    exact Lm xx
def RdG (f:Fn) (τ:Ob):Prop:=∀(gs:List Gz) (S:List Ob),GkOk gs→S[0]?=some τ→Wf f [.str (mkT (grT gs))] S fun v S'=>Ext S S'∧∃K ds fp,v = .obj K∧S'[K]?=some (.lst ds)∧NGs S' ds gs fp∧(K :: fp).Nodup∧∀k∈K :: fp,S.length≤k
theorem SM {gs:List Gz} (h:GkOk gs):(grT gs).length≤991000:=by
 have q:=Jm [59,32] (gs.map gzT)
 have s2:=EL (f:=fun w:List Nat=>w.length + [59,32].length) (b:=33002) (l:=gs.map gzT) (fun w hw=>by
  obtain ⟨u,hu,rfl⟩:=List.mem_map.mp hw
  have:=Jk (h.all u hu) h.le
  show _ + 2≤_
  omega)
 rw [List.length_map] at s2
 have s3:gs.length * 33002≤30 * 33002:=Nat.mul_le_mul_right _ h.le
 show (jnG [59,32] (gs.map gzT)).length≤_
 omega
theorem IA {l r:List Nat} (h1:l.Nodup) (h2:r.Nodup) (h3:∀k∈l,k∉r):(l++r).Nodup:=List.nodup_append.mpr ⟨h1,h2,fun a ha b hb z=>h3 a ha (z ▸ hb)⟩
theorem Tc {S:List Ob} {d:D} {x:Gz} {fp:List Nat} (h:NGs S [d] [x] fp):fp.Nodup:=by
 cases h with
 | fin h=>cases h;exact .nil
 | st _ h=>cases h;simp
theorem Vz {ci cs cc:Fn} {τ:Ob} (hi:Qa ci) (hs:Qh cs τ) (hc:∀x:Str,Pure1 cc [.str x] .non):RdG (fnOf 1 2 (DH ci cs cc)) τ:=by
 intro gs S hg hτ
 have hL:LIM=100000:=rfl
 have hlen:=SM hg
 have hsp:Txt.split (mkT (grT gs)) (Str.ofString "; ")=(gs.map gzT).map mkT:=by
  have hy:uc (Str.ofString "; ")=[59,32]:=by decide +kernel
  refine Mi (c:=59) (sr:=[32]) hy (by decide +kernel) _ (by rw [List.length_map];exact hg.ne) ?_ (by rw [BY,hy];rfl) ?_
  ·intro w hw z
   obtain ⟨u,hu,rfl⟩:=List.mem_map.mp hw
   exact (Lw (hg.all u hu) 59 z).1 rfl
  ·rw [BY]
   refine Jn (p:=fun c=>c < 256) ?_ (by decide)
   intro w hw c hc
   obtain ⟨u,hu,rfl⟩:=List.mem_map.mp hw
   exact (Lw (hg.all u hu) c hc).2
 refine AX rfl ?_
 unfold DH
 walk_at "w"
 refine (hc _).use ?_
 walk_at "w"
 refine P4 ?_
 walk_at "w"
 refine ⟨_,_,rfl,rfl,⟨by decide +kernel,by rw [Cm];omega⟩,?_⟩
 rw [hsp,List.map_map,List.map_map]
 walk_at "w"
 refine (GL (P:=fun xs t'=>∃fp,NGs t'.S xs gs fp∧fp.Nodup∧(∀k∈fp,S.length≤k)∧Ext S t'.S) (fun acc q t=>∃(d1 d2:List Gz) (S':List Ob) (fp:List Nat) (z:Option Sl),gs=d1++d2∧NGs S' acc d1 fp∧fp.Nodup∧(∀k∈fp,S.length≤k)∧q=d2.map (D.str ∘ mkT ∘ gzT)∧Ext S S'∧t=⟨[z],S'⟩) _ [] _ ⟨[],gs,S,[],_,rfl,.nil,.nil,(fun _ z=>nomatch z),rfl,Ext.refl,rfl⟩ ?_ ?_).mono ?_
 ·rintro acc d q t ⟨d1,d2,S',fp,z,rfl,hn,nd,hlo,eq,xx,rfl⟩ _
  cases d2 with
  | nil=>cases eq
  | cons w d2=>
    rw [List.map_cons] at eq
    cases eq
    refine GD (GF ?_)
    rw [if_pos rfl]
    walk_at "w"
    refine (hs _ w S' hg.le (hg.all w (by simp)) (xx.get hτ)).mono ?_
    rintro v S2 ⟨x2,fq,hv,hq⟩
    have hn2:NGs S2 acc d1 fp:=hn.gr fun k _ o e=>x2.get e
    refine ⟨d1++[w],d2,S2,fp++fq,_,by simp,hn2.app hv,IA nd (Tc hv) (fun k hk z=>?_),fun k hk=>?_,rfl,xx.trans x2,rfl⟩
    ·have:=hn.lt k hk
     have:=hq k z
     omega
    ·rcases List.mem_append.mp hk with hk | hk
     ·exact hlo k hk
     ·exact Nat.le_trans (Lm xx) (hq k hk)
 ·rintro acc t ⟨d1,d2,S',fp,z,rfl,hn,nd,hlo,eq,xx,rfl⟩
  cases d2 with
  | nil=>rw [List.append_nil];exact ⟨fp,hn,nd,hlo,xx⟩
  | cons w d2=>cases eq
 ·rintro xs t' ⟨fp,hn,nd,hlo,xx⟩
  rw [List.nil_append] at hn
  have hlen2:=hn.len
  refine Bu (by rw [hL];have:=hg.le;omega) ?_
  walk_at "w"
  have x3:Ext S (t'.S++[.lst xs]):=xx.trans ⟨_,rfl⟩
  have eK:(t'.S++[.lst xs])[t'.S.length]?=some (.lst xs):=by simp
  have hn3:NGs (t'.S++[.lst xs]) xs gs fp:=hn.gr fun k _ o e=>(show Ext t'.S (t'.S++[.lst xs]) from ⟨_,rfl⟩).get e
  refine PureO.use (hi t'.S.length xs gs fp _ hg eK hn3) ?_
  walk_at "w"
  refine ⟨x3,t'.S.length,xs,fp,rfl,eK,hn3,List.nodup_cons.mpr ⟨fun z=>absurd (hn.lt _ z) (by omega),nd⟩,fun k hk=>?_⟩
  rcases List.mem_cons.mp hk with rfl | hk
  ·exact Lm xx
  ·exact hlo k hk
abbrev Frm:=Nat→Option Ob
def Fr (F:Frm) (S:List Ob):Prop:=∀i o,F i=some o→S[i]?=some o
theorem Fr.none_of {F:Frm} {S:List Ob} (h:Fr F S):F S.length=none:=by
 cases e:F S.length with
 | none=>rfl
 | some o=>exact absurd (List.getElem?_eq_some_iff.mp (h _ _ e)).1 (Nat.lt_irrefl _)
theorem Fr.app {F:Frm} {S E:List Ob} (h:Fr F S):Fr F (S++E):=fun i o e=>by
 have:=h i o e
 rw [List.getElem?_append_left (List.getElem?_eq_some_iff.mp this).1]
 exact this
def RoomU (τ:Frm) (k r:Nat) (S:List Ob):Prop:=Room k r S∧Fr τ S∧τ k=none
theorem RoomU.mono {τ:Frm} {k r r':Nat} {S:List Ob} (h:RoomU τ k r S) (e:r'≤r):RoomU τ k r' S:=⟨h.1.mono e,h.2⟩
theorem RoomU.drop {τ:Frm} {k r m:Nat} {S:List Ob} (h:RoomU τ k (r + m) S):RoomU τ k r S:=h.mono (Nat.le_add_right _ _)
theorem RoomU.loop {τ:Frm} {k r q m:Nat} {S:List Ob} (h:RoomU τ k (r + q * (m + 1)) S):RoomU τ k (r + q * m + q) S:=⟨h.1.loop,h.2⟩
theorem KO {τ:Frm} {o:Ob} {k:Nat} {S:List Ob} (hk:τ k=none) (h:Fr τ S):Fr τ (S.set k o):=fun i x e=>by rw [List.getElem?_set_ne (fun z=>by rw [z,e] at hk;cases hk)];exact h i x e
def PTakeU (τ:Frm) (f:Fn):Prop:=∀(k r:Nat) (S:List Ob) (m:Int),0 < m→m < 4611686018427387904→RoomU τ k (r + 1) S→Wf f [.obj k,.int m] S fun v S'=>(∃i,v = .int i∧0≤i∧i < m)∧RoomU τ k r S'
theorem PTakeU.use {τ:Frm} {f:Fn} (h:PTakeU τ f) {k r:Nat} {S:List Ob} {m:Int} (many:Int) (d:RoomU τ k (r + 1) S) {P:D→List Ob→Prop} (p:∀i S',0≤i→i < many→RoomU τ k r S'→P (.int i) S') (e:m=many:=by first | rfl | decide) (h1:0 < many:=by decide) (h2:many < 4611686018427387904:=by decide):Wf f [.obj k,.int m] S P:=by
 subst e
 refine (h k r S m h1 h2 d).mono ?_
 rintro v S' ⟨⟨i,rfl,a,b⟩,q⟩
 exact p i S' a b q
theorem PF {τ:Frm}:PTakeU τ (fnOf 2 3 Dq):=by
 intro k n S m hm0 hm1 ⟨⟨a,c,b,hS,c0,c1⟩,h0,hk0⟩
 refine AX rfl ?_
 unfold Dq
 walk_at "w"
 refine KQ hS Tw ?_
 walk_at "w"
 refine KQ hS QY ?_
 walk_at "w"
 refine Cj (fun z=>?_) fun z=>?_
 ·walk_at "w"
  refine Sj hm0 (by omega) ?_
  refine Mv ?_
  walk_at "w"
  refine HY hS (by show 3 < 100000;decide) ?_
  rw [Nk]
  walk_at "w"
  refine Ro hm0 ?_
  exact ⟨⟨_,rfl,Int.emod_nonneg _ (by omega),Int.emod_lt_of_pos _ hm0⟩,⟨_,_,_,Gu hS,c0,by omega⟩,KO hk0 h0,hk0⟩
 ·walk_at "w"
  refine KQ hS LV ?_
  walk_at "w"
  refine Mv ?_
  walk_at "w"
  refine HY hS (by show 3 < 100000;decide) ?_
  rw [Q0]
  have g1:(S.set k (.dct (Cp (.int a) (.bl b) (.int (c + 1)))))[k]?=some (.dct (Cp (.int a) (.bl b) (.int (c + 1)))):=Gu hS
  refine Cq ?_
  change W _ ⟨[some (.val (.obj k)),some (.val (.int m)),some (.val (.int a))],S.set k (.dct (Cp (.int a) (.bl b) (.int (c + 1))))⟩ _
  have h01:Fr τ (S.set k (.dct (Cp (.int a) (.bl b) (.int (c + 1))))):=KO hk0 h0
  generalize S.set k (.dct (Cp (.int a) (.bl b) (.int (c + 1))))=S1 at g1 h01 ⊢
  walk_at "w"
  have a0:=Int.emod_nonneg a (b:=1000000000303) (by decide)
  have a1:=Int.emod_lt_of_pos a (b:=1000000000303) (by decide)
  generalize a % 1000000000303=x at a0 a1
  refine KQ g1 LV ?_
  obtain ⟨s,es⟩:∃s,s=c + 1:=⟨_,rfl⟩
  rw [←es]
  rw [←es] at g1
  have s0:0≤s:=by omega
  have s1:s≤1000000000000000000000000000000:=by omega
  refine Oq (by decide) (Ix s0 (by omega)) ?_
  walk_at "w"
  refine Oq (Ix (by omega) (by omega)) (Ix (by omega) (by omega)) ?_
  walk_at "w"
  have b0:=Int.emod_nonneg ((x + 90007 * s) * (x + 90007 * s + 53)) (b:=1000000000331) (by decide)
  have b1:=Int.emod_lt_of_pos ((x + 90007 * s) * (x + 90007 * s + 53)) (b:=1000000000331) (by decide)
  generalize (x + 90007 * s) * (x + 90007 * s + 53) % 1000000000331=y at b0 b1
  refine Oq (Ix (by omega) (by omega)) (Ix (by omega) (by omega)) ?_
  walk_at "w"
  refine Mv ?_
  walk_at "w"
  refine HY g1 (by show 3 < 100000;decide) ?_
  rw [Nk]
  walk_at "w"
  refine Sj (by decide) (by decide) ?_
  walk_at "w"
  refine Ro hm0 ?_
  exact ⟨⟨_,rfl,Int.emod_nonneg _ (by omega),Int.emod_lt_of_pos _ hm0⟩,⟨_,_,_,Gu g1,by omega,by omega⟩,KO hk0 h01,hk0⟩
def FT (τ:Frm) (f:Fn):Prop:=∀(ns:List Int) (k:Nat) (S:List Ob),k≤1000→Fr τ S→Wf f [.scr ns,.int k] S fun r S'=>∃n,r = .obj n∧RoomU τ n 900000000000000000000000000000 S'
theorem Pz {τ:Frm} {cc:Fn} (hc:Ox cc):FT τ (fnOf 2 3 (Dp cc)):=by
 intro ns k S hk h0
 have hne:τ S.length=none:=h0.none_of
 obtain ⟨c,hc⟩:=hc ns k hk
 refine AX rfl ?_
 unfold Dp
 walk_at "w"
 refine hc.use ?_
 walk_at "w"
 refine WF ?_
 refine GC ?_
 walk_at "w"
 refine GC ?_
 walk_at "w"
 refine GC ?_
 walk_at "w"
 refine Sm (Nc (by decide) (by decide)) ?_
 walk_at "w"
 refine P2 ?_
 refine ⟨MX,by show 3≤15;decide,S.length,rfl,?_⟩
 refine ⟨⟨c,7 + 3 * (k:Int),_,(Gu MX).trans (congrArg (fun l=>some (Ob.dct l)) QX),by omega,by omega⟩,KO hne ?_,hne⟩
 exact h0.app
structure DrawnU (τ:Frm) (k r dp c:Nat) (v:D) (S':List Ob):Prop where
 ex:∃s:Sh,v=s.d∧s.depth≤dp∧wf s=true∧cnt s≤c
 pool:RoomU τ k r S'
def PShU (τ:Frm) (f:Fn) (n:Nat):Prop:=∀(d k r:Nat) (S:List Ob),d < n→RoomU τ k (r + c6 d) S→Wf f [.obj k,.int d] S fun v S'=>DrawnU τ k r (d + 1) (cB d) v S'
theorem PShU.use {τ:Frm} {f:Fn} {n:Nat} (h:PShU τ f n) {d k r:Nat} {S:List Ob} (hd:d < n) (q:RoomU τ k (r + c6 d) S) {P:D→List Ob→Prop} (p:∀s S',s.depth≤d + 1→wf s=true→cnt s≤cB d→RoomU τ k r S'→P s.d S'):Wf f [.obj k,.int d] S P:=
 (h d k r S hd q).mono fun v S' ⟨⟨s,e,h1,h2,h3⟩,q⟩=>by subst e;exact p s S' h1 h2 h3 q
theorem TD {τ:Frm} {ct cr:Fn} {n:Nat} (ht:PTakeU τ ct) (hr:n=0∨PShU τ cr n):PShU τ (fnOf 2 5 (Db cr ct)) (n + 1):=by
 intro d k r S hd p0
 refine AX rfl ?_
 unfold Db
 have hcs:=V5 d
 have hcb:=OE d
 walk_at "w"
 refine ht.use (r:=r + (c6 d - 1)) 9 (p0.mono (by omega)) fun i S1 i0 i1 p1=>?_
 walk_at "w"
 refine Cj (fun z=>?_) fun z=>?_
 ·walk_at "w"
  exact ⟨⟨.nothing,by rw [Sh.d],by show 1≤_;omega,rfl,by simpa [cnt] using hcb⟩,p1.drop⟩
 walk_at "w"
 refine Cj (fun y=>?_) fun y=>?_
 ·walk_at "w"
  refine ht.use (r:=r + 8) 251 (p1.mono (by omega)) fun a S2 a0 a1 p2=>?_
  walk_at "w"
  refine ht.use (r:=r + 7) 5 p2 fun g S4 z0 z1 p4=>?_
  obtain ⟨dd,ed,m,rfl,m0,m1⟩:=HM (xs:=[D.int 0,D.int 1,D.int 5,D.int 250,D.int a]) z0 (by simpa using z1) (p:=fun d=>∃m:Int,d = .int m∧0≤m∧m≤250) (by
   simp only [List.forall_mem_cons]
   exact ⟨⟨_,rfl,by decide,by decide⟩,⟨_,rfl,by decide,by decide⟩,⟨_,rfl,by decide,by decide⟩,⟨_,rfl,by decide,by decide⟩,⟨_,rfl,a0,Int.le_of_lt_add_one a1⟩,fun _ z=>nomatch z⟩)
  refine FS ed ?_
  walk_at "w"
  refine ⟨⟨.text m,by rw [Sh.d],by show 1≤_;omega,?_,by simpa [cnt] using hcb⟩,p4.drop⟩
  simp only [wf,Bool.and_eq_true,decide_eq_true_eq]
  exact ⟨m0,m1⟩
 refine KS (Cq (Rr (wIf (F2.W.mono (P:=fun b t1=>b=decide (d=0∨i < 4)∧t1=⟨[some (.val (.obj k)),some (.val (.int (d:Int))),some (.val (.int i)),none,none],S1⟩) ?_ ?_))))
 ·walk_at "w"
  refine Cj (fun w=>?_) fun w=>?_
  ·have w' : d = 0 := by have : (d : Int) = 0 := by simpa using w
                         omega
   exact ⟨(decide_eq_true (.inl w')).symm,rfl⟩
  ·walk_at "w"
   have w' : ¬ d = 0 := by have : ¬ (d : Int) = 0 := by simpa using w
                           omega
   refine ⟨decide_eq_decide.mpr ⟨.inr,fun h=>h.resolve_left w'⟩,rfl⟩
 rintro b t1 ⟨rfl,rfl⟩
 refine Cj (fun w=>?_) fun w=>?_
 ·clear w
  walk_at "w"
  refine ht.use (r:=r + 8) 19 (p1.mono (by omega)) fun a S2 a0 a1 p2=>?_
  walk_at "w"
  refine ht.use (r:=r + 7) 100000000000 p2 fun b S3 b0 b1 p3=>?_
  walk_at "w"
  refine ht.use (r:=r + 6) 3 p3 fun g S4 z0 z1 p4=>?_
  have e10:(10:Int) ^ (10:Int).toNat=10000000000:=by decide
  rw [e10]
  obtain ⟨dd,ed,lo,rfl,l0,l1⟩:=HM (xs:=[D.int 0,D.int (a - 9),D.int (b - 10000000000)]) z0 (by simpa using z1) (p:=fun d=>∃m:Int,d = .int m∧-100000000000000000≤m∧m≤100000000000000000) (by
   simp only [List.forall_mem_cons]
   clear z0 z1 ht p4 p3 p2 p1 p0
   exact ⟨⟨_,rfl,by decide,by decide⟩,⟨_,rfl,by omega,by omega⟩,⟨_,rfl,by omega,by omega⟩,fun _ z=>nomatch z⟩)
  refine FS ed ?_
  walk_at "w"
  refine ht.use (r:=r + 5) 7 p4 fun h S6 h0 h1 p6=>?_
  have e17:(10:Int) ^ (17:Int).toNat=100000000000000000:=by decide
  rw [e17]
  obtain ⟨dd,ed,hi,rfl,m0,m1⟩:=HM (xs:=[D.int 0,D.int 1,D.int 9,D.int 255,D.int 256,D.int 70000,D.int 100000000000000000]) h0 (by simpa using h1) (p:=fun d=>∃m:Int,d = .int m∧0≤m∧m≤100000000000000000) (by
   simp only [List.forall_mem_cons]
   exact ⟨⟨_,rfl,by decide,by decide⟩,⟨_,rfl,by decide,by decide⟩,⟨_,rfl,by decide,by decide⟩,⟨_,rfl,by decide,by decide⟩,⟨_,rfl,by decide,by decide⟩,⟨_,rfl,by decide,by decide⟩,⟨_,rfl,by decide,by decide⟩,fun _ z=>nomatch z⟩)
  refine FS ed ?_
  walk_at "w"
  refine ⟨⟨.number lo (lo + hi),by rw [Sh.d],by show 1≤_;omega,?_,by simpa [cnt] using hcb⟩,p6.drop⟩
  simp only [wf,Bool.and_eq_true,decide_eq_true_eq]
  clear p0 p1 p2 p3 p4 p6
  omega
 obtain ⟨d0,i4⟩:¬d=0∧4≤i:=by
  have:=of_decide_eq_false w
  omega
 obtain ⟨d,rfl⟩:∃e,d=e + 1:=⟨d - 1,by omega⟩
 have e0:(((d + 1:Nat):Int) - 1)=(d:Int):=by omega
 rcases hr with rfl | hr
 ·exact absurd (Nat.lt_of_succ_lt_succ hd) (Nat.not_lt_zero _)
 have hd':=Nat.lt_of_succ_lt_succ hd
 have ec:c6 (d + 1)=10 + c6 d * 9:=rfl
 rw [ec] at p1
 replace p1:RoomU τ k (r + 9 + c6 d * 9) S1:=p1.mono (by omega)
 clear p0 hcs ec w d0
 have hst:=Sv d
 have hcd:=OE d
 walk_at "w"
 refine Cj (fun w=>?_) fun w=>?_
 ·walk_at "w"
  rw [e0]
  refine hr.use (r:=r + 9) hd' (p1.mono (by omega)) fun s S2 s1 s2 sc p2=>?_
  walk_at "w"
  refine ht.use (r:=r + 8) 199 p2 fun a S3 a0 a1 p3=>?_
  walk_at "w"
  refine ht.use (r:=r + 7) 5 p3 fun g S4 z0 z1 p4=>?_
  obtain ⟨dd,ed,m,rfl,m0,m1⟩:=HM (xs:=[D.int 0,D.int 1,D.int 3,D.int 250,D.int a]) z0 (by simpa using z1) (p:=fun d=>∃m:Int,d = .int m∧0≤m∧m≤250) (by
   simp only [List.forall_mem_cons]
   exact ⟨⟨_,rfl,by decide,by decide⟩,⟨_,rfl,by decide,by decide⟩,⟨_,rfl,by decide,by decide⟩,⟨_,rfl,by decide,by decide⟩,⟨_,rfl,a0,by clear ht hr p1 p2 p3 p4;omega⟩,fun _ z=>nomatch z⟩)
  refine FS ed ?_
  walk_at "w"
  refine ⟨⟨.list s m,by rw [Sh.d],by rw [Sh.depth];omega,?_,by rw [cnt];omega⟩,p4.drop⟩
  simp only [wf,Bool.and_eq_true,decide_eq_true_eq]
  exact ⟨⟨m0,m1⟩,s2⟩
 walk_at "w"
 refine Cj (fun v=>?_) fun v=>?_
 ·walk_at "w"
  rw [e0]
  refine hr.use (r:=r + c6 d) hd' (p1.mono (by omega)) fun s S2 s1 s2 sc p2=>?_
  walk_at "w"
  rw [e0]
  refine hr.use hd' p2 fun s' S3 s3 s4 sc2 p3=>?_
  walk_at "w"
  exact ⟨⟨.pair s s',by rw [Sh.d],by rw [Sh.depth];omega,by simp only [wf,s2,s4,Bool.and_self],by rw [cnt];omega⟩,p3⟩
 walk_at "w"
 obtain ⟨many,em,hm⟩:∃many:Int,atI [D.int 3,D.int 9] (if id ((((d + 1:Nat):Int)) == 1)=true then 1 else 0)=some (.int many)∧(many=3∨(many=9∧d=0)):=by
  cases ez:id ((((d + 1:Nat):Int)) == 1)
  ·exact ⟨3,rfl,.inl rfl⟩
  ·have ez:(((d + 1:Nat):Int))=1:=by simpa using ez
   exact ⟨9,rfl,.inr ⟨rfl,by omega⟩⟩
 refine FS em ?_
 walk_at "w"
 refine ht.use (r:=r + c6 d * 9) many (p1.mono (by omega)) (fun a S3 a0 a1 p3=>?_) rfl (by omega) (by omega)
 walk_at "w"
 obtain ⟨m,em⟩:=Int.eq_ofNat_of_zero_le (Int.add_nonneg (by decide:(0:Int)≤1) a0)
 rw [em]
 have m13:1≤m∧m≤9:=by clear p1 p3;omega
 refine Mu (IM m13.2) ?_
 refine (GL (P:=fun xs t'=>∃ss:List Sh,xs=ss.map Sh.d∧ss.length=m∧(∀s∈ss,s.depth≤d + 1∧wf s=true∧cnt s≤cB d)∧RoomU τ k r t'.S) (fun acc q t=>∃(ss:List Sh) (S':List Ob) (z:Option Sl),acc=ss.map Sh.d∧ss.length + q.length=m∧(∀s∈ss,s.depth≤d + 1∧wf s=true∧cnt s≤cB d)∧RoomU τ k (r + c6 d * q.length) S'∧t=⟨[z,some (.val (.obj k)),some (.val (.int ((d + 1:Nat):Int)))],S'⟩) _ [] _ ⟨[],S3,_,rfl,by simp [CG],by simp,p3.mono (by rw [CT,Int.toNat_natCast];exact Nat.add_le_add_left (Nat.mul_le_mul_left _ m13.2) _),rfl⟩ ?_ ?_).mono ?_
 ·rintro acc d' q t ⟨ss,S',z,rfl,h1,h2,h3,rfl⟩ _
  rw [List.length_cons] at h1 h3
  refine GD (GF ?_)
  rw [if_pos rfl]
  walk_at "w"
  rw [e0]
  refine hr.use hd' h3.loop fun s S5 q1 q2 qc q3=>?_
  exact ⟨ss++[s],S5,_,by rw [List.map_append];rfl,QG h1,SY h2 ⟨q1,q2,qc⟩,q3,rfl⟩
 ·rintro acc t ⟨ss,S',z,rfl,h1,h2,h3,rfl⟩
  exact ⟨ss,rfl,h1,h2,h3⟩
 ·rintro xs t' ⟨ss,hxs,h1,h2,h3⟩
  rw [List.nil_append] at hxs
  subst hxs
  refine Bu (UZ (n:=9) (by rw [List.length_map,h1];exact m13.2)) ?_
  walk_at "w"
  refine ⟨⟨.choice ss,by rw [Sh.d,Ev],Xc fun x hx=>(h2 x hx).1,?_,?_⟩,h3⟩
  rotate_left
  ·have:=SA fun x hx=>(h2 x hx).2.2
   rw [cnt]
   rcases hm with hm | ⟨hm,hd0⟩
   ·have:ss.length * cB d≤3 * cB d:=Nat.mul_le_mul_right _ (by omega)
    omega
   ·subst hd0
    have e1:cB 0=1:=rfl
    have e2:cB (0 + 1)=10:=rfl
    rw [e1] at this
    omega
  simp only [wf,Bool.and_eq_true,decide_eq_true_eq]
  exact ⟨⟨by omega,by omega⟩,P6 fun x hx=>(h2 x hx).2.1⟩
local macro_rules | `(tactic| walk_at "y1")=>`(tactic| first | walk_at "w1" | ((with_reducible refine' wIsiP ?wv ?_);(case wv=>exact rfl)))
local macro_rules | `(tactic| walk_at "y")=>`(tactic| repeat (walk_at "y1"))
theorem Hq (w:Wd):w.1++Str.ofString ":"++mkT (sw w.2.1)++Str.ofString ">"++Str.ofString (toString (w.2.2:Int))=mkT (wdT w):=by
 apply DT
 have a1:uc (Str.ofString ":")=[58]:=by decide +kernel
 have a2:uc (Str.ofString ">")=[62]:=by decide +kernel
 simp only [BS,BY,a1,a2,List.append_assoc]
 rfl
theorem G0 {n:Nat} (hL:LIM=100000) (h:n≤100000):n≤LIM:=hL ▸ h
def ShW (f:Fn):Prop:=∀(n:Nat) (w:Wd),n≤30→WdOk n w→Pure1 f [wdN w] (.str (mkT (wdT w)))
theorem Rg {c:Fn} (hc:ShwOk c 6):ShW (fnOf 1 1 (EF c)):=by
 intro n w hn hw S
 have hL:LIM=100000:=rfl
 have hl:=Gc hw hn
 have e:=congrArg Str.length (Hq w)
 rw [Cm] at e
 simp only [Bh] at e
 refine AX rfl ?_
 unfold EF wdN
 walk_at "w"
 refine Bu (G0 hL (by first | omega | (simp only [Bh];omega))) ?_
 walk_at "w"
 refine (hc w.2.1 hw.dep hw.ok hw.few).use ?_
 walk_at "w"
 refine Bu (G0 hL (by first | omega | (simp only [Bh];omega))) ?_
 walk_at "w"
 refine Bu (G0 hL (by first | omega | (simp only [Bh];omega))) ?_
 walk_at "w"
 refine HZ (C9 (by omega) (by have:=hw.hi;omega)) ?_
 walk_at "w"
 refine Bu (G0 hL (by first | omega | (simp only [Bh];omega))) ?_
 walk_at "w"
 rw [Hq]
 exact ⟨rfl,rfl⟩
theorem Nz {n:Nat} {sd:Str} {ws:List Wd} (hn:n≤30) (h:GzOk n (.st sd ws)):(((sd :: ws.map fun w=>mkT (wdT w)).map (·.length)).sum + (sd :: ws.map fun w=>mkT (wdT w)).length≤40000)∧Txt.join (Str.ofString " ") (sd :: ws.map fun w=>mkT (wdT w))=mkT (gzT (.st sd ws)):=by
 cases h with
 | st hs h1 h2 h3 h4=>
   constructor
   ·have s1:=(IK hs).2.1
    rw [BN] at s1
    have s2:=EL (f:=fun w:Wd=>(mkT (wdT w)).length) (b:=3640) (l:=ws) fun w hw=>by rw [Cm];exact Gc (h4 w hw) hn
    have s3:ws.length * 3640≤9 * 3640:=Nat.mul_le_mul_right _ h2
    have e:(ws.map fun w=>mkT (wdT w)).map (·.length)=ws.map fun w=>(mkT (wdT w)).length:=List.map_map ..
    rw [List.map_cons,List.sum_cons,List.length_cons,List.length_map,e]
    omega
   ·apply DT
    have a1:uc (Str.ofString " ")=[32]:=by decide +kernel
    rw [LA,BY,a1,List.map_cons,List.map_map]
    have e:(uc ∘ fun w=>mkT (wdT w))=wdT:=funext fun w=>BY _
    rw [e]
    rfl
def Ut (f:Fn):Prop:=∀(n:Nat) (x:Gz),n≤30→GzOk n x→Pure1 f [x.d] (.str (mkT (gzT x)))
theorem OV {sd:Str} (h:sd=Str.ofString "left"∨sd=Str.ofString "right"):(sd == Str.ofString "end")=false:=by
 rcases h with rfl | rfl <;> decide +kernel
theorem V7 (S:List Ob):PureO S (fnOf 1 1 D3) [.tup [.str (Str.ofString "end")]] (.bl true):=by
 refine AX rfl ?_
 unfold D3
 walk_at "w"
 exact ⟨rfl,rfl⟩
theorem V8 {sd:Str} (h:sd=Str.ofString "left"∨sd=Str.ofString "right") (d:D) (S:List Ob):PureO S (fnOf 1 1 D3) [.tup [.str sd,d]] (.bl false):=by
 refine AX rfl ?_
 unfold D3
 walk_at "w"
 exact ⟨by rw [OV h];rfl,rfl⟩
theorem PR {c:Fn} (hc:ShW c):Ut (fnOf 1 1 (Eh c (fnOf 1 1 D3))):=by
 intro n x hn hx S
 have hL:LIM=100000:=rfl
 refine AX rfl ?_
 unfold Eh
 cases x with
 | fin=>
   walk_at "w"
   refine PureO.use (V7 S) ?_
   walk_at "w"
   exact ⟨by rw [show gzT .fin=uc (Str.ofString "end") from rfl,EH],rfl⟩
 | st sd ws=>
   have hx':=hx
   cases hx with
   | st hs h1 h2 h3 h4=>
     obtain ⟨q1,q2⟩:=Nz hn hx'
     unfold Gz.d
     walk_at "w"
     refine PureO.use (V8 hs _ S) ?_
     walk_at "w"
     refine EM ?_
     walk_at "w"
     refine (Cn (l:=ws) (ι:=wdN) (f:=fun w=>.str (mkT (wdT w))) (fr:=[]) ?_).mono ?_
     ·intro w m
      walk_at "w"
      refine (hc n w hn (h4 w m)).use ⟨rfl,rfl⟩
     ·rintro xs t' ⟨rfl,hS'⟩
      refine Bu (by rw [List.length_map,hL];omega) ?_
      walk_at "w"
      refine Bu (by rw [hL];simp;omega) ?_
      walk_at "w"
      refine ⟨_,_,sd :: ws.map fun w=>mkT (wdT w),rfl,rfl,?_,⟨by decide +kernel,by omega⟩,?_⟩
      ·show DZ (.str sd :: ws.map fun w=>.str (mkT (wdT w)))=_
       rw [DZ,DB]
       rfl
      rw [q2]
      exact ⟨rfl,hS'⟩
theorem M6 {gs:List Gz} (h:GkOk gs):(((gs.map fun x=>mkT (gzT x)).map (·.length)).sum + (gs.map fun x=>mkT (gzT x)).length≤1000000)∧Txt.join (Str.ofString "; ") (gs.map fun x=>mkT (gzT x))=mkT (grT gs):=by
 constructor
 ·have s2:=EL (f:=fun x:Gz=>(mkT (gzT x)).length) (b:=33000) (l:=gs) fun x hx=>by rw [Cm];exact Jk (h.all x hx) h.le
  have s3:gs.length * 33000≤30 * 33000:=Nat.mul_le_mul_right _ h.le
  have e:(gs.map fun x=>mkT (gzT x)).map (·.length)=gs.map fun x=>(mkT (gzT x)).length:=List.map_map ..
  have:=h.le
  rw [List.length_map,e]
  omega
 ·apply DT
  have a1:uc (Str.ofString "; ")=[59,32]:=by decide +kernel
  rw [LA,BY,a1,List.map_map]
  have e:(uc ∘ fun x=>mkT (gzT x))=gzT:=funext fun w=>BY _
  rw [e]
  rfl
def ShG (f:Fn):Prop:=∀gs:List Gz,GkOk gs→Pure1 f [.lst (gs.map Gz.d)] (.str (mkT (grT gs)))
theorem MO {c:Fn} (hc:Ut c):ShG (fnOf 1 1 (DI c)):=by
 intro gs hg S
 have hL:LIM=100000:=rfl
 obtain ⟨q1,q2⟩:=M6 hg
 refine AX rfl ?_
 unfold DI
 walk_at "w"
 refine EM ?_
 walk_at "w"
 refine (Cn (l:=gs) (ι:=Gz.d) (f:=fun x=>.str (mkT (gzT x))) (fr:=[]) ?_).mono ?_
 ·intro x m
  walk_at "w"
  refine (hc gs.length x hg.le (hg.all x m)).use ⟨rfl,rfl⟩
 ·rintro xs t' ⟨rfl,hS'⟩
  refine Bu (by rw [List.length_map,hL];have:=hg.le;omega) ?_
  walk_at "w"
  refine ⟨_,_,gs.map fun x=>mkT (gzT x),rfl,rfl,DB _ _,⟨by decide +kernel,by omega⟩,?_⟩
  rw [q2]
  exact ⟨rfl,hS'⟩
theorem NP {α:Type} {g:Gd} {l:List α} {ι f:α→D} {fr:α→List (Option Sl)} {st:D→M Unit} {S:List Ob} {elt:M D} (hg:Gon g S) (hst:∀a∈l,∀z0 z1 z2:Option Sl,W (st (ι a)) ⟨[z0,z1,z2],S⟩ fun _ t'=>t'=⟨fr a,S⟩):∀(z0 z1 z2:Option Sl),(∀a∈l,(fr a).length=3∧W elt ⟨fr a,S⟩ fun x t'=>x=f a∧t'=⟨fr a,S⟩)→
 W (compG g st Cy elt (l.map ι)) ⟨[z0,z1,z2],S⟩ fun xs t'=>xs=l.map f∧t'.S=S:=by
 induction l with
 | nil=>intro z0 z1 z2 _;exact Ey hg ⟨rfl,rfl⟩
 | cons a r ih=>
   intro z0 z1 z2 h
   rw [List.map_cons]
   refine Du hg ?_
   refine (hst a (by simp) z0 z1 z2).mono ?_
   rintro _ t1 rfl
   refine GF ?_
   rw [if_pos rfl]
   obtain ⟨hl,hw⟩:=h a (by simp)
   refine hw.mono ?_
   rintro x t2 ⟨rfl,rfl⟩
   obtain ⟨y0,y1,y2,ey⟩:∃y0 y1 y2,fr a=[y0,y1,y2]:=by
    match h:fr a,hl with
    | [y0,y1,y2],_=>exact ⟨y0,y1,y2,rfl⟩
   rw [ey]
   refine (ih (fun b hb=>hst b (List.mem_cons_of_mem _ hb)) y0 y1 y2 fun b hb=>h b (List.mem_cons_of_mem _ hb)).mono ?_
   rintro xs t' ⟨rfl,e2⟩
   exact ⟨rfl,e2⟩
def Qi (f:Fn):Prop:=∀(n:Nat) (d:D) (x:Gz) (S:List Ob),n≤30→GzOk n x→NSt S d x→PureO S f [d] (.str (mkT (gzT x)))
theorem T9 {c:Fn} (hc:ShwOk c 6):Qi (fnOf 1 2 (CA c)):=by
 intro n d x S hn hx hd
 have hL:LIM=100000:=rfl
 refine AX rfl ?_
 unfold CA
 cases hd with
 | fin=>
   walk_at "w"
   exact ⟨by rw [show gzT .fin=uc (Str.ofString "end") from rfl,EH],rfl⟩
 | @st sd k ws e=>
   have hx':=hx
   cases hx with
   | st hs h1 h2 h3 h4=>
     obtain ⟨q1,q2⟩:=Nz hn hx'
     walk_at "w"
     refine Bt (OV hs) ?_
     walk_at "w"
     refine Gb (Fq ?_)
     walk_at "w"
     refine El e ?_
     refine (NP (l:=ws) (ι:=wdN) (f:=fun w=>.str (mkT (wdT w))) (fr:=fun w=>[some (.val (.str w.1)),some (.val w.2.1.d),some (.val (.int (w.2.2:Int)))]) (Cw e) ?_ _ _ _ ?_).mono ?_
     ·intro w _ z0 z1 z2
      unfold wdN
      walk_at "w"
      rfl
     ·intro w m
      refine ⟨rfl,?_⟩
      have hw:=h4 w m
      have hl:=Gc hw hn
      have e:=congrArg Str.length (Hq w)
      rw [Cm] at e
      simp only [Bh] at e
      walk_at "w"
      refine Bu (G0 hL (by first | omega | (simp only [Bh];omega))) ?_
      walk_at "w"
      refine (hc w.2.1 hw.dep hw.ok hw.few).use ?_
      walk_at "w"
      refine Bu (G0 hL (by first | omega | (simp only [Bh];omega))) ?_
      walk_at "w"
      refine Bu (G0 hL (by first | omega | (simp only [Bh];omega))) ?_
      walk_at "w"
      refine HZ (C9 (by omega) (by have:=hw.hi;omega)) ?_
      walk_at "w"
      refine Bu (G0 hL (by first | omega | (simp only [Bh];omega))) ?_
      rw [Hq]
      exact ⟨rfl,rfl⟩
     ·rintro xs t' ⟨rfl,hS'⟩
      refine Bu (by rw [List.length_map,hL];omega) ?_
      walk_at "w"
      refine EM ?_
      walk_at "w"
      refine Bu (by rw [hL];simp;omega) ?_
      walk_at "w"
      refine ⟨_,_,sd :: ws.map fun w=>mkT (wdT w),rfl,rfl,?_,⟨by decide +kernel,by omega⟩,?_⟩
      ·show DZ (.str sd :: ws.map fun w=>.str (mkT (wdT w)))=_
       rw [DZ,DB]
       rfl
      rw [q2]
      exact ⟨rfl,hS'⟩
def KpU (p:Nat) (S S':List Ob):Prop:=∀i o,i≠p→S[i]?=some o→S'[i]?=some o
theorem KpU.refl {p:Nat} {S:List Ob}:KpU p S S:=fun _ _ _ e=>e
theorem KpU.trans {p:Nat} {S S1 S2:List Ob} (a:KpU p S S1) (b:KpU p S1 S2):KpU p S S2:=fun i o h e=>b i o h (a i o h e)
def frm (S:List Ob) (p:Nat):Frm:=fun i=>if i=p then none else S[i]?
theorem Lr {S:List Ob} {p:Nat}:Fr (frm S p) S:=fun i o e=>by
 unfold frm at e
 split at e
 ·cases e
 ·exact e
theorem RQ {S:List Ob} {p:Nat}:frm S p p=none:=by simp [frm]
theorem Fr.keep {S S':List Ob} {p:Nat} (h:Fr (frm S p) S'):KpU p S S':=fun i o hi e=>h i o (by unfold frm;rw [if_neg hi];exact e)
theorem Ek {f:Fn} (h:∀τ,PTakeU τ f) {p r:Nat} {S:List Ob} {m:Int} (many:Int) (d:Room p (r + 1) S) {P:D→List Ob→Prop} (q:∀i S',0≤i→i < many→Room p r S'→KpU p S S'→P (.int i) S') (e:m=many:=by first | rfl | decide) (h1:0 < many:=by decide) (h2:many < 4611686018427387904:=by decide):Wf f [.obj p,.int m] S P:=by
 subst e
 refine (h (frm S p) p r S m h1 h2 ⟨d,Lr,RQ⟩).mono ?_
 rintro v S' ⟨⟨i,rfl,a,b⟩,q1,q2,_⟩
 exact q i S' a b q1 q2.keep
theorem T1 {f:Fn} (h:∀τ,PShU τ f 3) {p r:Nat} {S:List Ob} (d:Room p (r + 910) S) {P:D→List Ob→Prop} (q:∀s S',s.depth≤3→wf s=true→cnt s≤31→Room p r S'→KpU p S S'→P s.d S'):Wf f [.obj p,.int 2] S P:=by
 refine (h (frm S p) 2 p r S (by decide) ⟨d,Lr,RQ⟩).mono ?_
 rintro v S' ⟨⟨s,rfl,h1,h2,h3⟩,q1,q2,_⟩
 exact q s S' h1 h2 h3 q1 q2.keep
theorem Py {f:Fn} (h:∀τ,FT τ f) {ns:List Int} {k:Nat} {S:List Ob} (hk:k≤1000) {P:D→List Ob→Prop} (q:∀n S',Room n 900000000000000000000000000000 S'→S.length≤n→(∀(i:Nat) (o:Ob),S[i]?=some o→S'[i]?=some o)→P (.obj n) S'):Wf f [.scr ns,.int (k:Int)] S P:=by
 refine (h (fun i=>S[i]?) ns k S hk fun i o e=>e).mono ?_
 rintro v S' ⟨n,rfl,q1,q2,q3⟩
 refine q n S' q1 (by simpa using q3) fun i o e=>q2 i o e
theorem LY {f:Fn} (h:∀τ,FT τ f) {ns:List Int} (k:Nat) {m:Int} {S:List Ob} (hk:k≤1000) {P:D→List Ob→Prop} (q:∀n S',Room n 900000000000000000000000000000 S'→S.length≤n→(∀(i:Nat) (o:Ob),S[i]?=some o→S'[i]?=some o)→P (.obj n) S') (e:m=(k:Int)):Wf f [.scr ns,.int m] S P:=by
 subst e
 exact Py h hk q
def nmL:List Str:=[Str.ofString "a",Str.ofString "ab",Str.ofString "b",Str.ofString "hello",Str.ofString "end",Str.ofString "left",Str.ofString "right",Str.ofString "zzzzzzzz",Str.ofString "list",Str.ofString "nothing",Str.ofString "x",Str.ofString "say"]
def HF (off j:Nat):Str:=nmL.getD ((off + 5 * j) % 12) (Str.ofString "a")
theorem We {off j:Nat}:nmB (HF off j)=true:=by
 have:∀i,i < 12→nmB (nmL.getD i (Str.ofString "a"))=true:=by decide +kernel
 exact this _ (Nat.mod_lt _ (by decide))
theorem Wc {off j:Nat}:atI (nmL.map D.str) (((off + 5 * j) % 12:Nat):Int)=some (.str (HF off j)):=by
 have h:=Nat.mod_lt (off + 5 * j) (by decide:0 < 12)
 unfold HF
 generalize (off + 5 * j) % 12=i at h
 refine D4 ?_
 have h':i < nmL.length:=h
 rw [List.getElem?_map,List.getElem?_eq_getElem h',List.getD_eq_getElem?_getD,List.getElem?_eq_getElem h']
 rfl
theorem QL {off n:Nat} (h:n≤9):((List.range n).map (HF off)).Nodup:=by
 have key:∀o,o < 12→∀i,i < 9→∀j,j < 9→nmL.getD ((o + 5 * i) % 12) (Str.ofString "a")=nmL.getD ((o + 5 * j) % 12) (Str.ofString "a")→i=j:=by decide +kernel
 have e:∀j,(off + 5 * j) % 12=(off % 12 + 5 * j) % 12:=fun j=>by omega
 refine List.pairwise_map.mpr (List.Pairwise.imp_of_mem (fun {a b} ha hb hab z=>?_) List.nodup_range)
 unfold HF at z
 rw [e a,e b] at z
 exact hab (key _ (Nat.mod_lt _ (by decide)) a (by have:=List.mem_range.mp ha;omega) b (by have:=List.mem_range.mp hb;omega) z)
def GzS (n:Nat) (x:Gz):Prop:=GzOk n x∧∀sd ws,x = .st sd ws→∀w∈ws,w.2.1.depth≤3∧cnt w.2.1≤31
structure GrD (K many:Nat) (S:List Ob) (gs:List Gz) (ds:List D) (fp:List Nat):Prop where
 list:S[K]?=some (.lst ds)
 ngs:NGs S ds gs fp
 nd:(K :: fp).Nodup
 all:∀x∈gs,GzS many x
theorem NGs.keep {p:Nat} {S S':List Ob} {ds:List D} {gs:List Gz} {fp:List Nat} (h:NGs S ds gs fp) (k:KpU p S S') (hp:p∉fp):NGs S' ds gs fp:=h.gr fun i hi o e=>k i o (fun z=>hp (z ▸ hi)) e
theorem BP {S:List Ob} {k i:Nat} {o x:Ob} (h:S[i]?=some x) (hk:i≠k):(S.set k o)[i]?=some x:=by rw [List.getElem?_set_ne (Ne.symm hk)];exact h
theorem DA {S:List Ob} {k:Nat} {o x:Ob} (h:S[k]?=some x):(S.set k o)[k]?=some o:=by
 have:=(List.getElem?_eq_some_iff.mp h).1
 rw [List.getElem?_set_self this]
theorem DV {S:List Ob} {k:Nat} {x:Ob} (h:S[k]?=some x):k < S.length:=(List.getElem?_eq_some_iff.mp h).1
def Qd (f:Fn) (τ:Ob):Prop:=∀(ns:List Int) (many:Nat) (S:List Ob),1≤many→many≤30→S[0]?=some τ→Wf f [.scr ns,.int 2,.int (many:Int),.int 2] S fun v S'=>∃K gs ds fp,v = .obj K∧S'[0]?=some τ∧GrD K many S' gs ds fp∧gs.length=many∧0∉fp∧K≠0
theorem VC {n:Nat} {d:D} (h:d∈CG 0 n):∃j:Nat,j < n∧d = .int j:=by
 unfold CG at h
 obtain ⟨j,hj,rfl⟩:=List.mem_map.mp h
 exact ⟨j,List.mem_range.mp hj,by simp⟩
theorem Room.lt {k r:Nat} {S:List Ob} (h:Room k r S):k < S.length:=by
 obtain ⟨_,_,_,e,_⟩:=h
 exact DV e
theorem Room.app {k r:Nat} {S E:List Ob} (h:Room k r S):Room k r (S++E):=by
 obtain ⟨a,c,b,e,q⟩:=h
 exact ⟨a,c,b,by rw [List.getElem?_append_left (DV e)];exact e,q⟩
theorem Room.set {k r i:Nat} {S:List Ob} {o:Ob} (h:Room k r S) (hi:i≠k):Room k r (S.set i o):=by
 obtain ⟨a,c,b,e,q⟩:=h
 exact ⟨a,c,b,BP e (Ne.symm hi),q⟩
theorem FU {xs:List D} {d:D} (h:xs.length≤1000):Dm xs [d]=some (xs++[d]):=by
 have hL:LIM=100000:=rfl
 unfold Dm;simp only;rw [if_pos (by omega)]
theorem R8 {a:Int} {n j:Nat} {d:D} {r:List D} (e:d :: r=(CG a n).drop j):d = .int (a + j)∧r=(CG a n).drop (j + 1)∧j < n:=by
 have hl:=congrArg List.length e
 rw [List.length_drop,CT,List.length_cons] at hl
 have hj:j < n:=by omega
 have hj':j < (CG a n).length:=by rw [CT];exact hj
 rw [List.drop_eq_getElem_cons hj'] at e
 cases e
 exact ⟨by simp [CG],rfl,hj⟩
theorem UJ {ct cs cp:Fn} {τ:Ob} (ht:∀τ,PTakeU τ ct) (hs:∀τ,PShU τ cs 3) (hp:∀τ,FT τ cp):Qd (fnOf 4 12 (CO ct cs cp)) τ:=by
 intro ns many S hm1 hm30 hτ
 have hL:LIM=100000:=rfl
 refine AX rfl ?_
 unfold CO
 walk_at "w"
 refine Mu (IM hm30) ?_
 have h0:=DV hτ
 refine Ez (fun q t=>∃(gs:List Gz) (ds:List D) (fp:List Nat) (S':List Ob) (z6 z7 z8 z9 z10 z11:Option Sl),GrD S.length many S' gs ds fp∧gs.length + q.length=many∧S'[0]?=some τ∧0∉fp∧t=⟨[some (.val (.scr ns)),some (.val (.int 2)),some (.val (.int (many:Int))),some (.val (.int 2)),some (.val (.lst (nmL.map D.str))),some (.val (.obj S.length)),z6,z7,z8,z9,z10,z11],S'⟩) _ _ ⟨[],[],[],_,none,none,none,none,none,none,⟨OD,.nil,by simp,fun _ z=>nomatch z⟩,by rw [CT,Int.toNat_natCast];exact Nat.zero_add _,by rw [List.getElem?_append_left h0];exact hτ,by simp,rfl⟩ ?_ ?_
 ·rintro d q t ⟨gs,ds,fp,S1,z6,z7,z8,z9,z10,z11,hg,hlen,hτ1,hz,rfl⟩ hd
  rw [Int.toNat_natCast] at hd
  obtain ⟨j,hj,rfl⟩:=VC hd
  rw [List.length_cons] at hlen
  have hK0:S.length≠0:=by omega
  have hdl:=hg.ngs.len
  have hnK:S.length∉fp:=(List.nodup_cons.mp hg.nd).1
  walk_at "w"
  rw [show (2:Int) + (j:Int)=((2 + j:Nat):Int) by omega]
  refine Py hp (by omega) fun n S2 r2 hn k2=>?_
  replace hn:S1.length≤n:=hn
  replace k2:∀(i:Nat) (o:Ob),S1[i]?=some o→S2[i]?=some o:=k2
  have hK1:=DV hg.list
  have nK:S.length≠n:=by omega
  have nf:n∉fp:=fun z=>absurd (hg.ngs.lt n z) (by omega)
  have n0:(0:Nat)≠n:=by have:=DV hτ1;omega
  walk_at "w"
  refine Ek ht (r:=800000) 4 (r2.mono (by omega)) fun i S3 i0 i1 r3 k3=>?_
  have hg3:NGs S3 ds gs fp:=(hg.ngs.gr fun k _ o e=>k2 k o e).keep k3 nf
  have hK3:S3[S.length]?=some (.lst ds):=k3 _ _ nK (k2 _ _ hg.list)
  have hτ3:S3[0]?=some τ:=k3 _ _ n0 (k2 _ _ hτ1)
  walk_at "w"
  refine Cj (fun z=>?_) fun z=>?_
  ·walk_at "w"
   refine IW (k:=S.length) ?_
   walk_at "w"
   refine ⟨rfl,ds,hK3,?_⟩
   walk_at "w"
   refine ⟨ds,_,hK3,FU (by omega),?_⟩
   walk_at "w"
   refine ⟨gs++[.fin],_,fp,_,_,_,_,_,_,_,⟨DA hK3,?_,hg.nd,?_⟩,by rw [List.length_append];show _ + 1 + _=_;omega,BP hτ3 (Ne.symm hK0),hz,rfl⟩
   ·have:=hg3.app (NGs.fin (S:=S3) .nil)
    rw [List.append_nil] at this
    exact this.gr fun k hk o e=>BP e fun z=>hnK (z ▸ hk)
   ·intro x hx
    rcases List.mem_append.mp hx with hx | hx
    ·exact hg.all x hx
    ·rw [List.mem_singleton.mp hx]
     exact ⟨.fin,fun _ _ z=>nomatch z⟩
  ·walk_at "w"
   refine Ek ht (r:=700000) 2 (r3.mono (by omega)) fun i2 S4 a0 a1 r4 k4=>?_
   obtain ⟨dd,ed,sd,rfl,hsd⟩:=HM (xs:=[D.str (Str.ofString "left"),D.str (Str.ofString "right")]) a0 (by simpa using a1) (p:=fun d=>∃sd,d = .str sd∧(sd=Str.ofString "left"∨sd=Str.ofString "right")) (by
    simp only [List.forall_mem_cons]
    exact ⟨⟨_,rfl,.inl rfl⟩,⟨_,rfl,.inr rfl⟩,fun _ z=>nomatch z⟩)
   refine FS ed ?_
   walk_at "w"
   refine Ek ht (r:=600000) 12 (r4.mono (by omega)) fun off' S5 b0 b1 r5 k5=>?_
   obtain ⟨off,rfl⟩:=Int.eq_ofNat_of_zero_le b0
   walk_at "w"
   have k45:=(k3.trans k4).trans k5
   have r6:Room n 600000 (S5++[.lst []]):=r5.app
   refine Ek ht (r:=500000) 4 (r6.mono (by omega)) fun i4 S7 c0 c1 r7 k7=>?_
   obtain ⟨dd,ed,m,rfl,m1,m9⟩:=HM (xs:=[D.int 1,D.int 2,D.int 3,D.int 9]) c0 (by simpa using c1) (p:=fun d=>∃m:Nat,d = .int (m:Int)∧1≤m∧m≤9) (by
    simp only [List.forall_mem_cons]
    exact ⟨⟨1,rfl,by decide,by decide⟩,⟨2,rfl,by decide,by decide⟩,⟨3,rfl,by decide,by decide⟩,⟨9,rfl,by decide,by decide⟩,fun _ z=>nomatch z⟩)
   refine FS ed ?_
   walk_at "w"
   refine Mu (IM m9) ?_
   have hW:S5.length≠n:=by have:=r5.lt;omega
   have hW7:S7[S5.length]?=some (.lst []):=k7 _ _ hW OD
   have kk:∀i o,i≠n→S3[i]?=some o→S7[i]?=some o∧i≠S5.length:=fun i o hi e=>by
    have e5:=(k4.trans k5) i o hi e
    have:=DV e5
    exact ⟨k7 i o hi (by rw [List.getElem?_append_left this];exact e5),by omega⟩
   refine Ez (fun q t=>∃(ws:List Wd) (S':List Ob) (z11:Option Sl),S'[S5.length]?=some (.lst (ws.map wdN))∧ws.map (·.1)=(List.range ws.length).map (HF off)∧(∀w∈ws,WdOk many w∧w.2.1.depth≤3∧cnt w.2.1≤31)∧ws.length≤m∧q=(CG 0 m).drop ws.length∧Room n (1000 * q.length) S'∧(∀i o,i≠n→i≠S5.length→S7[i]?=some o→S'[i]?=some o)∧t=⟨[some (.val (.scr ns)),some (.val (.int 2)),some (.val (.int (many:Int))),some (.val (.int 2)),some (.val (.lst (nmL.map D.str))),some (.val (.obj S.length)),some (.val (.int (j:Int))),some (.val (.obj n)),some (.val (.str sd)),some (.val (.int (off:Int))),some (.val (.obj S5.length)),z11],S'⟩) _ _ ⟨[],S7,_,hW7,rfl,(fun _ z=>nomatch z),Nat.zero_le _,by rw [Int.toNat_natCast];rfl,r7.mono (by rw [CT,Int.toNat_natCast];omega),(fun _ _ _ _ e=>e),rfl⟩ ?_ ?_
   ·rintro d q t ⟨ws,S',z,hWs,hnm,hok,hle,eq,rr,kp,rfl⟩ _
    obtain ⟨rfl,eq2,hwl⟩:=R8 eq
    rw [List.length_cons] at rr
    walk_at "w"
    refine IW (k:=S5.length) ?_
    walk_at "w"
    refine ⟨rfl,_,hWs,?_⟩
    walk_at "w"
    refine Sm (Nc (by decide) (by decide)) ?_
    walk_at "w"
    rw [show ((off:Int) + 5 * (0 + (ws.length:Int))) % 12=(((off + 5 * ws.length) % 12:Nat):Int) by omega]
    refine FS Wc ?_
    walk_at "w"
    refine T1 hs (r:=1000 * q.length + 80) (rr.mono (by omega)) fun s S8 s1 s2 s3 r8 k8=>?_
    walk_at "w"
    refine Ek ht (r:=1000 * q.length) (many:Int) (r8.mono (by omega)) (fun th S9 t0 t1 r9 k9=>?_) rfl (by omega) (by omega)
    obtain ⟨th,rfl⟩:=Int.eq_ofNat_of_zero_le t0
    have k89:=k8.trans k9
    have hW9:S9[S5.length]?=some (.lst (ws.map wdN)):=k89 _ _ hW hWs
    walk_at "w"
    refine ⟨_,_,hW9,FU (by rw [List.length_map];omega),?_⟩
    walk_at "w"
    refine ⟨ws++[(HF off ws.length,s,th)],_,_,?_,?_,?_,by rw [List.length_append];exact hwl,?_,?_,?_,rfl⟩
    ·rw [List.map_append]
     exact DA hW9
    ·rw [List.map_append,hnm,List.length_append]
     show _=(List.range (ws.length + 1)).map _
     rw [List.range_succ,List.map_append]
     rfl
    ·intro w hw
     rcases List.mem_append.mp hw with hw | hw
     ·exact hok w hw
     ·rw [List.mem_singleton.mp hw]
      exact ⟨⟨We,s2,Nat.le_trans s1 (by decide),Nat.le_trans s3 (by decide),by show th < many;omega⟩,s1,s3⟩
    ·rw [List.length_append]
     exact eq2
    ·exact r9.set hW
    ·intro i o hi hi2 e
     exact BP (k89 i o hi (kp i o hi hi2 e)) hi2
   ·rintro t ⟨ws,S',z,hWs,hnm,hok,hle,eq,rr,kp,rfl⟩
    have hwl:ws.length=m:=by
     have:=congrArg List.length eq
     rw [List.length_drop,CT,List.length_nil] at this
     omega
    have kq:∀i o,i≠n→S3[i]?=some o→S'[i]?=some o:=fun i o hi e=>kp i o hi (kk i o hi e).2 (kk i o hi e).1
    have hK9:=kq _ _ nK hK3
    walk_at "w"
    refine IW (k:=S.length) ?_
    walk_at "w"
    refine ⟨rfl,ds,hK9,?_⟩
    walk_at "w"
    refine ⟨ds,_,hK9,FU (by omega),?_⟩
    walk_at "w"
    have hg9:NGs S' ds gs fp:=hg3.gr fun k hk o e=>kq k o (fun z=>nf (z ▸ hk)) e
    have hWf:S5.length∉fp:=fun z=>(kk _ _ (fun h=>nf (h ▸ z)) (List.getElem?_eq_getElem (hg3.lt _ z))).2 rfl
    have hWK:S.length≠S5.length:=(kk _ _ nK hK3).2
    refine ⟨gs++[.st sd ws],_,fp++[S5.length],_,_,_,_,_,_,_,⟨DA hK9,?_,?_,?_⟩,by rw [List.length_append];show _ + 1 + _=_;omega,BP (kq _ _ n0 hτ3) (Ne.symm hK0),?_,rfl⟩
    ·refine (hg9.app (NGs.st (sd:=sd) hWs .nil)).gr fun k hk o e=>BP e fun z=>?_
     subst z
     rcases List.mem_append.mp hk with hk | hk
     ·exact hnK hk
     ·exact hWK (List.mem_singleton.mp hk)
    ·rw [←List.cons_append]
     exact IA hg.nd (by simp) fun k hk z=>by
      rw [List.mem_singleton.mp z] at hk
      rcases List.mem_cons.mp hk with e | e
      ·exact hWK e.symm
      ·exact hWf e
    ·intro x hx
     rcases List.mem_append.mp hx with hx | hx
     ·exact hg.all x hx
     ·rw [List.mem_singleton.mp hx]
      refine ⟨.st hsd (by omega) (by omega) ?_ fun w hw=>(hok w hw).1,?_⟩
      ·rw [hnm];exact QL (by omega)
      ·intro sd' ws' e w hw
       cases e
       exact (hok w hw).2
    ·intro z
     rcases List.mem_append.mp z with z | z
     ·exact hz z
     ·exact (kk _ _ n0 hτ3).2 (List.mem_singleton.mp z)
 ·rintro t ⟨gs,ds,fp,S1,z6,z7,z8,z9,z10,z11,hg,hlen,hτ1,hz,rfl⟩
  walk_at "w"
  exact ⟨S.length,gs,ds,fp,rfl,hτ1,hg,hlen,hz,by omega⟩
local macro_rules | `(tactic| walk_at "y1")=>`(tactic| first | walk_at "w1" | ((with_reducible refine' wIsiP ?wv ?_);(case wv=>exact rfl)))
local macro_rules | `(tactic| walk_at "y")=>`(tactic| repeat (walk_at "y1"))
inductive NLs (S:List Ob):List D→List Nat→Prop
 | nil:NLs S [] []
 | fin {ds:List D} {ls:List Nat}:NLs S ds ls→NLs S (.tup [.str (Str.ofString "end")] :: ds) ls
 | st {ds:List D} {ls:List Nat} {sd:Str} {k:Nat} {l:List D}:S[k]?=some (.lst l)→NLs S ds ls→NLs S (.tup [.str sd,.obj k] :: ds) (l.length :: ls)
def FO:List Gz→List Nat
 | []=>[]
 | .fin :: r=>FO r
 | .st _ ws :: r=>ws.length :: FO r
theorem Jr:∀gs:List Gz,(FO gs).length≤gs.length
 | []=>Nat.le_refl _
 | .fin :: r=>Nat.le_succ_of_le (Jr r)
 | .st _ ws :: r=>Nat.succ_le_succ (Jr r)
theorem NGs.nls {S:List Ob} {ds:List D} {gs:List Gz} {fp:List Nat} (h:NGs S ds gs fp):NLs S ds (FO gs):=by
 induction h with
 | nil=>exact .nil
 | fin _ ih=>exact .fin ih
 | @st _ _ _ _ _ ws e _ ih=>
   have:=NLs.st (sd:=‹Str›) e ih
   rw [List.length_map] at this
   exact this
def P9 (f:Fn):Prop:=∀(K:Nat) (ds:List D) (ls:List Nat) (S:List Ob),ls.length≤30→S[K]?=some (.lst ds)→NLs S ds ls→PureO S f [.obj K] (.lst (ls.map fun n:Nat=>.int (n:Int)))
theorem UB:P9 (fnOf 1 4 DG):=by
 intro K ds ls S hl e hn
 have hL:LIM=100000:=rfl
 refine AX rfl ?_
 unfold DG
 walk_at "y"
 refine Hb (Fq ?_)
 walk_at "y"
 refine El e ?_
 refine E4 (fun r t=>∃(l1 l2:List Nat) (z2 z3:Option Sl),ls=l1++l2∧NLs S r l2∧t=⟨[some (.val (.obj K)),some (.own (l1.map fun n:Nat=>.int (n:Int))),z2,z3],S⟩) (fun r t h=>?_) _ _ ⟨[],ls,_,_,rfl,hn,rfl⟩ ?_ ?_
 ·obtain ⟨_,_,_,_,_,_,rfl⟩:=h
  exact Cw e
 ·rintro d r t ⟨l1,l2,z2,z3,rfl,hu,rfl⟩
  cases hu with
  | fin hu=>
    walk_at "y"
    rw [FL]
    walk_at "y"
    refine W_forL_nil.mpr ?_
    exact ⟨l1,l2,_,_,rfl,hu,rfl⟩
  | @st _ ls sd k l e1 hu=>
    walk_at "y"
    rw [FL]
    walk_at "y"
    refine W_forL_cons.mpr ?_
    walk_at "y"
    refine IV e1 ?_
    walk_at "y"
    refine Bu (by rw [List.length_map,hL];rw [List.length_append] at hl;omega) ?_
    refine W_forL_nil.mpr ?_
    exact ⟨l1++[l.length],ls,_,_,by simp,hu,by rw [List.map_append];rfl⟩
 ·rintro t ⟨l1,l2,z2,z3,rfl,hu,rfl⟩
  cases hu with
  | nil=>
    walk_at "y"
    exact ⟨by simp,rfl⟩
theorem Ij {g:Gd} {l:List D} {S:List Ob} {tst:M Bool} {elt:M D} (hg:Gon g S):∀{z:Option Sl},(∀d∈l,W tst ⟨[some (.val d)],S⟩ fun b t'=>b=false∧t'=⟨[some (.val d)],S⟩)→
 W (compG g (Bv 0) tst elt l) ⟨[z],S⟩ fun xs t'=>xs=[]∧t'.S=S:=by
 induction l with
 | nil=>intro z _;exact Ey hg ⟨rfl,rfl⟩
 | cons a r ih=>
   intro z h
   refine Du hg ?_
   refine GD ((h a List.mem_cons_self).mono ?_)
   rintro b t' ⟨rfl,rfl⟩
   rw [if_neg Bool.false_ne_true]
   exact ih fun b hb=>h b (List.mem_cons_of_mem _ hb)
def Qc (f:Fn):Prop:=∀(K:Nat) (ds:List D) (gs:List Gz) (fp:List Nat) (S:List Ob),S[K]?=some (.lst ds)→NGs S ds gs fp→PureO S f [.obj K] (.bl true)
theorem UT:Qc (fnOf 1 3 Da):=by
 intro K ds gs fp S e hn
 have hL:LIM=100000:=rfl
 refine AX rfl ?_
 unfold Da
 walk_at "y"
 refine IU e rfl ?_
 walk_at "y"
 refine Hb (Fq ?_)
 walk_at "y"
 refine El e ?_
 refine E4 (fun r t=>∃(us:List Gz) (fq:List Nat) (z1 z2:Option Sl),NGs S r us fq∧t=⟨[some (.val (.obj K)),z1,z2],S⟩) (fun r t h=>?_) _ _ ⟨gs,fp,_,_,hn,rfl⟩ ?_ ?_
 ·obtain ⟨_,_,_,_,_,rfl⟩:=h
  exact Cw e
 ·rintro d r t ⟨us,fq,z1,z2,hu,rfl⟩
  cases hu with
  | fin hu=>
    walk_at "y"
    refine W_forL_nil.mpr ?_
    exact ⟨_,_,_,_,hu,rfl⟩
  | @st _ _ _ sd k ws e1 hu=>
    walk_at "y"
    refine W_forL_cons.mpr ?_
    walk_at "y"
    refine IU e1 rfl ?_
    walk_at "y"
    refine Gb (Fq ?_)
    walk_at "y"
    refine El e1 ?_
    refine (Ij (Cw e1) ?_).mono ?_
    ·intro d hd
     obtain ⟨w,_,rfl⟩:=List.mem_map.mp hd
     unfold wdN
     walk_at "y"
     exact ⟨rfl,rfl⟩
    rintro xs t' ⟨rfl,hS'⟩
    refine Bu (by simp) ?_
    walk_at "y"
    refine Gb (Fq ?_)
    walk_at "y"
    refine El (by rw [hS'];exact e1) ?_
    rw [hS']
    refine (Ij (Cw e1) ?_).mono ?_
    ·intro d hd
     obtain ⟨w,_,rfl⟩:=List.mem_map.mp hd
     unfold wdN
     walk_at "y"
     exact ⟨rfl,rfl⟩
    rintro xs t' ⟨rfl,hS'⟩
    refine Bu (by simp) ?_
    walk_at "y"
    refine W_forL_nil.mpr ?_
    rw [hS']
    exact ⟨_,_,_,_,hu,rfl⟩
 ·rintro t ⟨us,fq,z1,z2,hu,rfl⟩
  walk_at "y"
  exact ⟨rfl,rfl⟩
def RqZ (n:Nat) (d:D):Prop:=∀m,n≤m→eqN m d d=some true
theorem JK {n:Nat} {i:Int}:RqZ n (.int i):=fun m _=>by cases m <;> (show some (i == i)=some true;rw [beq_self_eq_true])
theorem Nr {n:Nat} {i:Str}:RqZ n (.str i):=fun m _=>by cases m <;> (show some (i == i)=some true;rw [beq_self_eq_true])
theorem Nq {n:Nat}:RqZ n .non:=fun m _=>by cases m <;> rfl
theorem TR {n:Nat} {xs:List D} (h:∀x∈xs,RqZ n x):RqZ (n + 1) (.tup xs):=fun m hm=>by
 obtain ⟨k,rfl⟩:∃k,m=k + 1:=⟨m - 1,by omega⟩
 have e:CD (eqN k) xs xs=some true:=GR fun x hx=>h x hx k (by omega)
 rw [eqN,e]
 simp
theorem Np {n:Nat} {xs:List D} (h:∀x∈xs,RqZ n x):RqZ (n + 1) (.lst xs):=fun m hm=>by
 obtain ⟨k,rfl⟩:∃k,m=k + 1:=⟨m - 1,by omega⟩
 rw [eqN,if_pos rfl]
 exact GR fun x hx=>h x hx k (by omega)
theorem NI {p:D→Prop} {a:D} (h:p a):∀x∈[a],p x:=fun x hx=>by rw [List.mem_singleton.mp hx];exact h
theorem KD {p:D→Prop} {a b:D} (h:p a) (h2:p b):∀x∈[a,b],p x:=fun x hx=>(List.mem_cons.mp hx).elim (fun e=>by rw [e];exact h) (NI h2 x)
theorem KF {p:D→Prop} {a b c:D} (h:p a) (h2:p b) (h3:p c):∀x∈[a,b,c],p x:=fun x hx=>(List.mem_cons.mp hx).elim (fun e=>by rw [e];exact h) (KD h2 h3 x)
def nvZ:Nat→D→Bool
 | _,.non=>true
 | _,.int _=>true
 | _,.str _=>true
 | n + 1,.lst xs=>xs.all (nvZ n)
 | n + 1,.tup xs=>xs.all (nvZ n)
 | _,_=>false
theorem DJ {n:Nat} {x:Str}:nvZ n (.str x)=true:=by cases n <;> rfl
theorem F5 {n:Nat} {x:Int}:nvZ n (.int x)=true:=by cases n <;> rfl
theorem C6 {n:Nat} {xs:List D} (h:∀x∈xs,nvZ n x=true):nvZ (n + 1) (.tup xs)=true:=by rw [nvZ,List.all_eq_true];exact h
theorem Ju {n:Nat} {xs:List D} (h:∀x∈xs,nvZ n x=true):nvZ (n + 1) (.lst xs)=true:=by rw [nvZ,List.all_eq_true];exact h
theorem HI:∀(n:Nat) (v:D),nvZ n v=true→nvZ (n + 1) v=true
 | 0,v,h=>by cases v <;> first | rfl | (simp [nvZ] at h;done)
 | n + 1,v,h=>by
   cases v <;> first | rfl | (simp [nvZ] at h;done) | skip
   ·rw [nvZ,List.all_eq_true] at h
    exact C6 fun d hd=>HI n d (h d hd)
   ·rw [nvZ,List.all_eq_true] at h
    exact Ju fun d hd=>HI n d (h d hd)
theorem Nf {n:Nat} {v:D} (h:nvZ n v=true):∀m,nvZ (n + m) v=true
 | 0=>h
 | m + 1=>HI _ _ (Nf h m)
theorem L1:∀{xs:List D},(∀x∈xs,B3 x=true)→Gv xs=true
 | [],_=>rfl
 | x :: r,h=>by rw [Gv,h x List.mem_cons_self,L1 fun y m=>h y (List.mem_cons_of_mem _ m)];rfl
theorem LZ:∀(n:Nat) (v:D),nvZ n v=true→B3 v=true
 | 0,v,h=>by cases v <;> first | rfl | (simp [nvZ] at h;done)
 | n + 1,v,h=>by
   cases v <;> first | rfl | (simp [nvZ] at h;done) | skip
   all_goals
    rw [nvZ,List.all_eq_true] at h
    rw [B3]
    exact L1 fun x hx=>LZ n x (h x hx)
theorem L8:∀(n:Nat) (v:D),nvZ n v=true→RqZ n v
 | 0,v,h=>by cases v <;> first | exact Nq | exact JK | exact Nr | (simp [nvZ] at h;done)
 | n + 1,v,h=>by
   cases v <;> first | exact Nq | exact JK | exact Nr | (simp [nvZ] at h;done) | skip
   ·rw [nvZ,List.all_eq_true] at h
    exact TR fun x hx=>L8 n x (h x hx)
   ·rw [nvZ,List.all_eq_true] at h
    exact Np fun x hx=>L8 n x (h x hx)
theorem JH {S:List Ob}:∀(n:Nat) (v:D),nvZ n v=true→B9 S n v=v
 | 0,v,h=>by cases v <;> first | rfl | (simp [nvZ] at h;done)
 | n + 1,v,h=>by
   cases v <;> first | rfl | (simp [nvZ] at h;done) | skip
   all_goals
    rw [nvZ,List.all_eq_true] at h
    rw [B9]
    congr 1
    rw [List.map_congr_left fun x hx=>JH n x (h x hx),List.map_id']
theorem Op {g:Bool→Bool} {x y d:D} {t:T} {P:D→T→Prop} (hx:B9 t.S 16 x=d) (hy:B9 t.S 16 y=d) (hn:nvZ 16 d=true) (h:P (.bl (g true)) t):W (eqO g x y) t P:=
 ⟨_,_,by unfold eqO;rw [hx,hy,LZ 16 d hn,L8 16 d hn EQD (by decide)];rfl,h⟩
theorem N8 {n m:Nat} {v:D} (h:nvZ n v=true) (e:n≤m):nvZ m v=true:=by
 obtain ⟨k,rfl⟩:∃k,m=n + k:=⟨m - n,by omega⟩
 exact Nf h k
theorem IB:∀(n:Nat) (s:Sh),s.depth≤n→nvZ (2 * n) s.d=true
 | 0,s,h=>absurd s.depth_pos (by omega)
 | n + 1,s,h=>by
   have e:2 * (n + 1)=2 * n + 1 + 1:=by omega
   rw [e]
   cases s with
   | nothing=>rw [Sh.d];exact C6 (NI (p:=fun d=>nvZ _ d=true) DJ)
   | number lo hi=>rw [Sh.d];exact C6 (KF (p:=fun d=>nvZ _ d=true) DJ F5 F5)
   | text q=>rw [Sh.d];exact C6 (KD (p:=fun d=>nvZ _ d=true) DJ F5)
   | list s q=>rw [Sh.depth] at h;rw [Sh.d];exact C6 (KF (p:=fun d=>nvZ _ d=true) DJ (N8 (IB n s (by omega)) (by omega)) F5)
   | pair s r=>rw [Sh.depth] at h;rw [Sh.d];exact C6 (KF (p:=fun d=>nvZ _ d=true) DJ (N8 (IB n s (by omega)) (by omega)) (N8 (IB n r (by omega)) (by omega)))
   | choice ss=>
     rw [Sh.d,Ev]
     refine C6 (KD (p:=fun d=>nvZ _ d=true) DJ (C6 fun x hx=>?_))
     obtain ⟨s,hs,rfl⟩:=List.mem_map.mp hx
     refine IB n s ?_
     have:=FG hs
     rw [Sh.depth] at h
     omega
theorem RV {n:Nat} {w:Wd} (h:WdOk n w):nvZ 13 (wdN w)=true:=C6 (KF (p:=fun d=>nvZ _ d=true) DJ (IB 6 _ h.dep) F5)
theorem Wg {n:Nat} {x:Gz} (h:GzOk n x):nvZ 15 x.d=true:=by
 cases h with
 | fin=>exact C6 (NI (p:=fun d=>nvZ _ d=true) DJ)
 | st _ _ _ _ h4=>
   refine C6 (KD (p:=fun d=>nvZ _ d=true) DJ (Ju fun x hx=>?_))
   obtain ⟨w,hw,rfl⟩:=List.mem_map.mp hx
   exact RV (h4 w hw)
theorem KM {gs:List Gz} (h:GkOk gs):nvZ 16 (.lst (gs.map Gz.d))=true:=by
 refine Ju fun x hx=>?_
 obtain ⟨w,hw,rfl⟩:=List.mem_map.mp hx
 exact Wg (h.all w hw)
theorem VB {n:Nat} {S:List Ob} {ds:List D} {gs:List Gz} {fp:List Nat} (h:NGs S ds gs fp) (ok:∀x∈gs,GzOk n x):ds.map (B9 S 15)=gs.map Gz.d:=by
 induction h with
 | nil=>rfl
 | fin _ ih=>
   rw [List.map_cons,List.map_cons,ih fun x hx=>ok x (List.mem_cons_of_mem _ hx)]
   rfl
 | @st ds gs fp sd k ws e _ ih=>
   rw [List.map_cons,List.map_cons,ih fun x hx=>ok x (List.mem_cons_of_mem _ hx)]
   have e2:(ws.map wdN).map (B9 S 13)=ws.map wdN:=by
    rw [List.map_congr_left (g:=id) fun x hx=>?_,List.map_id]
    obtain ⟨w,hw,rfl⟩:=List.mem_map.mp hx
    cases ok _ List.mem_cons_self with
    | st _ _ _ _ h4=>exact JH 13 _ (RV (h4 w hw))
   have e3:B9 S 15 (.tup [.str sd,.obj k])=Gz.d (.st sd ws):=by
    show D.tup [.str sd,B9 S 14 (.obj k)]=_
    rw [B9,e]
    show D.tup [.str sd,.lst ((ws.map wdN).map (B9 S 13))]=_
    rw [e2]
    rfl
   rw [e3]
theorem G8 {S:List Ob} {K:Nat} {ds:List D} {gs:List Gz} {fp:List Nat} (e:S[K]?=some (.lst ds)) (h:NGs S ds gs fp) (ok:GkOk gs):B9 S 16 (.obj K) = .lst (gs.map Gz.d):=by
 rw [B9,e]
 show D.lst (ds.map (B9 S 15))=_
 rw [VB h ok.all]
theorem LI {S:List Ob} {ds:List D} {gs:List Gz} {fp:List Nat} (h:NGs S ds gs fp):∀i,i < gs.length→
 (ds[i]?=some (.tup [.str (Str.ofString "end")])∧gs[i]?=some .fin∧NGs S [.tup [.str (Str.ofString "end")]] [.fin] [])∨∃sd k ws,ds[i]?=some (.tup [.str sd,.obj k])∧gs[i]?=some (.st sd ws)∧k∈fp∧S[k]?=some (.lst (ws.map wdN))∧(fp.Nodup→∀ws',NGs (S.set k (.lst (ws'.map wdN))) ds (gs.set i (.st sd ws')) fp):=by
 induction h with
 | nil=>exact fun i hi=>absurd hi (Nat.not_lt_zero _)
 | fin h ih=>
   intro i hi
   cases i with
   | zero=>exact .inl ⟨rfl,rfl,.fin .nil⟩
   | succ i=>
     rcases ih i (Nat.lt_of_succ_lt_succ hi) with ⟨h1,h2,h3⟩ | ⟨sd,k,ws,h1,h2,h3,h4,h5⟩
     ·exact .inl ⟨h1,h2,h3⟩
     ·exact .inr ⟨sd,k,ws,h1,h2,h3,h4,fun nd ws'=>.fin (h5 nd ws')⟩
 | @st ds gs fp sd k ws e h ih=>
   intro i hi
   cases i with
   | zero=>exact .inr ⟨sd,k,ws,rfl,rfl,List.mem_cons_self,e,fun nd ws'=>.st (DA e) (h.gr fun j hj o ej=>BP ej fun z=>(List.nodup_cons.mp nd).1 (z ▸ hj))⟩
   | succ i=>
     rcases ih i (Nat.lt_of_succ_lt_succ hi) with ⟨h1,h2,h3⟩ | ⟨sd',k',ws',h1,h2,h3,h4,h5⟩
     ·exact .inl ⟨h1,h2,h3⟩
     ·exact .inr ⟨sd',k',ws',h1,h2,List.mem_cons_of_mem _ h3,h4,fun nd v=>.st (BP e fun z=>(List.nodup_cons.mp nd).1 (z ▸ h3)) (h5 (List.nodup_cons.mp nd).2 v)⟩
theorem Td {S:List Ob} {ds:List D} {gs:List Gz} {fp fq:List Nat} {d:D} {x:Gz} (h:NGs S ds gs fp) (hx:NGs S [d] [x] fq):∀i,∃fp',NGs S (ds.set i d) (gs.set i x) fp'∧∀k∈fp',k∈fp∨k∈fq:=by
 induction h with
 | nil=>exact fun i=>⟨[],.nil,fun k z=>nomatch z⟩
 | @fin ds gs fp h ih=>
   intro i
   cases i with
   | zero=>exact ⟨fq++fp,hx.app h,fun k hk=>(List.mem_append.mp hk).elim .inr .inl⟩
   | succ i=>
     obtain ⟨fp',h1,h2⟩:=ih i
     exact ⟨fp',.fin h1,h2⟩
 | @st ds gs fp sd k ws e h ih=>
   intro i
   cases i with
   | zero=>exact ⟨fq++fp,hx.app h,fun k hk=>(List.mem_append.mp hk).elim .inr fun z=>.inl (List.mem_cons_of_mem _ z)⟩
   | succ i=>
     obtain ⟨fp',h1,h2⟩:=ih i
     refine ⟨k :: fp',.st e h1,fun j hj=>?_⟩
     rcases List.mem_cons.mp hj with rfl | hj
     ·exact .inl List.mem_cons_self
     ·exact (h2 j hj).imp (List.mem_cons_of_mem _) id
local macro_rules | `(tactic| walk_at "y1")=>`(tactic| first | walk_at "w1" | ((with_reducible refine' wIsiP ?wv ?_);(case wv=>exact rfl)))
local macro_rules | `(tactic| walk_at "y")=>`(tactic| repeat (walk_at "y1"))
theorem WM {k:Nat} {ds:List D} {t:T} {Q:List D→T→Prop} (e:t.S[k]?=some (.lst ds)) (h:Q ds t):W (FQ [.obj k]) t Q:=⟨_,_,by simp only [FQ,e],h⟩
theorem J4 {n:Nat} {g:Gd} {S:List Ob} {f:Gz→D} {elt:M D} (hg:Gon g S) (he:∀(d:D) (x:Gz),GzOk n x→NSt S d x→W elt ⟨[some (.val d)],S⟩ fun v t'=>v=f x∧t'=⟨[some (.val d)],S⟩):∀{ds:List D} {gs:List Gz} {fp:List Nat} {z:Option Sl},NGs S ds gs fp→(∀x∈gs,GzOk n x)→W (compG g (Bv 0) Cy elt ds) ⟨[z],S⟩ fun xs t'=>xs=gs.map f∧t'.S=S:=by
 intro ds gs fp z h ok
 induction h generalizing z with
 | nil=>exact Ey hg ⟨rfl,rfl⟩
 | @fin ds gs fp h ih=>
   refine Du hg (GD (GF ?_))
   rw [if_pos rfl]
   refine (he _ .fin .fin .fin).mono ?_
   rintro v t' ⟨rfl,rfl⟩
   refine (ih fun x hx=>ok x (List.mem_cons_of_mem _ hx)).mono ?_
   rintro xs t' ⟨rfl,e⟩
   exact ⟨rfl,e⟩
 | @st ds gs fp sd k ws e h ih=>
   refine Du hg (GD (GF ?_))
   rw [if_pos rfl]
   refine (he _ (.st sd ws) (ok _ List.mem_cons_self) (.st e)).mono ?_
   rintro v t' ⟨rfl,rfl⟩
   refine (ih fun x hx=>ok x (List.mem_cons_of_mem _ hx)).mono ?_
   rintro xs t' ⟨rfl,e⟩
   exact ⟨rfl,e⟩
theorem O5 {n:Nat} {S:List Ob} {d:D} {x:Gz} (hx:GzOk n x) (h:NSt S d x):W (Aj (BB (Ac (Aj (Ad 0) (fC (.int 0)) ixD) Ah)) (fB (Ac (Bo (Cz 1 [] (CF (fSl (Ad 0) (BW (fC (.int 1))) fNo Ca)) (Bv 0) Cy (Bo (fBF (Ac (Ad 0) Ah) FQ)))) Ah) Ha) A7) ⟨[some (.val d)],S⟩ fun v t'=>v=x.d∧t'=⟨[some (.val d)],S⟩:=by
 have hL:LIM=100000:=rfl
 cases h with
 | fin=>
   walk_at "w"
   rw [FL]
   walk_at "w"
   refine (Cn (l:=([]:List D)) (ι:=id) (f:=id) (fr:=[]) (fun _ z=>nomatch z)).mono ?_
   rintro xs t' ⟨rfl,hS'⟩
   refine Bu (by simp) ?_
   walk_at "w"
   exact ⟨rfl,by rw [hS']⟩
 | @st sd k ws e=>
   walk_at "w"
   rw [FL]
   walk_at "w"
   refine (Cn (l:=[D.obj k]) (ι:=id) (f:=fun _=>.lst (ws.map wdN)) (fr:=[]) ?_).mono ?_
   ·intro d hd
    rw [List.mem_singleton.mp hd]
    walk_at "w"
    refine WM e ?_
    exact ⟨rfl,rfl⟩
   ·rintro xs t' ⟨rfl,hS'⟩
    refine Bu (by simp [hL]) ?_
    walk_at "w"
    exact ⟨rfl,by rw [hS']⟩
inductive NLf (S:List Ob):List D→List Nat→List Nat→Prop
 | nil:NLf S [] [] []
 | fin {ds:List D} {ls fp:List Nat}:NLf S ds ls fp→NLf S (.tup [.str (Str.ofString "end")] :: ds) ls fp
 | st {ds:List D} {ls fp:List Nat} {sd:Str} {k:Nat} {l:List D}:S[k]?=some (.lst l)→NLf S ds ls fp→NLf S (.tup [.str sd,.obj k] :: ds) (l.length :: ls) (k :: fp)
theorem NLf.nls {S:List Ob} {ds:List D} {ls fp:List Nat} (h:NLf S ds ls fp):NLs S ds ls:=by
 induction h with
 | nil=>exact .nil
 | fin _ ih=>exact .fin ih
 | st e _ ih=>exact .st e ih
def qW:D:=.tup [.str (Str.ofString "q"),.tup [.str (Str.ofString "nothing")],.int 0]
theorem Qm {E:List (Option Sl)} (hE:E.length=13) {g:Gd} {P:Out→T→Prop}:∀(ds:List D) (gs:List Gz) (fp:List Nat) (S:List Ob) (z13 z14:Option Sl),NGs S ds gs fp→fp.Nodup→(∀w∈FO gs,w≤9)→(∀S':List Ob,(∀(i:Nat) (o:Ob),i∉fp→S[i]?=some o→S'[i]?=some o)→Gon g S')→
 (∀(S':List Ob) (y13 y14:Option Sl),NLf S' ds ((FO gs).map (· + 1)) fp→(∀(i:Nat) (o:Ob),i∉fp→S[i]?=some o→S'[i]?=some o)→P .next ⟨E++[y13,y14],S'⟩)→
 W (forG g (Bv 13) (Dx (CF (fSl (Ad 13) (BW (fC (.int 1))) fNo Ca)) (Bv 14) (DU (objM Dm (Ad 14) (Ac (BB (Ac (fC (.str "q")) (Ac (BB (Ac (fC (.str "nothing")) Ah)) (Ac (fC (.int 0)) Ah)))) Ah)))) ds) ⟨E++[z13,z14],S⟩ P:=by
 obtain ⟨e0,e1,e2,e3,e4,e5,e6,e7,e8,e9,e10,e11,e12,rfl⟩:∃e0 e1 e2 e3 e4 e5 e6 e7 e8 e9 e10 e11 e12,E=[e0,e1,e2,e3,e4,e5,e6,e7,e8,e9,e10,e11,e12]:=by
  match E,hE with
  | [e0,e1,e2,e3,e4,e5,e6,e7,e8,e9,e10,e11,e12],_=>exact ⟨e0,e1,e2,e3,e4,e5,e6,e7,e8,e9,e10,e11,e12,rfl⟩
 intro ds
 induction ds with
 | nil=>
   intro gs fp S z13 z14 h nd h9 hg q
   cases h
   exact Ib (hg S fun _ _ _ e=>e) (q S z13 z14 .nil fun _ _ _ e=>e)
 | cons d ds ih=>
   intro gs fp S z13 z14 h nd h9 hg q
   refine My (hg S fun _ _ _ e=>e) ?_
   cases h with
   | fin h=>
     walk_at "w"
     rw [FL]
     walk_at "w"
     refine W_forL_nil.mpr ⟨rfl,?_⟩
     exact ih _ _ S _ _ h nd h9 hg fun S' y13 y14 h1 h2=>q S' y13 y14 (.fin h1) h2
   | @st _ gs fp sd k ws e h=>
     have hk:=(List.nodup_cons.mp nd).1
     have hw9:ws.length≤9:=h9 _ List.mem_cons_self
     walk_at "w"
     rw [FL]
     walk_at "w"
     refine W_forL_cons.mpr ?_
     walk_at "w"
     refine IW (k:=k) ?_
     walk_at "w"
     refine ⟨rfl,_,e,?_⟩
     walk_at "w"
     refine ⟨_,_,e,FU (by rw [List.length_map];omega),?_⟩
     walk_at "w"
     refine W_forL_nil.mpr ⟨rfl,?_⟩
     refine ih gs fp _ _ _ (h.gr fun j hj o ej=>BP ej fun z=>hk (z ▸ hj)) (List.nodup_cons.mp nd).2 (fun w hw=>h9 w (List.mem_cons_of_mem _ hw)) (fun S' hS'=>hg S' fun i o hi ei=>hS' i o (fun z=>hi (List.mem_cons_of_mem _ z)) (BP ei fun z=>hi (z ▸ List.mem_cons_self))) ?_
     intro S' y13 y14 h1 h2
     refine q S' y13 y14 ?_ fun i o hi ei=>h2 i o (fun z=>hi (List.mem_cons_of_mem _ z)) (BP ei fun z=>hi (z ▸ List.mem_cons_self))
     have e9:S'[k]?=some (.lst (ws.map wdN++[qW])):=h2 k _ hk (DA e)
     have:=NLf.st (sd:=sd) e9 h1
     rw [List.length_append,List.length_map] at this
     exact this
local macro_rules | `(tactic| walk_at "y1")=>`(tactic| first | walk_at "w1" | ((with_reducible refine' wIsiP ?wv ?_);(case wv=>exact rfl)))
local macro_rules | `(tactic| walk_at "y")=>`(tactic| repeat (walk_at "y1"))
theorem LD {n:Nat}:∀{gs:List Gz},(∀x∈gs,GzOk n x)→∀w∈FO gs,w≤9
 | [],_=>fun w z=>nomatch z
 | .fin :: r,h=>LD (gs:=r) fun x hx=>h x (List.mem_cons_of_mem _ hx)
 | .st sd ws :: r,h=>fun w hw=>by
   rcases List.mem_cons.mp hw with rfl | hw
   ·cases h _ List.mem_cons_self with
    | st _ _ h9 _ _=>exact h9
   ·exact LD (fun x hx=>h x (List.mem_cons_of_mem _ hx)) w hw
theorem UL {n:Nat} {sd:Str} {ws:List Wd} (h:GzOk n (.st sd ws)):∀w∈ws,WdOk n w:=by
 cases h with
 | st _ _ _ _ h4=>exact h4
theorem O4 {n i:Nat} {gs:List Gz} {x:Gz} (h:∀y∈gs,GzOk n y) (hx:GzOk n x):∀y∈gs.set i x,GzOk n y:=fun y hy=>(List.mem_or_eq_of_mem_set hy).elim (h y) fun e=>e ▸ hx
theorem UO {cr cs cc ck ch cp ct cg:Fn} {τ:Ob} (hr:RdG cr τ) (hs:ShG cs) (hc:P9 cc) (hk:Qc ck) (hh:Qi ch) (hp:∀τ,FT τ cp) (ht:∀τ,PTakeU τ ct) (hg:Qd cg τ) {ns:List Int} {S:List Ob} (h0:S[0]?=some τ):Wf (fnOf 1 15 (EK cr cs cc ck ch cp ct cg)) [.scr ns] S fun r S'=>r = .bl true:=by
 have hL:LIM=100000:=rfl
 refine AX rfl ?_
 unfold EK
 walk_at "w"
 refine LY hp 1 (by decide) (fun n1 S1 r1 hn1 k1=>?_) rfl
 have hl0:=DV h0
 have n10:(0:Nat)≠n1:=by
  have:S.length≤n1:=hn1
  omega
 walk_at "w"
 refine Ek ht (r:=800000) 30 (r1.mono (by omega)) fun i S2 i0 i1 r2 k2=>?_
 obtain ⟨many,em⟩:=Int.eq_ofNat_of_zero_le (Int.add_nonneg (by decide:(0:Int)≤1) i0)
 have hm1:1≤many:=by omega
 have hm30:many≤30:=by omega
 have hτ2:S2[0]?=some τ:=k2 _ _ n10 (k1 _ _ h0)
 walk_at "w"
 rw [em]
 refine (hg ns many S2 hm1 hm30 hτ2).mono ?_
 rintro v S3 ⟨K,gs,ds,fp,rfl,hτ3,hD,hlen,hz,hK0⟩
 walk_at "w"
 refine LY hp 0 (by decide) (fun n S4 r4 hn4 k4=>?_) rfl
 replace hn4:S3.length≤n:=hn4
 replace k4:∀(i:Nat) (o:Ob),S3[i]?=some o→S4[i]?=some o:=k4
 have nK:K≠n:=by have:=DV hD.list;omega
 have nf:n∉fp:=fun z=>absurd (hD.ngs.lt n z) (by omega)
 have n0:(0:Nat)≠n:=by have:=DV hτ3;omega
 walk_at "w"
 refine Mu (IM hm30) ?_
 refine Ez (fun q t=>∃(gs:List Gz) (j:Nat) (S':List Ob) (z4 z5 z6 z7 z8:Option Sl),q=(CG 0 many).drop j∧j≤many∧S'[0]?=some τ∧S'[K]?=some (.lst ds)∧NGs S' ds gs fp∧gs.length=many∧(∀x∈gs,GzOk many x)∧(∀(i:Nat) (x:Gz),j≤i→gs[i]?=some x→GzS many x)∧Room n (100 * q.length) S'∧t=⟨[some (.val (.scr ns)),some (.val (.int (many:Int))),some (.val (.obj K)),some (.val (.obj n)),z4,z5,z6,z7,z8,none,none,none,none,none,none],S'⟩) _ _ ⟨gs,0,S4,_,_,_,_,_,by rw [Int.toNat_natCast];rfl,Nat.zero_le _,k4 _ _ hτ3,k4 _ _ hD.list,hD.ngs.gr fun k _ o e=>k4 k o e,hlen,fun x hx=>(hD.all x hx).1,fun i x _ e=>hD.all x (List.mem_of_getElem? e),r4.mono (by rw [CT,Int.toNat_natCast];omega),rfl⟩ ?_ ?_
 ·rintro d q t ⟨gs,j,S',z4,z5,z6,z7,z8,eq,hj,hτ,hK,hN,hl,hok,hgs,rr,rfl⟩ _
  obtain ⟨rfl,eq2,hjm⟩:=R8 eq
  rw [List.length_cons] at rr
  have hi0:(0:Int) + (j:Int)=(j:Int):=by omega
  rw [hi0]
  rcases LI hN j (by omega) with ⟨h1,h2,_⟩ | ⟨sd,k,ws,h1,h2,h3,h4,h5⟩
  ·walk_at "w"
   refine JS hK (D4 h1) ?_
   walk_at "w"
   exact ⟨gs,j + 1,S',_,_,_,_,_,eq2,hjm,hτ,hK,hN,hl,hok,fun i x hi e=>hgs i x (by omega) e,rr.mono (by omega),rfl⟩
  ·walk_at "w"
   refine JS hK (D4 h1) ?_
   walk_at "w"
   refine Ek ht (r:=100 * q.length + 90) 8 (rr.mono (by omega)) fun i5 S5 a0 a1 r5 k5=>?_
   have hK5:=k5 _ _ nK hK
   have kn:k≠n:=fun z=>nf (z ▸ h3)
   have hk5:=k5 _ _ kn h4
   have hτ5:=k5 _ _ n0 hτ
   have hN5:NGs S5 ds gs fp:=hN.keep k5 nf
   walk_at "w"
   refine Cj (fun z=>?_) fun z=>?_
   ·have hx:=hgs j _ (Nat.le_refl _) h2
    cases ws with
    | nil=>cases hx.1 with
      | st _ w1 _ _ _=>exact absurd w1 (by simp)
    | cons w ws=>
    have hw:=hx.2 _ _ rfl w List.mem_cons_self
    walk_at "w"
    refine JS hK5 (D4 h1) ?_
    walk_at "w"
    refine JS hk5 (D4 (j:=0) rfl) ?_
    unfold wdN
    walk_at "w"
    refine Ez (fun q2 t=>∃(s:Sh) (S':List Ob) (z8:Option Sl),s.depth + q2.length≤6∧wf s=true∧cnt s + 2 * q2.length≤60∧Room n (100 * q.length + 10 * q2.length) S'∧KpU n S5 S'∧t=⟨[some (.val (.scr ns)),some (.val (.int (many:Int))),some (.val (.obj K)),some (.val (.obj n)),some (.val (.int (j:Int))),some (.val (.str w.1)),some (.val s.d),some (.val (.int (w.2.2:Int))),z8,none,none,none,none,none,none],S'⟩) _ _ ⟨w.2.1,S5,_,by rw [CT];show _ + 3≤_;omega,((UL hx.1) w List.mem_cons_self).ok,by rw [CT];show _ + 2 * 3≤_;omega,r5.mono (by rw [CT];show _ + 10 * 3≤_;omega),KpU.refl,rfl⟩ ?_ ?_
    ·rintro d q2 t ⟨s,S6,z8,s1,s2,s3,r6,k6,rfl⟩ _
     rw [List.length_cons] at s1 s3 r6
     walk_at "w"
     refine Ek ht (r:=100 * q.length + 10 * q2.length) 2 (r6.mono (by omega)) fun b S7 b0 b1 r7 k7=>?_
     obtain ⟨dd,ed,s',rfl,q1,q2',q3⟩:=HM (xs:=[D.tup [.str (Str.ofString "list"),s.d,.int 250],.tup [.str (Str.ofString "pair"),s.d,.tup [.str (Str.ofString "nothing")]]]) b0 (by simpa using b1) (p:=fun d=>∃s':Sh,d=s'.d∧s'.depth≤s.depth + 1∧wf s'=true∧cnt s'≤cnt s + 2) (by
      simp only [List.forall_mem_cons]
      have:=s.depth_pos
      exact ⟨⟨.list s 250,by rw [Sh.d],by rw [Sh.depth];exact Nat.le_refl _,by simp only [wf,s2,Bool.and_true,Bool.and_eq_true,decide_eq_true_eq];decide,by rw [cnt];omega⟩,⟨.pair s .nothing,by rw [Sh.d,Sh.d],by rw [Sh.depth,Sh.depth];omega,by simp only [wf,s2,Bool.and_self],by simp [cnt]⟩,fun _ z=>nomatch z⟩)
     refine FS ed ?_
     exact ⟨s',S7,_,by omega,q2',by omega,r7,k6.trans k7,rfl⟩
    ·rintro t ⟨s,S6,z8,s1,s2,s3,r6,k6,rfl⟩
     have hK6:=k6 _ _ nK hK5
     have hk6:=k6 _ _ kn hk5
     have hN6:NGs S6 ds gs fp:=hN5.keep k6 nf
     rcases LI hN6 j (by omega) with ⟨g1,_⟩ | ⟨sd',k',ws',g1,g2,g3,g4,g5⟩
     ·rw [h1] at g1;cases g1
     rw [h1] at g1
     cases g1
     rw [h2] at g2
     cases g2
     walk_at "w"
     refine JS hK6 (D4 h1) ?_
     walk_at "w"
     refine W_stOb.mpr ⟨_,hk6,0,by rw [M8 (by decide) (by simp)];rfl,?_⟩
     have hk0:(0:Nat)≠k:=fun z=>hz (z ▸ h3)
     have hKk:K≠k:=fun z=>(List.nodup_cons.mp hD.nd).1 (z ▸ h3)
     have hnew:GzOk many (.st sd ((w.1,s,w.2.2) :: ws)):=by
      cases hx.1 with
      | st e1 e2 e3 e4 e5=>
        refine .st e1 e2 e3 e4 fun u hu=>?_
        rcases List.mem_cons.mp hu with rfl | hu
        ·have:=e5 w List.mem_cons_self
         exact ⟨this.nm,s2,by show s.depth≤6;simpa using s1,by show cnt s≤60;simpa using s3,this.hi⟩
        ·exact e5 u (List.mem_cons_of_mem _ hu)
     refine ⟨gs.set j (.st sd ((w.1,s,w.2.2) :: ws)),j + 1,_,_,_,_,_,_,eq2,hjm,BP (k6 _ _ n0 hτ5) hk0,BP hK6 hKk,g5 (List.nodup_cons.mp hD.nd).2 _,by rw [List.length_set];exact hl,O4 hok hnew,fun i x hi e=>hgs i x (by omega) (by rw [List.getElem?_set_ne (by omega)] at e;exact e),r6.mono (by omega) |>.set kn,rfl⟩
   ·walk_at "w"
    exact ⟨gs,j + 1,S5,_,_,_,_,_,eq2,hjm,hτ5,hK5,hN5,hl,hok,fun i x hi e=>hgs i x (by omega) e,r5.mono (by omega),rfl⟩
 ·rintro t ⟨gs,j,S',z4,z5,z6,z7,z8,eq,hj,hτ,hK,hN,hl,hok,_,rr,rfl⟩
  refine Cq (Rr (F2.W.mono (P:=fun o t1=>o = .next∧∃(gs:List Gz) (ds:List D) (fp:List Nat) (S':List Ob),S'[0]?=some τ∧S'[K]?=some (.lst ds)∧NGs S' ds gs fp∧GkOk gs∧t1=⟨[some (.val (.scr ns)),some (.val (.int (many:Int))),some (.val (.obj K)),some (.val (.obj n)),z4,z5,z6,z7,z8,none,none,none,none,none,none],S'⟩) ?_ ?_))
  ·have hGk:GkOk gs:=⟨by omega,by omega,by rw [hl];exact hok⟩
   walk_at "w"
   refine Cj (fun z=>?_) fun z=>?_
   ·walk_at "w"
    refine LY hp 1 (by decide) (fun n6 S6 r6 hn6 k6=>?_) rfl
    replace hn6:S'.length≤n6:=hn6
    replace k6:∀(i:Nat) (o:Ob),S'[i]?=some o→S6[i]?=some o:=k6
    walk_at "w"
    refine Ek ht (r:=1) 62 (r6.mono (by omega)) fun i7 S7 a0 a1 r7 k7=>?_
    have kk:∀(i:Nat) (o:Ob),S'[i]?=some o→S7[i]?=some o:=fun i o e=>k7 i o (by have:=DV e;omega) (k6 i o e)
    have hK7:=kk _ _ hK
    have hτ7:=kk _ _ hτ
    have hN7:NGs S7 ds gs fp:=hN.gr fun k _ o e=>kk k o e
    walk_at "w"
    refine Cj (fun z2=>?_) fun z2=>?_
    ·have hKf:=(List.nodup_cons.mp hD.nd).1
     obtain ⟨d0,x0,fq,e1,e2,hx0,hq⟩:∃d0 x0 fq,ds[0]?=some d0∧gs[0]?=some x0∧NGs S7 [d0] [x0] fq∧∀k∈fq,k∈fp:=by
      rcases LI hN7 0 (by omega) with ⟨g1,g2,g3⟩ | ⟨sd,k,ws,g1,g2,g3,g4,_⟩
      ·exact ⟨_,_,[],g1,g2,g3,fun _ z=>nomatch z⟩
      ·exact ⟨_,_,[k],g1,g2,.st g4 .nil,fun i hi=>by rw [List.mem_singleton.mp hi];exact g3⟩
     obtain ⟨fp',hs1,hs2⟩:=Td hN7 hx0 (many - 1)
     have hKf':K∉fp':=fun z=>(hs2 K z).elim hKf fun z=>hKf (hq K z)
     walk_at "w"
     refine JS hK7 (D4 (j:=0) e1) ?_
     walk_at "w"
     have hdl:=hN.len
     refine W_stOb.mpr ⟨_,hK7,many - 1,by rw [M8 (by omega) (by omega)];congr 1;omega,?_⟩
     refine ⟨rfl,gs.set (many - 1) x0,_,fp',_,BP hτ7 (Ne.symm hK0),DA hK7,hs1.gr fun k hk o e=>BP e fun z=>hKf' (z ▸ hk),⟨?_,?_,?_⟩,rfl⟩
     ·rw [List.length_set];omega
     ·rw [List.length_set];omega
     ·rw [List.length_set,hl]
      exact O4 hok (hok x0 (List.mem_of_getElem? e2))
    ·walk_at "w"
     exact ⟨rfl,gs,ds,fp,S7,hτ7,hK7,hN7,hGk,rfl⟩
   ·walk_at "w"
    exact ⟨rfl,gs,ds,fp,S',hτ,hK,hN,hGk,rfl⟩
  clear hN hK hτ rr hok hl eq
  rintro o t1 ⟨rfl,gs,ds,fp,S5,hτ,hK,hN,hG,rfl⟩
  refine Cq ?_
  obtain ⟨q1,q2⟩:=M6 hG
  have hg30:=hG.le
  walk_at "w"
  refine EM ?_
  walk_at "w"
  refine Gb (Fq ?_)
  walk_at "w"
  refine El hK ?_
  refine (J4 (n:=gs.length) (f:=fun x=>.str (mkT (gzT x))) (Cw hK) (fun d x hx hd=>?_) hN hG.all).mono ?_
  ·walk_at "w"
   exact PureO.use (hh gs.length d x S5 hg30 hx hd) ⟨rfl,rfl⟩
  rintro xs t' ⟨rfl,hS'⟩
  refine Bu (by rw [List.length_map,hL];omega) ?_
  rw [hS']
  walk_at "w"
  refine ⟨_,_,gs.map fun x=>mkT (gzT x),rfl,rfl,DB _ _,⟨by decide +kernel,by omega⟩,?_⟩
  rw [q2]
  walk_at "w"
  refine Gb (Fq ?_)
  walk_at "w"
  refine El hK ?_
  refine (J4 (n:=gs.length) (f:=Gz.d) (Cw hK) (fun d x hx hd=>O5 hx hd) hN hG.all).mono ?_
  rintro xs t' ⟨rfl,hS'⟩
  refine Bu (by rw [List.length_map,hL];omega) ?_
  rw [hS']
  walk_at "w"
  refine (hs gs hG).use ?_
  walk_at "w"
  refine Bt (by simp) ?_
  walk_at "w"
  refine Op (JH 16 _ (KM hG)) (G8 hK hN hG) (KM hG) ?_
  walk_at "w"
  refine (hr gs S5 hG hτ).mono ?_
  rintro v S6 ⟨xx,K2,ds2,fp2,rfl,hK2,hN2,nd2,lo2⟩
  have hK6:=xx.get hK
  have hτ6:=xx.get hτ
  have hN6:NGs S6 ds gs fp:=hN.gr fun k _ o e=>xx.get e
  walk_at "w"
  refine Op (G8 hK2 hN2 hG) (G8 hK6 hN6 hG) (KM hG) ?_
  walk_at "w"
  refine PureO.use (hk K2 ds2 gs fp2 S6 hK2 hN2) ?_
  walk_at "w"
  refine Hb (Fq ?_)
  walk_at "w"
  refine El hK2 ?_
  have hK2f:=(List.nodup_cons.mp nd2).1
  refine Qm (E:=[some (.val (.scr ns)),some (.val (.int (many:Int))),some (.val (.obj K)),some (.val (.obj n)),z4,z5,z6,z7,z8,some (.val (.str (mkT (grT gs)))),some (.val (.lst (gs.map Gz.d))),some (.val (.str (mkT (grT gs)))),some (.val (.obj K2))]) rfl ds2 gs fp2 S6 none none hN2 (List.nodup_cons.mp nd2).2 (LD hG.all) (fun S' h=>Cw (h K2 _ hK2f hK2)) ?_
  intro S7 y13 y14 hL7 k7
  have hlo:∀(i:Nat) (o:Ob),S5[i]?=some o→S7[i]?=some o:=fun i o e=>k7 i o (fun z=>by have:=lo2 i (List.mem_cons_of_mem _ z);have:=DV e;omega) (xx.get e)
  have hK7:=hlo _ _ hK
  have hτ7:=hlo _ _ hτ
  have hN7:NGs S7 ds gs fp:=hN.gr fun k _ o e=>hlo k o e
  have hK27:S7[K2]?=some (.lst ds2):=k7 K2 _ hK2f hK2
  have hll:=Jr gs
  show Oj _ _ _ ⟨[some (.val (.scr ns)),some (.val (.int (many:Int))),some (.val (.obj K)),some (.val (.obj n)),z4,z5,z6,z7,z8,some (.val (.str (mkT (grT gs)))),some (.val (.lst (gs.map Gz.d))),some (.val (.str (mkT (grT gs)))),some (.val (.obj K2)),y13,y14],S7⟩
  walk_at "w"
  refine PureO.use (hc K2 ds2 _ S7 (by rw [List.length_map];omega) hK27 hL7.nls) ?_
  walk_at "w"
  refine PureO.use (hc K ds _ S7 (by omega) hK7 hN7.nls) ?_
  walk_at "w"
  refine (Cn (l:=FO gs) (ι:=fun n:Nat=>.int (n:Int)) (f:=fun n:Nat=>.int (1 + (n:Int))) (fr:=[]) ?_).mono ?_
  ·intro w _
   walk_at "w"
   exact ⟨rfl,rfl⟩
  rintro xs t' ⟨rfl,hS'⟩
  refine Bu (by rw [List.length_map,hL];omega) ?_
  have el:((FO gs).map (· + 1)).map (fun n:Nat=>D.int (n:Int))=(FO gs).map fun n:Nat=>D.int (1 + (n:Int)):=by
   rw [List.map_map]
   refine List.map_congr_left fun n _=>?_
   show D.int ((n + 1:Nat):Int)=_
   congr 1
   omega
  rw [el]
  refine Uf rfl (Np (n:=0) (fun x hx=>?_) EQD (by decide)) ?_
  ·obtain ⟨w,_,rfl⟩:=List.mem_map.mp hx
   exact JK
  rw [hS']
  walk_at "w"
  refine IW (k:=K2) ?_
  walk_at "w"
  refine ⟨rfl,ds2,hK27,?_⟩
  walk_at "w"
  have hd2:=hN2.len
  refine ⟨ds2,_,hK27,FU (by omega),?_⟩
  have hlo8:∀(i:Nat) (o:Ob),S5[i]?=some o→(S7.set K2 (.lst (ds2++[.tup [.str (Str.ofString "end")]])))[i]?=some o:=fun i o e=>BP (hlo i o e) (by have:=lo2 K2 List.mem_cons_self;have:=DV e;omega)
  walk_at "w"
  refine (hr gs _ hG (hlo8 _ _ hτ)).mono ?_
  rintro v S9 ⟨x9,K9,ds9,fp9,rfl,hK9,hN9,nd9,lo9⟩
  have hKz:=x9.get (hlo8 _ _ hK)
  have hNz:NGs S9 ds gs fp:=hN.gr fun k _ o e=>x9.get (hlo8 k o e)
  walk_at "w"
  refine Op (G8 hK9 hN9 hG) (G8 hKz hNz hG) (KM hG) ?_
  walk_at "w"
  refine (hs gs hG).use ?_
  walk_at "w"
  exact by simp
end LW
set_option maxHeartbeats 4000000
namespace K63
open PySem L2 F2 LW
inductive Fx where
 | Bl | Al | A9 | Bz | BG | Ba | Bw | Bk | BH | BF | BU | AR | Bp | AJ | Bi | Bq | Bb | AI | AT | Bc | Bm | A6 | AL | BD | BI | BO | AY | A4 | AD | BC | AF | Ag | Ax | Ay | AS | AB | A8 | AQ | law_
def top (i:Nat):Stmt:=PySem.Challenge.pw_wireparley_k63_grammars_written.main.body.getD i (.Pass ⟨0,0,0,0⟩)
abbrev nm:Fx→Str
 | .Bl=>"is_number"
 | .Al=>"is_number_within"
 | .A9=>"is_shape"
 | .Bz=>"parts_of"
 | .BG=>"is_span"
 | .Ba=>"is_grammar"
 | .Bw=>"is_state"
 | .Bk=>"are_words"
 | .BH=>"is_word"
 | .BF=>"is_name"
 | .BU=>"is_end"
 | .AR=>"show_shape"
 | .Bp=>"show_part"
 | .AJ=>"show_grammar"
 | .Bi=>"show_state"
 | .Bq=>"show_word"
 | .Bb=>"read_shape"
 | .AI=>"read_grammar"
 | .AT=>"check_text"
 | .Bc=>"state_read"
 | .Bm=>"word_read"
 | .A6=>"number_read"
 | .AL=>"shape_at"
 | .BD=>"shape_of"
 | .BI=>"part_at"
 | .BO=>"row_at"
 | .AY=>"number_at"
 | .A4=>"behind_sign"
 | .AD=>"behind_all"
 | .BC=>"_law_nth"
 | .AF=>"_law_pool"
 | .Ag=>"_law_take"
 | .Ax=>"_law_shape"
 | .Ay=>"_law_shown"
 | .AS=>"_law_grammar"
 | .AB=>"_law_state_shown"
 | .A8=>"_law_kinds"
 | .AQ=>"_law_counts"
 | .law_=>"law"
abbrev st:Fx→Stmt
 | .Bl=>top 9
 | .Al=>top 10
 | .A9=>top 11
 | .Bz=>top 12
 | .BG=>top 13
 | .Ba=>top 18
 | .Bw=>top 19
 | .Bk=>top 20
 | .BH=>top 21
 | .BF=>top 22
 | .BU=>top 23
 | .AR=>top 28
 | .Bp=>top 29
 | .AJ=>top 30
 | .Bi=>top 31
 | .Bq=>top 32
 | .Bb=>top 33
 | .AI=>top 34
 | .AT=>top 35
 | .Bc=>top 36
 | .Bm=>top 37
 | .A6=>top 38
 | .AL=>top 39
 | .BD=>top 40
 | .BI=>top 41
 | .BO=>top 42
 | .AY=>top 43
 | .A4=>top 44
 | .AD=>top 45
 | .BC=>top 47
 | .AF=>top 48
 | .Ag=>top 49
 | .Ax=>top 50
 | .Ay=>top 51
 | .AS=>top 52
 | .AB=>top 53
 | .A8=>top 54
 | .AQ=>top 55
 | .law_=>top 56
abbrev ps:Fx→List Str
 | .Bl=>["thing"]
 | .Al=>["thing", "low", "high"]
 | .A9=>["thing"]
 | .Bz=>["thing"]
 | .BG=>["low", "high"]
 | .Ba=>["thing"]
 | .Bw=>["thing", "states"]
 | .Bk=>["thing", "states"]
 | .BH=>["thing", "states"]
 | .BF=>["thing"]
 | .BU=>["state"]
 | .AR=>["s"]
 | .Bp=>["part"]
 | .AJ=>["g"]
 | .Bi=>["state"]
 | .Bq=>["word"]
 | .Bb=>["text"]
 | .AI=>["text"]
 | .AT=>["thing"]
 | .Bc=>["row"]
 | .Bm=>["row"]
 | .A6=>["row"]
 | .AL=>["text", "at", "depth"]
 | .BD=>["kind", "parts"]
 | .BI=>["text", "at", "depth"]
 | .BO=>["text", "at", "closing", "thing_at"]
 | .AY=>["text", "at"]
 | .A4=>["text", "at", "sign"]
 | .AD=>["text", "at", "signs"]
 | .BC=>["script", "k"]
 | .AF=>["script", "k"]
 | .Ag=>["pool", "many"]
 | .Ax=>["pool", "deep"]
 | .Ay=>["s"]
 | .AS=>["script", "first", "many", "deep"]
 | .AB=>["state"]
 | .A8=>["g"]
 | .AQ=>["g"]
 | .law_=>["script"]
abbrev ns:Fx→List Str
 | .Bl=>["thing"]
 | .Al=>["thing", "low", "high"]
 | .A9=>["thing", "level", "shapes", "depth", "below", "part", "parts"]
 | .Bz=>["thing", "form"]
 | .BG=>["low", "high"]
 | .Ba=>["thing", "state"]
 | .Bw=>["thing", "states"]
 | .Bk=>["thing", "states", "word"]
 | .BH=>["thing", "states"]
 | .BF=>["thing", "sign"]
 | .BU=>["state"]
 | .AR=>["s", "parts"]
 | .Bp=>["part"]
 | .AJ=>["g"]
 | .Bi=>["state"]
 | .Bq=>["word"]
 | .Bb=>["text", "read"]
 | .AI=>["text", "g"]
 | .AT=>["thing"]
 | .Bc=>["row", "parts"]
 | .Bm=>["row", "named", "led"]
 | .A6=>["row", "read"]
 | .AL=>["text", "at", "depth", "place", "kind", "read"]
 | .BD=>["kind", "parts"]
 | .BI=>["text", "at", "depth", "begins_word"]
 | .BO=>["text", "at", "closing", "thing_at", "read", "things"]
 | .AY=>["text", "at", "first", "place", "number"]
 | .A4=>["text", "at", "sign"]
 | .AD=>["text", "at", "signs", "place"]
 | .BC=>["script", "k", "cell"]
 | .AF=>["script", "k", "cell"]
 | .Ag=>["pool", "many", "rest"]
 | .Ax=>["pool", "deep", "kind", "low", "many"]
 | .Ay=>["s", "kind"]
 | .AS=>["script", "first", "many", "deep", "some", "found", "k", "pool", "side", "off", "words", "j"]
 | .AB=>["state", "words"]
 | .A8=>["g", "state", "word"]
 | .AQ=>["g", "found", "state", "words"]
 | .law_=>["script", "many", "g", "deep", "k", "name", "s", "then", "j", "text", "handed", "told", "found", "state", "words"]
abbrev Pt:Nat:=183
abbrev cc:Nat:=187
def lamD:LamD:=Wb "shape_at.<locals>.<lambda>" ["text", "depth"] (Sw 3 (stE ((Dj (st .AL)).getD 4 (.Pass ⟨0,0,0,0⟩))))
theorem SK:Str.ofString "text"∈Ep:=by decide +kernel
theorem Qz:Str.ofString "depth"∈Ep:=by decide +kernel
theorem Xo:LamOk lamD "start":=⟨rfl,rfl,rfl,rfl,by decide +kernel,fun y h=>(by decide +kernel:∀p∈lamD.scope.names,p.2 = .free→p.1∈lamD.names) _ (PySem.mem_of_lookup h) rfl,by decide +kernel,by decide +kernel,by decide +kernel⟩
theorem UU {K:PySem.W.Frag} (c':Addr) (pm ctv:Value) (cs:List Addr):Binds K (PySem.W.kla_fn "<lambda>" lamD.qual lamD.params lamD.body lamD.scope (lamD.names.zip cs) pm (.ref c') ctv) ["start"] []:=.all fun us hl=>by
 rcases us with _ | ⟨u,us⟩
 ·cases hl
 ·cases us with
  | nil=>rfl
  | cons _ _=>cases hl
def body (Φ:Fx→Fn) (ΦL:List D→Fn):Fx→Fn
 | .Bl=>fnOf 1 1 (EC)
 | .Al=>fnOf 3 3 (CP (Φ .Bl))
 | .A9=>fnOf 1 7 (EV (Φ .Bz))
 | .Bz=>fnOf 1 2 (EX (Φ .Al) (Φ .BG))
 | .BG=>fnOf 2 2 (FB (Φ .Al))
 | .Ba=>fnOf 1 2 (Dr (Φ .Bw))
 | .Bw=>fnOf 2 2 (EW (Φ .Bk))
 | .Bk=>fnOf 2 3 (DF (Φ .BH))
 | .BH=>fnOf 2 2 (FC (Φ .BF) (Φ .A9) (Φ .Al))
 | .BF=>fnOf 1 2 (FA)
 | .BU=>fnOf 1 1 (D3)
 | .AR=>fnOf 1 2 (Eg (Φ .Bp))
 | .Bp=>fnOf 1 1 (EE (Φ .AR))
 | .AJ=>fnOf 1 1 (DI (Φ .Bi))
 | .Bi=>fnOf 1 1 (Eh (Φ .Bq) (Φ .BU))
 | .Bq=>fnOf 1 1 (EF (Φ .AR))
 | .Bb=>fnOf 1 2 (Ef (Φ .A9) (Φ .AL) (Φ .AT))
 | .AI=>fnOf 1 2 (DH (Φ .Ba) (Φ .Bc) (Φ .AT))
 | .AT=>fnOf 1 1 (Ee)
 | .Bc=>fnOf 1 2 (Ei (Φ .Bm))
 | .Bm=>fnOf 1 3 (EG (Φ .A6) (Φ .Bb))
 | .A6=>fnOf 1 2 (DY (Φ .AY))
 | .AL=>fnOf 3 6 (EY lamD Pt 146 40 (Φ .BD) (Φ .BO) (Φ .AD))
 | .BD=>fnOf 2 2 (EZ)
 | .BI=>fnOf 3 4 (FD (Φ .AL) (Φ .AY) (Φ .AD))
 | .BO=>fnOf 4 6 (Go lamD ΦL (Φ .A4))
 | .AY=>fnOf 2 5 (ED (Φ .AD))
 | .A4=>fnOf 3 3 (DW)
 | .AD=>fnOf 3 4 (Ed)
 | .BC=>fnOf 2 3 (EB)
 | .AF=>fnOf 2 3 (Dp (Φ .BC))
 | .Ag=>fnOf 2 3 (Dq)
 | .Ax=>fnOf 2 5 (Db (Φ .Ax) (Φ .Ag))
 | .Ay=>fnOf 1 2 (DX (Φ .Ay))
 | .AS=>fnOf 4 12 (CO (Φ .Ag) (Φ .Ax) (Φ .AF))
 | .AB=>fnOf 1 2 (CA (Φ .Ay))
 | .A8=>fnOf 1 3 (Da)
 | .AQ=>fnOf 1 4 (DG)
 | .law_=>fnOf 1 15 (EK (Φ .AI) (Φ .AJ) (Φ .AQ) (Φ .A8) (Φ .AB) (Φ .AF) (Φ .Ag) (Φ .AS))
def L9:Nat→(Fx→Fn)×(List D→Fn)
 | 0=>(fun _ _ _=>none,fun _ _ _=>none)
 | n + 1=>(body (L9 n).1 (L9 n).2,HE 3 (Iy ((L9 n).1 .BI)))
def run (n:Nat):Fx→Fn:=(L9 n).1
def Jp (n:Nat):List D→Fn:=(L9 n).2
theorem Pg:∀(n:Nat) {caps ds:List D} {S:List Ob} {z:D×List Ob},Jp n caps ds S=some z→ds.length=1
 | 0,_,_,_,_,e=>nomatch e
 | _ + 1,_,_,_,_,e=>QA e
structure Md (K:PySem.W.Frag) (mg:Str→Option Value) (A:Fx→Addr) (fd:Fx→FuncData):Prop where
 fn:∀x,Fun K (nm x) (nm x) (st x) (A x) (fd x)
 mgs:∀x,mg (nm x)=some (.ref (A x))
 bd:∀x,Binds K (fd x) (ps x) []
 z_bool:mg "bool" = none
 z_int:mg "int" = none
 z_isinstance:mg "isinstance" = none
 z_len:mg "len" = none
 z_list:mg "list" = none
 z_range:mg "range" = none
 z_set:mg "set" = none
 z_str:mg "str" = none
 z_tuple:mg "tuple" = none
 g_FIGURES:∃tk,mg "FIGURES" = some (.str "0123456789" tk)
 g_LETTERS:∃tk,mg "LETTERS" = some (.str "abcdefghijklmnopqrstuvwxyz" tk)
 g_MOST_CHOICES:∃tk,mg "MOST_CHOICES" = some (.int 9 tk)
 g_MOST_DEPTH:∃tk,mg "MOST_DEPTH" = some (.int 6 tk)
 g_MOST_FIGURES:∃tk,mg "MOST_FIGURES" = some (.int 18 tk)
 g_MOST_LENGTH:∃tk,mg "MOST_LENGTH" = some (.int 250 tk)
 g_MOST_LETTERS:∃tk,mg "MOST_LETTERS" = some (.int 8 tk)
 g_MOST_NUMBER:∃tk,mg "MOST_NUMBER" = some (.int 999999999999999999 tk)
 g_MOST_SHAPES:∃tk,mg "MOST_SHAPES" = some (.int 60 tk)
 g_MOST_STATES:∃tk,mg "MOST_STATES" = some (.int 30 tk)
 g_MOST_WORDS:∃tk,mg "MOST_WORDS" = some (.int 9 tk)
 cd:(fd .AL).code = .ref cc
section
variable {P:Program} {w:World} {K:PySem.W.Frag} {mg:Str→Option Value} {base:Heap} {A:Fx→Addr} {fd:Fx→FuncData} {n:Nat}
theorem Kv:FnScope (ns .Bl) (ps .Bl) (Aw (st .Bl)):=⟨rfl,rfl,rfl,by decide +kernel,rfl,by decide +kernel,by decide +kernel⟩
theorem Kq (M:Md K mg A fd) (ih:∀x,FnOk P w K mg base CX0 n (A x) (fd x) (ps x) (spF K (run n x))):FnOk P w K mg base CX0 (n + 1) (A .Bl) (fd .Bl) (ps .Bl) (spF K (run (n + 1) .Bl)):=by
 refine Be (g:=fnOf 1 1 (EC)) rfl (Bg rfl rfl (M.fn .Bl) Kv (fun cdv A' outer s H E hr=>?_))
 refine @Ak _ _ _ _ ?_
 refine @Aq _ _ _ _ ?_
 refine @Ff _ _ _ _ _ _ _ ?_ ?_
 refine @Br _ _ _ _ _ _ _ _ _ _ BL B2 rfl M.z_isinstance A0 ?_ (by decide) (by decide) (by rfl) (by rfl)
 refine @Aa _ _ _ _ _ ?_ ?_ rfl
 exact (Ab 0)
 refine @Aa _ _ _ _ _ ?_ Ae rfl
 exact (Cc rfl M.z_int K6)
 refine @FY _ _ _ _ _ ?_
 refine @UF _ _ _ _ ?_
 refine @Br _ _ _ _ _ _ _ _ _ _ BL B2 rfl M.z_isinstance A0 ?_ (by decide) (by decide) (by rfl) (by rfl)
 refine @Aa _ _ _ _ _ ?_ ?_ rfl
 exact (Ab 0)
 refine @Aa _ _ _ _ _ ?_ Ae rfl
 exact (Cc rfl M.z_bool MY)
theorem Gx:FnScope (ns .Al) (ps .Al) (Aw (st .Al)):=⟨rfl,rfl,rfl,by decide +kernel,rfl,by decide +kernel,by decide +kernel⟩
theorem Gr (M:Md K mg A fd) (ih:∀x,FnOk P w K mg base CX0 n (A x) (fd x) (ps x) (spF K (run n x))):FnOk P w K mg base CX0 (n + 1) (A .Al) (fd .Al) (ps .Al) (spF K (run (n + 1) .Al)):=by
 refine Be (g:=fnOf 3 3 (CP (run n .Bl))) rfl (Bg rfl rfl (M.fn .Al) Gx (fun cdv A' outer s H E hr=>?_))
 refine @Ak _ _ _ _ ?_
 refine @Aq _ _ _ _ ?_
 refine @Ff _ _ _ _ _ _ _ ?_ ?_
 refine @An _ _ _ _ _ _ _ _ _ _ _ _ (ih .Bl) hr rfl (M.mgs .Bl) (Fun.kp (M.fn .Bl)) (M.bd .Bl) ?_ (by decide) (by rfl) (by rfl)
 refine @Aa _ _ _ _ _ ?_ Ae rfl
 exact (Ab 0)
 refine @FY _ _ _ _ _ ?_
 refine Qw CQ CQ Ch Ch ?_ ?_ ?_
 exact (Ab 1)
 exact (Ab 0)
 exact (Ab 2)
theorem sc_is_shape_:FnScope (ns .A9) (ps .A9) (Aw (st .A9)):=⟨rfl,rfl,rfl,by decide +kernel,rfl,by decide +kernel,by decide +kernel⟩
theorem LL (M:Md K mg A fd) (ih:∀x,FnOk P w K mg base CX0 n (A x) (fd x) (ps x) (spF K (run n x))):FnOk P w K mg base CX0 (n + 1) (A .A9) (fd .A9) (ps .A9) (spF K (run (n + 1) .A9)):=by
 obtain ⟨_,g_MOST_DEPTH⟩:=M.g_MOST_DEPTH
 obtain ⟨_,g_MOST_SHAPES⟩:=M.g_MOST_SHAPES
 refine Be (g:=fnOf 1 7 (EV (run n .Bz))) rfl (Bg rfl rfl (M.fn .A9) sc_is_shape_ (fun cdv A' outer s H E hr=>?_))
 refine @Ai _ _ _ _ _ _ ?_ ?_
 refine @AZ _ _ _ _ 1 _ _ _ sc_is_shape_.nd rfl (.inl rfl) ?_ (by rfl) (by first | exact .inl rfl | exact .inr rfl | assumption)
 refine @Bn _ _ _ ?_
 refine @B5 _ _ _ _ ?_
 refine @Aa _ _ _ _ _ ?_ Ae rfl
 exact (Ab 0)
 refine @Ai _ _ _ _ _ _ ?_ ?_
 exact (AZ (i:=2) sc_is_shape_.nd rfl (.inl rfl) Af)
 refine @Ai _ _ _ _ _ _ ?_ ?_
 refine @Dy _ _ _ _ _ _ _ _ _ PassesOwn.never rfl ?_ ?_ ?_ (by intro _;rfl)
 refine DE rfl M.z_range ?_
 refine @Aa _ _ _ _ _ ?_ Ae rfl
 exact (Cs rfl g_MOST_DEPTH)
 exact (A3 sc_is_shape_.nd rfl (.inl rfl))
 refine @Ai _ _ _ _ _ _ ?_ ?_
 refine @AZ _ _ _ _ 2 _ _ _ sc_is_shape_.nd rfl (.inl rfl) ?_ (by rfl) (by first | exact .inl rfl | exact .inr rfl | assumption)
 refine @AG _ _ _ _ _ _ _ _ _ AM AC ?_ ?_
 exact (Ab 2)
 refine @Br _ _ _ _ _ _ _ _ _ _ BM BV rfl M.z_len B1 ?_ (by decide) (by decide) (by rfl) (by rfl)
 refine @Aa _ _ _ _ _ ?_ Ae rfl
 exact (Ab 1)
 refine @Ai _ _ _ _ _ _ ?_ ?_
 refine @A2 _ _ _ _ _ _ _ _ _ ?_ ?_ AE
 refine @AW _ _ _ _ _ _ _ _ _ IF Hj ?_ ?_ (AK _)
 exact (Ab 2)
 exact (Cs rfl g_MOST_SHAPES)
 refine @Ak _ _ _ _ ?_
 exact (Aq B4)
 refine @Ai _ _ _ _ _ _ ?_ ?_
 refine @Ls _ _ _ _ 4 _ _ _ sc_is_shape_.nd rfl (.inl rfl) ?_ (by rfl) (by first | exact .inl rfl | exact .inr rfl | assumption)
 exact (B5 Ae)
 refine @Ai _ _ _ _ _ _ ?_ ?_
 refine @Dy _ _ _ _ _ _ _ _ _ PassesOwn.never rfl ?_ ?_ ?_ (by intro _;rfl)
 refine @Cv _ _ _ _ ?_
 exact (Ab 1)
 exact (A3 sc_is_shape_.nd rfl (.inl rfl))
 refine @Ai _ _ _ _ _ _ ?_ ?_
 refine @AZ _ _ _ _ 6 _ _ _ sc_is_shape_.nd rfl (.inl rfl) ?_ (by rfl) (by first | exact .inl rfl | exact .inr rfl | assumption)
 refine @An _ _ _ _ _ _ _ _ _ _ _ _ (ih .Bz) hr rfl (M.mgs .Bz) (Fun.kp (M.fn .Bz)) (M.bd .Bz) ?_ (by decide) (by rfl) (by rfl)
 refine @Aa _ _ _ _ _ ?_ Ae rfl
 exact (Ab 5)
 refine @Ai _ _ _ _ _ _ ?_ ?_
 refine @A2 _ _ _ _ _ _ _ _ _ ?_ ?_ AE
 refine @AW _ _ _ _ _ _ _ _ _ U5 VG ?_ Lo (AK _)
 exact (Ab 6)
 refine @Ak _ _ _ _ ?_
 exact (Aq B4)
 refine @Ak _ _ _ _ ?_
 refine NU 4 ?_
 refine @Aa _ _ _ _ _ ?_ Ae rfl
 exact (Ab 6)
 refine @Ai _ _ _ _ _ _ ?_ ?_
 refine @A2 _ _ _ _ _ _ _ _ _ ?_ ?_ AE
 refine @AW _ _ _ _ _ _ _ _ _ (Bx hr.units) (AV (g:=id)) ?_ Af (AK _)
 refine @Br _ _ _ _ _ _ _ _ _ _ BM BV rfl M.z_len B1 ?_ (by decide) (by decide) (by rfl) (by rfl)
 refine @Aa _ _ _ _ _ ?_ Ae rfl
 exact (Ab 4)
 refine @Ak _ _ _ _ ?_
 exact (Aq B4)
 refine @Ak _ _ _ _ ?_
 refine @AZ _ _ _ _ 1 _ _ _ sc_is_shape_.nd rfl (.inl rfl) ?_ (by rfl) (by first | exact .inl rfl | exact .inr rfl | assumption)
 exact (Ab 4)
 refine @Ak _ _ _ _ ?_
 exact (Aq B4)
theorem sc_parts_of_:FnScope (ns .Bz) (ps .Bz) (Aw (st .Bz)):=⟨rfl,rfl,rfl,by decide +kernel,rfl,by decide +kernel,by decide +kernel⟩
theorem LN (M:Md K mg A fd) (ih:∀x,FnOk P w K mg base CX0 n (A x) (fd x) (ps x) (spF K (run n x))):FnOk P w K mg base CX0 (n + 1) (A .Bz) (fd .Bz) (ps .Bz) (spF K (run (n + 1) .Bz)):=by
 obtain ⟨_,g_MOST_CHOICES⟩:=M.g_MOST_CHOICES
 obtain ⟨_,g_MOST_LENGTH⟩:=M.g_MOST_LENGTH
 refine Be (g:=fnOf 1 2 (EX (run n .Al) (run n .BG))) rfl (Bg rfl rfl (M.fn .Bz) sc_parts_of_ (fun cdv A' outer s H E hr=>?_))
 refine @Ai _ _ _ _ _ _ ?_ ?_
 refine @A2 _ _ _ _ _ _ _ _ _ ?_ ?_ AE
 refine @Ce _ _ _ ?_
 refine @C8 _ _ _ _ _ _ _ ?_ ?_
 refine @BK _ _ _ _ ?_
 refine @Bs _ _ _ ?_ (by intro _;rfl)
 refine @Br _ _ _ _ _ _ _ _ _ _ BL B2 rfl M.z_isinstance A0 ?_ (by decide) (by decide) (by rfl) (by rfl)
 refine @Aa _ _ _ _ _ ?_ ?_ rfl
 exact (Ab 0)
 refine @Aa _ _ _ _ _ ?_ Ae rfl
 exact (Cc rfl M.z_tuple CS)
 refine @C8 _ _ _ _ _ _ _ ?_ ?_
 refine @AW _ _ _ _ _ _ _ _ _ (Bx hr.units) (AV (g:=id)) ?_ Af (AK _)
 refine @Br _ _ _ _ _ _ _ _ _ _ BM BV rfl M.z_len B1 ?_ (by decide) (by decide) (by rfl) (by rfl)
 refine @Aa _ _ _ _ _ ?_ Ae rfl
 exact (Ab 0)
 refine @Df _ _ _ _ ?_
 refine @BK _ _ _ _ ?_
 refine @Bs _ _ _ ?_ (by intro _;rfl)
 refine @Br _ _ _ _ _ _ _ _ _ _ BL B2 rfl M.z_isinstance A0 ?_ (by decide) (by decide) (by rfl) (by rfl)
 refine @Aa _ _ _ _ _ ?_ ?_ rfl
 refine @AA _ _ _ _ _ _ _ _ As Au ?_ Af (fun _ _=>rfl)
 exact (Ab 0)
 refine @Aa _ _ _ _ _ ?_ Ae rfl
 exact (Cc rfl M.z_str Dd)
 refine @Ak _ _ _ _ ?_
 exact (Aq Lo)
 refine @Ai _ _ _ _ _ _ ?_ ?_
 refine @AZ _ _ _ _ 1 _ _ _ sc_parts_of_.nd rfl (.inl rfl) ?_ (by rfl) (by first | exact .inl rfl | exact .inr rfl | assumption)
 refine @Bd _ _ _ _ _ ?_
 refine @Aa _ _ _ _ _ ?_ ?_ rfl
 refine @AA _ _ _ _ _ _ _ _ As Au ?_ Af (fun _ _=>rfl)
 exact (Ab 0)
 refine @Aa _ _ _ _ _ ?_ Ae rfl
 refine @Br _ _ _ _ _ _ _ _ _ _ BM BV rfl M.z_len B1 ?_ (by decide) (by decide) (by rfl) (by rfl)
 refine @Aa _ _ _ _ _ ?_ Ae rfl
 exact (Ab 0)
 refine @Ai _ _ _ _ _ _ ?_ ?_
 refine @A2 _ _ _ _ _ _ _ _ _ ?_ ?_ AE
 refine @AW _ _ _ _ _ _ _ _ _ (Bx hr.units) (AV (g:=id)) ?_ ?_ (AK _)
 exact (Ab 1)
 refine @Bd _ _ _ _ _ ?_
 refine @Aa _ _ _ _ _ Ao ?_ rfl
 exact (@Aa _ _ _ _ _ Af Ae rfl)
 refine @Ak _ _ _ _ ?_
 refine @Aq _ _ _ _ ?_
 exact (Bd Ae)
 refine @Ai _ _ _ _ _ _ ?_ ?_
 refine @A2 _ _ _ _ _ _ _ _ _ ?_ ?_ AE
 refine @Ce _ _ _ ?_
 refine @Ec _ _ _ _ _ _ _ ?_ ?_
 refine @AW _ _ _ _ _ _ _ _ _ (Bx hr.units) (AV (g:=id)) ?_ ?_ (AK _)
 exact (Ab 1)
 refine @Bd _ _ _ _ _ ?_
 refine @Aa _ _ _ _ _ Ao ?_ rfl
 exact (@Aa _ _ _ _ _ Af Ae rfl)
 refine @D6 _ _ _ _ ?_
 refine @Bs _ _ _ ?_ (by intro _;rfl)
 refine @An _ _ _ _ _ _ _ _ _ _ _ _ (ih .BG) hr rfl (M.mgs .BG) (Fun.kp (M.fn .BG)) (M.bd .BG) ?_ (by decide) (by rfl) (by rfl)
 refine @Aa _ _ _ _ _ ?_ ?_ rfl
 refine @AA _ _ _ _ _ _ _ _ As Au ?_ Af (fun _ _=>rfl)
 exact (Ab 0)
 refine @Aa _ _ _ _ _ ?_ Ae rfl
 refine @AA _ _ _ _ _ _ _ _ As Au ?_ Af (fun _ _=>rfl)
 exact (Ab 0)
 refine @Ak _ _ _ _ ?_
 refine @Aq _ _ _ _ ?_
 exact (Bd Ae)
 refine @Ai _ _ _ _ _ _ ?_ ?_
 refine @A2 _ _ _ _ _ _ _ _ _ ?_ ?_ AE
 refine @Ce _ _ _ ?_
 refine @Ec _ _ _ _ _ _ _ ?_ ?_
 refine @AW _ _ _ _ _ _ _ _ _ (Bx hr.units) (AV (g:=id)) ?_ ?_ (AK _)
 exact (Ab 1)
 refine @Bd _ _ _ _ _ ?_
 refine @Aa _ _ _ _ _ Ao ?_ rfl
 exact (@Aa _ _ _ _ _ Af Ae rfl)
 refine @D6 _ _ _ _ ?_
 refine @Bs _ _ _ ?_ (by intro _;rfl)
 refine @An _ _ _ _ _ _ _ _ _ _ _ _ (ih .Al) hr rfl (M.mgs .Al) (Fun.kp (M.fn .Al)) (M.bd .Al) ?_ (by decide) (by rfl) (by rfl)
 refine @Aa _ _ _ _ _ ?_ ?_ rfl
 refine @AA _ _ _ _ _ _ _ _ As Au ?_ Af (fun _ _=>rfl)
 exact (Ab 0)
 refine @Aa _ _ _ _ _ Af ?_ rfl
 refine @Aa _ _ _ _ _ ?_ Ae rfl
 exact (Cs rfl g_MOST_LENGTH)
 refine @Ak _ _ _ _ ?_
 refine @Aq _ _ _ _ ?_
 exact (Bd Ae)
 refine @Ai _ _ _ _ _ _ ?_ ?_
 refine @A2 _ _ _ _ _ _ _ _ _ ?_ ?_ AE
 refine @Ce _ _ _ ?_
 refine @Ec _ _ _ _ _ _ _ ?_ ?_
 refine @AW _ _ _ _ _ _ _ _ _ (Bx hr.units) (AV (g:=id)) ?_ ?_ (AK _)
 exact (Ab 1)
 refine @Bd _ _ _ _ _ ?_
 refine @Aa _ _ _ _ _ Ao ?_ rfl
 exact (@Aa _ _ _ _ _ Af Ae rfl)
 refine @D6 _ _ _ _ ?_
 refine @Bs _ _ _ ?_ (by intro _;rfl)
 refine @An _ _ _ _ _ _ _ _ _ _ _ _ (ih .Al) hr rfl (M.mgs .Al) (Fun.kp (M.fn .Al)) (M.bd .Al) ?_ (by decide) (by rfl) (by rfl)
 refine @Aa _ _ _ _ _ ?_ ?_ rfl
 refine @AA _ _ _ _ _ _ _ _ As Au ?_ Af (fun _ _=>rfl)
 exact (Ab 0)
 refine @Aa _ _ _ _ _ Af ?_ rfl
 refine @Aa _ _ _ _ _ ?_ Ae rfl
 exact (Cs rfl g_MOST_LENGTH)
 refine @Ak _ _ _ _ ?_
 refine @Aq _ _ _ _ ?_
 refine @Bd _ _ _ _ _ ?_
 refine @Aa _ _ _ _ _ ?_ Ae rfl
 refine @AA _ _ _ _ _ _ _ _ As Au ?_ Af (fun _ _=>rfl)
 exact (Ab 0)
 refine @Ai _ _ _ _ _ _ ?_ ?_
 refine @A2 _ _ _ _ _ _ _ _ _ ?_ ?_ AE
 refine @AW _ _ _ _ _ _ _ _ _ (Bx hr.units) (AV (g:=id)) ?_ ?_ (AK _)
 exact (Ab 1)
 refine @Bd _ _ _ _ _ ?_
 refine @Aa _ _ _ _ _ Ao ?_ rfl
 exact (@Aa _ _ _ _ _ Af Ae rfl)
 refine @Ak _ _ _ _ ?_
 refine @Aq _ _ _ _ ?_
 refine @Bd _ _ _ _ _ ?_
 refine @Aa _ _ _ _ _ ?_ ?_ rfl
 refine @AA _ _ _ _ _ _ _ _ As Au ?_ Af (fun _ _=>rfl)
 exact (Ab 0)
 refine @Aa _ _ _ _ _ ?_ Ae rfl
 refine @AA _ _ _ _ _ _ _ _ As Au ?_ Af (fun _ _=>rfl)
 exact (Ab 0)
 refine @Ai _ _ _ _ _ _ ?_ ?_
 refine @A2 _ _ _ _ _ _ _ _ _ ?_ ?_ AE
 refine @Ce _ _ _ ?_
 refine @Ec _ _ _ _ _ _ _ ?_ ?_
 refine @AW _ _ _ _ _ _ _ _ _ (Bx hr.units) (AV (g:=id)) ?_ ?_ (AK _)
 exact (Ab 1)
 refine @Bd _ _ _ _ _ ?_
 refine @Aa _ _ _ _ _ Ao ?_ rfl
 exact (@Aa _ _ _ _ _ Af Ae rfl)
 refine @Ec _ _ _ _ _ _ _ ?_ ?_
 refine @Bs _ _ _ ?_ (by intro _;rfl)
 refine @Br _ _ _ _ _ _ _ _ _ _ BL B2 rfl M.z_isinstance A0 ?_ (by decide) (by decide) (by rfl) (by rfl)
 refine @Aa _ _ _ _ _ ?_ ?_ rfl
 refine @AA _ _ _ _ _ _ _ _ As Au ?_ Af (fun _ _=>rfl)
 exact (Ab 0)
 refine @Aa _ _ _ _ _ ?_ Ae rfl
 exact (Cc rfl M.z_tuple CS)
 refine @D6 _ _ _ _ ?_
 refine Et CQ CQ Ch Ch Af ?_ ?_
 refine @Br _ _ _ _ _ _ _ _ _ _ BM BV rfl M.z_len B1 ?_ (by decide) (by decide) (by rfl) (by rfl)
 refine @Aa _ _ _ _ _ ?_ Ae rfl
 refine @AA _ _ _ _ _ _ _ _ As Au ?_ Af (fun _ _=>rfl)
 exact (Ab 0)
 exact (Cs rfl g_MOST_CHOICES)
 refine @Ak _ _ _ _ ?_
 refine @Aq _ _ _ _ ?_
 refine @AA _ _ _ _ _ _ _ _ As Au ?_ Af (fun _ _=>rfl)
 exact (Ab 0)
 refine @Ak _ _ _ _ ?_
 exact (Aq Lo)
theorem MM:FnScope (ns .BG) (ps .BG) (Aw (st .BG)):=⟨rfl,rfl,rfl,by decide +kernel,rfl,by decide +kernel,by decide +kernel⟩
theorem MJ (M:Md K mg A fd) (ih:∀x,FnOk P w K mg base CX0 n (A x) (fd x) (ps x) (spF K (run n x))):FnOk P w K mg base CX0 (n + 1) (A .BG) (fd .BG) (ps .BG) (spF K (run (n + 1) .BG)):=by
 obtain ⟨_,g_MOST_NUMBER⟩:=M.g_MOST_NUMBER
 refine Be (g:=fnOf 2 2 (FB (run n .Al))) rfl (Bg rfl rfl (M.fn .BG) MM (fun cdv A' outer s H E hr=>?_))
 refine @Ak _ _ _ _ ?_
 refine @Aq _ _ _ _ ?_
 refine @Ff _ _ _ _ _ _ _ ?_ ?_
 refine @An _ _ _ _ _ _ _ _ _ _ _ _ (ih .Al) hr rfl (M.mgs .Al) (Fun.kp (M.fn .Al)) (M.bd .Al) ?_ (by decide) (by rfl) (by rfl)
 refine @Aa _ _ _ _ _ ?_ ?_ rfl
 exact (Ab 1)
 refine @Aa _ _ _ _ _ ?_ ?_ rfl
 refine @RJ _ _ _ _ _ _ _ P0 Nv ?_
 exact (Cs rfl g_MOST_NUMBER)
 refine @Aa _ _ _ _ _ ?_ Ae rfl
 exact (Cs rfl g_MOST_NUMBER)
 refine @FY _ _ _ _ _ ?_
 refine @An _ _ _ _ _ _ _ _ _ _ _ _ (ih .Al) hr rfl (M.mgs .Al) (Fun.kp (M.fn .Al)) (M.bd .Al) ?_ (by decide) (by rfl) (by rfl)
 refine @Aa _ _ _ _ _ ?_ ?_ rfl
 exact (Ab 0)
 refine @Aa _ _ _ _ _ ?_ ?_ rfl
 refine @RJ _ _ _ _ _ _ _ P0 Nv ?_
 exact (Cs rfl g_MOST_NUMBER)
 refine @Aa _ _ _ _ _ ?_ Ae rfl
 exact (Ab 1)
theorem sc_is_grammar_:FnScope (ns .Ba) (ps .Ba) (Aw (st .Ba)):=⟨rfl,rfl,rfl,by decide +kernel,rfl,by decide +kernel,by decide +kernel⟩
theorem JA (M:Md K mg A fd) (ih:∀x,FnOk P w K mg base CX0 n (A x) (fd x) (ps x) (spF K (run n x))):FnOk P w K mg base CX0 (n + 1) (A .Ba) (fd .Ba) (ps .Ba) (spF K (run (n + 1) .Ba)):=by
 obtain ⟨_,g_MOST_STATES⟩:=M.g_MOST_STATES
 refine Be (g:=fnOf 1 2 (Dr (run n .Bw))) rfl (Bg rfl rfl (M.fn .Ba) sc_is_grammar_ (fun cdv A' outer s H E hr=>?_))
 refine @Ai _ _ _ _ _ _ ?_ ?_
 refine @A2 _ _ _ _ _ _ _ _ _ ?_ ?_ AE
 refine @Ce _ _ _ ?_
 refine @C8 _ _ _ _ _ _ _ ?_ ?_
 refine @BK _ _ _ _ ?_
 refine @Bs _ _ _ ?_ (by intro _;rfl)
 refine @Br _ _ _ _ _ _ _ _ _ _ BL Gy rfl M.z_isinstance A0 ?_ (by decide) (by decide) (by rfl) (by rfl)
 refine @Aa _ _ _ _ _ ?_ ?_ rfl
 exact (Ab 0)
 refine @Aa _ _ _ _ _ ?_ Ae rfl
 exact (Cc rfl M.z_list E5)
 refine @Df _ _ _ _ ?_
 refine @BK _ _ _ _ ?_
 refine Et CQ CQ Ch Ch Af ?_ ?_
 refine @Br _ _ _ _ _ _ _ _ _ _ BM BV rfl M.z_len B1 ?_ (by decide) (by decide) (by rfl) (by rfl)
 refine @Aa _ _ _ _ _ ?_ Ae rfl
 exact (Ab 0)
 exact (Cs rfl g_MOST_STATES)
 refine @Ak _ _ _ _ ?_
 exact (Aq B4)
 refine @Ai _ _ _ _ _ _ ?_ ?_
 refine F1 PassesOwn.never rfl ?_ ?_ ?_
 refine C0 ?_
 exact (Ab 0)
 exact (A3 sc_is_grammar_.nd rfl (.inl rfl))
 refine @Ak _ _ _ _ ?_
 refine @A2 _ _ _ _ _ _ _ _ _ ?_ ?_ AE
 refine @BK _ _ _ _ ?_
 refine @Bs _ _ _ ?_ (by intro _;rfl)
 refine @An _ _ _ _ _ _ _ _ _ _ _ _ (ih .Bw) hr rfl (M.mgs .Bw) (Fun.kp (M.fn .Bw)) (M.bd .Bw) ?_ (by decide) (by rfl) (by rfl)
 refine @Aa _ _ _ _ _ ?_ ?_ rfl
 exact (Ab 1)
 refine @Aa _ _ _ _ _ ?_ Ae rfl
 refine @Br _ _ _ _ _ _ _ _ _ _ BM BV rfl M.z_len B1 ?_ (by decide) (by decide) (by rfl) (by rfl)
 refine @Aa _ _ _ _ _ ?_ Ae rfl
 exact (Ab 0)
 refine @Ak _ _ _ _ ?_
 exact (Aq B4)
 refine @Ak _ _ _ _ ?_
 exact (Aq B4)
theorem Ma:FnScope (ns .Bw) (ps .Bw) (Aw (st .Bw)):=⟨rfl,rfl,rfl,by decide +kernel,rfl,by decide +kernel,by decide +kernel⟩
theorem LM (M:Md K mg A fd) (ih:∀x,FnOk P w K mg base CX0 n (A x) (fd x) (ps x) (spF K (run n x))):FnOk P w K mg base CX0 (n + 1) (A .Bw) (fd .Bw) (ps .Bw) (spF K (run (n + 1) .Bw)):=by
 refine Be (g:=fnOf 2 2 (EW (run n .Bk))) rfl (Bg rfl rfl (M.fn .Bw) Ma (fun cdv A' outer s H E hr=>?_))
 refine @Ai _ _ _ _ _ _ ?_ ?_
 refine @A2 _ _ _ _ _ _ _ _ _ ?_ ?_ AE
 refine @Ce _ _ _ ?_
 refine @C8 _ _ _ _ _ _ _ ?_ ?_
 refine @BK _ _ _ _ ?_
 refine @Bs _ _ _ ?_ (by intro _;rfl)
 refine @Br _ _ _ _ _ _ _ _ _ _ BL B2 rfl M.z_isinstance A0 ?_ (by decide) (by decide) (by rfl) (by rfl)
 refine @Aa _ _ _ _ _ ?_ ?_ rfl
 exact (Ab 0)
 refine @Aa _ _ _ _ _ ?_ Ae rfl
 exact (Cc rfl M.z_tuple CS)
 refine @C8 _ _ _ _ _ _ _ ?_ ?_
 refine @AW _ _ _ _ _ _ _ _ _ (Bx hr.units) (AV (g:=id)) ?_ Af (AK _)
 refine @Br _ _ _ _ _ _ _ _ _ _ BM BV rfl M.z_len B1 ?_ (by decide) (by decide) (by rfl) (by rfl)
 refine @Aa _ _ _ _ _ ?_ Ae rfl
 exact (Ab 0)
 refine @Df _ _ _ _ ?_
 refine @BK _ _ _ _ ?_
 refine @Bs _ _ _ ?_ (by intro _;rfl)
 refine @Br _ _ _ _ _ _ _ _ _ _ BL B2 rfl M.z_isinstance A0 ?_ (by decide) (by decide) (by rfl) (by rfl)
 refine @Aa _ _ _ _ _ ?_ ?_ rfl
 refine @AA _ _ _ _ _ _ _ _ As Au ?_ Af (fun _ _=>rfl)
 exact (Ab 0)
 refine @Aa _ _ _ _ _ ?_ Ae rfl
 exact (Cc rfl M.z_str Dd)
 refine @Ak _ _ _ _ ?_
 exact (Aq B4)
 refine @Ai _ _ _ _ _ _ ?_ ?_
 refine @A2 _ _ _ _ _ _ _ _ _ ?_ ?_ AE
 refine @AW _ _ _ _ _ _ _ _ _ (Bx hr.units) (AV (g:=id)) ?_ Ao (AK _)
 refine @AA _ _ _ _ _ _ _ _ As Au ?_ Af (fun _ _=>rfl)
 exact (Ab 0)
 refine @Ak _ _ _ _ ?_
 refine @Aq _ _ _ _ ?_
 refine @Eb _ _ _ _ _ _ _ _ _ (Bx hr.units) (AV (g:=id)) ?_ Af (AK _)
 refine @Br _ _ _ _ _ _ _ _ _ _ BM BV rfl M.z_len B1 ?_ (by decide) (by decide) (by rfl) (by rfl)
 refine @Aa _ _ _ _ _ ?_ Ae rfl
 exact (Ab 0)
 refine @Ai _ _ _ _ _ _ ?_ ?_
 refine @A2 _ _ _ _ _ _ _ _ _ ?_ ?_ AE
 refine @Ce _ _ _ ?_
 refine @Ec _ _ _ _ _ _ _ ?_ ?_
 refine @AW _ _ _ _ _ _ _ _ _ (Dg hr.units) (AV (g:=fun b=>!b)) ?_ Ao (AK _)
 refine @AA _ _ _ _ _ _ _ _ As Au ?_ Af (fun _ _=>rfl)
 exact (Ab 0)
 refine @D6 _ _ _ _ ?_
 refine @AW _ _ _ _ _ _ _ _ _ (Dg hr.units) (AV (g:=fun b=>!b)) ?_ Ao (AK _)
 refine @AA _ _ _ _ _ _ _ _ As Au ?_ Af (fun _ _=>rfl)
 exact (Ab 0)
 refine @Ak _ _ _ _ ?_
 exact (Aq B4)
 refine @Ak _ _ _ _ ?_
 refine @Aq _ _ _ _ ?_
 refine @Ff _ _ _ _ _ _ _ ?_ ?_
 refine @Eb _ _ _ _ _ _ _ _ _ (Bx hr.units) (AV (g:=id)) ?_ Af (AK _)
 refine @Br _ _ _ _ _ _ _ _ _ _ BM BV rfl M.z_len B1 ?_ (by decide) (by decide) (by rfl) (by rfl)
 refine @Aa _ _ _ _ _ ?_ Ae rfl
 exact (Ab 0)
 refine @FY _ _ _ _ _ ?_
 refine @An _ _ _ _ _ _ _ _ _ _ _ _ (ih .Bk) hr rfl (M.mgs .Bk) (Fun.kp (M.fn .Bk)) (M.bd .Bk) ?_ (by decide) (by rfl) (by rfl)
 refine @Aa _ _ _ _ _ ?_ ?_ rfl
 refine @AA _ _ _ _ _ _ _ _ As Au ?_ Af (fun _ _=>rfl)
 exact (Ab 0)
 refine @Aa _ _ _ _ _ ?_ Ae rfl
 exact (Ab 1)
theorem sc_are_words_:FnScope (ns .Bk) (ps .Bk) (Aw (st .Bk)):=⟨rfl,rfl,rfl,by decide +kernel,rfl,by decide +kernel,by decide +kernel⟩
theorem Kn (M:Md K mg A fd) (ih:∀x,FnOk P w K mg base CX0 n (A x) (fd x) (ps x) (spF K (run n x))):FnOk P w K mg base CX0 (n + 1) (A .Bk) (fd .Bk) (ps .Bk) (spF K (run (n + 1) .Bk)):=by
 obtain ⟨_,g_MOST_WORDS⟩:=M.g_MOST_WORDS
 refine Be (g:=fnOf 2 3 (DF (run n .BH))) rfl (Bg rfl rfl (M.fn .Bk) sc_are_words_ (fun cdv A' outer s H E hr=>?_))
 refine @Ai _ _ _ _ _ _ ?_ ?_
 refine @A2 _ _ _ _ _ _ _ _ _ ?_ ?_ AE
 refine @Ce _ _ _ ?_
 refine @C8 _ _ _ _ _ _ _ ?_ ?_
 refine @BK _ _ _ _ ?_
 refine @Bs _ _ _ ?_ (by intro _;rfl)
 refine @Br _ _ _ _ _ _ _ _ _ _ BL Gy rfl M.z_isinstance A0 ?_ (by decide) (by decide) (by rfl) (by rfl)
 refine @Aa _ _ _ _ _ ?_ ?_ rfl
 exact (Ab 0)
 refine @Aa _ _ _ _ _ ?_ Ae rfl
 exact (Cc rfl M.z_list E5)
 refine @Df _ _ _ _ ?_
 refine @BK _ _ _ _ ?_
 refine Et CQ CQ Ch Ch Af ?_ ?_
 refine @Br _ _ _ _ _ _ _ _ _ _ BM BV rfl M.z_len B1 ?_ (by decide) (by decide) (by rfl) (by rfl)
 refine @Aa _ _ _ _ _ ?_ Ae rfl
 exact (Ab 0)
 exact (Cs rfl g_MOST_WORDS)
 refine @Ak _ _ _ _ ?_
 exact (Aq B4)
 refine @Ai _ _ _ _ _ _ ?_ ?_
 refine F1 PassesOwn.never rfl ?_ ?_ ?_
 refine C0 ?_
 exact (Ab 0)
 exact (A3 sc_are_words_.nd rfl (.inl rfl))
 refine @Ak _ _ _ _ ?_
 refine @A2 _ _ _ _ _ _ _ _ _ ?_ ?_ AE
 refine @BK _ _ _ _ ?_
 refine @Bs _ _ _ ?_ (by intro _;rfl)
 refine @An _ _ _ _ _ _ _ _ _ _ _ _ (ih .BH) hr rfl (M.mgs .BH) (Fun.kp (M.fn .BH)) (M.bd .BH) ?_ (by decide) (by rfl) (by rfl)
 refine @Aa _ _ _ _ _ ?_ ?_ rfl
 exact (Ab 2)
 refine @Aa _ _ _ _ _ ?_ Ae rfl
 exact (Ab 1)
 refine @Ak _ _ _ _ ?_
 exact (Aq B4)
 refine @Ak _ _ _ _ ?_
 refine @Aq _ _ _ _ ?_
 refine @Eb _ _ _ _ _ _ _ _ _ (Bx hr.units) (AV (g:=id)) ?_ ?_ (AK _)
 refine OX rfl rfl M.z_len rfl M.z_set ?_
 refine @Aa _ _ _ _ _ ?_ Ae rfl
 refine @Bn _ _ _ ?_
 refine Gj (Cl ["word"] [] rfl rfl rfl rfl rfl) rfl ?_ ?_ ?_ ?_
 refine C0 ?_
 exact (Ab 0)
 intro _ _ _ _ _
 exact (A3 (by show List.Nodup [("word" : Str)] ;decide +kernel) rfl (.inl rfl))
 intro _ _ _ _ _
 exact Cd
 intro _ _ _ _ _
 refine @AA _ _ _ _ _ _ _ _ As Au ?_ Af (fun _ _=>rfl)
 exact (Ab 0)
 refine @Br _ _ _ _ _ _ _ _ _ _ BM BV rfl M.z_len B1 ?_ (by decide) (by decide) (by rfl) (by rfl)
 refine @Aa _ _ _ _ _ ?_ Ae rfl
 exact (Ab 0)
theorem MN:FnScope (ns .BH) (ps .BH) (Aw (st .BH)):=⟨rfl,rfl,rfl,by decide +kernel,rfl,by decide +kernel,by decide +kernel⟩
theorem MK (M:Md K mg A fd) (ih:∀x,FnOk P w K mg base CX0 n (A x) (fd x) (ps x) (spF K (run n x))):FnOk P w K mg base CX0 (n + 1) (A .BH) (fd .BH) (ps .BH) (spF K (run (n + 1) .BH)):=by
 refine Be (g:=fnOf 2 2 (FC (run n .BF) (run n .A9) (run n .Al))) rfl (Bg rfl rfl (M.fn .BH) MN (fun cdv A' outer s H E hr=>?_))
 refine @Ai _ _ _ _ _ _ ?_ ?_
 refine @A2 _ _ _ _ _ _ _ _ _ ?_ ?_ AE
 refine @Ce _ _ _ ?_
 refine @C8 _ _ _ _ _ _ _ ?_ ?_
 refine @BK _ _ _ _ ?_
 refine @Bs _ _ _ ?_ (by intro _;rfl)
 refine @Br _ _ _ _ _ _ _ _ _ _ BL B2 rfl M.z_isinstance A0 ?_ (by decide) (by decide) (by rfl) (by rfl)
 refine @Aa _ _ _ _ _ ?_ ?_ rfl
 exact (Ab 0)
 refine @Aa _ _ _ _ _ ?_ Ae rfl
 exact (Cc rfl M.z_tuple CS)
 refine @Df _ _ _ _ ?_
 refine @AW _ _ _ _ _ _ _ _ _ (Dg hr.units) (AV (g:=fun b=>!b)) ?_ Af (AK _)
 refine @Br _ _ _ _ _ _ _ _ _ _ BM BV rfl M.z_len B1 ?_ (by decide) (by decide) (by rfl) (by rfl)
 refine @Aa _ _ _ _ _ ?_ Ae rfl
 exact (Ab 0)
 refine @Ak _ _ _ _ ?_
 exact (Aq B4)
 refine @Ak _ _ _ _ ?_
 refine @Aq _ _ _ _ ?_
 refine @Ff _ _ _ _ _ _ _ ?_ ?_
 refine @An _ _ _ _ _ _ _ _ _ _ _ _ (ih .BF) hr rfl (M.mgs .BF) (Fun.kp (M.fn .BF)) (M.bd .BF) ?_ (by decide) (by rfl) (by rfl)
 refine @Aa _ _ _ _ _ ?_ Ae rfl
 refine @AA _ _ _ _ _ _ _ _ As Au ?_ Af (fun _ _=>rfl)
 exact (Ab 0)
 refine @Ff _ _ _ _ _ _ _ ?_ ?_
 refine @An _ _ _ _ _ _ _ _ _ _ _ _ (ih .A9) hr rfl (M.mgs .A9) (Fun.kp (M.fn .A9)) (M.bd .A9) ?_ (by decide) (by rfl) (by rfl)
 refine @Aa _ _ _ _ _ ?_ Ae rfl
 refine @AA _ _ _ _ _ _ _ _ As Au ?_ Af (fun _ _=>rfl)
 exact (Ab 0)
 refine @FY _ _ _ _ _ ?_
 refine @An _ _ _ _ _ _ _ _ _ _ _ _ (ih .Al) hr rfl (M.mgs .Al) (Fun.kp (M.fn .Al)) (M.bd .Al) ?_ (by decide) (by rfl) (by rfl)
 refine @Aa _ _ _ _ _ ?_ ?_ rfl
 refine @AA _ _ _ _ _ _ _ _ As Au ?_ Af (fun _ _=>rfl)
 exact (Ab 0)
 refine @Aa _ _ _ _ _ Af ?_ rfl
 refine @Aa _ _ _ _ _ ?_ Ae rfl
 refine @AG _ _ _ _ _ _ _ _ _ Ej DK ?_ Af
 exact (Ab 1)
theorem sc_is_name_:FnScope (ns .BF) (ps .BF) (Aw (st .BF)):=⟨rfl,rfl,rfl,by decide +kernel,rfl,by decide +kernel,by decide +kernel⟩
theorem MI (M:Md K mg A fd) (ih:∀x,FnOk P w K mg base CX0 n (A x) (fd x) (ps x) (spF K (run n x))):FnOk P w K mg base CX0 (n + 1) (A .BF) (fd .BF) (ps .BF) (spF K (run (n + 1) .BF)):=by
 obtain ⟨_,g_MOST_LETTERS⟩:=M.g_MOST_LETTERS
 refine Be (g:=fnOf 1 2 (FA)) rfl (Bg rfl rfl (M.fn .BF) sc_is_name_ (fun cdv A' outer s H E hr=>?_))
 refine @Ai _ _ _ _ _ _ ?_ ?_
 refine @A2 _ _ _ _ _ _ _ _ _ ?_ ?_ AE
 refine @Ce _ _ _ ?_
 refine @C8 _ _ _ _ _ _ _ ?_ ?_
 refine @BK _ _ _ _ ?_
 refine @Bs _ _ _ ?_ (by intro _;rfl)
 refine @Br _ _ _ _ _ _ _ _ _ _ BL B2 rfl M.z_isinstance A0 ?_ (by decide) (by decide) (by rfl) (by rfl)
 refine @Aa _ _ _ _ _ ?_ ?_ rfl
 exact (Ab 0)
 refine @Aa _ _ _ _ _ ?_ Ae rfl
 exact (Cc rfl M.z_str Dd)
 refine @Df _ _ _ _ ?_
 refine @BK _ _ _ _ ?_
 refine Et CQ CQ Ch Ch Af ?_ ?_
 refine @Br _ _ _ _ _ _ _ _ _ _ BM BV rfl M.z_len B1 ?_ (by decide) (by decide) (by rfl) (by rfl)
 refine @Aa _ _ _ _ _ ?_ Ae rfl
 exact (Ab 0)
 exact (Cs rfl g_MOST_LETTERS)
 refine @Ak _ _ _ _ ?_
 exact (Aq B4)
 refine @Ai _ _ _ _ _ _ ?_ ?_
 refine @Dy _ _ _ _ _ _ _ _ _ PassesOwn.never rfl ?_ ?_ ?_ (by intro _;rfl)
 refine @Cv _ _ _ _ ?_
 exact (Ab 0)
 exact (A3 sc_is_name_.nd rfl (.inl rfl))
 refine @Ak _ _ _ _ ?_
 refine @A2 _ _ _ _ _ _ _ _ _ ?_ ?_ AE
 refine @BK _ _ _ _ ?_
 refine Et CQ CQ Ch Ch Ao ?_ Ao
 exact (Ab 1)
 refine @Ak _ _ _ _ ?_
 exact (Aq B4)
 refine @Ak _ _ _ _ ?_
 exact (Aq B4)
theorem Oi:FnScope (ns .BU) (ps .BU) (Aw (st .BU)):=⟨rfl,rfl,rfl,by decide +kernel,rfl,by decide +kernel,by decide +kernel⟩
theorem N9 (M:Md K mg A fd) (ih:∀x,FnOk P w K mg base CX0 n (A x) (fd x) (ps x) (spF K (run n x))):FnOk P w K mg base CX0 (n + 1) (A .BU) (fd .BU) (ps .BU) (spF K (run (n + 1) .BU)):=by
 refine Be (g:=fnOf 1 1 (D3)) rfl (Bg rfl rfl (M.fn .BU) Oi (fun cdv A' outer s H E hr=>?_))
 refine @Ak _ _ _ _ ?_
 refine @Aq _ _ _ _ ?_
 refine @Eb _ _ _ _ _ _ _ _ _ (Bx hr.units) (AV (g:=id)) ?_ Ao (AK _)
 refine @AA _ _ _ _ _ _ _ _ As Au ?_ Af (fun _ _=>rfl)
 exact (Ab 0)
theorem sc_show_shape_:FnScope (ns .AR) (ps .AR) (Aw (st .AR)):=⟨rfl,rfl,rfl,by decide +kernel,rfl,by decide +kernel,by decide +kernel⟩
theorem JC (M:Md K mg A fd) (ih:∀x,FnOk P w K mg base CX0 n (A x) (fd x) (ps x) (spF K (run n x))):FnOk P w K mg base CX0 (n + 1) (A .AR) (fd .AR) (ps .AR) (spF K (run (n + 1) .AR)):=by
 refine Be (g:=fnOf 1 2 (Eg (run n .Bp))) rfl (Bg rfl rfl (M.fn .AR) sc_show_shape_ (fun cdv A' outer s H E hr=>?_))
 refine @Ai _ _ _ _ _ _ ?_ ?_
 refine @AZ _ _ _ _ 1 _ _ _ sc_show_shape_.nd rfl (.inl rfl) ?_ (by rfl) (by first | exact .inl rfl | exact .inr rfl | assumption)
 refine Fg ?_ ?_ ?_
 refine @AW _ _ _ _ _ _ _ _ _ (Bx hr.units) (AV (g:=id)) ?_ Ao (AK _)
 refine @AA _ _ _ _ _ _ _ _ As Au ?_ Af (fun _ _=>rfl)
 exact (Ab 0)
 refine @AA _ _ _ _ _ _ _ _ As Au ?_ Af (fun _ _=>rfl)
 exact (Ab 0)
 refine @Ci _ _ _ _ _ _ _ _ _ _ _ sl3 CJ ?_ ?_ E6
 exact (Ab 0)
 exact (BZ Af)
 refine @Ai _ _ _ _ _ _ ?_ ?_
 refine @A2 _ _ _ _ _ _ _ _ _ ?_ ?_ AE
 refine @AW _ _ _ _ _ _ _ _ _ (Bx hr.units) (AV (g:=id)) ?_ Af (AK _)
 refine @Br _ _ _ _ _ _ _ _ _ _ BM BV rfl M.z_len B1 ?_ (by decide) (by decide) (by rfl) (by rfl)
 refine @Aa _ _ _ _ _ ?_ Ae rfl
 exact (Ab 1)
 refine @Ak _ _ _ _ ?_
 refine @Aq _ _ _ _ ?_
 refine @AA _ _ _ _ _ _ _ _ As Au ?_ Af (fun _ _=>rfl)
 exact (Ab 0)
 refine @Ak _ _ _ _ ?_
 refine @Aq _ _ _ _ ?_
 refine @AG _ _ _ _ _ _ _ _ _ AM AC ?_ Ao
 refine @AG _ _ _ _ _ _ _ _ _ AM AC ?_ ?_
 refine @AG _ _ _ _ _ _ _ _ _ AM AC ?_ Ao
 refine @AA _ _ _ _ _ _ _ _ As Au ?_ Af (fun _ _=>rfl)
 exact (Ab 0)
 refine D1 Ao ?_
 refine @Aa _ _ _ _ _ ?_ Ae rfl
 refine @Bn _ _ _ ?_
 refine DC (Cl ["part"] [] rfl rfl rfl rfl rfl) rfl ?_ ?_ ?_ ?_
 refine @Cv _ _ _ _ ?_
 exact (Ab 1)
 intro _ _ _ _ _
 exact (A3 (by show List.Nodup [("part" : Str)] ;decide +kernel) rfl (.inl rfl))
 intro _ _ _ _ _
 exact Cd
 intro _ _ _ _ _
 refine @An _ _ _ _ _ _ _ _ _ _ _ _ (ih .Bp) hr rfl (M.mgs .Bp) (Fun.kp (M.fn .Bp)) (M.bd .Bp) ?_ (by decide) (by rfl) (by rfl)
 refine @Aa _ _ _ _ _ ?_ Ae rfl
 exact (Ab 0)
theorem Kw:FnScope (ns .Bp) (ps .Bp) (Aw (st .Bp)):=⟨rfl,rfl,rfl,by decide +kernel,rfl,by decide +kernel,by decide +kernel⟩
theorem Ks (M:Md K mg A fd) (ih:∀x,FnOk P w K mg base CX0 n (A x) (fd x) (ps x) (spF K (run n x))):FnOk P w K mg base CX0 (n + 1) (A .Bp) (fd .Bp) (ps .Bp) (spF K (run (n + 1) .Bp)):=by
 refine Be (g:=fnOf 1 1 (EE (run n .AR))) rfl (Bg rfl rfl (M.fn .Bp) Kw (fun cdv A' outer s H E hr=>?_))
 refine @Ak _ _ _ _ ?_
 refine @Aq _ _ _ _ ?_
 refine Fg ?_ ?_ ?_
 refine @Bs _ _ _ ?_ (by intro _;rfl)
 refine @Br _ _ _ _ _ _ _ _ _ _ BL B2 rfl M.z_isinstance A0 ?_ (by decide) (by decide) (by rfl) (by rfl)
 refine @Aa _ _ _ _ _ ?_ ?_ rfl
 exact (Ab 0)
 refine @Aa _ _ _ _ _ ?_ Ae rfl
 exact (Cc rfl M.z_tuple CS)
 refine @An _ _ _ _ _ _ _ _ _ _ _ _ (ih .AR) hr rfl (M.mgs .AR) (Fun.kp (M.fn .AR)) (M.bd .AR) ?_ (by decide) (by rfl) (by rfl)
 refine @Aa _ _ _ _ _ ?_ Ae rfl
 exact (Ab 0)
 refine @Ea _ _ _ _ _ _ _ _ _ _ CZ Fa rfl M.z_str Dd ?_ (by decide) (by decide) (by rfl) (by rfl)
 refine @Aa _ _ _ _ _ ?_ Ae rfl
 exact (Ab 0)
theorem HU:FnScope (ns .AJ) (ps .AJ) (Aw (st .AJ)):=⟨rfl,rfl,rfl,by decide +kernel,rfl,by decide +kernel,by decide +kernel⟩
theorem HL (M:Md K mg A fd) (ih:∀x,FnOk P w K mg base CX0 n (A x) (fd x) (ps x) (spF K (run n x))):FnOk P w K mg base CX0 (n + 1) (A .AJ) (fd .AJ) (ps .AJ) (spF K (run (n + 1) .AJ)):=by
 refine Be (g:=fnOf 1 1 (DI (run n .Bi))) rfl (Bg rfl rfl (M.fn .AJ) HU (fun cdv A' outer s H E hr=>?_))
 refine @Ak _ _ _ _ ?_
 refine @Aq _ _ _ _ ?_
 refine D1 Ao ?_
 refine @Aa _ _ _ _ _ ?_ Ae rfl
 refine @Bn _ _ _ ?_
 refine DC (Cl ["state"] [] rfl rfl rfl rfl rfl) rfl ?_ ?_ ?_ ?_
 refine @Cv _ _ _ _ ?_
 exact (Ab 0)
 intro _ _ _ _ _
 exact (A3 (by show List.Nodup [("state" : Str)] ;decide +kernel) rfl (.inl rfl))
 intro _ _ _ _ _
 exact Cd
 intro _ _ _ _ _
 refine @An _ _ _ _ _ _ _ _ _ _ _ _ (ih .Bi) hr rfl (M.mgs .Bi) (Fun.kp (M.fn .Bi)) (M.bd .Bi) ?_ (by decide) (by rfl) (by rfl)
 refine @Aa _ _ _ _ _ ?_ Ae rfl
 exact (Ab 0)
theorem JM:FnScope (ns .Bi) (ps .Bi) (Aw (st .Bi)):=⟨rfl,rfl,rfl,by decide +kernel,rfl,by decide +kernel,by decide +kernel⟩
theorem JD (M:Md K mg A fd) (ih:∀x,FnOk P w K mg base CX0 n (A x) (fd x) (ps x) (spF K (run n x))):FnOk P w K mg base CX0 (n + 1) (A .Bi) (fd .Bi) (ps .Bi) (spF K (run (n + 1) .Bi)):=by
 refine Be (g:=fnOf 1 1 (Eh (run n .Bq) (run n .BU))) rfl (Bg rfl rfl (M.fn .Bi) JM (fun cdv A' outer s H E hr=>?_))
 refine @Ai _ _ _ _ _ _ ?_ ?_
 refine @A2 _ _ _ _ _ _ _ _ _ ?_ ?_ AE
 refine @Bs _ _ _ ?_ (by intro _;rfl)
 refine @An _ _ _ _ _ _ _ _ _ _ _ _ (ih .BU) hr rfl (M.mgs .BU) (Fun.kp (M.fn .BU)) (M.bd .BU) ?_ (by decide) (by rfl) (by rfl)
 refine @Aa _ _ _ _ _ ?_ Ae rfl
 exact (Ab 0)
 refine @Ak _ _ _ _ ?_
 exact (Aq Ao)
 refine @Ak _ _ _ _ ?_
 refine @Aq _ _ _ _ ?_
 refine D1 Ao ?_
 refine @Aa _ _ _ _ _ ?_ Ae rfl
 refine @AG _ _ _ _ _ _ _ _ _ AM AC ?_ ?_
 refine @Bn _ _ _ ?_
 refine @B5 _ _ _ _ ?_
 refine @Aa _ _ _ _ _ ?_ Ae rfl
 refine @AA _ _ _ _ _ _ _ _ As Au ?_ Af (fun _ _=>rfl)
 exact (Ab 0)
 refine @Bn _ _ _ ?_
 refine DC (Cl ["word"] [] rfl rfl rfl rfl rfl) rfl ?_ ?_ ?_ ?_
 refine @Cv _ _ _ _ ?_
 refine @AA _ _ _ _ _ _ _ _ As Au ?_ Af (fun _ _=>rfl)
 exact (Ab 0)
 intro _ _ _ _ _
 exact (A3 (by show List.Nodup [("word" : Str)] ;decide +kernel) rfl (.inl rfl))
 intro _ _ _ _ _
 exact Cd
 intro _ _ _ _ _
 refine @An _ _ _ _ _ _ _ _ _ _ _ _ (ih .Bq) hr rfl (M.mgs .Bq) (Fun.kp (M.fn .Bq)) (M.bd .Bq) ?_ (by decide) (by rfl) (by rfl)
 refine @Aa _ _ _ _ _ ?_ Ae rfl
 exact (Ab 0)
theorem Kx:FnScope (ns .Bq) (ps .Bq) (Aw (st .Bq)):=⟨rfl,rfl,rfl,by decide +kernel,rfl,by decide +kernel,by decide +kernel⟩
theorem Kt (M:Md K mg A fd) (ih:∀x,FnOk P w K mg base CX0 n (A x) (fd x) (ps x) (spF K (run n x))):FnOk P w K mg base CX0 (n + 1) (A .Bq) (fd .Bq) (ps .Bq) (spF K (run (n + 1) .Bq)):=by
 refine Be (g:=fnOf 1 1 (EF (run n .AR))) rfl (Bg rfl rfl (M.fn .Bq) Kx (fun cdv A' outer s H E hr=>?_))
 refine @Ak _ _ _ _ ?_
 refine @Aq _ _ _ _ ?_
 refine @AG _ _ _ _ _ _ _ _ _ AM AC ?_ ?_
 refine @AG _ _ _ _ _ _ _ _ _ AM AC ?_ Ao
 refine @AG _ _ _ _ _ _ _ _ _ AM AC ?_ ?_
 refine @AG _ _ _ _ _ _ _ _ _ AM AC ?_ Ao
 refine @AA _ _ _ _ _ _ _ _ As Au ?_ Af (fun _ _=>rfl)
 exact (Ab 0)
 refine @An _ _ _ _ _ _ _ _ _ _ _ _ (ih .AR) hr rfl (M.mgs .AR) (Fun.kp (M.fn .AR)) (M.bd .AR) ?_ (by decide) (by rfl) (by rfl)
 refine @Aa _ _ _ _ _ ?_ Ae rfl
 refine @AA _ _ _ _ _ _ _ _ As Au ?_ Af (fun _ _=>rfl)
 exact (Ab 0)
 refine @Ea _ _ _ _ _ _ _ _ _ _ CZ Fa rfl M.z_str Dd ?_ (by decide) (by decide) (by rfl) (by rfl)
 refine @Aa _ _ _ _ _ ?_ Ae rfl
 refine @AA _ _ _ _ _ _ _ _ As Au ?_ Af (fun _ _=>rfl)
 exact (Ab 0)
theorem sc_read_shape_:FnScope (ns .Bb) (ps .Bb) (Aw (st .Bb)):=⟨rfl,rfl,rfl,by decide +kernel,rfl,by decide +kernel,by decide +kernel⟩
theorem JB (M:Md K mg A fd) (ih:∀x,FnOk P w K mg base CX0 n (A x) (fd x) (ps x) (spF K (run n x))):FnOk P w K mg base CX0 (n + 1) (A .Bb) (fd .Bb) (ps .Bb) (spF K (run (n + 1) .Bb)):=by
 refine Be (g:=fnOf 1 2 (Ef (run n .A9) (run n .AL) (run n .AT))) rfl (Bg rfl rfl (M.fn .Bb) sc_read_shape_ (fun cdv A' outer s H E hr=>?_))
 refine @Ai _ _ _ _ _ _ ?_ ?_
 refine Es ?_
 refine @An _ _ _ _ _ _ _ _ _ _ _ _ (ih .AT) hr rfl (M.mgs .AT) (Fun.kp (M.fn .AT)) (M.bd .AT) ?_ (by decide) (by rfl) (by rfl)
 refine @Aa _ _ _ _ _ ?_ Ae rfl
 exact (Ab 0)
 refine @Ai _ _ _ _ _ _ ?_ ?_
 refine @AZ _ _ _ _ 1 _ _ _ sc_read_shape_.nd rfl (.inl rfl) ?_ (by rfl) (by first | exact .inl rfl | exact .inr rfl | assumption)
 refine @An _ _ _ _ _ _ _ _ _ _ _ _ (ih .AL) hr rfl (M.mgs .AL) (Fun.kp (M.fn .AL)) (M.bd .AL) ?_ (by decide) (by rfl) (by rfl)
 refine @Aa _ _ _ _ _ ?_ ?_ rfl
 exact (Ab 0)
 refine @Aa _ _ _ _ _ Af ?_ rfl
 exact (@Aa _ _ _ _ _ Af Ae rfl)
 refine @Ai _ _ _ _ _ _ ?_ ?_
 refine @A2 _ _ _ _ _ _ _ _ _ ?_ ?_ AE
 refine @Ce _ _ _ ?_
 refine @C8 _ _ _ _ _ _ _ ?_ ?_
 refine @AW _ _ _ _ _ _ _ _ _ (Dg hr.units) (AV (g:=fun b=>!b)) ?_ ?_ (AK _)
 refine @AA _ _ _ _ _ _ _ _ As Au ?_ Af (fun _ _=>rfl)
 exact (Ab 1)
 refine @Br _ _ _ _ _ _ _ _ _ _ BM BV rfl M.z_len B1 ?_ (by decide) (by decide) (by rfl) (by rfl)
 refine @Aa _ _ _ _ _ ?_ Ae rfl
 exact (Ab 0)
 refine @Df _ _ _ _ ?_
 refine @BK _ _ _ _ ?_
 refine @Bs _ _ _ ?_ (by intro _;rfl)
 refine @An _ _ _ _ _ _ _ _ _ _ _ _ (ih .A9) hr rfl (M.mgs .A9) (Fun.kp (M.fn .A9)) (M.bd .A9) ?_ (by decide) (by rfl) (by rfl)
 refine @Aa _ _ _ _ _ ?_ Ae rfl
 refine @AA _ _ _ _ _ _ _ _ As Au ?_ Af (fun _ _=>rfl)
 exact (Ab 1)
 exact (Ak D5)
 refine @Ak _ _ _ _ ?_
 refine @Aq _ _ _ _ ?_
 refine @AA _ _ _ _ _ _ _ _ As Au ?_ Af (fun _ _=>rfl)
 exact (Ab 1)
theorem sc_read_grammar_:FnScope (ns .AI) (ps .AI) (Aw (st .AI)):=⟨rfl,rfl,rfl,by decide +kernel,rfl,by decide +kernel,by decide +kernel⟩
theorem HK (M:Md K mg A fd) (ih:∀x,FnOk P w K mg base CX0 n (A x) (fd x) (ps x) (spF K (run n x))):FnOk P w K mg base CX0 (n + 1) (A .AI) (fd .AI) (ps .AI) (spF K (run (n + 1) .AI)):=by
 refine Be (g:=fnOf 1 2 (DH (run n .Ba) (run n .Bc) (run n .AT))) rfl (Bg rfl rfl (M.fn .AI) sc_read_grammar_ (fun cdv A' outer s H E hr=>?_))
 refine @Ai _ _ _ _ _ _ ?_ ?_
 refine Es ?_
 refine @An _ _ _ _ _ _ _ _ _ _ _ _ (ih .AT) hr rfl (M.mgs .AT) (Fun.kp (M.fn .AT)) (M.bd .AT) ?_ (by decide) (by rfl) (by rfl)
 refine @Aa _ _ _ _ _ ?_ Ae rfl
 exact (Ab 0)
 refine @Ai _ _ _ _ _ _ ?_ ?_
 refine Qy (i:=1) (Cl ["row"] [] rfl rfl rfl rfl rfl) rfl sc_read_grammar_.nd rfl rfl ?_ ?_ ?_ ?_
 refine @Cv _ _ _ _ ?_
 refine @Bn _ _ _ ?_
 refine Lq ?_ ?_
 exact (Ab 0)
 exact (@Aa _ _ _ _ _ Ao Ae rfl)
 intro _ _ _ _ _
 exact (A3 (by show List.Nodup [("row" : Str)] ;decide +kernel) rfl (.inl rfl))
 intro _ _ _ _ _
 exact Cd
 intro _ _ _ _ _
 refine @An _ _ _ _ _ _ _ _ _ _ _ _ (ih .Bc) hr rfl (M.mgs .Bc) (Fun.kp (M.fn .Bc)) (M.bd .Bc) ?_ (by decide) (by rfl) (by rfl)
 refine @Aa _ _ _ _ _ ?_ Ae rfl
 exact (Ab 0)
 refine @Ai _ _ _ _ _ _ ?_ ?_
 refine @A2 _ _ _ _ _ _ _ _ _ ?_ ?_ AE
 refine @BK _ _ _ _ ?_
 refine @Bs _ _ _ ?_ (by intro _;rfl)
 refine @An _ _ _ _ _ _ _ _ _ _ _ _ (ih .Ba) hr rfl (M.mgs .Ba) (Fun.kp (M.fn .Ba)) (M.bd .Ba) ?_ (by decide) (by rfl) (by rfl)
 refine @Aa _ _ _ _ _ ?_ Ae rfl
 exact (Ab 1)
 exact (Ak D5)
 refine @Ak _ _ _ _ ?_
 refine @Aq _ _ _ _ ?_
 exact (Ab 1)
theorem JL:FnScope (ns .AT) (ps .AT) (Aw (st .AT)):=⟨rfl,rfl,rfl,by decide +kernel,rfl,by decide +kernel,by decide +kernel⟩
theorem Jw (M:Md K mg A fd) (ih:∀x,FnOk P w K mg base CX0 n (A x) (fd x) (ps x) (spF K (run n x))):FnOk P w K mg base CX0 (n + 1) (A .AT) (fd .AT) (ps .AT) (spF K (run (n + 1) .AT)):=by
 refine Be (g:=fnOf 1 1 (Ee)) rfl (Bg rfl rfl (M.fn .AT) JL (fun cdv A' outer s H E hr=>?_))
 refine @Ak _ _ _ _ ?_
 refine @A2 _ _ _ _ _ _ _ _ _ ?_ ?_ AE
 refine @BK _ _ _ _ ?_
 refine @Bs _ _ _ ?_ (by intro _;rfl)
 refine @Br _ _ _ _ _ _ _ _ _ _ BL B2 rfl M.z_isinstance A0 ?_ (by decide) (by decide) (by rfl) (by rfl)
 refine @Aa _ _ _ _ _ ?_ ?_ rfl
 exact (Ab 0)
 refine @Aa _ _ _ _ _ ?_ Ae rfl
 exact (Cc rfl M.z_str Dd)
 exact (Ak D5)
theorem sc_state_read_:FnScope (ns .Bc) (ps .Bc) (Aw (st .Bc)):=⟨rfl,rfl,rfl,by decide +kernel,rfl,by decide +kernel,by decide +kernel⟩
theorem JE (M:Md K mg A fd) (ih:∀x,FnOk P w K mg base CX0 n (A x) (fd x) (ps x) (spF K (run n x))):FnOk P w K mg base CX0 (n + 1) (A .Bc) (fd .Bc) (ps .Bc) (spF K (run (n + 1) .Bc)):=by
 refine Be (g:=fnOf 1 2 (Ei (run n .Bm))) rfl (Bg rfl rfl (M.fn .Bc) sc_state_read_ (fun cdv A' outer s H E hr=>?_))
 refine @Ai _ _ _ _ _ _ ?_ ?_
 refine @A2 _ _ _ _ _ _ _ _ _ ?_ ?_ AE
 refine @AW _ _ _ _ _ _ _ _ _ (Bx hr.units) (AV (g:=id)) ?_ Ao (AK _)
 exact (Ab 0)
 refine @Ak _ _ _ _ ?_
 refine @Aq _ _ _ _ ?_
 refine @Bd _ _ _ _ _ ?_
 exact (@Aa _ _ _ _ _ Ao Ae rfl)
 refine @Ai _ _ _ _ _ _ ?_ ?_
 refine @AZ _ _ _ _ 1 _ _ _ sc_state_read_.nd rfl (.inl rfl) ?_ (by rfl) (by first | exact .inl rfl | exact .inr rfl | assumption)
 refine @Bn _ _ _ ?_
 refine Lq ?_ ?_
 exact (Ab 0)
 exact (@Aa _ _ _ _ _ Ao Ae rfl)
 refine @Ak _ _ _ _ ?_
 refine @Aq _ _ _ _ ?_
 refine @Bd _ _ _ _ _ ?_
 refine @Aa _ _ _ _ _ ?_ ?_ rfl
 refine @AA _ _ _ _ _ _ _ _ As Au ?_ Af (fun _ _=>rfl)
 exact (Ab 1)
 refine @Aa _ _ _ _ _ ?_ Ae rfl
 refine @Lp _ _ _ ?_
 refine DC (Cl ["part"] [] rfl rfl rfl rfl rfl) rfl ?_ ?_ ?_ ?_
 refine @Cv _ _ _ _ ?_
 refine @Ci _ _ _ _ _ _ _ _ _ _ _ sl3 CJ ?_ ?_ E6
 exact (Ab 1)
 exact (BZ Af)
 intro _ _ _ _ _
 exact (A3 (by show List.Nodup [("part" : Str)] ;decide +kernel) rfl (.inl rfl))
 intro _ _ _ _ _
 exact Cd
 intro _ _ _ _ _
 refine @An _ _ _ _ _ _ _ _ _ _ _ _ (ih .Bm) hr rfl (M.mgs .Bm) (Fun.kp (M.fn .Bm)) (M.bd .Bm) ?_ (by decide) (by rfl) (by rfl)
 refine @Aa _ _ _ _ _ ?_ Ae rfl
 exact (Ab 0)
theorem sc_word_read_:FnScope (ns .Bm) (ps .Bm) (Aw (st .Bm)):=⟨rfl,rfl,rfl,by decide +kernel,rfl,by decide +kernel,by decide +kernel⟩
theorem Ku (M:Md K mg A fd) (ih:∀x,FnOk P w K mg base CX0 n (A x) (fd x) (ps x) (spF K (run n x))):FnOk P w K mg base CX0 (n + 1) (A .Bm) (fd .Bm) (ps .Bm) (spF K (run (n + 1) .Bm)):=by
 refine Be (g:=fnOf 1 3 (EG (run n .A6) (run n .Bb))) rfl (Bg rfl rfl (M.fn .Bm) sc_word_read_ (fun cdv A' outer s H E hr=>?_))
 refine @Ai _ _ _ _ _ _ ?_ ?_
 refine @AZ _ _ _ _ 1 _ _ _ sc_word_read_.nd rfl (.inl rfl) ?_ (by rfl) (by first | exact .inl rfl | exact .inr rfl | assumption)
 refine SH ?_ ?_
 exact (Ab 0)
 exact (@Aa _ _ _ _ _ Ao Ae rfl)
 refine @Ai _ _ _ _ _ _ ?_ ?_
 refine @AZ _ _ _ _ 2 _ _ _ sc_word_read_.nd rfl (.inl rfl) ?_ (by rfl) (by first | exact .inl rfl | exact .inr rfl | assumption)
 refine Qx ?_ ?_
 refine @AA _ _ _ _ _ _ _ _ As Au ?_ Af (fun _ _=>rfl)
 exact (Ab 1)
 exact (@Aa _ _ _ _ _ Ao Ae rfl)
 refine @Ak _ _ _ _ ?_
 refine @Aq _ _ _ _ ?_
 refine @Bd _ _ _ _ _ ?_
 refine @Aa _ _ _ _ _ ?_ ?_ rfl
 refine @AA _ _ _ _ _ _ _ _ As Au ?_ Af (fun _ _=>rfl)
 exact (Ab 1)
 refine @Aa _ _ _ _ _ ?_ ?_ rfl
 refine @An _ _ _ _ _ _ _ _ _ _ _ _ (ih .Bb) hr rfl (M.mgs .Bb) (Fun.kp (M.fn .Bb)) (M.bd .Bb) ?_ (by decide) (by rfl) (by rfl)
 refine @Aa _ _ _ _ _ ?_ Ae rfl
 refine @AA _ _ _ _ _ _ _ _ As Au ?_ Af (fun _ _=>rfl)
 exact (Ab 2)
 refine @Aa _ _ _ _ _ ?_ Ae rfl
 refine @An _ _ _ _ _ _ _ _ _ _ _ _ (ih .A6) hr rfl (M.mgs .A6) (Fun.kp (M.fn .A6)) (M.bd .A6) ?_ (by decide) (by rfl) (by rfl)
 refine @Aa _ _ _ _ _ ?_ Ae rfl
 refine @AA _ _ _ _ _ _ _ _ As Au ?_ Af (fun _ _=>rfl)
 exact (Ab 2)
theorem sc_number_read_:FnScope (ns .A6) (ps .A6) (Aw (st .A6)):=⟨rfl,rfl,rfl,by decide +kernel,rfl,by decide +kernel,by decide +kernel⟩
theorem IE (M:Md K mg A fd) (ih:∀x,FnOk P w K mg base CX0 n (A x) (fd x) (ps x) (spF K (run n x))):FnOk P w K mg base CX0 (n + 1) (A .A6) (fd .A6) (ps .A6) (spF K (run (n + 1) .A6)):=by
 refine Be (g:=fnOf 1 2 (DY (run n .AY))) rfl (Bg rfl rfl (M.fn .A6) sc_number_read_ (fun cdv A' outer s H E hr=>?_))
 refine @Ai _ _ _ _ _ _ ?_ ?_
 refine @AZ _ _ _ _ 1 _ _ _ sc_number_read_.nd rfl (.inl rfl) ?_ (by rfl) (by first | exact .inl rfl | exact .inr rfl | assumption)
 refine @An _ _ _ _ _ _ _ _ _ _ _ _ (ih .AY) hr rfl (M.mgs .AY) (Fun.kp (M.fn .AY)) (M.bd .AY) ?_ (by decide) (by rfl) (by rfl)
 refine @Aa _ _ _ _ _ ?_ ?_ rfl
 exact (Ab 0)
 exact (@Aa _ _ _ _ _ Af Ae rfl)
 refine @Ai _ _ _ _ _ _ ?_ ?_
 refine @A2 _ _ _ _ _ _ _ _ _ ?_ ?_ AE
 refine @AW _ _ _ _ _ _ _ _ _ (Dg hr.units) (AV (g:=fun b=>!b)) ?_ ?_ (AK _)
 refine @AA _ _ _ _ _ _ _ _ As Au ?_ Af (fun _ _=>rfl)
 exact (Ab 1)
 refine @Br _ _ _ _ _ _ _ _ _ _ BM BV rfl M.z_len B1 ?_ (by decide) (by decide) (by rfl) (by rfl)
 refine @Aa _ _ _ _ _ ?_ Ae rfl
 exact (Ab 0)
 exact (Ak D5)
 refine @Ak _ _ _ _ ?_
 refine @Aq _ _ _ _ ?_
 refine @AA _ _ _ _ _ _ _ _ As Au ?_ Af (fun _ _=>rfl)
 exact (Ab 1)
theorem sc_shape_at_:FnScope (ns .AL) (ps .AL) (Aw (st .AL)):=⟨rfl,rfl,rfl,by decide +kernel,rfl,by decide +kernel,by decide +kernel⟩
theorem LO (M:Md K mg A fd) (TB:TabAt base mg cc Pt) (ih:∀x,FnOk P w K mg base CX0 n (A x) (fd x) (ps x) (spF K (run n x))):FnOk P w K mg base CX0 (n + 1) (A .AL) (fd .AL) (ps .AL) (spF K (run (n + 1) .AL)):=by
 obtain ⟨_,g_LETTERS⟩:=M.g_LETTERS
 obtain ⟨_,g_MOST_DEPTH⟩:=M.g_MOST_DEPTH
 refine Be (g:=fnOf 3 6 (EY lamD Pt 146 40 (run n .BD) (run n .BO) (run n .AD))) rfl (UI rfl rfl (M.fn .AL) M.cd sc_shape_at_ (fun A' outer s H E hr=>?_))
 refine @Ai _ _ _ _ _ _ ?_ ?_
 refine @A2 _ _ _ _ _ _ _ _ _ ?_ ?_ AE
 refine @AW _ _ _ _ _ _ _ _ _ IF Hj ?_ ?_ (AK _)
 exact (Ab 2)
 exact (Cs rfl g_MOST_DEPTH)
 exact (Ak D5)
 refine @Ai _ _ _ _ _ _ ?_ ?_
 refine @AZ _ _ _ _ 3 _ _ _ sc_shape_at_.nd rfl (.inl rfl) ?_ (by rfl) (by first | exact .inl rfl | exact .inr rfl | assumption)
 refine @An _ _ _ _ _ _ _ _ _ _ _ _ (ih .AD) hr rfl (M.mgs .AD) (Fun.kp (M.fn .AD)) (M.bd .AD) ?_ (by decide) (by rfl) (by rfl)
 refine @Aa _ _ _ _ _ ?_ ?_ rfl
 exact (Ab 0)
 refine @Aa _ _ _ _ _ ?_ ?_ rfl
 exact (Ab 1)
 refine @Aa _ _ _ _ _ ?_ Ae rfl
 exact (HC rfl g_LETTERS)
 refine @Ai _ _ _ _ _ _ ?_ ?_
 refine @AZ _ _ _ _ 4 _ _ _ sc_shape_at_.nd rfl (.inl rfl) ?_ (by rfl) (by first | exact .inl rfl | exact .inr rfl | assumption)
 refine @Ci _ _ _ _ _ _ _ _ _ _ _ sl3 CJ ?_ ?_ ?_
 exact (Ab 0)
 refine BZ ?_
 exact (Ab 1)
 refine BZ ?_
 exact (Ab 3)
 refine @Ai _ _ _ _ _ _ ?_ ?_
 refine @A2 _ _ _ _ _ _ _ _ _ ?_ ?_ AE
 refine @BK _ _ _ _ ?_
 refine @Bs _ _ _ ?_ (by intro _;rfl)
 refine Fw ?_ ?_
 exact (Ab 0)
 refine @Aa _ _ _ _ _ Ao ?_ rfl
 refine @Aa _ _ _ _ _ ?_ Ae rfl
 exact (Ab 3)
 refine @Ak _ _ _ _ ?_
 refine @Aq _ _ _ _ ?_
 refine @Bd _ _ _ _ _ ?_
 refine @Aa _ _ _ _ _ ?_ ?_ rfl
 refine @Bd _ _ _ _ _ ?_
 refine @Aa _ _ _ _ _ ?_ Ae rfl
 exact (Ab 4)
 refine @Aa _ _ _ _ _ ?_ Ae rfl
 exact (Ab 3)
 refine @Ai _ _ _ _ _ _ ?_ ?_
 refine @AZ _ _ _ _ 5 _ _ _ sc_shape_at_.nd rfl (.inl rfl) ?_ (by rfl) (by first | exact .inl rfl | exact .inr rfl | assumption)
 refine @An _ _ _ _ _ _ _ _ _ _ _ _ (ih .BO) hr rfl (M.mgs .BO) (Fun.kp (M.fn .BO)) (M.bd .BO) ?_ (by decide) (by rfl) (by rfl)
 refine @Aa _ _ _ _ _ ?_ ?_ rfl
 exact (Ab 0)
 refine @Aa _ _ _ _ _ ?_ ?_ rfl
 refine @AG _ _ _ _ _ _ _ _ _ AM AC ?_ Af
 exact (Ab 3)
 refine @Aa _ _ _ _ _ Ao ?_ rfl
 refine @Aa _ _ _ _ _ ?_ Ae rfl
 exact (UE (kt:=0) (c:=cc) (P:=Pt) (L:=lamD) (cs:=[s.heap.objs.size + 1 ,s.heap.objs.size + 1 + 1]) (js:=[0 ,2]) TB rfl rfl rfl (by simp) rfl rfl (.cons ⟨rfl ,rfl ,rfl ,rfl ,SK⟩ (.cons ⟨rfl ,rfl ,rfl ,rfl ,Qz⟩ .nil)))
 refine @Ak _ _ _ _ ?_
 refine @Aq _ _ _ _ ?_
 refine @Bd _ _ _ _ _ ?_
 refine @Aa _ _ _ _ _ ?_ ?_ rfl
 refine @An _ _ _ _ _ _ _ _ _ _ _ _ (ih .BD) hr rfl (M.mgs .BD) (Fun.kp (M.fn .BD)) (M.bd .BD) ?_ (by decide) (by rfl) (by rfl)
 refine @Aa _ _ _ _ _ ?_ ?_ rfl
 exact (Ab 4)
 refine @Aa _ _ _ _ _ ?_ Ae rfl
 refine @Ea _ _ _ _ _ _ _ _ _ _ ER JP rfl M.z_tuple CS ?_ (by decide) (by decide) (by rfl) (by rfl)
 refine @Aa _ _ _ _ _ ?_ Ae rfl
 refine @AA _ _ _ _ _ _ _ _ As Au ?_ Af (fun _ _=>rfl)
 exact (Ab 5)
 refine @Aa _ _ _ _ _ ?_ Ae rfl
 refine @AA _ _ _ _ _ _ _ _ As Au ?_ Af (fun _ _=>rfl)
 exact (Ab 5)
theorem Mb:FnScope (ns .BD) (ps .BD) (Aw (st .BD)):=⟨rfl,rfl,rfl,by decide +kernel,rfl,by decide +kernel,by decide +kernel⟩
theorem LP (M:Md K mg A fd) (ih:∀x,FnOk P w K mg base CX0 n (A x) (fd x) (ps x) (spF K (run n x))):FnOk P w K mg base CX0 (n + 1) (A .BD) (fd .BD) (ps .BD) (spF K (run (n + 1) .BD)):=by
 refine Be (g:=fnOf 2 2 (EZ)) rfl (Bg rfl rfl (M.fn .BD) Mb (fun cdv A' outer s H E hr=>?_))
 refine @Ak _ _ _ _ ?_
 refine @Aq _ _ _ _ ?_
 refine Fg ?_ ?_ ?_
 refine @AW _ _ _ _ _ _ _ _ _ (Bx hr.units) (AV (g:=id)) ?_ Ao (AK _)
 exact (Ab 0)
 refine @Bd _ _ _ _ _ ?_
 refine @Aa _ _ _ _ _ ?_ ?_ rfl
 exact (Ab 0)
 refine @Aa _ _ _ _ _ ?_ Ae rfl
 exact (Ab 1)
 refine @AG _ _ _ _ _ _ _ _ _ AM AC ?_ ?_
 refine @Bd _ _ _ _ _ ?_
 refine @Aa _ _ _ _ _ ?_ Ae rfl
 exact (Ab 0)
 exact (Ab 1)
theorem sc_part_at_:FnScope (ns .BI) (ps .BI) (Aw (st .BI)):=⟨rfl,rfl,rfl,by decide +kernel,rfl,by decide +kernel,by decide +kernel⟩
theorem ML (M:Md K mg A fd) (ih:∀x,FnOk P w K mg base CX0 n (A x) (fd x) (ps x) (spF K (run n x))):FnOk P w K mg base CX0 (n + 1) (A .BI) (fd .BI) (ps .BI) (spF K (run (n + 1) .BI)):=by
 obtain ⟨_,g_LETTERS⟩:=M.g_LETTERS
 refine Be (g:=fnOf 3 4 (FD (run n .AL) (run n .AY) (run n .AD))) rfl (Bg rfl rfl (M.fn .BI) sc_part_at_ (fun cdv A' outer s H E hr=>?_))
 refine @Ai _ _ _ _ _ _ ?_ ?_
 refine @AZ _ _ _ _ 3 _ _ _ sc_part_at_.nd rfl (.inl rfl) ?_ (by rfl) (by first | exact .inl rfl | exact .inr rfl | assumption)
 refine @Eb _ _ _ _ _ _ _ _ _ IF Hj ?_ ?_ (AK _)
 refine @An _ _ _ _ _ _ _ _ _ _ _ _ (ih .AD) hr rfl (M.mgs .AD) (Fun.kp (M.fn .AD)) (M.bd .AD) ?_ (by decide) (by rfl) (by rfl)
 refine @Aa _ _ _ _ _ ?_ ?_ rfl
 exact (Ab 0)
 refine @Aa _ _ _ _ _ ?_ ?_ rfl
 exact (Ab 1)
 refine @Aa _ _ _ _ _ ?_ Ae rfl
 exact (HC rfl g_LETTERS)
 exact (Ab 1)
 refine @Ak _ _ _ _ ?_
 refine @Aq _ _ _ _ ?_
 refine Fg ?_ ?_ ?_
 refine @Bs _ _ _ ?_ (by intro _;rfl)
 exact (Ab 3)
 refine @An _ _ _ _ _ _ _ _ _ _ _ _ (ih .AL) hr rfl (M.mgs .AL) (Fun.kp (M.fn .AL)) (M.bd .AL) ?_ (by decide) (by rfl) (by rfl)
 refine @Aa _ _ _ _ _ ?_ ?_ rfl
 exact (Ab 0)
 refine @Aa _ _ _ _ _ ?_ ?_ rfl
 exact (Ab 1)
 refine @Aa _ _ _ _ _ ?_ Ae rfl
 exact (Ab 2)
 refine @An _ _ _ _ _ _ _ _ _ _ _ _ (ih .AY) hr rfl (M.mgs .AY) (Fun.kp (M.fn .AY)) (M.bd .AY) ?_ (by decide) (by rfl) (by rfl)
 refine @Aa _ _ _ _ _ ?_ ?_ rfl
 exact (Ab 0)
 refine @Aa _ _ _ _ _ ?_ Ae rfl
 exact (Ab 1)
theorem sc_row_at_:FnScope (ns .BO) (ps .BO) (Aw (st .BO)):=⟨rfl,rfl,rfl,by decide +kernel,rfl,by decide +kernel,by decide +kernel⟩
theorem Oa (M:Md K mg A fd) (ihL:KU P w K mg base n lamD "start" (Jp n)) (ih:∀x,FnOk P w K mg base CX0 n (A x) (fd x) (ps x) (spF K (run n x))):FnOk P w K mg base CX0 (n + 1) (A .BO) (fd .BO) (ps .BO) (spF K (run (n + 1) .BO)):=by
 refine Be (g:=fnOf 4 6 (Go lamD (Jp n) (run n .A4))) rfl (Bg rfl rfl (M.fn .BO) sc_row_at_ (fun cdv A' outer s H E hr=>?_))
 refine @Ai _ _ _ _ _ _ ?_ ?_
 refine @AZ _ _ _ _ 4 _ _ _ sc_row_at_.nd rfl (.inl rfl) ?_ (by rfl) (by first | exact .inl rfl | exact .inr rfl | assumption)
 refine Ln (L:=lamD) (Pg n) ihL hr UU (i:=3) rfl (.inl rfl) ?_
 refine @Aa _ _ _ _ _ ?_ Ae rfl
 exact (Ab 1)
 refine @Ai _ _ _ _ _ _ ?_ ?_
 refine @Ls _ _ _ _ 5 _ _ _ sc_row_at_.nd rfl (.inl rfl) ?_ (by rfl) (by first | exact .inl rfl | exact .inr rfl | assumption)
 refine @B5 _ _ _ _ ?_
 refine @Aa _ _ _ _ _ ?_ Ae rfl
 refine @AA _ _ _ _ _ _ _ _ As Au ?_ Af (fun _ _=>rfl)
 exact (Ab 4)
 refine @Ai _ _ _ _ _ _ ?_ ?_
 refine Lv PassesOwn.never ?_ ?_
 refine @Bs _ _ _ ?_ (by intro _;rfl)
 refine Fw ?_ ?_
 exact (Ab 0)
 refine @Aa _ _ _ _ _ Ao ?_ rfl
 refine @Aa _ _ _ _ _ ?_ Ae rfl
 refine @AA _ _ _ _ _ _ _ _ As Au ?_ Af (fun _ _=>rfl)
 exact (Ab 4)
 refine @Ai _ _ _ _ _ _ ?_ ?_
 refine @AZ _ _ _ _ 4 _ _ _ sc_row_at_.nd rfl (.inl rfl) ?_ (by rfl) (by first | exact .inl rfl | exact .inr rfl | assumption)
 refine Ln (L:=lamD) (Pg n) ihL hr UU (i:=3) rfl (.inl rfl) ?_
 refine @Aa _ _ _ _ _ ?_ Ae rfl
 refine @AG _ _ _ _ _ _ _ _ _ AM AC ?_ Af
 refine @AA _ _ _ _ _ _ _ _ As Au ?_ Af (fun _ _=>rfl)
 exact (Ab 4)
 refine @Ak _ _ _ _ ?_
 refine Iq 5 ?_
 refine @Aa _ _ _ _ _ ?_ Ae rfl
 refine @AA _ _ _ _ _ _ _ _ As Au ?_ Af (fun _ _=>rfl)
 exact (Ab 4)
 refine @Ak _ _ _ _ ?_
 refine @Aq _ _ _ _ ?_
 refine @Bd _ _ _ _ _ ?_
 refine @Aa _ _ _ _ _ ?_ ?_ rfl
 exact (Ab 5)
 refine @Aa _ _ _ _ _ ?_ Ae rfl
 refine @An _ _ _ _ _ _ _ _ _ _ _ _ (ih .A4) hr rfl (M.mgs .A4) (Fun.kp (M.fn .A4)) (M.bd .A4) ?_ (by decide) (by rfl) (by rfl)
 refine @Aa _ _ _ _ _ ?_ ?_ rfl
 exact (Ab 0)
 refine @Aa _ _ _ _ _ ?_ ?_ rfl
 refine @AA _ _ _ _ _ _ _ _ As Au ?_ Af (fun _ _=>rfl)
 exact (Ab 4)
 refine @Aa _ _ _ _ _ ?_ Ae rfl
 exact (Ab 2)
theorem sc_number_at_:FnScope (ns .AY) (ps .AY) (Aw (st .AY)):=⟨rfl,rfl,rfl,by decide +kernel,rfl,by decide +kernel,by decide +kernel⟩
theorem Kr (M:Md K mg A fd) (ih:∀x,FnOk P w K mg base CX0 n (A x) (fd x) (ps x) (spF K (run n x))):FnOk P w K mg base CX0 (n + 1) (A .AY) (fd .AY) (ps .AY) (spF K (run (n + 1) .AY)):=by
 obtain ⟨_,g_FIGURES⟩:=M.g_FIGURES
 obtain ⟨_,g_MOST_FIGURES⟩:=M.g_MOST_FIGURES
 refine Be (g:=fnOf 2 5 (ED (run n .AD))) rfl (Bg rfl rfl (M.fn .AY) sc_number_at_ (fun cdv A' outer s H E hr=>?_))
 refine @Ai _ _ _ _ _ _ ?_ ?_
 refine @AZ _ _ _ _ 2 _ _ _ sc_number_at_.nd rfl (.inl rfl) ?_ (by rfl) (by first | exact .inl rfl | exact .inr rfl | assumption)
 refine Fg ?_ ?_ ?_
 refine @Bs _ _ _ ?_ (by intro _;rfl)
 refine Fw ?_ ?_
 exact (Ab 0)
 refine @Aa _ _ _ _ _ Ao ?_ rfl
 refine @Aa _ _ _ _ _ ?_ Ae rfl
 exact (Ab 1)
 refine @AG _ _ _ _ _ _ _ _ _ AM AC ?_ Af
 exact (Ab 1)
 exact (Ab 1)
 refine @Ai _ _ _ _ _ _ ?_ ?_
 refine @AZ _ _ _ _ 3 _ _ _ sc_number_at_.nd rfl (.inl rfl) ?_ (by rfl) (by first | exact .inl rfl | exact .inr rfl | assumption)
 refine @An _ _ _ _ _ _ _ _ _ _ _ _ (ih .AD) hr rfl (M.mgs .AD) (Fun.kp (M.fn .AD)) (M.bd .AD) ?_ (by decide) (by rfl) (by rfl)
 refine @Aa _ _ _ _ _ ?_ ?_ rfl
 exact (Ab 0)
 refine @Aa _ _ _ _ _ ?_ ?_ rfl
 exact (Ab 2)
 refine @Aa _ _ _ _ _ ?_ Ae rfl
 exact (HC rfl g_FIGURES)
 refine @Ai _ _ _ _ _ _ ?_ ?_
 refine @A2 _ _ _ _ _ _ _ _ _ ?_ ?_ AE
 refine @BK _ _ _ _ ?_
 refine Et CQ CQ Ch Ch Af ?_ ?_
 refine @AG _ _ _ _ _ _ _ _ _ Ej DK ?_ ?_
 exact (Ab 3)
 exact (Ab 2)
 exact (Cs rfl g_MOST_FIGURES)
 exact (Ak D5)
 refine @Ai _ _ _ _ _ _ ?_ ?_
 refine @AZ _ _ _ _ 4 _ _ _ sc_number_at_.nd rfl (.inl rfl) ?_ (by rfl) (by first | exact .inl rfl | exact .inr rfl | assumption)
 refine @Ea _ _ _ _ _ _ _ _ _ _ OI Ra rfl M.z_int K6 ?_ (by decide) (by decide) (by rfl) (by rfl)
 refine @Aa _ _ _ _ _ ?_ Ae rfl
 refine @Ci _ _ _ _ _ _ _ _ _ _ _ sl3 CJ ?_ ?_ ?_
 exact (Ab 0)
 refine BZ ?_
 exact (Ab 1)
 refine BZ ?_
 exact (Ab 3)
 refine @Ai _ _ _ _ _ _ ?_ ?_
 refine @A2 _ _ _ _ _ _ _ _ _ ?_ ?_ AE
 refine @AW _ _ _ _ _ _ _ _ _ (Dg hr.units) (AV (g:=fun b=>!b)) ?_ ?_ (AK _)
 refine @Ea _ _ _ _ _ _ _ _ _ _ CZ Fa rfl M.z_str Dd ?_ (by decide) (by decide) (by rfl) (by rfl)
 refine @Aa _ _ _ _ _ ?_ Ae rfl
 exact (Ab 4)
 refine @Ci _ _ _ _ _ _ _ _ _ _ _ sl3 CJ ?_ ?_ ?_
 exact (Ab 0)
 refine BZ ?_
 exact (Ab 1)
 refine BZ ?_
 exact (Ab 3)
 exact (Ak D5)
 refine @Ak _ _ _ _ ?_
 refine @Aq _ _ _ _ ?_
 refine @Bd _ _ _ _ _ ?_
 refine @Aa _ _ _ _ _ ?_ ?_ rfl
 exact (Ab 4)
 refine @Aa _ _ _ _ _ ?_ Ae rfl
 exact (Ab 3)
theorem IJ:FnScope (ns .A4) (ps .A4) (Aw (st .A4)):=⟨rfl,rfl,rfl,by decide +kernel,rfl,by decide +kernel,by decide +kernel⟩
theorem IC (M:Md K mg A fd) (ih:∀x,FnOk P w K mg base CX0 n (A x) (fd x) (ps x) (spF K (run n x))):FnOk P w K mg base CX0 (n + 1) (A .A4) (fd .A4) (ps .A4) (spF K (run (n + 1) .A4)):=by
 refine Be (g:=fnOf 3 3 (DW)) rfl (Bg rfl rfl (M.fn .A4) IJ (fun cdv A' outer s H E hr=>?_))
 refine @Ai _ _ _ _ _ _ ?_ ?_
 refine @A2 _ _ _ _ _ _ _ _ _ ?_ ?_ AE
 refine @BK _ _ _ _ ?_
 refine @Bs _ _ _ ?_ (by intro _;rfl)
 refine Fw ?_ ?_
 exact (Ab 0)
 refine @Aa _ _ _ _ _ ?_ ?_ rfl
 exact (Ab 2)
 refine @Aa _ _ _ _ _ ?_ Ae rfl
 exact (Ab 1)
 exact (Ak D5)
 refine @Ak _ _ _ _ ?_
 refine @Aq _ _ _ _ ?_
 refine @AG _ _ _ _ _ _ _ _ _ AM AC ?_ Af
 exact (Ab 1)
theorem sc_behind_all_:FnScope (ns .AD) (ps .AD) (Aw (st .AD)):=⟨rfl,rfl,rfl,by decide +kernel,rfl,by decide +kernel,by decide +kernel⟩
theorem Jv (M:Md K mg A fd) (ih:∀x,FnOk P w K mg base CX0 n (A x) (fd x) (ps x) (spF K (run n x))):FnOk P w K mg base CX0 (n + 1) (A .AD) (fd .AD) (ps .AD) (spF K (run (n + 1) .AD)):=by
 refine Be (g:=fnOf 3 4 (Ed)) rfl (Bg rfl rfl (M.fn .AD) sc_behind_all_ (fun cdv A' outer s H E hr=>?_))
 refine @Ai _ _ _ _ _ _ ?_ ?_
 refine @AZ _ _ _ _ 3 _ _ _ sc_behind_all_.nd rfl (.inl rfl) ?_ (by rfl) (by first | exact .inl rfl | exact .inr rfl | assumption)
 exact (Ab 1)
 refine @Ai _ _ _ _ _ _ ?_ ?_
 refine Lv PassesOwn.never ?_ ?_
 refine @Ce _ _ _ ?_
 refine @Ec _ _ _ _ _ _ _ ?_ ?_
 refine @AW _ _ _ _ _ _ _ _ _ F6 E8 ?_ ?_ (AK _)
 exact (Ab 3)
 refine @Br _ _ _ _ _ _ _ _ _ _ BM BV rfl M.z_len B1 ?_ (by decide) (by decide) (by rfl) (by rfl)
 refine @Aa _ _ _ _ _ ?_ Ae rfl
 exact (Ab 0)
 refine @D6 _ _ _ _ ?_
 refine @AW _ _ _ _ _ _ _ _ _ U4 TW ?_ ?_ (by with_unfolding_all rfl)
 refine @AA _ _ _ _ _ _ _ _ As Au ?_ ?_ (fun _ _=>rfl)
 exact (Ab 0)
 exact (Ab 3)
 exact (Ab 2)
 refine @Ak _ _ _ _ ?_
 refine @AZ _ _ _ _ 3 _ _ _ sc_behind_all_.nd rfl (.inl rfl) ?_ (by rfl) (by first | exact .inl rfl | exact .inr rfl | assumption)
 refine @AG _ _ _ _ _ _ _ _ _ AM AC ?_ Af
 exact (Ab 3)
 refine @Ak _ _ _ _ ?_
 refine @Aq _ _ _ _ ?_
 exact (Ab 3)
theorem sc_f_law_nth:FnScope (ns .BC) (ps .BC) (Aw (st .BC)):=⟨rfl,rfl,rfl,by decide +kernel,rfl,by decide +kernel,by decide +kernel⟩
theorem LK (M:Md K mg A fd) (ih:∀x,FnOk P w K mg base CX0 n (A x) (fd x) (ps x) (spF K (run n x))):FnOk P w K mg base CX0 (n + 1) (A .BC) (fd .BC) (ps .BC) (spF K (run (n + 1) .BC)):=by
 refine Be (g:=fnOf 2 3 (EB)) rfl (Bg rfl rfl (M.fn .BC) sc_f_law_nth (fun cdv A' outer s H E hr=>?_))
 refine @Ai _ _ _ _ _ _ ?_ ?_
 refine @Dy _ _ _ _ _ _ _ _ _ PassesOwn.never rfl ?_ ?_ ?_ (by intro _;rfl)
 refine @Cv _ _ _ _ ?_
 refine @Ci _ _ _ _ _ _ _ _ _ _ _ sl3 CJ ?_ ?_ ?_
 exact (Ab 0)
 refine BZ ?_
 exact (Ab 1)
 refine BZ ?_
 refine @AG _ _ _ _ _ _ _ _ _ AM AC ?_ Af
 exact (Ab 1)
 exact (A3 sc_f_law_nth.nd rfl (.inl rfl))
 refine @Ak _ _ _ _ ?_
 refine @Aq _ _ _ _ ?_
 exact (Ab 2)
 refine @Ak _ _ _ _ ?_
 exact (Aq Af)
theorem sc_f_law_pool:FnScope (ns .AF) (ps .AF) (Aw (st .AF)):=⟨rfl,rfl,rfl,by decide +kernel,rfl,by decide +kernel,by decide +kernel⟩
theorem Ko (M:Md K mg A fd) (ih:∀x,FnOk P w K mg base CX0 n (A x) (fd x) (ps x) (spF K (run n x))):FnOk P w K mg base CX0 (n + 1) (A .AF) (fd .AF) (ps .AF) (spF K (run (n + 1) .AF)):=by
 refine Be (g:=fnOf 2 3 (Dp (run n .BC))) rfl (Bg rfl rfl (M.fn .AF) sc_f_law_pool (fun cdv A' outer s H E hr=>?_))
 refine @Ai _ _ _ _ _ _ ?_ ?_
 refine @AZ _ _ _ _ 2 _ _ _ sc_f_law_pool.nd rfl (.inl rfl) ?_ (by rfl) (by first | exact .inl rfl | exact .inr rfl | assumption)
 refine @An _ _ _ _ _ _ _ _ _ _ _ _ (ih .BC) hr rfl (M.mgs .BC) (Fun.kp (M.fn .BC)) (M.bd .BC) ?_ (by decide) (by rfl) (by rfl)
 refine @Aa _ _ _ _ _ ?_ ?_ rfl
 exact (Ab 0)
 refine @Aa _ _ _ _ _ ?_ Ae rfl
 exact (Ab 1)
 refine @Ak _ _ _ _ ?_
 refine @Aq _ _ _ _ ?_
 refine SG ?_
 refine HD ?_ ?_
 exact (Ab 2)
 refine HD ?_ ?_
 refine @Eb _ _ _ _ _ _ _ _ _ F6 E8 ?_ ?_ (AK _)
 exact (Ab 2)
 exact (AG IG Hl Af Af)
 refine HD ?_ SJ
 refine @AG _ _ _ _ _ _ _ _ _ AM AC Af ?_
 refine @AG _ _ _ _ _ _ _ _ _ Ng Mc Af ?_
 exact (Ab 1)
theorem sc_f_law_take:FnScope (ns .Ag) (ps .Ag) (Aw (st .Ag)):=⟨rfl,rfl,rfl,by decide +kernel,rfl,by decide +kernel,by decide +kernel⟩
theorem Kp (M:Md K mg A fd) (ih:∀x,FnOk P w K mg base CX0 n (A x) (fd x) (ps x) (spF K (run n x))):FnOk P w K mg base CX0 (n + 1) (A .Ag) (fd .Ag) (ps .Ag) (spF K (run (n + 1) .Ag)):=by
 refine Be (g:=fnOf 2 3 (Dq)) rfl (Bg rfl rfl (M.fn .Ag) sc_f_law_take (fun cdv A' outer s H E hr=>?_))
 refine @Ai _ _ _ _ _ _ ?_ ?_
 refine @AZ _ _ _ _ 2 _ _ _ sc_f_law_take.nd rfl (.inl rfl) ?_ (by rfl) (by first | exact .inl rfl | exact .inr rfl | assumption)
 refine @AA _ _ _ _ _ _ _ _ Iv FF ?_ Ao (fun _ _=>rfl)
 exact (Ab 0)
 refine @Ai _ _ _ _ _ _ ?_ ?_
 refine @A2 _ _ _ _ _ _ _ _ _ ?_ ?_ AE
 refine @BK _ _ _ _ ?_
 refine @Bs _ _ _ ?_ (by intro _;rfl)
 refine @AA _ _ _ _ _ _ _ _ Iv FF ?_ Ao (fun _ _=>rfl)
 exact (Ab 0)
 refine @Ai _ _ _ _ _ _ ?_ ?_
 refine F0 ?_ ?_
 refine @AG _ _ _ _ _ _ _ _ _ LR J8 ?_ ?_
 exact (Ab 2)
 exact (Ab 1)
 refine GU ?_ Ao
 exact (Ab 0)
 refine @Ak _ _ _ _ ?_
 refine @Aq _ _ _ _ ?_
 refine @AG _ _ _ _ _ _ _ _ _ F7 E9 ?_ ?_
 exact (Ab 2)
 exact (Ab 1)
 refine @Ai _ _ _ _ _ _ ?_ ?_
 refine F0 ?_ ?_
 refine @AG _ _ _ _ _ _ _ _ _ AM AC ?_ Af
 refine @AA _ _ _ _ _ _ _ _ Iv FF ?_ Ao (fun _ _=>rfl)
 exact (Ab 0)
 refine GU ?_ Ao
 exact (Ab 0)
 refine @Ai _ _ _ _ _ _ ?_ ?_
 refine @AZ _ _ _ _ 2 _ _ _ sc_f_law_take.nd rfl (.inl rfl) ?_ (by rfl) (by first | exact .inl rfl | exact .inr rfl | assumption)
 refine @AG _ _ _ _ _ _ _ _ _ AM AC ?_ ?_
 refine @AG _ _ _ _ _ _ _ _ _ F7 E9 ?_ Af
 exact (Ab 2)
 refine @AG _ _ _ _ _ _ _ _ _ JF HV Af ?_
 refine @AA _ _ _ _ _ _ _ _ Iv FF ?_ Ao (fun _ _=>rfl)
 exact (Ab 0)
 refine @Ai _ _ _ _ _ _ ?_ ?_
 refine @AZ _ _ _ _ 2 _ _ _ sc_f_law_take.nd rfl (.inl rfl) ?_ (by rfl) (by first | exact .inl rfl | exact .inr rfl | assumption)
 refine @AG _ _ _ _ _ _ _ _ _ F7 E9 ?_ Af
 refine @AG _ _ _ _ _ _ _ _ _ JF HV ?_ ?_
 exact (Ab 2)
 refine @AG _ _ _ _ _ _ _ _ _ AM AC ?_ Af
 exact (Ab 2)
 refine @Ai _ _ _ _ _ _ ?_ ?_
 refine @AZ _ _ _ _ 2 _ _ _ sc_f_law_take.nd rfl (.inl rfl) ?_ (by rfl) (by first | exact .inl rfl | exact .inr rfl | assumption)
 refine @AG _ _ _ _ _ _ _ _ _ F7 E9 ?_ Af
 refine @AG _ _ _ _ _ _ _ _ _ JF HV ?_ ?_
 exact (Ab 2)
 exact (Ab 2)
 refine @Ai _ _ _ _ _ _ ?_ ?_
 refine F0 ?_ ?_
 exact (Ab 2)
 refine GU ?_ Ao
 exact (Ab 0)
 refine @Ak _ _ _ _ ?_
 refine @Aq _ _ _ _ ?_
 refine @AG _ _ _ _ _ _ _ _ _ F7 E9 ?_ ?_
 refine @AG _ _ _ _ _ _ _ _ _ LR J8 ?_ Af
 exact (Ab 2)
 exact (Ab 1)
theorem sc_f_law_shape:FnScope (ns .Ax) (ps .Ax) (Aw (st .Ax)):=⟨rfl,rfl,rfl,by decide +kernel,rfl,by decide +kernel,by decide +kernel⟩
theorem Jy (M:Md K mg A fd) (ih:∀x,FnOk P w K mg base CX0 n (A x) (fd x) (ps x) (spF K (run n x))):FnOk P w K mg base CX0 (n + 1) (A .Ax) (fd .Ax) (ps .Ax) (spF K (run (n + 1) .Ax)):=by
 refine Be (g:=fnOf 2 5 (Db (run n .Ax) (run n .Ag))) rfl (Bg rfl rfl (M.fn .Ax) sc_f_law_shape (fun cdv A' outer s H E hr=>?_))
 refine @Ai _ _ _ _ _ _ ?_ ?_
 refine @AZ _ _ _ _ 2 _ _ _ sc_f_law_shape.nd rfl (.inl rfl) ?_ (by rfl) (by first | exact .inl rfl | exact .inr rfl | assumption)
 refine @An _ _ _ _ _ _ _ _ _ _ _ _ (ih .Ag) hr rfl (M.mgs .Ag) (Fun.kp (M.fn .Ag)) (M.bd .Ag) ?_ (by decide) (by rfl) (by rfl)
 refine @Aa _ _ _ _ _ ?_ ?_ rfl
 exact (Ab 0)
 exact (@Aa _ _ _ _ _ Af Ae rfl)
 refine @Ai _ _ _ _ _ _ ?_ ?_
 refine @A2 _ _ _ _ _ _ _ _ _ ?_ ?_ AE
 refine @AW _ _ _ _ _ _ _ _ _ (Bx hr.units) (AV (g:=id)) ?_ Af (AK _)
 exact (Ab 2)
 refine @Ak _ _ _ _ ?_
 refine @Aq _ _ _ _ ?_
 refine @Bd _ _ _ _ _ ?_
 exact (@Aa _ _ _ _ _ Ao Ae rfl)
 refine @Ai _ _ _ _ _ _ ?_ ?_
 refine @A2 _ _ _ _ _ _ _ _ _ ?_ ?_ AE
 refine @AW _ _ _ _ _ _ _ _ _ (Bx hr.units) (AV (g:=id)) ?_ Af (AK _)
 exact (Ab 2)
 refine @Ak _ _ _ _ ?_
 refine @Aq _ _ _ _ ?_
 refine @Bd _ _ _ _ _ ?_
 refine @Aa _ _ _ _ _ Ao ?_ rfl
 refine @Aa _ _ _ _ _ ?_ Ae rfl
 refine @AA _ _ _ _ _ _ _ _ As Au ?_ ?_ (fun _ _=>rfl)
 refine @Bn _ _ _ ?_
 refine @B5 _ _ _ _ ?_
 refine @Aa _ _ _ _ _ Af ?_ rfl
 refine @Aa _ _ _ _ _ Af ?_ rfl
 refine @Aa _ _ _ _ _ Af ?_ rfl
 refine @Aa _ _ _ _ _ Af ?_ rfl
 refine @Aa _ _ _ _ _ ?_ Ae rfl
 refine @An _ _ _ _ _ _ _ _ _ _ _ _ (ih .Ag) hr rfl (M.mgs .Ag) (Fun.kp (M.fn .Ag)) (M.bd .Ag) ?_ (by decide) (by rfl) (by rfl)
 refine @Aa _ _ _ _ _ ?_ ?_ rfl
 exact (Ab 0)
 exact (@Aa _ _ _ _ _ Af Ae rfl)
 refine @An _ _ _ _ _ _ _ _ _ _ _ _ (ih .Ag) hr rfl (M.mgs .Ag) (Fun.kp (M.fn .Ag)) (M.bd .Ag) ?_ (by decide) (by rfl) (by rfl)
 refine @Aa _ _ _ _ _ ?_ ?_ rfl
 exact (Ab 0)
 exact (@Aa _ _ _ _ _ Af Ae rfl)
 refine @Ai _ _ _ _ _ _ ?_ ?_
 refine @A2 _ _ _ _ _ _ _ _ _ ?_ ?_ AE
 refine @Ce _ _ _ ?_
 refine @C8 _ _ _ _ _ _ _ ?_ ?_
 refine @AW _ _ _ _ _ _ _ _ _ (Bx hr.units) (AV (g:=id)) ?_ Af (AK _)
 exact (Ab 1)
 refine @Df _ _ _ _ ?_
 refine @AW _ _ _ _ _ _ _ _ _ F6 E8 ?_ Af (AK _)
 exact (Ab 2)
 refine @Ai _ _ _ _ _ _ ?_ ?_
 refine @AZ _ _ _ _ 3 _ _ _ sc_f_law_shape.nd rfl (.inl rfl) ?_ (by rfl) (by first | exact .inl rfl | exact .inr rfl | assumption)
 refine @AA _ _ _ _ _ _ _ _ As Au ?_ ?_ (fun _ _=>rfl)
 refine @Bn _ _ _ ?_
 refine @B5 _ _ _ _ ?_
 refine @Aa _ _ _ _ _ Af ?_ rfl
 refine @Aa _ _ _ _ _ ?_ ?_ rfl
 refine @AG _ _ _ _ _ _ _ _ _ Ej DK ?_ Af
 refine @An _ _ _ _ _ _ _ _ _ _ _ _ (ih .Ag) hr rfl (M.mgs .Ag) (Fun.kp (M.fn .Ag)) (M.bd .Ag) ?_ (by decide) (by rfl) (by rfl)
 refine @Aa _ _ _ _ _ ?_ ?_ rfl
 exact (Ab 0)
 exact (@Aa _ _ _ _ _ Af Ae rfl)
 refine @Aa _ _ _ _ _ ?_ Ae rfl
 refine @AG _ _ _ _ _ _ _ _ _ Ej DK ?_ ?_
 refine @An _ _ _ _ _ _ _ _ _ _ _ _ (ih .Ag) hr rfl (M.mgs .Ag) (Fun.kp (M.fn .Ag)) (M.bd .Ag) ?_ (by decide) (by rfl) (by rfl)
 refine @Aa _ _ _ _ _ ?_ ?_ rfl
 exact (Ab 0)
 refine @Aa _ _ _ _ _ ?_ Ae rfl
 exact (AG IG Hl Af Af)
 exact (AG IG Hl Af Af)
 refine @An _ _ _ _ _ _ _ _ _ _ _ _ (ih .Ag) hr rfl (M.mgs .Ag) (Fun.kp (M.fn .Ag)) (M.bd .Ag) ?_ (by decide) (by rfl) (by rfl)
 refine @Aa _ _ _ _ _ ?_ ?_ rfl
 exact (Ab 0)
 exact (@Aa _ _ _ _ _ Af Ae rfl)
 refine @Ak _ _ _ _ ?_
 refine @Aq _ _ _ _ ?_
 refine @Bd _ _ _ _ _ ?_
 refine @Aa _ _ _ _ _ Ao ?_ rfl
 refine @Aa _ _ _ _ _ ?_ ?_ rfl
 exact (Ab 3)
 refine @Aa _ _ _ _ _ ?_ Ae rfl
 refine @AG _ _ _ _ _ _ _ _ _ AM AC ?_ ?_
 exact (Ab 3)
 refine @AA _ _ _ _ _ _ _ _ As Au ?_ ?_ (fun _ _=>rfl)
 refine @Bn _ _ _ ?_
 refine @B5 _ _ _ _ ?_
 refine @Aa _ _ _ _ _ Af ?_ rfl
 refine @Aa _ _ _ _ _ Af ?_ rfl
 refine @Aa _ _ _ _ _ Af ?_ rfl
 refine @Aa _ _ _ _ _ Af ?_ rfl
 refine @Aa _ _ _ _ _ Af ?_ rfl
 refine @Aa _ _ _ _ _ Af ?_ rfl
 refine @Aa _ _ _ _ _ ?_ Ae rfl
 exact (AG IG Hl Af Af)
 refine @An _ _ _ _ _ _ _ _ _ _ _ _ (ih .Ag) hr rfl (M.mgs .Ag) (Fun.kp (M.fn .Ag)) (M.bd .Ag) ?_ (by decide) (by rfl) (by rfl)
 refine @Aa _ _ _ _ _ ?_ ?_ rfl
 exact (Ab 0)
 exact (@Aa _ _ _ _ _ Af Ae rfl)
 refine @Ai _ _ _ _ _ _ ?_ ?_
 refine @A2 _ _ _ _ _ _ _ _ _ ?_ ?_ AE
 refine @AW _ _ _ _ _ _ _ _ _ F6 E8 ?_ Af (AK _)
 exact (Ab 2)
 refine @Ak _ _ _ _ ?_
 refine @Aq _ _ _ _ ?_
 refine @Bd _ _ _ _ _ ?_
 refine @Aa _ _ _ _ _ Ao ?_ rfl
 refine @Aa _ _ _ _ _ ?_ ?_ rfl
 refine @An _ _ _ _ _ _ _ _ _ _ _ _ (ih .Ax) hr rfl (M.mgs .Ax) (Fun.kp (M.fn .Ax)) (M.bd .Ax) ?_ (by decide) (by rfl) (by rfl)
 refine @Aa _ _ _ _ _ ?_ ?_ rfl
 exact (Ab 0)
 refine @Aa _ _ _ _ _ ?_ Ae rfl
 refine @AG _ _ _ _ _ _ _ _ _ Ej DK ?_ Af
 exact (Ab 1)
 refine @Aa _ _ _ _ _ ?_ Ae rfl
 refine @AA _ _ _ _ _ _ _ _ As Au ?_ ?_ (fun _ _=>rfl)
 refine @Bn _ _ _ ?_
 refine @B5 _ _ _ _ ?_
 refine @Aa _ _ _ _ _ Af ?_ rfl
 refine @Aa _ _ _ _ _ Af ?_ rfl
 refine @Aa _ _ _ _ _ Af ?_ rfl
 refine @Aa _ _ _ _ _ Af ?_ rfl
 refine @Aa _ _ _ _ _ ?_ Ae rfl
 refine @An _ _ _ _ _ _ _ _ _ _ _ _ (ih .Ag) hr rfl (M.mgs .Ag) (Fun.kp (M.fn .Ag)) (M.bd .Ag) ?_ (by decide) (by rfl) (by rfl)
 refine @Aa _ _ _ _ _ ?_ ?_ rfl
 exact (Ab 0)
 exact (@Aa _ _ _ _ _ Af Ae rfl)
 refine @An _ _ _ _ _ _ _ _ _ _ _ _ (ih .Ag) hr rfl (M.mgs .Ag) (Fun.kp (M.fn .Ag)) (M.bd .Ag) ?_ (by decide) (by rfl) (by rfl)
 refine @Aa _ _ _ _ _ ?_ ?_ rfl
 exact (Ab 0)
 exact (@Aa _ _ _ _ _ Af Ae rfl)
 refine @Ai _ _ _ _ _ _ ?_ ?_
 refine @A2 _ _ _ _ _ _ _ _ _ ?_ ?_ AE
 refine @AW _ _ _ _ _ _ _ _ _ F6 E8 ?_ Af (AK _)
 exact (Ab 2)
 refine @Ak _ _ _ _ ?_
 refine @Aq _ _ _ _ ?_
 refine @Bd _ _ _ _ _ ?_
 refine @Aa _ _ _ _ _ Ao ?_ rfl
 refine @Aa _ _ _ _ _ ?_ ?_ rfl
 refine @An _ _ _ _ _ _ _ _ _ _ _ _ (ih .Ax) hr rfl (M.mgs .Ax) (Fun.kp (M.fn .Ax)) (M.bd .Ax) ?_ (by decide) (by rfl) (by rfl)
 refine @Aa _ _ _ _ _ ?_ ?_ rfl
 exact (Ab 0)
 refine @Aa _ _ _ _ _ ?_ Ae rfl
 refine @AG _ _ _ _ _ _ _ _ _ Ej DK ?_ Af
 exact (Ab 1)
 refine @Aa _ _ _ _ _ ?_ Ae rfl
 refine @An _ _ _ _ _ _ _ _ _ _ _ _ (ih .Ax) hr rfl (M.mgs .Ax) (Fun.kp (M.fn .Ax)) (M.bd .Ax) ?_ (by decide) (by rfl) (by rfl)
 refine @Aa _ _ _ _ _ ?_ ?_ rfl
 exact (Ab 0)
 refine @Aa _ _ _ _ _ ?_ Ae rfl
 refine @AG _ _ _ _ _ _ _ _ _ Ej DK ?_ Af
 exact (Ab 1)
 refine @Ai _ _ _ _ _ _ ?_ ?_
 refine @AZ _ _ _ _ 4 _ _ _ sc_f_law_shape.nd rfl (.inl rfl) ?_ (by rfl) (by first | exact .inl rfl | exact .inr rfl | assumption)
 refine @AG _ _ _ _ _ _ _ _ _ AM AC Af ?_
 refine @An _ _ _ _ _ _ _ _ _ _ _ _ (ih .Ag) hr rfl (M.mgs .Ag) (Fun.kp (M.fn .Ag)) (M.bd .Ag) ?_ (by decide) (by rfl) (by rfl)
 refine @Aa _ _ _ _ _ ?_ ?_ rfl
 exact (Ab 0)
 refine @Aa _ _ _ _ _ ?_ Ae rfl
 refine @AA _ _ _ _ _ _ _ _ As Au ?_ ?_ (fun _ _=>rfl)
 refine @Bn _ _ _ ?_
 refine @B5 _ _ _ _ ?_
 refine @Aa _ _ _ _ _ Af ?_ rfl
 exact (@Aa _ _ _ _ _ Af Ae rfl)
 refine @Ea _ _ _ _ _ _ _ _ _ _ OH TX rfl M.z_int K6 ?_ (by decide) (by decide) (by rfl) (by rfl)
 refine @Aa _ _ _ _ _ ?_ Ae rfl
 refine @Eb _ _ _ _ _ _ _ _ _ (Bx hr.units) (AV (g:=id)) ?_ Af (AK _)
 exact (Ab 1)
 refine @Ak _ _ _ _ ?_
 refine @Aq _ _ _ _ ?_
 refine @Bd _ _ _ _ _ ?_
 refine @Aa _ _ _ _ _ Ao ?_ rfl
 refine @Aa _ _ _ _ _ ?_ Ae rfl
 refine @Ea _ _ _ _ _ _ _ _ _ _ ER JP rfl M.z_tuple CS ?_ (by decide) (by decide) (by rfl) (by rfl)
 refine @Aa _ _ _ _ _ ?_ Ae rfl
 refine @Bn _ _ _ ?_
 refine DC (Cl ["k"] [(0 , "pool") ,(1 , "deep")] rfl rfl rfl rfl rfl) rfl ?_ ?_ ?_ ?_
 refine DE rfl M.z_range ?_
 refine @Aa _ _ _ _ _ ?_ Ae rfl
 exact (Ab 4)
 intro _ _ _ _ _
 exact (A3 (by show List.Nodup [("k" : Str) ,("pool" : Str) ,("deep" : Str)] ;decide +kernel) rfl (.inl rfl))
 intro _ _ _ _ _
 exact Cd
 intro _ _ _ _ _
 refine @An _ _ _ _ _ _ _ _ _ _ _ _ (ih .Ax) hr rfl (M.mgs .Ax) (Fun.kp (M.fn .Ax)) (M.bd .Ax) ?_ (by decide) (by rfl) (by rfl)
 refine @Aa _ _ _ _ _ ?_ ?_ rfl
 exact (Ab 1)
 refine @Aa _ _ _ _ _ ?_ Ae rfl
 refine @AG _ _ _ _ _ _ _ _ _ Ej DK ?_ Af
 exact (Ab 2)
theorem sc_f_law_shown:FnScope (ns .Ay) (ps .Ay) (Aw (st .Ay)):=⟨rfl,rfl,rfl,by decide +kernel,rfl,by decide +kernel,by decide +kernel⟩
theorem Jz (M:Md K mg A fd) (ih:∀x,FnOk P w K mg base CX0 n (A x) (fd x) (ps x) (spF K (run n x))):FnOk P w K mg base CX0 (n + 1) (A .Ay) (fd .Ay) (ps .Ay) (spF K (run (n + 1) .Ay)):=by
 refine Be (g:=fnOf 1 2 (DX (run n .Ay))) rfl (Bg rfl rfl (M.fn .Ay) sc_f_law_shown (fun cdv A' outer s H E hr=>?_))
 refine @Ai _ _ _ _ _ _ ?_ ?_
 refine @AZ _ _ _ _ 1 _ _ _ sc_f_law_shown.nd rfl (.inl rfl) ?_ (by rfl) (by first | exact .inl rfl | exact .inr rfl | assumption)
 refine @AA _ _ _ _ _ _ _ _ As Au ?_ Af (fun _ _=>rfl)
 exact (Ab 0)
 refine @Ai _ _ _ _ _ _ ?_ ?_
 refine @A2 _ _ _ _ _ _ _ _ _ ?_ ?_ AE
 refine @AW _ _ _ _ _ _ _ _ _ (Bx hr.units) (AV (g:=id)) ?_ Ao (AK _)
 exact (Ab 1)
 refine @Ak _ _ _ _ ?_
 refine @Aq _ _ _ _ ?_
 exact (Ab 1)
 refine @Ai _ _ _ _ _ _ ?_ ?_
 refine @A2 _ _ _ _ _ _ _ _ _ ?_ ?_ AE
 refine @AW _ _ _ _ _ _ _ _ _ (Bx hr.units) (AV (g:=id)) ?_ Ao (AK _)
 exact (Ab 1)
 refine @Ak _ _ _ _ ?_
 refine @Aq _ _ _ _ ?_
 refine @AG _ _ _ _ _ _ _ _ _ AM AC ?_ Ao
 refine @AG _ _ _ _ _ _ _ _ _ AM AC ?_ ?_
 refine @AG _ _ _ _ _ _ _ _ _ AM AC ?_ Ao
 refine @AG _ _ _ _ _ _ _ _ _ AM AC Ao ?_
 refine @An _ _ _ _ _ _ _ _ _ _ _ _ (ih .Ay) hr rfl (M.mgs .Ay) (Fun.kp (M.fn .Ay)) (M.bd .Ay) ?_ (by decide) (by rfl) (by rfl)
 refine @Aa _ _ _ _ _ ?_ Ae rfl
 refine @AA _ _ _ _ _ _ _ _ As Au ?_ Af (fun _ _=>rfl)
 exact (Ab 0)
 refine @Ea _ _ _ _ _ _ _ _ _ _ CZ Fa rfl M.z_str Dd ?_ (by decide) (by decide) (by rfl) (by rfl)
 refine @Aa _ _ _ _ _ ?_ Ae rfl
 refine @AA _ _ _ _ _ _ _ _ As Au ?_ Af (fun _ _=>rfl)
 exact (Ab 0)
 refine @Ai _ _ _ _ _ _ ?_ ?_
 refine @A2 _ _ _ _ _ _ _ _ _ ?_ ?_ AE
 refine @AW _ _ _ _ _ _ _ _ _ (Bx hr.units) (AV (g:=id)) ?_ Ao (AK _)
 exact (Ab 1)
 refine @Ak _ _ _ _ ?_
 refine @Aq _ _ _ _ ?_
 refine @AG _ _ _ _ _ _ _ _ _ AM AC ?_ Ao
 refine @AG _ _ _ _ _ _ _ _ _ AM AC ?_ ?_
 refine @AG _ _ _ _ _ _ _ _ _ AM AC ?_ Ao
 refine @AG _ _ _ _ _ _ _ _ _ AM AC Ao ?_
 refine @An _ _ _ _ _ _ _ _ _ _ _ _ (ih .Ay) hr rfl (M.mgs .Ay) (Fun.kp (M.fn .Ay)) (M.bd .Ay) ?_ (by decide) (by rfl) (by rfl)
 refine @Aa _ _ _ _ _ ?_ Ae rfl
 refine @AA _ _ _ _ _ _ _ _ As Au ?_ Af (fun _ _=>rfl)
 exact (Ab 0)
 refine @An _ _ _ _ _ _ _ _ _ _ _ _ (ih .Ay) hr rfl (M.mgs .Ay) (Fun.kp (M.fn .Ay)) (M.bd .Ay) ?_ (by decide) (by rfl) (by rfl)
 refine @Aa _ _ _ _ _ ?_ Ae rfl
 refine @AA _ _ _ _ _ _ _ _ As Au ?_ Af (fun _ _=>rfl)
 exact (Ab 0)
 refine @Ai _ _ _ _ _ _ ?_ ?_
 refine @A2 _ _ _ _ _ _ _ _ _ ?_ ?_ AE
 refine @AW _ _ _ _ _ _ _ _ _ (Bx hr.units) (AV (g:=id)) ?_ Ao (AK _)
 exact (Ab 1)
 refine @Ak _ _ _ _ ?_
 refine @Aq _ _ _ _ ?_
 refine @AG _ _ _ _ _ _ _ _ _ AM AC ?_ Ao
 refine @AG _ _ _ _ _ _ _ _ _ AM AC Ao ?_
 refine D1 Ao ?_
 refine @Aa _ _ _ _ _ ?_ Ae rfl
 refine @Bn _ _ _ ?_
 refine DC (Cl ["part"] [] rfl rfl rfl rfl rfl) rfl ?_ ?_ ?_ ?_
 refine @Cv _ _ _ _ ?_
 refine @AA _ _ _ _ _ _ _ _ As Au ?_ Af (fun _ _=>rfl)
 exact (Ab 0)
 intro _ _ _ _ _
 exact (A3 (by show List.Nodup [("part" : Str)] ;decide +kernel) rfl (.inl rfl))
 intro _ _ _ _ _
 exact Cd
 intro _ _ _ _ _
 refine @An _ _ _ _ _ _ _ _ _ _ _ _ (ih .Ay) hr rfl (M.mgs .Ay) (Fun.kp (M.fn .Ay)) (M.bd .Ay) ?_ (by decide) (by rfl) (by rfl)
 refine @Aa _ _ _ _ _ ?_ Ae rfl
 exact (Ab 0)
 refine @Ak _ _ _ _ ?_
 refine @Aq _ _ _ _ ?_
 refine @AG _ _ _ _ _ _ _ _ _ AM AC ?_ Ao
 refine @AG _ _ _ _ _ _ _ _ _ AM AC ?_ ?_
 refine @AG _ _ _ _ _ _ _ _ _ AM AC ?_ Ao
 exact (Ab 1)
 refine D1 Ao ?_
 refine @Aa _ _ _ _ _ ?_ Ae rfl
 refine @Bn _ _ _ ?_
 refine DC (Cl ["number"] [] rfl rfl rfl rfl rfl) rfl ?_ ?_ ?_ ?_
 refine @Cv _ _ _ _ ?_
 refine @Ci _ _ _ _ _ _ _ _ _ _ _ sl3 CJ ?_ ?_ E6
 exact (Ab 0)
 exact (BZ Af)
 intro _ _ _ _ _
 exact (A3 (by show List.Nodup [("number" : Str)] ;decide +kernel) rfl (.inl rfl))
 intro _ _ _ _ _
 exact Cd
 intro _ _ _ _ _
 refine @Ea _ _ _ _ _ _ _ _ _ _ CZ Fa rfl M.z_str Dd ?_ (by decide) (by decide) (by rfl) (by rfl)
 refine @Aa _ _ _ _ _ ?_ Ae rfl
 exact (Ab 0)
theorem sc_f_law_grammar:FnScope (ns .AS) (ps .AS) (Aw (st .AS)):=⟨rfl,rfl,rfl,by decide +kernel,rfl,by decide +kernel,by decide +kernel⟩
theorem HJ (M:Md K mg A fd) (ih:∀x,FnOk P w K mg base CX0 n (A x) (fd x) (ps x) (spF K (run n x))):FnOk P w K mg base CX0 (n + 1) (A .AS) (fd .AS) (ps .AS) (spF K (run (n + 1) .AS)):=by
 refine Be (g:=fnOf 4 12 (CO (run n .Ag) (run n .Ax) (run n .AF))) rfl (Bg rfl rfl (M.fn .AS) sc_f_law_grammar (fun cdv A' outer s H E hr=>?_))
 refine @Ai _ _ _ _ _ _ ?_ ?_
 refine @AZ _ _ _ _ 4 _ _ _ sc_f_law_grammar.nd rfl (.inl rfl) ?_ (by rfl) (by first | exact .inl rfl | exact .inr rfl | assumption)
 refine @Bn _ _ _ ?_
 refine @B5 _ _ _ _ ?_
 refine @Aa _ _ _ _ _ Ao ?_ rfl
 refine @Aa _ _ _ _ _ Ao ?_ rfl
 refine @Aa _ _ _ _ _ Ao ?_ rfl
 refine @Aa _ _ _ _ _ Ao ?_ rfl
 refine @Aa _ _ _ _ _ Ao ?_ rfl
 refine @Aa _ _ _ _ _ Ao ?_ rfl
 refine @Aa _ _ _ _ _ Ao ?_ rfl
 refine @Aa _ _ _ _ _ Ao ?_ rfl
 refine @Aa _ _ _ _ _ Ao ?_ rfl
 refine @Aa _ _ _ _ _ Ao ?_ rfl
 refine @Aa _ _ _ _ _ Ao ?_ rfl
 exact (@Aa _ _ _ _ _ Ao Ae rfl)
 refine @Ai _ _ _ _ _ _ ?_ ?_
 refine @AZ _ _ _ _ 5 _ _ _ sc_f_law_grammar.nd rfl (.inl rfl) ?_ (by rfl) (by first | exact .inl rfl | exact .inr rfl | assumption)
 refine @Lp _ _ _ ?_
 exact (B5 Ae)
 refine @Ai _ _ _ _ _ _ ?_ ?_
 refine @Dy _ _ _ _ _ _ _ _ _ PassesOwn.never rfl ?_ ?_ ?_ (by intro _;rfl)
 refine DE rfl M.z_range ?_
 refine @Aa _ _ _ _ _ ?_ Ae rfl
 exact (Ab 2)
 exact (A3 sc_f_law_grammar.nd rfl (.inl rfl))
 refine @Ai _ _ _ _ _ _ ?_ ?_
 refine @AZ _ _ _ _ 7 _ _ _ sc_f_law_grammar.nd rfl (.inl rfl) ?_ (by rfl) (by first | exact .inl rfl | exact .inr rfl | assumption)
 refine @An _ _ _ _ _ _ _ _ _ _ _ _ (ih .AF) hr rfl (M.mgs .AF) (Fun.kp (M.fn .AF)) (M.bd .AF) ?_ (by decide) (by rfl) (by rfl)
 refine @Aa _ _ _ _ _ ?_ ?_ rfl
 exact (Ab 0)
 refine @Aa _ _ _ _ _ ?_ Ae rfl
 refine @AG _ _ _ _ _ _ _ _ _ AM AC ?_ ?_
 exact (Ab 1)
 exact (Ab 6)
 refine @Ak _ _ _ _ ?_
 refine @A2 _ _ _ _ _ _ _ _ _ ?_ ?_ ?_
 refine @AW _ _ _ _ _ _ _ _ _ (Bx hr.units) (AV (g:=id)) ?_ Af (AK _)
 refine @An _ _ _ _ _ _ _ _ _ _ _ _ (ih .Ag) hr rfl (M.mgs .Ag) (Fun.kp (M.fn .Ag)) (M.bd .Ag) ?_ (by decide) (by rfl) (by rfl)
 refine @Aa _ _ _ _ _ ?_ ?_ rfl
 exact (Ab 7)
 exact (@Aa _ _ _ _ _ Af Ae rfl)
 refine @Ak _ _ _ _ ?_
 refine Es ?_
 refine EJ ?_ ?_
 exact (Ab 5)
 refine @Aa _ _ _ _ _ ?_ Ae rfl
 refine @Bd _ _ _ _ _ ?_
 exact (@Aa _ _ _ _ _ Ao Ae rfl)
 refine @Ai _ _ _ _ _ _ ?_ ?_
 refine @AZ _ _ _ _ 8 _ _ _ sc_f_law_grammar.nd rfl (.inl rfl) ?_ (by rfl) (by first | exact .inl rfl | exact .inr rfl | assumption)
 refine @AA _ _ _ _ _ _ _ _ As Au ?_ ?_ (fun _ _=>rfl)
 refine @Bn _ _ _ ?_
 refine @B5 _ _ _ _ ?_
 refine @Aa _ _ _ _ _ Ao ?_ rfl
 exact (@Aa _ _ _ _ _ Ao Ae rfl)
 refine @An _ _ _ _ _ _ _ _ _ _ _ _ (ih .Ag) hr rfl (M.mgs .Ag) (Fun.kp (M.fn .Ag)) (M.bd .Ag) ?_ (by decide) (by rfl) (by rfl)
 refine @Aa _ _ _ _ _ ?_ ?_ rfl
 exact (Ab 7)
 exact (@Aa _ _ _ _ _ Af Ae rfl)
 refine @Ai _ _ _ _ _ _ ?_ ?_
 refine @AZ _ _ _ _ 9 _ _ _ sc_f_law_grammar.nd rfl (.inl rfl) ?_ (by rfl) (by first | exact .inl rfl | exact .inr rfl | assumption)
 refine @An _ _ _ _ _ _ _ _ _ _ _ _ (ih .Ag) hr rfl (M.mgs .Ag) (Fun.kp (M.fn .Ag)) (M.bd .Ag) ?_ (by decide) (by rfl) (by rfl)
 refine @Aa _ _ _ _ _ ?_ ?_ rfl
 exact (Ab 7)
 exact (@Aa _ _ _ _ _ Af Ae rfl)
 refine @Ai _ _ _ _ _ _ ?_ ?_
 refine @AZ _ _ _ _ 10 _ _ _ sc_f_law_grammar.nd rfl (.inl rfl) ?_ (by rfl) (by first | exact .inl rfl | exact .inr rfl | assumption)
 refine @Lp _ _ _ ?_
 exact (B5 Ae)
 refine @Ai _ _ _ _ _ _ ?_ ?_
 refine @Dy _ _ _ _ _ _ _ _ _ PassesOwn.never rfl ?_ ?_ ?_ (by intro _;rfl)
 refine DE rfl M.z_range ?_
 refine @Aa _ _ _ _ _ ?_ Ae rfl
 refine @AA _ _ _ _ _ _ _ _ As Au ?_ ?_ (fun _ _=>rfl)
 refine @Bn _ _ _ ?_
 refine @B5 _ _ _ _ ?_
 refine @Aa _ _ _ _ _ Af ?_ rfl
 refine @Aa _ _ _ _ _ Af ?_ rfl
 refine @Aa _ _ _ _ _ Af ?_ rfl
 exact (@Aa _ _ _ _ _ Af Ae rfl)
 refine @An _ _ _ _ _ _ _ _ _ _ _ _ (ih .Ag) hr rfl (M.mgs .Ag) (Fun.kp (M.fn .Ag)) (M.bd .Ag) ?_ (by decide) (by rfl) (by rfl)
 refine @Aa _ _ _ _ _ ?_ ?_ rfl
 exact (Ab 7)
 exact (@Aa _ _ _ _ _ Af Ae rfl)
 exact (A3 sc_f_law_grammar.nd rfl (.inl rfl))
 refine @Ak _ _ _ _ ?_
 refine Es ?_
 refine EJ ?_ ?_
 exact (Ab 10)
 refine @Aa _ _ _ _ _ ?_ Ae rfl
 refine @Bd _ _ _ _ _ ?_
 refine @Aa _ _ _ _ _ ?_ ?_ rfl
 refine @AA _ _ _ _ _ _ _ _ As Au ?_ ?_ (fun _ _=>rfl)
 exact (Ab 4)
 refine @AG _ _ _ _ _ _ _ _ _ F7 E9 ?_ Af
 refine @AG _ _ _ _ _ _ _ _ _ AM AC ?_ ?_
 exact (Ab 9)
 refine @AG _ _ _ _ _ _ _ _ _ Ng Mc Af ?_
 exact (Ab 11)
 refine @Aa _ _ _ _ _ ?_ ?_ rfl
 refine @An _ _ _ _ _ _ _ _ _ _ _ _ (ih .Ax) hr rfl (M.mgs .Ax) (Fun.kp (M.fn .Ax)) (M.bd .Ax) ?_ (by decide) (by rfl) (by rfl)
 refine @Aa _ _ _ _ _ ?_ ?_ rfl
 exact (Ab 7)
 refine @Aa _ _ _ _ _ ?_ Ae rfl
 exact (Ab 3)
 refine @Aa _ _ _ _ _ ?_ Ae rfl
 refine @An _ _ _ _ _ _ _ _ _ _ _ _ (ih .Ag) hr rfl (M.mgs .Ag) (Fun.kp (M.fn .Ag)) (M.bd .Ag) ?_ (by decide) (by rfl) (by rfl)
 refine @Aa _ _ _ _ _ ?_ ?_ rfl
 exact (Ab 7)
 refine @Aa _ _ _ _ _ ?_ Ae rfl
 exact (Ab 2)
 refine @Ak _ _ _ _ ?_
 refine Es ?_
 refine EJ ?_ ?_
 exact (Ab 5)
 refine @Aa _ _ _ _ _ ?_ Ae rfl
 refine @Bd _ _ _ _ _ ?_
 refine @Aa _ _ _ _ _ ?_ ?_ rfl
 exact (Ab 8)
 refine @Aa _ _ _ _ _ ?_ Ae rfl
 exact (Ab 10)
 refine @Ak _ _ _ _ ?_
 refine @Aq _ _ _ _ ?_
 exact (Ab 5)
theorem sc_f_law_state_shown:FnScope (ns .AB) (ps .AB) (Aw (st .AB)):=⟨rfl,rfl,rfl,by decide +kernel,rfl,by decide +kernel,by decide +kernel⟩
theorem Gq (M:Md K mg A fd) (ih:∀x,FnOk P w K mg base CX0 n (A x) (fd x) (ps x) (spF K (run n x))):FnOk P w K mg base CX0 (n + 1) (A .AB) (fd .AB) (ps .AB) (spF K (run (n + 1) .AB)):=by
 refine Be (g:=fnOf 1 2 (CA (run n .Ay))) rfl (Bg rfl rfl (M.fn .AB) sc_f_law_state_shown (fun cdv A' outer s H E hr=>?_))
 refine @Ai _ _ _ _ _ _ ?_ ?_
 refine @A2 _ _ _ _ _ _ _ _ _ ?_ ?_ AE
 refine @AW _ _ _ _ _ _ _ _ _ (Bx hr.units) (AV (g:=id)) ?_ Ao (AK _)
 refine @AA _ _ _ _ _ _ _ _ As Au ?_ Af (fun _ _=>rfl)
 exact (Ab 0)
 refine @Ak _ _ _ _ ?_
 exact (Aq Ao)
 refine @Ai _ _ _ _ _ _ ?_ ?_
 refine Lu (i:=1) (Cl ["name" , "s" , "then"] [] rfl rfl rfl rfl rfl) rfl sc_f_law_state_shown.nd rfl rfl ?_ ?_ ?_ ?_
 refine C0 ?_
 refine @AA _ _ _ _ _ _ _ _ As Au ?_ Af (fun _ _=>rfl)
 exact (Ab 0)
 intro _ _ _ _ _
 refine RL rfl ?_
 refine Eo ?_ ?_
 exact (A3 (by show List.Nodup [("name" : Str) ,("s" : Str) ,("then" : Str)] ;decide +kernel) rfl (.inl rfl))
 refine Eo ?_ ?_
 exact (A3 (by show List.Nodup [("name" : Str) ,("s" : Str) ,("then" : Str)] ;decide +kernel) rfl (.inl rfl))
 refine Eo ?_ M3
 exact (A3 (by show List.Nodup [("name" : Str) ,("s" : Str) ,("then" : Str)] ;decide +kernel) rfl (.inl rfl))
 intro _ _ _ _ _
 exact Cd
 intro _ _ _ _ _
 refine @AG _ _ _ _ _ _ _ _ _ AM AC ?_ ?_
 refine @AG _ _ _ _ _ _ _ _ _ AM AC ?_ Ao
 refine @AG _ _ _ _ _ _ _ _ _ AM AC ?_ ?_
 refine @AG _ _ _ _ _ _ _ _ _ AM AC ?_ Ao
 exact (Ab 0)
 refine @An _ _ _ _ _ _ _ _ _ _ _ _ (ih .Ay) hr rfl (M.mgs .Ay) (Fun.kp (M.fn .Ay)) (M.bd .Ay) ?_ (by decide) (by rfl) (by rfl)
 refine @Aa _ _ _ _ _ ?_ Ae rfl
 exact (Ab 1)
 refine @Ea _ _ _ _ _ _ _ _ _ _ CZ Fa rfl M.z_str Dd ?_ (by decide) (by decide) (by rfl) (by rfl)
 refine @Aa _ _ _ _ _ ?_ Ae rfl
 exact (Ab 2)
 refine @Ak _ _ _ _ ?_
 refine @Aq _ _ _ _ ?_
 refine D1 Ao ?_
 refine @Aa _ _ _ _ _ ?_ Ae rfl
 refine @AG _ _ _ _ _ _ _ _ _ AM AC ?_ ?_
 refine @Bn _ _ _ ?_
 refine @B5 _ _ _ _ ?_
 refine @Aa _ _ _ _ _ ?_ Ae rfl
 refine @AA _ _ _ _ _ _ _ _ As Au ?_ Af (fun _ _=>rfl)
 exact (Ab 0)
 exact (Ab 1)
theorem sc_f_law_kinds:FnScope (ns .A8) (ps .A8) (Aw (st .A8)):=⟨rfl,rfl,rfl,by decide +kernel,rfl,by decide +kernel,by decide +kernel⟩
theorem Jx (M:Md K mg A fd) (ih:∀x,FnOk P w K mg base CX0 n (A x) (fd x) (ps x) (spF K (run n x))):FnOk P w K mg base CX0 (n + 1) (A .A8) (fd .A8) (ps .A8) (spF K (run (n + 1) .A8)):=by
 refine Be (g:=fnOf 1 3 (Da)) rfl (Bg rfl rfl (M.fn .A8) sc_f_law_kinds (fun cdv A' outer s H E hr=>?_))
 refine @Ai _ _ _ _ _ _ ?_ ?_
 refine @A2 _ _ _ _ _ _ _ _ _ ?_ ?_ AE
 refine @BK _ _ _ _ ?_
 refine @Bs _ _ _ ?_ (by intro _;rfl)
 refine @Br _ _ _ _ _ _ _ _ _ _ BL Gy rfl M.z_isinstance A0 ?_ (by decide) (by decide) (by rfl) (by rfl)
 refine @Aa _ _ _ _ _ ?_ ?_ rfl
 exact (Ab 0)
 refine @Aa _ _ _ _ _ ?_ Ae rfl
 exact (Cc rfl M.z_list E5)
 refine @Ak _ _ _ _ ?_
 exact (Aq B4)
 refine @Ai _ _ _ _ _ _ ?_ ?_
 refine F1 PassesOwn.never rfl ?_ ?_ ?_
 refine C0 ?_
 exact (Ab 0)
 exact (A3 sc_f_law_kinds.nd rfl (.inl rfl))
 refine @Ai _ _ _ _ _ _ ?_ ?_
 refine @A2 _ _ _ _ _ _ _ _ _ ?_ ?_ AE
 refine @Ce _ _ _ ?_
 refine @C8 _ _ _ _ _ _ _ ?_ ?_
 refine @BK _ _ _ _ ?_
 refine @Bs _ _ _ ?_ (by intro _;rfl)
 refine @Br _ _ _ _ _ _ _ _ _ _ BL B2 rfl M.z_isinstance A0 ?_ (by decide) (by decide) (by rfl) (by rfl)
 refine @Aa _ _ _ _ _ ?_ ?_ rfl
 exact (Ab 1)
 refine @Aa _ _ _ _ _ ?_ Ae rfl
 exact (Cc rfl M.z_tuple CS)
 refine @Df _ _ _ _ ?_
 refine @BK _ _ _ _ ?_
 refine @Bs _ _ _ ?_ (by intro _;rfl)
 refine @Br _ _ _ _ _ _ _ _ _ _ BL B2 rfl M.z_isinstance A0 ?_ (by decide) (by decide) (by rfl) (by rfl)
 refine @Aa _ _ _ _ _ ?_ ?_ rfl
 refine @AA _ _ _ _ _ _ _ _ As Au ?_ Af (fun _ _=>rfl)
 exact (Ab 1)
 refine @Aa _ _ _ _ _ ?_ Ae rfl
 exact (Cc rfl M.z_str Dd)
 refine @Ak _ _ _ _ ?_
 exact (Aq B4)
 refine @Ak _ _ _ _ ?_
 refine @Dy _ _ _ _ _ _ _ _ _ PassesOwn.never rfl ?_ ?_ ?_ (by intro _;rfl)
 refine @Cv _ _ _ _ ?_
 refine @Ci _ _ _ _ _ _ _ _ _ _ _ sl3 CJ ?_ ?_ ?_
 refine @Bn _ _ _ ?_
 refine @RK _ _ _ _ _ _ _ _ _ _ GN Nu rfl M.z_list E5 ?_ (by decide) (by decide) (by rfl) (by rfl)
 refine @Aa _ _ _ _ _ ?_ Ae rfl
 refine @Ci _ _ _ _ _ _ _ _ _ _ _ sl3 CJ ?_ ?_ ?_
 exact (Ab 1)
 exact (BZ Af)
 exact (BZ Af)
 exact (BZ Af)
 exact (BZ Af)
 exact (A3 sc_f_law_kinds.nd rfl (.inl rfl))
 refine @Ai _ _ _ _ _ _ ?_ ?_
 refine @A2 _ _ _ _ _ _ _ _ _ ?_ ?_ AE
 refine @Ce _ _ _ ?_
 refine @C8 _ _ _ _ _ _ _ ?_ ?_
 refine @BK _ _ _ _ ?_
 refine @Bs _ _ _ ?_ (by intro _;rfl)
 refine @Br _ _ _ _ _ _ _ _ _ _ BL Gy rfl M.z_isinstance A0 ?_ (by decide) (by decide) (by rfl) (by rfl)
 refine @Aa _ _ _ _ _ ?_ ?_ rfl
 exact (Ab 2)
 refine @Aa _ _ _ _ _ ?_ Ae rfl
 exact (Cc rfl M.z_list E5)
 refine @Df _ _ _ _ ?_
 refine @AW _ _ _ _ _ _ _ _ _ (Dg hr.units) (AV (g:=fun b=>!b)) ?_ ?_ (AK _)
 refine @Bn _ _ _ ?_
 refine Gj (Cl ["one"] [] rfl rfl rfl rfl rfl) rfl ?_ ?_ ?_ ?_
 refine C0 ?_
 exact (Ab 2)
 intro _ _ _ _ _
 exact (A3 (by show List.Nodup [("one" : Str)] ;decide +kernel) rfl (.inl rfl))
 intro _ _ _ _ _
 refine M4 ?_
 refine @BK _ _ _ _ ?_
 refine @Bs _ _ _ ?_ (by intro _;rfl)
 refine @Br _ _ _ _ _ _ _ _ _ _ BL B2 rfl M.z_isinstance A0 ?_ (by decide) (by decide) (by rfl) (by rfl)
 refine @Aa _ _ _ _ _ ?_ ?_ rfl
 exact (Ab 0)
 refine @Aa _ _ _ _ _ ?_ Ae rfl
 exact (Cc rfl M.z_tuple CS)
 intro _ _ _ _ _
 exact (Ab 0)
 refine @Bn _ _ _ ?_
 exact (B5 Ae)
 refine @Ak _ _ _ _ ?_
 exact (Aq B4)
 refine @Ak _ _ _ _ ?_
 refine @A2 _ _ _ _ _ _ _ _ _ ?_ ?_ AE
 refine @AW _ _ _ _ _ _ _ _ _ (Dg hr.units) (AV (g:=fun b=>!b)) ?_ ?_ (AK _)
 refine @Bn _ _ _ ?_
 refine Gj (Cl ["one"] [] rfl rfl rfl rfl rfl) rfl ?_ ?_ ?_ ?_
 refine C0 ?_
 exact (Ab 2)
 intro _ _ _ _ _
 exact (A3 (by show List.Nodup [("one" : Str)] ;decide +kernel) rfl (.inl rfl))
 intro _ _ _ _ _
 refine M4 ?_
 refine @Bs _ _ _ ?_ (by intro _;rfl)
 refine @Br _ _ _ _ _ _ _ _ _ _ BL B2 rfl M.z_isinstance A0 ?_ (by decide) (by decide) (by rfl) (by rfl)
 refine @Aa _ _ _ _ _ ?_ ?_ rfl
 refine @AA _ _ _ _ _ _ _ _ As Au ?_ Af (fun _ _=>rfl)
 exact (Ab 0)
 refine @Aa _ _ _ _ _ ?_ Ae rfl
 exact (Cc rfl M.z_bool MY)
 intro _ _ _ _ _
 exact (Ab 0)
 refine @Bn _ _ _ ?_
 exact (B5 Ae)
 refine @Ak _ _ _ _ ?_
 exact (Aq B4)
 refine @Ak _ _ _ _ ?_
 exact (Aq B4)
theorem sc_f_law_counts:FnScope (ns .AQ) (ps .AQ) (Aw (st .AQ)):=⟨rfl,rfl,rfl,by decide +kernel,rfl,by decide +kernel,by decide +kernel⟩
theorem ID (M:Md K mg A fd) (ih:∀x,FnOk P w K mg base CX0 n (A x) (fd x) (ps x) (spF K (run n x))):FnOk P w K mg base CX0 (n + 1) (A .AQ) (fd .AQ) (ps .AQ) (spF K (run (n + 1) .AQ)):=by
 refine Be (g:=fnOf 1 4 (DG)) rfl (Bg rfl rfl (M.fn .AQ) sc_f_law_counts (fun cdv A' outer s H E hr=>?_))
 refine @Ai _ _ _ _ _ _ ?_ ?_
 refine @Ls _ _ _ _ 1 _ _ _ sc_f_law_counts.nd rfl (.inl rfl) ?_ (by rfl) (by first | exact .inl rfl | exact .inr rfl | assumption)
 exact (B5 Ae)
 refine @Ai _ _ _ _ _ _ ?_ ?_
 refine F1 PassesOwn.never rfl ?_ ?_ ?_
 refine C0 ?_
 exact (Ab 0)
 exact (A3 sc_f_law_counts.nd rfl (.inl rfl))
 refine @Ak _ _ _ _ ?_
 refine @Dy _ _ _ _ _ _ _ _ _ PassesOwn.never rfl ?_ ?_ ?_ (by intro _;rfl)
 refine @Cv _ _ _ _ ?_
 refine @Ci _ _ _ _ _ _ _ _ _ _ _ sl3 CJ ?_ ?_ E6
 exact (Ab 2)
 exact (BZ Af)
 exact (A3 sc_f_law_counts.nd rfl (.inl rfl))
 refine @Ak _ _ _ _ ?_
 refine Iq 1 ?_
 refine @Aa _ _ _ _ _ ?_ Ae rfl
 refine @Br _ _ _ _ _ _ _ _ _ _ BM BV rfl M.z_len B1 ?_ (by decide) (by decide) (by rfl) (by rfl)
 refine @Aa _ _ _ _ _ ?_ Ae rfl
 exact (Ab 3)
 refine @Ak _ _ _ _ ?_
 refine @Aq _ _ _ _ ?_
 exact (Ab 1)
theorem sc_law_:FnScope (ns .law_) (ps .law_) (Aw (st .law_)):=⟨rfl,rfl,rfl,by decide +kernel,rfl,by decide +kernel,by decide +kernel⟩
theorem Th (M:Md K mg A fd) (ih:∀x,FnOk P w K mg base CX0 n (A x) (fd x) (ps x) (spF K (run n x))):FnOk P w K mg base CX0 (n + 1) (A .law_) (fd .law_) (ps .law_) (spF K (run (n + 1) .law_)):=by
 refine Be (g:=fnOf 1 15 (EK (run n .AI) (run n .AJ) (run n .AQ) (run n .A8) (run n .AB) (run n .AF) (run n .Ag) (run n .AS))) rfl (Bg rfl rfl (M.fn .law_) sc_law_ (fun cdv A' outer s H E hr=>?_))
 refine @Ai _ _ _ _ _ _ ?_ ?_
 refine @AZ _ _ _ _ 1 _ _ _ sc_law_.nd rfl (.inl rfl) ?_ (by rfl) (by first | exact .inl rfl | exact .inr rfl | assumption)
 refine @AG _ _ _ _ _ _ _ _ _ AM AC Af ?_
 refine @An _ _ _ _ _ _ _ _ _ _ _ _ (ih .Ag) hr rfl (M.mgs .Ag) (Fun.kp (M.fn .Ag)) (M.bd .Ag) ?_ (by decide) (by rfl) (by rfl)
 refine @Aa _ _ _ _ _ ?_ ?_ rfl
 refine @An _ _ _ _ _ _ _ _ _ _ _ _ (ih .AF) hr rfl (M.mgs .AF) (Fun.kp (M.fn .AF)) (M.bd .AF) ?_ (by decide) (by rfl) (by rfl)
 refine @Aa _ _ _ _ _ ?_ ?_ rfl
 exact (Ab 0)
 exact (@Aa _ _ _ _ _ Af Ae rfl)
 exact (@Aa _ _ _ _ _ Af Ae rfl)
 refine @Ai _ _ _ _ _ _ ?_ ?_
 refine @AZ _ _ _ _ 2 _ _ _ sc_law_.nd rfl (.inl rfl) ?_ (by rfl) (by first | exact .inl rfl | exact .inr rfl | assumption)
 refine @An _ _ _ _ _ _ _ _ _ _ _ _ (ih .AS) hr rfl (M.mgs .AS) (Fun.kp (M.fn .AS)) (M.bd .AS) ?_ (by decide) (by rfl) (by rfl)
 refine @Aa _ _ _ _ _ ?_ ?_ rfl
 exact (Ab 0)
 refine @Aa _ _ _ _ _ Af ?_ rfl
 refine @Aa _ _ _ _ _ ?_ ?_ rfl
 exact (Ab 1)
 exact (@Aa _ _ _ _ _ Af Ae rfl)
 refine @Ai _ _ _ _ _ _ ?_ ?_
 refine @AZ _ _ _ _ 3 _ _ _ sc_law_.nd rfl (.inl rfl) ?_ (by rfl) (by first | exact .inl rfl | exact .inr rfl | assumption)
 refine @An _ _ _ _ _ _ _ _ _ _ _ _ (ih .AF) hr rfl (M.mgs .AF) (Fun.kp (M.fn .AF)) (M.bd .AF) ?_ (by decide) (by rfl) (by rfl)
 refine @Aa _ _ _ _ _ ?_ ?_ rfl
 exact (Ab 0)
 exact (@Aa _ _ _ _ _ Af Ae rfl)
 refine @Ai _ _ _ _ _ _ ?_ ?_
 refine @Dy _ _ _ _ _ _ _ _ _ PassesOwn.never rfl ?_ ?_ ?_ (by intro _;rfl)
 refine DE rfl M.z_range ?_
 refine @Aa _ _ _ _ _ ?_ Ae rfl
 exact (Ab 1)
 exact (A3 sc_law_.nd rfl (.inl rfl))
 refine @Ak _ _ _ _ ?_
 refine @A2 _ _ _ _ _ _ _ _ _ ?_ ?_ AE
 refine @Ce _ _ _ ?_
 refine @Ec _ _ _ _ _ _ _ ?_ ?_
 refine @AW _ _ _ _ _ _ _ _ _ (Bx hr.units) (AV (g:=id)) ?_ Af (AK _)
 refine @Br _ _ _ _ _ _ _ _ _ _ BM BV rfl M.z_len B1 ?_ (by decide) (by decide) (by rfl) (by rfl)
 refine @Aa _ _ _ _ _ ?_ Ae rfl
 refine @AA _ _ _ _ _ _ _ _ As Au ?_ ?_ (fun _ _=>rfl)
 exact (Ab 2)
 exact (Ab 4)
 refine @D6 _ _ _ _ ?_
 refine @AW _ _ _ _ _ _ _ _ _ (Bx hr.units) (AV (g:=id)) ?_ Af (AK _)
 refine @An _ _ _ _ _ _ _ _ _ _ _ _ (ih .Ag) hr rfl (M.mgs .Ag) (Fun.kp (M.fn .Ag)) (M.bd .Ag) ?_ (by decide) (by rfl) (by rfl)
 refine @Aa _ _ _ _ _ ?_ ?_ rfl
 exact (Ab 3)
 exact (@Aa _ _ _ _ _ Af Ae rfl)
 refine @Ai _ _ _ _ _ _ ?_ ?_
 refine F0 ?_ ?_
 refine @AA _ _ _ _ _ _ _ _ As Au ?_ Af (fun _ _=>rfl)
 refine @AA _ _ _ _ _ _ _ _ As Au ?_ Af (fun _ _=>rfl)
 refine @AA _ _ _ _ _ _ _ _ As Au ?_ ?_ (fun _ _=>rfl)
 exact (Ab 2)
 exact (Ab 4)
 refine RL rfl ?_
 refine Eo ?_ ?_
 exact (A3 sc_law_.nd rfl (.inl rfl))
 refine Eo ?_ ?_
 exact (A3 sc_law_.nd rfl (.inl rfl))
 refine Eo ?_ M3
 exact (A3 sc_law_.nd rfl (.inl rfl))
 refine @Ai _ _ _ _ _ _ ?_ ?_
 refine @Dy _ _ _ _ _ _ _ _ _ PassesOwn.never rfl ?_ ?_ ?_ (by intro _;rfl)
 refine DE rfl M.z_range ?_
 exact (@Aa _ _ _ _ _ Af Ae rfl)
 exact (A3 sc_law_.nd rfl (.inl rfl))
 refine @Ak _ _ _ _ ?_
 refine @AZ _ _ _ _ 6 _ _ _ sc_law_.nd rfl (.inl rfl) ?_ (by rfl) (by first | exact .inl rfl | exact .inr rfl | assumption)
 refine @AA _ _ _ _ _ _ _ _ As Au ?_ ?_ (fun _ _=>rfl)
 refine @Bn _ _ _ ?_
 refine @B5 _ _ _ _ ?_
 refine @Aa _ _ _ _ _ ?_ ?_ rfl
 refine @Bd _ _ _ _ _ ?_
 refine @Aa _ _ _ _ _ Ao ?_ rfl
 refine @Aa _ _ _ _ _ ?_ ?_ rfl
 exact (Ab 6)
 exact (@Aa _ _ _ _ _ Af Ae rfl)
 refine @Aa _ _ _ _ _ ?_ Ae rfl
 refine @Bd _ _ _ _ _ ?_
 refine @Aa _ _ _ _ _ Ao ?_ rfl
 refine @Aa _ _ _ _ _ ?_ ?_ rfl
 exact (Ab 6)
 refine @Aa _ _ _ _ _ ?_ Ae rfl
 refine @Bd _ _ _ _ _ ?_
 exact (@Aa _ _ _ _ _ Ao Ae rfl)
 refine @An _ _ _ _ _ _ _ _ _ _ _ _ (ih .Ag) hr rfl (M.mgs .Ag) (Fun.kp (M.fn .Ag)) (M.bd .Ag) ?_ (by decide) (by rfl) (by rfl)
 refine @Aa _ _ _ _ _ ?_ ?_ rfl
 exact (Ab 3)
 exact (@Aa _ _ _ _ _ Af Ae rfl)
 refine @Ak _ _ _ _ ?_
 refine F0 ?_ ?_
 refine @Bd _ _ _ _ _ ?_
 refine @Aa _ _ _ _ _ ?_ ?_ rfl
 exact (Ab 5)
 refine @Aa _ _ _ _ _ ?_ ?_ rfl
 exact (Ab 6)
 refine @Aa _ _ _ _ _ ?_ Ae rfl
 exact (Ab 7)
 refine OZ ?_ Af
 refine @AA _ _ _ _ _ _ _ _ As Au ?_ Af (fun _ _=>rfl)
 refine @AA _ _ _ _ _ _ _ _ As Au ?_ ?_ (fun _ _=>rfl)
 exact (Ab 2)
 exact (Ab 4)
 refine @Ai _ _ _ _ _ _ ?_ ?_
 refine @A2 _ _ _ _ _ _ _ _ _ ?_ ?_ AE
 refine @Ce _ _ _ ?_
 refine @Ec _ _ _ _ _ _ _ ?_ ?_
 refine @AW _ _ _ _ _ _ _ _ _ IF Hj ?_ Af (AK _)
 exact (Ab 1)
 refine @D6 _ _ _ _ ?_
 refine @AW _ _ _ _ _ _ _ _ _ F6 E8 ?_ Af (AK _)
 refine @An _ _ _ _ _ _ _ _ _ _ _ _ (ih .Ag) hr rfl (M.mgs .Ag) (Fun.kp (M.fn .Ag)) (M.bd .Ag) ?_ (by decide) (by rfl) (by rfl)
 refine @Aa _ _ _ _ _ ?_ ?_ rfl
 refine @An _ _ _ _ _ _ _ _ _ _ _ _ (ih .AF) hr rfl (M.mgs .AF) (Fun.kp (M.fn .AF)) (M.bd .AF) ?_ (by decide) (by rfl) (by rfl)
 refine @Aa _ _ _ _ _ ?_ ?_ rfl
 exact (Ab 0)
 exact (@Aa _ _ _ _ _ Af Ae rfl)
 exact (@Aa _ _ _ _ _ Af Ae rfl)
 refine @Ak _ _ _ _ ?_
 refine F0 ?_ ?_
 refine @AA _ _ _ _ _ _ _ _ As Au ?_ Af (fun _ _=>rfl)
 exact (Ab 2)
 refine OZ ?_ ?_
 exact (Ab 2)
 refine @AG _ _ _ _ _ _ _ _ _ Ej DK ?_ Af
 exact (Ab 1)
 refine @Ai _ _ _ _ _ _ ?_ ?_
 refine @AZ _ _ _ _ 9 _ _ _ sc_law_.nd rfl (.inl rfl) ?_ (by rfl) (by first | exact .inl rfl | exact .inr rfl | assumption)
 refine D1 Ao ?_
 refine @Aa _ _ _ _ _ ?_ Ae rfl
 refine @Bn _ _ _ ?_
 refine Gj (Cl ["state"] [] rfl rfl rfl rfl rfl) rfl ?_ ?_ ?_ ?_
 refine C0 ?_
 exact (Ab 2)
 intro _ _ _ _ _
 exact (A3 (by show List.Nodup [("state" : Str)] ;decide +kernel) rfl (.inl rfl))
 intro _ _ _ _ _
 exact Cd
 intro _ _ _ _ _
 refine @An _ _ _ _ _ _ _ _ _ _ _ _ (ih .AB) hr rfl (M.mgs .AB) (Fun.kp (M.fn .AB)) (M.bd .AB) ?_ (by decide) (by rfl) (by rfl)
 refine @Aa _ _ _ _ _ ?_ Ae rfl
 exact (Ab 0)
 refine @Ai _ _ _ _ _ _ ?_ ?_
 refine Lu (i:=10) (Cl ["state"] [] rfl rfl rfl rfl rfl) rfl sc_law_.nd rfl rfl ?_ ?_ ?_ ?_
 refine C0 ?_
 exact (Ab 2)
 intro _ _ _ _ _
 exact (A3 (by show List.Nodup [("state" : Str)] ;decide +kernel) rfl (.inl rfl))
 intro _ _ _ _ _
 exact Cd
 intro _ _ _ _ _
 refine @AG _ _ _ _ _ _ _ _ _ AM AC ?_ ?_
 refine @Bd _ _ _ _ _ ?_
 refine @Aa _ _ _ _ _ ?_ Ae rfl
 refine @AA _ _ _ _ _ _ _ _ As Au ?_ Af (fun _ _=>rfl)
 exact (Ab 0)
 refine @Ea _ _ _ _ _ _ _ _ _ _ ER JP rfl M.z_tuple CS ?_ (by decide) (by decide) (by rfl) (by rfl)
 refine @Aa _ _ _ _ _ ?_ Ae rfl
 refine @Bn _ _ _ ?_
 refine DC (Cl ["words"] [] rfl rfl rfl rfl rfl) rfl ?_ ?_ ?_ ?_
 refine @Cv _ _ _ _ ?_
 refine @Ci _ _ _ _ _ _ _ _ _ _ _ sl3 CJ ?_ ?_ E6
 exact (Ab 0)
 exact (BZ Af)
 intro _ _ _ _ _
 exact (A3 (by show List.Nodup [("words" : Str)] ;decide +kernel) rfl (.inl rfl))
 intro _ _ _ _ _
 exact Cd
 intro _ _ _ _ _
 refine @Bn _ _ _ ?_
 refine @RK _ _ _ _ _ _ _ _ _ _ GN Nu rfl M.z_list E5 ?_ (by decide) (by decide) (by rfl) (by rfl)
 refine @Aa _ _ _ _ _ ?_ Ae rfl
 exact (Ab 0)
 refine @Ai _ _ _ _ _ _ ?_ ?_
 refine @AZ _ _ _ _ 11 _ _ _ sc_law_.nd rfl (.inl rfl) ?_ (by rfl) (by first | exact .inl rfl | exact .inr rfl | assumption)
 refine @An _ _ _ _ _ _ _ _ _ _ _ _ (ih .AJ) hr rfl (M.mgs .AJ) (Fun.kp (M.fn .AJ)) (M.bd .AJ) ?_ (by decide) (by rfl) (by rfl)
 refine @Aa _ _ _ _ _ ?_ Ae rfl
 exact (Ab 10)
 refine @Ai _ _ _ _ _ _ ?_ ?_
 refine @A2 _ _ _ _ _ _ _ _ _ ?_ ?_ AE
 refine @Ce _ _ _ ?_
 refine @C8 _ _ _ _ _ _ _ ?_ ?_
 refine @BK _ _ _ _ ?_
 refine @Bs _ _ _ ?_ (by intro _;rfl)
 refine @Br _ _ _ _ _ _ _ _ _ _ BL B2 rfl M.z_isinstance A0 ?_ (by decide) (by decide) (by rfl) (by rfl)
 refine @Aa _ _ _ _ _ ?_ ?_ rfl
 exact (Ab 11)
 refine @Aa _ _ _ _ _ ?_ Ae rfl
 exact (Cc rfl M.z_str Dd)
 refine @C8 _ _ _ _ _ _ _ ?_ ?_
 refine @AW _ _ _ _ _ _ _ _ _ (Dg hr.units) (AV (g:=fun b=>!b)) ?_ ?_ (AK _)
 exact (Ab 11)
 exact (Ab 9)
 refine @Df _ _ _ _ ?_
 refine @AW _ _ _ _ _ _ _ _ _ (Dg hr.units) (JO (g:=fun b=>!b)) ?_ ?_ (AK _)
 exact (Ab 10)
 exact (Ab 2)
 refine @Ak _ _ _ _ ?_
 exact (Aq B4)
 refine @Ai _ _ _ _ _ _ ?_ ?_
 refine @AZ _ _ _ _ 12 _ _ _ sc_law_.nd rfl (.inl rfl) ?_ (by rfl) (by first | exact .inl rfl | exact .inr rfl | assumption)
 refine @An _ _ _ _ _ _ _ _ _ _ _ _ (ih .AI) hr rfl (M.mgs .AI) (Fun.kp (M.fn .AI)) (M.bd .AI) ?_ (by decide) (by rfl) (by rfl)
 refine @Aa _ _ _ _ _ ?_ Ae rfl
 exact (Ab 9)
 refine @Ai _ _ _ _ _ _ ?_ ?_
 refine @A2 _ _ _ _ _ _ _ _ _ ?_ ?_ AE
 refine @Ce _ _ _ ?_
 refine @C8 _ _ _ _ _ _ _ ?_ ?_
 refine @AW _ _ _ _ _ _ _ _ _ (Dg hr.units) (JO (g:=fun b=>!b)) ?_ ?_ (AK _)
 exact (Ab 12)
 exact (Ab 2)
 refine @Df _ _ _ _ ?_
 refine @BK _ _ _ _ ?_
 refine @Bs _ _ _ ?_ (by intro _;rfl)
 refine @An _ _ _ _ _ _ _ _ _ _ _ _ (ih .A8) hr rfl (M.mgs .A8) (Fun.kp (M.fn .A8)) (M.bd .A8) ?_ (by decide) (by rfl) (by rfl)
 refine @Aa _ _ _ _ _ ?_ Ae rfl
 exact (Ab 12)
 refine @Ak _ _ _ _ ?_
 exact (Aq B4)
 refine @Ai _ _ _ _ _ _ ?_ ?_
 refine F1 PassesOwn.never rfl ?_ ?_ ?_
 refine C0 ?_
 exact (Ab 12)
 exact (A3 sc_law_.nd rfl (.inl rfl))
 refine @Ak _ _ _ _ ?_
 refine @Dy _ _ _ _ _ _ _ _ _ PassesOwn.never rfl ?_ ?_ ?_ (by intro _;rfl)
 refine @Cv _ _ _ _ ?_
 refine @Ci _ _ _ _ _ _ _ _ _ _ _ sl3 CJ ?_ ?_ E6
 exact (Ab 13)
 exact (BZ Af)
 exact (A3 sc_law_.nd rfl (.inl rfl))
 refine @Ak _ _ _ _ ?_
 refine Es ?_
 refine EJ ?_ ?_
 exact (Ab 14)
 refine @Aa _ _ _ _ _ ?_ Ae rfl
 refine @Bd _ _ _ _ _ ?_
 refine @Aa _ _ _ _ _ Ao ?_ rfl
 refine @Aa _ _ _ _ _ ?_ ?_ rfl
 refine @Bd _ _ _ _ _ ?_
 exact (@Aa _ _ _ _ _ Ao Ae rfl)
 exact (@Aa _ _ _ _ _ Af Ae rfl)
 refine @Ai _ _ _ _ _ _ ?_ ?_
 refine @A2 _ _ _ _ _ _ _ _ _ ?_ ?_ AE
 refine @AW _ _ _ _ _ _ _ _ _ (Dg hr.units) (AV (g:=fun b=>!b)) ?_ ?_ (AK _)
 refine @An _ _ _ _ _ _ _ _ _ _ _ _ (ih .AQ) hr rfl (M.mgs .AQ) (Fun.kp (M.fn .AQ)) (M.bd .AQ) ?_ (by decide) (by rfl) (by rfl)
 refine @Aa _ _ _ _ _ ?_ Ae rfl
 exact (Ab 12)
 refine @Bn _ _ _ ?_
 refine DC (Cl ["many"] [] rfl rfl rfl rfl rfl) rfl ?_ ?_ ?_ ?_
 refine @Cv _ _ _ _ ?_
 refine @An _ _ _ _ _ _ _ _ _ _ _ _ (ih .AQ) hr rfl (M.mgs .AQ) (Fun.kp (M.fn .AQ)) (M.bd .AQ) ?_ (by decide) (by rfl) (by rfl)
 refine @Aa _ _ _ _ _ ?_ Ae rfl
 exact (Ab 2)
 intro _ _ _ _ _
 exact (A3 (by show List.Nodup [("many" : Str)] ;decide +kernel) rfl (.inl rfl))
 intro _ _ _ _ _
 exact Cd
 intro _ _ _ _ _
 refine @AG _ _ _ _ _ _ _ _ _ AM AC Af ?_
 exact (Ab 0)
 refine @Ak _ _ _ _ ?_
 exact (Aq B4)
 refine @Ai _ _ _ _ _ _ ?_ ?_
 refine Es ?_
 refine EJ ?_ ?_
 exact (Ab 12)
 refine @Aa _ _ _ _ _ ?_ Ae rfl
 refine @Bd _ _ _ _ _ ?_
 exact (@Aa _ _ _ _ _ Ao Ae rfl)
 refine @Ak _ _ _ _ ?_
 refine @Aq _ _ _ _ ?_
 refine @Ff _ _ _ _ _ _ _ ?_ ?_
 refine @Eb _ _ _ _ _ _ _ _ _ (Bx hr.units) (JO (g:=id)) ?_ ?_ (AK _)
 refine @An _ _ _ _ _ _ _ _ _ _ _ _ (ih .AI) hr rfl (M.mgs .AI) (Fun.kp (M.fn .AI)) (M.bd .AI) ?_ (by decide) (by rfl) (by rfl)
 refine @Aa _ _ _ _ _ ?_ Ae rfl
 exact (Ab 9)
 exact (Ab 2)
 refine @FY _ _ _ _ _ ?_
 refine @Eb _ _ _ _ _ _ _ _ _ (Bx hr.units) (AV (g:=id)) ?_ ?_ (AK _)
 refine @An _ _ _ _ _ _ _ _ _ _ _ _ (ih .AJ) hr rfl (M.mgs .AJ) (Fun.kp (M.fn .AJ)) (M.bd .AJ) ?_ (by decide) (by rfl) (by rfl)
 refine @Aa _ _ _ _ _ ?_ Ae rfl
 exact (Ab 10)
 exact (Ab 9)
theorem U1 (M:Md K mg A fd) (ih:∀x,FnOk P w K mg base CX0 n (A x) (fd x) (ps x) (spF K (run n x))):KU P w K mg base (n + 1) lamD "start" (Jp (n + 1)):=by
 intro fa c' pm ctv cs capsV hnd hlen
 refine UW (m:=Iy (run n .BI)) Xo hnd hlen fun A' outer s H E hr=>?_
 refine @An _ _ _ _ _ _ _ _ _ _ _ _ (ih .BI) hr rfl (M.mgs .BI) (Fun.kp (M.fn .BI)) (M.bd .BI) ?_ (by decide) (by rfl) (by rfl)
 refine @Aa _ _ _ _ _ ?_ ?_ rfl
 exact (Ab 1)
 refine @Aa _ _ _ _ _ ?_ ?_ rfl
 exact (Ab 0)
 refine @Aa _ _ _ _ _ ?_ Ae rfl
 refine @AG _ _ _ _ _ _ _ _ _ AM AC ?_ Af
 exact (Ab 2)
theorem MW (M:Md K mg A fd) (TB:TabAt base mg cc Pt):∀n:Nat,(∀x:Fx,FnOk P w K mg base CX0 n (A x) (fd x) (ps x) (spF K (run n x)))∧KU P w K mg base n lamD "start" (Jp n)
 | 0=>⟨fun x=>⟨fun vs H Q E h=>(by obtain ⟨c,ds,S,_,_,r,S',e,_⟩:=h;cases e),fun A' outer s H args us vs Q E _ _ _ _ h=>(by obtain ⟨c,ds,S,_,_,r,S',e,_⟩:=h;cases e)⟩,fun fa c' pm ctv cs capsV _ _=>⟨fun vs H Q E h=>(by obtain ⟨_,_,_,_,c,ds,caps,S,_,_,_,r,S',e,_⟩:=h;cases e),fun A' outer s H args us vs Q E _ _ _ _ h=>(by obtain ⟨_,_,_,_,c,ds,caps,S,_,_,_,r,S',e,_⟩:=h;cases e)⟩⟩
 | n + 1=>by
   obtain ⟨ih,ihL⟩:=MW M TB n
   refine ⟨fun x=>?_,U1 M ih⟩
   cases x with
   | Bl=>exact Kq M ih
   | Al=>exact Gr M ih
   | A9=>exact LL M ih
   | Bz=>exact LN M ih
   | BG=>exact MJ M ih
   | Ba=>exact JA M ih
   | Bw=>exact LM M ih
   | Bk=>exact Kn M ih
   | BH=>exact MK M ih
   | BF=>exact MI M ih
   | BU=>exact N9 M ih
   | AR=>exact JC M ih
   | Bp=>exact Ks M ih
   | AJ=>exact HL M ih
   | Bi=>exact JD M ih
   | Bq=>exact Kt M ih
   | Bb=>exact JB M ih
   | AI=>exact HK M ih
   | AT=>exact Jw M ih
   | Bc=>exact JE M ih
   | Bm=>exact Ku M ih
   | A6=>exact IE M ih
   | AL=>exact LO M TB ih
   | BD=>exact LP M ih
   | BI=>exact ML M ih
   | BO=>exact Oa M ihL ih
   | AY=>exact Kr M ih
   | A4=>exact IC M ih
   | AD=>exact Jv M ih
   | BC=>exact LK M ih
   | AF=>exact Ko M ih
   | Ag=>exact Kp M ih
   | Ax=>exact Jy M ih
   | Ay=>exact Jz M ih
   | AS=>exact HJ M ih
   | AB=>exact Gq M ih
   | A8=>exact Jx M ih
   | AQ=>exact ID M ih
   | law_=>exact Th M ih
end
abbrev fno (x:Fx) (kV dc pm:Value) (an:Option Addr) (cd ct:Value):FuncData:=PySem.W.fnOf (nm x) (nm x) (FW (st x)) (Dj (st x)) (Aw (st x)) .none kV dc pm an cd ct
structure At (K:PySem.W.Frag) (x:Fx) (f:Addr) (fd:FuncData):Prop where
 a:PySem.W.nsIn K mainGlobals (nm x)=some (some (.ref f))
 fn:Fun K (nm x) (nm x) (st x) f fd
 bd:Binds K fd (ps x) []
 eq:∃kV dc pm an cd ct,fd=fno x kV dc pm an cd ct
theorem at_mk {K:PySem.W.Frag} {x:Fx} {f:Addr} {od an:Option Addr} {sl:Array (Option Value)} {oc kV dc pm cd ct:Value} (a:PySem.W.nsIn K mainGlobals (nm x)=some (some (.ref f))) (l:K.lookup f=some ⟨oc,od,.func (fno x kV dc pm an cd ct),sl⟩) (c:PySem.W.codeIn K cd (nm x)=true) (k:PySem.W.keepIn K (.ref f)=true):∃p:Addr×FuncData,At K x p.1 p.2:=by
 refine ⟨(f,fno x kV dc pm an cd ct),a,O3 (st:=st x) l c k,(O3 (st:=st x) l c k).binds (ps:=ps x) fun _ _ _ _ _ _ us hl=>?_,_,_,_,_,_,_,rfl⟩
 cases x <;> (rcases us with _ | ⟨_,_ | ⟨_,_ | ⟨_,_ | ⟨_,us⟩⟩⟩⟩ <;> first | (cases hl;done) | rfl | (cases us;rfl;cases hl))
theorem fin_mk {K:PySem.W.Frag} {h:Heap} {mg:Str→Option Value} {fa:Addr} (X:K.In h) (G:h.Ns mainGlobals mg) (hmg:mg "law" = some (.ref fa)) (H:∀x:Fx,∃p:Addr×FuncData,At K x p.1 p.2) (z_bool:PySem.W.nsIn K mainGlobals "bool" = some none) (z_int:PySem.W.nsIn K mainGlobals "int" = some none) (z_isinstance:PySem.W.nsIn K mainGlobals "isinstance" = some none) (z_len:PySem.W.nsIn K mainGlobals "len" = some none) (z_list:PySem.W.nsIn K mainGlobals "list" = some none) (z_range:PySem.W.nsIn K mainGlobals "range" = some none) (z_set:PySem.W.nsIn K mainGlobals "set" = some none) (z_str:PySem.W.nsIn K mainGlobals "str" = some none) (z_tuple:PySem.W.nsIn K mainGlobals "tuple" = some none) {tk_FIGURES:Tok} (g_FIGURES:PySem.W.nsIn K mainGlobals "FIGURES" = some (some (.str "0123456789" tk_FIGURES))) {tk_LETTERS:Tok} (g_LETTERS:PySem.W.nsIn K mainGlobals "LETTERS" = some (some (.str "abcdefghijklmnopqrstuvwxyz" tk_LETTERS))) {tk_MOST_CHOICES:Tok} (g_MOST_CHOICES:PySem.W.nsIn K mainGlobals "MOST_CHOICES" = some (some (.int 9 tk_MOST_CHOICES))) {tk_MOST_DEPTH:Tok} (g_MOST_DEPTH:PySem.W.nsIn K mainGlobals "MOST_DEPTH" = some (some (.int 6 tk_MOST_DEPTH))) {tk_MOST_FIGURES:Tok} (g_MOST_FIGURES:PySem.W.nsIn K mainGlobals "MOST_FIGURES" = some (some (.int 18 tk_MOST_FIGURES))) {tk_MOST_LENGTH:Tok} (g_MOST_LENGTH:PySem.W.nsIn K mainGlobals "MOST_LENGTH" = some (some (.int 250 tk_MOST_LENGTH))) {tk_MOST_LETTERS:Tok} (g_MOST_LETTERS:PySem.W.nsIn K mainGlobals "MOST_LETTERS" = some (some (.int 8 tk_MOST_LETTERS))) {tk_MOST_NUMBER:Tok} (g_MOST_NUMBER:PySem.W.nsIn K mainGlobals "MOST_NUMBER" = some (some (.int 999999999999999999 tk_MOST_NUMBER))) {tk_MOST_SHAPES:Tok} (g_MOST_SHAPES:PySem.W.nsIn K mainGlobals "MOST_SHAPES" = some (some (.int 60 tk_MOST_SHAPES))) {tk_MOST_STATES:Tok} (g_MOST_STATES:PySem.W.nsIn K mainGlobals "MOST_STATES" = some (some (.int 30 tk_MOST_STATES))) {tk_MOST_WORDS:Tok} (g_MOST_WORDS:PySem.W.nsIn K mainGlobals "MOST_WORDS" = some (some (.int 9 tk_MOST_WORDS))) {f0:Addr} {od0 an0:Option Addr} {sl0:Array (Option Value)} {oc0 kV0 dc0 pm0 ct0:Value} (ca:PySem.W.nsIn K mainGlobals (nm .AL)=some (some (.ref f0))) (cl:K.lookup f0=some ⟨oc0,od0,.func (fno .AL kV0 dc0 pm0 an0 (.ref cc) ct0),sl0⟩):∃(A:Fx→Addr) (fd:Fx→FuncData),Md K mg A fd∧A .law_=fa∧∀(s:Shared) (u:Value),BindsTo s (fd .law_) ⟨[u],[]⟩ [("script",u)]:=by
 obtain ⟨F,hF⟩:=Classical.axiomOfChoice H
 have hcd:(F .AL).2.code = .ref cc:=by
  have e:=(hF .AL).a
  rw [ca] at e
  obtain ⟨_,_,_,_,_,_,_,_,_,_,e2,_⟩:=(hF .AL).fn.ex
  cases e
  rw [cl] at e2
  simp only [Option.some.injEq,Obj.mk.injEq,Data.func.injEq] at e2
  rw [←e2.2.2.1]
 refine ⟨fun x=>(F x).1,fun x=>(F x).2,{ fn:=fun x=>(hF x).fn,mgs:=fun x=>PySem.W.mg_of X G (hF x).a,bd:=fun x=>(hF x).bd,cd:=hcd,z_bool:=PySem.W.mg_none_of X G z_bool,z_int:=PySem.W.mg_none_of X G z_int,z_isinstance:=PySem.W.mg_none_of X G z_isinstance,z_len:=PySem.W.mg_none_of X G z_len,z_list:=PySem.W.mg_none_of X G z_list,z_range:=PySem.W.mg_none_of X G z_range,z_set:=PySem.W.mg_none_of X G z_set,z_str:=PySem.W.mg_none_of X G z_str,z_tuple:=PySem.W.mg_none_of X G z_tuple,g_FIGURES:=⟨tk_FIGURES,PySem.W.mg_of X G g_FIGURES⟩,g_LETTERS:=⟨tk_LETTERS,PySem.W.mg_of X G g_LETTERS⟩,g_MOST_CHOICES:=⟨tk_MOST_CHOICES,PySem.W.mg_of X G g_MOST_CHOICES⟩,g_MOST_DEPTH:=⟨tk_MOST_DEPTH,PySem.W.mg_of X G g_MOST_DEPTH⟩,g_MOST_FIGURES:=⟨tk_MOST_FIGURES,PySem.W.mg_of X G g_MOST_FIGURES⟩,g_MOST_LENGTH:=⟨tk_MOST_LENGTH,PySem.W.mg_of X G g_MOST_LENGTH⟩,g_MOST_LETTERS:=⟨tk_MOST_LETTERS,PySem.W.mg_of X G g_MOST_LETTERS⟩,g_MOST_NUMBER:=⟨tk_MOST_NUMBER,PySem.W.mg_of X G g_MOST_NUMBER⟩,g_MOST_SHAPES:=⟨tk_MOST_SHAPES,PySem.W.mg_of X G g_MOST_SHAPES⟩,g_MOST_STATES:=⟨tk_MOST_STATES,PySem.W.mg_of X G g_MOST_STATES⟩,g_MOST_WORDS:=⟨tk_MOST_WORDS,PySem.W.mg_of X G g_MOST_WORDS⟩ },?_,fun s u=>?_⟩
 ·have e:=hmg.symm.trans (PySem.W.mg_of X G (hF .law_).a)
  cases e
  rfl
 ·obtain ⟨_,_,_,_,_,_,e⟩:=(hF .law_).eq
  show BindsTo s (F .law_).2 _ _
  rw [e]
  exact .of_eq rfl
theorem Uw {K:PySem.W.Frag} {x:Fx} {f:Addr} {od an:Option Addr} {sl:Array (Option Value)} {oc kV dc pm cd ct:Value} (T:D7 K Pt) (a:PySem.W.nsIn K mainGlobals (nm x)=some (some (.ref f))) (l:K.lookup f=some ⟨oc,od,.func (fno x kV dc pm an cd ct),sl⟩) (c:PySem.W.codeIn K cd (nm x)=true):∃p:Addr×FuncData,At (wo Pt K) x p.1 p.2:=at_mk (B7 T a) (Mx T l) (Uj T c) (Uk T l)
theorem SI {K:PySem.W.Frag} {h:Heap} {mg:Str→Option Value} {fa:Addr} (T:D7 K Pt) (X:(wo Pt K).In h) (G:h.Ns mainGlobals mg) (hmg:mg "law" = some (.ref fa)) (H:∀x:Fx,∃p:Addr×FuncData,At (wo Pt K) x p.1 p.2) (z_bool:PySem.W.nsIn K mainGlobals "bool" = some none) (z_int:PySem.W.nsIn K mainGlobals "int" = some none) (z_isinstance:PySem.W.nsIn K mainGlobals "isinstance" = some none) (z_len:PySem.W.nsIn K mainGlobals "len" = some none) (z_list:PySem.W.nsIn K mainGlobals "list" = some none) (z_range:PySem.W.nsIn K mainGlobals "range" = some none) (z_set:PySem.W.nsIn K mainGlobals "set" = some none) (z_str:PySem.W.nsIn K mainGlobals "str" = some none) (z_tuple:PySem.W.nsIn K mainGlobals "tuple" = some none) {tk_FIGURES:Tok} (g_FIGURES:PySem.W.nsIn K mainGlobals "FIGURES" = some (some (.str "0123456789" tk_FIGURES))) {tk_LETTERS:Tok} (g_LETTERS:PySem.W.nsIn K mainGlobals "LETTERS" = some (some (.str "abcdefghijklmnopqrstuvwxyz" tk_LETTERS))) {tk_MOST_CHOICES:Tok} (g_MOST_CHOICES:PySem.W.nsIn K mainGlobals "MOST_CHOICES" = some (some (.int 9 tk_MOST_CHOICES))) {tk_MOST_DEPTH:Tok} (g_MOST_DEPTH:PySem.W.nsIn K mainGlobals "MOST_DEPTH" = some (some (.int 6 tk_MOST_DEPTH))) {tk_MOST_FIGURES:Tok} (g_MOST_FIGURES:PySem.W.nsIn K mainGlobals "MOST_FIGURES" = some (some (.int 18 tk_MOST_FIGURES))) {tk_MOST_LENGTH:Tok} (g_MOST_LENGTH:PySem.W.nsIn K mainGlobals "MOST_LENGTH" = some (some (.int 250 tk_MOST_LENGTH))) {tk_MOST_LETTERS:Tok} (g_MOST_LETTERS:PySem.W.nsIn K mainGlobals "MOST_LETTERS" = some (some (.int 8 tk_MOST_LETTERS))) {tk_MOST_NUMBER:Tok} (g_MOST_NUMBER:PySem.W.nsIn K mainGlobals "MOST_NUMBER" = some (some (.int 999999999999999999 tk_MOST_NUMBER))) {tk_MOST_SHAPES:Tok} (g_MOST_SHAPES:PySem.W.nsIn K mainGlobals "MOST_SHAPES" = some (some (.int 60 tk_MOST_SHAPES))) {tk_MOST_STATES:Tok} (g_MOST_STATES:PySem.W.nsIn K mainGlobals "MOST_STATES" = some (some (.int 30 tk_MOST_STATES))) {tk_MOST_WORDS:Tok} (g_MOST_WORDS:PySem.W.nsIn K mainGlobals "MOST_WORDS" = some (some (.int 9 tk_MOST_WORDS))) {f0:Addr} {od0 an0:Option Addr} {sl0:Array (Option Value)} {oc0 kV0 dc0 pm0 ct0:Value} (ca:PySem.W.nsIn K mainGlobals (nm .AL)=some (some (.ref f0))) (cl:K.lookup f0=some ⟨oc0,od0,.func (fno .AL kV0 dc0 pm0 an0 (.ref cc) ct0),sl0⟩):∃(A:Fx→Addr) (fd:Fx→FuncData),Md (wo Pt K) mg A fd∧A .law_=fa∧∀(s:Shared) (u:Value),BindsTo s (fd .law_) ⟨[u],[]⟩ [("script",u)]:=
 fin_mk X G hmg H (B7 T z_bool) (B7 T z_int) (B7 T z_isinstance) (B7 T z_len) (B7 T z_list) (B7 T z_range) (B7 T z_set) (B7 T z_str) (B7 T z_tuple) (B7 T g_FIGURES) (B7 T g_LETTERS) (B7 T g_MOST_CHOICES) (B7 T g_MOST_DEPTH) (B7 T g_MOST_FIGURES) (B7 T g_MOST_LENGTH) (B7 T g_MOST_LETTERS) (B7 T g_MOST_NUMBER) (B7 T g_MOST_SHAPES) (B7 T g_MOST_STATES) (B7 T g_MOST_WORDS) (B7 T ca) (Mx T cl)
theorem walk {l:PySem.W.OpenLaw} {q:Program} {loose:List Str} {XP:(Str→Option Value)→Heap→Prop} {as:List Addr} {sz tk:Nat} {d:DefRec} {K:Params→PySem.W.Frag} (m:Nat) (hm:Room m callerA) (hn:l.most=some 63) (hdf:d.params.defaults=[])
 (hE:∀P,as=(K P).map (·.1)) (hT:∀P:Params,Ge (wo Pt (K P))≤tk) (hP:∀P:Params,D7 (K P) Pt) (hC:∀P:Params,Jf (K P) cc Pt=true) (lt:∀ns:List Int,ns.length≤63→∃S',run m .law_ [.scr ns] [.tab Pt 146 40 lamD.qual]=some (.bl true,S'))
 (F:∀(w:World) (mg:Str→Option Value) (fa:Addr) (h:Heap),(wo Pt (K w.params)).In h→h.Ns mainGlobals mg→mg d.name=some (.ref fa)→
   ∃(A:Fx→Addr) (fd:Fx→FuncData),Md (wo Pt (K w.params)) mg A fd∧A .law_=fa∧∀(s:Shared) (u:Value),BindsTo s (fd .law_) ⟨[u],[]⟩ [("script",u)]) :
 PySem.W.WalkX q loose XP (PySem.W.X.obsZ as) (PySem.W.X.valZ K sz tk) l.row.toRowW d [] (fun f vs=>PySem.call f vs):=
 L2.Rs (c:=cc) (Pt:=Pt) (n:=63) (k:=m) (x:="script") (K:=fun P=>wo Pt (K P)) (CX:=fun _=>CX0) (sp:=fun w=>spF (wo Pt (K w.params)) (run m .law_)) hn (by decide) hdf hm (fun w s Y=>by obtain ⟨_,h2,_,h4⟩:=PySem.W.X.z_facts hE Y;exact ⟨WX h2,by rw [h4];exact hT _,h2 _ _ (hP _),OL h2 (hC _)⟩) (fun _=>JU)
  (fun w mg fa h KX G hmg=>by obtain ⟨A,fd,M,e,b⟩:=F w mg fa h KX G hmg;subst e;exact ⟨fd .law_,b,fun base _ _ T=>(MW M T m).1 .law_⟩)
  (fun w H a ns hl hO hP hS=>by obtain ⟨S',e⟩:=lt ns hl;exact N4 hO hP hS e) fun _ _ _ _ _ z=>z
theorem Tf (k:Nat):MS (run (k + 1) .Bl):=fun d h=>Lz h
theorem GG (k:Nat):Fc (run (k + 2) .Al):=P7 (Tf k)
theorem Ri (k:Nat):K1 (run (k + 3) .BG):=NY (GG k)
theorem Pq (k:Nat):I9 (run (k + 4) .Bz):=QP (GG (k + 1)) (Ri k)
theorem Ka (k:Nat):Fs (run (k + 5) .A9):=ME (Pq k)
theorem Jc (k:Nat):GK (run (k + 1) .AD):=Ux
theorem Su (k:Nat):IZ (run (k + 1) .A4):=Uy
theorem Nd (k:Nat):Kz (run (k + 2) .AY):=QM (Jc k)
theorem TQ (k:Nat):ND (run (k + 2) .BO) lamD (Jp (k + 1)):=Q8 (Su k)
abbrev tau:Ob:=.tab Pt 146 40 lamD.qual
theorem PM:∀(n k:Nat),4 * n + 6≤k→NF (run k .AL) tau n
 | 0,k,_=>fun s x p dep r S hs=>absurd s.depth_pos (by omega)
 | n + 1,k,h=>by
   obtain ⟨j,rfl⟩:∃j,k=j + 2 + 4:=⟨k - 6,by omega⟩
   have ih:=PM n (j + 2) (by omega)
   have hp:OA (run (j + 2 + 1) .BI) tau n:=Tn ih (Nd j) (Jc (j + 1))
   exact T0 T3 (TQ (j + 2 + 1)) (Jc (j + 2 + 2)) fun q x p dep r S h1 h2 h3 h4 h5 h6=>UX (hp q x p (dep + 1) r S h1 h2 h3 h4 h5 h6)
theorem Vy (k:Nat) (h:40≤k):Qf (run k .Bb) tau:=by
 obtain ⟨j,rfl⟩:∃j,k=j + 5 + 1:=⟨k - 6,by omega⟩
 exact TN (Ka j) (PM 6 (j + 5) (by omega)) fun x=>Lf
theorem Ny:∀(n k:Nat),2 * n + 2≤k→ShwOk (run k .AR) n
 | 0,k,_=>ShwOk.zero
 | n + 1,k,h=>by
   obtain ⟨j,rfl⟩:∃j,k=j + 2:=⟨k - 2,by omega⟩
   exact VJ (Vj (Ny n j (by omega)))
theorem Nx:∀(n k:Nat),n + 1≤k→ShwOk (run k .Ay) n
 | 0,k,_=>ShwOk.zero
 | n + 1,k,h=>by
   obtain ⟨j,rfl⟩:∃j,k=j + 1:=⟨k - 1,by omega⟩
   exact Rf (Nx n j (by omega))
theorem QK (k:Nat):KY (run (k + 1) .BF):=NX
theorem Rt (k:Nat):K3 (run (k + 6) .BH):=NZ (QK (k + 4)) (Ka k) (GG (k + 3))
theorem Qn (k:Nat):P8 (run (k + 7) .Bk):=So (Rt k)
theorem QE (k:Nat):Qb (run (k + 8) .Bw):=ST (Qn k)
theorem QD (k:Nat):Qa (run (k + 9) .Ba):=SS (QE k)
theorem Te (k:Nat):NC (run (k + 3) .A6):=QN (Nd k)
theorem Ul (k:Nat) (h:44≤k):Qk (run k .Bm) tau:=by
 obtain ⟨j,rfl⟩:∃j,k=j + 3 + 1:=⟨k - 4,by omega⟩
 exact Ui (Te j) (Vy (j + 3) (by omega))
theorem T6 (k:Nat) (h:45≤k):Qh (run k .Bc) tau:=by
 obtain ⟨j,rfl⟩:∃j,k=j + 1:=⟨k - 1,by omega⟩
 exact T7 (Ul j (by omega))
theorem TM (k:Nat) (h:46≤k):RdG (run k .AI) tau:=by
 obtain ⟨j,rfl⟩:∃j,k=j + 9 + 1:=⟨k - 10,by omega⟩
 exact Vz (QD j) (T6 (j + 9) (by omega)) fun x=>Lf
theorem T2 (k:Nat) (h:20≤k):ShG (run k .AJ):=by
 obtain ⟨j,rfl⟩:∃j,k=j + 1 + 1 + 1:=⟨k - 3,by omega⟩
 exact MO (PR (Rg (Ny 6 j (by omega))))
theorem T8 (k:Nat) (h:9≤k):Qi (run k .AB):=by
 obtain ⟨j,rfl⟩:∃j,k=j + 1:=⟨k - 1,by omega⟩
 exact T9 (Nx 6 j (by omega))
theorem HW (k:Nat) (τ:Frm):PTakeU τ (run (k + 1) .Ag):=PF
theorem PP (τ:Frm):∀(n k:Nat),n + 3≤k→PShU τ (run k .Ax) n
 | 0,k,_=>fun d k r S hd=>absurd hd (Nat.not_lt_zero _)
 | n + 1,k,h=>by
   obtain ⟨j,rfl⟩:∃j,k=j + 2:=⟨k - 2,by omega⟩
   exact TD (HW j τ) (.inr (PP τ n (j + 1) (by omega)))
theorem LX (k:Nat) (τ:Frm):FT τ (run (k + 2) .AF):=Pz Tx
theorem SN (k:Nat) (h:10≤k):Qd (run k .AS) tau:=by
 obtain ⟨j,rfl⟩:∃j,k=j + 2 + 1:=⟨k - 3,by omega⟩
 exact UJ (HW (j + 1)) (fun τ=>PP τ 3 (j + 2) (by omega)) (LX j)
theorem Sy (k:Nat):P9 (run (k + 1) .AQ):=UB
theorem SW (k:Nat):Qc (run (k + 1) .A8):=UT
theorem SX (k:Nat) (hk:60≤k) (ns:List Int) (h:ns.length≤63):∃S',run k .law_ [.scr ns] [.tab Pt 146 40 lamD.qual]=some (.bl true,S'):=by
 obtain ⟨j,rfl⟩:∃j,k=j + 2 + 1:=⟨k - 3,by omega⟩
 obtain ⟨r,S',e,p⟩:=UO (S:=[tau]) (ns:=ns) (TM (j + 2) (by omega)) (T2 (j + 2) (by omega)) (Sy (j + 1)) (SW (j + 1)) (T8 (j + 2) (by omega)) (LX j) (HW (j + 1)) (SN (j + 2) (by omega)) rfl
 subst p
 have er:run (j + 2 + 1) .law_=fnOf 1 15 (EK (run (j + 2) .AI) (run (j + 2) .AJ) (run (j + 2) .AQ) (run (j + 2) .A8) (run (j + 2) .AB) (run (j + 2) .AF) (run (j + 2) .Ag) (run (j + 2) .AS)):=rfl
 rw [er]
 exact ⟨S',e⟩
theorem law_true (ns:List Int) (h:ns.length≤63):∃S',run 100 .law_ [.scr ns] [.tab Pt 146 40 lamD.qual]=some (.bl true,S'):=SX 100 (by decide) ns h
end K63
namespace PySem.W.Fast
def tw10007265082036620930:=0
def tw10057389726069019008:=0
def tw10064233345633771588:=0
def tw10202737216724918681:=0
def tw10380325897945555604:=0
def tw10441687100150333933:=0
def tw10504909244146007712:=0
def tw1054220680237469377:=0
def tw10555709800846893693:=0
def tw10582808259823366170:=0
def tw10595777061086266592:=0
def tw10631157549294770183:=0
def tw10807735150453463737:=0
def tw10886901057227915400:=0
def tw10896167370795747569:=0
def tw10938631713821838913:=0
def tw10973696782784556138:=0
def tw11010044656924902426:=0
def tw11061035821145426684:=0
def tw11069274866448566960:=0
def tw11073118680842532486:=0
def tw11224626076589139289:=0
def tw11266104419841629970:=0
def tw11266478637794150896:=0
def tw11290841368796338527:=0
def tw1143035978929973205:=0
def tw11439670880688991696:=0
def tw11583581143619015389:=0
def tw11606393560585863645:=0
def tw1162047451795934823:=0
def tw11622159230661674278:=0
def tw11639217724791835233:=0
def tw11755085138110686272:=0
def tw11846594068316663489:=0
def tw1186672574285396488:=0
def tw12046287095212040101:=0
def tw12203704711964731323:=0
def tw12268014156461448163:=0
def tw1227605931119191390:=0
def tw12499273838753441044:=0
def tw12518285957278620224:=0
def tw12585747231339329894:=0
def tw12599343510419127151:=0
def tw1263778890688237571:=0
def tw12641316164812259708:=0
def tw12655184957188639423:=0
def tw12740749229045417104:=0
def tw12895307031874877420:=0
def tw12899260893975693053:=0
def tw13035205302313523890:=0
def tw13063740004180004783:=0
def tw13081530366431876707:=0
def tw13255426056867383737:=0
def tw13352833520942904236:=0
def tw13371332348672587888:=0
def tw13401393419285736750:=0
def tw13483777246122744362:=0
def tw13543249537615754946:=0
def tw13567980648169617931:=0
def tw13593172062389052020:=0
def tw13628804981762817740:=0
def tw13648747479585846826:=0
def tw13778536017045532440:=0
def tw13848711485028703498:=0
def tw13849956893756001469:=0
def tw13896008800528971472:=0
def tw13916505650065970877:=0
def tw13959891273888985160:=0
def tw14075440940650304997:=0
def tw1408380296084864879:=0
def tw14115687198493452025:=0
def tw14333273946702227:=0
def tw14452763262601226359:=0
def tw14491796731408553712:=0
def tw14532527871486836637:=0
def tw14566806231933797134:=0
def tw14600903420110584500:=0
def tw14661981377304788765:=0
def tw14663961363017973639:=0
def tw14673260813944381599:=0
def tw14841636916702773112:=0
def tw14986795279524764272:=0
def tw1500154616429580397:=0
def tw15062474526051504166:=0
def tw1511279917132538295:=0
def tw15286517059576298501:=0
def tw15296444623500430761:=0
def tw15310238928213676406:=0
def tw15372933022654181716:=0
def tw15383098697991748877:=0
def tw15475778840512990970:=0
def tw15741008701386920362:=0
def tw15798171600699982201:=0
def tw15807393894636531573:=0
def tw15844100202070325574:=0
def tw1597869836550682789:=0
def tw16109147742529556765:=0
def tw16148995379957544594:=0
def tw16277365966461910547:=0
def tw16279786770875528805:=0
def tw16285452887683076729:=0
def tw16376143572159137642:=0
def tw16462968339767065221:=0
def tw16486293240573214092:=0
def tw16562603047876135850:=0
def tw16575444453285841164:=0
def tw16646077707589571851:=0
def tw16682795393725196763:=0
def tw16685115094652767112:=0
def tw16723257856343119789:=0
def tw16732052890889732302:=0
def tw16813609254966801541:=0
def tw16968878773127565672:=0
def tw17004374771605467897:=0
def tw17012948234038127233:=0
def tw17018344411772680217:=0
def tw17113073731978391562:=0
def tw17169951594468129390:=0
def tw17245912137242168563:=0
def tw17274443572707362807:=0
def tw17330203034059542878:=0
def tw17423005389641665214:=0
def tw17445974170474805135:=0
def tw17509703441110197448:=0
def tw17544661427648736599:=0
def tw17615343031529368031:=0
def tw17732240378484354077:=0
def tw17826132921452939017:=0
def tw17896425905126855636:=0
def tw1806533663465485114:=0
def tw1815044108168924278:=0
def tw18179249659395865898:=0
def tw18259868816613827148:=0
def tw18361902274826450751:=0
def tw1853628433613332319:=0
def tw1894110966593330657:=0
def tw2158777624975592224:=0
def tw2226564106351678192:=0
def tw2244198465177697705:=0
def tw2331192547800458563:=0
def tw2335407864988785000:=0
def tw2344999858096589528:=0
def tw2373147173083846230:=0
def tw2407282951587262707:=0
def tw2481144823485539861:=0
def tw2538554768403329741:=0
def tw2589170399550338812:=0
def tw2651326862899569967:=0
def tw2694150325829233240:=0
def tw2860683448985209423:=0
def tw2910280989500168241:=0
def tw2960942074718526788:=0
def tw315486841695258578:=0
def tw3177543941357452057:=0
def tw3202566625242849038:=0
def tw3334569980453017238:=0
def tw3352862109973764508:=0
def tw3381223902176693078:=0
def tw3383130547585179342:=0
def tw342399741899993015:=0
def tw3500684040343071576:=0
def tw3509080165893165948:=0
def tw3607964505508490108:=0
def tw3686831979971518383:=0
def tw3751044388733322100:=0
def tw375498916672566233:=0
def tw3780857652437396372:=0
def tw3989840590205989900:=0
def tw4029582049663434131:=0
def tw4113991839188231850:=0
def tw4203634223554080339:=0
def tw4227450055052106253:=0
def tw4308300422756671974:=0
def tw4342969258529578247:=0
def tw4366891676905522342:=0
def tw4401148068330693154:=0
def tw4568682000014125622:=0
def tw4667367925825939797:=0
def tw4780734362472979760:=0
def tw4802723021371778352:=0
def tw4956074758597100820:=0
def tw505354855195675303:=0
def tw5069974503328461326:=0
def tw5095169523942501391:=0
def tw5119535168573611703:=0
def tw5187813615376873720:=0
def tw519355478599119860:=0
def tw5293673037506778548:=0
def tw5380300328002001376:=0
def tw5398216367788583643:=0
def tw5562163213940984148:=0
def tw5567906956204866911:=0
def tw5701487973298311259:=0
def tw5710556623928229020:=0
def tw5922688435608665482:=0
def tw6068395094440861447:=0
def tw6082770411531015766:=0
def tw6109790265369959258:=0
def tw6125410491091711443:=0
def tw6149918771464541750:=0
def tw6255254967283997112:=0
def tw6364184055216489498:=0
def tw6401575628009629306:=0
def tw6428241593332996147:=0
def tw6487687079720345952:=0
def tw6566652821919006383:=0
def tw6591683560267359309:=0
def tw6642662889951669948:=0
def tw6720331773199253345:=0
def tw677961169898706826:=0
def tw7026764889942137653:=0
def tw7093761298918448854:=0
def tw7132171519712769583:=0
def tw7177060610463537122:=0
def tw7184886728784730317:=0
def tw7190561759443530024:=0
def tw7303540132467837345:=0
def tw7372327934346804387:=0
def tw7473886040593070891:=0
def tw7590007421387854754:=0
def tw7604289627710598718:=0
def tw762947301762101691:=0
def tw7664285631951387670:=0
def tw7736629965021539907:=0
def tw7794346642289159753:=0
def tw7998024149653250166:=0
def tw8012119393496349012:=0
def tw8179701040457913828:=0
def tw8192607141498358925:=0
def tw8356263939160491046:=0
def tw8396793967953386513:=0
def tw8424014548896652982:=0
def tw8450104901873400673:=0
def tw8556280193697325371:=0
def tw8645337396199088132:=0
def tw8827344525505726522:=0
def tw8841496488176513738:=0
def tw8844243107338286354:=0
def tw8896363156564621583:=0
def tw8968191250874791504:=0
def tw8983646666039522547:=0
def tw8985444608950127889:=0
def tw9029313910816562015:=0
def tw9288913750964295245:=0
def tw9318480085566760076:=0
def tw9328889380647981194:=0
def tw9372458756190577338:=0
def tw9375803326178507903:=0
def tw9400797495729504030:=0
def tw9446851365501185131:=0
def tw9458095489031189759:=0
def tw9555407335701953979:=0
def tw9615194131580225827:=0
def tw9661802761679142145:=0
def tw9764416237243330405:=0
def tw9786333625506123397:=0
def tw9786881823586560122:=0
def tw9787383106073267524:=0
def tw9846095549531949047:=0
def tw9886012696996248512:=0
def tw9898984506780707252:=0
end PySem.W.Fast
open PySem PySem.W PyProof.Rows
set_option maxRecDepth 100000 in
set_option maxHeartbeats 0 in
theorem PySem.Challenge.cw_wireparley_k63_grammars_written_holds : PySem.Challenge.rw_wireparley_k63_grammars_written.Holds := by
 w_on;o_law;z_head;(case hw=>w_witness2)
 k_fill
 refine K63.walk (l:=PySem.Challenge.rw_wireparley_k63_grammars_written) 100 ⟨rfl,by decide,by decide⟩ rfl rfl (fun _=>rfl) ?T ?P ?C K63.law_true ?F
 case T=>
  intro P
  refine' L2.PY (L2.B7 (by unfold L2.D7;k_is) ?e)
  (case e=>k_is)
 case P=>
  intro P
  unfold L2.D7
  k_is
 case C=>
  intro P
  kernel_rfl
 case F=>
  intro w mg fa h KX G hmg
  refine' K63.SI (by unfold L2.D7;k_is) KX G hmg ?H ?z_bool ?z_int ?z_isinstance ?z_len ?z_list ?z_range ?z_set ?z_str ?z_tuple ?g_FIGURES ?g_LETTERS ?g_MOST_CHOICES ?g_MOST_DEPTH ?g_MOST_FIGURES ?g_MOST_LENGTH ?g_MOST_LETTERS ?g_MOST_NUMBER ?g_MOST_SHAPES ?g_MOST_STATES ?g_MOST_WORDS ?ca ?cl
  (case H=>intro x;cases x <;> (refine' K63.Uw (by unfold L2.D7;k_is) ?a ?l ?c;(case a=>k_is);(case l=>k_is);(case c=>k_is)))
  (case z_bool=>k_is)
  (case z_int=>k_is)
  (case z_isinstance=>k_is)
  (case z_len=>k_is)
  (case z_list=>k_is)
  (case z_range=>k_is)
  (case z_set=>k_is)
  (case z_str=>k_is)
  (case z_tuple=>k_is)
  (case g_FIGURES=>k_is)
  (case g_LETTERS=>k_is)
  (case g_MOST_CHOICES=>k_is)
  (case g_MOST_DEPTH=>k_is)
  (case g_MOST_FIGURES=>k_is)
  (case g_MOST_LENGTH=>k_is)
  (case g_MOST_LETTERS=>k_is)
  (case g_MOST_NUMBER=>k_is)
  (case g_MOST_SHAPES=>k_is)
  (case g_MOST_STATES=>k_is)
  (case g_MOST_WORDS=>k_is)
  (case ca=>k_is)
  (case cl=>k_is)
