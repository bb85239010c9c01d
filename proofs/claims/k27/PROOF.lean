import PyProof.Rows.All
import Wide.All
import OpenK.AllK
import Wide.FinOn
import Lean
import PyProof.EqAt
import PyProof.EqKinds
import PyProof.TupleCall
import PyProof.NeKinds
import PyProof.ListMulRoad
import PyProof.MaxThree
import PyProof.Rows.StrJoinMade
import PyProof.ListStr
import PyProof.Rows.MinMaxN
import PyProof.Rows.Range3
import PyProof.ListRange
import PyProof.Rows.SetFrom
import PyProof.Rows.StrCase
import PyProof.SumAny
import PyProof.AutoIntG2
import PyProof.AutoListH
import PyProof.EnumStmt
import PyProof.EnumFor
import PyProof.EnumMake
import PyProof.Rows.EnumRows
import PyProof.ConsumeS
import PyProof.Rows.SortWalk
import KE.KDictSum
import PyProof.ZipIter
import KE.KEqDict
import PyProof.ExcClass2
import PyProof.RaisesMany
import PyProof.ExcBaseAll.ValueError
import PyProof.RulesDel
import PyProof.RulesAs
import PyProof.ExcArgs
import KE.KDictOf
import PyProof.AttrMissHeap
import PySem.Challenge.RW_wireparley_k27_broken_wires
noncomputable section
set_option Elab.async false
set_option linter.all false
set_option maxRecDepth 100000
namespace L2
open PySem PySem.Spec PyProof.Rows
abbrev Key:=Sum Int Str
noncomputable def HM:Key->Value->Bool
 | .inl k,v=>Value.isInt k v
 | .inr x,v=>Value.isStrOf x v
noncomputable def Yk (w:World):Key->Int
 | .inl k=>hashInt k
 | .inr x=>hashStr w x
theorem Cu:∀{k:Key} {v:Value},HM k v=true->(∃i t,k=Sum.inl i/\v=Value.int i t)\/(∃x t,k=Sum.inr x/\v=Value.str x t)
 | .inl i,v,h=>by
   obtain ⟨t,e⟩:=Value.isInt_shape (k:=i) (v:=v) h
   exact .inl ⟨i,t,rfl,e⟩
 | .inr x,v,h=>by
   obtain ⟨t,e⟩:=Value.isStrOf_shape (x:=x) (v:=v) h
   exact .inr ⟨x,t,rfl,e⟩
theorem P1 (i:Int) (t:Tok):HM (.inl i) (.int i t)=true:=by simp [HM,Value.isInt]
theorem P2 (x:Str) (t:Tok):HM (.inr x) (.str x t)=true:=by simp [HM,Value.isStrOf]
theorem Vi (a b:Int):decide ((Sum.inl a:Key)=Sum.inl b)=(a == b):=by
 by_cases e:a=b
 ·subst e;simp
 ·have h:¬(Sum.inl a:Key)=Sum.inl b:=λq=>e (Sum.inl.inj q)
  rw [decide_eq_false h]
  exact (beq_eq_false_iff_ne.mpr e).symm
theorem Vl (a b:Str):decide ((Sum.inr a:Key)=Sum.inr b)=decide (a=b):=by
 by_cases e:a=b
 ·subst e;simp
 ·have h:¬(Sum.inr a:Key)=Sum.inr b:=λq=>e (Sum.inr.inj q)
  rw [decide_eq_false h,decide_eq_false e]
theorem Vj (a:Int) (b:Str):decide ((Sum.inl a:Key)=Sum.inr b)=false:=decide_eq_false (λq=>nomatch q)
theorem Vk (a:Str) (b:Int):decide ((Sum.inr a:Key)=Sum.inl b)=false:=decide_eq_false (λq=>nomatch q)
def Cn (prog:Program) (w:World):PySem.KeyKind prog w Key where
 is:=HM
 hash:=Yk w
 inj:=λv a b ha hb=>by
  rcases Cu ha with ⟨i,t,rfl,rfl⟩ | ⟨x,t,rfl,rfl⟩
  ·rcases Cu hb with ⟨j,u,rfl,e⟩ | ⟨y,u,rfl,e⟩
   ·injection e with e1 _;rw [e1]
   ·exact nomatch e
  ·rcases Cu hb with ⟨j,u,rfl,e⟩ | ⟨y,u,rfl,e⟩
   ·exact nomatch e
   ·injection e with e1 _;rw [e1]
 byValue:=λk v h=>by
  rcases Cu h with ⟨i,t,rfl,rfl⟩ | ⟨x,t,rfl,rfl⟩ <;> rfl
 pyHash:=λhv h=>by
  rcases Cu hv with ⟨i,t,rfl,rfl⟩ | ⟨x,t,rfl,rfl⟩
  ·exact wpAny_pyHash_int h
  ·exact wpAny_pyHash_str h
 eqBool:=λhu hv h=>by
  rcases Cu hu with ⟨i,t,rfl,rfl⟩ | ⟨x,t,rfl,rfl⟩
  ·rcases Cu hv with ⟨j,u,rfl,rfl⟩ | ⟨y,u,rfl,rfl⟩
   ·rw [Vi] at h;exact wpAny_eqBool_int h
   ·rw [Vj] at h;exact SeqAt.EqAt.int_str i t y u _ _ _ _ h
  ·rcases Cu hv with ⟨j,u,rfl,rfl⟩ | ⟨y,u,rfl,rfl⟩
   ·rw [Vk] at h;exact SeqAt.EqAt.str_int x t j u _ _ _ _ h
   ·rw [Vl] at h;exact wpAny_eqBool_str h
 «strs»:=λk x t v h=>by
  rcases Cu h with ⟨i,u,rfl,e⟩ | ⟨y,u,rfl,e⟩
  ·exact nomatch e
  ·injection e with e1 _
   subst e1
   cases v <;> rfl
theorem Nz (prog:Program) (w:World) (i:Int) (t:Tok):(Cn prog w).is (.inl i) (.int i t)=true:=P1 i t
theorem NA (prog:Program) (w:World) (x:Str) (t:Tok):(Cn prog w).is (.inr x) (.str x t)=true:=P2 x t
inductive V where
 | non | bl (b:Bool) | int (i:Int) | str (x:Str) | byt (b:Array UInt8) | flt (b:UInt64) | ref (a:Addr) | ty (n:String)
 deriving DecidableEq
noncomputable def RelV:V->Value->Prop
 | .non,u=>u=Value.none
 | .bl b,u=>u=Value.bool b
 | .int i,u=>∃t,u=Value.int i t
 | .str x,u=>∃t,u=Value.str x t
 | .byt b,u=>∃t,u=Value.bytes b t
 | .flt b,u=>∃t,u=Value.float b t
 | .ref a,u=>u=Value.ref a
 | .ty n,u=>u=Value.type n
abbrev Vals:List V->List Value->Prop:=Paired RelV
theorem Vals.length {xs:List V} {us:List Value} (r:Vals xs us):xs.length=us.length:=Paired.length r
theorem Vals.get:∀{xs:List V} {us:List Value} {i:Nat} {x:V},Vals xs us->xs[i]?=some x->∃u,us[i]?=some u/\RelV x u
 | _,_,_,_,.nil,e=>by simp at e
 | _,_,0,_,.cons r _,e=>by simp at e;subst e;exact ⟨_,rfl,r⟩
 | _,_,i + 1,x,.cons _ t,e=>by
   obtain ⟨u,h1,h2⟩:=Vals.get (i:=i) (x:=x) t (by simpa using e)
   exact ⟨u,by simpa using h1,h2⟩
theorem Vals.append:∀{xs ys:List V} {us ws:List Value},Vals xs us->Vals ys ws->Vals (xs++ys) (us++ws)
 | _,_,_,_,.nil,s=>s
 | _,_,_,_,.cons r t,s=>.cons r (Vals.append t s)
theorem Vals.take:∀{xs:List V} {us:List Value} (n:Nat),Vals xs us->Vals (xs.take n) (us.take n)
 | _,_,0,_=>.nil
 | _,_,_ + 1,.nil=>.nil
 | _,_,n + 1,.cons r t=>.cons r (Vals.take n t)
theorem Vals.drop:∀{xs:List V} {us:List Value} (n:Nat),Vals xs us->Vals (xs.drop n) (us.drop n)
 | _,_,0,r=>r
 | _,_,_ + 1,.nil=>.nil
 | _,_,n + 1,.cons _ t=>Vals.drop n t
def RelO:Option V->Option Value->Prop
 | some v,some u=>RelV v u
 | none,none=>True
 | _,_=>False
def KV {κ:Type}:List (κ×V)->List (κ×Value)->Prop:=Paired λ(p:κ×V) (q:κ×Value)=>p.1=q.1/\RelV p.2 q.2
noncomputable def kV:Key->V
 | .inl i=>.int i
 | .inr x=>.str x
inductive HO where
 /-- a list -/
 | lst (xs:List V)
 /-- a tuple (never changes) -/
 | tup (xs:List V)
 /-- a dict whose keys are ints and texts;one whose keys are tuples of ints and texts (the empty one is both) -/
 | dK (kvs:List (Key×V)) | dT (kvs:List (List Key×V))
 /-- a set of ints: its members,its size -/
 | set (S:Int->Bool) (n:Nat)
 /-- an instance of the class at C,its dict at dx,its attributes -/
 | ins (C dx:Addr) (fs:List (Str×V))
 /-- the dict of the instance at x -/
 | own (x:Addr)
 /-- the dict of an exception -/
 | xd (fs:List (Str×V))
 /-- a bound method,f of x -/
 | met (f x:Addr)
 /-- a range object lo,lo + 1,.. below hi -/
 | rng (lo hi:Int)
 /-- a thing that is known to the object (the script;a dict while a loop walks it): read,never written while it is so -/
 | frz (o:Obj) (u:HO)
 /-- a code object's table -/
 | tbl (ps:Array Value)
 /-- any other thing,by what is true of its one object (a def of one's own: SetO a S n:=HO.ext λh=>..) -/
 | ext (φ:Heap->Prop)
abbrev Hp:=Addr->Option HO
noncomputable def upd (H:Hp) (a:Addr) (o:HO):Hp:=λb=>if b=a then some o else H b
theorem Az {H:Hp} {a:Addr} {o:HO}:upd H a o a=some o:=by unfold upd;rw [if_pos rfl]
theorem Ar {H:Hp} {a b:Addr} {o:HO} (h:b≠a):upd H a o b=H b:=by unfold upd;rw [if_neg h]
theorem Oh {H:Hp} {a:Addr} {o u:HO}:upd (upd H a o) a u=upd H a u:=by
 funext b;unfold upd;split <;> rfl
theorem Bi {H:Hp} {a b:Addr} {o:HO} (h:H a=some o) (h':H b=none):a≠b:=by
 intro e;subst e;rw [h] at h';cases h'
section
variable (P:Program) (w:World)
def ObjOk (H:Hp) (h:Heap) (a:Addr):HO->Prop
 | .lst xs=>xs.length<=sizeLine/\∃(its:List Value) (n:Nat),Vals xs its/\h.get? a=some { cls:=.type "list",data:=.seq its.toArray n }
 | .tup xs=>xs.length<=sizeLine/\∃its:List Value,Vals xs its/\IsTup h a its.toArray
 | .dK kvs=>kvs.length<=sizeLine/\(a == sysModules)=false/\∃vs,KV kvs vs/\h.DictOf (Cn P w) a vs
 | .dT kvs=>kvs.length<=sizeLine/\(a == sysModules)=false/\∃xs:List (List Key×Addr×Value),
    Paired (λ(p:List Key×V) (q:List Key×Addr×Value)=>p.1=q.1/\H q.2.1=some (.tup (p.1.map kV))/\RelV p.2 q.2.2) kvs xs/\
    ∃o es ep,h.get? a=some o/\o.ExactDict/\o.data = .dict es ep/\es.toList=xs.map (entryOfKey (tupleKind (Cn P w)))/\(xs.map (·.1)).Nodup
 | .set S n=>h.SetOf (intKind P w) a S n
 | .ins C dx fs=>H dx=some (.own a)/\fs.length<=1000/\dx≠a/\h.get? a=some (PySem.W.instObj C dx)/\
    ∃mA,h.Ns1 dx mA/\(∀f,RelO (fs.lookup f) (mA f))/\PySem.Within mA (fs.map (·.1))
 | .own _=>∃o,h.get? a=some o
 | .xd fs=>∃mA,h.Ns1 a mA/\∀f,RelO (fs.lookup f) (mA f)
 | .rng lo hi=>∃t u v,h.get? a=some { cls:=.type "range",data:=.fields #[.int lo t,.int hi u,.int 1 v] }
 | .frz o u=>h.get? a=some o/\ObjOk H h a u
 | .tbl ps=>h.get? a=some { cls:=.none,data:=.fields ps }
 | .met f x=>h.get? a=some (PySem.W.methodObj (.ref f) (.ref x))
 | .ext φ=>φ h/\(∃o,h.get? a=some o)/\∀h1 h2:Heap,φ h1->(∀o,h1.get? a=some o->h2.get? a=some o)->φ h2
def HOk (H:Hp) (h:Heap):Prop:=∀a o,H a=some o->ObjOk P w H h a o
end
section
variable {P:Program} {w:World} {H H':Hp} {h h':Heap} {a:Addr} {o:HO}
theorem ObjOk.lt (x:ObjOk P w H h a o):a < h.objs.size:=by
 cases o with
 | lst xs=>obtain ⟨_,_,_,_,e⟩:=x;exact Heap.lt_size e
 | tup xs=>obtain ⟨_,_,_,p⟩:=x;exact p.lt
 | dK kvs=>obtain ⟨_,_,_,_,o,_,_,e,_⟩:=x;exact Heap.lt_size e
 | dT kvs=>obtain ⟨_,_,_,_,o,_,_,e,_⟩:=x;exact Heap.lt_size e
 | set S n=>obtain ⟨o,_,_,_,e,_⟩:=x;exact Heap.lt_size e
 | ins C dx fs=>obtain ⟨_,_,_,e,_⟩:=x;exact Heap.lt_size e
 | own y=>obtain ⟨_,e⟩:=x;exact Heap.lt_size e
 | xd fs=>obtain ⟨_,⟨_,_,_,e,_⟩,_⟩:=x;exact Heap.lt_size e
 | rng lo hi=>obtain ⟨_,_,_,e⟩:=x;exact Heap.lt_size e
 | frz ob u=>obtain ⟨e,_⟩:=x;exact Heap.lt_size e
 | tbl ps=>exact Heap.lt_size (show h.get? a=some _ from x)
 | met f y=>exact Heap.lt_size (show h.get? a=some _ from x)
 | ext φ=>obtain ⟨_,⟨_,e⟩,_⟩:=x;exact Heap.lt_size e
theorem Paired.mapP {α β:Type} {F G:α->β->Prop}:∀{l₁:List α} {l₂:List β},Paired F l₁ l₂->(∀a b,F a b->G a b)->Paired G l₁ l₂
 | _,_,.nil,_=>.nil
 | _,_,.cons r t,f=>.cons (f _ _ r) (Paired.mapP t f)
theorem ObjOk.stay (x:ObjOk P w H h a o) (k:∀b u,(b=a\/H b=some (.own a))->h.get? b=some u->h'.get? b=some u)
 (ho:∀b,H b=some (.own a)->H' b=some (.own a)) (ht:∀b xs,H b=some (.tup xs)->H' b=some (.tup xs)):ObjOk P w H' h' a o:=by
 induction o with
 | lst xs=>obtain ⟨z,its,n,r,e⟩:=x;exact ⟨z,its,n,r,k _ _ (.inl rfl) e⟩
 | tup xs=>obtain ⟨z,its,r,ob,e,c⟩:=x;exact ⟨z,its,r,ob,k _ _ (.inl rfl) e,c⟩
 | dK kvs=>obtain ⟨z,y,vs,r,ob,es,ep,e,c⟩:=x;exact ⟨z,y,vs,r,ob,es,ep,k _ _ (.inl rfl) e,c⟩
 | dT kvs=>
   obtain ⟨z,y,xs,r,ob,es,ep,e,c⟩:=x
   exact ⟨z,y,xs,Paired.mapP r λp q z=>⟨z.1,ht _ _ z.2.1,z.2.2⟩,ob,es,ep,k _ _ (.inl rfl) e,c⟩
 | set S n=>obtain ⟨ob,es,ep,t,e,c⟩:=x;exact ⟨ob,es,ep,t,k _ _ (.inl rfl) e,c⟩
 | ins C dx fs=>
   obtain ⟨d,z,ne,e,mA,⟨od,es,ep,e2,c⟩,r⟩:=x
   exact ⟨ho _ d,z,ne,k _ _ (.inl rfl) e,mA,⟨od,es,ep,k _ _ (.inr d) e2,c⟩,r⟩
 | own y=>obtain ⟨ob,e⟩:=x;exact ⟨ob,k _ _ (.inl rfl) e⟩
 | xd fs=>obtain ⟨mA,⟨od,es,ep,e,c⟩,r⟩:=x;exact ⟨mA,⟨od,es,ep,k _ _ (.inl rfl) e,c⟩,r⟩
 | rng lo hi=>obtain ⟨t,u,v,e⟩:=x;exact ⟨t,u,v,k _ _ (.inl rfl) e⟩
 | frz ob u ih=>obtain ⟨e,q⟩:=x;exact ⟨k _ _ (.inl rfl) e,ih q⟩
 | tbl ps=>
   have e:h.get? a=some { cls:=.none,data:=.fields ps }:=x
   show h'.get? a=some { cls:=.none,data:=.fields ps }
   exact k a _ (.inl rfl) e
 | met f y=>
   have e:h.get? a=some (PySem.W.methodObj (.ref f) (.ref y)):=x
   show h'.get? a=some (PySem.W.methodObj (.ref f) (.ref y))
   exact k a _ (.inl rfl) e
 | ext φ=>obtain ⟨p,⟨o,e⟩,st⟩:=x;exact ⟨st _ _ p λo q=>k _ _ (.inl rfl) q,⟨o,k _ _ (.inl rfl) e⟩,st⟩
theorem HOk.lt (x:HOk P w H h) (e:H a=some o):a < h.objs.size:=(x a o e).lt
theorem HOk.fresh (x:HOk P w H h) (e:h.objs.size<=a):H a=none:=by
 cases q:H a with
 | none=>rfl
 | some u=>exact absurd (Nat.lt_of_lt_of_le (x.lt q) e) (Nat.lt_irrefl _)
theorem HOk.kept (x:HOk P w H h) (k:∀b u,h.get? b=some u->h'.get? b=some u):HOk P w H h':=λa o e=>
 (x a o e).stay (λb u _ q=>k b u q) (λ_ q=>q) λ_ _ q=>q
theorem HOk.laid (x:HOk P w H h) (k:∀b u,h.get? b=some u->h'.get? b=some u) (hp:h.objs.size<=a) (new:ObjOk P w (upd H a o) h' a o):HOk P w (upd H a o) h':=λb u e=>by
 have hn:=x.fresh hp
 by_cases hb:b=a
 ·subst hb;rw [Az] at e;cases e;exact new
 ·rw [Ar hb] at e
  exact (x b u e).stay (λc v _ q=>k c v q) (λc q=>by rw [Ar (Bi q hn)];exact q) λc xs q=>by rw [Ar (Bi q hn)];exact q
end
def Rd (H:Hp) (a:Addr) (u:HO):Prop:=H a=some u\/∃o,H a=some (.frz o u)
theorem Rd.ok {P:Program} {w:World} {H:Hp} {h:Heap} {a:Addr} {u:HO} (r:Rd H a u) (x:HOk P w H h):ObjOk P w H h a u:=by
 rcases r with r | ⟨o,r⟩
 ·exact x a u r
 ·obtain ⟨_,q⟩:=x a _ r
  exact q
def Mut:Option HO->Prop
 | some (.lst _)=>True
 | some (.dK _)=>True
 | some (.dT _)=>True
 | some (.set _ _)=>True
 | some (.ins _ _ _)=>True
 | some (.ext _)=>True
 | _=>False
section
variable {P:Program} {w:World} {H:Hp} {h h':Heap} {x e:Addr} {o':HO}
theorem HOk.write (ok:HOk P w H h) (mu:Mut (H x)) (he:e=x\/H e=some (.own x)) (k:∀b u,b≠e->h.get? b=some u->h'.get? b=some u) (heo:∃u,h'.get? e=some u)
 (new:ObjOk P w (upd H x o') h' x o'):HOk P w (upd H x o') h':=λb u q=>by
 have nown:∀c y,H c=some (.own y)->c≠x:=λc y r z=>by subst z;rw [r] at mu;exact mu
 have ntup:∀c xs,H c=some (.tup xs)->c≠x:=λc xs r z=>by subst z;rw [r] at mu;exact mu
 by_cases hb:b=x
 ·subst hb;rw [Az] at q;cases q;exact new
 ·rw [Ar hb] at q
  by_cases hbe:b=e
  ·have q':H b=some (.own x):=by
    rcases he with z | z
    ·exact absurd (hbe.trans z) hb
    ·rw [hbe];exact z
   rw [q] at q';cases q'
   obtain ⟨v,hv⟩:=heo
   exact ⟨v,by rw [hbe];exact hv⟩
  ·refine (ok b u q).stay (λc v hc r=>k c v ?_ r) (λc r=>by rw [Ar (nown c b r)];exact r) λc xs r=>by rw [Ar (ntup c xs r)];exact r
   rcases hc with rfl | hc
   ·exact hbe
   ·rintro rfl
    rcases he with z | z
    ·exact nown c b hc z
    ·rw [hc] at z;cases z;exact hb rfl
end
structure Un (fs ex:List Addr) (H H':Hp) (h h':Heap):Prop where
 keep:∀b o,h.get? b=some o->H b=none->b∉fs->b∉ex->h'.get? b=some o
 slot:∀b o,h.get? b=some o->H b=none->b∈fs->b∉ex->∃sl,h'.get? b=some { o with slots:=sl }
 free:∀b o,h.get? b=some o->H b=none->b∉ex->H' b=none
 there:∀b o,h.get? b=some o->b∉ex->∃o',h'.get? b=some o'
 tups:∀b xs,H b=some (.tup xs)->H' b=some (.tup xs)
 frzs:∀b o u,H b=some (.frz o u)->H' b=some (.frz o u)
 tbls:∀b ps,H b=some (.tbl ps)->∃more,H' b=some (.tbl (ps++more))
section
variable {fs fs' ex ex':List Addr} {H H1 H2:Hp} {h h1 h2 h':Heap} {a x e:Addr} {o:HO}
theorem Un.any (u:Un fs ex H H1 h h1) {b:Addr} {ob:Obj} (q:h.get? b=some ob) (n:H b=none) (hx:b∉ex):∃sl,h1.get? b=some { ob with slots:=sl }:=by
 by_cases hb:b∈fs
 ·exact u.slot b ob q n hb hx
 ·exact ⟨ob.slots,u.keep b ob q n hb hx⟩
theorem Un.kept (k:∀b u,h.get? b=some u->h'.get? b=some u):Un fs ex H H h h':=
 ⟨λb ob q _ _ _=>k b ob q,λb ob q _ _ _=>⟨ob.slots,k b ob q⟩,λ_ _ _ n _=>n,λb ob q _=>⟨ob,k b ob q⟩,λ_ _ q=>q,λ_ _ _ q=>q,λ_ ps q=>⟨#[],by rw [q];simp⟩⟩
theorem Un.refl:Un fs ex H H h h:=Un.kept λ_ _ q=>q
theorem Un.laid (k:∀b u,h.get? b=some u->h'.get? b=some u) (hp:h.objs.size<=a) (hn:H a=none):Un fs ex H (upd H a o) h h' where
 keep:=λb u q _ _ _=>k b u q
 slot:=λb u q _ _ _=>⟨u.slots,k b u q⟩
 free:=λb u q n _=>by rw [Ar (Nat.ne_of_lt (Nat.lt_of_lt_of_le (Heap.lt_size q) hp))];exact n
 there:=λb u q _=>⟨u,k b u q⟩
 tups:=λb xs q=>by rw [Ar (Bi q hn)];exact q
 frzs:=λb u xs q=>by rw [Ar (Bi q hn)];exact q
 tbls:=λb ps q=>⟨#[],by rw [Ar (Bi q hn),q];simp⟩
theorem Un.write (mu:Mut (H x)) (he:e=x\/H e=some (.own x)) (k:∀b u,b≠e->h.get? b=some u->h'.get? b=some u) (heo:∃u,h'.get? e=some u):Un fs ex H (upd H x o) h h':=by
 have hx:∀b,H b=none->b≠x:=λb n z=>by subst z;rw [n] at mu;exact mu
 have hb:∀b,H b=none->b≠e:=λb n z=>by
  subst z
  rcases he with r | r
  ·exact hx b n r
  ·rw [n] at r;cases r
 have hm:∀b u,H b=some u->¬Mut (some u)->b≠x:=λb u q nm z=>by subst z;rw [q] at mu;exact nm mu
 refine ⟨λb u q n _ _=>k b u (hb b n) q,λb u q n _ _=>⟨u.slots,k b u (hb b n) q⟩,λb u q n _=>by rw [Ar (hx b n)];exact n,λb u q _=>?_,
  λb xs q=>by rw [Ar (hm b _ q λz=>z)];exact q,λb u xs q=>by rw [Ar (hm b _ q λz=>z)];exact q,λb ps q=>⟨#[],by rw [Ar (hm b _ q λz=>z),q];simp⟩⟩
 by_cases hbe:b=e
 ·subst hbe;exact heo
 ·exact ⟨u,k b u hbe q⟩
end
noncomputable def trk (h:Heap) (H:Hp):List Addr:=(List.range h.objs.size).filter λa=>(H a).isSome
def GL (h:Heap) (H:Hp):Heap:=PySem.W.hideAll h (trk h H)
theorem PU (h:Heap) (H:Hp):(GL h H).objs.size=h.objs.size:=PySem.W.hideAll_size _ _
theorem Rh {h:Heap} {H:Hp} {b:Addr} {o:Obj} (e:h.get? b=some o) (n:H b=none):(GL h H).get? b=some o:=
 PySem.W.hideAll_get _ e λhm=>by
  have q:(H b).isSome=true:=(List.mem_filter.mp hm).2
  rw [n] at q;simp at q
theorem TZ {h:Heap} {H:Hp} {b:Addr} {o:Obj} (e:(GL h H).get? b=some o):h.get? b=some o/\H b=none:=by
 have e':h.get? b=some o:=PySem.W.of_hideAll (trk h H) e
 refine ⟨e',?_⟩
 cases q:H b with
 | none=>rfl
 | some x=>
   have hm:b∈trk h H:=List.mem_filter.mpr ⟨List.mem_range.mpr (Heap.lt_size e'),by simp [q]⟩
   have z:(GL h H).get? b=none:=PySem.W.hideAll_none (trk h H) hm
   rw [z] at e;cases e
noncomputable def Ta (g h:Heap) (L:Addr):List (Addr×Obj):=(List.range h.objs.size).filterMap λa=>if a=L\/(g.get? a).isSome=true then none else (h.get? a).map λo=>(a,o)
def rest (g h:Heap) (L d:Addr):List (Addr×Obj):=(Ta g h L).filter λp=>decide (p.1≠d)
structure Mod (K:PySem.W.Frag) (mg:Str->Option Value) (base:Heap):Prop where
 kin:K.In base
 glob:base.Ns mainGlobals mg
 blt:∃mb,base.Ns builtinsNs mb/\∀x:Str,x≠"__name__"->mb x=bootBuiltins x
 nolimit:base.NoLimit
structure Cx where
 prog:Program
 w:World
 K:PySem.W.Frag
 mg:Str->Option Value
 base:Heap
 A:Around
 N:List Str
 s₀:Shared
 H₀:Hp
 env:Env
 outer:List Env
 stack:List Env
 ex:List Addr
 fn:Str->Bool
 calm:Bool
 pn:List (Addr×Obj)
 xe:Value->Shared->Prop
noncomputable def frs (l:List Env):List Addr:=l.filterMap (·.frame)
abbrev Cx.fs (X:Cx):List Addr:=frs X.outer
def Vis (sc:Scope) (x:Str):Prop:=sc.names.lookup x=some .local\/sc.names.lookup x=some .cell\/sc.names.lookup x=some .free
def Loc (sc:Scope) (x:Str):Prop:=sc.names.lookup x=some .local\/sc.names.lookup x=some .cell
def XW (env:Env) (h:Heap) (m:Str->Option Value) (x:Str) (u:Value):Prop:=
 (env.kindOf x=some .local/\m x=some u)\/((env.kindOf x=some .cell\/env.kindOf x=some .free)/\∃c,env.cells.lookup x=some c/\h.IsCell c (some u))
structure Cx.Ok (X:Cx):Prop where
 mod:Mod X.K X.mg X.base
 kind:X.env.scope.kind = .function
 glob:X.env.globals=mainGlobals
 blt:X.env.builtins=builtinsNs
 above:X.s₀.heap.objs.size<=X.env.locals
 inj:∀x y c,X.env.cells.lookup x=some c->X.env.cells.lookup y=some c->x=y
 has:∀x,(X.env.kindOf x=some .cell\/X.env.kindOf x=some .free)->∃c,X.env.cells.lookup x=some c
 cab:∀x c,X.fn x=true->X.env.cells.lookup x=some c->X.s₀.heap.objs.size<=c
 hd:X.calm=true->X.A.handled=none
 frames:X.A.frames=some X.stack
 stk:X.stack=X.outer\/(X.stack=X.env :: X.outer/\X.env.frame=some X.env.locals)
 exf:∀b∈X.ex,b≠X.env.locals/\∀x c,X.env.cells.lookup x=some c->c≠b
 bs:∀b o,X.base.get? b=some o->X.s₀.heap.get? b=some o/\X.H₀ b=none
 bsz:X.base.objs.size<=X.s₀.heap.objs.size
 noex:∀b o,X.base.get? b=some o->b∉X.ex
 exfs:∀b∈X.ex,b∉X.fs
 funs:X.s₀.heap.FunFrames X.base X.outer
 frf:∀b∈X.fs,X.H₀ b=none
structure Inv (X:Cx) (pins:List (Addr×Obj)) (Z:List (Option V)) (H:Hp) (s:Shared):Prop where
 ok:X.Ok
 os:s.os=X.s₀.os
 bare:AllBare s.gens
 base:Un X.fs X.ex X.H₀ H X.s₀.heap s.heap
 loc:∃m,s.heap.Ns X.env.locals m/\∀(i:Nat) (x:Str) (v:V),X.N[i]?=some x->Z[i]?=some (some v)->Vis X.env.scope x->∃u,RelV v u/\XW X.env s.heap m x u
 cell:∀x c,X.env.cells.lookup x=some c->∃v,s.heap.IsCell c v
 free:H X.env.locals=none
 freeC:∀x c,X.env.cells.lookup x=some c->H c=none
 pin:∀p∈X.pn++pins,s.heap.get? p.1=some p.2/\H p.1=none/\p.1≠X.env.locals/\p.1∉X.fs/\∀v,p.2.data≠.cell v
 hok:HOk X.prog X.w H s.heap
 len:Z.length=X.N.length
section
variable {X:Cx} {pins:List (Addr×Obj)} {Z:List (Option V)} {H H':Hp} {s:Shared} {h':Heap}
theorem Cx.Ok.nofr (ok:X.Ok) {b:Addr} {o:Obj} (e:X.base.get? b=some o):b∉X.fs:=λhb=>by
 have:=(ok.funs.mem hb).1
 rw [e] at this;cases this
theorem Inv.bs (I:Inv X pins Z H s):∀b o,X.base.get? b=some o->s.heap.get? b=some o/\H b=none:=λb o e=>
 ⟨I.base.keep b o (I.ok.bs b o e).1 (I.ok.bs b o e).2 (I.ok.nofr e) (I.ok.noex b o e),I.base.free b o (I.ok.bs b o e).1 (I.ok.bs b o e).2 (I.ok.noex b o e)⟩
theorem Inv.bk (I:Inv X pins Z H s):∀b o,X.base.get? b=some o->s.heap.get? b=some o:=λb o e=>(I.bs b o e).1
theorem Inv.mod (I:Inv X pins Z H s):Mod X.K X.mg X.base:=I.ok.mod
theorem Inv.kIn (I:Inv X pins Z H s):X.K.In s.heap:=I.ok.mod.kin.keeps I.bk
theorem Inv.lt (I:Inv X pins Z H s):X.env.locals < s.heap.objs.size:=let ⟨_,hn,_⟩:=I.loc;hn.lt
theorem Inv.sz (I:Inv X pins Z H s):X.s₀.heap.objs.size<=s.heap.objs.size:=Nat.le_trans I.ok.above (Nat.le_of_lt I.lt)
theorem Inv.nofs (I:Inv X pins Z H s) {a:Addr} (h:s.heap.objs.size<=a):a∉X.fs:=λhb=>by
 obtain ⟨_,o,ho,_⟩:=I.ok.funs.mem hb
 exact absurd (Nat.lt_of_lt_of_le (Heap.lt_size ho) (Nat.le_trans I.sz h)) (Nat.lt_irrefl _)
theorem Inv.cne (I:Inv X pins Z H s):∀x c,X.env.cells.lookup x=some c->c≠X.env.locals:=λx c e z=>by
 obtain ⟨v,o,ho,hd⟩:=I.cell x c e
 obtain ⟨m,⟨o',es,ep,ho',hd',_⟩,_⟩:=I.loc
 rw [z,ho'] at ho;cases ho;rw [hd'] at hd;cases hd
theorem Inv.funs (I:Inv X pins Z H s):s.heap.FunFrames X.base X.outer:=by
 have all:∀(l:List Env),(∀b∈frs l,b∈X.fs)->X.s₀.heap.FunFrames X.base l->s.heap.FunFrames X.base l:=by
  intro l
  induction l with
  | nil=>intro _ _;trivial
  | cons env r ih=>
    intro hs hl
    obtain ⟨hk,⟨L,o,hf,hn,ho,hd⟩,hr⟩:=hl
    have hL:L∈X.fs:=hs L (by unfold frs;rw [List.filterMap_cons,hf];exact List.mem_cons_self)
    obtain ⟨sl,e⟩:=I.base.slot L o ho (I.ok.frf L hL) hL λz=>I.ok.exfs L z hL
    exact ⟨hk,⟨L,_,hf,hn,e,hd⟩,ih (λb hb=>hs b (by unfold frs;rw [List.filterMap_cons,hf];exact List.mem_cons_of_mem _ hb)) hr⟩
 exact all X.outer (λ_ hb=>hb) I.ok.funs
theorem Inv.stack (I:Inv X pins Z H s):s.heap.FunFrames X.base X.stack:=by
 rcases I.ok.stk with e | ⟨e,hf⟩
 ·rw [e];exact I.funs
 ·rw [e]
  obtain ⟨m,hn,_⟩:=I.loc
  refine .cons (by rw [I.ok.kind];decide) hf hn ?_ I.funs
  exact Heap.get?_none_of_le (Nat.le_trans I.ok.bsz I.ok.above)
theorem Inv.stkSub (I:Inv X pins Z H s):∀b∈frs X.stack,b∈X.env.locals :: X.fs:=λb hb=>by
 rcases I.ok.stk with e | ⟨e,hf⟩
 ·rw [e] at hb;exact List.mem_cons_of_mem _ hb
 ·rw [e] at hb
  unfold frs at hb
  rw [List.filterMap_cons,hf] at hb
  exact hb
theorem Inv.stkFree (I:Inv X pins Z H s):∀b∈frs X.stack,H b=none:=λb hb=>by
 rcases List.mem_cons.mp (I.stkSub b hb) with e | hb
 ·rw [e];exact I.free
 ·obtain ⟨_,o,ho,_⟩:=I.ok.funs.mem hb
  exact I.base.free b o ho (I.ok.frf b hb) λz=>I.ok.exfs b z hb
theorem Inv.step {g':Array GenState} {t':Nat} {d':Drawn} {ch:List Addr} (I:Inv X pins Z H s)
 (hch:∀b∈ch,(b∈X.ex\/X.s₀.heap.objs.size<=b)/\b≠X.env.locals/\(∀x c,X.env.cells.lookup x=some c->c≠b)/\∀p∈X.pn++pins,p.1≠b)
 (keep:∀b o,b≠X.env.locals->b∉X.fs->b∉ch->s.heap.get? b=some o->H b=none->h'.get? b=some o)
 (slot:∀b o,b≠X.env.locals->b∈X.fs->b∉ch->s.heap.get? b=some o->H b=none->∃sl,h'.get? b=some { o with slots:=sl }) (free:∀b o,b∉ch->s.heap.get? b=some o->H b=none->H' b=none)
 (there:∀b o,b∉ch->s.heap.get? b=some o->∃o',h'.get? b=some o')
 (tups:∀b xs,H b=some (.tup xs)->H' b=some (.tup xs)) (frzs:∀b o u,H b=some (.frz o u)->H' b=some (.frz o u)) (tbls:∀b ps,H b=some (.tbl ps)->∃more,H' b=some (.tbl (ps++more)))
 (ns:∀m,s.heap.Ns X.env.locals m->h'.Ns X.env.locals m) (hok:HOk X.prog X.w H' h') (hg:AllBare g') :
 Inv X pins Z H' { s with heap:=h',gens:=g',drawn:=d',toks:=t' }:=by
 have neL:∀b o,X.s₀.heap.get? b=some o->b≠X.env.locals:=λb o e=>Nat.ne_of_lt (Nat.lt_of_lt_of_le (Heap.lt_size e) I.ok.above)
 have neC:∀b o,X.s₀.heap.get? b=some o->b∉X.ex->b∉ch:=λb o e hx hb=>by
  rcases (hch b hb).1 with z | z
  ·exact hx z
  ·exact absurd (Nat.lt_of_lt_of_le (Heap.lt_size e) z) (Nat.lt_irrefl _)
 have cellK:∀x c,X.env.cells.lookup x=some c->∀v,s.heap.IsCell c v->h'.IsCell c v:=λx c e v ⟨o,ho,hd⟩=>by
  have nch:c∉ch:=λz=>(hch c z).2.2.1 x c e rfl
  by_cases hc:c∈X.fs
  ·obtain ⟨sl,q⟩:=slot c o (I.cne x c e) hc nch ho (I.freeC x c e)
   exact ⟨_,q,hd⟩
  ·exact ⟨o,keep c o (I.cne x c e) hc nch ho (I.freeC x c e),hd⟩
 refine ⟨I.ok,I.os,hg,⟨λb o e n hb hx=>?_,λb o e n hb hx=>?_,λb o e n hx=>?_,λb o e hx=>?_,λb xs e=>tups b xs (I.base.tups b xs e),λb o xs e=>frzs b o xs (I.base.frzs b o xs e),λb ps e=>?_⟩,?_,λx c e=>?_,?_,λx c e=>?_,λp hp=>?_,hok,I.len⟩
 ·exact keep b o (neL b o e) hb (neC b o e hx) (I.base.keep b o e n hb hx) (I.base.free b o e n hx)
 ·obtain ⟨sl,e1⟩:=I.base.slot b o e n hb hx
  obtain ⟨sl',e2⟩:=slot b _ (neL b o e) hb (neC b o e hx) e1 (I.base.free b o e n hx)
  exact ⟨sl',e2⟩
 ·obtain ⟨o',e1⟩:=I.base.there b o e hx
  exact free b o' (neC b o e hx) e1 (I.base.free b o e n hx)
 ·obtain ⟨o',e1⟩:=I.base.there b o e hx
  exact there b o' (neC b o e hx) e1
 ·obtain ⟨m1,e1⟩:=I.base.tbls b ps e
  obtain ⟨m2,e2⟩:=tbls b _ e1
  exact ⟨m1++m2,by rw [e2,Array.append_assoc]⟩
 ·obtain ⟨m,hn,hl⟩:=I.loc
  refine ⟨m,ns m hn,λi x v e1 e2 e3=>?_⟩
  obtain ⟨u,r,l⟩:=hl i x v e1 e2 e3
  refine ⟨u,r,?_⟩
  rcases l with l | ⟨k,c,e,z⟩
  ·exact .inl l
  ·exact .inr ⟨k,c,e,cellK x c e _ z⟩
 ·obtain ⟨v,z⟩:=I.cell x c e
  exact ⟨v,cellK x c e v z⟩
 ·obtain ⟨m,⟨o,_,_,ho,_⟩,_⟩:=I.loc
  exact free _ o (λz=>(hch _ z).2.1 rfl) ho I.free
 ·obtain ⟨v,o,ho,hd⟩:=I.cell x c e
  exact free c o (λz=>(hch c z).2.2.1 x c e rfl) ho (I.freeC x c e)
 ·obtain ⟨e,n,ne,nf,d⟩:=I.pin p hp
  have nch:p.1∉ch:=λz=>(hch p.1 z).2.2.2 p hp rfl
  exact ⟨keep p.1 p.2 ne nf nch e n,free p.1 p.2 nch e n,ne,nf,d⟩
theorem Inv.un {t':Nat} (I:Inv X pins Z H s) (u:Un X.fs [] H H' s.heap h') (hok:HOk X.prog X.w H' h'):Inv X pins Z H' { s with heap:=h',toks:=t' }:=by
 obtain ⟨m,⟨o,es,ep,ho,r⟩,_⟩:=id I.loc
 obtain ⟨sl,hL⟩:=u.any ho I.free (by simp)
 exact I.step (g':=s.gens) (d':=s.drawn) (ch:=[]) (λ_ z=>nomatch z) (λb o _ hb _ e n=>u.keep b o e n hb (by simp)) (λb o _ hb _ e n=>u.slot b o e n hb (by simp)) (λb o _ e n=>u.free b o e n (by simp)) (λb o _ e=>u.there b o e (by simp)) u.tups u.frzs u.tbls (λm' hm=>by
  obtain ⟨o',es',ep',ho',r'⟩:=hm
  rw [ho] at ho';cases ho'
  exact ⟨_,es',ep',hL,r'⟩) hok I.bare
theorem Inv.call {g':Array GenState} {t':Nat} {d':Drawn} {ch:List Addr} (I:Inv X pins Z H s) (u:Un (frs X.stack) ch H H' s.heap h') (hok:HOk X.prog X.w H' h') (hg:AllBare g')
 (hch:∀b∈ch,(b∈X.ex\/X.s₀.heap.objs.size<=b)/\b≠X.env.locals/\(∀x c,X.env.cells.lookup x=some c->c≠b)/\∀p∈X.pn++pins,p.1≠b) :
 Inv X pins Z H' { s with heap:=h',gens:=g',drawn:=d',toks:=t' }:=by
 obtain ⟨m,⟨o,es,ep,ho,r⟩,_⟩:=id I.loc
 obtain ⟨sl,hL⟩:=u.any ho I.free λz=>(hch _ z).2.1 rfl
 exact I.step (ch:=ch) hch (λb o hL hb hc e n=>u.keep b o e n (λz=>(List.mem_cons.mp (I.stkSub b z)).elim hL hb) hc) (λb o _ _ hc e n=>u.any e n hc) (λb o hc e n=>u.free b o e n hc) (λb o hc e=>u.there b o e hc) u.tups u.frzs u.tbls (λm' hm=>by
  obtain ⟨o',es',ep',ho',r'⟩:=hm
  rw [ho] at ho';cases ho'
  exact ⟨_,es',ep',hL,r'⟩) hok hg
theorem Inv.turned {t':Nat} {it:Addr} (I:Inv X pins Z H s) (k:∀b o,b≠it->s.heap.get? b=some o->h'.get? b=some o) (hn:H it=none) (hL:it≠X.env.locals)
 (h1:it∈X.ex\/X.s₀.heap.objs.size<=it) (h2:∀x c,X.env.cells.lookup x=some c->c≠it) (h3:∀p∈X.pn++pins,p.1≠it):Inv X pins Z H { s with heap:=h',toks:=t' }:=by
 have nit:∀b u,H b=some u->b≠it:=λb u e z=>by rw [z,hn] at e;cases e
 refine I.step (g':=s.gens) (d':=s.drawn) (ch:=[it]) (λb hb=>?_) (λb o _ _ hc e _=>k b o (λz=>hc (by simp [z])) e) (λb o _ _ hc e _=>⟨o.slots,k b o (λz=>hc (by simp [z])) e⟩) (λ_ _ _ _ n=>n)
  (λb o hc e=>⟨o,k b o (λz=>hc (by simp [z])) e⟩) (λ_ _ e=>e) (λ_ _ _ e=>e) (λb ps e=>⟨#[],by rw [e];simp⟩) (λm hm=>?_) (λb u e=>?_) I.bare
 ·have e:b=it:=by simpa using hb
  subst e
  exact ⟨h1,hL,h2,h3⟩
 ·obtain ⟨o,es,ep,ho,r⟩:=hm
  exact ⟨o,es,ep,k _ o (Ne.symm hL) ho,r⟩
 ·refine (I.hok b u e).stay (λc v hc q=>k c v ?_ q) (λ_ q=>q) λ_ _ q=>q
  rcases hc with z | z
  ·rw [z];exact nit b u e
  ·exact nit c _ z
theorem Inv.tok (I:Inv X pins Z H s) (t:Nat):Inv X pins Z H { s with toks:=t }:=I.un (h':=s.heap) (t':=t) Un.refl I.hok
theorem Inv.kept {t':Nat} (I:Inv X pins Z H s) (k:∀b u,s.heap.get? b=some u->h'.get? b=some u):Inv X pins Z H { s with heap:=h',toks:=t' }:=I.un (Un.kept k) (I.hok.kept k)
theorem Inv.laid {a:Addr} {o:HO} {t':Nat} (I:Inv X pins Z H s) (k:∀b u,s.heap.get? b=some u->h'.get? b=some u) (hp:s.heap.objs.size<=a) (new:ObjOk X.prog X.w (upd H a o) h' a o) :
 Inv X pins Z (upd H a o) { s with heap:=h',toks:=t' }:=I.un (Un.laid k hp (I.hok.fresh hp)) (I.hok.laid k hp new)
theorem Inv.write {x e:Addr} {o:HO} {t':Nat} (I:Inv X pins Z H s) (mu:Mut (H x)) (he:e=x\/H e=some (.own x)) (k:∀b u,b≠e->s.heap.get? b=some u->h'.get? b=some u) (heo:∃u,h'.get? e=some u)
 (new:ObjOk X.prog X.w (upd H x o) h' x o):Inv X pins Z (upd H x o) { s with heap:=h',toks:=t' }:=I.un (Un.write mu he k heo) (I.hok.write mu he k heo new)
theorem Inv.pins_of {pins':List (Addr×Obj)} (I:Inv X pins Z H s) (h:∀p∈pins',s.heap.get? p.1=some p.2/\H p.1=none/\p.1≠X.env.locals/\p.1∉X.fs/\∀v,p.2.data≠.cell v):Inv X pins' Z H s:=
 ⟨I.ok,I.os,I.bare,I.base,I.loc,I.cell,I.free,I.freeC,λp hp=>(List.mem_append.mp hp).elim (λz=>I.pin p (List.mem_append_left _ z)) (h p),I.hok,I.len⟩
theorem GR {N:List Str} (hN:N.Nodup) {i j:Nat} {x:Str} (a:N[i]?=some x) (b:N[j]?=some x):i=j:=by
 obtain ⟨h1,e1⟩:=List.getElem?_eq_some_iff.mp a
 obtain ⟨h2,e2⟩:=List.getElem?_eq_some_iff.mp b
 exact (List.getElem_inj hN).mp (e1.trans e2.symm)
theorem Lh {M:Model} {A:Around} {E:Value->Shared->Prop} {i:Nat} {x:Str} {v:V} {u:Value} {Q:Unit->Shared->Prop} (I:Inv X pins Z H s) (hN:X.N.Nodup) (hi:X.N[i]?=some x) (hx:Loc X.env.scope x) (r:RelV v u)
 (h:∀s',Inv X pins (Z.set i (some v)) H s'->(∃a,Heap.SameBut a s.heap s'.heap/\(a=X.env.locals\/X.env.cells.lookup x=some a))->Q () s') (hf:X.fn x=true\/X.env.scope.names.lookup x=some .local:=by first | exact .inl rfl | exact .inr rfl | assumption):wpAny M A (storeName X.env x u) Q E s:=by
 obtain ⟨m,hn,hl⟩:=id I.loc
 have hcls:(X.env.scope.kind == .class || (X.env.scope.kind == .module && X.env.locals != X.env.globals))=false:=by rw [I.ok.kind];rfl
 have hiZ:i < Z.length:=by rw [I.len];exact (List.getElem?_eq_some_iff.mp hi).1
 have cne:=I.cne
 have tracked:∀{a:Addr} {h':Heap},(∃o,s.heap.get? a=some o/\H a=none)->Heap.SameBut a s.heap h'->HOk X.prog X.w H h':=λ{a h'} ha hs b ob e=>by
  obtain ⟨_,_,hfree⟩:=ha
  refine (I.hok b ob e).stay (λc w' hc q=>(hs.2 c ?_).trans q) (λ_ q=>q) λ_ _ q=>q
  rintro rfl
  rcases hc with rfl | hc
  ·rw [hfree] at e;cases e
  ·rw [hfree] at hc;cases hc
 rcases hx with hk | hk
 ·refine wpAny_storeName_local hk hn (λh' hn' hs=>?_) hcls
  obtain ⟨oL,_,_,hoL,_⟩:=id hn
  refine h _ ⟨I.ok,I.os,I.bare,⟨λb o e n hb hx=>?_,λb o e n hb hx=>?_,I.base.free,λb o e hx=>?_,I.base.tups,I.base.frzs,I.base.tbls⟩,⟨_,hn',λj y v' e1 e2 e3=>?_⟩,λy c e=>?_,I.free,I.freeC,λp hp=>?_,tracked ⟨oL,hoL,I.free⟩ hs,by simpa using I.len⟩ ⟨_,hs,.inl rfl⟩
  ·exact (hs.2 b (Nat.ne_of_lt (Nat.lt_of_lt_of_le (Heap.lt_size e) I.ok.above))).trans (I.base.keep b o e n hb hx)
  ·obtain ⟨sl,e1⟩:=I.base.slot b o e n hb hx
   exact ⟨sl,(hs.2 b (Nat.ne_of_lt (Nat.lt_of_lt_of_le (Heap.lt_size e) I.ok.above))).trans e1⟩
  ·obtain ⟨o',e1⟩:=I.base.there b o e hx
   exact ⟨o',(hs.2 b (Nat.ne_of_lt (Nat.lt_of_lt_of_le (Heap.lt_size e) I.ok.above))).trans e1⟩
  ·by_cases hj:j=i
   ·subst hj
    rw [hi] at e1;cases e1
    rw [List.getElem?_set_self hiZ] at e2
    cases e2
    exact ⟨u,r,.inl ⟨hk,by simp⟩⟩
   ·rw [List.getElem?_set_ne (Ne.symm hj)] at e2
    obtain ⟨u',r',q⟩:=hl j y v' e1 e2 e3
    refine ⟨u',r',?_⟩
    rcases q with ⟨k,e⟩ | ⟨k,c,e,z⟩
    ·refine .inl ⟨k,?_⟩
     have:y≠x:=λe=>hj (GR hN e1 (e ▸ hi))
     simp [this,e]
    ·exact .inr ⟨k,c,e,z.sameBut hs (cne y c e)⟩
  ·obtain ⟨w',z⟩:=I.cell y c e
   exact ⟨w',z.sameBut hs (cne y c e)⟩
  ·obtain ⟨e,n,ne,nf,d⟩:=I.pin p hp
   exact ⟨(hs.2 p.1 ne).trans e,n,ne,nf,d⟩
 ·have hfn:X.fn x=true:=by
   rcases hf with z | z
   ·exact z
   ·rw [z] at hk;cases hk
  obtain ⟨c,hc⟩:=I.ok.has x (.inl hk)
  obtain ⟨w',z⟩:=I.cell x c hc
  refine wpAny_storeName_cell I.ok.kind hk hc z (λh' hc' hs=>?_)
  obtain ⟨oc,hoc,hocd⟩:=id z
  refine h { s with heap:=h' } ⟨I.ok,I.os,I.bare,⟨λb o e n hb hx=>?_,λb o e n hb hx=>?_,I.base.free,λb o e hx=>?_,I.base.tups,I.base.frzs,I.base.tbls⟩,⟨m,hn.sameBut hs (Ne.symm (cne x c hc)),λj y v' e1 e2 e3=>?_⟩,λy c' e=>?_,I.free,I.freeC,λp hp=>?_,tracked ⟨oc,hoc,I.freeC x c hc⟩ hs,by simpa using I.len⟩ ⟨c,hs,.inr hc⟩
  ·exact (hs.2 b (Nat.ne_of_lt (Nat.lt_of_lt_of_le (Heap.lt_size e) (I.ok.cab x c hfn hc)))).trans (I.base.keep b o e n hb hx)
  ·obtain ⟨sl,e1⟩:=I.base.slot b o e n hb hx
   exact ⟨sl,(hs.2 b (Nat.ne_of_lt (Nat.lt_of_lt_of_le (Heap.lt_size e) (I.ok.cab x c hfn hc)))).trans e1⟩
  ·obtain ⟨o',e1⟩:=I.base.there b o e hx
   exact ⟨o',(hs.2 b (Nat.ne_of_lt (Nat.lt_of_lt_of_le (Heap.lt_size e) (I.ok.cab x c hfn hc)))).trans e1⟩
  ·by_cases hj:j=i
   ·subst hj
    rw [hi] at e1;cases e1
    rw [List.getElem?_set_self hiZ] at e2
    cases e2
    exact ⟨u,r,.inr ⟨.inl hk,c,hc,hc'⟩⟩
   ·rw [List.getElem?_set_ne (Ne.symm hj)] at e2
    obtain ⟨u',r',q⟩:=hl j y v' e1 e2 e3
    refine ⟨u',r',?_⟩
    rcases q with q | ⟨k,c',e,z'⟩
    ·exact .inl q
    ·refine .inr ⟨k,c',e,z'.sameBut hs ?_⟩
     rintro rfl
     exact hj (GR hN e1 (I.ok.inj _ _ _ e hc ▸ hi))
  ·by_cases hcc:c'=c
   ·subst hcc;exact ⟨_,hc'⟩
   ·obtain ⟨w2,z2⟩:=I.cell y c' e
    exact ⟨w2,z2.sameBut hs hcc⟩
  ·obtain ⟨e,n,ne,nf,d⟩:=I.pin p hp
   refine ⟨(hs.2 p.1 ?_).trans e,n,ne,nf,d⟩
   intro q
   rw [q,hoc] at e
   have q':oc=p.2:=Option.some.inj e
   exact d w' (by rw [<-q'];exact hocd)
theorem FS {M:Model} {A:Around} {E:Value->Shared->Prop} {i:Nat} {x:Str} {v:V} {u:Value} {Q:Unit->Shared->Prop} (I:Inv X pins Z H s) (hN:X.N.Nodup) (hi:X.N[i]?=some x) (hx:Loc X.env.scope x) (r:RelV v u)
 (h:∀s',Inv X pins (Z.set i (some v)) H s'->Q () s') (hf:X.fn x=true\/X.env.scope.names.lookup x=some .local:=by first | exact .inl rfl | exact .inr rfl | assumption):wpAny M A (storeName X.env x u) Q E s:=
 Lh I hN hi hx r (λs' I' _=>h s' I') hf
theorem Inv.call' {s':Shared} {ch:List Addr} (I:Inv X pins Z H s) (ho:s'.os=s.os) (u:Un (frs X.stack) ch H H' s.heap s'.heap) (hok:HOk X.prog X.w H' s'.heap) (hg:AllBare s'.gens)
 (hch:∀b∈ch,(b∈X.ex\/X.s₀.heap.objs.size<=b)/\b≠X.env.locals/\(∀x c,X.env.cells.lookup x=some c->c≠b)/\∀p∈X.pn++pins,p.1≠b):Inv X pins Z H' s':=by
 obtain ⟨h',g',d',t',o'⟩:=s'
 have e:o'=s.os:=ho
 subst e
 exact I.call (g':=g') (t':=t') (d':=d') u hok hg hch
end
abbrev XK:=Value->Option Addr->Hp->Prop
abbrev St:=List (Option V)
abbrev VK:=V->Hp->Prop
abbrev TE:=St->Hp->VK->Prop
abbrev TT:=St->Hp->(Bool->Hp->Prop)->Prop
abbrev TA:=St->Hp->(List V->Hp->Prop)->Prop
structure Ends where
 nx:St->Hp->Prop
 rt:VK
 bk:St->Hp->Prop:=λ_ _=>False
 ct:St->Hp->Prop:=λ_ _=>False
abbrev TS:=Ends->St->Hp->Prop
def EP (X:Cx) (pins:List (Addr×Obj)) (Z:St) (Q:VK) (u:Value) (s':Shared):Prop:=∃v H',Inv X pins Z H' s'/\RelV v u/\Q v H'
def TP (X:Cx) (pins:List (Addr×Obj)) (Z:St) (Q:Bool->Hp->Prop) (b:Bool) (s':Shared):Prop:=∃H',Inv X pins Z H' s'/\Q b H'
def AP (X:Cx) (pins:List (Addr×Obj)) (Z:St) (Q:List V->Hp->Prop) (us:List Value) (s':Shared):Prop:=∃vs H',Inv X pins Z H' s'/\Vals vs us/\Q vs H'
def SP (X:Cx) (pins:List (Addr×Obj)) (D:Ends) (f:Flow) (s':Shared):Prop:=
 match f with
 | .next=>∃Z' H',Inv X pins Z' H' s'/\D.nx Z' H'
 | .brk=>∃Z' H',Inv X pins Z' H' s'/\D.bk Z' H'
 | .cont=>∃Z' H',Inv X pins Z' H' s'/\D.ct Z' H'
 | .ret u=>∃v Z' H',Inv X pins Z' H' s'/\RelV v u/\D.rt v H'
def PE (X:Cx) (e:Expr) (t:TE):Prop:=
 ∀(pins:List (Addr×Obj)) (s:Shared) (Z:St) (H:Hp) (Q:VK),Inv X pins Z H s->t Z H Q->wpAny (model X.prog X.w) X.A (eval e X.env) (EP X pins Z Q) X.xe s
def PT (X:Cx) (e:Expr) (t:TT):Prop:=
 ∀(pins:List (Addr×Obj)) (s:Shared) (Z:St) (H:Hp) (Q:Bool->Hp->Prop),Inv X pins Z H s->t Z H Q->wpAny (model X.prog X.w) X.A (isTrue e X.env (eval e X.env)) (TP X pins Z Q) X.xe s
def PW (X:Cx) (e:Expr) (t:TT):Prop:=
 ∀(whole:Sem Value) (pins:List (Addr×Obj)) (s:Shared) (Z:St) (H:Hp) (Q:Bool->Hp->Prop),Inv X pins Z H s->t Z H Q->wpAny (model X.prog X.w) X.A (isTrue e X.env whole) (TP X pins Z Q) X.xe s
theorem PW.pt {X:Cx} {e:Expr} {t:TT} (h:PW X e t):PT X e t:=h _
def PA (X:Cx) (es:List Expr) (t:TA):Prop:=
 ∀(pos:Pos) (pins:List (Addr×Obj)) (s:Shared) (Z:St) (H:Hp) (Q:List V->Hp->Prop),Inv X pins Z H s->t Z H Q->wpAny (model X.prog X.w) X.A (spliced (backTo pos (starEach es X.env))) (AP X pins Z Q) X.xe s
def PS (X:Cx) (st:Stmt) (t:TS):Prop:=
 ∀(pins:List (Addr×Obj)) (s:Shared) (Z:St) (H:Hp) (D:Ends),Inv X pins Z H s->t D Z H->wpAny (model X.prog X.w) X.A (exec st X.env) (SP X pins D) X.xe s
def PSs (X:Cx) (st:List Stmt) (t:TS):Prop:=
 ∀(pins:List (Addr×Obj)) (s:Shared) (Z:St) (H:Hp) (D:Ends),Inv X pins Z H s->t D Z H->wpAny (model X.prog X.w) X.A (execs st X.env) (SP X pins D) X.xe s
theorem thn {α:Type} {t:Sem α} {Q Q':α->Shared->Prop} {M:Model} {A:Around} {E:Value->Shared->Prop} {s:Shared} (h:wpAny M A t Q E s) (hQ:∀a s,Q a s->Q' a s):wpAny M A t Q' E s:=wpAny_mono h hQ λ_ _ x=>x
section
variable {X:Cx}
def Wn (i:Nat):TE:=λZ H Q=>∃v,Z[i]?=some (some v)/\Q v H
def tC (v:V):TE:=λ_ H Q=>Q v H
theorem Du {i:Nat} {x:Str} {pos:Pos} (hN:X.N[i]?=some x) (hv:Vis X.env.scope x) (hd:(x == ("__debug__" : Str))=false:=by decide) (hcd:(x == ("__classdict__" : Str))=false:=by decide):PE X (.Name x pos) (Wn i):=by
 intro pins s Z H Q I h
 obtain ⟨v,e,h⟩:=h
 obtain ⟨m,hn,hl⟩:=I.loc
 obtain ⟨u,r,l⟩:=hl i x v hN e hv
 have fin:EP X pins Z Q u s:=⟨v,H,I,r,h⟩
 rcases l with ⟨hk,hm⟩ | ⟨hk,c,hc,hcell⟩
 ·exact wpAny_Name (wpAny_loadName_local I.ok.kind hk hn hm fin) hd
 ·rcases hk with hk | hk
  ·exact wpAny_Name (wpAny_loadName_cell I.ok.kind hk hc hcell fin) hd
  ·exact wpAny_Name (wpAny_loadName_free I.ok.kind hk hc hcell fin hcd) hd
theorem Vy {i j pos}:PE X (.Constant (.int i) j pos) (tC (.int i)):=λ_ _ _ H _ I h=>wpAny_Constant_int ⟨.int i,H,I.tok _,⟨_,rfl⟩,h⟩
theorem WR {b j pos}:PE X (.Constant (.bool b) j pos) (tC (.bl b)):=λ_ _ _ H _ I h=>Constant_bool ⟨.bl b,H,I,rfl,h⟩
theorem VA {j pos}:PE X (.Constant .none j pos) (tC .non):=λ_ _ _ H _ I h=>Constant_none ⟨.non,H,I,rfl,h⟩
theorem Qp {x j pos}:PE X (.Constant (.str x) j pos) (tC (.str x)):=λ_ _ _ H _ I h=>Calls.Constant_str ⟨.str x,H,I.tok _,⟨_,rfl⟩,h⟩
def Gl (X:Cx) (x:Str):Prop:=X.env.kindOf x=some .globalImplicit
theorem DO {E:Value->Shared->Prop} {pins:List (Addr×Obj)} {s:Shared} {Z:St} {H:Hp} {x:Str} {u:Value} {pos:Pos} {Q:Value->Shared->Prop} (I:Inv X pins Z H s) (hg:Gl X x) (hm:X.mg x=some u) (h:Q u s)
 (hd:(x == ("__debug__" : Str))=false:=by decide):wpAny (model X.prog X.w) X.A (eval (.Name x pos) X.env) Q E s:=
 Calls.Name_function_global I.ok.kind hg (Calls.loadGlobal_global (by rw [I.ok.glob];exact I.mod.glob.keeps I.bk) hm h) hd
theorem Hl {E:Value->Shared->Prop} {pins:List (Addr×Obj)} {s:Shared} {Z:St} {H:Hp} {x:Str} {u:Value} {pos:Pos} {Q:Value->Shared->Prop} (I:Inv X pins Z H s) (hg:Gl X x) (hm:X.mg x=none) (hv:bootBuiltins x=some u) (h:Q u s)
 (hn:x≠"__name__":=by decide) (hd:(x == ("__debug__" : Str))=false:=by decide):wpAny (model X.prog X.w) X.A (eval (.Name x pos) X.env) Q E s:=by
 obtain ⟨mb,h1,h2⟩:=I.mod.blt
 exact Calls.Name_function_global I.ok.kind hg (Calls.loadGlobal_builtin (by rw [I.ok.glob];exact I.mod.glob.keeps I.bk) hm (by rw [I.ok.blt];exact h1.keeps I.bk) ((h2 x hn).trans hv) h) hd
theorem KJ {x:Str} {v:V} {u:Value} {pos:Pos} (hg:Gl X x) (hm:X.mg x=some u) (r:RelV v u) (hd:(x == ("__debug__" : Str))=false:=by decide):PE X (.Name x pos) (tC v):=
 λ_ _ _ H _ I h=>DO I hg hm ⟨v,H,I,r,h⟩ hd
theorem N6 {x:Str} {v:V} {u:Value} {pos:Pos} (hg:Gl X x) (hm:X.mg x=none) (hv:bootBuiltins x=some u) (r:RelV v u) (hn:x≠"__name__":=by decide) (hd:(x == ("__debug__" : Str))=false:=by decide):PE X (.Name x pos) (tC v):=
 λ_ _ _ H _ I h=>Hl I hg hm hv ⟨v,H,I,r,h⟩ hn hd
variable {a b:Expr} {ta tb:TE} {pos:Pos}
def tB (t:TE):TT:=λZ H Q=>t Z H λx H1=>∃c,x = .bl c/\Q c H1
theorem VO {e:Expr} {t:TE} (h:PE X e t) (he:∀whole,isTrue e X.env whole=(do let v <-whole;standAt e.pos;holding [v] (truthy v)):=by intro _;rfl):PT X e (tB t):=by
 intro pins s Z H Q I hw
 refine isTrue_plain (thn (h pins s Z H _ I hw) λv s1 ⟨x,H1,I1,r1,q1⟩=>?_) (he _)
 obtain ⟨d,rfl,q⟩:=q1
 cases r1
 exact wpAny_truthy_bool ⟨H1,I1,q⟩
variable {tA tB':TT} {rest:List Expr}
def Yp (t u:TT):TT:=λZ H Q=>t Z H λc H1=>if c=true then u Z H1 Q else Q false H1
def tOr (t u:TT):TT:=λZ H Q=>t Z H λc H1=>if c=true then Q true H1 else u Z H1 Q
def Yv (t:TT):TT:=λZ H Q=>t Z H λc H1=>Q (!c) H1
theorem Ul (ha:PT X a tA):PW X (.BoolOp .And [a] pos) tA:=by
 intro wh pins s Z H Q I h
 refine isTrue_and (thn (ha pins s Z H Q I h) λc s1 e=>?_)
 cases c with
 | true=>exact isTrue_and_nil e
 | false=>exact e
theorem VR (ha:PT X a tA):PW X (.BoolOp .Or [a] pos) tA:=by
 intro wh pins s Z H Q I h
 refine isTrue_or (thn (ha pins s Z H Q I h) λc s1 e=>?_)
 cases c with
 | false=>exact isTrue_or_nil e
 | true=>exact e
theorem VQ (ha:PT X a tA) (hb:PW X (.BoolOp .And (b :: rest) pos) tB'):PW X (.BoolOp .And (a :: b :: rest) pos) (Yp tA tB'):=by
 intro wh pins s Z H Q I h
 refine isTrue_and (thn (ha pins s Z H _ I h) λc s1 ⟨H1,I1,q1⟩=>?_)
 cases c with
 | true=>exact hb wh pins s1 Z H1 Q I1 q1
 | false=>exact ⟨H1,I1,q1⟩
theorem WY (ha:PT X a tA) (hb:PW X (.BoolOp .Or (b :: rest) pos) tB'):PW X (.BoolOp .Or (a :: b :: rest) pos) (tOr tA tB'):=by
 intro wh pins s Z H Q I h
 refine isTrue_or (thn (ha pins s Z H _ I h) λc s1 ⟨H1,I1,q1⟩=>?_)
 cases c with
 | true=>exact ⟨H1,I1,q1⟩
 | false=>exact hb wh pins s1 Z H1 Q I1 q1
theorem VN (ha:PT X a tA):PT X (.UnaryOp .Not a pos) (Yv tA):=by
 intro pins s Z H Q I h
 exact isTrue_not (ha pins s Z H (λc H1=>Q (!c) H1) I h)
def W2 (ta tb:TE):TE:=λZ H Q=>ta Z H λx H1=>∃c,x = .bl c/\if c=true then tb Z H1 Q else Q (.bl false) H1
def W6 (ta:TE):TE:=λZ H Q=>ta Z H λx H1=>∃c,x = .bl c/\Q (.bl (!c)) H1
theorem VC {op} {t:TE} (h:PE X a t):PE X (.BoolOp op [a] pos) t:=λpins s Z H Q I hw=>BoolOp_one (h pins s Z H Q I hw)
theorem Vx (ha:PE X a ta) (hb:PE X (.BoolOp .And (b :: rest) pos) tb):PE X (.BoolOp .And (a :: b :: rest) pos) (W2 ta tb):=by
 intro pins s Z H Q I h
 refine BoolOp_and (thn (ha pins s Z H _ I h) λv s1 ⟨x,H1,I1,r1,q1⟩=>?_)
 obtain ⟨c,rfl,q1⟩:=q1
 cases r1
 refine wpAny_truthy_bool ?_
 cases c with
 | true=>exact hb pins s1 Z H1 Q I1 q1
 | false=>exact ⟨.bl false,H1,I1,rfl,q1⟩
theorem VB (ha:PE X a ta):PE X (.UnaryOp .Not a pos) (W6 ta):=by
 intro pins s Z H Q I h
 refine UnaryOp_ (thn (ha pins s Z H _ I h) λv s1 ⟨x,H1,I1,r1,q1⟩=>?_)
 obtain ⟨c,rfl,q1⟩:=q1
 cases r1
 exact not_of (wpAny_truthy_bool ⟨.bl (!c),H1,I1,rfl,q1⟩)
end
def SqL (K:PySem.W.Frag) (H:Hp) (a:Addr) (xs:List V):Prop:=
 Rd H a (.lst xs)\/
  ∃(o:Obj) (its:Array Value) (n:Nat),K.lookup a=some o/\o.cls = .type "list"/\o.dict=none/\o.data = .seq its n/\its.size<=sizeLine/\Vals xs its.toList
def SqT (K:PySem.W.Frag) (H:Hp) (a:Addr) (xs:List V):Prop:=
 Rd H a (.tup xs)\/
  ∃(o:Obj) (its:Array Value) (n:Nat),K.lookup a=some o/\o.cls = .type "tuple"/\o.data = .seq its n/\its.size<=sizeLine/\Vals xs its.toList
noncomputable def X5:Value->Option V
 | .none=>some .non
 | .bool b=>some (.bl b)
 | .int i _=>some (.int i)
 | .str x _=>some (.str x)
 | .bytes b _=>some (.byt b)
 | .float b _=>some (.flt b)
 | .ref a=>some (.ref a)
 | .type n=>some (.ty n)
 | _=>none
theorem RelV.abs {x:V} {u:Value} (r:RelV x u):X5 u=some x:=by
 cases x with
 | non=>cases r;rfl
 | bl _=>cases r;rfl
 | int _=>obtain ⟨t,rfl⟩:=r;rfl
 | str _=>obtain ⟨t,rfl⟩:=r;rfl
 | byt _=>obtain ⟨t,rfl⟩:=r;rfl
 | flt _=>obtain ⟨t,rfl⟩:=r;rfl
 | ref _=>cases r;rfl
 | ty _=>cases r;rfl
theorem RelV.inj {x y:V} {u:Value} (r:RelV x u) (q:RelV y u):x=y:=Option.some.inj (r.abs.symm.trans q.abs)
theorem Vals.inj:∀{xs ys:List V} {us:List Value},Vals xs us->Vals ys us->xs=ys
 | _,_,_,.nil,.nil=>rfl
 | _,_,_,.cons r t,.cons r' t'=>by rw [r.inj r',Vals.inj t t']
section
variable {X:Cx} {pins:List (Addr×Obj)} {Z:St} {H:Hp} {s:Shared} {a:Addr} {xs ys:List V}
theorem SqL.of {K:PySem.W.Frag} (h:H a=some (.lst xs)):SqL K H a xs:=.inl (.inl h)
theorem SqT.of {K:PySem.W.Frag} (h:H a=some (.tup xs)):SqT K H a xs:=.inl (.inl h)
theorem Inv.list (I:Inv X pins Z H s) (h:SqL X.K H a xs):∃its:List Value,Vals xs its/\PlainL s.heap a its.toArray/\xs.length<=sizeLine:=by
 rcases h with h | ⟨o,its,n,hk,hc,hd,hs,hz,r⟩
 ·obtain ⟨z,its,n,r,e⟩:=h.ok I.hok
  exact ⟨its,r,⟨_,n,e,rfl,rfl,rfl⟩,z⟩
 ·refine ⟨its.toList,r,⟨o,n,I.kIn a o hk,hc,hd,by simpa using hs⟩,?_⟩
  have e:=r.length
  simp only [Array.length_toList] at e
  lia
theorem Inv.tuple (I:Inv X pins Z H s) (h:SqT X.K H a xs):∃its:List Value,Vals xs its/\IsTup s.heap a its.toArray/\xs.length<=sizeLine:=by
 rcases h with h | ⟨o,its,n,hk,hc,hs,hz,r⟩
 ·obtain ⟨z,its,r,p⟩:=h.ok I.hok
  exact ⟨its,r,p,z⟩
 ·refine ⟨its.toList,r,⟨o,I.kIn a o hk,hc,n,by simpa using hs⟩,?_⟩
  have e:=r.length
  simp only [Array.length_toList] at e
  lia
theorem Inv.list_inj (I:Inv X pins Z H s) (h:SqL X.K H a xs) (h':SqL X.K H a ys):xs=ys:=by
 obtain ⟨its,r,⟨o,n,e,_,_,d⟩,_⟩:=I.list h
 obtain ⟨its',r',⟨o',n',e',_,_,d'⟩,_⟩:=I.list h'
 rw [e] at e';cases e'
 rw [d] at d'
 injection d' with d1 _
 have:its=its':=by simpa using congrArg Array.toList d1
 subst this
 exact r.inj r'
theorem Inv.tuple_inj (I:Inv X pins Z H s) (h:SqT X.K H a xs) (h':SqT X.K H a ys):xs=ys:=by
 obtain ⟨its,r,⟨o,e,_,n,d⟩,_⟩:=I.tuple h
 obtain ⟨its',r',⟨o',e',_,n',d'⟩,_⟩:=I.tuple h'
 rw [e] at e';cases e'
 rw [d] at d'
 injection d' with d1 _
 have:its=its':=by simpa using congrArg Array.toList d1
 subst this
 exact r.inj r'
end
abbrev Cx.wish (X:Cx) (E:Value->Shared->Prop):Cx:={ X with xe:=E }
abbrev Cx.nox (X:Cx):Cx:=X.wish λ_ _=>False
theorem Cx.Ok.wish {X:Cx} (ok:X.Ok) (E:Value->Shared->Prop):(X.wish E).Ok:=
 ⟨ok.mod,ok.kind,ok.glob,ok.blt,ok.above,ok.inj,ok.has,ok.cab,ok.hd,ok.frames,ok.stk,ok.exf,ok.bs,ok.bsz,ok.noex,ok.exfs,ok.funs,ok.frf⟩
theorem Cx.Ok.unwish {X:Cx} {E:Value->Shared->Prop} (ok:(X.wish E).Ok):X.Ok:=
 ⟨ok.mod,ok.kind,ok.glob,ok.blt,ok.above,ok.inj,ok.has,ok.cab,ok.hd,ok.frames,ok.stk,ok.exf,ok.bs,ok.bsz,ok.noex,ok.exfs,ok.funs,ok.frf⟩
section
variable {X:Cx} {pins:List (Addr×Obj)} {Z:St} {H:Hp} {s:Shared} {E:Value->Shared->Prop}
theorem Inv.wish (I:Inv X pins Z H s) (E:Value->Shared->Prop):Inv (X.wish E) pins Z H s:=⟨I.ok.wish E,I.os,I.bare,I.base,I.loc,I.cell,I.free,I.freeC,I.pin,I.hok,I.len⟩
theorem Inv.unwish (I:Inv (X.wish E) pins Z H s):Inv X pins Z H s:=⟨I.ok.unwish,I.os,I.bare,I.base,I.loc,I.cell,I.free,I.freeC,I.pin,I.hok,I.len⟩
theorem SP.unwish {D:Ends} {f:Flow} {s':Shared} (h:SP (X.wish E) pins D f s'):SP X pins D f s':=by
 cases f with
 | next=>obtain ⟨Z',H',I,q⟩:=h;exact ⟨Z',H',I.unwish,q⟩
 | brk=>obtain ⟨Z',H',I,q⟩:=h;exact ⟨Z',H',I.unwish,q⟩
 | cont=>obtain ⟨Z',H',I,q⟩:=h;exact ⟨Z',H',I.unwish,q⟩
 | ret u=>obtain ⟨v,Z',H',I,r,q⟩:=h;exact ⟨v,Z',H',I.unwish,r,q⟩
theorem PSs.nox {st:List Stmt} {t:TS} (h:PSs X.nox st t):PSs X st t:=λpins s Z H D I hw=>
 wpAny_mono (h pins s Z H D (I.wish _) hw) (λ_ _ q=>q.unwish) λ_ _ z=>False.elim z
end
section
variable {X:Cx} {st:Stmt} {rest:List Stmt} {t u:TS} {e:Expr} {te:TE} {pos:Pos}
def W5:TS:=λD Z H=>D.nx Z H
def Yx (t u:TS):TS:=λD Z H=>t { D with nx:=u D } Z H
theorem Ui:PSs X [] W5:=λ_ _ Z H _ I h=>wpAny_execs_nil ⟨Z,H,I,h⟩
theorem IQ (h1:PS X st t) (h2:PSs X rest u):PSs X (st :: rest) (Yx t u):=by
 intro pins s Z H D I h
 refine wpAny_execs_cons (thn (h1 pins s Z H { D with nx:=u D } I h) λf s1 q=>?_)
 cases f with
 | next=>
   obtain ⟨Z',H',I',q⟩:=q
   exact h2 pins s1 Z' H' D I' q
 | ret v=>exact q
 | brk=>exact q
 | cont=>exact q
theorem HS (h1:PS X st t):PSs X [st] t:=by
 intro pins s Z H D I h
 refine wpAny_execs_cons (thn (h1 pins s Z H D I h) λf s1 q=>?_)
 cases f with
 | next=>exact wpAny_execs_nil q
 | ret v=>exact q
 | brk=>exact q
 | cont=>exact q
def Wj:TS:=λD Z H=>D.bk Z H
theorem RV:PS X (.Break pos) Wj:=λ_ _ Z H _ I h=>wpAny_Break ⟨Z,H,I,h⟩
theorem Inv.quiet {pins:List (Addr×Obj)} {Z:St} {H:Hp} {s:Shared} (I:Inv X pins Z H s):interactive X.env=false:=by simp [interactive,I.ok.kind]
def SW (te:TE):TS:=λD Z H=>te Z H λ_ H1=>D.nx Z H1
theorem N8 (he:PE X e te) (hs:swapsWith e none pos.line X.env=pure false:=by rfl):PS X (.Expr e pos) (SW te):=by
 intro pins s Z H D I h
 exact wpAny_Expr_any (thn (he pins s Z H _ I h) λv s1 ⟨x,H1,I1,r1,q1⟩=>⟨Z,H1,I1,q1⟩) I.quiet hs
def Yw (te:TE):TS:=λD Z H=>te Z H D.rt
theorem Hs (he:PE X e te):PS X (.Return (some e) pos) (Yw te):=by
 intro pins s Z H D I h
 exact wpAny_Return_some (thn (he pins s Z H _ I h) λv s1 ⟨x,H1,I1,r1,q1⟩=>⟨x,Z,H1,I1,r1,q1⟩)
def Yt (c:TT) (t u:TS):TS:=λD Z H=>c Z H λb H1=>if b=true then t D Z H1 else u D Z H1
theorem WX {c:Expr} {a b:List Stmt} {tc:TT} (hc:PT X c tc) (ha:PSs X a t) (hb:PSs X b u):PS X (.If c a b pos) (Yt tc t u):=by
 intro pins s Z H D I h
 refine wpAny_If (thn (hc pins s Z H _ I h) λd s1 ⟨H1,I1,q1⟩=>?_)
 cases d with
 | true=>exact ha pins s1 Z H1 D I1 q1
 | false=>exact hb pins s1 Z H1 D I1 q1
end
abbrev TG:=V->St->Hp->(St->Hp->Prop)->Prop
abbrev TGs:=List V->St->Hp->(St->Hp->Prop)->Prop
def PG (X:Cx) (target:Expr) (t:TG):Prop:=
 ∀(pins:List (Addr×Obj)) (s:Shared) (Z:St) (H:Hp) (v:V) (u:Value) (Q:St->Hp->Prop),Inv X pins Z H s->RelV v u->t v Z H Q->
  wpAny (model X.prog X.w) X.A (assign target X.env u) (λ_ s'=>∃Z' H',Inv X pins Z' H' s'/\Q Z' H') X.xe s
def PGs (X:Cx) (ts:List Expr) (t:TGs):Prop:=
 ∀(pins:List (Addr×Obj)) (s:Shared) (Z:St) (H:Hp) (vs:List V) (us:List Value) (Q:St->Hp->Prop),Inv X pins Z H s->Vals vs us->t vs Z H Q->
  wpAny (model X.prog X.w) X.A (assignInOrder ((assignEach ts X.env).map (·.2)) us) (λ_ s'=>∃Z' H',Inv X pins Z' H' s'/\Q Z' H') X.xe s
abbrev QY:=V->V->V->Hp->(Hp->Prop)->Prop
def UZ (X:Cx) (t:QY):Prop:=
 ∀(pins:List (Addr×Obj)) (s:Shared) (Z:St) (H:Hp) (o i v:V) (ov iv u:Value) (Q:Hp->Prop),Inv X pins Z H s->RelV o ov->RelV i iv->RelV v u->t o i v H Q->
  wpAny (model X.prog X.w) X.A (setItem ov iv u) (λ_ s'=>∃H',Inv X pins Z H' s'/\Q H') X.xe s
section
variable {X:Cx} {pos:Pos}
def LK (i:Nat):TG:=λv Z H Q=>Q (Z.set i (some v)) H
theorem Ua {i:Nat} {x:Str} (hN:X.N.Nodup) (hi:X.N[i]?=some x) (hx:Loc X.env.scope x) (hf:X.fn x=true\/X.env.scope.names.lookup x=some .local:=by first | exact .inl rfl | exact .inr rfl | assumption):PG X (.Name x pos) (LK i):=by
 intro pins s Z H v u Q I r h
 exact wpAny_assign_Name (FS I hN hi hx r (λs' I'=>⟨_,H,I',h⟩) hf)
def Yf:TGs:=λvs Z H Q=>vs=[]/\Q Z H
def SE (t:TG) (u:TGs):TGs:=λvs Z H Q=>∃v r,vs=v :: r/\t v Z H λZ' H'=>u r Z' H' Q
theorem Ub:PGs X [] Yf:=by
 intro pins s Z H vs us Q I r h
 obtain ⟨e,h⟩:=h
 subst e
 cases r
 exact assignInOrder_nil ⟨Z,H,I,h⟩
theorem RM {e:Expr} {es:List Expr} {t:TG} {u:TGs} (h1:PG X e t) (h2:PGs X es u)
 (hs:(assignEach (e :: es) X.env).map (·.2)=assign e X.env :: (assignEach es X.env).map (·.2):=by rfl):PGs X (e :: es) (SE t u):=by
 intro pins s Z H vs us Q I r h
 obtain ⟨v,vr,e1,h⟩:=h
 subst e1
 cases r with
 | cons r rr=>
   rw [hs]
   refine assignInOrder_cons (thn (h1 pins s Z H _ _ _ I r h) λ_ s1 ⟨Z1,H1,I1,q1⟩=>?_)
   exact h2 pins s1 Z1 H1 _ _ Q I1 rr q1
def Yh (K:PySem.W.Frag) (n:Nat) (t:TGs):TG:=λv Z H Q=>∃a xs,v = .ref a/\SqT K H a xs/\xs.length=n/\t xs Z H Q
theorem VG {es:List Expr} {k:Nat} {t:TGs} {n:Nat} (hc:X.calm=true) (h:PGs X es t)
 (hn:(assignEach es X.env).length=n:=by rfl) (hst:(assignEach es X.env).findIdx? (·.1)=none:=by rfl):PG X (.Tuple es k pos) (Yh X.K n t):=by
 intro pins s Z H v u Q I r hw
 obtain ⟨a,xs,e1,hq,hl,hw⟩:=hw
 subst e1
 cases r
 obtain ⟨its,rv,ht,hz⟩:=I.tuple hq
 refine assign_Tuple_tuple (I.ok.hd hc) ht (by simp [hn,<-hl,rv.length]) hst λh' hx=>?_
 have I1:Inv X pins Z H { s with heap:=h' }:=I.kept (t':=s.toks) λb o e=>hx b o (Nat.ne_of_lt (Heap.lt_size e)) e
 exact h pins _ Z H xs _ Q I1 (by simpa using rv) hw
def Yg (to ti:TE) (t:QY):TG:=λv Z H Q=>to Z H λo H1=>ti Z H1 λi H2=>t o i v H2 λH3=>Q Z H3
theorem VF {o i:Expr} {to ti:TE} {t:QY} (ho:PE X o to) (hi:PE X i ti) (hs:UZ X t)
 (ha:∀v,assign (.Subscript o i pos) X.env v=(do
   let ov <-holding [v] (eval o X.env)
   let iv <-holding [v,ov] (eval i X.env)
   standAt pos
   holding [v,ov,iv] (setItem ov iv v)
   release [v,ov,iv] []):=by intro _;rfl):PG X (.Subscript o i pos) (Yg to ti t):=by
 intro pins s Z H v u Q I r h
 rw [ha]
 refine wpAny_bind (wpAny_holding (thn (ho pins s Z H _ I h) λov s1 ⟨x,H1,I1,r1,q1⟩=>?_))
 refine wpAny_bind (wpAny_holding (thn (hi pins s1 Z H1 _ I1 q1) λiv s2 ⟨y,H2,I2,r2,q2⟩=>?_))
 refine wpAny_bind (wpAny_standAt (wpAny_bind (wpAny_holding (thn (hs pins s2 Z H2 x y v ov iv u _ I2 r1 r2 r q2) λ_ s3 ⟨H3,I3,q3⟩=>?_))))
 exact wpAny_release ⟨Z,H3,I3,q3⟩
def O6 (te:TE) (g:TG):TS:=λD Z H=>te Z H λx H1=>g x Z H1 D.nx
theorem JS {tg e:Expr} {te:TE} {g:TG} (he:PE X e te) (hg:PG X tg g) (hs:swapsWithSole [tg] e pos.line X.env=pure false:=by rfl) (hw:swappedStores [tg] e X.env=pure none:=by rfl)
 (h1:(assignEach [tg] X.env).map (·.2)=[assign tg X.env]:=by rfl):PS X (.Assign [tg] e pos) (O6 te g):=by
 intro pins s Z H D I h
 refine wpAny_Assign_stores (thn (he pins s Z H _ I h) λv s1 ⟨x,H1,I1,r1,q1⟩=>?_) hs hw
 rw [h1]
 exact thn (hg pins s1 Z H1 x v _ I1 r1 q1) λ_ s2 q=>q
theorem Nc {i:Nat} {x:Str} {e:Expr} {te:TE} {pos':Pos} (hN:X.N.Nodup) (hi:X.N[i]?=some x) (hx:Loc X.env.scope x) (he:PE X e te) (hs:swapsWith e (some (.Name x pos')) pos.line X.env=pure false:=by rfl) (hf:X.fn x=true\/X.env.scope.names.lookup x=some .local:=by first | exact .inl rfl | exact .inr rfl | assumption) :
 PS X (.Assign [.Name x pos'] e pos) (O6 te (LK i)):=by
 intro pins s Z H D I h
 refine wpAny_Assign_Name (thn (he pins s Z H _ I h) λv s1 ⟨y,H1,I1,r1,q1⟩=>?_) hs
 exact FS I1 hN hi hx r1 (λs2 I2=>⟨_,H1,I2,q1⟩) hf
end
section
variable {X:Cx} {pos:Pos}
def QJ (c:TT) (tb:TS):TS:=λD Z H=>∃W:Nat->St->Hp->Prop,(∃m,W m Z H)/\∀m Z H,W m Z H->
 c Z H λb H1=>if b=true then ∃N:St->Hp->Prop,(∀Z' H',N Z' H'->∃m',m' < m/\W m' Z' H')/\tb { D with nx:=N,ct:=N,bk:=D.nx } Z H1 else D.nx Z H1
theorem RW {c:Expr} {body:List Stmt} {tc:TT} {tb:TS} (hp:PassesOwn (model X.prog X.w) X.A X.env X.xe) (hc:PT X c tc) (hb:PSs X body tb):PS X (.While c body [] pos) (QJ tc tb):=by
 intro pins s Z H D I h
 obtain ⟨W,⟨m0,w0⟩,turn⟩:=h
 refine wpAny_While (codeAny_whileLoop (λn s'=>∃Z' H',Inv X pins Z' H' s'/\W n Z' H') ?_ m0 ⟨Z,H,I,w0⟩)
 rintro n s1 ⟨Z1,H1,I1,w1⟩
 refine wpAny_passesOwn hp (thn (hc pins s1 Z1 H1 _ I1 (turn n Z1 H1 w1)) λb s2 ⟨H2,I2,q2⟩=>?_)
 cases b with
 | true=>
   obtain ⟨N,hN,q2⟩:=q2
   rw [if_pos rfl]
   refine wpAny_passesOwn hp (thn (hb pins s2 Z1 H2 _ I2 q2) λf s3 q3=>?_)
   cases f with
   | next=>
     obtain ⟨Z3,H3,I3,n3⟩:=q3
     obtain ⟨m',hm,w3⟩:=hN Z3 H3 n3
     exact ⟨m',hm,Z3,H3,I3,w3⟩
   | cont=>
     obtain ⟨Z3,H3,I3,n3⟩:=q3
     obtain ⟨m',hm,w3⟩:=hN Z3 H3 n3
     exact ⟨m',hm,Z3,H3,I3,w3⟩
   | brk=>exact q3
   | ret v=>exact q3
 | false=>
   rw [if_neg Bool.false_ne_true]
   exact wpAny_execs_nil ⟨Z1,H2,I2,q2⟩
end
structure It where
 go:Nat->Hp->Prop
 yld:Nat->Hp->V->Hp->Prop
 stop:Nat->Hp->Prop
def FpOk (X:Cx) (pins:List (Addr×Obj)) (H:Hp) (b:Addr):Prop:=
 H b=none/\b≠X.env.locals/\b∉X.fs/\(b∈X.ex\/X.s₀.heap.objs.size<=b)/\(∀x c,X.env.cells.lookup x=some c->c≠b)/\∀p∈X.pn++pins,p.1≠b
theorem Inv.fpOk {X:Cx} {pins:List (Addr×Obj)} {Z:St} {H H':Hp} {s:Shared} {b:Addr} (I:Inv X pins Z H s) (hb:s.heap.objs.size<=b) (hn:H' b=none):FpOk X pins H' b:=by
 refine ⟨hn,Nat.ne_of_gt (Nat.lt_of_lt_of_le I.lt hb),I.nofs hb,.inr (Nat.le_trans I.sz hb),λx c e z=>?_,λp hp z=>?_⟩
 ·obtain ⟨v,q⟩:=I.cell x c e
  exact absurd (Nat.lt_of_lt_of_le q.lt (by rw [z];exact hb)) (Nat.lt_irrefl _)
 ·exact absurd (Nat.lt_of_lt_of_le (Heap.lt_size (I.pin p hp).1) (by rw [z];exact hb)) (Nat.lt_irrefl _)
structure Turn (P:Program) (w:World) (K:PySem.W.Frag) (tg:Expr) (J:It) (fp:List Addr) (it:Addr) (tn:Nat->Heap->Prop):Prop where
 mem:it∈fp
 obj:∀i h,tn i h->∀b∈fp,∃o,h.get? b=some o/\∀v,o.data≠.cell v
 keep:∀i h h',tn i h->(∀b∈fp,∀o,h.get? b=some o->h'.get? b=some o)->tn i h'
 item:∀(X:Cx),X.prog=P->X.w=w->X.K=K->X.calm=true->∀(i:Nat) (pins:List (Addr×Obj)) (s:Shared) (Z:St) (H:Hp) (E:Value->Shared->Prop),Inv X pins Z H s->(∀b∈fp,FpOk X pins H b)->tn i s.heap->J.go i H->
  wpAny (model P w) X.A (pyNext (.ref it)) (λr s1=>∃u,r=some u/\
   wpAny (model P w) X.A (letOwnedTupleGo tg (.ref it) u) (λ_ s2=>∃x H',Inv X pins Z H' s2/\RelV x u/\J.yld i H x H'/\tn (i + 1) s2.heap/\∀b∈fp,H' b=none) E s1) E s
 done:∀(X:Cx),X.prog=P->X.w=w->X.K=K->X.calm=true->∀(i:Nat) (pins:List (Addr×Obj)) (s:Shared) (Z:St) (H:Hp) (E:Value->Shared->Prop),Inv X pins Z H s->(∀b∈fp,FpOk X pins H b)->tn i s.heap->J.stop i H->
  wpAny (model P w) X.A (pyNext (.ref it)) (λr s1=>r=none/\Inv X pins Z H s1) E s
 self:∀(A:Around) (i:Nat) (s:Shared) (Q:Value->Shared->Prop) (E:Value->Shared->Prop),tn i s.heap->Q (.ref it) s->wpAny (model P w) A (pyIter (.ref it)) Q E s
abbrev TI:=St->Hp->(It->Hp->Prop)->Prop
def PIE (X:Cx) (pins:List (Addr×Obj)) (Z:St) (tg:Expr) (R:It->Hp->Prop) (itv:Value) (s2:Shared):Prop:=
 ∃(it:Addr) (fp:List Addr) (tn:Nat->Heap->Prop) (J:It) (H':Hp),itv = .ref it/\Inv X pins Z H' s2/\Turn X.prog X.w X.K tg J fp it tn/\tn 0 s2.heap/\(∀b∈fp,FpOk X pins H' b)/\R J H'
def PI (X:Cx) (tg iter:Expr) (wi:TI):Prop:=
 ∀(pins:List (Addr×Obj)) (s:Shared) (Z:St) (H:Hp) (R:It->Hp->Prop),Inv X pins Z H s->wi Z H R->
  wpAny (model X.prog X.w) X.A (eval iter X.env) (λv s1=>wpAny (model X.prog X.w) X.A (pyIter v) (PIE X pins Z tg R) X.xe s1) X.xe s
theorem LL {M:Model} {A:Around} {E:Value->Shared->Prop} {s:Shared} {tg:Expr} {it:Addr} {u:Value} {o:Obj} {n:String} {vs:Array Value} {Q:Unit->Shared->Prop} (ho:s.heap.get? it=some o) (hc:o.cls = .type n) (hd:o.data = .fields vs)
 (hn:["enumerate", "zip", "dict_itemiterator", "dict_reverseitemiterator", "odict_iterator", "itertools.zip_longest", "itertools.pairwise"].contains n=false) (hQ:Q () s):wpAny M A (letOwnedTupleGo tg (.ref it) u) Q E s:=by
 unfold letOwnedTupleGo
 cases tg <;> first
  | exact wpAny_pure hQ
  | (cases u <;> first
      | exact wpAny_pure hQ
      | (refine wpAny_bind (wpAny_load ho ?_)
         rw [hc,hd]
         show wpAny M A (if (["enumerate", "zip", "dict_itemiterator", "dict_reverseitemiterator", "odict_iterator", "itertools.zip_longest", "itertools.pairwise"].contains n && vs[0]? == some (rawInt _))=true then _ else _) Q E s
         rw [if_neg (by intro h;rw [hn,Bool.false_and] at h;cases h)]
         exact wpAny_pure hQ))
def Itl (K:PySem.W.Frag) (a:Addr):It:=
 ⟨λi H=>∃xs x,SqL K H a xs/\xs[i]?=some x,λi H x H'=>H'=H/\∀xs,SqL K H a xs->xs[i]?=some x,λi H=>∃xs,SqL K H a xs/\xs.length<=i⟩
def Itt (K:PySem.W.Frag) (a:Addr):It:=
 ⟨λi H=>∃xs x,SqT K H a xs/\xs[i]?=some x,λi H x H'=>H'=H/\∀xs,SqT K H a xs->xs[i]?=some x,λi H=>∃xs,SqT K H a xs/\xs.length<=i⟩
noncomputable def Itr (lo:Int) (n:Nat):It:=⟨λi _=>i < n,λi H x H'=>H'=H/\x = .int (lo + i),λi _=>n<=i⟩
theorem QM {P:Program} {w:World} {K:PySem.W.Frag} {tg:Expr} (a it:Addr):Turn P w K tg (Itl K a) [it] it (λi h=>h.IsListIter it a i) where
 mem:=by simp
 obj:=λi h st b hb=>by
  have e:b=it:=by simpa using hb
  subst e
  obtain ⟨o,e,c,d⟩:=st
  exact ⟨o,e,λv z=>by rw [d] at z;cases z⟩
 keep:=λi h h' st k=>st.at λo e=>k it (by simp) o e
 item:=by
  intro X hP hw hK hc i pins s Z H E I hf st hg
  subst hP hw hK
  obtain ⟨xs,x,hq,hx⟩:=hg
  obtain ⟨its,rv,p,hz⟩:=I.list hq
  obtain ⟨u,hu,ru⟩:=rv.get hx
  obtain ⟨f0,f1,f2,f3,f4,f5⟩:=hf it (by simp)
  refine wpAny_pyNext_list_item st p.isList (x:=u) (by simpa using hu) λh' st' sb=>?_
  have I1:Inv X pins Z H { s with heap:=h' }:=I.turned (t':=s.toks) (λb o hb e=>(sb.2 b hb).trans e) f0 f1 f3 f4 f5
  obtain ⟨o,e,c,d⟩:=id st'
  exact ⟨u,rfl,LL (s:={ s with heap:=h' }) e c d (by decide) ⟨x,H,I1,ru,⟨rfl,λys hy=>by rw [I.list_inj hy hq];exact hx⟩,st',λb hb=>(hf b hb).1⟩⟩
 done:=by
  intro X hP hw hK hc i pins s Z H E I hf st hg
  subst hP hw hK
  obtain ⟨xs,hq,hx⟩:=hg
  obtain ⟨its,rv,p,hz⟩:=I.list hq
  obtain ⟨f0,f1,f2,f3,f4,f5⟩:=hf it (by simp)
  have hl:=rv.length
  exact wpAny_pyNext_list_end (I.ok.hd hc) st p.isList (by simp;lia) λh' eb=>⟨rfl,I.turned (t':=s.toks) (λb o hb e=>eb b o hb e) f0 f1 f3 f4 f5⟩
 self:=λ_ _ _ _ _ st h=>wpAny_pyIter_listiter st h
theorem Pb {P:Program} {w:World} {K:PySem.W.Frag} {tg:Expr} (a it:Addr):Turn P w K tg (Itt K a) [it] it (λi h=>h.IsTupleIter it a i) where
 mem:=by simp
 obj:=λi h st b hb=>by
  have e:b=it:=by simpa using hb
  subst e
  obtain ⟨o,e,c,d⟩:=st
  exact ⟨o,e,λv z=>by rw [d] at z;cases z⟩
 keep:=λi h h' st k=>st.at λo e=>k it (by simp) o e
 item:=by
  intro X hP hw hK hc i pins s Z H E I hf st hg
  subst hP hw hK
  obtain ⟨xs,x,hq,hx⟩:=hg
  obtain ⟨its,rv,p,hz⟩:=I.tuple hq
  obtain ⟨u,hu,ru⟩:=rv.get hx
  obtain ⟨f0,f1,f2,f3,f4,f5⟩:=hf it (by simp)
  refine wpAny_pyNext_tuple_item st (show s.heap.IsTuple a its.toArray from p) (x:=u) (by simpa using hu) λh' st' sb=>?_
  have I1:Inv X pins Z H { s with heap:=h' }:=I.turned (t':=s.toks) (λb o hb e=>(sb.2 b hb).trans e) f0 f1 f3 f4 f5
  obtain ⟨o,e,c,d⟩:=id st'
  exact ⟨u,rfl,LL (s:={ s with heap:=h' }) e c d (by decide) ⟨x,H,I1,ru,⟨rfl,λys hy=>by rw [I.tuple_inj hy hq];exact hx⟩,st',λb hb=>(hf b hb).1⟩⟩
 done:=by
  intro X hP hw hK hc i pins s Z H E I hf st hg
  subst hP hw hK
  obtain ⟨xs,hq,hx⟩:=hg
  obtain ⟨its,rv,p,hz⟩:=I.tuple hq
  obtain ⟨f0,f1,f2,f3,f4,f5⟩:=hf it (by simp)
  have hl:=rv.length
  exact wpAny_pyNext_tuple_end (I.ok.hd hc) st (show s.heap.IsTuple a its.toArray from p) (by simp;lia) λh' eb=>⟨rfl,I.turned (t':=s.toks) (λb o hb e=>eb b o hb e) f0 f1 f3 f4 f5⟩
 self:=λ_ _ _ _ _ st h=>wpAny_pyIter_tupleiter st h
theorem Pa {P:Program} {w:World} {K:PySem.W.Frag} {tg:Expr} (it:Addr) (lo:Int) (n:Nat):Turn P w K tg (Itr lo n) [it] it (λi h=>IsRangeIter h it (lo + (i:Nat) * 1) ((n:Int) - (i:Nat)) 1) where
 mem:=by simp
 obj:=λi h st b hb=>by
  have e:b=it:=by simpa using hb
  subst e
  exact ⟨_,st,λv z=>by
   have z':Data.fields _=Data.cell v:=z
   cases z'⟩
 keep:=λi h h' st k=>k it (by simp) _ st
 item:=by
  intro X hP hw hK hc i pins s Z H E I hf st hg
  subst hP hw hK
  obtain ⟨f0,f1,f2,f3,f4,f5⟩:=hf it (by simp)
  have W:=Walks.range (prog:=X.prog) (w:=X.w) (I.ok.hd hc) it lo 1 n
  refine W.item i s _ _ hg st λv h' tk hv st' kk=>?_
  obtain ⟨t,rfl⟩:=hv
  have I1:Inv X pins Z H { s with heap:=h',toks:=tk }:=I.turned (λb o hb e=>kk b o (by simpa using hb) e) f0 f1 f3 f4 f5
  refine ⟨_,rfl,LL (s:={ s with heap:=h',toks:=tk }) (n:="range_iterator") st' rfl rfl (by decide) ⟨.int (lo + i),H,I1,⟨t,?_⟩,⟨rfl,rfl⟩,st',λb hb=>(hf b hb).1⟩⟩
  rw [Int.mul_one]
 done:=by
  intro X hP hw hK hc i pins s Z H E I hf st hg
  subst hP hw hK
  obtain ⟨f0,f1,f2,f3,f4,f5⟩:=hf it (by simp)
  exact wpAny_pyNext_range_end (I.ok.hd hc) st (by have:n<=i:=hg;lia) λh' eb=>⟨rfl,I.turned (t':=s.toks) (λb o hb e=>eb b o hb e) f0 f1 f3 f4 f5⟩
 self:=λ_ _ _ _ _ st h=>wpAny_pyIter_rangeiter st h
section
variable {X:Cx} {tg:Expr}
theorem Nf {pins:List (Addr×Obj)} {Z:St} {H:Hp} {s:Shared} {R:It->Hp->Prop} {E:Value->Shared->Prop} {lo hi:Int} {t u v:Tok} {tk:Nat} (I:Inv X pins Z H s) (h1 : -(2 ^ 62)<=lo) (h2:lo < 2 ^ 62) (h3 : -(2 ^ 62)<=hi) (h4:hi < 2 ^ 62)
 (q:R (Itr lo (hi - lo).toNat) H):wpAny (model X.prog X.w) X.A (pyIter (.ref s.heap.objs.size)) (PIE X pins Z tg R) E { s with heap:=s.heap.push { cls:=.type "range",data:=.fields #[.int lo t,.int hi u,.int 1 v] },toks:=tk }:=by
 refine wpAny_pyIter_range (IsRange.new ..) (small_one h1 h2 h3 h4) ?_
 have I1:Inv X pins Z H { s with heap:=s.heap.push { cls:=.type "range",data:=.fields #[.int lo t,.int hi u,.int 1 v] },toks:=tk }:=I.kept λb o e=>Heap.get?_push_of_some _ e
 refine ⟨(s.heap.push { cls:=.type "range",data:=.fields #[.int lo t,.int hi u,.int 1 v] }).objs.size,[(s.heap.push { cls:=.type "range",data:=.fields #[.int lo t,.int hi u,.int 1 v] }).objs.size],_,_,H,rfl,
  I1.kept (t':=tk) λb o e=>Heap.get?_push_of_some _ e,Pa _ lo (hi - lo).toNat,?_,λb hb=>?_,q⟩
 ·have e1:lo + ((0:Nat):Int) * 1=lo:=by simp
  have e2:(((hi - lo).toNat:Nat):Int) - ((0:Nat):Int)=Builtin.Range.rangeSize lo hi 1:=by rw [rangeSize_one];split <;> lia
  show IsRangeIter _ _ (lo + ((0:Nat):Int) * 1) ((((hi - lo).toNat:Nat):Int) - ((0:Nat):Int)) 1
  rw [e1,e2]
  exact Heap.get?_push_size _ rfl
 ·have e:b=(s.heap.push { cls:=.type "range",data:=.fields #[.int lo t,.int hi u,.int 1 v] }).objs.size:=by simpa using hb
  subst e
  exact I1.fpOk (Nat.le_refl _) (I1.hok.fresh (Nat.le_refl _))
def WM (ta:TA):TI:=λZ H R=>ta Z H λvs H1=>∃j:Int,vs=[.int j]/\-(2 ^ 62)<=j/\j < 2 ^ 62/\R (Itr 0 j.toNat) H1
def WN (ta:TA):TI:=λZ H R=>ta Z H λvs H1=>∃i j:Int,vs=[.int i,.int j]/\(-(2 ^ 62)<=i/\i < 2 ^ 62/\-(2 ^ 62)<=j/\j < 2 ^ 62)/\R (Itr i (j - i).toNat) H1
theorem Qq {a:Expr} {ta:TA} {p pos:Pos} (hg:Gl X "range") (hm:X.mg "range" = none) (ha:PA X [a] ta) (hs:starEach [a] X.env=[(false,eval a X.env)]:=by rfl):PI X tg (.Call (.Name "range" p) [a] [] pos) (WM ta):=by
 intro pins s Z H R I h
 refine Call_ (Hl I hg hm boot_range (PyProof.Rows.callWith_type1 (thn (ha pos pins s Z H _ I h) λus s1 ⟨vs,H1,I1,r1,q1⟩=>?_) hs rfl))
 obtain ⟨j,e,q1,q2,q⟩:=q1
 subst e
 cases r1 with
 | cons r rr=>
   cases rr
   obtain ⟨t,rfl⟩:=r
   exact call_range_1 (Nf I1 (by lia) (by lia) q1 q2 (by simpa using q))
theorem Qr {a b:Expr} {ta:TA} {p pos:Pos} (hg:Gl X "range") (hm:X.mg "range" = none) (ha:PA X [a,b] ta) (hs:starEach [a,b] X.env=[(false,eval a X.env),(false,eval b X.env)]:=by rfl) (hs2:starEach [b] X.env=[(false,eval b X.env)]:=by rfl) :
 PI X tg (.Call (.Name "range" p) [a,b] [] pos) (WN ta):=by
 intro pins s Z H R I h
 refine Call_ (Hl I hg hm boot_range (PyProof.Rows.callWith_type1 (thn (ha pos pins s Z H _ I h) λus s1 ⟨vs,H1,I1,r1,q1⟩=>?_) (by rw [hs,hs2]) (by rw [hs2];rfl)))
 obtain ⟨i,j,e,⟨q1,q2,q3,q4⟩,q⟩:=q1
 subst e
 cases r1 with
 | cons r rr=>
   cases rr with
   | cons r' rr=>
     cases rr
     obtain ⟨t,rfl⟩:=r
     obtain ⟨t',rfl⟩:=r'
     exact call_range_2 (Nf I1 q1 q2 q3 q4 q)
def Wl (wi:TI) (g:TG) (tb:TS):TS:=λD Z H=>wi Z H λJ H1=>∃W:Nat->Nat->St->Hp->Prop,(∃m,W 0 m Z H1)/\∀i m Z H,W i m Z H->
 (J.stop i H/\D.nx Z H)\/(J.go i H/\∃N:St->Hp->Prop,(∀Z' H',N Z' H'->∃m',m' < m/\W (i + 1) m' Z' H')/\∀x H',J.yld i H x H'->g x Z H' λZ2 H2=>tb { D with nx:=N,ct:=N,bk:=D.nx } Z2 H2)
noncomputable def Hr (fp:List Addr) (h:Heap):List (Addr×Obj):=fp.filterMap λb=>(h.get? b).map λo=>(b,o)
theorem Fm {fp:List Addr} {h:Heap} {b:Addr} {o:Obj} (hb:b∈fp) (e:h.get? b=some o):(b,o)∈Hr fp h:=List.mem_filterMap.mpr ⟨b,hb,by rw [e];rfl⟩
theorem Qk {fp:List Addr} {h:Heap} {p:Addr×Obj} (hp:p∈Hr fp h):p.1∈fp/\h.get? p.1=some p.2:=by
 obtain ⟨b,hb,e⟩:=List.mem_filterMap.mp hp
 cases q:h.get? b with
 | none=>rw [q] at e;cases e
 | some o=>
   rw [q] at e
   have e':(b,o)=p:=Option.some.inj e
   subst e'
   exact ⟨hb,q⟩
theorem Inv.pinned {pins:List (Addr×Obj)} {Z:St} {H:Hp} {s:Shared} {fp:List Addr} (I:Inv X pins Z H s) (hf:∀b∈fp,FpOk X pins H b) (ho:∀b∈fp,∃o,s.heap.get? b=some o/\∀v,o.data≠.cell v):Inv X (pins++Hr fp s.heap) Z H s:=
 I.pins_of λp hp=>(List.mem_append.mp hp).elim (λz=>I.pin p (List.mem_append_right _ z)) λz=>by
  obtain ⟨hb,e⟩:=Qk z
  obtain ⟨f0,f1,f2,_⟩:=hf p.1 hb
  obtain ⟨o,e',d⟩:=ho p.1 hb
  rw [e] at e';cases e'
  exact ⟨e,f0,f1,f2,d⟩
theorem Inv.unpinned {pins pl:List (Addr×Obj)} {Z:St} {H:Hp} {s:Shared} (I:Inv X (pins++pl) Z H s):Inv X pins Z H s:=I.pins_of λp hp=>I.pin p (List.mem_append_right _ (List.mem_append_left _ hp))
theorem VL {iter:Expr} {body:List Stmt} {wi:TI} {g:TG} {tb:TS} {pos:Pos} (hp:PassesOwn (model X.prog X.w) X.A X.env X.xe) (hc:X.calm=true) (hi:PI X tg iter wi) (hg:PG X tg g) (hb:PSs X body tb)
 (hs:∀x,foldedSetIterable iter X.env x=pure x:=by intro _;rfl):PS X (.For tg iter body [] pos) (Wl wi g tb):=by
 intro pins s Z H D I h
 refine wpAny_For (thn (hi pins s Z H _ I h) λv s1 h1=>thn h1 λitv s2 h2=>?_) hs
 obtain ⟨it,fp,tn,J,H2,e,I2,T,st2,f2,W,⟨m0,w0⟩,turn⟩:=h2
 subst e
 -- what stays true of the iterator's objects through the loop
 have stat:∀{H':Hp},(∀b∈fp,H' b=none)->∀b∈fp,FpOk X pins H' b:=λhn b hb=>⟨hn b hb,(f2 b hb).2⟩
 refine codeAny_forLoop_any (λn s'=>∃i Z' H',Inv X pins Z' H' s'/\tn i s'.heap/\(∀b∈fp,H' b=none)/\W i n Z' H') ?_ m0 ⟨0,Z,H2,I2,st2,λb hb=>(f2 b hb).1,w0⟩
 rintro n s3 ⟨i,Z3,H3,I3,st3,fr3,w3⟩
 rcases turn i n Z3 H3 w3 with ⟨stop,qn⟩ | ⟨go,N,hN,step⟩
 ·refine wpAny_passesOwn hp (thn (T.done X rfl rfl rfl hc i pins s3 Z3 H3 X.xe I3 (stat fr3) st3 stop) λr s4 ⟨hr,I4⟩=>?_)
  subst hr
  exact wpAny_execs_nil ⟨Z3,H3,I4,qn⟩
 ·refine wpAny_passesOwn hp (thn (T.item X rfl rfl rfl hc i pins s3 Z3 H3 X.xe I3 (stat fr3) st3 go) λr s4 ⟨u,hr,h4⟩=>?_)
  subst hr
  refine wpAny_passesOwn hp (thn h4 λ_ s5 ⟨x,H5,I5,r5,y5,st5,fr5⟩=>?_)
  have I5':=I5.pinned (stat fr5) (T.obj _ _ st5)
  refine wpAny_passesOwn hp (thn (hg _ s5 Z3 H5 x u _ I5' r5 (step x H5 y5)) λ_ s6 ⟨Z6,H6,I6,q6⟩=>?_)
  refine wpAny_passesOwn hp (thn (hb _ s6 Z6 H6 _ I6 q6) λf s7 q7=>?_)
  have again:∀{Z7:St} {H7:Hp},Inv X (pins++Hr fp s5.heap) Z7 H7 s7->N Z7 H7->∃m,m < n/\∃i Z' H',Inv X pins Z' H' s7/\tn i s7.heap/\(∀b∈fp,H' b=none)/\W i m Z' H':=λ{Z7 H7} I7 n7=>by
   obtain ⟨m',hm,w7⟩:=hN Z7 H7 n7
   refine ⟨m',hm,i + 1,Z7,H7,I7.unpinned,T.keep _ _ _ st5 λb hb o e=>(I7.pin (b,o) (List.mem_append_right _ (List.mem_append_right _ (Fm hb e)))).1,λb hb=>?_,w7⟩
   obtain ⟨o,e,d⟩:=T.obj _ _ st5 b hb
   exact (I7.pin (b,o) (List.mem_append_right _ (List.mem_append_right _ (Fm hb e)))).2.1
  cases f with
  | next=>obtain ⟨Z7,H7,I7,n7⟩:=q7;exact again I7 n7
  | cont=>obtain ⟨Z7,H7,I7,n7⟩:=q7;exact again I7 n7
  | brk=>obtain ⟨Z7,H7,I7,q7⟩:=q7;exact ⟨Z7,H7,I7.unpinned,q7⟩
  | ret v=>obtain ⟨x7,Z7,H7,I7,r7,q7⟩:=q7;exact ⟨x7,Z7,H7,I7.unpinned,r7,q7⟩
end
abbrev R2:=V->V->Hp->VK->Prop
def OpR (X:Cx) (f:Value->Value->Sem Value) (r:R2):Prop:=
 ∀(pins:List (Addr×Obj)) (s:Shared) (Z:St) (H:Hp) (x y:V) (v u:Value) (Q:VK),Inv X pins Z H s->RelV x v->RelV y u->r x y H Q->
  wpAny (model X.prog X.w) X.A (f v u) (EP X pins Z Q) X.xe s
def CN (X:Cx) (f:Value) (r:List V->Hp->VK->Prop):Prop:=
 ∀(pins:List (Addr×Obj)) (s:Shared) (Z:St) (H:Hp) (xs:List V) (us:List Value) (Q:VK),Inv X pins Z H s->Vals xs us->r xs H Q->
  wpAny (model X.prog X.w) X.A (call f us) (EP X pins Z Q) X.xe s
def tOp (r:R2) (ta tb:TE):TE:=λZ H Q=>ta Z H λx H1=>tb Z H1 λy H2=>r x y H2 Q
def rI (C:Int->Int->Prop) (g:Int->Int->V):R2:=λx y H Q=>∃i j,x = .int i/\y = .int j/\C i j/\Q (g i j) H
def rI0 (g:Int->Int->V):R2:=λx y H Q=>∃i j,x = .int i/\y = .int j/\Q (g i j) H
section
variable {X:Cx} {a b c:Expr} {ta tb tc:TE} {pos:Pos}
theorem Q5 (ha:PE X a ta) (hb:PE X b tb) {pins:List (Addr×Obj)} {s:Shared} {Z:St} {H:Hp} {R:V->V->Hp->Prop} (I:Inv X pins Z H s)
 (h:ta Z H λx H1=>tb Z H1 λy H2=>R x y H2) {Q:Value->Shared->Prop} {f:Value->Value->Sem Value}
 (hf:∀v u s2 x y H2,Inv X pins Z H2 s2->RelV x v->RelV y u->R x y H2->wpAny (model X.prog X.w) X.A (f v u) Q X.xe s2) :
 wpAny (model X.prog X.w) X.A (eval a X.env) (λv s₁=>wpAny (model X.prog X.w) X.A (eval b X.env) (λu s₂=>wpAny (model X.prog X.w) X.A (f v u) Q X.xe s₂) X.xe s₁) X.xe s:=by
 refine thn (ha pins s Z H _ I h) λv s1 ⟨x,H1,I1,r1,q1⟩=>?_
 refine thn (hb pins s1 Z H1 _ I1 q1) λu s2 ⟨y,H2,I2,r2,q2⟩=>?_
 exact hf v u s2 x y H2 I2 r1 r2 q2
theorem OV {op:Operator} {r:R2} (ho:OpR X (binaryOp op) r) (ha:PE X a ta) (hb:PE X b tb):PE X (.BinOp a op b pos) (tOp r ta tb):=by
 intro pins s Z H Q I h
 exact wpAny_BinOp (Q5 ha hb I h λv u s2 x y H2 I2 rx ry q=>ho pins s2 Z H2 x y v u Q I2 rx ry q)
theorem opI {f:Value->Value->Sem Value} {C:Int->Int->Prop} {g:Int->Int->Int}
 (rule:∀(i j:Int) (t u:Tok) (s:Shared) (Q:Value->Shared->Prop) (E:Value->Shared->Prop),C i j->Q (.int (g i j) s.toks) { s with toks:=s.toks + 1 }->wpAny (model X.prog X.w) X.A (f (.int i t) (.int j u)) Q E s) :
 OpR X f (rI C λi j=>.int (g i j)):=by
 intro pins s Z H x y v u Q I rx ry h
 obtain ⟨i,j,rfl,rfl,hc,q⟩:=h
 obtain ⟨t,rfl⟩:=rx
 obtain ⟨t',rfl⟩:=ry
 exact rule i j t t' s _ _ hc ⟨.int (g i j),H,I.tok _,⟨_,rfl⟩,q⟩
theorem Vt {f:Value->Value->Sem Value} {g:Int->Int->Int}
 (rule:∀(i j:Int) (t u:Tok) (s:Shared) (Q:Value->Shared->Prop) (E:Value->Shared->Prop),Q (.int (g i j) s.toks) { s with toks:=s.toks + 1 }->wpAny (model X.prog X.w) X.A (f (.int i t) (.int j u)) Q E s) :
 OpR X f (rI0 λi j=>.int (g i j)):=by
 intro pins s Z H x y v u Q I rx ry h
 obtain ⟨i,j,rfl,rfl,q⟩:=h
 obtain ⟨t,rfl⟩:=rx
 obtain ⟨t',rfl⟩:=ry
 exact rule i j t t' s _ _ ⟨.int (g i j),H,I.tok _,⟨_,rfl⟩,q⟩
theorem OU {f:Value->Value->Sem Value} {g:Int->Int->Bool}
 (rule:∀(i j:Int) (t u:Tok) (s:Shared) (Q:Value->Shared->Prop) (E:Value->Shared->Prop),Q (.bool (g i j)) s->wpAny (model X.prog X.w) X.A (f (.int i t) (.int j u)) Q E s) :
 OpR X f (rI0 λi j=>.bl (g i j)):=by
 intro pins s Z H x y v u Q I rx ry h
 obtain ⟨i,j,rfl,rfl,q⟩:=h
 obtain ⟨t,rfl⟩:=rx
 obtain ⟨t',rfl⟩:=ry
 exact rule i j t t' s _ _ ⟨.bl (g i j),H,I,rfl,q⟩
def UU (i j:Int):Prop:=0 < j/\j < 1073741824
def UV (i j:Int):Prop:=0<=j/\j<=1000000/\i.natAbs < 2 ^ 64
def CMul (i j:Int):Prop:=(-(2 ^ 64) < i/\i < 2 ^ 64)\/(-(2 ^ 64) < j/\j < 2 ^ 64)
theorem CMul.ok {i j:Int} (h:CMul i j):IntMulOk i j:=by
 rcases h with ⟨h1,h2⟩ | ⟨h1,h2⟩
 ·exact .of_left (intBits_le_64 h1 h2)
 ·exact .of_right (intBits_le_64 h1 h2)
theorem two_pow_nn (k:Nat):(0:Int)<=2 ^ k:=by
 rw [two_pow_cast]
 exact Int.natCast_nonneg _
theorem op_add:OpR X (binaryOp .Add) (rI0 λi j=>.int (i + j)):=Vt λ_ _ _ _ _ _ _ q=>add_int q
theorem Cl:OpR X (binaryOp .Sub) (rI0 λi j=>.int (i - j)):=Vt λ_ _ _ _ _ _ _ q=>sub_int q
theorem op_mul:OpR X (binaryOp .Mult) (rI CMul λi j=>.int (i * j)):=opI λ_ _ _ _ _ _ _ hc q=>mul_int q hc.ok
theorem KG:OpR X (binaryOp .FloorDiv) (rI UU λi j=>.int (i / j)):=opI λi j _ _ _ _ _ hc q=>by
 have h1:(0:Int) < j:=hc.1
 have h2:j < 1073741824:=hc.2
 exact floordiv_int (by lia) (by rw [Int.fdiv_eq_ediv_of_nonneg i (by lia)];exact q) (.inl (PyProof.noPylong_small (by lia)))
theorem FO:OpR X (binaryOp .Mod) (rI (λ_ j=>0 < j) λi j=>.int (i % j)):=opI λi j _ _ _ _ _ hc q=>by
 have h1:(0:Int) < j:=hc
 exact mod_int' (by lia) (by rw [Int.fmod_eq_emod_of_nonneg i (by lia)];exact q)
theorem JR:OpR X (binaryOp .Pow) (rI UV λi j=>.int (i ^ j.toNat)):=opI λ_ _ _ _ _ _ _ hc q=>pow_int_small hc.1 hc.2.1 hc.2.2 q
theorem Vw:OpR X (binaryOp .RShift) (rI (λ_ j=>0<=j) λi j=>.int (i / 2 ^ j.toNat)):=opI λi j _ _ _ _ _ hc q=>
 rshift_int hc (by rw [Int.fdiv_eq_ediv_of_nonneg i (two_pow_nn _)];exact q)
end
section
variable {X:Cx} {a b c:Expr} {ta tb tc:TE} {pos:Pos}
theorem op_lt:OpR X (compareOp .Lt) (rI0 λi j=>.bl (decide (i < j))):=OU λ_ _ _ _ _ _ _ q=>lt_int q
theorem op_le:OpR X (compareOp .LtE) (rI0 λi j=>.bl (decide (i<=j))):=OU λ_ _ _ _ _ _ _ q=>le_int q
theorem op_gt:OpR X (compareOp .Gt) (rI0 λi j=>.bl (decide (j < i))):=OU λ_ _ _ _ _ _ _ q=>gt_int q
theorem op_ge:OpR X (compareOp .GtE) (rI0 λi j=>.bl (decide (j<=i))):=OU λ_ _ _ _ _ _ _ q=>ge_int q
theorem OpR.or {f:Value->Value->Sem Value} {r r':R2} (h:OpR X f r) (h':OpR X f r'):OpR X f (λx y H Q=>r x y H Q\/r' x y H Q):=by
 intro pins s Z H x y v u Q I rx ry q
 rcases q with q | q
 ·exact h pins s Z H x y v u Q I rx ry q
 ·exact h' pins s Z H x y v u Q I rx ry q
theorem AM (b:Expr) {op:CmpOp} (h:op≠.In:=by decide) (h2:op≠.NotIn:=by decide):behindInMarks op b=false:=by
 have e1:(op == CmpOp.In)=false:=by cases op <;> first | rfl | exact absurd rfl h
 have e2:(op == CmpOp.NotIn)=false:=by cases op <;> first | rfl | exact absurd rfl h2
 cases b <;> simp [behindInMarks,e1,e2]
theorem T7 {op:CmpOp} {r:R2} (ho:OpR X (compareOp op) r) (ha:PE X a ta) (hb:PE X b tb) (hm:behindInMarks op b=false):PE X (.Compare a [op] [b] pos) (tOp r ta tb):=by
 intro pins s Z H Q I h
 exact wpAny_Compare1 (Q5 ha hb I h λv u s2 x y H2 I2 rx ry q=>ho pins s2 Z H2 x y v u Q I2 rx ry q) hm
def W8 (t:TE):TT:=λZ H Q=>t Z H λx H'=>∃k,x = .bl k/\Q k H'
theorem Uj {op:CmpOp} {r:R2} (ho:OpR X (compareOp op) r) (ha:PE X a ta) (hb:PE X b tb) (hm:behindInMarks op b=false):PT X (.Compare a [op] [b] pos) (W8 (tOp r ta tb)):=by
 intro pins s Z H Q I h
 refine wpAny_isTrue_Compare1 (thn (ha pins s Z H _ I h) λv s1 ⟨x,H1,I1,r1,q1⟩=>thn (hb pins s1 Z H1 _ I1 q1) λu s2 ⟨y,H2,I2,r2,q2⟩=>
  thn (ho pins s2 Z H2 x y v u _ I2 r1 r2 q2) λc s3 ⟨z,H3,I3,r3,k,e,q3⟩=>?_) hm
 subst e
 cases r3
 exact wpAny_truthy_bool ⟨H3,I3,q3⟩
def QI (r r':R2) (ta tb tc:TE):TE:=λZ H Q=>ta Z H λx H1=>tb Z H1 λy H2=>r x y H2 λz H3=>∃k,z = .bl k/\
 (if k=true then tc Z H3 λw' H4=>r' y w' H4 Q else Q (.bl false) H3)
theorem RJ {op op':CmpOp} {r r':R2} (ho:OpR X (compareOp op) r) (ho':OpR X (compareOp op') r') (ha:PE X a ta) (hb:PE X b tb) (hc:PE X c tc)
 (hm:lastMarks [op,op'] [b,c]=false:=by with_unfolding_all rfl):PE X (.Compare a [op,op'] [b,c] pos) (QI r r' ta tb tc):=by
 intro pins s Z H Q I h
 refine Compare_chain (thn (ha pins s Z H _ I h) λv s1 ⟨x,H1,I1,r1,q1⟩=>chain_link (thn (hb pins s1 Z H1 _ I1 q1) λu s2 ⟨y,H2,I2,r2,q2⟩=>
  thn (ho pins s2 Z H2 x y v u _ I2 r1 r2 q2) λd s3 ⟨z,H3,I3,r3,k,e,q3⟩=>?_)) hm
 subst e
 cases r3
 refine wpAny_truthy_bool ?_
 cases k with
 | false=>exact ite_ff ⟨.bl false,H3,I3,rfl,q3⟩
 | true=>exact ite_tt (chain_last (thn (hc pins s3 Z H3 _ I3 q3) λw' s4 ⟨z',H4,I4,r4,q4⟩=>ho' pins s4 Z H4 y z' u w' Q I4 r2 r4 q4))
theorem JE:(sizeLine:Nat) < 2 ^ 63:=by rw [sizeLine_eq];decide
theorem op_add_str:OpR X (binaryOp .Add) (λx y H Q=>∃i j,x = .str i/\y = .str j/\i.length + j.length<=sizeLine/\Q (.str (i++j)) H):=by
 intro pins s Z H x y v u Q I rx ry h
 obtain ⟨i,j,rfl,rfl,hz,q⟩:=h
 obtain ⟨t,rfl⟩:=rx
 obtain ⟨t',rfl⟩:=ry
 exact add_str (λt' tk=>⟨.str (i++j),H,I.tok _,⟨_,rfl⟩,q⟩) hz
theorem Fp {x:V} {us:List Value} (r:Vals [x] us):∃u,us=[u]/\RelV x u:=by
 cases r with
 | cons r1 r2=>cases r2;exact ⟨_,rfl,r1⟩
theorem LP {x y:V} {us:List Value} (r:Vals [x,y] us):∃u w',us=[u,w']/\RelV x u/\RelV y w':=by
 cases r with
 | cons r1 r2=>
   cases r2 with
   | cons r3 r4=>cases r4;exact ⟨_,_,rfl,r1,r3⟩
theorem Pu (hc:X.calm=true):CN X (.builtin "max") (λxs H Q=>∃i j,xs=[.int i,.int j]/\Q (.int (if j > i then j else i)) H):=by
 intro pins s Z H xs us Q I r h
 obtain ⟨i,j,rfl,q⟩:=h
 obtain ⟨u,w',rfl,⟨t,rfl⟩,⟨t',rfl⟩⟩:=LP r
 refine max_two_ints (I.ok.hd hc) λh' tk k=>⟨_,H,I.kept k,?_,q⟩
 by_cases hj:j > i
 ·rw [if_pos hj,if_pos hj];exact ⟨_,rfl⟩
 ·rw [if_neg hj,if_neg hj];exact ⟨_,rfl⟩
theorem FW (hc:X.calm=true):CN X (.builtin "min") (λxs H Q=>∃i j,xs=[.int i,.int j]/\Q (.int (if j < i then j else i)) H):=by
 intro pins s Z H xs us Q I r h
 obtain ⟨i,j,rfl,q⟩:=h
 obtain ⟨u,w',rfl,⟨t,rfl⟩,⟨t',rfl⟩⟩:=LP r
 refine min_two_ints (I.ok.hd hc) λh' tk k=>⟨_,H,I.kept k,?_,q⟩
 by_cases hj:j < i
 ·rw [if_pos hj,if_pos hj];exact ⟨_,rfl⟩
 ·rw [if_neg hj,if_neg hj];exact ⟨_,rfl⟩
theorem Pt:CN X (.type "int") (λxs H Q=>(∃i,xs=[.int i]/\Q (.int i) H)\/∃k,xs=[.bl k]/\Q (.int (if k then 1 else 0)) H):=by
 intro pins s Z H xs us Q I r h
 rcases h with ⟨i,rfl,q⟩ | ⟨k,rfl,q⟩
 ·obtain ⟨u,rfl,t,rfl⟩:=Fp r
  exact call_int_int ⟨.int i,H,I,⟨_,rfl⟩,q⟩
 ·obtain ⟨u,rfl,r1⟩:=Fp r
  cases r1
  exact call_int_bool ⟨.int (if k then 1 else 0),H,I.tok _,⟨_,rfl⟩,q⟩
theorem Mq:CN X (.builtin "ord") (λxs H Q=>∃x,xs=[.str x]/\x.length=1/\Q (.int (x.cps.getD 0 0:Nat)) H):=by
 intro pins s Z H xs us Q I r h
 obtain ⟨x,rfl,hz,q⟩:=h
 obtain ⟨u,rfl,t,rfl⟩:=Fp r
 exact ord_of_one hz ⟨.int _,H,I.tok _,⟨_,rfl⟩,q⟩
def UY (K:PySem.W.Frag) (x:V) (H:Hp) (n:Nat):Prop:=
 match x with
 | .str y=>y.length<=sizeLine/\n=y.length
 | .byt y=>y.size<=sizeLine/\n=y.size
 | .ref p=>(∃xs,SqL K H p xs/\n=xs.length)\/∃xs,SqT K H p xs/\n=xs.length
 | _=>False
theorem BO:CN X (.builtin "len") (λxs H Q=>∃x n,xs=[x]/\UY X.K x H n/\Q (.int n) H):=by
 intro pins s Z H xs us Q I r h
 obtain ⟨x,n,rfl,e,q⟩:=h
 obtain ⟨u,rfl,rx⟩:=Fp r
 have hl:=JE
 have hs:sizeLine=16777216:=sizeLine_eq
 cases x with
 | str y=>
   obtain ⟨t,rfl⟩:=rx
   obtain ⟨hy,e'⟩:y.length<=sizeLine/\n=y.length:=e
   subst e'
   exact len_str (by lia) ⟨.int _,H,I.tok _,⟨_,rfl⟩,q⟩
 | byt y=>
   obtain ⟨t,rfl⟩:=rx
   obtain ⟨hy,e'⟩:y.size<=sizeLine/\n=y.size:=e
   subst e'
   exact PySem.W.len_bytes (by lia) ⟨.int _,H,I.tok _,⟨_,rfl⟩,q⟩
 | ref p=>
   cases rx
   have e':(∃xs,SqL X.K H p xs/\n=xs.length)\/∃xs,SqT X.K H p xs/\n=xs.length:=e
   rcases e' with ⟨xs,hx,e'⟩ | ⟨xs,hx,e'⟩
   ·subst e'
    obtain ⟨its,r',pl,hz⟩:=I.list hx
    have hlen:=r'.length
    exact Calls.call_len_list pl.isList (by simp only [List.size_toArray];lia) ⟨.int xs.length,H,I.tok _,⟨_,by simp only [List.size_toArray];rw [hlen]⟩,q⟩
   ·subst e'
    obtain ⟨its,r',pl,hz⟩:=I.tuple hx
    have hlen:=r'.length
    exact len_tuple pl (by simp only [List.size_toArray];lia) ⟨.int xs.length,H,I.tok _,⟨_,by simp only [List.size_toArray];rw [hlen]⟩,q⟩
 | _=>exact (show False from e).elim
end
structure ObjM (h:Heap) (x dx C:Addr) (mA:Str->Option Value):Prop where
 obj:h.get? x=some (PySem.W.instObj C dx)
 ns:h.Ns1 dx mA
 ne:dx≠x
theorem F0 {h:Heap} {dx:Addr} {mA:Str->Option Value} (n:h.Ns1 dx mA):∃od,h.get? dx=some od/\∀name,PySem.W.lookIn name od=some (mA name):=by
 obtain ⟨o,es,ep,ho,hd,hk,_,hm⟩:=n
 refine ⟨o,ho,λname=>?_⟩
 have e:=hm name
 unfold nsFind findBy at e
 rw [<-Array.find?_toList] at e
 unfold PySem.W.lookIn
 rw [hd]
 dsimp only
 split
 ·rename_i y q
  rw [q] at e
  exact congrArg some e
 ·rename_i q
  rw [q] at e
  have a:es.toList.any (·.refKey)=false:=by
   rw [List.any_eq_false]
   intro y hy
   obtain ⟨z,t,hkey⟩:=hk y (Array.mem_toList_iff.mp hy)
   simp [DictEntry.refKey,hkey]
  have a':¬es.toList.any (·.refKey)=true:=by rw [a];exact Bool.false_ne_true
  rw [if_neg a']
  exact congrArg some e
theorem ObjM.look {h:Heap} {x dx C:Addr} {mA:Str->Option Value} (I:ObjM h x dx C mA):∃od,PySem.W.InstAt h x (PySem.W.instObj C dx) C (some od)/\∀name,PySem.W.lookIn name od=some (mA name):=
 let ⟨od,ho,hl⟩:=F0 I.ns
 ⟨od,⟨I.obj,rfl,rfl,ho⟩,hl⟩
section
variable {prog:Program} {w:World} {A:Around} {E:Value->Shared->Prop} {s:Shared} {K:PySem.W.Frag} {x dx C f:Addr} {mA:Str->Option Value} {name:Str} {v:Value}
end
theorem RelO.some_of {v:V} {o:Option Value} (r:RelO (some v) o):∃u,o=some u/\RelV v u:=by
 cases o with
 | none=>exact (show False from r).elim
 | some u=>exact ⟨u,rfl,r⟩
theorem PR {v:V} {u:Value} (r:RelV v u):PySem.W.handedIn u=true:=by
 cases v with
 | non=>cases (show u=Value.none from r);rfl
 | bl b=>cases (show u=Value.bool b from r);rfl
 | int i=>obtain ⟨t,e⟩:=(show ∃t,u=Value.int i t from r);cases e;rfl
 | str x=>obtain ⟨t,e⟩:=(show ∃t,u=Value.str x t from r);cases e;rfl
 | byt b=>obtain ⟨t,e⟩:=(show ∃t,u=Value.bytes b t from r);cases e;rfl
 | flt b=>obtain ⟨t,e⟩:=(show ∃t,u=Value.float b t from r);cases e;rfl
 | ref a=>cases (show u=Value.ref a from r);rfl
 | ty n=>cases (show u=Value.type n from r);rfl
section
variable {P:Program} {w:World} {H H':Hp} {h h':Heap} {a C dx:Addr} {fs fs':List (Str×V)}
theorem Ty (hok:HOk P w H h) (e:H a=some (.ins C dx fs)):∃mA,ObjM h a dx C mA/\(∀f,RelO (fs.lookup f) (mA f))/\PySem.Within mA (fs.map (·.1))/\fs.length<=1000/\H dx=some (.own a):=by
 obtain ⟨d,z,ne,ob,mA,n,r,q⟩:=(show ObjOk P w H h a (.ins C dx fs) from hok a _ e)
 exact ⟨mA,⟨ob,n,ne⟩,r,q,z,d⟩
end
structure Cls (K:PySem.W.Frag) (C:Addr):Prop where
 pg:PySem.W.plainGet K C Str.empty=true
 hd:PySem.W.hasDictIn K C=true
 po:PySem.W.plainOver K C=true
 sa:PySem.W.findIn K (.ref C) "__setattr__" = some (some (.builtin "object.__setattr__"))
theorem Cls.get {K:PySem.W.Frag} {C:Addr} (c:Cls K C) (f:Str):PySem.W.plainGet K C f=true:=c.pg
structure Con (K:PySem.W.Frag) (C:Addr) (f:Str) (v:V) (u:Value):Prop where
 at_:PySem.W.findIn K (.ref C) f=some (some u)
 rel:RelV v u
 get:PySem.W.specialIn K u "__get__" = some none
 cp:PySem.W.copiedNames.contains f=false
structure Meth (K:PySem.W.Frag) (C:Addr) (m:Str) (f:Addr):Prop where
 at_:PySem.W.findIn K (.ref C) m=some (some (.ref f))
 fn:PySem.W.isFn K (.ref f)=true
 kp:PySem.W.keepIn K (.ref f)=true
section
variable {X:Cx} {pins:List (Addr×Obj)} {Z:St} {H:Hp} {s:Shared} {a C dx:Addr} {fs:List (Str×V)} {f:Str} {v:V} {A:Around} {E:Value->Shared->Prop}
theorem Td {prog:Program} {w:World} {env:Env} {e:Expr} {f:Str} {pos:Pos} {s:Shared} {Q:Value->Shared->Prop} (hb:attributeBase e f env (eval e env)=eval e env)
 (h:wpAny (model prog w) A (eval e env) (λo s₁=>wpAny (model prog w) A (getAttr o f true) Q E s₁) E s):wpAny (model prog w) A (eval (.Attribute e f pos) env) Q E s:=
 Attribute_any_ h (by rw [arm_eval_Attribute,hb])
end
section
variable {X:Cx} {o e value:Expr} {f:Str} {pos pos' tpos:Pos} {ta tv:TE}
end
section
variable {X:Cx} {pins:List (Addr×Obj)} {Z:St} {H:Hp} {s:Shared} {A:Around} {E:Value->Shared->Prop} {Q:Value->Shared->Prop} {c:Value} {b:Bool}
inductive TyOf (K:PySem.W.Frag) (H:Hp):V->Value->Prop where
 | non:TyOf K H .non (.type "NoneType")
 | bl (x:Bool):TyOf K H (.bl x) (.type "bool")
 | int (i:Int):TyOf K H (.int i) (.type "int")
 | str (x:Str):TyOf K H (.str x) (.type "str")
 | flt (x:UInt64):TyOf K H (.flt x) (.type "float")
 | lst {a:Addr} {xs:List V} (e:H a=some (.lst xs)):TyOf K H (.ref a) (.type "list")
 | frz {a:Addr} {o:Obj} {xs:List V} (e:H a=some (.frz o (.lst xs))):TyOf K H (.ref a) (.type "list")
 | tup {a:Addr} {xs:List V} (e:H a=some (.tup xs)):TyOf K H (.ref a) (.type "tuple")
 | dK {a:Addr} {kvs:List (Key×V)} (e:H a=some (.dK kvs)):TyOf K H (.ref a) (.type "dict")
 | dT {a:Addr} {kvs:List (List Key×V)} (e:H a=some (.dT kvs)):TyOf K H (.ref a) (.type "dict")
 | ins {a C dx:Addr} {fs:List (Str×V)} (e:H a=some (.ins C dx fs)) (cl:Cls K C) (ha:PySem.W.findIn K (.ref C) "__class__" = some (some (.builtin "object.__class__")))
    (hn:PySem.W.specialIn K (.builtin "object.__class__") "__get__" = some (some (.builtin "getset_descriptor.__get__"))) (htk:PySem.W.takesIn K (.builtin "object.__class__")=some true)
    (hm:PySem.W.mroIn K C (.type "object")=some true):TyOf K H (.ref a) (.ref C)
theorem La {x:V} {u t:Value} (I:Inv X pins Z H s) (rx:RelV x u) (ty:TyOf X.K H x t) (e:PySem.W.kitOne X.K t c=some b) (h:∀tk,Q (.bool b) { s with toks:=tk }) :
 wpAny (model X.prog X.w) A (call (.builtin "isinstance") [u,c]) Q E s:=by
 cases ty with
 | non=>cases (show u=Value.none from rx);exact PySem.W.kia_one PySem.W.kitx_none I.kIn True.intro e (λz=>nomatch z) h
 | bl y=>cases (show u=Value.bool y from rx);exact PySem.W.kia_one PySem.W.kitx_bool I.kIn True.intro e (λz=>nomatch z) h
 | int i=>obtain ⟨t,q⟩:=(show ∃t,u=Value.int i t from rx);cases q;exact PySem.W.kia_one PySem.W.kitx_int I.kIn True.intro e (λz=>nomatch z) h
 | str y=>obtain ⟨t,q⟩:=(show ∃t,u=Value.str y t from rx);cases q;exact PySem.W.kia_one PySem.W.kitx_str I.kIn True.intro e (λz=>nomatch z) h
 | flt y=>obtain ⟨t,q⟩:=(show ∃t,u=Value.float y t from rx);cases q;exact PySem.W.kia_one PySem.W.kitx_float I.kIn True.intro e (λz=>nomatch z) h
 | @lst a xs ea=>
   cases (show u=Value.ref a from rx)
   obtain ⟨_,_,n,_,h1⟩:=(show ObjOk X.prog X.w H s.heap a (.lst xs) from I.hok a _ ea)
   exact PySem.W.kia_one PySem.W.kitx_list I.kIn ⟨_,h1,rfl⟩ e (λz=>nomatch z) h
 | @frz a ob xs ea=>
   cases (show u=Value.ref a from rx)
   obtain ⟨_,_,_,n,_,h1⟩:=(show ObjOk X.prog X.w H s.heap a (.frz ob (.lst xs)) from I.hok a _ ea)
   exact PySem.W.kia_one PySem.W.kitx_list I.kIn ⟨_,h1,rfl⟩ e (λz=>nomatch z) h
 | @tup a xs ea=>
   cases (show u=Value.ref a from rx)
   obtain ⟨_,_,_,p⟩:=(show ObjOk X.prog X.w H s.heap a (.tup xs) from I.hok a _ ea)
   obtain ⟨o,h1,h2,_⟩:=p
   exact PySem.W.kia_one PySem.W.kitx_tuple I.kIn ⟨o,h1,h2⟩ e (λz=>nomatch z) h
 | @dK a kvs ea=>
   cases (show u=Value.ref a from rx)
   obtain ⟨_,_,vs,_,p⟩:=(show ObjOk X.prog X.w H s.heap a (.dK kvs) from I.hok a _ ea)
   obtain ⟨o,es,ep,h1,h2,_⟩:=p
   exact PySem.W.kia_one PySem.W.kitx_dict I.kIn ⟨o,h1,h2.1⟩ e (λz=>nomatch z) h
 | @dT a kvs ea=>
   cases (show u=Value.ref a from rx)
   obtain ⟨_,_,xs,_,o,es,ep,h1,h2,_⟩:=(show ObjOk X.prog X.w H s.heap a (.dT kvs) from I.hok a _ ea)
   exact PySem.W.kia_one PySem.W.kitx_dict I.kIn ⟨o,h1,h2.1⟩ e (λz=>nomatch z) h
 | @ins a C dx fs ea cl ha hn htk hm=>
   cases (show u=Value.ref a from rx)
   obtain ⟨mA,O,_⟩:=Ty I.hok ea
   obtain ⟨od,J,_⟩:=O.look
   exact PySem.W.kia_one (PySem.W.kitx_own (cl.get _) cl.hd ha hn htk hm) I.kIn J e (λz=>nomatch z) h
end
structure Room (k:Nat) (A:Around):Prop where
 hd:A.handled=none
 dp:A.depth + 3 * k + 5 < recursionLimit
 un:A.units + 16 * k + 200 < cLine
theorem Room.mono {j k:Nat} {A:Around} (r:Room k A) (h:j<=k):Room j A:=⟨r.hd,by have:=r.dp;lia,by have:=r.un;lia⟩
theorem Room.deeper {k:Nat} {A:Around} (r:Room (k + 1) A) (env:Env):Room k (A.deeper env):=
 ⟨r.hd,by have:=r.dp;show A.depth + 1 + 3 * k + 5 < _;lia,by have:=r.un;show A.units + 3 + 16 * k + 200 < _;lia⟩
theorem OP {A:Around} {C:Addr} {us:List Value} {kw:List (Str×Value)}:(A.under (.builtin "type.__call__" ⟨.ref C :: us,kw⟩)).depth=A.depth + 1:=by
 first | rfl | simp [Around.under,Code.weight,Code.isCreation,Code.isGuard,Code.isCaller,Code.frames,Code.isFrame,guardIds]
theorem OQ {A:Around} {C:Addr} {us:List Value} {kw:List (Str×Value)}:(A.under (.builtin "type.__call__" ⟨.ref C :: us,kw⟩)).units=A.units + 1:=by
 first | rfl | simp [Around.under,Code.cUnits,Code.frames,Code.isFrame]
theorem Room.make {k:Nat} {A:Around} (r:Room (k + 1) A) (C:Addr) (us:List Value) (kw:List (Str×Value)):Room k (A.under (.builtin "type.__call__" ⟨.ref C :: us,kw⟩)):=
 ⟨r.hd,by have:=r.dp;rw [OP];lia,by have:=r.un;rw [OQ];lia⟩
theorem Room.depth {k:Nat} {A:Around} (r:Room k A):A.depth < recursionLimit:=by have:=r.dp;lia
theorem Room.units {k:Nat} {A:Around} (r:Room k A):A.units + 64 < cLine:=by have:=r.un;lia
def Wm:TA:=λ_ H Q=>Q [] H
def O7 (ta:TE) (tr:TA):TA:=λZ H Q=>ta Z H λx H1=>tr Z H1 λxs H2=>Q (x :: xs) H2
section
variable {X:Cx} {e:Expr} {es:List Expr} {te:TE} {t:TA} {pos:Pos}
theorem M6:PA X [] Wm:=λ_ _ _ _ H Q I h=>Calls.spliced_nil ⟨[],H,I,.nil,h⟩
theorem Gq (ha:PE X e te) (hr:PA X es t) (hs:starEach (e :: es) X.env=(false,eval e X.env) :: starEach es X.env:=by rfl):PA X (e :: es) (O7 te t):=by
 intro pos pins s Z H Q I h
 rw [hs]
 show wpAny _ _ (spliced ((false,eval e X.env) :: backTo pos (starEach es X.env))) _ _ s
 refine Calls.spliced_cons (thn (ha pins s Z H _ I h) λu s1 ⟨x,H1,I1,r1,q1⟩=>?_)
 exact thn (hr pos pins s1 Z H1 _ I1 q1) λus s2 ⟨xs,H2,I2,r2,q2⟩=>⟨x :: xs,H2,I2,.cons r1 r2,q2⟩
def Yy (t:TA):TE:=λZ H Q=>t Z H λxs H1=>xs.length<=sizeLine/\∀p,H1 p=none->Q (.ref p) (upd H1 p (.tup xs))
def Yu (t:TA):TE:=λZ H Q=>t Z H λxs H1=>xs.length<=sizeLine/\∀p,H1 p=none->Q (.ref p) (upd H1 p (.lst xs))
theorem VD {x1} (h:PA X es t):PE X (.Tuple es x1 pos) (Yy t):=by
 intro pins s Z H Q I hq
 refine wpAny_Tuple_spliced (thn (h pos pins s Z H _ I hq) λus s1 ⟨xs,H1,I1,r,z,q⟩=>⟨by rw [<-r.length];exact z,?_⟩)
 have hf:H1 s1.heap.objs.size=none:=I1.hok.fresh (Nat.le_refl _)
 refine ⟨.ref s1.heap.objs.size,upd H1 s1.heap.objs.size (.tup xs),I1.laid (t':=s1.toks) (λb u e=>Heap.get?_push_of_some _ e) (Nat.le_refl _) ?_,rfl,q _ hf⟩
 exact ⟨z,us,r,⟨_,Heap.get?_push_size _ rfl,rfl,_,rfl⟩⟩
theorem Vz (h:PA X es t):PE X (.List es pos) (Yu t):=by
 intro pins s Z H Q I hq
 refine wpAny_List_spliced (thn (h pos pins s Z H _ I hq) λus s1 ⟨xs,H1,I1,r,z,q⟩=>⟨by rw [<-r.length];exact z,?_⟩)
 have hf:H1 s1.heap.objs.size=none:=I1.hok.fresh (Nat.le_refl _)
 refine ⟨.ref s1.heap.objs.size,upd H1 s1.heap.objs.size (.lst xs),I1.laid (t':=s1.toks) (λb u e=>Heap.get?_push_of_some _ e) (Nat.le_refl _) ?_,rfl,q _ hf⟩
 exact ⟨z,us,0,r,Heap.get?_push_size _ rfl⟩
end
abbrev Sp:=List V->Hp->VK->XK->Prop
abbrev CXT:=List Env->Hp->Shared->XK->Value->Shared->Prop
structure Env0 (P:Program) (w:World) (K:PySem.W.Frag) (mg:Str->Option Value) (base:Heap) (A:Around) (outer:List Env) (s:Shared) (H:Hp):Prop where
 frames:A.frames=some outer
 mod:Mod K mg base
 bs:∀b o,base.get? b=some o->s.heap.get? b=some o/\H b=none
 bsz:base.objs.size<=s.heap.objs.size
 funs:s.heap.FunFrames base outer
 frf:∀b∈frs outer,H b=none
 hok:HOk P w H s.heap
 bare:AllBare s.gens
def CE (outer:List Env) (P:Program) (w:World) (H:Hp) (s:Shared) (Q:VK) (u:Value) (s':Shared):Prop:=
 ∃v H',s'.os=s.os/\AllBare s'.gens/\Un (frs outer) [] H H' s.heap s'.heap/\HOk P w H' s'.heap/\RelV v u/\Q v H'
def CR (CX:CXT) (outer:List Env) (P:Program) (w:World) (H:Hp) (s:Shared) (Q:VK) (E:XK) (r:Result) (s':Shared):Prop:=
 match r with
 | .ok (.ret u)=>CE outer P w H s Q u s'
 | .ok _=>False
 | .error e=>CX outer H s E e s'
structure FnOk (P:Program) (w:World) (K:PySem.W.Frag) (mg:Str->Option Value) (base:Heap) (CX:CXT) (k:Nat) (f:Addr) (fd:FuncData) (ps:List Str) (sp:Sp):Prop where
 len:∀vs H Q E,sp vs H Q E->vs.length=ps.length
 run:∀(A:Around) (outer:List Env) (s:Shared) (H:Hp) (args:Args) (us:List Value) (vs:List V) (Q:VK) (E:XK),Room k A->Env0 P w K mg base A outer s H->BindsTo s fd args (ps.zip us)->Vals vs us->sp vs H Q E->
  codeAny (model P w) A (.call (.ref f) args) (CR CX outer P w H s Q E) s
theorem Env0.make {P:Program} {w:World} {K:PySem.W.Frag} {mg:Str->Option Value} {base:Heap} {A:Around} {outer:List Env} {s:Shared} {H:Hp} (e:Env0 P w K mg base A outer s H) (C:Addr) (us:List Value) (kw:List (Str×Value)) :
 Env0 P w K mg base (A.under (.builtin "type.__call__" ⟨.ref C :: us,kw⟩)) outer s H:=⟨by first | exact e.frames | (simpa [Around.under,Code.envs,Code.isFrame,pushEnvs] using e.frames),e.mod,e.bs,e.bsz,e.funs,e.frf,e.hok,e.bare⟩
section
variable {X:Cx} {pins:List (Addr×Obj)} {Z:St} {H:Hp} {s s':Shared}
theorem Inv.env0 (I:Inv X pins Z H s):Env0 X.prog X.w X.K X.mg X.base X.A X.stack s H:=
 ⟨I.ok.frames,I.ok.mod,I.bs,Nat.le_trans I.ok.bsz I.sz,I.stack,I.stkFree,I.hok,I.bare⟩
theorem Inv.after {Q:VK} {u:Value} (I:Inv X pins Z H s) (h:CE X.stack X.prog X.w H s Q u s'):EP X pins Z Q u s':=by
 obtain ⟨v,H',os,bare,un,hok,r,q⟩:=h
 obtain ⟨hh,g,d,t,os'⟩:=s'
 obtain rfl:os'=s.os:=os
 exact ⟨v,H',I.call (h':=hh) (g':=g) (d':=d) (t':=t) (ch:=[]) un hok bare (λb z=>absurd z (by simp)),r,q⟩
end
def W3 (sp:Sp) (dvs:List V) (E:XK) (t:TA):TE:=λZ H Q=>t Z H λvs H1=>sp (vs++dvs) H1 Q E
def Binds (K:PySem.W.Frag) (fd:FuncData) (ps:List Str) (ds:List Value):Prop:=
 ∀(s:Shared) (us:List Value),K.In s.heap->(us++ds).length=ps.length->BindsTo s fd ⟨us,[]⟩ (ps.zip (us++ds))
theorem Binds.all {K:PySem.W.Frag} {fd:FuncData} {ps:List Str} (h:∀us:List Value,us.length=ps.length->bindArgs fd ⟨us,[]⟩=pure (ps.zip us)):Binds K fd ps []:=λs us _ hl=>by
 rw [List.append_nil] at hl ⊢
 exact .of_eq (h us hl)
def L5 (CX:CXT) (X:Cx) (E:XK):Prop:=∀(pins:List (Addr×Obj)) (Z:St) (H:Hp) (s:Shared) (e:Value) (s':Shared),Inv X pins Z H s->CX X.stack H s E e s'->X.xe e s'
section
variable {X:Cx} {CX:CXT} {k:Nat} {f C:Addr} {fd:FuncData} {ps:List Str} {sp:Sp} {dvs:List V} {ds:List Value} {E:XK} {x m:Str} {p pos apos:Pos} {e o:Expr} {es:List Expr} {ta:TE} {t:TA}
theorem V9 {pins:List (Addr×Obj)} {Z:St} {H:Hp} {s:Shared} {Q:VK} {us:List Value} {vs:List V} (F:FnOk X.prog X.w X.K X.mg X.base CX k f fd ps sp) (hr:Room k X.A) (hb:Binds X.K fd ps ds) (hd:Vals dvs ds) (hx:L5 CX X E)
 (I:Inv X pins Z H s) (r:Vals vs us) (h:sp (vs++dvs) H Q E):wpAny (model X.prog X.w) X.A (call (.ref f) us) (EP X pins Z Q) X.xe s:=by
 have r2:Vals (vs++dvs) (us++ds):=r.append hd
 have hl:(us++ds).length=ps.length:=by rw [<-r2.length];exact F.len _ _ _ _ h
 refine wpAny_call (codeAny_mono (F.run X.A X.stack s H ⟨us,[]⟩ (us++ds) (vs++dvs) Q E hr I.env0 (hb s us I.kIn hl) r2 h) λr s' hq=>?_)
 cases r with
 | error e=>exact hx pins Z H s e s' I hq
 | ok fl=>
   cases fl with
   | ret u=>exact I.after hq
   | next=>exact False.elim hq
   | brk=>exact False.elim hq
   | cont=>exact False.elim hq
theorem N7 (F:FnOk X.prog X.w X.K X.mg X.base CX k f fd ps sp) (hr:Room k X.A) (hg:Gl X x) (hm:X.mg x=some (.ref f)) (hk:PySem.W.keepIn X.K (.ref f)=true) (hb:Binds X.K fd ps ds) (hd:Vals dvs ds) (hx:L5 CX X E)
 (ha:PA X (e :: es) t) (hdb:(x == ("__debug__" : Str))=false:=by decide) (he:starEach (e :: es) X.env=(false,eval e X.env) :: starEach es X.env:=by rfl) (hpl:(backTo pos (starEach es X.env)).any (·.1)=false:=by rfl) :
 PE X (.Call (.Name x p) (e :: es) [] pos) (W3 sp dvs E t):=by
 intro pins s Z H Q I h
 refine wpAny_Call_Name_kw (DO I hg hm ?_ hdb)
 refine PySem.W.callWith_K (h₀:=X.base) I.ok.mod.kin hk (thn (ha pos pins s Z H _ I h) λus s1 ⟨vs,H1,I1,r,q⟩=>⟨I1.kIn,?_⟩) he hpl
 exact V9 F hr hb hd hx I1 r q
structure Mk (K:PySem.W.Frag) (C f:Addr):Prop where
 makes:PySem.W.makesIn K C=true
 init:PySem.W.findIn K (.ref C) "__init__" = some (some (.ref f))
 fn:PySem.W.isFn K (.ref f)=true
 kp:PySem.W.keepIn K (.ref C)=true
end
section
variable {X:Cx} {CX:CXT} {k:Nat} {f C:Addr} {fd:FuncData} {ps ks:List Str} {sp:Sp} {E:XK} {x m:Str} {p pos apos kpos:Pos} {e o:Expr} {es:List Expr} {kws:List Keyword} {te ta:TE} {t tk:TA} {nm:Option Str}
structure KBinds (K:PySem.W.Frag) (fd:FuncData) (ps ks:List Str) (g:List Value->List Value->List Value) (gV:List V->List V->List V):Prop where
 to:∀(s:Shared) (us ws:List Value),K.In s.heap->(g us ws).length=ps.length->BindsTo s fd ⟨us,ks.zip ws⟩ (ps.zip (g us ws))
 rel:∀{vs:List V} {us:List Value} {zs:List V} {ws:List Value},Vals vs us->Vals zs ws->Vals (gV vs zs) (g us ws)
variable {g:List Value->List Value->List Value} {gV:List V->List V->List V}
end
structure FnScope (N P:List Str) (sc:Scope):Prop where
 kind:sc.kind = .function
 co:sc.isCoroutine=false
 gen:sc.isGenerator=false
 nd:N.Nodup
 pre:N.take P.length=P
 par:∀x∈P,sc.names.lookup x=some .local\/sc.names.lookup x=some .cell
 nofree:∀y∈sc.names,y.2≠.free
theorem K0 {kindOf:Str->Option NameKind} {x:Str}:∀{binds:List (Str×Value)} {m:Str->Option Value},(∀v,(x,v)∉binds)->bindL kindOf binds m x=m x
 | [],_,_=>rfl
 | (n,v) :: r,m,h=>by
   unfold bindL
   rw [K0 λw hw=>h w (List.mem_cons_of_mem _ hw)]
   split
   ·have:x≠n:=by rintro rfl;exact h v List.mem_cons_self
    simp [this]
   ·rfl
theorem KY {kindOf:Str->Option NameKind} {x:Str}:∀{binds:List (Str×Value)} {m:Str->Option Value},(∀v,(x,v)∉binds)->bindC kindOf binds m x=m x
 | [],_,_=>rfl
 | (n,v) :: r,m,h=>by
   unfold bindC
   rw [KY λw hw=>h w (List.mem_cons_of_mem _ hw)]
   split
   ·rfl
   ·have:x≠n:=by rintro rfl;exact h v List.mem_cons_self
    simp [this]
theorem KZ {kindOf:Str->Option NameKind} {x:Str} {v:Value}:∀{P:List Str} {vs:List Value} {i:Nat} {m:Str->Option Value},P.Nodup->P[i]?=some x->vs[i]?=some v->kindOf x=some .local->
 bindL kindOf (P.zip vs) m x=some v
 | [],_,_,_,_,h,_,_=>by simp at h
 | _ :: _,[],_,_,_,_,h,_=>by simp at h
 | p :: P,w :: vs,0,m,nd,h1,h2,hk=>by
   simp at h1 h2;subst h1;subst h2
   show bindL kindOf ((p,w) :: P.zip vs) m p=_
   unfold bindL
   rw [K0 λv hv=>(List.nodup_cons.mp nd).1 (List.of_mem_zip hv).1,if_pos hk]
   simp
 | p :: P,w :: vs,i + 1,m,nd,h1,h2,hk=>by
   show bindL kindOf ((p,w) :: P.zip vs) m x=_
   unfold bindL
   exact KZ (i:=i) (List.nodup_cons.mp nd).2 (by simpa using h1) (by simpa using h2) hk
theorem KW {kindOf:Str->Option NameKind} {x:Str} {v:Value}:∀{P:List Str} {vs:List Value} {i:Nat} {m:Str->Option Value},P.Nodup->P[i]?=some x->vs[i]?=some v->kindOf x≠some .local->
 bindC kindOf (P.zip vs) m x=some v
 | [],_,_,_,_,h,_,_=>by simp at h
 | _ :: _,[],_,_,_,_,h,_=>by simp at h
 | p :: P,w :: vs,0,m,nd,h1,h2,hk=>by
   simp at h1 h2;subst h1;subst h2
   show bindC kindOf ((p,w) :: P.zip vs) m p=_
   unfold bindC
   rw [KY λv hv=>(List.nodup_cons.mp nd).1 (List.of_mem_zip hv).1,if_neg hk]
   simp
 | p :: P,w :: vs,i + 1,m,nd,h1,h2,hk=>by
   show bindC kindOf ((p,w) :: P.zip vs) m x=_
   unfold bindC
   exact KW (i:=i) (List.nodup_cons.mp nd).2 (by simpa using h1) (by simpa using h2) hk
noncomputable def C8 (N:List Str) (vs:List V):St:=vs.map some++List.replicate (N.length - vs.length) none
noncomputable def DH (CX:CXT) (P:Program) (w:World) (K:PySem.W.Frag) (mg:Str->Option Value) (base:Heap) (N:List Str) (qual:Str) (scope:Scope) (f:Addr) (cd:Value) (A:Around) (outer:List Env) (s:Shared) (H:Hp) (E:XK):Cx where
 prog:=P
 w:=w
 K:=K
 mg:=mg
 base:=base
 A:=A.deeper (envOfC qual scope s.heap.objs.size f cd)
 N:=N
 s₀:=s
 H₀:=H
 env:=envOfC qual scope s.heap.objs.size f cd
 outer:=outer
 stack:=envOfC qual scope s.heap.objs.size f cd :: outer
 ex:=[]
 calm:=true
 fn:=λ_=>true
 pn:=[]
 xe:=λe s'=>wpAny (model P w) (A.deeper (envOfC qual scope s.heap.objs.size f cd)) (leaving (envOfC qual scope s.heap.objs.size f cd) e) (λ_ s''=>CX outer H s E e s'') (λe' s''=>CX outer H s E e' s'') s'
theorem Ms {sc:Scope} {n:Nat} {x:Str} (h:sc.names.lookup x=some .cell):∃c,(cellsFrom n sc.names []).lookup x=some c:=by
 have q:=PySem.W.cellsFrom_some sc.names n [] (.inl h)
 exact Option.isSome_iff_exists.mp q
theorem K9 {CX:CXT} {P:Program} {w:World} {K:PySem.W.Frag} {mg:Str->Option Value} {base:Heap} {N ps:List Str} {qual:Str} {scope:Scope} {f:Addr} {cd:Value} {A:Around} {outer:List Env} {s s1:Shared} {H:Hp} {E:XK} {us:List Value} {vs:List V}
 (S:FnScope N ps scope) (hd:A.handled=none) (e0:Env0 P w K mg base A outer s H) (hl:vs.length=ps.length) (r:Vals vs us)
 (x:InCallC s s.heap.objs.size (bindL (envOfC qual scope s.heap.objs.size f cd).kindOf (ps.zip us) λ_=>none) (cellsFrom (s.heap.objs.size + 1) scope.names []) (bindC (envOfC qual scope s.heap.objs.size f cd).kindOf (ps.zip us) λ_=>none) s1) :
 Inv (DH CX P w K mg base N qual scope f cd A outer s H E) [] (C8 N vs) H s1:=by
 have hpl:ps.length<=N.length:=by have:=congrArg List.length S.pre;rw [List.length_take] at this;lia
 obtain ⟨h1,tk,rfl,hk⟩:=x.done
 have noA:∀b:Addr,b∉(DH CX P w K mg base N qual scope f cd A outer s H E).ex:=λb z=>absurd (show b∈([]:List Addr) from z) (by simp)
 refine ⟨⟨e0.mod,S.kind,rfl,rfl,Nat.le_refl _,λy z c h1 h2=>?_,λy hy=>?_,λy c _ h=>?_,λ_=>hd,Around.frames_deeper e0.frames,.inr ⟨rfl,rfl⟩,λb z=>absurd z (noA b),e0.bs,e0.bsz,λb _ _=>noA b,λb z=>absurd z (noA b),e0.funs,e0.frf⟩,
  rfl,e0.bare,Un.kept hk,⟨_,x.toInCall.ns,λi y v h1 h2 h3=>?_⟩,λy c h=>⟨_,x.cell y c h⟩,e0.hok.fresh (Nat.le_refl _),λy c h=>?_,λp hp=>absurd (show p∈([]:List (Addr×Obj)) from hp) (by simp),e0.hok.kept hk,?_⟩
 ·exact name_of_addr x.apart (PySem.mem_of_lookup h1) (PySem.mem_of_lookup h2)
 ·have hy:scope.names.lookup y=some .cell\/scope.names.lookup y=some .free:=hy
  rcases hy with hy | hy
  ·exact Ms hy
  ·exact absurd rfl (S.nofree _ (PySem.mem_of_lookup hy))
 ·exact Nat.le_of_lt (x.above y c (PySem.mem_of_lookup h))
 ·have hi:i < vs.length:=by
   unfold C8 at h2
   by_cases hi:i < vs.length
   ·exact hi
   ·rw [List.getElem?_append_right (by simpa using hi)] at h2
    rw [List.getElem?_replicate] at h2
    split at h2 <;> cases h2
  have ha:vs[i]?=some v:=by
   unfold C8 at h2
   rw [List.getElem?_append_left (by simpa using hi),List.getElem?_map] at h2
   cases e:vs[i]? with
   | none=>rw [e] at h2;cases h2
   | some a=>rw [e] at h2;cases h2;rfl
  obtain ⟨u,hu,rv⟩:=r.get ha
  have hp:ps[i]?=some y:=by
   rw [<-S.pre,List.getElem?_take_of_lt (by lia)];exact h1
  have ndP:ps.Nodup:=by rw [<-S.pre];exact S.nd.sublist (List.take_sublist _ _)
  refine ⟨u,rv,?_⟩
  rcases S.par y (List.mem_of_getElem? hp) with k | k
  ·exact .inl ⟨k,KZ ndP hp hu k⟩
  ·obtain ⟨c,e⟩:=Ms (n:=s.heap.objs.size + 1) k
   refine .inr ⟨.inl k,c,e,?_⟩
   have q:=x.cell y c e
   rw [KW ndP hp hu (by show scope.names.lookup y≠_;rw [k];decide)] at q
   exact q
 ·exact e0.hok.fresh (Nat.le_of_lt (x.above y c (PySem.mem_of_lookup h)))
 ·unfold C8
  show _=N.length
  rw [List.length_append,List.length_map,List.length_replicate]
  lia
theorem SC {CX:CXT} {P:Program} {w:World} {K:PySem.W.Frag} {mg:Str->Option Value} {base:Heap} {k:Nat} {f:Addr} {name qual:Str} {params:Arguments} {body:List Stmt} {scope:Scope} {dV kV doc pm cdv ct oc:Value} {an od:Option Addr}
 {osl:Array (Option Value)} {N ps:List Str} {sp:Sp} (lk:K.lookup f=some ⟨oc,od,.func (PySem.W.fnOf name qual params body scope dV kV doc pm an cdv ct),osl⟩) (hcd:PySem.W.codeIn K cdv qual=true) (S:FnScope N ps scope)
 (len:∀vs H Q E,sp vs H Q E->vs.length=ps.length)
 (hbody:∀(A:Around) (outer:List Env) (s:Shared) (H:Hp) (vs:List V) (Q:VK) (E:XK),Room k (A.deeper (envOfC qual scope s.heap.objs.size f cdv))->sp vs H Q E->
   ∃t,PSs (DH CX P w K mg base N qual scope f cdv A outer s H E) body t/\t { nx:=λ_ H'=>Q .non H',rt:=Q } (C8 N vs) H) :
 FnOk P w K mg base CX (k + 1) f (PySem.W.fnOf name qual params body scope dV kV doc pm an cdv ct) ps sp:=by
 refine ⟨len,λA outer s H args us vs Q E hr e0 hb r hsp=>?_⟩
 have hl:=len _ _ _ _ hsp
 have KX:K.In s.heap:=e0.mod.kin.keeps λb o e=>(e0.bs b o e).1
 have lim:s.heap.NoLimit:=e0.mod.nolimit.keeps λb o e=>(e0.bs b o e).1
 have hkind:∀y∈ps.zip us,scope.names.lookup y.1=some .local\/(scope.names.lookup y.1=some .cell/\((cellsFrom (s.heap.objs.size + 1) scope.names []).lookup y.1).isSome=true):=λ⟨n,v⟩ hy=>by
  rcases S.par n (List.of_mem_zip hy).1 with q | q
  ·exact .inl q
  ·exact .inr ⟨q,PySem.W.cellsFrom_some _ _ _ (.inl q)⟩
 refine codeAny_call_function hr.depth (KX _ _ lk) rfl S.co S.gen rfl (PySem.W.codeRec_of KX hcd) (hb _ _ _ _ ?_)
 refine wpAny_newFunctionEnv_cells S.kind hkind λenv he s1 x=>?_
 subst he
 refine ⟨lim.keeps x.toInCall.keep,codeAny_func ?_⟩
 obtain ⟨t,ht,hq⟩:=hbody A outer s H vs Q E (hr.deeper _) hsp
 have I:Inv (DH CX P w K mg base N qual scope f cdv A outer s H E) [] (C8 N vs) H s1:=K9 S hr.hd e0 hl r x
 refine wpAny_mono (ht [] s1 (C8 N vs) H _ I hq) (λfl s' hs=>?_) λe s' hs=>hs
 have fin:∀{Z':St} {H':Hp} {v:V} {u:Value},Inv (DH CX P w K mg base N qual scope f cdv A outer s H E) [] Z' H' s'->RelV v u->Q v H'->CE outer P w H s Q u s':=
  λ{Z' H' v u} J rv q=>⟨v,H',J.os,J.bare,J.base,J.hok,rv,q⟩
 cases fl with
 | ret u=>
   obtain ⟨v,Z',H',J,rv,q⟩:=hs
   exact fin J rv q
 | next=>
   obtain ⟨Z',H',J,q⟩:=hs
   exact fin (v:=V.non) (u:=Value.none) J rfl q
 | brk=>
   obtain ⟨_,_,_,q⟩:=hs
   exact False.elim q
 | cont=>
   obtain ⟨_,_,_,q⟩:=hs
   exact False.elim q
section
variable {X:Cx} {x:Str} {p pos:Pos} {e:Expr} {es:List Expr} {t:TA} {id T:String} {r:List V->Hp->VK->Prop}
def tCB (r:List V->Hp->VK->Prop) (t:TA):TE:=λZ H Q=>t Z H λvs H1=>r vs H1 Q
theorem IO (hc:CN X (.builtin id) r) (hg:Gl X x) (hm:X.mg x=none) (hv:bootBuiltins x=some (.builtin id)) (ha:PA X (e :: es) t) (hn:x≠"__name__":=by decide) (hdb:(x == ("__debug__" : Str))=false:=by decide)
 (he:starEach (e :: es) X.env=(false,eval e X.env) :: starEach es X.env:=by rfl) (hpl:(backTo pos (starEach es X.env)).any (·.1)=false:=by rfl):PE X (.Call (.Name x p) (e :: es) [] pos) (tCB r t):=by
 intro pins s Z H Q I h
 refine wpAny_Call_Name_kw (Hl I hg hm hv ?_ hn hdb)
 exact PyProof.Rows.callWith_builtin1 (thn (ha pos pins s Z H _ I h) λus s1 ⟨vs,H1,I1,r1,q1⟩=>hc pins s1 Z H1 vs us Q I1 r1 q1) he hpl
theorem Hq (hc:CN X (.type T) r) (hg:Gl X x) (hm:X.mg x=none) (hv:bootBuiltins x=some (.type T)) (ha:PA X (e :: es) t) (hn:x≠"__name__":=by decide) (hdb:(x == ("__debug__" : Str))=false:=by decide)
 (he:starEach (e :: es) X.env=(false,eval e X.env) :: starEach es X.env:=by rfl) (hpl:(backTo pos (starEach es X.env)).any (·.1)=false:=by rfl):PE X (.Call (.Name x p) (e :: es) [] pos) (tCB r t):=by
 intro pins s Z H Q I h
 refine wpAny_Call_Name_kw (Hl I hg hm hv ?_ hn hdb)
 exact PyProof.Rows.callWith_type1 (thn (ha pos pins s Z H _ I h) λus s1 ⟨vs,H1,I1,r1,q1⟩=>hc pins s1 Z H1 vs us Q I1 r1 q1) he hpl
end
end L2
namespace HT
open PySem PyProof.Rows
section
open PySem.SeqAt
open PySem.AutoSeq1 (wpAny_loadPart')
open PySem.MeetsSeq PySem.MeetsSeq2 PySem.MeetsSeq3
end
section
variable {prog:Program} {w:World} {A:Around} {E:Value->Shared->Prop} {s:Shared}
theorem Tf {t b:Addr} {vs ws:List Value} {Q:Value->Shared->Prop} (ht:IsTup s.heap t vs.toArray) (hb:IsTup s.heap b ws.toArray) (hv:vs≠[])
 (h1:ws=[]->Q (.ref t) s) (h2:ws≠[]->Q (.ref s.heap.objs.size) { s with heap:=s.heap.push { cls:=.type "tuple",data:=.seq (vs++ws).toArray } })
 (hsz:vs.length + ws.length<=sizeLine):wpAny (model prog w) A (binaryOp .Add (.ref t) (.ref b)) Q E s:=by
 obtain ⟨⟨cls,dd,data,sl⟩,ho,hc,n,hd⟩:=id ht
 obtain ⟨⟨cls2,dd2,data2,sl2⟩,ho2,hc2,n2,hd2⟩:=id hb
 simp only at hc hd hc2 hd2
 subst hc hd hc2 hd2
 have e:vs.toArray++ws.toArray=(vs++ws).toArray:=by simp
 by_cases hw:ws=[]
 ·exact concat_meets ⟨_,ho,rfl⟩ ⟨_,ho2,rfl⟩ noFill_tuple_add seq_tuple_add PySem.F.slot_tuple_add PySem.F.entry_tuple_add (PySem.F.args_tuple_add_2 _ _)
   (tuple_addW1 t b vs.toArray ws.toArray n n2 dd dd2 sl sl2 (by simpa using hv) (by simp [hw])) ⟨ho,ho2,h1 hw⟩
 ·refine concat_meets ⟨_,ho,rfl⟩ ⟨_,ho2,rfl⟩ noFill_tuple_add seq_tuple_add PySem.F.slot_tuple_add PySem.F.entry_tuple_add (PySem.F.args_tuple_add_2 _ _)
   (tuple_addW2 t b vs.toArray ws.toArray n n2 dd dd2 sl sl2 (by simpa using hv) (by simpa using hw) (by rw [List.size_toArray,List.size_toArray];exact hsz)) ⟨ho,ho2,?_⟩
  rw [e]
  exact h2 hw
noncomputable def sIx (n d:Nat):Option Int->Nat
 | none=>d
 | some v=>if v < 0 then (v + (n:Int)).toNat else min v.toNat n
theorem Ni (n d:Nat):sIx n d none=d:=rfl
theorem Od (n d k:Nat):sIx n d (some (k:Int))=min k n:=by
 show (if (k:Int) < 0 then ((k:Int) + (n:Int)).toNat else min (k:Int).toNat n)=min k n
 rw [if_neg (by lia),Int.toNat_natCast]
theorem Wa (n d:Nat) (hd:d<=n) (o:Option Int):sIx n d o<=n:=by
 cases o with
 | none=>exact hd
 | some v=>
   show (if v < 0 then (v + (n:Int)).toNat else min v.toNat n)<=n
   by_cases hv:v < 0
   ·rw [if_pos hv];lia
   ·rw [if_neg hv];exact Nat.min_le_right _ _
theorem NU (v:Int) (n d:Nat):(if v < 0 then max (v + (n:Int)) 0 else min v (n:Int))=((sIx n d (some v):Nat):Int):=by
 show (if v < 0 then max (v + (n:Int)) 0 else min v (n:Int))=(((if v < 0 then (v + (n:Int)).toNat else min v.toNat n):Nat):Int)
 by_cases hv:v < 0
 ·simp only [if_pos hv];lia
 ·simp only [if_neg hv];lia
theorem Ox (lo hi:Option Int) (n:Nat):Builtin.Slice.sliceAdjust lo hi 1 (n:Int)=(((sIx n 0 lo:Nat):Int),((sIx n n hi:Nat):Int)):=by
 have h1:¬((1:Int) < 0):=by lia
 unfold Builtin.Slice.sliceAdjust
 simp only [h1,if_false]
 refine Prod.ext ?_ ?_
 ·cases lo with
  | none=>rfl
  | some v=>exact NU v n 0
 ·cases hi with
  | none=>rfl
  | some v=>exact NU v n n
theorem OW (i j:Nat):Builtin.Slice.slicePlaces (i:Int) (j:Int) 1=j - i:=by
 unfold Builtin.Slice.slicePlaces
 have h1:(1:Int) > 0:=by lia
 simp only [h1,if_true,Int.ediv_one]
 split <;> lia
theorem J2 {v:Value} {o:Option Int} {Q:Option Int->Shared->Prop} (p:IsPart v o) (h:Q o s):wpAny (model prog w) A (Builtin.Slice.slicePartIndex v) Q E s:=by
 cases p with
 | none=>exact slicePart_none h
 | int i t=>exact slicePart_int h
theorem FQ {sl:Addr} {vl vu:Value} {lo hi:Option Int} {n:Nat} {Q:Int×Int×Nat->Shared->Prop} (hs:s.heap.IsSliceOf sl vl vu .none) (pl:IsPart vl lo) (pu:IsPart vu hi)
 (h:Q (((sIx n 0 lo:Nat):Int),1,sIx n n hi - sIx n 0 lo) s):wpAny (model prog w) A (Builtin.Slice.sliceApplied (.ref sl) (pure (n:Int))) Q E s:=by
 obtain ⟨os,hos,hcs,hds⟩:=id hs
 unfold Builtin.Slice.sliceApplied Builtin.Slice.sliceFields
 refine wpAny_bind (wpAny_bind (wpAny_field hos hds (x:=vl) rfl (wpAny_bind (wpAny_field hos hds (x:=vu) rfl (wpAny_bind (wpAny_field hos hds (x:=.none) rfl (wpAny_pure ?_)))))))
 refine wpAny_bind (slicePart_none ?_)
 show wpAny _ _ (if ((1:Int) == 0)=true then _ else _) _ _ s
 rw [if_neg (by decide)]
 refine wpAny_bind (J2 pl (wpAny_bind (J2 pu (wpAny_bind (wpAny_pure ?_)))))
 show wpAny _ _ (match Builtin.Slice.sliceAdjust lo hi 1 (n:Int) with | (lo,hi)=>pure (lo,(1:Int),Builtin.Slice.slicePlaces lo hi 1)) _ _ s
 rw [Ox lo hi n]
 show wpAny _ _ (pure (((sIx n 0 lo:Nat):Int),(1:Int),Builtin.Slice.slicePlaces ((sIx n 0 lo:Nat):Int) ((sIx n n hi:Nat):Int) 1)) _ _ s
 rw [OW]
 exact wpAny_pure h
theorem RN (xs:Array Value) (i k:Nat):((List.range k).filterMap λ(m:Nat)=>xs[((i:Int) + (m:Int) * 1).toNat]?).toArray=((xs.toList.drop i).take k).toArray:=by
 have e:(λ(m:Nat)=>xs[((i:Int) + (m:Int) * 1).toNat]?)=λm=>xs[i + m]?:=by
  funext m
  have:((i:Int) + (m:Int) * 1).toNat=i + m:=by lia
  rw [this]
 rw [e]
 have:=pick_run xs i k
 rw [List.filterMap_map] at this
 have e2:((λx=>xs[x]?) ∘ λx=>i + x)=λm=>xs[i + m]?:=rfl
 rw [e2] at this
 rw [this]
theorem Ie {t sl:Addr} {items:Array Value} {vl vu:Value} {lo hi:Option Int} {Q:Value->Shared->Prop} (ht:IsTup s.heap t items) (hs:s.heap.IsSliceOf sl vl vu .none) (pl:IsPart vl lo) (pu:IsPart vu hi)
 (hw:¬(sIx items.size 0 lo=0/\sIx items.size items.size hi=items.size))
 (h:Q (.ref s.heap.objs.size) { s with heap:=s.heap.push { cls:=.type "tuple",data:=.seq ((items.toList.drop (sIx items.size 0 lo)).take (sIx items.size items.size hi - sIx items.size 0 lo)).toArray } })
 (hsz:items.size<=sizeLine):wpAny (model prog w) A (getItem (.ref t) (.ref sl)) Q E s:=by
 have htake:sizeOk (.seq ((items.toList.drop (sIx items.size 0 lo)).take (sIx items.size items.size hi - sIx items.size 0 lo)).toArray):=by
  show ((items.toList.drop (sIx items.size 0 lo)).take (sIx items.size items.size hi - sIx items.size 0 lo)).toArray.size<=sizeLine
  rw [List.size_toArray,List.length_take,List.length_drop,Array.length_toList]
  lia
 have hj:sIx items.size items.size hi<=items.size:=Wa _ _ (Nat.le_refl _) hi
 obtain ⟨os,hos,hcs,hds⟩:=id hs
 have hTs:s.TypeIs (.ref sl) "slice":=⟨os,hos,hcs⟩
 unfold getItem
 try with_reducible refine wpAny_holding ?_
 first | refine wpAny_bind (wpAny_pure ?_) | skip
 refine wpAny_bind (wpAny_sequenceKey ht.typeIs (by decide) ?_)
 refine wpAny_bind (wpAny_callSpecial?_slot (name:=Str.ofString "__getitem__") ht.typeIs PyProof.Rows.slot_tuple_getitem
  (wpAny_call_entry PyProof.Rows.slot_tuple_getitem ht.typeIs entry_tuple_getitem ?_ (args_tuple_getitem _ _)))
 show wpAny _ _ (Builtin.Tuple.tupleItemsOf (.ref t) >>= _) _ _ s
 refine wpAny_bind (tupleItemsOf_ ht ?_)
 refine wpAny_bind (wpAny_typeOf hTs ?_)
 rw [if_pos (by decide)]
 refine wpAny_bind (FQ hs pl pu ?_)
 have hno:¬((((sIx items.size 0 lo:Nat):Int) == 0 && (1:Int) == 1 && (sIx items.size items.size hi - sIx items.size 0 lo) == items.size)=true):=by
  intro q
  rw [Bool.and_eq_true,Bool.and_eq_true] at q
  have q1:((sIx items.size 0 lo:Nat):Int)=0:=eq_of_beq q.1.1
  have q2:sIx items.size items.size hi - sIx items.size 0 lo=items.size:=eq_of_beq q.2
  exact hw ⟨by lia,by lia⟩
 show wpAny _ _ (if (((sIx items.size 0 lo:Nat):Int) == 0 && (1:Int) == 1 && (sIx items.size items.size hi - sIx items.size 0 lo) == items.size)=true then _ else _) _ _ s
 rw [if_neg hno,RN]
 first
  | exact wpAny_bind (m:=Builtin.Tuple.tupleExact _) (wpAny_newObj_type (wpAny_pure ⟨_,rfl,wpAny_pure h⟩) htake)
  | exact wpAny_bind (m:=Builtin.Tuple.tupleExact _) (wpAny_newObj_type (wpAny_bind (wpAny_pure (wpAny_pure ⟨_,rfl,wpAny_pure h⟩))) htake)
  | exact wpAny_bind (wpAny_bind (m:=Builtin.Tuple.tupleExact _) (wpAny_newObj_type (wpAny_pure (wpAny_pure ⟨_,rfl,wpAny_pure h⟩)) htake))
  | exact wpAny_bind (wpAny_bind (m:=Builtin.Tuple.tupleExact _) (wpAny_newObj_type (wpAny_pure ⟨_,rfl,wpAny_pure h⟩) htake))
end
end HT
namespace L2
open PySem PySem.Spec PyProof.Rows
abbrev TO:=St->Hp->(Option Int->Hp->Prop)->Prop
def PO (X:Cx) (e:Option Expr) (t:TO):Prop:=
 ∀(pins:List (Addr×Obj)) (s:Shared) (Z:St) (H:Hp) (Q:Option Int->Hp->Prop),Inv X pins Z H s->t Z H Q->
  wpAny (model X.prog X.w) X.A (evalPart e X.env) (λu s'=>∃o H',Inv X pins Z H' s'/\IsPart u o/\Q o H') X.xe s
def UF:TO:=λ_ H Q=>Q none H
def W7 (t:TE):TO:=λZ H Q=>t Z H λx H1=>∃i,x = .int i/\Q (some i) H1
section
variable {X:Cx} {e:Expr} {te:TE} {lo hi:Option Expr} {tl th:TO} {pos p2:Pos}
theorem Uf:PO X none UF:=by
 intro pins s Z H Q I h
 rw [evalPart_none]
 exact wpAny_pure ⟨none,H,I,.none,h⟩
theorem Ug (h:PE X e te):PO X (some e) (W7 te):=by
 intro pins s Z H Q I hw
 rw [evalPart_some]
 refine thn (h pins s Z H _ I hw) λu s1 ⟨x,H1,I1,r1,q1⟩=>?_
 obtain ⟨i,rfl,q⟩:=q1
 obtain ⟨t,rfl⟩:=r1
 exact ⟨some i,H1,I1,.int i t,q⟩
def SlR (X:Cx) (r:V->Option Int->Option Int->Hp->VK->Prop):Prop:=
 ∀(pins:List (Addr×Obj)) (s:Shared) (Z:St) (H:Hp) (x:V) (v vl vu:Value) (lo hi:Option Int) (sl:Addr) (Q:VK),Inv X pins Z H s->RelV x v->s.heap.IsSliceOf sl vl vu .none->IsPart vl lo->IsPart vu hi->r x lo hi H Q->
  ∃T id,typeLookup (.type T) "__getitem__" = pure (some (.builtin id))/\s.TypeIs v T/\wpAny (model X.prog X.w) X.A (getItem v (.ref sl)) (EP X pins Z Q) X.xe s
theorem SlR.or {r r':V->Option Int->Option Int->Hp->VK->Prop} (h:SlR X r) (h':SlR X r'):SlR X (λx lo hi H Q=>r x lo hi H Q\/r' x lo hi H Q):=by
 intro pins s Z H x v vl vu lo hi sl Q I rx hs pl pu q
 rcases q with q | q
 ·exact h pins s Z H x v vl vu lo hi sl Q I rx hs pl pu q
 ·exact h' pins s Z H x v vl vu lo hi sl Q I rx hs pl pu q
def tSl (r:V->Option Int->Option Int->Hp->VK->Prop) (te:TE) (tl th:TO):TE:=λZ H Q=>te Z H λx H1=>tl Z H1 λl H2=>th Z H2 λu H3=>r x l u H3 Q
theorem RK {r:V->Option Int->Option Int->Hp->VK->Prop} (hr:SlR X r) (he:PE X e te) (hl:PO X lo tl) (hu:PO X hi th):PE X (.Subscript e (.Slice lo hi none p2) pos) (tSl r te tl th):=by
 intro pins s Z H Q I h
 refine Subscript_ (thn (he pins s Z H _ I h) λv s1 ⟨x,H1,I1,r1,q1⟩=>?_)
 refine wpAny_Slice (thn (hl pins s1 Z H1 _ I1 q1) λvl s2 ⟨l,H2,I2,pl,q2⟩=>thn (hu pins s2 Z H2 _ I2 q2) λvu s3 ⟨u,H3,I3,pu,q3⟩=>?_)
 rw [evalPart_none]
 refine wpAny_pure ?_
 have I4:Inv X pins Z H3 { s3 with heap:=s3.heap.push { cls:=.type "slice",data:=.fields #[vl,vu,.none] } }:=I3.kept (t':=s3.toks) λb ob q=>Heap.get?_push_of_some _ q
 obtain ⟨T,id,hT,ht,hg⟩:=hr pins { s3 with heap:=s3.heap.push { cls:=.type "slice",data:=.fields #[vl,vu,.none] } } Z H3 x v vl vu l u s3.heap.objs.size Q I4 r1 (Heap.IsSliceOf.new ..) pl pu q3
 show wpAny (model X.prog X.w) X.A (subscriptTail e (.Slice lo hi none p2) v (.ref s3.heap.objs.size)) (EP X pins Z Q) X.xe { s3 with heap:=s3.heap.push { cls:=.type "slice",data:=.fields #[vl,vu,.none] } }
 exact tail_any (ops:=[.ref s3.heap.objs.size,v]) ht hT hg (by with_unfolding_all rfl)
def GE (xs:List V) (lo hi:Option Int):List V:=(xs.drop (HT.sIx xs.length 0 lo)).take (HT.sIx xs.length xs.length hi - HT.sIx xs.length 0 lo)
theorem Ii (xs:List V) (lo hi:Option Int):(GE xs lo hi).length<=xs.length:=by
 unfold GE
 rw [List.length_take,List.length_drop]
 lia
def V4 (K:PySem.W.Frag):V->Option Int->Option Int->Hp->VK->Prop:=λx lo hi H Q=>∃a xs,x = .ref a/\SqT K H a xs/\
 ¬(HT.sIx xs.length 0 lo=0/\HT.sIx xs.length xs.length hi=xs.length)/\∀p,H p=none->Q (.ref p) (upd H p (.tup (GE xs lo hi)))
theorem We:SlR X (V4 X.K):=by
 intro pins s Z H x v vl vu lo hi sl Q I rx hs pl pu h
 obtain ⟨a,xs,rfl,hx,hw,q⟩:=h
 cases rx
 obtain ⟨its,r,ht,hz⟩:=I.tuple hx
 have hlen:its.toArray.size=xs.length:=by rw [List.size_toArray];exact r.length.symm
 refine ⟨"tuple",_,PyProof.Rows.slot_tuple_getitem.lookup,ht.typeIs,?_⟩
 refine HT.Ie ht hs pl pu (by rw [hlen];exact hw) ?_ (by rw [hlen];exact hz)
 rw [hlen]
 refine ⟨.ref s.heap.objs.size,_,I.laid (t':=s.toks) (o:=.tup (GE xs lo hi)) (λb ob q=>Heap.get?_push_of_some _ q) (Nat.le_refl _) ?_,rfl,q _ (I.hok.fresh (Nat.le_refl _))⟩
 exact ⟨Nat.le_trans (Ii xs lo hi) hz,_,(r.drop (HT.sIx xs.length 0 lo)).take (HT.sIx xs.length xs.length hi - HT.sIx xs.length 0 lo),IsTup.new _ _⟩
def SL (K:PySem.W.Frag):R2:=λx y H Q=>∃a b xs ys,x = .ref a/\y = .ref b/\SqT K H a xs/\SqT K H b ys/\xs≠[]/\xs.length + ys.length<=sizeLine/\
 (ys=[]->Q (.ref a) H)/\(ys≠[]->∀p,H p=none->Q (.ref p) (upd H p (.tup (xs++ys))))
theorem Vals.nil_iff {xs:List V} {us:List Value} (r:Vals xs us):us=[]↔xs=[]:=by
 cases r with
 | nil=>simp
 | cons _ _=>simp
theorem T2:OpR X (binaryOp .Add) (SL X.K):=by
 intro pins s Z H x y v u Q I rx ry h
 obtain ⟨a,b,xs,ys,rfl,rfl,ha,hb,hx,hz,q1,q2⟩:=h
 cases rx
 cases ry
 obtain ⟨its,r1,p1,_⟩:=I.tuple ha
 obtain ⟨its2,r2,p2,_⟩:=I.tuple hb
 refine HT.Tf p1 p2 (λz=>hx (r1.nil_iff.mp z)) (λz=>⟨.ref a,H,I,rfl,q1 (r2.nil_iff.mp z)⟩) (λz=>?_) (by rw [<-r1.length,<-r2.length];exact hz)
 refine ⟨.ref s.heap.objs.size,_,I.laid (t':=s.toks) (o:=.tup (xs++ys)) (λb ob q=>Heap.get?_push_of_some _ q) (Nat.le_refl _) ?_,rfl,q2 (λw=>z (r2.nil_iff.mpr w)) _ (I.hok.fresh (Nat.le_refl _))⟩
 exact ⟨by rw [List.length_append];exact hz,_,r1.append r2,IsTup.new _ _⟩
end
noncomputable def ixN (n:Nat) (i:Int):Option Nat:=if 0<=i then (if i < n then some i.toNat else none) else if -(n:Int)<=i then some (i + n).toNat else none
def atI {α:Type} (xs:List α) (i:Int):Option α:=(ixN xs.length i).bind λj=>xs[j]?
theorem Tz {n:Nat} {i:Int} {j:Nat} (h:ixN n i=some j):seqIndex? i n=some j/\j < n/\-(n:Int)<=i/\i < n:=by
 unfold ixN at h
 by_cases h0:0<=i
 ·rw [if_pos h0] at h
  by_cases h1:i < n
  ·rw [if_pos h1] at h
   have e:i.toNat=j:=Option.some.inj h
   exact ⟨by rw [seqIndex_of h0 h1,e],by lia,by lia,h1⟩
  ·rw [if_neg h1] at h;cases h
 ·rw [if_neg h0] at h
  by_cases h1 : -(n:Int)<=i
  ·rw [if_pos h1] at h
   have e:(i + n).toNat=j:=Option.some.inj h
   exact ⟨by rw [seqIndex_neg (by lia) h1,e],by lia,h1,by lia⟩
  ·rw [if_neg h1] at h;cases h
theorem Kj {α:Type} {xs:List α} {i:Int} {v:α} (h:atI xs i=some v):∃j,seqIndex? i xs.length=some j/\xs[j]?=some v/\j < xs.length/\-(xs.length:Int)<=i/\i < xs.length:=by
 unfold atI at h
 cases e:ixN xs.length i with
 | none=>rw [e] at h;cases h
 | some j=>
   rw [e] at h
   obtain ⟨h1,h2,h3,h4⟩:=Tz e
   exact ⟨j,h1,h,h2,h3,h4⟩
theorem Kk {α:Type} {xs:List α} {j:Nat} {v:α} (h:xs[j]?=some v):atI xs (j:Int)=some v:=by
 have hj:j < xs.length:=(List.getElem?_eq_some_iff.mp h).1
 have e:ixN xs.length (j:Int)=some j:=by
  unfold ixN
  rw [if_pos (by lia),if_pos (by lia)];simp
 unfold atI;rw [e];exact h
def NS (b:Expr):Prop:=∀o i,subscripted b false o i=operate [o,i] (getItem o i)
def IxR (X:Cx) (r:R2):Prop:=
 ∀(value slice:Expr) (pins:List (Addr×Obj)) (s:Shared) (Z:St) (H:Hp) (x y:V) (v u:Value) (Q:VK),Inv X pins Z H s->RelV x v->RelV y u->r x y H Q->
  subscripted slice false v u=operate [v,u] (getItem v u)->wpAny (model X.prog X.w) X.A (subscriptTail value slice v u) (EP X pins Z Q) X.xe s
def MtR (X:Cx) (id:String) (r:V->List V->Hp->VK->Prop):Prop:=
 ∀(pins:List (Addr×Obj)) (s:Shared) (Z:St) (H:Hp) (x:V) (xs:List V) (v:Value) (us:List Value) (Q:VK),Inv X pins Z H s->RelV x v->Vals xs us->r x xs H Q->
  wpAny (model X.prog X.w) X.A (call (.builtin id) (v :: us)) (EP X pins Z Q) X.xe s
section
variable {X:Cx} {a b:Expr} {ta tb:TE} {pos:Pos}
theorem IxR.or {r r':R2} (h:IxR X r) (h':IxR X r'):IxR X (λx y H Q=>r x y H Q\/r' x y H Q):=by
 intro value slice pins s Z H x y v u Q I rx ry q hs
 rcases q with q | q
 ·exact h value slice pins s Z H x y v u Q I rx ry q hs
 ·exact h' value slice pins s Z H x y v u Q I rx ry q hs
theorem WS {r:R2} (hr:IxR X r) (ha:PE X a ta) (hb:PE X b tb) (hs:NS b):PE X (.Subscript a b pos) (tOp r ta tb):=by
 intro pins s Z H Q I h
 exact Subscript_ (Q5 ha hb I h λv u s2 x y H2 I2 rx ry q=>hr a b pins s2 Z H2 x y v u Q I2 rx ry q (hs _ _))
def VX (K:PySem.W.Frag):R2:=λx y H Q=>∃p xs i v,x = .ref p/\y = .int i/\SqL K H p xs/\atI xs i=some v/\Q v H
def VZ (K:PySem.W.Frag):R2:=λx y H Q=>∃p xs i v,x = .ref p/\y = .int i/\SqT K H p xs/\atI xs i=some v/\Q v H
def VY:R2:=λx y H Q=>∃z i c,x = .str z/\y = .int i/\z.length<=sizeLine/\atI z.cps.toList i=some c/\Q (.str ⟨#[c]⟩) H
theorem ix_list:IxR X (VX X.K):=by
 intro value slice pins s Z H x y v u Q I rx ry h hs
 obtain ⟨p,xs,i,z,rfl,rfl,hq,he,q⟩:=h
 cases rx
 obtain ⟨t,rfl⟩:=ry
 obtain ⟨its,r,pl,hz⟩:=I.list hq
 obtain ⟨j,h1,h2,h3,h4,h5⟩:=Kj he
 obtain ⟨w,ew,rw'⟩:=r.get h2
 have hl:=r.length
 have hn:=JE
 have fin:EP X pins Z Q w s:=⟨z,H,I,rw',q⟩
 by_cases h0:0<=i
 ·have hj:i.toNat=j:=by
   rw [seqIndex_of h0 h5] at h1
   exact Option.some.inj h1
  exact item_listR pl.isList h0 (by lia) (by rw [hj];simpa using ew) fin hs
 ·have hj:(i + (its.toArray.size:Int)).toNat=j:=by
   rw [seqIndex_neg (by lia) h4] at h1
   rw [List.size_toArray,<-hl]
   exact Option.some.inj h1
  exact subscriptTail_builtinR (x:=w) pl.isList.typeIs slot_list_getitem.lookup
   (wpAny_getItem_list_neg (Q:=λr s'=>r=w/\EP X pins Z Q r s') pl.isList (by lia) (by rw [List.size_toArray] <;> lia) (by lia) (by rw [hj];simpa using ew) ⟨rfl,fin⟩) hs
theorem ix_tup:IxR X (VZ X.K):=by
 intro value slice pins s Z H x y v u Q I rx ry h hs
 obtain ⟨p,xs,i,z,rfl,rfl,hq,he,q⟩:=h
 cases rx
 obtain ⟨t,rfl⟩:=ry
 obtain ⟨its,r,pl,hz⟩:=I.tuple hq
 obtain ⟨j,h1,h2,h3,h4,h5⟩:=Kj he
 obtain ⟨w,ew,rw'⟩:=r.get h2
 have hl:=r.length
 have hn:=JE
 have fin:EP X pins Z Q w s:=⟨z,H,I,rw',q⟩
 exact subscriptTail_builtinR (x:=w) pl.typeIs slot_tuple_getitem.lookup
  (getItem_tuple (j:=j) (Q:=λr s'=>r=w/\EP X pins Z Q r s') pl (by lia) (by lia) (by rw [List.size_toArray,<-hl];exact h1) (by simpa using ew) ⟨rfl,fin⟩) hs
theorem Vg:IxR X VY:=by
 intro value slice pins s Z H x y v u Q I rx ry h hs
 obtain ⟨z,i,c,rfl,rfl,hz,he,q⟩:=h
 obtain ⟨t,rfl⟩:=rx
 obtain ⟨t',rfl⟩:=ry
 obtain ⟨j,h1,h2,h3,h4,h5⟩:=Kj he
 have hl:z.cps.toList.length=z.length:=by simp [Str.length]
 rw [hl] at h1 h4 h5
 have hn:=JE
 exact tail_any (typeIs_str s z t) slot_str_getitem.lookup (getItem_str (c:=c) (by
  have e1:decide (i < -(2 ^ 63:Int))=false:=decide_eq_false (by lia)
  have e2:decide (i ≥ 2 ^ 63)=false:=decide_eq_false (by lia)
  rw [e1,e2,Bool.or_false]) (by rw [h1];simpa using h2) ⟨.str ⟨#[c]⟩,H,I.tok _,⟨_,rfl⟩,q⟩) hs
def rIx (K:PySem.W.Frag):R2:=λx y H Q=>VX K x y H Q\/VZ K x y H Q\/VY x y H Q
theorem Al:IxR X (rIx X.K):=ix_list.or (ix_tup.or Vg)
theorem No (lo hi:Option Int) (n:Nat):(sliceBounds lo hi none n).1=((HT.sIx n 0 lo:Nat):Int)/\(sliceBounds lo hi none n).2.1=((HT.sIx n n hi:Nat):Int)/\(sliceBounds lo hi none n).2.2=1:=by
 refine ⟨?_,?_,rfl⟩
 ·cases lo with
  | none=>simp [sliceBounds,HT.sIx]
  | some i=>
    simp only [sliceBounds,HT.sIx,Option.getD_none,show (1:Int) > 0 by decide,if_true]
    by_cases h:i < 0
    ·simp only [h,if_true] <;> lia
    ·simp only [h,if_false] <;> lia
 ·cases hi with
  | none=>simp [sliceBounds,HT.sIx]
  | some i=>
    simp only [sliceBounds,HT.sIx,Option.getD_none,show (1:Int) > 0 by decide,if_true]
    by_cases h:i < 0
    ·simp only [h,if_true] <;> lia
    ·simp only [h,if_false] <;> lia
theorem LE (its:List Value) (lo hi:Option Int):slicePick its.toArray lo hi none=((its.drop (HT.sIx its.length 0 lo)).take (HT.sIx its.length its.length hi - HT.sIx its.length 0 lo)).toArray:=by
 obtain ⟨h1,h2,h3⟩:=No lo hi its.toArray.size
 unfold slicePick
 rw [h1,h2,h3]
 simp only [sliceRange_one,pick_run,List.size_toArray] <;> rfl
def V2 (K:PySem.W.Frag):V->Option Int->Option Int->Hp->VK->Prop:=λx lo hi H Q=>∃a xs,x = .ref a/\SqL K H a xs/\∀p,H p=none->Q (.ref p) (upd H p (.lst (GE xs lo hi)))
theorem sl_list:SlR X (V2 X.K):=by
 intro pins s Z H x v vl vu lo hi sl Q I rx hs pl pu h
 obtain ⟨a,xs,rfl,hx,q⟩:=h
 cases rx
 obtain ⟨its,r,ht,hz⟩:=I.list hx
 have hlen:=r.length
 refine ⟨"list",_,slot_list_getitem.lookup,ht.isList.typeIs,?_⟩
 refine wpAny_getItem_list_slice ht.isList hs pl pu .none (by simp) ?_ (by rw [List.size_toArray] <;> lia)
 rw [LE,<-hlen]
 refine ⟨.ref s.heap.objs.size,_,I.laid (t':=s.toks) (o:=.lst (GE xs lo hi)) (λb ob q=>Heap.get?_push_of_some _ q) (Nat.le_refl _) ?_,rfl,q _ (I.hok.fresh (Nat.le_refl _))⟩
 exact ⟨Nat.le_trans (Ii xs lo hi) hz,_,0,(r.drop (HT.sIx xs.length 0 lo)).take (HT.sIx xs.length xs.length hi - HT.sIx xs.length 0 lo),Heap.get?_push_size _ rfl⟩
noncomputable def Fl:V->Bool
 | .non=>true
 | .bl _=>true
 | .int _=>true
 | .str _=>true
 | _=>false
noncomputable def eqV:V->V->Bool
 | .non,.non=>true
 | .bl a,.bl b=>a == b
 | .bl a,.int b=>(if a then 1 else 0) == b
 | .int a,.bl b=>a == (if b then 1 else 0)
 | .int a,.int b=>a == b
 | .str a,.str b=>a == b
 | _,_=>false
theorem U8 {A:Around} {s:Shared} {y x:V} {u v:Value} (ry:RelV y u) (rx:RelV x v) (fy:Fl y=true) (fx:Fl x=true):SeqAt.EqAt A s u v (eqV y x):=by
 cases y with
 | non=>
   cases ry
   cases x with
   | non=>cases rx;exact SeqAt.EqAt.same _
   | bl b=>cases rx;exact SeqAt.EqAt.none_bool b
   | int b=>obtain ⟨t,rfl⟩:=rx;exact SeqAt.EqAt.none_int b t
   | str b=>obtain ⟨t,rfl⟩:=rx;exact SeqAt.EqAt.none_str b t
   | _=>exact absurd (show false=true from fx) Bool.false_ne_true
 | bl a=>
   cases ry
   cases x with
   | non=>cases rx;exact SeqAt.EqAt.bool_none a
   | bl b=>cases rx;exact SeqAt.EqAt.bool_bool a b
   | int b=>obtain ⟨t,rfl⟩:=rx;exact SeqAt.EqAt.bool_int a b t
   | str b=>obtain ⟨t,rfl⟩:=rx;exact SeqAt.EqAt.bool_str a b t
   | _=>exact absurd (show false=true from fx) Bool.false_ne_true
 | int a=>
   obtain ⟨t',rfl⟩:=ry
   cases x with
   | non=>cases rx;exact SeqAt.EqAt.int_none a t'
   | bl b=>cases rx;exact SeqAt.EqAt.int_bool a t' b
   | int b=>obtain ⟨t,rfl⟩:=rx;exact SeqAt.EqAt.int_int a t' b t
   | str b=>obtain ⟨t,rfl⟩:=rx;exact SeqAt.EqAt.int_str a t' b t
   | _=>exact absurd (show false=true from fx) Bool.false_ne_true
 | str a=>
   obtain ⟨t',rfl⟩:=ry
   cases x with
   | non=>cases rx;exact SeqAt.EqAt.str_none a t'
   | bl b=>cases rx;exact SeqAt.EqAt.str_bool a t' b
   | int b=>obtain ⟨t,rfl⟩:=rx;exact SeqAt.EqAt.str_int a t' b t
   | str b=>obtain ⟨t,rfl⟩:=rx;exact SeqAt.EqAt.str_str a t' b t
   | _=>exact absurd (show false=true from fx) Bool.false_ne_true
 | _=>exact absurd (show false=true from fy) Bool.false_ne_true
def eqU (x:V) (u:Value):Bool:=match u with
 | .none=>eqV .non x
 | .bool b=>eqV (.bl b) x
 | .int i _=>eqV (.int i) x
 | .str z _=>eqV (.str z) x
 | _=>false
theorem PB {x y:V} {u:Value} (r:RelV y u) (f:Fl y=true):eqU x u=eqV y x:=by
 cases y with
 | non=>cases r;rfl
 | bl b=>cases r;rfl
 | int i=>obtain ⟨t,rfl⟩:=r;rfl
 | str z=>obtain ⟨t,rfl⟩:=r;rfl
 | _=>exact absurd (show false=true from f) Bool.false_ne_true
theorem M0 {A:Around} {s:Shared} {x:V} {v:Value} (rx:RelV x v) (fx:Fl x=true):∀{xs:List V} {us:List Value},Vals xs us->xs.all Fl=true->∀u∈us,SeqAt.EqAt A s u v (eqU x u)
 | _,_,.nil,_=>λu hu=>by cases hu
 | y :: xs,u :: us,.cons r t,f=>λu' hu=>by
   rw [List.all_cons,Bool.and_eq_true] at f
   rcases List.mem_cons.mp hu with rfl | hu
   ·rw [PB r f.1];exact U8 r rx f.1 fx
   ·exact M0 rx fx t f.2 u' hu
theorem Ev:CN X (.type "list") (λxs H Q=>∃p ys,xs=[.ref p]/\(SqL X.K H p ys\/SqT X.K H p ys)/\∀l,H l=none->Q (.ref l) (upd H l (.lst ys))):=by
 intro pins s Z H xs us Q I r h
 obtain ⟨p,ys,rfl,hq,q⟩:=h
 obtain ⟨u,rfl,rx⟩:=Fp r
 cases rx
 have fin:∀(its:List Value),Vals ys its->ys.length<=sizeLine->∀(h':Heap) (c':Nat),(∀b o',s.heap.get? b=some o'->h'.get? b=some o')->
  h'.get? s.heap.objs.size=some { cls:=.type "list",dict:=none,data:=.seq its.toArray c',slots:=#[] }->EP X pins Z Q (.ref s.heap.objs.size) { s with heap:=h' }:=λits r' hz h' c' kp e=>
  ⟨.ref s.heap.objs.size,_,I.laid (t':=s.toks) kp (Nat.le_refl _) (show ObjOk X.prog X.w _ h' _ (.lst ys) from ⟨hz,its,c',r',e⟩),rfl,q _ (I.hok.fresh (Nat.le_refl _))⟩
 rcases hq with hq | hq
 ·obtain ⟨its,r',pl,hz⟩:=I.list hq
  have hlen:=r'.length
  obtain ⟨o,ho,hc,n,hd⟩:=pl.isList
  exact call_list_seq p (.inl rfl) ho hc hd (λh' c' kp e=>fin its r' hz h' c' kp e) (by simp only [List.size_toArray] <;> lia)
 ·obtain ⟨its,r',pl,hz⟩:=I.tuple hq
  have hlen:=r'.length
  obtain ⟨o,ho,hc,n,hd⟩:=pl
  exact call_list_seq p (.inr rfl) ho hc hd (λh' c' kp e=>fin its r' hz h' c' kp e) (by simp only [List.size_toArray] <;> lia)
theorem Ll:CN X (.type "tuple") (λxs H Q=>∃p ys,xs=[.ref p]/\((SqL X.K H p ys/\∀l,H l=none->Q (.ref l) (upd H l (.tup ys)))\/(SqT X.K H p ys/\Q (.ref p) H))):=by
 intro pins s Z H xs us Q I r h
 obtain ⟨p,ys,rfl,h⟩:=h
 obtain ⟨u,rfl,rx⟩:=Fp r
 cases rx
 rcases h with ⟨hq,q⟩ | ⟨hq,q⟩
 ·obtain ⟨its,r',pl,hz⟩:=I.list hq
  have hlen:=r'.length
  refine call_tuple_list pl.isList (λh' kp=>?_) (by simp only [List.size_toArray] <;> lia)
  have I1:Inv X pins Z H { s with heap:=h' }:=I.kept (t':=s.toks) kp
  have I2:Inv X pins Z (upd H h'.objs.size (.tup ys)) { s with heap:=h'.push { cls:=.type "tuple",data:=.seq its.toArray } }:=
   I1.laid (t':=s.toks) (λb o e=>Heap.get?_push_of_some _ e) (Nat.le_refl _) (show ObjOk X.prog X.w _ _ _ (.tup ys) from ⟨hz,its,r',IsTup.new _ _⟩)
  exact ⟨.ref h'.objs.size,_,I2,rfl,q _ (I1.hok.fresh (Nat.le_refl _))⟩
 ·obtain ⟨its,r',pl,hz⟩:=I.tuple hq
  exact call_tuple_same pl ⟨.ref p,H,I,rfl,q⟩
def tyV (K:PySem.W.Frag) (T:String) (x:V) (H:Hp):Prop:=match x with
 | .str _=>T = "str"
 | .int _=>T = "int"
 | .ref p=>(T = "list"/\∃xs,SqL K H p xs)\/(T = "tuple"/\∃o,K.lookup p=some o/\o.cls = .type "tuple"/\o.dict=none)\/
    (T = "dict"/\((∃kvs,H p=some (.dK kvs))\/∃kvs,H p=some (.dT kvs)))\/(T = "set"/\∃S n,H p=some (.set S n))
 | _=>False
theorem Wo {pins:List (Addr×Obj)} {Z:St} {H:Hp} {s:Shared} {T:String} {x:V} {v:Value} (I:Inv X pins Z H s) (r:RelV x v) (ty:tyV X.K T x H) :
 s.TypeIs v T/\∀a,v = .ref a->∃ob,s.heap.get? a=some ob/\ob.dict=none:=by
 cases x with
 | str z=>
   obtain ⟨t,rfl⟩:=r
   cases (show T = "str" from ty)
   exact ⟨typeIs_str s z t,λ_ e=>nomatch e⟩
 | int i=>
   obtain ⟨t,rfl⟩:=r
   cases (show T = "int" from ty)
   exact ⟨typeIs_int s i t,λ_ e=>nomatch e⟩
 | ref p=>
   cases r
   rcases ty with ⟨rfl,xs,hq⟩ | ⟨rfl,o,hk,hc,hd⟩ | ⟨rfl,hk⟩ | ⟨rfl,S,n,hk⟩
   ·obtain ⟨its,_,pl,_⟩:=I.list hq
    refine ⟨pl.isList.typeIs,λa e=>?_⟩
    cases e
    obtain ⟨o,n,e,c,hd,_⟩:=pl
    exact ⟨o,e,hd⟩
   ·refine ⟨⟨o,I.kIn p o hk,hc⟩,λa e=>?_⟩
    cases e
    exact ⟨o,I.kIn _ o hk,hd⟩
   ·have z:∃o,s.heap.get? p=some o/\o.ExactDict:=by
     rcases hk with ⟨kvs,hk⟩ | ⟨kvs,hk⟩
     ·obtain ⟨_,_,_,_,o,_,_,e,ex,_⟩:=I.hok p _ hk
      exact ⟨o,e,ex⟩
     ·obtain ⟨_,_,_,_,o,_,_,e,ex,_⟩:=I.hok p _ hk
      exact ⟨o,e,ex⟩
    obtain ⟨o,e,ex⟩:=z
    refine ⟨⟨o,e,ex.1⟩,λa e2=>?_⟩
    cases e2
    exact ⟨o,e,ex.2.1⟩
   ·obtain ⟨o,_,_,_,e,ex,_⟩:=I.hok p _ hk
    refine ⟨⟨o,e,ex.1⟩,λa e2=>?_⟩
    cases e2
    exact ⟨o,e,ex.2.1⟩
 | _=>exact False.elim ty
def tBM (K:PySem.W.Frag) (T:String) (r:V->List V->Hp->VK->Prop) (to:TE) (t:TA):TE:=λZ H Q=>to Z H λx H1=>tyV K T x H1/\t Z H1 λxs H2=>r x xs H2 Q
variable {o e:Expr} {es:List Expr} {to:TE} {t:TA} {name:Str} {apos cpos:Pos} {T id:String} {r:V->List V->Hp->VK->Prop}
theorem LM (pa:PlainAttrs T) (slot:Slot T name id) (hty:typeOf (.builtin id)=pure (.type "method_descriptor")) (hm:MtR X id r) (ho:PE X o to) (ha:PA X (e :: es) t)
 (hbase:attributeBase o name X.env (eval o X.env)=eval o X.env:=by rfl)
 (hfew:((backTo cpos (starEach (e :: es) X.env)).all (λx=>!x.1) && (backToKw cpos (keywordEach [] X.env)).all (λx=>x.1.isSome)
   && decide ((e :: es).length + ([]:List Keyword).length + (if ([]:List Keyword).isEmpty then 0 else 1) < 30))=true:=by rfl)
 (hline:(apos.endLine == cpos.line)=true:=by rfl) (hs:starEach (e :: es) X.env=(false,eval e X.env) :: starEach es X.env:=by rfl) (hplain:(backTo cpos (starEach es X.env)).any (·.1)=false:=by rfl) :
 PE X (.Call (.Attribute o name apos) (e :: es) [] cpos) (tBM X.K T r to t):=by
 intro pins s Z H Q I h
 refine wpAny_Call_method_late hbase hfew hline rfl (thn (ho pins s Z H _ I h) λv s1 ⟨x,H1,I1,r1,ty,q1⟩=>?_)
 obtain ⟨h1,h2⟩:=Wo I1 r1 ty
 refine ⟨T,id,pa,slot,hty,h1,h2,?_⟩
 have hA:=ha cpos pins s1 Z H1 _ I1 q1
 rw [hs] at hA ⊢
 refine Calls.callWith_builtin (by show (false || (backTo cpos (starEach es X.env)).any (·.1))=false;rw [hplain] <;> rfl) (Calls.evalArgs_plain ?_)
 exact thn hA λus s2 ⟨vs,H2,I2,r2,q2⟩=>hm pins s2 Z H2 x vs v us Q I2 r1 r2 q2
/- xs.append(e),list.index on a module's tuple .. are MtR facts of 06m -/
end
def MtM (X:Cx) (id:String) (r:V->List V->Hp->VK->Prop):Prop:=
 ∀(pins:List (Addr×Obj)) (s:Shared) (Z:St) (H:Hp) (x:V) (xs:List V) (v:Value) (us:List Value) (Q:VK),Inv X pins Z H s->RelV x v->Vals xs us->r x xs H Q->
  wpAny (model X.prog X.w) X.A (call (.builtin id) (v :: us)) (EP X pins Z Q) X.xe s
theorem Vals.one:∀{x:V} {us:List Value},Vals [x] us->∃u,us=[u]/\RelV x u
 | _,_,.cons r .nil=>⟨_,rfl,r⟩
theorem Vals.rep {xs:List V} {us:List Value} (h:Vals xs us):∀k:Nat,Vals (List.replicate k xs).flatten (List.replicate k us).flatten
 | 0=>.nil
 | k + 1=>by
   rw [List.replicate_succ,List.replicate_succ,List.flatten_cons,List.flatten_cons]
   exact Vals.append h (Vals.rep h k)
theorem Hh (its:List Value):∀(k:Nat) (acc:List Value),
 List.foldl (λx1 x2=>x1++x2) acc.toArray (List.replicate k its.toArray)=(acc++(List.replicate k its).flatten).toArray
 | 0,acc=>by simp
 | k + 1,acc=>by
   have e:acc.toArray++its.toArray=(acc++its).toArray:=by simp
   have e2:(acc++its)++(List.replicate k its).flatten=acc++(List.replicate (k + 1) its).flatten:=by
    rw [List.replicate_succ,List.flatten_cons,List.append_assoc]
   rw [<-e2,<-Hh its k (acc++its),<-e,List.replicate_succ,List.foldl_cons]
section
variable {X:Cx} {pins:List (Addr×Obj)} {Z:St} {H:Hp} {s:Shared} {l b:Addr} {xs ys zs:List V}
theorem Inv.lset {its its':List Value} {n:Nat} {f:Array Value->Array Value} {t':Nat} (I:Inv X pins Z H s) (hH:H l=some (.lst xs))
 (e:s.heap.get? l=some { cls:=.type "list",data:=.seq its.toArray n }) (hf:f its.toArray=its'.toArray) (hv:Vals ys its') (hz:ys.length<=sizeLine) :
 Inv X pins Z (upd H l (.lst ys)) { s with heap:=s.heap.update l (Obj.mapSeq f),toks:=t' }:=by
 have q:=PySem.IsL.update e f
 rw [hf] at q
 refine I.write (x:=l) (e:=l) (by rw [hH];exact trivial) (.inl rfl) (λb' u hb hu=>(Heap.get?_update_other s.heap (Obj.mapSeq f) (Ne.symm hb)).trans hu) ⟨_,q⟩ ?_
 exact ⟨hz,its',_,hv,q⟩
theorem Inv.lnew {its:List Value} {t':Nat} (I:Inv X pins Z H s) (hv:Vals ys its) (hz:ys.length<=sizeLine) :
 Inv X pins Z (upd H s.heap.objs.size (.lst ys)) { s with heap:=s.heap.push { cls:=.type "list",data:=.seq its.toArray },toks:=t' }:=
 I.laid (λ_ _ q=>Heap.get?_push_of_some _ q) (Nat.le_refl _) ⟨hz,its,0,hv,Heap.get?_push_size _ rfl⟩
theorem Inv.fresh (I:Inv X pins Z H s):H s.heap.objs.size=none:=I.hok.fresh (Nat.le_refl _)
theorem Inv.lstM (I:Inv X pins Z H s) (hH:H l=some (.lst xs)):xs.length<=sizeLine/\∃(its:List Value) (n:Nat),Vals xs its/\xs.length=its.length/\s.heap.get? l=some { cls:=.type "list",data:=.seq its.toArray n }:=by
 obtain ⟨z,its,n,r,e⟩:=I.hok l _ hH
 exact ⟨z,its,n,r,r.length,e⟩
theorem IJ {n:Nat} (h:n<=sizeLine):Builtin.List.listTooLong n=false:=by
 unfold Builtin.List.listTooLong
 exact decide_eq_false (by lia)
end
section
variable {X:Cx}
def N9:V->List V->Hp->VK->Prop:=λx vs H Q=>∃l xs y,x = .ref l/\vs=[y]/\H l=some (.lst xs)/\xs.length < sizeLine/\Q .non (upd H l (.lst (xs++[y])))
theorem Qd:MtM X "list.append" N9:=by
 intro pins s Z H x vs v us Q I rx rv h
 obtain ⟨l,xs,y,rfl,rfl,hH,hz,q⟩:=h
 cases rx
 obtain ⟨u,rfl,ru⟩:=rv.one
 obtain ⟨z,its,n,r,hl,e⟩:=I.lstM hH
 refine call_meets F.slot_list_append ⟨_,e,rfl⟩ F.entry_list_append (F.args_list_append_2 _ _) (PySem.list_append l its.toArray n u (by rw [List.size_toArray];lia)) ⟨e,?_⟩
 refine ⟨.non,_,I.lset (its':=its++[u]) hH e (by simp) (r.append (.cons ru .nil)) ?_,rfl,q⟩
 rw [List.length_append,List.length_singleton]
 lia
def Oa:V->List V->Hp->VK->Prop:=λx vs H Q=>∃l b xs zs,x = .ref l/\vs=[.ref b]/\H l=some (.lst xs)/\H b=some (.lst zs)/\xs.length + zs.length<=sizeLine/\Q .non (upd H l (.lst (xs++zs)))
theorem mt_extend:MtM X "list.extend" Oa:=by
 intro pins s Z H x vs v us Q I rx rv h
 obtain ⟨l,b,xs,zs,rfl,rfl,hH,hB,hz,q⟩:=h
 cases rx
 obtain ⟨u,rfl,ru⟩:=rv.one
 cases ru
 obtain ⟨z,its,n,r,hl,e⟩:=I.lstM hH
 obtain ⟨z2,its2,n2,r2,hl2,e2⟩:=I.lstM hB
 have hsz:its.toArray.size + its2.toArray.size<=sizeLine:=by rw [List.size_toArray,List.size_toArray];lia
 have hlong:¬(!its.toArray.isEmpty && Builtin.List.listTooLong (its.toArray.size + its2.toArray.size))=true:=by
  rw [IJ hsz,Bool.and_false]
  exact Bool.false_ne_true
 refine call_meets F.slot_list_extend ⟨_,e,rfl⟩ F.entry_list_extend (F.args_list_extend_2 _ _)
  (AutoSeq1.list_extend_list_list_0 l its.toArray n b its2.toArray n2 hlong (by rw [List.size_toArray];lia) (by lia)) ⟨e,e2,?_⟩
 refine ⟨.non,_,I.lset (its':=its++its2) hH e (by simp) (r.append r2) ?_,rfl,q⟩
 rw [List.length_append]
 lia
def RZ:R2:=λx y H Q=>∃l b xs zs,x = .ref l/\y = .ref b/\H l=some (.lst xs)/\H b=some (.lst zs)/\xs.length + zs.length<=sizeLine/\∀p,H p=none->Q (.ref p) (upd H p (.lst (xs++zs)))
theorem op_cat:OpR X (binaryOp .Add) RZ:=by
 intro pins s Z H x y v u Q I rx ry h
 obtain ⟨l,b,xs,zs,rfl,rfl,hH,hB,hz,q⟩:=h
 cases rx
 cases ry
 obtain ⟨z,its,n,r,hl,e⟩:=I.lstM hH
 obtain ⟨z2,its2,n2,r2,hl2,e2⟩:=I.lstM hB
 refine PySem.P.add_list e e2 ?_ (by rw [List.size_toArray,List.size_toArray];lia)
 have ea:its.toArray++its2.toArray=(its++its2).toArray:=by simp
 rw [ea]
 exact ⟨.ref _,_,I.lnew (t':=s.toks) (r.append r2) (by rw [List.length_append];lia),rfl,q _ I.fresh⟩
def V0:R2:=λx y H Q=>∃l k xs,x = .ref l/\y = .int k/\H l=some (.lst xs)/\-(2 ^ 63)<=k/\k < 2 ^ 63/\xs.length * k.toNat<=sizeLine/\
 ∀p,H p=none->Q (.ref p) (upd H p (.lst (List.replicate k.toNat xs).flatten))
theorem Kw {α:Type} (xs:List α) (k:Nat):(List.replicate k xs).flatten.length=k * xs.length:=by
 induction k with
 | zero=>simp
 | succ k ih=>rw [List.replicate_succ,List.flatten_cons,List.length_append,ih,Nat.succ_mul,Nat.add_comm]
theorem Vv:OpR X (binaryOp .Mult) V0:=by
 intro pins s Z H x y v u Q I rx ry h
 obtain ⟨l,k,xs,rfl,rfl,hH,h1,h2,hz,q⟩:=h
 cases rx
 obtain ⟨t,rfl⟩:=ry
 obtain ⟨z,its,n,r,hl,e⟩:=I.lstM hH
 have hlen:its.toArray.size * k.toNat<=sizeLine:=by rw [List.size_toArray,<-hl];exact hz
 have hcap:¬its.toArray.size * k.toNat > (2 ^ 63 - 1) / 8:=by
  have:(sizeLine:Nat)<=(2 ^ 63 - 1) / 8:=by decide
  lia
 have hfit:¬(!Builtin.List.listFitsIndex k)=true:=by
  rw [fitsIndex_both h1 h2]
  exact Bool.false_ne_true
 have hlong:¬Builtin.List.listTooLong (its.toArray.size * k.toNat)=true:=by
  rw [IJ hlen]
  exact Bool.false_ne_true
 have hnew:List.foldl (λx1 x2=>x1++x2) #[] (List.replicate (if its.toArray.isEmpty=true then 0 else k.toNat) its.toArray)=(List.replicate k.toNat its).flatten.toArray:=by
  have f0:∀m:Nat,List.foldl (λx1 x2=>x1++x2) #[] (List.replicate m its.toArray)=(List.replicate m its).flatten.toArray:=λm=>by
   have:=Hh its m []
   rw [List.nil_append] at this
   exact this
  rw [f0]
  cases its with
  | nil=>simp
  | cons a r'=>rw [if_neg (by simp)]
 refine wpAny_binaryOp_repeat_ref (T:="list") (U:="int") (by decide) ⟨_,e,rfl⟩ (λs'=>typeIs_int s' k t) noFill_list_mul F.fills_int_mul F.slot_int_rmul repeat_list F.slot_int_index.lookup
  (call_meets F.slot_int_rmul (typeIs_int s k t) F.entry_int_rmul (F.args_int_rmul_2 _ _) (int___rmul___int_list k t l its.toArray n)
    ⟨e,rfl,⟨_,e,rfl⟩,call_meets F.slot_list_mul ⟨_,e,rfl⟩ F.entry_list_mul (F.args_list_mul_2 _ _) (AutoListH.list___mul___list_int_3 l its.toArray n k t hfit hcap hlong) ⟨e,?_⟩⟩)
 rw [hnew]
 exact ⟨.ref _,_,I.lnew (t':=s.toks) (r.rep k.toNat) (by rw [Kw,Nat.mul_comm];exact hz),rfl,q _ I.fresh⟩
end
section
variable {prog:Program} {w:World} {A:Around} {E:Value->Shared->Prop} {s:Shared}
end
section
variable {X:Cx}
end
end L2
namespace Att
open PySem PySem.W PySem.Calls PyProof.Rows
theorem JA {P:Params} {h:Heap}:∀(ns:List Int) (vs:List Value),WellAll P h vs (ns.map WData.int)->IntsAre vs ns:=by
 intro ns
 induction ns with
 | nil=>
   intro vs w
   rw [List.map_nil] at w
   cases w
   exact .nil
 | cons n ns ih=>
   intro vs w
   rw [List.map_cons] at w
   cases w with
   | cons a b=>
     cases a
     exact .cons _ _ (ih _ b)
theorem QA {l:OpenLaw} {n:Nat} (hn:l.most=some n) {P:Params} {h:Heap} {args:List WData} {vals:List Value}
 (hpre:l.row.toRowW.claim.pre args=true) (hwl:WellAll P h vals args) :
 ∃a vs ns,vals=[Value.ref a]/\args=[WData.list (ns.map WData.int)]/\h.get? a=some { cls:=.type "list",data:=.seq vs.toArray }/\IntsAre vs ns/\ns.length<=n:=by
 have hsh:WShape.hasAll [] args [.list .int]=true:=(pre_splitW hpre).1
 have hc:l.pre.holds [] { args:=args }=true:=(pre_splitW hpre).2
 obtain ⟨d,r,rfl,h1,h2⟩:=hasAllW_cons hsh
 obtain rfl:=hasAllW_nil h2
 obtain ⟨xs,rfl,h3⟩:=hasW_list h1
 obtain ⟨ns,rfl⟩:=items_int h3
 have hlen:ns.length<=n:=by
  unfold OpenLaw.pre at hc
  have h4:(WTm.not (.lt (.lit (.int (n:Int))) (.len (.arg 0)))).holds [] { args:=[.list (ns.map .int)] }=true:=by
   have h4:=(holds_andW hc).1
   rw [hn] at h4
   exact h4
  have h5:=condW_of h4 (w_not (w_lt w_lit (w_len_list (w_arg rfl))))
  rw [List.length_map] at h5
  refine Nat.le_of_not_lt λq=>?_
  have q':(n:Int) < ((ns.length:Nat):Int):=by lia
  first
   | (rw [decide_eq_true q'] at h5;exact absurd h5 (by decide))
   | (simp at h5;lia)
 cases hwl with
 | cons w1 w2=>
   cases w2
   cases w1 with
   | list ho hall=>exact ⟨_,_,ns,rfl,rfl,ho,JA ns _ hall,hlen⟩
theorem Qt (l:OpenLaw) (args:List WData):l.row.toRowW.claim.post args (.bool true) args=true:=
 postW_of (r:=l.row.toRowW) (X:=(true == true))
  (show WShape.has [] (.bool true) .bool=true by first | rfl | decide | simp [WShape.has,WShape.arms,WShape.armsAll])
  (show (WTm.eq .res (.lit (.bool true))).value [] { args:=args,res:=some (.bool true),after:=args }=some (.bool (true == true)) from w_eq_bool (w_res rfl) w_lit) rfl
theorem attach_call {l:OpenLaw} {n:Nat} {q:Program} {loose:List Str} {XP:(Str->Option Value)->Heap->Prop} {YP:World->Heap->Prop} {d:DefRec}
 (hn:l.most=some n) (hdf:d.params.defaults=[])
 (call:∀(w:World) (s₀ s₁:Shared) (mg mb:Str->Option Value) (fa:Addr) (o:Obj) (pm cd doc:Value) (a:Addr) (vs:List Value) (ns:List Int),
   Ground q loose [] XP w s₀ mg mb s₁.heap->YP w s₁.heap->
   s₁.heap.get? fa=some o->o.data = .func (docDef d.name d.params d.body d.scope pm cd doc)->s₁.heap.CodeRec cd d.name->mg d.name=some (.ref fa)->
   s₁.heap.get? a=some { cls:=.type "list",data:=.seq vs.toArray }->IntsAre vs ns->ns.length<=n->s₁.gens=#[]->
   codeAny (model l.prog w) callerA (.call (.ref fa) ⟨[.ref a],[]⟩) (λr s'=>r = .ok (.ret (.bool true))/\OldK s₁.heap s'.heap/\s'.os=s₁.os/\AllBare s'.gens) s₁) :
 WalkO q loose XP YP l.row.toRowW d [] (λf vs=>PySem.call f vs):=by
 intro w s₀ s₁ mg mb G Y fa o pm cd doc dV kV ho hd hcd hD hmg hg args vals as hpre hlay hrd hwl hlo
 obtain rfl:dV = .none:=Dflts.none hD hdf
 obtain rfl:kV = .none:=Dflts.noKw hD
 obtain ⟨a,vs,ns,rfl,rfl,hobj,hints,hlen⟩:=QA hn hpre hwl
 refine enter_call (codeAny_mono (call w s₀ s₁ mg mb fa o pm cd doc a vs ns G Y ho (fd_plain hd) hcd hmg hobj hints hlen hg) λr s' hq=>?_)
 obtain ⟨rfl,h2,h3,h4⟩:=hq
 exact ⟨.inl ⟨.bool true,.bool true,[],rfl,λ_=>rfl,.bool true,Qt l _,λ_=>⟨List.Pairwise.nil,λ_ hm=>(nomatch hm)⟩⟩,h2,h3,h4⟩
section
variable {prog:Program} {w:World} {A:Around} {E:Value->Shared->Prop} {s:Shared} {K:Frag}
noncomputable def Zm (h:Heap) (L d:Addr):List (Addr×Obj):=(List.range h.objs.size).filterMap λa=>if a=L\/a=d then none else (h.get? a).map λo=>(a,o)
end
end Att
namespace L2
open PySem PySem.Spec PyProof.Rows
theorem Li:∀{vs:List Value} {ns:List Int},IntsAre vs ns->Vals (ns.map V.int) vs
 | _,_,.nil=>.nil
 | _,_,.cons n t h=>.cons ⟨t,rfl⟩ (Li h)
def Os (H:Hp):Prop:=∀b,H b=none\/∃o xs,H b=some (.frz o (.lst xs))
theorem Rk {P:Program} {w:World} {K:PySem.W.Frag} {mg mb:Str->Option Value} {CX:CXT} {k:Nat} {fa a:Addr} {fd:FuncData} {x:Str} {sp:Sp} {s₁:Shared} {vs:List Value} {ns:List Int}
 (KX:K.In s₁.heap) (hns:s₁.heap.Ns mainGlobals mg) (hb:s₁.heap.Ns builtinsNs mb) (hbb:∀x:Str,x≠"__name__"->mb x=bootBuiltins x) (hlim:s₁.heap.NoLimit) (hg:s₁.gens=#[])
 (ha:s₁.heap.get? a=some { cls:=.type "list",data:=.seq vs.toArray }) (hi:IntsAre vs ns) (hl:ns.length<=sizeLine) (hr:Room k callerA)
 (F:∀base:Heap,K.In base->base.Ns mainGlobals mg->FnOk P w K mg base CX k fa fd [x] sp) (hbind:∀(s:Shared) (u:Value),BindsTo s fd ⟨[u],[]⟩ [(x,u)])
 (hsp:∀H:Hp,Os H->SqL K H a (ns.map V.int)->sp [.ref a] H (λv _=>v = .bl true) λ_ _ _=>False)
 (hCX:∀H e s',CX [] H s₁ (λ_ _ _=>False) e s'->False) :
 codeAny (model P w) callerA (.call (.ref fa) ⟨[.ref a],[]⟩) (λr s'=>r = .ok (.ret (.bool true))/\OldK s₁.heap s'.heap/\s'.os=s₁.os/\AllBare s'.gens) s₁:=by
 have rv:=Li hi
 have lenV:=hi.length
 -- from an abstract heap in which nothing but the script may be tracked
 have core:∀H:Hp,Os H->SqL K H a (ns.map V.int)->HOk P w H s₁.heap->(∀b,H b≠none->b=a)->(H a≠none->K.lookup a=none)->
  codeAny (model P w) callerA (.call (.ref fa) ⟨[.ref a],[]⟩) (λr s'=>r = .ok (.ret (.bool true))/\OldK s₁.heap s'.heap/\s'.os=s₁.os/\AllBare s'.gens) s₁:=by
  intro H hO hS hok hA hK
  have base_of:∀{b:Addr} {o:Obj},s₁.heap.get? b=some o->H b=none->(GL s₁.heap H).get? b=some o:=λe n=>Rh e n
  have noA:∀{b:Addr} {o:Obj} {es:Array DictEntry} {ep:Nat},s₁.heap.get? b=some o->o.data = .dict es ep->H b=none:=λ{b o es ep} e d=>by
   cases q:H b with
   | none=>rfl
   | some u=>
     have e':b=a:=hA b (by rw [q];simp)
     subst e'
     rw [ha] at e;cases e
     have d':Data.seq vs.toArray _=Data.dict es ep:=d
     cases d'
  have nsK:∀{b:Addr} {m:Str->Option Value},s₁.heap.Ns b m->(GL s₁.heap H).Ns b m:=λ{b m} ⟨o,es,ep,e,d,r⟩=>⟨o,es,ep,base_of e (noA e d),d,r⟩
  have hKb:K.In (GL s₁.heap H):=λb o e=>base_of (KX b o e) (by
   cases q:H b with
   | none=>rfl
   | some u=>
     have e':b=a:=hA b (by rw [q];simp)
     subst e'
     rw [hK (by rw [q];simp)] at e;cases e)
  have hM:Mod K mg (GL s₁.heap H):=⟨hKb,nsK hns,⟨mb,nsK hb,hbb⟩,let ⟨mc,h1,h2⟩:=hlim;⟨mc,nsK h1,h2⟩⟩
  have e0:Env0 P w K mg (GL s₁.heap H) callerA [] s₁ H:=⟨rfl,hM,λb o e=>TZ e,Nat.le_of_eq (PU _ _),trivial,λb hb=>absurd (show b∈([]:List Addr) from hb) (by simp),hok,.of_eq hg⟩
  refine codeAny_mono ((F _ hKb (nsK hns)).run callerA [] s₁ H ⟨[.ref a],[]⟩ [.ref a] [.ref a] _ _ hr e0 (hbind s₁ (.ref a)) (.cons rfl .nil) (hsp H hO hS)) λr s' h=>?_
  cases r with
  | error e=>exact (hCX H e s' h).elim
  | ok fl=>
    cases fl with
    | next=>exact False.elim h
    | brk=>exact False.elim h
    | cont=>exact False.elim h
    | ret u=>
      obtain ⟨v,H',os,bare,un,hok',r',q⟩:=h
      have q':v = .bl true:=q
      subst q'
      obtain rfl:u=Value.bool true:=r'
      refine ⟨rfl,OldK.of_keep λb o e=>?_,os,bare⟩
      cases q:H b with
      | none=>exact un.keep b o e q (by intro z;exact absurd (show b∈([]:List Addr) from z) (by simp)) (by simp)
      | some u=>
        rcases hO b with z | ⟨ob,xs,z⟩
        ·rw [q] at z;cases z
        ·have z2:=un.frzs b ob _ z
         obtain ⟨e1,_⟩:=hok b _ z
         obtain ⟨e2,_⟩:=hok' b _ z2
         rw [e] at e1;cases e1
         exact e2
 cases hk:K.lookup a with
 | some o=>
   -- the script is one of the module's own objects
   have e:=KX a o hk
   rw [ha] at e
   cases e
   refine core (λ_=>none) (λ_=>.inl rfl) (.inr ⟨_,vs.toArray,_,hk,rfl,rfl,rfl,by rw [List.size_toArray,lenV];exact hl,by simpa using rv⟩) (λb u z=>by have z':(none:Option HO)=some u:=z;cases z') (λb z=>absurd rfl z) λz=>absurd rfl z
 | none=>
   refine core (λb=>if b=a then some (.frz { cls:=.type "list",data:=.seq vs.toArray } (.lst (ns.map V.int))) else none) (λb=>?_) (.inl (.inr ⟨{ cls:=.type "list",data:=.seq vs.toArray },if_pos rfl⟩)) (λb u z=>?_) (λb z=>?_) λ_=>hk
   ·by_cases hb:b=a
    ·exact .inr ⟨_,_,if_pos hb⟩
    ·exact .inl (if_neg hb)
   ·by_cases hb:b=a
    ·have z':=(if_pos hb).symm.trans z
     cases z'
     subst hb
     exact ⟨ha,by rw [List.length_map];exact hl,vs,_,rv,ha⟩
    ·have z':=(if_neg hb).symm.trans z
     cases z'
   ·by_cases hb:b=a
    ·exact hb
    ·exact absurd (if_neg hb) z
theorem UR {l:PySem.W.OpenLaw} {n k:Nat} {q:Program} {loose:List Str} {XP:(Str->Option Value)->Heap->Prop} {YP:World->Heap->Prop} {d:DefRec} {K:Params->PySem.W.Frag} {CX:World->CXT} {sp:World->Sp} {x:Str}
 (hn:l.most=some n) (hn2:n<=sizeLine) (hdf:d.params.defaults=[]) (hr:Room k callerA)
 (hY:∀(w:World) (h:Heap),YP w h->(K w.params).In h)
 (F:∀(w:World) (mg:Str->Option Value) (fa:Addr) (h:Heap),(K w.params).In h->h.Ns mainGlobals mg->mg d.name=some (.ref fa)->
   ∃fd:FuncData,(∀(s:Shared) (u:Value),BindsTo s fd ⟨[u],[]⟩ [(x,u)])/\
    ∀base:Heap,(K w.params).In base->base.Ns mainGlobals mg->FnOk l.prog w (K w.params) mg base (CX w) k fa fd [x] (sp w))
 (hsp:∀(w:World) (H:Hp) (a:Addr) (ns:List Int),ns.length<=n->Os H->SqL (K w.params) H a (ns.map V.int)->sp w [.ref a] H (λv _=>v = .bl true) λ_ _ _=>False)
 (hCX:∀(w:World) (H:Hp) (s:Shared) (e:Value) (s':Shared),CX w [] H s (λ_ _ _=>False) e s'->False) :
 PySem.W.WalkO q loose XP YP l.row.toRowW d [] (λf vs=>PySem.call f vs):=by
 refine Att.attach_call hn hdf λw s₀ s₁ mg mb fa o pm cd doc a vs ns G Y ho hd hcd hmg hobj hints hlen hg=>?_
 have KX:=hY w _ Y
 obtain ⟨fd,hb,hF⟩:=F w mg fa _ KX G.T.g hmg
 exact Rk KX G.T.g G.T.b G.T.builtins G.T.nolimit hg hobj hints (Nat.le_trans hlen hn2) hr hF hb (λH hO hS=>hsp w H a ns hlen hO hS) λH e s'=>hCX w H s₁ e s'
noncomputable def Eg (s:Stmt):Arguments:=match s with
 | .FunctionDef _ a _ _ _ _ _ _ _ _=>a
 | _=>{ posonlyargs:=[],args:=[],vararg:=none,kwonlyargs:=[],kw_defaults:=[],kwarg:=none,defaults:=[] }
noncomputable def B9 (s:Stmt):List Stmt:=match s with
 | .FunctionDef _ _ b _ _ _ _ _ _ _=>b
 | _=>[]
noncomputable def Ao (s:Stmt):Scope:=match s with
 | .FunctionDef _ _ _ _ _ _ sc _ _ _=>sc
 | _=>{ kind:=.function,names:=[],isGenerator:=false,isCoroutine:=false }
abbrev CX0:CXT:=λ_ _ _ _ _ _=>False
abbrev E0:XK:=λ_ _ _=>False
theorem SH {X:Cx}:L5 CX0 X E0:=λ_ _ _ _ _ _ _ h=>h.elim
structure Fun (K:PySem.W.Frag) (x qual:Str) (st:Stmt) (f:Addr) (fd:FuncData):Prop where
 ex:∃(oc:Value) (od:Option Addr) (kV doc pm:Value) (an:Option Addr) (cdv ct:Value) (osl:Array (Option Value)),
  fd=PySem.W.fnOf x qual (Eg st) (B9 st) (Ao st) .none kV doc pm an cdv ct/\K.lookup f=some ⟨oc,od,.func fd,osl⟩/\PySem.W.codeIn K cdv qual=true
 kp:PySem.W.keepIn K (.ref f)=true
section
variable {P:Program} {w:World} {K:PySem.W.Frag} {mg:Str->Option Value} {base:Heap}
theorem Fun.ok {x qual:Str} {st:Stmt} {f:Addr} {fd:FuncData} {N ps:List Str} {k:Nat} {sp:Sp} (F:Fun K x qual st f fd) (S:FnScope N ps (Ao st)) (len:∀vs H Q E,sp vs H Q E->vs.length=ps.length)
 (hbody:∀(cdv:Value) (A:Around) (outer:List Env) (s:Shared) (H:Hp) (vs:List V) (Q:VK) (E:XK),Room k (A.deeper (envOfC qual (Ao st) s.heap.objs.size f cdv))->sp vs H Q E->
   ∃t,PSs (DH CX0 P w K mg base N qual (Ao st) f cdv A outer s H E).nox (B9 st) t/\t { nx:=λ_ H'=>Q .non H',rt:=Q } (C8 N vs) H):FnOk P w K mg base CX0 (k + 1) f fd ps sp:=by
 obtain ⟨oc,od,kV,doc,pm,an,cdv,ct,osl,rfl,lk,hcd⟩:=F.ex
 refine SC lk hcd S len λA outer s H vs Q E hr hsp=>?_
 obtain ⟨t,h,q⟩:=hbody cdv A outer s H vs Q E hr hsp
 exact ⟨t,h.nox,q⟩
theorem Fun.binds {x qual:Str} {st:Stmt} {f:Addr} {fd:FuncData} {ps:List Str} (F:Fun K x qual st f fd)
 (h:∀(kV doc pm:Value) (an:Option Addr) (cdv ct:Value) (us:List Value),us.length=ps.length->bindArgs (PySem.W.fnOf x qual (Eg st) (B9 st) (Ao st) .none kV doc pm an cdv ct) ⟨us,[]⟩=pure (ps.zip us)):Binds K fd ps []:=by
 obtain ⟨oc,od,kV,doc,pm,an,cdv,ct,osl,rfl,lk,hcd⟩:=F.ex
 exact .all (h kV doc pm an cdv ct)
theorem Jx {x qual:Str} {st:Stmt} {f:Addr} {oc:Value} {od an:Option Addr} {osl:Array (Option Value)} {kV doc pm cdv ct:Value} (l:K.lookup f=some ⟨oc,od,.func (PySem.W.fnOf x qual (Eg st) (B9 st) (Ao st) .none kV doc pm an cdv ct),osl⟩)
 (c:PySem.W.codeIn K cdv qual=true) (k:PySem.W.keepIn K (.ref f)=true):Fun K x qual st f (PySem.W.fnOf x qual (Eg st) (B9 st) (Ao st) .none kV doc pm an cdv ct):=⟨⟨oc,od,kV,doc,pm,an,cdv,ct,osl,rfl,l,c⟩,k⟩
end
section
variable {X:Cx}
end
def Zx (H H':Hp):Prop:=∀b o,H b=some o->H' b=some o
section
variable {κ:Type} [DecidableEq κ]
noncomputable def Dz (kvs:List (κ×V)) (k:κ):Option V:=(kvs.find? λkv=>decide (kv.1=k)).map (·.2)
noncomputable def DX (kvs:List (κ×V)) (k:κ) (v:V):List (κ×V):=
 if (kvs.any λkv=>decide (kv.1=k))=true then kvs.map (λkv=>if kv.1=k then (kv.1,v) else kv) else kvs++[(k,v)]
theorem G4 {p:κ×V} {r:List (κ×V)} {k:κ} (e:p.1=k):Dz (p :: r) k=some p.2:=by simp [Dz,List.find?_cons,e]
theorem G3 {p:κ×V} {r:List (κ×V)} {k:κ} (e:¬p.1=k):Dz (p :: r) k=Dz r k:=by simp [Dz,List.find?_cons,e]
theorem Ij (kvs:List (κ×V)) (k:κ) (v:V):(DX kvs k v).length<=kvs.length + 1:=by
 unfold DX
 split
 ·rw [List.length_map];lia
 ·rw [List.length_append,List.length_cons,List.length_nil];lia
theorem RelO.isSome_eq {o:Option V} {u:Option Value} (r:RelO o u):o.isSome=u.isSome:=by
 cases o with
 | none=>cases u with
   | none=>rfl
   | some _=>exact (show False from r).elim
 | some _=>cases u with
   | none=>exact (show False from r).elim
   | some _=>rfl
theorem KV.val {kvs:List (κ×V)} {vs:List (κ×Value)} (r:KV kvs vs) (k:κ):RelO (Dz kvs k) (valueAt vs k):=by
 unfold KV at r
 induction r with
 | nil=>exact True.intro
 | @cons p q ps qs h t ih=>
   obtain ⟨h1,h2⟩:=h
   by_cases e:p.1=k
   ·have e':q.1=k:=h1.symm.trans e
    have b:valueAt (q :: qs) k=some q.2:=by simp [valueAt,List.find?_cons,e']
    rw [G4 e,b];exact h2
   ·have e':¬q.1=k:=λz=>e (h1.trans z)
    have b:valueAt (q :: qs) k=valueAt qs k:=by simp [valueAt,List.find?_cons,e']
    rw [G3 e,b];exact ih
theorem KV.any {kvs:List (κ×V)} {vs:List (κ×Value)} (r:KV kvs vs) (k:κ):(kvs.any λkv=>decide (kv.1=k))=vs.any λkv=>decide (kv.1=k):=by
 unfold KV at r
 induction r with
 | nil=>rfl
 | cons h t ih=>rw [List.any_cons,List.any_cons,ih,h.1]
theorem KV.repl {kvs:List (κ×V)} {vs:List (κ×Value)} (r:KV kvs vs) (k:κ) {y:V} {u:Value} (ry:RelV y u) :
 KV (kvs.map λkv=>if kv.1=k then (kv.1,y) else kv) (vs.map λkv=>if kv.1=k then (kv.1,u) else kv):=by
 unfold KV at r ⊢
 induction r with
 | nil=>exact .nil
 | @cons p q ps qs h t ih=>
   rw [List.map_cons,List.map_cons]
   refine .cons ?_ ih
   obtain ⟨h1,h2⟩:=h
   by_cases e:p.1=k
   ·rw [if_pos e,if_pos (h1.symm.trans e)];exact ⟨h1,ry⟩
   ·rw [if_neg e,if_neg (λz=>e (h1.trans z))];exact ⟨h1,h2⟩
theorem KV.put {kvs:List (κ×V)} {vs:List (κ×Value)} (r:KV kvs vs) (k:κ) {y:V} {u:Value} (ry:RelV y u):KV (DX kvs k y) (stored vs k u):=by
 unfold DX stored
 rw [r.any k]
 by_cases e:(vs.any λkv=>decide (kv.1=k))=true
 ·rw [if_pos e,if_pos e];exact r.repl k ry
 ·rw [if_neg e,if_neg e];exact Paired.snoc r ⟨rfl,ry⟩
theorem KV.length {kvs:List (κ×V)} {vs:List (κ×Value)} (r:KV kvs vs):kvs.length=vs.length:=Paired.length r
end
theorem JD {P:Program} {w:World} {k:Key} {u:Value} (r:RelV (kV k) u):(Cn P w).is k u=true:=by
 cases k with
 | inl i=>obtain ⟨t,e⟩:=(show ∃t,u=Value.int i t from r);subst e;exact Nz P w i t
 | inr x=>obtain ⟨t,e⟩:=(show ∃t,u=Value.str x t from r);subst e;exact NA P w x t
theorem Lb {P:Program} {w:World}:∀{ks:List Key} {us:List Value},Vals (ks.map kV) us->ItemsAre (Cn P w) ks us
 | [],_,r=>by rw [List.map_nil] at r;cases r;exact .nil
 | k :: ks,_,r=>by
   rw [List.map_cons] at r
   cases r with
   | cons h t=>exact .cons (JD h) (Lb t)
abbrev KT (H:Hp):List (List Key×V)->List (List Key×Addr×Value)->Prop:=Paired λp q=>p.1=q.1/\H q.2.1=some (.tup (p.1.map kV))/\RelV p.2 q.2.2
theorem KT.val {H:Hp} {kvs:List (List Key×V)} {xs:List (List Key×Addr×Value)} (r:KT H kvs xs) (k:List Key):RelO (Dz kvs k) ((atKey xs k).map (·.2)):=by
 induction r with
 | nil=>exact True.intro
 | @cons p q ps qs h t ih=>
   obtain ⟨h1,_,h2⟩:=h
   by_cases e:p.1=k
   ·have e':q.1=k:=h1.symm.trans e
    have b:atKey (q :: qs) k=some q.2:=by simp [atKey,List.find?_cons,e']
    rw [G4 e,b];exact h2
   ·have e':¬q.1=k:=λz=>e (h1.trans z)
    have b:atKey (q :: qs) k=atKey qs k:=by simp [atKey,List.find?_cons,e']
    rw [G3 e,b];exact ih
section
variable {P:Program} {w:World} {H:Hp} {h:Heap} {a:Addr}
theorem ST {u:HO} (ok:HOk P w H h) (e:Rd H a u):ObjOk P w H h a u:=e.ok ok
theorem Sw {kvs:List (Key×V)} (ok:HOk P w H h) (e:Rd H a (.dK kvs)):kvs.length<=sizeLine/\(a == sysModules)=false/\∃vs,KV kvs vs/\h.DictOf (Cn P w) a vs:=
 show ObjOk P w H h a (.dK kvs) from ST ok e
theorem HH {kvs:List (Key×V)} (ok:HOk P w H h) (e:H a=some (.dK kvs)):kvs.length<=sizeLine/\(a == sysModules)=false/\∃vs,KV kvs vs/\h.DictOf (Cn P w) a vs:=Sw ok (.inl e)
theorem P3 {ks:List Key} (ok:HOk P w H h) (e:H a=some (.tup (ks.map kV))):(tupleKind (Cn P w)).is h ks a:=by
 obtain ⟨_,its,r,o,h1,h2,n,h3⟩:=(show ObjOk P w H h a (.tup (ks.map kV)) from ok a _ e)
 exact ⟨o,its.toArray,n,h1,h2,h3,by simpa using Lb r⟩
theorem WJ {kvs:List (List Key×V)} (ok:HOk P w H h) (e:Rd H a (.dT kvs)):kvs.length<=sizeLine/\(a == sysModules)=false/\
 ∃xs,KT H kvs xs/\h.DictOfH (tupleKind (Cn P w)) a xs:=by
 obtain ⟨z,y,xs,r,o,es,ep,h1,h2,h3,h4,h5⟩:=(show ObjOk P w H h a (.dT kvs) from ST ok e)
 refine ⟨z,y,xs,r,o,es,ep,h1,h2,h3,h4,λx hx=>?_,h5⟩
 have all:∀{l:List (List Key×V)} {m:List (List Key×Addr×Value)},KT H l m->∀x∈m,(tupleKind (Cn P w)).is h x.1 x.2.1:=by
  intro l m q
  induction q with
  | nil=>intro x hx;exact nomatch hx
  | @cons p q ps qs hq t ih=>
    intro x hx
    rcases List.mem_cons.mp hx with e | hx
    ·subst e
     exact P3 ok (by rw [<-hq.1];exact hq.2.1)
    ·exact ih x hx
 exact all r x hx
end
def DGet (H:Hp) (a:Addr) (y:V) (r:Option V):Prop:=
 (∃kvs k,Rd H a (.dK kvs)/\y=kV k/\r=Dz kvs k)\/∃kvs k b,Rd H a (.dT kvs)/\y = .ref b/\H b=some (.tup (k.map kV))/\r=Dz kvs k
def Zv (H:Hp) (a:Addr) (y v:V) (H':Hp):Prop:=
 (∃kvs k,H a=some (.dK kvs)/\y=kV k/\kvs.length < sizeLine/\H'=upd H a (.dK (DX kvs k v)))\/
 ∃kvs k b,H a=some (.dT kvs)/\y = .ref b/\H b=some (.tup (k.map kV))/\kvs.length < sizeLine/\H'=upd H a (.dT (DX kvs k v))
theorem DGet.k {H:Hp} {a:Addr} {kvs:List (Key×V)} {k:Key} (e:H a=some (.dK kvs)):DGet H a (kV k) (Dz kvs k):=.inl ⟨kvs,k,.inl e,rfl,rfl⟩
section
variable {X:Cx} {pins:List (Addr×Obj)} {Z:St} {H:Hp} {s:Shared} {a:Addr} {y v:V} {u r:Value} {o:Option V} {A:Around} {E:Value->Shared->Prop}
theorem Inv.big (I:Inv X pins Z H s):sysModules < s.heap.objs.size:=by
 have h:mainGlobals < s.heap.objs.size:=(I.mod.glob.keeps I.bk).lt
 exact Nat.lt_trans (by decide) h
theorem X7 {Q:Value->Shared->Prop} (hu:A.units + 1 < cLine) (I:Inv X pins Z H s) (g:DGet H a y o) (ry:RelV y u) (h:∀s',Inv X pins Z H s'->Q (.bool o.isSome) s') :
 wpAny (model X.prog X.w) A (compareOp .In u (.ref a)) Q E s:=by
 rcases g with ⟨kvs,k,e,ey,l⟩ | ⟨kvs,k,b,e,ey,eb,l⟩
 ·subst ey
  obtain ⟨z,hd,vs,rel,dd⟩:=Sw I.hok e
  refine wpAny_in_of (JD ry) hd dd.mapOf ?_
  rw [<-(rel.val k).isSome_eq,<-l]
  exact h _ (I.tok _)
 ·subst ey
  cases (show u=Value.ref b from ry)
  obtain ⟨z,hd,xs,rel,dd⟩:=WJ I.hok e
  refine wpAny_in_heap (tupleKind_room_in1 hu) (P3 I.hok eb) hd dd ?_
  have q:=(rel.val k).isSome_eq
  rw [Option.isSome_map] at q
  rw [<-q,<-l]
  exact h _ (I.tok _)
theorem NV {h':Heap} {t':Nat} {ob:HO} (I:Inv X pins Z H s) (mu:Mut (H a)) (hs:Heap.SameBut a s.heap h') (he:∃q,h'.get? a=some q) (new:ObjOk X.prog X.w (upd H a ob) h' a ob) :
 Inv X pins Z (upd H a ob) { s with heap:=h',toks:=t' }:=
 I.write (x:=a) (e:=a) mu (.inl rfl) (λb q hb z=>(hs.2 b hb).trans z) he new
theorem Mz {P:Program} {w:World} {H':Hp} {h':Heap} {kvs:List (Key×V)} {vs:List (Key×Value)} (z:kvs.length<=sizeLine) (hd:(a == sysModules)=false) (rel:KV kvs vs) (dd:h'.DictOf (Cn P w) a vs) :
 ObjOk P w H' h' a (.dK kvs):=⟨z,hd,vs,rel,dd⟩
end
section
variable {X:Cx} {pins:List (Addr×Obj)} {Z:St} {H:Hp} {s:Shared} {a:Addr} {kvs:List (Key×V)} {k:Key} {u:Value} {A:Around} {E:Value->Shared->Prop}
end
section
variable {X:Cx} {o i e value:Expr} {pos pos' tpos:Pos} {td ty tv:TE}
end
theorem Q9 {P:Program} {w:World} {H:Hp} (h:Heap) (hb:sysModules < h.objs.size):ObjOk P w H (h.push { cls:=.type "dict",data:=.dict #[] }) h.objs.size (.dK []):=
 ⟨Nat.zero_le _,beq_eq_false_iff_ne.mpr (Ne.symm (Nat.ne_of_lt hb)),[],.nil,Heap.DictOf.new h⟩
section
variable {X:Cx} {pos:Pos}
end
def Ka:List (TE×TE)->St->Hp->(List (V×V)->Hp->Prop)->Prop
 | [],_,H,Q=>Q [] H
 | (tk,tv) :: r,Z,H,Q=>tk Z H λx H1=>tv Z H1 λy H2=>Ka r Z H2 λps H3=>Q ((x,y) :: ps) H3
abbrev VV:List (V×V)->List (Value×Value)->Prop:=Paired λp q=>RelV p.1 q.1/\RelV p.2 q.2
def PPs (X:Cx) (pos:Pos) (keys:List (Option Expr)) (values:List Expr) (trs:List (TE×TE)):Prop:=
 ∀(pins:List (Addr×Obj)) (s:Shared) (Z:St) (H:Hp) (Q:List (V×V)->Hp->Prop),Inv X pins Z H s->Ka trs Z H Q->
  wpAny (model X.prog X.w) X.A (evalPairs (pairTrees keys values X.env pos)) (λvs s'=>∃ps H',Inv X pins Z H' s'/\VV ps vs/\Q ps H') X.xe s
theorem Uh {X:Cx} {pos:Pos}:PPs X pos [] [] []:=λpins s Z H Q I h=>pairTrees_nil_walk ⟨[],H,I,.nil,h⟩
theorem RU {X:Cx} {pos:Pos} {k v:Expr} {ks:List (Option Expr)} {vs:List Expr} {tk tv:TE} {trs:List (TE×TE)} (hk:PE X k tk) (hv:PE X v tv) (hr:PPs X pos ks vs trs) :
 PPs X pos (some k :: ks) (v :: vs) ((tk,tv) :: trs):=λpins s Z H Q I h=>
 pairTrees_cons_walk (thn (hk pins s Z H _ I h) λu s1 ⟨x,H1,I1,rx,q1⟩=>thn (hv pins s1 Z H1 _ I1 q1) λw2 s2 ⟨y,H2,I2,ry,q2⟩=>
  thn (hr pins s2 Z H2 _ I2 q2) λws s3 ⟨ps,H3,I3,rel,q3⟩=>⟨(x,y) :: ps,H3,I3,.cons ⟨rx,ry⟩ rel,q3⟩)
def FL (kvs more:List (Key×V)):List (Key×V):=more.foldl (λacc kv=>DX acc kv.1 kv.2) kvs
theorem KV.merge:∀{more:List (Key×V)} {rs:List (Key×Value)} {kvs:List (Key×V)} {vs:List (Key×Value)},KV more rs->KV kvs vs->KV (FL kvs more) (merged vs rs):=by
 intro more rs kvs vs r
 unfold KV at r
 induction r generalizing kvs vs with
 | nil=>intro q;exact q
 | @cons p q ps qs h t ih=>
   intro r0
   have e:KV (DX kvs p.1 p.2) (stored vs q.1 q.2):=by
    have:=r0.put p.1 h.2
    rw [<-h.1];exact this
   exact ih e
theorem G5:∀(more kvs:List (Key×V)),(FL kvs more).length<=kvs.length + more.length
 | [],kvs=>by show kvs.length<=kvs.length + 0;lia
 | p :: r,kvs=>by
   have h1:=G5 r (DX kvs p.1 p.2)
   have h2:=Ij kvs p.1 p.2
   show (FL (DX kvs p.1 p.2) r).length<=_
   rw [List.length_cons];lia
theorem Jo {P:Program} {w:World}:∀{kvs:List (Key×V)} {ws:List (Value×Value)},VV (kvs.map λkv=>(kV kv.1,kv.2)) ws->∃rs,Carries (Cn P w) ws rs/\KV kvs rs
 | [],_,r=>by rw [List.map_nil] at r;cases r;exact ⟨[],True.intro,.nil⟩
 | p :: kvs,_,r=>by
   rw [List.map_cons] at r
   cases r with
   | @cons a b as bs h t=>
     obtain ⟨rs,c,q⟩:=Jo (P:=P) (w:=w) t
     obtain ⟨b1,b2⟩:=b
     exact ⟨(p.1,b2) :: rs,⟨JD h.1,rfl,c⟩,.cons ⟨rfl,h.2⟩ q⟩
def W4 (trs:List (TE×TE)):TE:=λZ H Q=>∀p,H p=none->Ka trs Z (upd H p (.dK [])) λps H2=>H2 p=some (.dK [])/\∃kvs:List (Key×V),ps=kvs.map (λkv=>(kV kv.1,kv.2))/\kvs.length<=15/\Q (.ref p) (upd H2 p (.dK (FL [] kvs)))
theorem T9 {X:Cx} {pos:Pos} {keys:List (Option Expr)} {values:List Expr} {trs:List (TE×TE)} (h:PPs X pos keys values trs) (hall:keys.all (·.isSome)=true) (hl:keys.length=values.length) (h0:keys≠[])
 (h15:keys.length<=15):PE X (.Dict keys values pos) (W4 trs):=by
 intro pins s Z H Q I q
 have hn:=I.hok.fresh (Nat.le_refl s.heap.objs.size)
 have I1:=I.laid (a:=s.heap.objs.size) (o:=.dK []) (h':=s.heap.push { cls:=.type "dict",data:=.dict #[] }) (t':=s.toks) (λ_ _ q=>Heap.get?_push_of_some _ q) (Nat.le_refl _) (Q9 s.heap I.big)
 refine wpAny_Dict_walk (knd:=Cn X.prog X.w) hall hl h0 h15 (thn (h pins _ Z _ _ I1 (q _ hn)) λws s2 ⟨ps,H2,I2,rel,e,kvs,ep,lk,q2⟩=>?_)
 subst ep
 obtain ⟨rs,c,rk⟩:=Jo (P:=X.prog) (w:=X.w) rel
 obtain ⟨z,hd,vs0,r0,dd⟩:=HH I2.hok e
 cases r0
 refine ⟨rs,c,dd,λh' dd' hs=>⟨.ref s.heap.objs.size,_,?_,rfl,q2⟩⟩
 have hz:(FL [] kvs).length<=sizeLine:=by
  have h1:=G5 kvs []
  rw [List.length_nil] at h1
  rw [sizeLine_eq];lia
 have he:∃q,h'.get? s.heap.objs.size=some q:=let ⟨q,_,_,hq,_⟩:=dd';⟨q,hq⟩
 exact NV I2 (by rw [e];exact True.intro) hs he (Mz hz hd (rk.merge .nil) dd')
theorem FD {env:Env}:∀(l:List (Str×NameKind)) (cs:List (Str×Addr)),(∀x c,cs.lookup x=some c->env.cells.lookup x=some c)->(∀y∈l,y.2 = .free->∃c,env.cells.lookup y.1=some c)->
 ∃cl,(forIn l cs λ(x:Str×NameKind) r=>(match x with | (name,kind)=>if (kind == NameKind.free)=true then do let c <-cellOf env name;pure (ForInStep.yield ((name,c) :: r)) else pure (ForInStep.yield r):Sem (ForInStep (List (Str×Addr)))))=pure cl/\
  (∀x c,cl.lookup x=some c->env.cells.lookup x=some c)/\(∀x c,cs.lookup x=some c->∃c',cl.lookup x=some c')/\∀y∈l,y.2 = .free->∃c,cl.lookup y.1=some c
 | [],cs,h,_=>⟨cs,rfl,h,λ_ c e=>⟨c,e⟩,λ_ z=>nomatch z⟩
 | (n,k) :: l,cs,h,hf=>by
   by_cases hk:k = .free
   ·subst hk
    obtain ⟨c,hc⟩:=hf (n,.free) List.mem_cons_self rfl
    have hc':env.cells.lookup n=some c:=hc
    have e:cellOf env n=pure c:=by unfold cellOf;rw [hc']
    obtain ⟨cl,e1,e2,e3,e4⟩:=FD l ((n,c) :: cs) (λx c' q=>by
     rw [List.lookup_cons] at q
     by_cases hx:(x == n)=true
     ·rw [hx] at q;cases q;rw [eq_of_beq hx];exact hc'
     ·rw [Bool.eq_false_iff.mpr hx] at q;exact h x c' q) (λy hy=>hf y (List.mem_cons_of_mem _ hy))
    have self:((n,c) :: cs).lookup n=some c:=by rw [List.lookup_cons,beq_self_eq_true]
    refine ⟨cl,?_,e2,λx c' q=>?_,λy hy hyf=>?_⟩
    ·rw [List.forIn_cons]
     simp only [beq_self_eq_true,if_true,e]
     exact e1
    ·by_cases hx:(x == n)=true
     ·rw [eq_of_beq hx];exact e3 n c self
     ·exact e3 x c' (by rw [List.lookup_cons,Bool.eq_false_iff.mpr hx];exact q)
    ·rcases List.mem_cons.mp hy with z | z
     ·subst z;exact e3 n c self
     ·exact e4 y z hyf
   ·have hb:(k == NameKind.free)=false:=by simpa using hk
    obtain ⟨cl,e1,e2,e3,e4⟩:=FD l cs h (λy hy=>hf y (List.mem_cons_of_mem _ hy))
    refine ⟨cl,?_,e2,e3,λy hy hyf=>?_⟩
    ·rw [List.forIn_cons]
     simp only [hb,Bool.false_eq_true,if_false]
     exact e1
    ·rcases List.mem_cons.mp hy with z | z
     ·subst z;exact absurd hyf hk
     ·exact e4 y z hyf
theorem OE {scope:Scope} {env:Env} (h:∀y∈scope.names,y.2 = .free->∃c,env.cells.lookup y.1=some c) :
 ∃cl,closureFor scope env=pure cl/\(∀x c,cl.lookup x=some c->env.cells.lookup x=some c)/\∀y∈scope.names,y.2 = .free->∃c,cl.lookup y.1=some c:=by
 obtain ⟨cl,e1,e2,_,e4⟩:=FD (env:=env) scope.names [] (λ_ _ q=>nomatch q) h
 refine ⟨cl,?_,e2,e4⟩
 simp only [closureFor]
 first | (rw [e1];rfl) | (simp only [e1];rfl) | (trace_state;exact e1)
theorem Mu {prog:Program} {w:World} {A:Around} {R:Result->Shared->Prop} {s:Shared} {elt target iter:Expr} {ifs:List Expr} {scope:Scope} {pos:Pos} {it acc:Value} {env:Env} (I:Nat->Shared->Prop)
 (turn:∀n s,I n s->wpAny (model prog w) A (pyNext it) (λr s₁=>match r with
   | none=>R (.ok .next) s₁
   | some v=>wpAny (model prog w) A (letOwnedTupleGo target it v) (λ_ s₁'=>wpAny (model prog w) A (assign target env v) (λ_ s₂=>
      wpAny (model prog w) A (forIn ifs true λc r=>if r=true then do let ok <-isTrue c env (eval c env);pure (ForInStep.yield ok) else pure (ForInStep.yield r)) (λok s₃=>
       if ok=true then wpAny (model prog w) A (eval elt env) (λx s₄=>
        wpAny (model prog w) A (call (.builtin "list.append") [acc,x]) (λ_ s₅=>∃m,m < n/\I m s₅) (λ_ _=>False) s₄) (λ_ _=>False) s₃
       else ∃m,m < n/\I m s₃) (λ_ _=>False) s₂) (λ_ _=>False) s₁') (λ_ _=>False) s₁) (λ_ _=>False) s)
 (n:Nat) (h:I n s) :
 codeAny (model prog w) A (.compLoop (.ListComp elt [⟨target,iter,ifs,0⟩] scope pos) 0 it acc env) R s:=by
 refine codeAny_loop rfl I (λn s hI=>?_) n h
 show wpAny _ A ((compTurn (.ListComp elt [⟨target,iter,ifs,0⟩] scope pos) 0 it acc env).onRaise (λx=>do noteFrame x env;theTreesLotGoes x)) _ _ s
 refine wpAny_noted ?_
 rw [compTurn_list]
 refine wpAny_bind (wpAny_standAt (wpAny_bind (wpAny_mono (turn n s hI) (λr s₁ h₁=>?_) λ_ _ h'=>h'.elim)))
 cases r with
 | none=>exact wpAny_pure h₁
 | some v=>
   refine wpAny_bind (wpAny_mono h₁ (λ_ s₁' h₁'=>?_) λ_ _ h'=>h'.elim)
   refine wpAny_bind (wpAny_mono h₁' (λ_ s₂ h₂=>wpAny_bind (wpAny_mono h₂ (λok s₃ h₃=>?_) λ_ _ h'=>h'.elim)) λ_ _ h'=>h'.elim)
   cases ok with
   | false=>exact wpAny_pure ⟨rfl,h₃⟩
   | true=>
     exact wpAny_bind (wpAny_bind (wpAny_mono h₃ (λx s₄ h₄=>wpAny_bind (wpAny_mono h₄ (λ_ s₅ h₅=>wpAny_pure (wpAny_pure ⟨rfl,h₅⟩)) λ_ _ h'=>h'.elim)) λ_ _ h'=>h'.elim))
end L2
set_option maxHeartbeats 2000000
namespace L2
open PySem PySem.Spec PyProof.Rows
noncomputable def DU (X:Cx) (N':List Str) (scope:Scope) (cl:List (Str×Addr)) (C:Addr) (s2:Shared) (H2:Hp) (fp:List Addr):Cx where
 prog:=X.prog
 w:=X.w
 K:=X.K
 mg:=X.mg
 base:=X.base
 A:=X.A
 N:=N'
 s₀:=s2
 H₀:=H2
 env:=compEnvC scope cl C X.env
 outer:=X.stack
 stack:=X.stack
 ex:=fp
 fn:=λ_=>false
 calm:=X.calm
 pn:=[]
 xe:=λ_ _=>False
theorem Ik (h:Str->NameKind->NameKind) (x:Str):∀l:List (Str×NameKind),(l.map λp=>(p.1,h p.1 p.2)).lookup x=(l.lookup x).map (h x)
 | []=>rfl
 | (n,k) :: l=>by
   show List.lookup x ((n,h n k) :: _)=_
   rw [List.lookup_cons,List.lookup_cons]
   by_cases hx:(x == n)=true
   ·rw [hx,eq_of_beq hx];rfl
   ·rw [Bool.eq_false_iff.mpr hx];exact Ik h x l
theorem Gu (scope:Scope) (env:Env) (x:Str):(relabel scope env).names.lookup x=(scope.names.lookup x).map λk=>if (k == .free && env.scope.kind == .function && env.kindOf x == some .cell)=true then .cell else k:=by
 rw [<-Ik (λn k=>if (k == NameKind.free && env.scope.kind == .function && env.kindOf n == some .cell)=true then .cell else k) x scope.names]
 unfold relabel
 dsimp only
 congr 1
 apply List.map_congr_left
 intro p _
 obtain ⟨n,k⟩:=p
 dsimp only
 split <;> rfl
theorem Dj {x:Str} {k:NameKind}:∀{l:List (Str×NameKind)},l.lookup x=some k->(x,k)∈l
 | (n,k') :: l,h=>by
   rw [List.lookup_cons] at h
   by_cases hx:(x == n)=true
   ·rw [hx] at h;cases h;rw [eq_of_beq hx];exact List.mem_cons_self
   ·rw [Bool.eq_false_iff.mpr hx] at h;exact List.mem_cons_of_mem _ (Dj h)
theorem Ng {scope:Scope} {env:Env} {x:Str} (hcell:∀y∈scope.names,y.2≠.cell) (h:(relabel scope env).names.lookup x=some .cell\/(relabel scope env).names.lookup x=some .free):scope.names.lookup x=some .free:=by
 rw [Gu] at h
 cases e:scope.names.lookup x with
 | none=>rw [e] at h;rcases h with h | h <;> cases h
 | some k=>
   by_cases hk:k = .free
   ·rw [hk]
   ·have hb:(k == NameKind.free)=false:=by simpa using hk
    rw [e] at h
    simp only [Option.map_some,hb,Bool.false_and,Bool.false_eq_true,if_false] at h
    rcases h with h | h
    ·cases h;exact absurd rfl (hcell _ (Dj e))
    ·cases h;exact absurd rfl hk
def PIf (X:Cx) (ifs:List Expr) (t:TT):Prop:=
 ∀(pins:List (Addr×Obj)) (s:Shared) (Z:St) (H:Hp) (Q:Bool->Hp->Prop),Inv X pins Z H s->t Z H Q->
  wpAny (model X.prog X.w) X.A (forIn ifs true λc r=>if r=true then do let ok <-isTrue c X.env (eval c X.env);pure (ForInStep.yield ok) else pure (ForInStep.yield r)) (TP X pins Z Q) X.xe s
def W9:TT:=λ_ H Q=>Q true H
theorem Uc {X:Cx}:PIf X [] W9:=λ_ _ _ H _ I h=>wpAny_tests_nil ⟨H,I,h⟩
def QH (J:It) (g:TG) (tt:TT) (te:TE) (Z₀:St) (H1:Hp) (Fin:List V->Hp->Prop):Prop:=
 ∃W:Nat->Nat->List V->St->Hp->Prop,(∃m,W 0 m [] Z₀ H1)/\∀i m acc Z' H',W i m acc Z' H'->acc.length<=sizeLine/\
  ((J.stop i H'/\Fin acc H')\/
    (J.go i H'/\∀x H2,J.yld i H' x H2->g x Z' H2 λZ3 H3=>tt Z3 H3 λb H4=>if b=true then te Z3 H4 λv H5=>∃m',m' < m/\W (i + 1) m' (acc++[v]) Z3 H5 else ∃m',m' < m/\W (i + 1) m' acc Z3 H4))
def SV (wi:TI) (g:TG) (tt:TT) (te:TE) (Zf:St->St):TE:=λZ H Q=>wi Z H λJ H1=>QH J g tt te (Zf Z) H1 λacc H'=>∀p,H' p=none->acc.length<=sizeLine->Q (.ref p) (upd H' p (.lst acc))
structure CmpOk (X:Cx) (scope:Scope) (N':List Str) (Zf:St->St):Prop where
 kind:scope.kind = .function
 cell:∀y∈scope.names,y.2≠.cell
 loc:∀y∈scope.names,y.2 = .local->scope.names.lookup y.1=some .local
 free:∀y∈scope.names,y.2 = .free->X.env.kindOf y.1=some .cell\/X.env.kindOf y.1=some .free
 len:∀Z:St,Z.length=X.N.length->(Zf Z).length=N'.length
 vals:∀(Z:St) (j:Nat) (x:Str) (v:V),N'[j]?=some x->(Zf Z)[j]?=some (some v)->∃i:Nat,X.N[i]?=some x/\Z[i]?=some (some v)/\scope.names.lookup x=some .free
section
variable {X:Cx} {tg elt iter:Expr} {ifs:List Expr} {scope:Scope} {pos:Pos} {N':List Str} {wi:TI} {g:TG} {tt:TT} {te:TE} {Zf:St->St}
theorem U4 {pins:List (Addr×Obj)} {Z:St} {H2:Hp} {s2:Shared} {cl:List (Str×Addr)} {C:Addr} {fp:List Addr} (O:CmpOk X scope N' Zf) (I2:Inv X pins Z H2 s2) (f2:∀b∈fp,FpOk X pins H2 b) (hC:s2.heap.objs.size<=C)
 (hlt:∀b∈fp,b < s2.heap.objs.size) (e2:∀x c,cl.lookup x=some c->X.env.cells.lookup x=some c) (e4:∀y∈scope.names,y.2 = .free->∃c,cl.lookup y.1=some c):(DU X N' scope cl C s2 H2 fp).Ok where
 mod:=I2.ok.mod
 kind:=O.kind
 glob:=I2.ok.glob
 blt:=I2.ok.blt
 above:=hC
 inj:=λx y c h1 h2=>I2.ok.inj x y c (e2 x c h1) (e2 y c h2)
 has:=λx h=>by
  have q:=Ng (env:=X.env) (x:=x) O.cell h
  exact e4 _ (Dj q) rfl
 cab:=λx c h _=>nomatch h
 hd:=I2.ok.hd
 frames:=I2.ok.frames
 stk:=.inl rfl
 exf:=λb hb=>⟨Nat.ne_of_lt (Nat.lt_of_lt_of_le (hlt b hb) hC),λx c e=>(f2 b hb).2.2.2.2.1 x c (e2 x c e)⟩
 bs:=I2.bs
 bsz:=Nat.le_trans I2.ok.bsz I2.sz
 noex:=λb o e hb=>by
  rcases (f2 b hb).2.2.2.1 with z | z
  ·exact I2.ok.noex b o e z
  ·exact absurd (Nat.lt_of_lt_of_le (Heap.lt_size (I2.ok.bs b o e).1) z) (Nat.lt_irrefl _)
 exfs:=λb hb z=>by
  rcases List.mem_cons.mp (I2.stkSub b z) with q | q
  ·exact (f2 b hb).2.1 q
  ·exact (f2 b hb).2.2.1 q
 funs:=I2.stack
 frf:=I2.stkFree
theorem Wh {pins:List (Addr×Obj)} {Z:St} {H2:Hp} {s2:Shared} (I2:Inv X pins Z H2 s2) {a:Addr} (h:s2.heap.objs.size<=a):a∉frs X.stack:=λhb=>by
 rcases List.mem_cons.mp (I2.stkSub a hb) with q | q
 ·exact absurd (Nat.lt_of_lt_of_le I2.lt h) (by rw [q];exact Nat.lt_irrefl _)
 ·exact I2.nofs h q
theorem Q7 {pins:List (Addr×Obj)} {Z:St} {H2:Hp} {s2:Shared} {cl:List (Str×Addr)} {fp:List Addr} {it:Addr} {tn:Nat->Heap->Prop} {J:It} {Fin:List V->Hp->Prop} {RR:Value->Addr->Result->Shared->Prop} {E:Value->Shared->Prop} (O:CmpOk X scope N' Zf) (hc:X.calm=true)
 (I2:Inv X pins Z H2 s2) (T:Turn X.prog X.w X.K tg J fp it tn) (st2:tn 0 s2.heap) (f2:∀b∈fp,FpOk X pins H2 b)
 (e2:∀x c,cl.lookup x=some c->X.env.cells.lookup x=some c) (e4:∀y∈scope.names,y.2 = .free->∃c,cl.lookup y.1=some c)
 (hg:∀C,PG (DU X N' scope cl C s2 H2 fp) tg g) (ht:∀C,PIf (DU X N' scope cl C s2 H2 fp) ifs tt) (he:∀C,PE (DU X N' scope cl C s2 H2 fp) elt te)
 (B:QH J g tt te (Zf Z) H2 Fin)
 (fin:∀C s' Z' H' acc m,s2.heap.objs.size<=C->C≠s2.heap.objs.size->Inv (DU X N' scope cl C s2 H2 fp) [] Z' H' s'->H' s2.heap.objs.size=none->acc.length<=sizeLine->(∃its n,Vals acc its/\s'.heap.get? s2.heap.objs.size=some { cls:=.type "list",data:=.seq its.toArray n })->Fin acc H'->s'.heap.Ns C m->
   RR (.ref s2.heap.objs.size) C (.ok .next) s') :
 wpAny (model X.prog X.w) X.A (newList []) (λacc s₃=>wpAny (model X.prog X.w) X.A (newFunctionEnv scope X.env.globals cl [] X.env.qual none .none (some X.env)) (λcenv s₄=>
  codeAny (model X.prog X.w) X.A (.compStart (.ListComp elt [⟨tg,iter,ifs,0⟩] scope pos) 0 (.ref it) acc { cenv with scope:=relabel scope X.env }) (RR acc cenv.locals) s₄) E s₃) E s2:=by
 refine wpAny_newObj_type (wpAny_newFunctionEnv O.cell (by intro y hy;simp at hy) (λh₁ hns₁ hsb₁=>?_) O.kind)
 dsimp only at hns₁ hsb₁ ⊢
 generalize hH2:s2.heap.push { cls:=.type "list",dict:=none,data:=.seq ([]:List Value).toArray }=HP at hns₁ hsb₁ ⊢
 have hC:HP.objs.size=s2.heap.objs.size + 1:=by rw [<-hH2,Heap.size_push]
 generalize hDD:s2.heap.objs.size=DD at *
 generalize hCC:HP.objs.size=CC at *
 have hDC:DD≠CC:=by rw [hC];exact Nat.ne_of_lt (Nat.lt_succ_self _)
 have hCle:s2.heap.objs.size<=CC:=by rw [hC,hDD];exact Nat.le_succ _
 have hlt:∀b∈fp,b < s2.heap.objs.size:=λb hb=>by obtain ⟨o,e,_⟩:=T.obj _ _ st2 b hb;exact Heap.lt_size e
 have hlt':∀b∈fp,b < DD:=λb hb=>by rw [<-hDD];exact hlt b hb
 have below:∀b,b < DD->b≠CC/\b≠DD:=λb hb=>⟨by rw [hC];exact Nat.ne_of_lt (Nat.lt_succ_of_lt hb),Nat.ne_of_lt hb⟩
 have old:∀b o,s2.heap.get? b=some o->h₁.get? b=some o:=λb o e=>hsb₁.extBut b o (below b (by rw [<-hDD];exact Heap.lt_size e)).1 (Heap.get?_push_of_some _ (hH2 ▸ Heap.get?_push_of_some _ e))
 have hacc:h₁.get? DD=some { cls:=.type "list",data:=.seq ([]:List Value).toArray }:=by
  refine hsb₁.extBut _ _ hDC (Heap.get?_push_of_some _ ?_)
  rw [<-hH2,<-hDD]
  exact Heap.get?_push_size _ rfl
 have ok:=U4 (cl:=cl) (C:=CC) O I2 f2 hCle hlt e2 e4
 have hfs:DD∉frs X.stack:=Wh I2 (by rw [hDD];exact Nat.le_refl _)
 obtain ⟨W,⟨m0,w0⟩,turn⟩:=B
 let X':Cx:=DU X N' scope cl CC s2 H2 fp
 have I0:Inv X' [] (Zf Z) H2 { s2 with heap:=h₁,toks:=s2.toks + ([]:List (Str×Value)).length }:=by
  refine ⟨ok,rfl,I2.bare,Un.kept old,⟨_,hns₁,λj x v q1 q2 q3=>?_⟩,λx c e=>?_,I2.hok.fresh hCle,λx c e=>I2.freeC x c (e2 x c e),(λp hp=>nomatch hp),I2.hok.kept old,O.len Z I2.len⟩
  ·obtain ⟨i,n1,n2,n3⟩:=O.vals Z j x v q1 q2
   obtain ⟨m,_,hl⟩:=I2.loc
   have hfr:=O.free _ (Dj n3) rfl
   obtain ⟨u,r,l⟩:=hl i x v n1 n2 (.inr hfr)
   refine ⟨u,r,?_⟩
   rcases l with ⟨k,_⟩ | ⟨_,c,ec,hcell⟩
   ·rcases hfr with z | z <;> (have z':=k.symm.trans z;cases z')
   ·obtain ⟨c',ec'⟩:=e4 _ (Dj n3) rfl
    have z:=e2 _ _ ec'
    have ez:X.env.cells.lookup x=some c':=z
    rw [ec] at ez
    cases ez
    refine .inr ⟨?_,c,ec',?_⟩
    ·show (relabel scope X.env).names.lookup x=some .cell\/(relabel scope X.env).names.lookup x=some .free
     rw [Gu,n3]
     simp only [Option.map_some]
     split
     ·exact .inl rfl
     ·exact .inr rfl
    ·obtain ⟨o,ho,hd⟩:=hcell
     exact ⟨o,old _ _ ho,hd⟩
  ·obtain ⟨v,o,ho,hd⟩:=I2.cell x c (e2 x c e)
   exact ⟨v,o,old _ _ ho,hd⟩
 have loop:∀s₃:Shared,s₃ = { s2 with heap:=h₁,toks:=s2.toks + ([]:List (Str×Value)).length }->
  codeAny (model X.prog X.w) X.A (.compLoop (.ListComp elt [⟨tg,iter,ifs,0⟩] scope pos) 0 (.ref it) (.ref DD) (compEnvC scope cl CC X.env)) (RR (.ref DD) CC) s₃:=by
  rintro s₃ rfl
  refine Mu (λn s'=>∃i acc its nn Z' H',Inv X' [] Z' H' s'/\tn i s'.heap/\(∀b∈fp,H' b=none)/\Vals acc its/\s'.heap.get? DD=some { cls:=.type "list",data:=.seq its.toArray nn }/\H' DD=none/\W i n acc Z' H') ?_ m0
   ⟨0,[],[],0,Zf Z,H2,I0,T.keep _ _ _ st2 (λb _ o e=>old b o e),λb hb=>(f2 b hb).1,.nil,hacc,I2.hok.fresh (by rw [hDD];exact Nat.le_refl _),w0⟩
  rintro n s' ⟨i,acc,its,nn,Z3,H3,I3,st3,fr3,hv,hD,hDn,w3⟩
  have I3p:Inv X' [(DD,({ cls:=.type "list",data:=.seq its.toArray nn }:Obj))] Z3 H3 s':=I3.pins_of λp hp=>by
   have e:p=(DD,({ cls:=.type "list",data:=.seq its.toArray nn }:Obj)):=by simpa using hp
   subst e
   exact ⟨hD,hDn,hDC,hfs,λv z=>nomatch z⟩
  have stat:∀{pins':List (Addr×Obj)} {H':Hp},(∀p∈pins',p.1=DD)->(∀b∈fp,H' b=none)->∀b∈fp,FpOk X' pins' H' b:=λ{pins' H'} hp hn b hb=>
   ⟨hn b hb,(ok.exf b hb).1,ok.exfs b hb,.inl hb,(ok.exf b hb).2,λp hp' z=>by
    have e:p.1=DD:=hp p (by simpa [X',DU] using hp')
    exact absurd (hlt' b hb) (by rw [<-z,e];exact Nat.lt_irrefl _)⟩
  have one:∀p∈[(DD,({ cls:=.type "list",data:=.seq its.toArray nn }:Obj))],p.1=DD:=λp hp=>by
   have e:p=(DD,({ cls:=.type "list",data:=.seq its.toArray nn }:Obj)):=by simpa using hp
   rw [e]
  obtain ⟨hz,tr⟩:=turn i n acc Z3 H3 w3
  rcases tr with ⟨stop,qf⟩ | ⟨go,step⟩
  ·refine thn (T.done X' rfl rfl rfl hc i _ s' Z3 H3 (λ_ _=>False) I3p (stat one fr3) st3 stop) λr s4 ⟨hr,I4⟩=>?_
   subst hr
   obtain ⟨m4,hm4,_⟩:=I4.loc
   have pD:=(I4.pin (DD,({ cls:=.type "list",data:=.seq its.toArray nn }:Obj)) (by simp [X',DU])).1
   have I4':Inv X' [] Z3 H3 s4:=I4.pins_of λp hp=>nomatch hp
   exact fin CC s4 Z3 H3 acc m4 (by rw [hDD] at hCle;exact hCle) (Ne.symm hDC) I4' hDn hz ⟨its,nn,hv,pD⟩ qf hm4
  ·refine thn (T.item X' rfl rfl rfl hc i _ s' Z3 H3 (λ_ _=>False) I3p (stat one fr3) st3 go) λr s4 ⟨u,hr,h4⟩=>?_
   subst hr
   refine thn h4 λ_ s5 ⟨x,H5,I5,r5,y5,st5,fr5⟩=>?_
   have I5':=I5.pinned (stat one fr5) (T.obj _ _ st5)
   refine thn (hg CC _ s5 Z3 H5 x u _ I5' r5 (step x H5 y5)) λ_ s6 ⟨Z6,H6,I6,q6⟩=>?_
   refine thn (ht CC _ s6 Z6 H6 _ I6 q6) λb s7 ⟨H7,I7,q7⟩=>?_
   have back:∀{H8:Hp} {s8:Shared},Inv X' ([(DD,({ cls:=.type "list",data:=.seq its.toArray nn }:Obj))]++Hr fp s5.heap) Z6 H8 s8->
    s8.heap.get? DD=some { cls:=.type "list",data:=.seq its.toArray nn }/\H8 DD=none/\tn (i + 1) s8.heap/\(∀b∈fp,H8 b=none)/\Inv X' [] Z6 H8 s8:=λ{H8 s8} I8=>by
    have p1:=I8.pin (DD,({ cls:=.type "list",data:=.seq its.toArray nn }:Obj)) (by simp [X',DU])
    refine ⟨p1.1,p1.2.1,T.keep _ _ _ st5 λb hb o e=>(I8.pin (b,o) (List.mem_append_right _ (List.mem_append_right _ (Fm hb e)))).1,λb hb=>?_,I8.pins_of λp hp=>nomatch hp⟩
    obtain ⟨o,e,_⟩:=T.obj _ _ st5 b hb
    exact (I8.pin (b,o) (List.mem_append_right _ (List.mem_append_right _ (Fm hb e)))).2.1
   cases b with
   | false=>
     rw [if_neg Bool.false_ne_true] at q7 ⊢
     obtain ⟨m',hm,w7⟩:=q7
     obtain ⟨a1,a2,a3,a4,a5⟩:=back I7
     exact ⟨m',hm,i + 1,acc,its,nn,Z6,H7,a5,a3,a4,hv,a1,a2,w7⟩
   | true=>
     rw [if_pos rfl] at q7 ⊢
     refine thn (he CC _ s7 Z6 H7 _ I7 q7) λy s8 ⟨v8,H8,I8,r8,m',hm,w8⟩=>?_
     obtain ⟨a1,a2,a3,a4,a5⟩:=back I8
     have hsz:its.toArray.size<=sizeLine:=by
      have e:=hv.length
      simpa [e] using hz
     refine wpAny_list_append_plain (hsz:=hsz) ⟨nn,a1⟩ λh9 hl9 hs9=>?_
     obtain ⟨n9,e9⟩:=hl9
     have e9':h9.get? DD=some { cls:=.type "list",data:=.seq (its++[y]).toArray n9 }:=by simpa using e9
     refine ⟨m',hm,i + 1,acc++[v8],its++[y],n9,Z6,H8,a5.turned (t':=s8.toks) (h':=h9) (it:=DD) (λb o hb e=>hs9.extBut b o hb e) a2 hDC (.inr (show s2.heap.objs.size<=DD by rw [hDD];exact Nat.le_refl _)) (λx' c e z=>?_) (λp hp=>nomatch hp),T.keep _ _ _ a3 λb hb o e=>hs9.extBut b o (Nat.ne_of_lt (hlt' b hb)) e,a4,hv.append (.cons r8 .nil),e9',a2,w8⟩
     obtain ⟨v,o,ho,hd⟩:=I2.cell x' c (e2 x' c e)
     have:=Heap.lt_size ho
     rw [hDD,z] at this
     exact Nat.lt_irrefl _ this
 exact codeAny_compStart_list (loop _ rfl) (T.self _ 0 _ _ _ (T.keep _ _ _ st2 λb _ o e=>old b o e) (loop _ rfl))
end
section
variable {X:Cx} {tg elt iter:Expr} {ifs:List Expr} {scope:Scope} {pos:Pos} {N':List Str} {wi:TI} {g:TG} {tt:TT} {te:TE} {Zf:St->St}
theorem Pw {pins:List (Addr×Obj)} {Z Z':St} {H2 H':Hp} {s2 s':Shared} {cl:List (Str×Addr)} {fp:List Addr} {C:Addr} {acc:List V} {its:List Value} {n:Nat} {h':Heap} (I2:Inv X pins Z H2 s2) (f2:∀b∈fp,FpOk X pins H2 b)
 (hC:s2.heap.objs.size<=C) (hCD:C≠s2.heap.objs.size) (I':Inv (DU X N' scope cl C s2 H2 fp) [] Z' H' s') (hDn:H' s2.heap.objs.size=none) (hz:acc.length<=sizeLine) (hv:Vals acc its)
 (hD:s'.heap.get? s2.heap.objs.size=some { cls:=.type "list",data:=.seq its.toArray n }) (hs:Heap.SameBut C s'.heap h') :
 Inv X pins Z (upd H' s2.heap.objs.size (.lst acc)) { s' with heap:=h' }:=by
 have U:=I'.base
 have lt:∀b o,s2.heap.get? b=some o->b≠C/\b≠s2.heap.objs.size:=λb o e=>⟨Nat.ne_of_lt (Nat.lt_of_lt_of_le (Heap.lt_size e) hC),Nat.ne_of_lt (Heap.lt_size e)⟩
 have neD:∀b u,H' b=some u->b≠s2.heap.objs.size:=λb u e=>Bi e hDn
 have neC:∀b u,H' b=some u->b≠C:=λb u e=>Bi e I'.free
 refine I2.call' (s':={ s' with heap:=h' }) (ch:=fp) I'.os ⟨λb o e n hb hx=>?_,λb o e n hb hx=>?_,λb o e n hx=>?_,λb o e hx=>?_,λb xs e=>?_,λb o u e=>?_,λb ps e=>?_⟩ ?_ I'.bare λb hb=>⟨(f2 b hb).2.2.2.1,(f2 b hb).2.1,(f2 b hb).2.2.2.2.1,(f2 b hb).2.2.2.2.2⟩
 ·exact hs.extBut b o (lt b o e).1 (U.keep b o e n hb hx)
 ·obtain ⟨sl,q⟩:=U.slot b o e n hb hx
  exact ⟨sl,hs.extBut b _ (lt b o e).1 q⟩
 ·rw [Ar (lt b o e).2];exact U.free b o e n hx
 ·obtain ⟨o',q⟩:=U.there b o e hx
  exact ⟨o',hs.extBut b _ (lt b o e).1 q⟩
 ·have q:=U.tups b xs e;rw [Ar (neD b _ q)];exact q
 ·have q:=U.frzs b o u e;rw [Ar (neD b _ q)];exact q
 ·obtain ⟨m,q⟩:=U.tbls b ps e
  exact ⟨m,by rw [Ar (neD b _ q)];exact q⟩
 ·intro b u e
  by_cases hb:b=s2.heap.objs.size
  ·subst hb
   rw [Az] at e
   cases e
   exact ⟨hz,its,n,hv,hs.extBut _ _ (Ne.symm hCD) hD⟩
  ·rw [Ar hb] at e
   refine (I'.hok b u e).stay (λc v hc q=>hs.extBut c v ?_ q) (λc q=>by rw [Ar (neD c _ q)];exact q) λc xs q=>by rw [Ar (neD c _ q)];exact q
   rcases hc with z | z
   ·rw [z];exact neC b u e
   ·exact neC c _ z
theorem T8 (O:CmpOk X scope N' Zf) (hc:X.calm=true) (hi:PI X tg iter wi)
 (hg:∀cl C s2 H2 fp,PG (DU X N' scope cl C s2 H2 fp) tg g) (ht:∀cl C s2 H2 fp,PIf (DU X N' scope cl C s2 H2 fp) ifs tt) (he:∀cl C s2 H2 fp,PE (DU X N' scope cl C s2 H2 fp) elt te)
 (hs:∀x,foldedSetIterable iter X.env x=pure x:=by intro _;rfl):PE X (.ListComp elt [⟨tg,iter,ifs,0⟩] scope pos) (SV wi g tt te Zf):=by
 intro pins s Z H Q I h
 obtain ⟨cl,e1,e2,e4⟩:=OE (scope:=scope) (env:=X.env) λy hy hf=>I.ok.has y.1 (O.free y hy hf)
 rw [eval_ListComp]
 refine wpAny_comprehension_free (use:=none) rfl hs e1 O.kind O.loc (thn (hi pins s Z H _ I h) λv s1 h1=>thn h1 λitv s2 h2=>?_)
 obtain ⟨it,fp,tn,J,H2,rfl,I2,T,st2,f2,B⟩:=h2
 refine Q7 (RR:=λacc C=>compPost (model X.prog X.w) X.A X.xe none (EP X pins Z Q) acc C) O hc I2 T st2 f2 e2 e4 (λC=>hg cl C s2 H2 fp) (λC=>ht cl C s2 H2 fp) (λC=>he cl C s2 H2 fp) B ?_
 intro C s' Z' H' acc m hC hCD I' hDn hz hL fin hn
 obtain ⟨its,n,hv,hD⟩:=hL
 refine ⟨m,hn,λh' hs'=>?_⟩
 exact ⟨.ref s2.heap.objs.size,upd H' _ (.lst acc),Pw I2 f2 hC hCD I' hDn hz hv hD hs',rfl,fin _ hDn hz⟩
end
end L2
set_option autoImplicit false
namespace F2
open PySem L2 PySem.Spec
inductive D where
 | non | bl (b:Bool) | int (i:Int) | str (x:Str) | tup (xs:List D) | lst (xs:List D) | scr (ns:List Int) | dic | obj (k:Nat) | ty (n:String) | exc (n:Str) (xs:List D)
structure Cf where
 ι:List Addr
 O:Addr->Prop
def Cf.A (c:Cf) (a:Addr):Prop:=a∈c.ι\/c.O a
def Scr (K:PySem.W.Frag) (c:Cf) (H:Hp) (a:Addr) (vs:List V):Prop:=
 ((∃o,H a=some (.frz o (.lst vs)))/\¬c.A a)\/
   ∃(o:Obj) (its:Array Value) (n:Nat),K.lookup a=some o/\o.cls = .type "list"/\o.dict=none/\o.data = .seq its n/\its.size<=sizeLine/\Vals vs its.toList
def XIs (qx:Bool) (x C:Addr) (dx:Option Addr) (h:Heap):Prop:=∃(o:Obj) (vs:Array Value),h.get? x=some o/\o.cls = .ref C/\o.dict=dx/\o.data = .fields vs/\(qx=true->vs[2]?=some .none/\4 < vs.size)
noncomputable def Iz (n:Str):List Str:=if n = "NoTalk" then ["at"] else if n = "Broken" then ["at", "side"] else []
def XFld (c:Cf) (H:Hp) (dx:Option Addr) (ns:List Str) (vs:List V):Prop:=match dx with
 | none=>vs=[]
 | some d=>H d=some (.xd (ns.zip vs))/\¬c.A d
mutual
inductive Rep (K:PySem.W.Frag) (c:Cf) (H:Hp):V->D->Prop where
 | non:Rep K c H .non .non
 | bl (b:Bool):Rep K c H (.bl b) (.bl b)
 | int (i:Int):Rep K c H (.int i) (.int i)
 | str (x:Str):Rep K c H (.str x) (.str x)
 | ty (n:String):Rep K c H (.ty n) (.ty n)
 | tup {a:Addr} {vs:List V} {ds:List D}:H a=some (.tup vs)->¬c.A a->Reps K c H vs ds->Rep K c H (.ref a) (.tup ds)
 | lst {a:Addr} {vs:List V} {ds:List D}:H a=some (.lst vs)->¬c.A a->Reps K c H vs ds->Rep K c H (.ref a) (.lst ds)
 | scr {a:Addr} {ns:List Int}:Scr K c H a (ns.map V.int)->Rep K c H (.ref a) (.scr ns)
 | dic {a:Addr}:H a=some (.dK [])->¬c.A a->Rep K c H (.ref a) .dic
 | obj {a:Addr} {k:Nat}:c.ι[k]?=some a->Rep K c H (.ref a) (.obj k)
 | exc {qx:Bool} {x C:Addr} {dx:Option Addr} {n:Str} {vs:List V} {ds:List D}:PySem.W.nsIn K mainGlobals n=some (some (.ref C))->H x=some (.ext (XIs qx x C dx))->¬c.A x->XFld c H dx (Iz n) vs->Reps K c H vs ds->Rep K c H (.ref x) (.exc n ds)
inductive Reps (K:PySem.W.Frag) (c:Cf) (H:Hp):List V->List D->Prop where
 | nil:Reps K c H [] []
 | cons {v:V} {d:D} {vs:List V} {ds:List D}:Rep K c H v d->Reps K c H vs ds->Reps K c H (v :: vs) (d :: ds)
end
structure Ext (c:Cf) (H:Hp) (c':Cf) (H':Hp):Prop where
 keep:∀b o,H b=some o->¬c.A b->H' b=some o
 av:∀b o,H b=some o->c'.A b->c.A b
 io:∀(k:Nat) (a:Addr),c.ι[k]?=some a->c'.ι[k]?=some a
theorem Ext.refl {c:Cf} {H:Hp}:Ext c H c H:=⟨λ_ _ h _=>h,λ_ _ _ h=>h,λ_ _ h=>h⟩
theorem Ext.trans {c c1 c2:Cf} {H H1 H2:Hp} (a:Ext c H c1 H1) (b:Ext c1 H1 c2 H2):Ext c H c2 H2:=by
 refine ⟨λx o h n=>?_,λx o h n=>?_,λk x h=>b.io k x (a.io k x h)⟩
 ·exact b.keep x o (a.keep x o h n) λz=>n (a.av x o h z)
 ·by_cases q:c.A x
  ·exact q
  ·exact a.av x o h (b.av x o (a.keep x o h q) n)
theorem Scr.mono {K:PySem.W.Frag} {c c':Cf} {H H':Hp} {a:Addr} {vs:List V} (e:Ext c H c' H') (h:Scr K c H a vs):Scr K c' H' a vs:=by
 rcases h with ⟨⟨o,h⟩,n⟩ | h
 ·exact .inl ⟨⟨o,e.keep _ _ h n⟩,λz=>n (e.av _ _ h z)⟩
 ·exact .inr h
theorem Scr.sq {K:PySem.W.Frag} {c:Cf} {H:Hp} {a:Addr} {vs:List V} (h:Scr K c H a vs):SqL K H a vs:=by
 rcases h with ⟨h,_⟩ | h
 ·exact .inl (.inr h)
 ·exact .inr h
theorem XFld.mono {c c':Cf} {H H':Hp} {dx:Option Addr} {ns:List Str} {vs:List V} (e:Ext c H c' H') (h:XFld c H dx ns vs):XFld c' H' dx ns vs:=by
 cases dx with
 | none=>exact h
 | some d=>exact ⟨e.keep _ _ h.1 h.2,λz=>h.2 (e.av _ _ h.1 z)⟩
mutual
theorem Rep.mono {K:PySem.W.Frag} {c c':Cf} {H H':Hp} (e:Ext c H c' H'):∀{v:V} {d:D},Rep K c H v d->Rep K c' H' v d
 | _,_,.non=>.non
 | _,_,.bl b=>.bl b
 | _,_,.int i=>.int i
 | _,_,.str x=>.str x
 | _,_,.ty n=>.ty n
 | _,_,.tup h n r=>.tup (e.keep _ _ h n) (λz=>n (e.av _ _ h z)) (Reps.mono e r)
 | _,_,.lst h n r=>.lst (e.keep _ _ h n) (λz=>n (e.av _ _ h z)) (Reps.mono e r)
 | _,_,.scr h=>.scr (h.mono e)
 | _,_,.dic h n=>.dic (e.keep _ _ h n) (λz=>n (e.av _ _ h z))
 | _,_,.obj h=>.obj (e.io _ _ h)
 | _,_,.exc g h n f r=>.exc g (e.keep _ _ h n) (λz=>n (e.av _ _ h z)) (f.mono e) (Reps.mono e r)
theorem Reps.mono {K:PySem.W.Frag} {c c':Cf} {H H':Hp} (e:Ext c H c' H'):∀{vs:List V} {ds:List D},Reps K c H vs ds->Reps K c' H' vs ds
 | _,_,.nil=>.nil
 | _,_,.cons h t=>.cons (Rep.mono e h) (Reps.mono e t)
end
section
variable {K:PySem.W.Frag} {c:Cf} {H:Hp}
theorem Reps.length:∀{vs:List V} {ds:List D},Reps K c H vs ds->vs.length=ds.length
 | _,_,.nil=>rfl
 | _,_,.cons _ t=>by simp [Reps.length t]
theorem Reps.get:∀{vs:List V} {ds:List D} {i:Nat} {v:V} {d:D},Reps K c H vs ds->vs[i]?=some v->ds[i]?=some d->Rep K c H v d
 | _,_,_,_,_,.nil,e,_=>by simp at e
 | _,_,0,_,_,.cons r _,e,e'=>by simp at e e';subst e e';exact r
 | _,_,i + 1,_,_,.cons _ t,e,e'=>Reps.get (i:=i) t (by simpa using e) (by simpa using e')
theorem Reps.at:∀{vs:List V} {ds:List D} {i:Nat} {d:D},Reps K c H vs ds->ds[i]?=some d->∃v,vs[i]?=some v/\Rep K c H v d
 | _,_,_,_,.nil,e=>by simp at e
 | _,_,0,_,.cons r _,e=>by simp at e;subst e;exact ⟨_,rfl,r⟩
 | _,_,i + 1,_,.cons _ t,e=>by
   obtain ⟨v,h1,h2⟩:=Reps.at (i:=i) t (by simpa using e)
   exact ⟨v,by simpa using h1,h2⟩
theorem Reps.append:∀{vs ws:List V} {ds es:List D},Reps K c H vs ds->Reps K c H ws es->Reps K c H (vs++ws) (ds++es)
 | _,_,_,_,.nil,s=>s
 | _,_,_,_,.cons r t,s=>.cons r (Reps.append t s)
theorem Reps.take:∀{vs:List V} {ds:List D} (n:Nat),Reps K c H vs ds->Reps K c H (vs.take n) (ds.take n)
 | _,_,0,_=>.nil
 | _,_,_ + 1,.nil=>.nil
 | _,_,n + 1,.cons r t=>.cons r (Reps.take n t)
theorem Reps.drop:∀{vs:List V} {ds:List D} (n:Nat),Reps K c H vs ds->Reps K c H (vs.drop n) (ds.drop n)
 | _,_,0,r=>r
 | _,_,_ + 1,.nil=>.nil
 | _,_,n + 1,.cons _ t=>Reps.drop n t
theorem Reps.ints:∀ns:List Int,Reps K c H (ns.map V.int) (ns.map D.int)
 | []=>.nil
 | n :: r=>.cons (.int n) (Reps.ints r)
theorem Reps.rep {vs:List V} {ds:List D} (h:Reps K c H vs ds):∀k:Nat,Reps K c H (List.replicate k vs).flatten (List.replicate k ds).flatten
 | 0=>.nil
 | k + 1=>by
   rw [List.replicate_succ,List.replicate_succ,List.flatten_cons,List.flatten_cons]
   exact h.append (Reps.rep h k)
end
inductive Ob where
 | lst (xs:List D)
 | dct (kvs:List (Key×D))
inductive Sl where
 | val (d:D)
 | own (xs:List D)
structure T where
 env:List (Option Sl)
 S:List Ob
def KVR (K:PySem.W.Frag) (c:Cf) (H:Hp):List (Key×V)->List (Key×D)->Prop:=Paired λp q=>p.1=q.1/\Rep K c H p.2 q.2
def ObR (K:PySem.W.Frag) (c:Cf) (H:Hp) (a:Addr):Ob->Prop
 | .lst ds=>∃vs,H a=some (.lst vs)/\Reps K c H vs ds
 | .dct kvs=>∃us,H a=some (.dK us)/\KVR K c H us kvs
theorem ObR.mono {K:PySem.W.Frag} {c c':Cf} {H H':Hp} {a:Addr} {o:Ob} (e:Ext c H c' H') (h:ObR K c H a o) (ha:H' a=H a):ObR K c' H' a o:=by
 cases o with
 | lst ds=>obtain ⟨vs,h1,h2⟩:=h;exact ⟨vs,ha.trans h1,h2.mono e⟩
 | dct kvs=>obtain ⟨us,h1,h2⟩:=h;exact ⟨us,ha.trans h1,Paired.mapP h2 λ_ _ z=>⟨z.1,z.2.mono e⟩⟩
theorem ObR.some {K:PySem.W.Frag} {c:Cf} {H:Hp} {a:Addr} {o:Ob} (h:ObR K c H a o):∃u,H a=some u:=by
 cases o with
 | lst ds=>obtain ⟨vs,h1,_⟩:=h;exact ⟨_,h1⟩
 | dct kvs=>obtain ⟨us,h1,_⟩:=h;exact ⟨_,h1⟩
structure SInv (K:PySem.W.Frag) (c:Cf) (S:List Ob) (H:Hp):Prop where
 len:c.ι.length=S.length
 nd:c.ι.Nodup
 obs:∀(k:Nat) (a:Addr) (o:Ob),c.ι[k]?=some a->S[k]?=some o->ObR K c H a o
 trk:∀b,c.O b->∃o,H b=some o
 dis:∀b,c.O b->b∉c.ι
theorem SInv.trkA {K:PySem.W.Frag} {c:Cf} {S:List Ob} {H:Hp} (s:SInv K c S H) {b:Addr} (h:c.A b):∃o,H b=some o:=by
 rcases h with h | h
 ·obtain ⟨k,hk,e⟩:=List.mem_iff_getElem.mp h
  have e1:c.ι[k]?=some b:=by rw [List.getElem?_eq_getElem hk,e]
  have hk':k < S.length:=by rw [<-s.len];exact hk
  exact (s.obs k b _ e1 (List.getElem?_eq_getElem hk')).some
 ·exact s.trk b h
theorem SInv.free {K:PySem.W.Frag} {c:Cf} {S:List Ob} {H:Hp} (s:SInv K c S H) {b:Addr} (h:H b=none):¬c.A b:=λz=>by
 obtain ⟨o,e⟩:=s.trkA z
 rw [h] at e;cases e
structure FInv (K:PySem.W.Frag) (Oo:Addr->Prop) (c:Cf) (t:T) (Z:St) (H:Hp):Prop where
 s:SInv K c t.S H
 len:t.env.length=Z.length
 sub:∀b,Oo b->c.O b
 val:∀(i:Nat) (d:D),t.env[i]?=some (some (.val d))->∃v,Z[i]?=some (some v)/\Rep K c H v d
 own:∀(i:Nat) (ds:List D),t.env[i]?=some (some (.own ds))->∃a vs,Z[i]?=some (some (.ref a))/\c.O a/\¬Oo a/\H a=some (.lst vs)/\Reps K c H vs ds
 inj:∀(i j:Nat) (ds es:List D) (a:Addr),t.env[i]?=some (some (.own ds))->t.env[j]?=some (some (.own es))->Z[i]?=some (some (.ref a))->Z[j]?=some (some (.ref a))->i=j
structure Stp (Oo:Addr->Prop) (c:Cf) (H:Hp) (c':Cf) (H':Hp):Prop where
 ext:Ext c H c' H'
 oo:∀b,Oo b->H' b=H b
theorem Stp.refl {Oo:Addr->Prop} {c:Cf} {H:Hp}:Stp Oo c H c H:=⟨.refl,λ_ _=>rfl⟩
theorem Stp.trans {Oo:Addr->Prop} {c c1 c2:Cf} {H H1 H2:Hp} (a:Stp Oo c H c1 H1) (b:Stp Oo c1 H1 c2 H2):Stp Oo c H c2 H2:=
 ⟨a.ext.trans b.ext,λx h=>(b.oo x h).trans (a.oo x h)⟩
section
variable {K:PySem.W.Frag} {Oo:Addr->Prop} {c:Cf} {t:T} {Z:St} {H:Hp}
theorem Ext.laid {S:List Ob} (s:SInv K c S H) {p:Addr} {o:HO} (h:H p=none):Ext c H c (upd H p o):=
 ⟨λb u e _=>by rw [Ar (Bi e h)];exact e,λ_ _ _ z=>z,λ_ _ e=>e⟩
theorem SInv.laid {S:List Ob} (s:SInv K c S H) {p:Addr} {o:HO} (h:H p=none):SInv K c S (upd H p o):=
 ⟨s.len,s.nd,λk a u e1 e2=>by
  have q:=s.obs k a u e1 e2
  obtain ⟨w,hw⟩:=q.some
  exact q.mono (Ext.laid s h) (Ar (Bi hw h)),
  λb z=>by obtain ⟨u,e⟩:=s.trk b z;exact ⟨u,by rw [Ar (Bi e h)];exact e⟩,s.dis⟩
theorem FInv.laid (f:FInv K Oo c t Z H) {p:Addr} {o:HO} (h:H p=none):FInv K Oo c t Z (upd H p o):=by
 have e:=Ext.laid (o:=o) f.s h
 refine ⟨f.s.laid h,f.len,f.sub,λi d q=>?_,λi ds q=>?_,f.inj⟩
 ·obtain ⟨v,h1,h2⟩:=f.val i d q
  exact ⟨v,h1,h2.mono e⟩
 ·obtain ⟨a,vs,h1,h2,h3,h4,h5⟩:=f.own i ds q
  exact ⟨a,vs,h1,h2,h3,by rw [Ar (Bi h4 h)];exact h4,h5.mono e⟩
theorem FInv.stp_laid (f:FInv K Oo c t Z H) {p:Addr} {o:HO} (h:H p=none):Stp Oo c H c (upd H p o):=
 ⟨Ext.laid f.s h,λb z=>by obtain ⟨u,e⟩:=f.s.trk b (f.sub b z);exact Ar (Bi e h)⟩
theorem FInv.set (f:FInv K Oo c t Z H) {i:Nat} {v:V} {d:D} (r:Rep K c H v d):FInv K Oo c { t with env:=t.env.set i (some (.val d)) } (Z.set i (some v)) H:=by
 have neq:∀{j:Nat} {x:Sl},(t.env.set i (some (.val d)))[j]?=some (some x)->(j=i/\x = .val d/\j < t.env.length)\/(j≠i/\t.env[j]?=some (some x)):=λ{j x} q=>by
  by_cases h:j=i
  ·subst h
   rw [List.getElem?_set] at q
   split at q
   ·split at q
    ·next h1=>injection q with q;injection q with q;exact .inl ⟨rfl,q.symm,h1⟩
    ·cases q
   ·next h1=>exact absurd rfl h1
  ·rw [List.getElem?_set_ne (Ne.symm h)] at q
   exact .inr ⟨h,q⟩
 refine ⟨f.s,by simp [f.len],f.sub,λj e q=>?_,λj ds q=>?_,λj k ds es a q1 q2 q3 q4=>?_⟩
 ·rcases neq q with ⟨rfl,z,hl⟩ | ⟨h,q⟩
  ·cases z
   exact ⟨v,by rw [List.getElem?_set_self (by rw [<-f.len];exact hl)],r⟩
  ·obtain ⟨u,h1,h2⟩:=f.val j e q
   exact ⟨u,by rw [List.getElem?_set_ne (Ne.symm h)];exact h1,h2⟩
 ·rcases neq q with ⟨rfl,z,_⟩ | ⟨h,q⟩
  ·cases z
  ·obtain ⟨a,vs,h1,h2⟩:=f.own j ds q
   exact ⟨a,vs,by rw [List.getElem?_set_ne (Ne.symm h)];exact h1,h2⟩
 ·rcases neq q1 with ⟨_,z,_⟩ | ⟨h,q1⟩
  ·cases z
  rcases neq q2 with ⟨_,z,_⟩ | ⟨h',q2⟩
  ·cases z
  rw [List.getElem?_set_ne (Ne.symm h)] at q3
  rw [List.getElem?_set_ne (Ne.symm h')] at q4
  exact f.inj j k ds es a q1 q2 q3 q4
theorem FInv.setOwn (f:FInv K Oo c t Z H) {i:Nat} {p:Addr} {vs:List V} {ds:List D} (h:H p=none) (r:Reps K c H vs ds) :
 ∃c',FInv K Oo c' { t with env:=t.env.set i (some (.own ds)) } (Z.set i (some (.ref p))) (upd H p (.lst vs))/\Stp Oo c H c' (upd H p (.lst vs)):=by
 let c':Cf:=⟨c.ι,λb=>c.O b\/b=p⟩
 have nA:¬c.A p:=f.s.free h
 have ext:Ext c H c' (upd H p (.lst vs)):=by
  refine ⟨λb u e _=>by rw [Ar (Bi e h)];exact e,λb u e z=>?_,λ_ _ e=>e⟩
  rcases z with z | z | z
  ·exact .inl z
  ·exact .inr z
  ·subst z;rw [h] at e;cases e
 have stp:Stp Oo c H c' (upd H p (.lst vs)):=⟨ext,λb z=>by obtain ⟨u,e⟩:=f.s.trk b (f.sub b z);exact Ar (Bi e h)⟩
 have sinv:SInv K c' t.S (upd H p (.lst vs)):=by
  refine ⟨f.s.len,f.s.nd,λk a u e1 e2=>?_,λb z=>?_,λb z hb=>?_⟩
  ·have q:=f.s.obs k a u e1 e2
   obtain ⟨w,hw⟩:=q.some
   exact q.mono ext (Ar (Bi hw h))
  ·rcases z with z | z
   ·obtain ⟨u,e⟩:=f.s.trk b z;exact ⟨u,by rw [Ar (Bi e h)];exact e⟩
   ·subst z;exact ⟨_,Az⟩
  ·rcases z with z | z
   ·exact f.s.dis b z hb
   ·subst z;exact nA (.inl hb)
 have neq:∀{j:Nat} {x:Sl},(t.env.set i (some (.own ds)))[j]?=some (some x)->(j=i/\x = .own ds/\j < t.env.length)\/(j≠i/\t.env[j]?=some (some x)):=λ{j x} q=>by
  by_cases h:j=i
  ·subst h
   rw [List.getElem?_set] at q
   split at q
   ·split at q
    ·next h1=>injection q with q;injection q with q;exact .inl ⟨rfl,q.symm,h1⟩
    ·cases q
   ·next h1=>exact absurd rfl h1
  ·rw [List.getElem?_set_ne (Ne.symm h)] at q
   exact .inr ⟨h,q⟩
 have fresh:∀(j:Nat) (es:List D),t.env[j]?=some (some (.own es))->Z[j]?≠some (some (.ref p)):=λj es q z=>by
  obtain ⟨a,vs',h1,_,_,h4,_⟩:=f.own j es q
  rw [h1] at z;injection z with z;injection z with z;injection z with z;subst z;rw [h] at h4;cases h4
 refine ⟨c',⟨sinv,by simp [f.len],λb z=>.inl (f.sub b z),λj e q=>?_,λj es q=>?_,λj k ds' es a q1 q2 q3 q4=>?_⟩,stp⟩
 ·rcases neq q with ⟨_,z,_⟩ | ⟨hn,q⟩
  ·cases z
  ·obtain ⟨u,h1,h2⟩:=f.val j e q
   exact ⟨u,by rw [List.getElem?_set_ne (Ne.symm hn)];exact h1,h2.mono ext⟩
 ·rcases neq q with ⟨rfl,z,hl⟩ | ⟨hn,q⟩
  ·cases z
   refine ⟨p,vs,by rw [List.getElem?_set_self (by rw [<-f.len];exact hl)],.inr rfl,λz=>?_,Az,r.mono ext⟩
   obtain ⟨u,e⟩:=f.s.trk p (f.sub p z)
   rw [h] at e;cases e
  ·obtain ⟨a,ws,h1,h2,h3,h4,h5⟩:=f.own j es q
   exact ⟨a,ws,by rw [List.getElem?_set_ne (Ne.symm hn)];exact h1,.inl h2,h3,by rw [Ar (Bi h4 h)];exact h4,h5.mono ext⟩
 ·rcases neq q1 with ⟨z1,z2,l1⟩ | ⟨n1,r1⟩
  ·rcases neq q2 with ⟨y1,_,_⟩ | ⟨n2,r2⟩
   ·rw [z1,y1]
   ·subst z1
    rw [List.getElem?_set_self (by rw [<-f.len];exact l1)] at q3
    injection q3 with q3;injection q3 with q3;injection q3 with q3;subst q3
    rw [List.getElem?_set_ne (Ne.symm n2)] at q4
    exact absurd q4 (fresh k es r2)
  ·rcases neq q2 with ⟨y1,y2,l2⟩ | ⟨n2,r2⟩
   ·subst y1
    rw [List.getElem?_set_self (by rw [<-f.len];exact l2)] at q4
    injection q4 with q4;injection q4 with q4;injection q4 with q4;subst q4
    rw [List.getElem?_set_ne (Ne.symm n1)] at q3
    exact absurd q3 (fresh j ds' r1)
   ·rw [List.getElem?_set_ne (Ne.symm n1)] at q3
    rw [List.getElem?_set_ne (Ne.symm n2)] at q4
    exact f.inj j k ds' es a r1 r2 q3 q4
theorem FInv.frz (f:FInv K Oo c t Z H) {i:Nat} {ds:List D} (q:t.env[i]?=some (some (.own ds))) :
 ∃c' v,FInv K Oo c' { t with env:=t.env.set i (some (.val (.lst ds))) } Z H/\Stp Oo c H c' H/\Z[i]?=some (some v)/\Rep K c' H v (.lst ds):=by
 obtain ⟨a,vs,h1,h2,h3,h4,h5⟩:=f.own i ds q
 let c':Cf:=⟨c.ι,λb=>c.O b/\b≠a⟩
 have ext:Ext c H c' H:=⟨λ_ _ e _=>e,λb u e z=>z.elim .inl λw=>.inr w.1,λ_ _ e=>e⟩
 have sinv:SInv K c' t.S H:=⟨f.s.len,f.s.nd,λk b u e1 e2=>(f.s.obs k b u e1 e2).mono ext rfl,λb z=>f.s.trk b z.1,λb z=>f.s.dis b z.1⟩
 have nA:¬c'.A a:=λz=>z.elim (λw=>f.s.dis a h2 w) λw=>w.2 rfl
 have hZ:Z.set i (some (.ref a))=Z:=by
  apply List.ext_getElem?
  intro j
  by_cases hj:j=i
  ·subst hj
   rw [List.getElem?_set_self (by have:=(List.getElem?_eq_some_iff.mp h1).1;exact this),h1]
  ·rw [List.getElem?_set_ne (Ne.symm hj)]
 have r:Rep K c' H (.ref a) (.lst ds):=.lst h4 nA (h5.mono ext)
 have f0:FInv K Oo c' { t with env:=t.env.set i (some (.val (.lst ds))) } Z H:=by
  have neq:∀{j:Nat} {x:Sl},(t.env.set i (some (.val (.lst ds))))[j]?=some (some x)->(j=i/\x = .val (.lst ds))\/(j≠i/\t.env[j]?=some (some x)):=λ{j x} q=>by
   by_cases h:j=i
   ·subst h
    rw [List.getElem?_set] at q
    split at q
    ·split at q
     ·injection q with q;injection q with q;exact .inl ⟨rfl,q.symm⟩
     ·cases q
    ·next h1=>exact absurd rfl h1
   ·rw [List.getElem?_set_ne (Ne.symm h)] at q
    exact .inr ⟨h,q⟩
  refine ⟨sinv,by simp [f.len],λb z=>⟨f.sub b z,λw=>h3 (w ▸ z)⟩,λj e q'=>?_,λj es q'=>?_,λj k ds' es b q1 q2 q3 q4=>?_⟩
  ·rcases neq q' with ⟨rfl,z⟩ | ⟨hn,q'⟩
   ·cases z;exact ⟨_,h1,r⟩
   ·obtain ⟨u,w1,w2⟩:=f.val j e q'
    exact ⟨u,w1,w2.mono ext⟩
  ·rcases neq q' with ⟨_,z⟩ | ⟨hn,q'⟩
   ·cases z
   ·obtain ⟨b,ws,w1,w2,w3,w4,w5⟩:=f.own j es q'
    refine ⟨b,ws,w1,⟨w2,λz=>?_⟩,w3,w4,w5.mono ext⟩
    subst z
    exact hn (f.inj j i es ds b q' q w1 h1)
  ·rcases neq q1 with ⟨_,z⟩ | ⟨_,q1⟩
   ·cases z
   rcases neq q2 with ⟨_,z⟩ | ⟨_,q2⟩
   ·cases z
   exact f.inj j k ds' es b q1 q2 q3 q4
 exact ⟨c',_,f0,⟨ext,λ_ _=>rfl⟩,h1,r⟩
theorem FInv.wrOwn (f:FInv K Oo c t Z H) {i:Nat} {ds ds':List D} {vs':List V} {a:Addr} (q:t.env[i]?=some (some (.own ds))) (h1:Z[i]?=some (some (.ref a))) (r:Reps K c H vs' ds') :
 FInv K Oo c { t with env:=t.env.set i (some (.own ds')) } Z (upd H a (.lst vs'))/\Stp Oo c H c (upd H a (.lst vs')):=by
 obtain ⟨a',vs,g1,h2,h3,h4,h5⟩:=f.own i ds q
 rw [h1] at g1;injection g1 with g1;injection g1 with g1;injection g1 with g1;subst g1
 have ext:Ext c H c (upd H a (.lst vs')):=⟨λb u e n=>by rw [Ar (λ(z:b=a)=>n (.inr (by rw [z];exact h2)))];exact e,λ_ _ _ z=>z,λ_ _ e=>e⟩
 have stp:Stp Oo c H c (upd H a (.lst vs')):=⟨ext,λb z=>Ar λw=>h3 (w ▸ z)⟩
 have sinv:SInv K c t.S (upd H a (.lst vs')):=by
  refine ⟨f.s.len,f.s.nd,λk b u e1 e2=>(f.s.obs k b u e1 e2).mono ext (Ar λz=>f.s.dis a h2 (z ▸ List.mem_of_getElem? e1)),λb z=>?_,f.s.dis⟩
  by_cases hb:b=a
  ·subst hb;exact ⟨_,Az⟩
  ·obtain ⟨u,e⟩:=f.s.trk b z;exact ⟨u,by rw [Ar hb];exact e⟩
 have neq:∀{j:Nat} {x:Sl},(t.env.set i (some (.own ds')))[j]?=some (some x)->(j=i/\x = .own ds')\/(j≠i/\t.env[j]?=some (some x)):=λ{j x} q=>by
  by_cases h:j=i
  ·subst h
   rw [List.getElem?_set] at q
   split at q
   ·split at q
    ·injection q with q;injection q with q;exact .inl ⟨rfl,q.symm⟩
    ·cases q
   ·next h1=>exact absurd rfl h1
  ·rw [List.getElem?_set_ne (Ne.symm h)] at q
   exact .inr ⟨h,q⟩
 refine ⟨⟨sinv,by simp [f.len],f.sub,λj e q'=>?_,λj es q'=>?_,λj k es es' b q1 q2 q3 q4=>?_⟩,stp⟩
 ·rcases neq q' with ⟨_,z⟩ | ⟨_,q'⟩
  ·cases z
  ·obtain ⟨u,w1,w2⟩:=f.val j e q'
   exact ⟨u,w1,w2.mono ext⟩
 ·rcases neq q' with ⟨rfl,z⟩ | ⟨hn,q'⟩
  ·cases z;exact ⟨a,vs',h1,h2,h3,Az,r.mono ext⟩
  ·obtain ⟨b,ws,w1,w2,w3,w4,w5⟩:=f.own j es q'
   have hb:b≠a:=λz=>by subst z;exact hn (f.inj j i es ds b q' q w1 h1)
   exact ⟨b,ws,w1,w2,w3,by rw [Ar hb];exact w4,w5.mono ext⟩
 ·have old:∀{j:Nat} {x:List D},(t.env.set i (some (.own ds')))[j]?=some (some (.own x))->∃y,t.env[j]?=some (some (.own y)):=λ{j x} q'=>by
   rcases neq q' with ⟨rfl,_⟩ | ⟨_,q'⟩
   ·exact ⟨ds,q⟩
   ·exact ⟨x,q'⟩
  obtain ⟨y1,z1⟩:=old q1
  obtain ⟨y2,z2⟩:=old q2
  exact f.inj j k y1 y2 b z1 z2 q3 q4
theorem FInv.wrObj (f:FInv K Oo c t Z H) {k:Nat} {a:Addr} {o:Ob} {u:HO} (e:c.ι[k]?=some a) (r:∀c' H',Ext c H c' H'->H' a=some u->ObR K c' H' a o) :
 FInv K Oo c { t with S:=t.S.set k o } Z (upd H a u)/\Stp Oo c H c (upd H a u):=by
 have hA:a∈c.ι:=List.mem_of_getElem? e
 have ext:Ext c H c (upd H a u):=⟨λb w h n=>by rw [Ar (λ(z:b=a)=>n (.inl (by rw [z];exact hA)))];exact h,λ_ _ _ z=>z,λ_ _ e=>e⟩
 have neO:∀b,c.O b->b≠a:=λb z w=>f.s.dis b z (w ▸ hA)
 have stp:Stp Oo c H c (upd H a u):=⟨ext,λb z=>Ar (neO b (f.sub b z))⟩
 have sinv:SInv K c (t.S.set k o) (upd H a u):=by
  refine ⟨by simp [f.s.len],f.s.nd,λj b o' e1 e2=>?_,λb z=>?_,f.s.dis⟩
  ·by_cases hj:j=k
   ·subst hj
    rw [e] at e1;cases e1
    have hl:j < t.S.length:=by rw [<-f.s.len];exact (List.getElem?_eq_some_iff.mp e).1
    rw [List.getElem?_set_self hl] at e2;cases e2
    exact r c _ ext Az
   ·rw [List.getElem?_set_ne (Ne.symm hj)] at e2
    refine (f.s.obs j b o' e1 e2).mono ext (Ar λz=>?_)
    subst z
    obtain ⟨l1,g1⟩:=List.getElem?_eq_some_iff.mp e1
    obtain ⟨l2,g2⟩:=List.getElem?_eq_some_iff.mp e
    exact hj ((List.getElem_inj f.s.nd).mp (g1.trans g2.symm))
  ·obtain ⟨w,h⟩:=f.s.trk b z;exact ⟨w,by rw [Ar (neO b z)];exact h⟩
 refine ⟨⟨sinv,f.len,f.sub,λi d q=>?_,λi ds q=>?_,f.inj⟩,stp⟩
 ·obtain ⟨v,h1,h2⟩:=f.val i d q
  exact ⟨v,h1,h2.mono ext⟩
 ·obtain ⟨b,vs,h1,h2,h3,h4,h5⟩:=f.own i ds q
  exact ⟨b,vs,h1,h2,h3,by rw [Ar (neO b h2)];exact h4,h5.mono ext⟩
theorem FInv.newObj (f:FInv K Oo c t Z H) {p:Addr} {o:Ob} {u:HO} (h:H p=none) (r:∀c' H',Ext c H c' H'->H' p=some u->ObR K c' H' p o) :
 ∃c',FInv K Oo c' { t with S:=t.S++[o] } Z (upd H p u)/\Stp Oo c H c' (upd H p u)/\c'.ι[t.S.length]?=some p:=by
 let c':Cf:=⟨c.ι++[p],c.O⟩
 have nA:¬c.A p:=f.s.free h
 have ext:Ext c H c' (upd H p u):=by
  refine ⟨λb w e _=>by rw [Ar (Bi e h)];exact e,λb w e z=>?_,λk a e=>?_⟩
  ·rcases z with z | z
   ·rcases List.mem_append.mp z with z | z
    ·exact .inl z
    ·rw [List.mem_singleton] at z;subst z;rw [h] at e;cases e
   ·exact .inr z
  ·show (c.ι++[p])[k]?=some a
   rw [List.getElem?_append_left (List.getElem?_eq_some_iff.mp e).1];exact e
 have stp:Stp Oo c H c' (upd H p u):=⟨ext,λb z=>by obtain ⟨w,e⟩:=f.s.trk b (f.sub b z);exact Ar (Bi e h)⟩
 have at_:(c.ι++[p])[t.S.length]?=some p:=by rw [<-f.s.len,List.getElem?_append_right (Nat.le_refl _)];simp
 have sinv:SInv K c' (t.S++[o]) (upd H p u):=by
  refine ⟨by simp [c',f.s.len],?_,λj b o' e1 e2=>?_,λb z=>?_,λb z hb=>?_⟩
  ·show (c.ι++[p]).Nodup
   exact List.nodup_append.mpr ⟨f.s.nd,by simp,λx hx y hy z=>by rw [List.mem_singleton] at hy;subst z;subst hy;exact nA (.inl hx)⟩
  ·have hlt:j < (t.S++[o]).length:=(List.getElem?_eq_some_iff.mp e2).1
   by_cases hj:j < t.S.length
   ·have e1':c.ι[j]?=some b:=by
     have q:(c.ι++[p])[j]?=some b:=e1
     rw [List.getElem?_append_left (by rw [f.s.len];exact hj)] at q;exact q
    rw [List.getElem?_append_left hj] at e2
    have q:=f.s.obs j b o' e1' e2
    obtain ⟨w,hw⟩:=q.some
    exact q.mono ext (Ar (Bi hw h))
   ·have hj':j=t.S.length:=by simp at hlt;lia
    subst hj'
    rw [at_] at e1;cases e1
    rw [List.getElem?_append_right (Nat.le_refl _)] at e2
    simp at e2;subst e2
    exact r c' _ ext Az
  ·obtain ⟨w,e⟩:=f.s.trk b z;exact ⟨w,by rw [Ar (Bi e h)];exact e⟩
  ·rcases List.mem_append.mp hb with w | w
   ·exact f.s.dis b z w
   ·rw [List.mem_singleton] at w;subst w;exact nA (.inr z)
 refine ⟨c',⟨sinv,f.len,f.sub,λi d q=>?_,λi ds q=>?_,f.inj⟩,stp,at_⟩
 ·obtain ⟨v,h1,h2⟩:=f.val i d q
  exact ⟨v,h1,h2.mono ext⟩
 ·obtain ⟨b,vs,h1,h2,h3,h4,h5⟩:=f.own i ds q
  exact ⟨b,vs,h1,h2,h3,by rw [Ar (Bi h4 h)];exact h4,h5.mono ext⟩
theorem FInv.after (f:FInv K Oo c t Z H) {c':Cf} {S':List Ob} {H':Hp} (s:SInv K c' S' H') (st:Stp c.O c H c' H') (ho:∀b,c'.O b↔c.O b):FInv K Oo c' { t with S:=S' } Z H'/\Stp Oo c H c' H':=by
 refine ⟨⟨s,f.len,λb z=>(ho b).mpr (f.sub b z),λi d q=>?_,λi ds q=>?_,f.inj⟩,st.ext,λb z=>st.oo b (f.sub b z)⟩
 ·obtain ⟨v,h1,h2⟩:=f.val i d q
  exact ⟨v,h1,h2.mono st.ext⟩
 ·obtain ⟨b,vs,h1,h2,h3,h4,h5⟩:=f.own i ds q
  exact ⟨b,vs,h1,(ho b).mpr h2,h3,(st.oo b h2).trans h4,h5.mono st.ext⟩
end
abbrev M (α:Type):=T->Option (α×T)
inductive Out where
 | next | brk | cont | ret (d:D)
noncomputable def ret {α:Type} (a:α):M α:=λt=>some (a,t)
noncomputable def fail {α:Type}:M α:=λ_=>none
noncomputable def bnd {α β:Type} (f:M α) (g:α->M β):M β:=λt=>match f t with
 | some (a,t1)=>g a t1
 | none=>none
theorem Au {α β:Type} {f:M α} {g:α->M β} {t:T} {z:β×T} (h:bnd f g t=some z):∃a t1,f t=some (a,t1)/\g a t1=some z:=by
 unfold bnd at h
 cases e:f t with
 | none=>rw [e] at h;cases h
 | some p=>obtain ⟨a,t1⟩:=p;rw [e] at h;exact ⟨a,t1,rfl,h⟩
noncomputable def LIM:Nat:=100000
theorem CI:LIM<=sizeLine:=by unfold LIM;decide
theorem UW:LIM < sizeLine:=by unfold LIM;decide
section
variable (K:PySem.W.Frag)
def RE (f:M D):TE:=λZ H Q=>∃Oo c t,FInv K Oo c t Z H/\∃r t',f t=some (r,t')/\∀v H' c',FInv K Oo c' t' Z H'->Stp Oo c H c' H'->Rep K c' H' v r->Q v H'
def RT (f:M Bool):TT:=λZ H Q=>∃Oo c t,FInv K Oo c t Z H/\∃r t',f t=some (r,t')/\∀H' c',FInv K Oo c' t' Z H'->Stp Oo c H c' H'->Q r H'
def RA (f:M (List D)):TA:=λZ H Q=>∃Oo c t,FInv K Oo c t Z H/\∃r t',f t=some (r,t')/\∀vs H' c',FInv K Oo c' t' Z H'->Stp Oo c H c' H'->Reps K c' H' vs r->Q vs H'
def RF (f:M (List D)):TE:=λZ H Q=>∃Oo c t,FInv K Oo c t Z H/\∃ds t',f t=some (ds,t')/\∀p vs H' c',FInv K Oo c' t' Z H'->Stp Oo c H c' H'->Reps K c' H' vs ds->H' p=none->Q (.ref p) (upd H' p (.lst vs))
def RSg (μ:Cf->Hp->D->(V->Hp->Prop)->Prop) (f:M Out):TS:=λE Z H=>∃Oo c t,FInv K Oo c t Z H/\∃o t',f t=some (o,t')/\∀Z' H' c',FInv K Oo c' t' Z' H'->Stp Oo c H c' H'->
 match o with
 | .next=>E.nx Z' H'
 | .brk=>E.bk Z' H'
 | .cont=>E.ct Z' H'
 | .ret r=>μ c' H' r E.rt
def μR:Cf->Hp->D->(V->Hp->Prop)->Prop:=λc H r rt=>∀v,Rep K c H v r->rt v H
def μF:Cf->Hp->D->(V->Hp->Prop)->Prop:=λc H r rt=>match r with
 | .lst ds=>∀p us,H p=none->Reps K c H us ds->rt (.ref p) (upd H p (.lst us))
 | _=>False
abbrev RS (f:M Out):TS:=RSg K (μR K) f
def RG (f:D->M Unit):TG:=λv Z H Q=>∃Oo c t d,FInv K Oo c t Z H/\Rep K c H v d/\∃t',f d t=some ((),t')/\∀Z' H' c',FInv K Oo c' t' Z' H'->Stp Oo c H c' H'->Q Z' H'
structure ItOk (J:It) (c:Cf) (H:Hp) (ds:List D):Prop where
 go:∀c' H' (i:Nat),Ext c H c' H'->i < ds.length->J.go i H'
 yld:∀c' H' (i:Nat) x H'' d,Ext c H c' H'->ds[i]?=some d->J.yld i H' x H''->H''=H'/\Rep K c' H' x d
 stop:∀c' H',Ext c H c' H'->J.stop ds.length H'
def RI (f:M (List D)):TI:=λZ H R=>∃Oo c t,FInv K Oo c t Z H/\∃ds t',f t=some (ds,t')/\∀J H' c',FInv K Oo c' t' Z H'->Stp Oo c H c' H'->ItOk K J c' H' ds->R J H'
def BZ (R:R2) (h:D->D->M D):Prop:=∀{Oo:Addr->Prop} {c:Cf} {t:T} {Z:L2.St} {H:Hp} {x y:V} {dx dy r:D} {t':T} {Q:VK},FInv K Oo c t Z H->Rep K c H x dx->Rep K c H y dy->h dx dy t=some (r,t')->
 (∀v H' c',FInv K Oo c' t' Z H'->Stp Oo c H c' H'->Rep K c' H' v r->Q v H')->R x y H Q
def Fb (R:List V->Hp->VK->Prop) (h:List D->M D):Prop:=∀{Oo:Addr->Prop} {c:Cf} {t:T} {Z:L2.St} {H:Hp} {xs:List V} {ds:List D} {r:D} {t':T} {Q:VK},FInv K Oo c t Z H->Reps K c H xs ds->h ds t=some (r,t')->
 (∀v H' c',FInv K Oo c' t' Z H'->Stp Oo c H c' H'->Rep K c' H' v r->Q v H')->R xs H Q
def Ot (R:R2) (h:D->D->M (List D)):Prop:=∀{Oo:Addr->Prop} {c:Cf} {t:T} {Z:L2.St} {H:Hp} {x y:V} {dx dy:D} {r:List D} {t':T} {Q:VK},FInv K Oo c t Z H->Rep K c H x dx->Rep K c H y dy->h dx dy t=some (r,t')->
 (∀p vs H' c',FInv K Oo c' t' Z H'->Stp Oo c H c' H'->Reps K c' H' vs r->H' p=none->Q (.ref p) (upd H' p (.lst vs)))->R x y H Q
def LF (R:List V->Hp->VK->Prop) (h:List D->M (List D)):Prop:=∀{Oo:Addr->Prop} {c:Cf} {t:T} {Z:L2.St} {H:Hp} {xs:List V} {ds r:List D} {t':T} {Q:VK},FInv K Oo c t Z H->Reps K c H xs ds->h ds t=some (r,t')->
 (∀p vs H' c',FInv K Oo c' t' Z H'->Stp Oo c H c' H'->Reps K c' H' vs r->H' p=none->Q (.ref p) (upd H' p (.lst vs)))->R xs H Q
end
section
variable {X:Cx} {e a b:Expr} {pos:Pos}
theorem BN {t t':TE} (h:PE X e t) (i:∀Z H Q,t' Z H Q->t Z H Q):PE X e t':=λpins s Z H Q I q=>h pins s Z H Q I (i Z H Q q)
theorem L4 {t t':TT} (h:PT X e t) (i:∀Z H Q,t' Z H Q->t Z H Q):PT X e t':=λpins s Z H Q I q=>h pins s Z H Q I (i Z H Q q)
theorem Pm {t t':TT} (h:PW X e t) (i:∀Z H Q,t' Z H Q->t Z H Q):PW X e t':=λw pins s Z H Q I q=>h w pins s Z H Q I (i Z H Q q)
theorem Pj {es:List Expr} {t t':TA} (h:PA X es t) (i:∀Z H Q,t' Z H Q->t Z H Q):PA X es t':=λpos pins s Z H Q I q=>h pos pins s Z H Q I (i Z H Q q)
theorem Cc {st:Stmt} {t t':TS} (h:PS X st t) (i:∀E Z H,t' E Z H->t E Z H):PS X st t':=λpins s Z H E I q=>h pins s Z H E I (i E Z H q)
theorem NR {st:List Stmt} {t t':TS} (h:PSs X st t) (i:∀E Z H,t' E Z H->t E Z H):PSs X st t':=λpins s Z H E I q=>h pins s Z H E I (i E Z H q)
theorem LY {t t':TG} (h:PG X e t) (i:∀v Z H Q,t' v Z H Q->t v Z H Q):PG X e t':=λpins s Z H v u Q I r q=>h pins s Z H v u Q I r (i v Z H Q q)
theorem LZ {tg:Expr} {t t':TI} (h:PI X tg e t) (i:∀Z H R,t' Z H R->t Z H R):PI X tg e t':=λpins s Z H R I q=>h pins s Z H R I (i Z H R q)
def fC (d:D):M D:=ret d
theorem Iy {v:V} {d:D} (h:PE X e (tC v)) (r:∀c H,Rep X.K c H v d):PE X e (RE X.K (fC d)):=
 BN h λZ H Q ⟨Oo,c,t,f,r',t',eq,k⟩=>by
  cases eq
  exact k v H c f .refl (r c H)
theorem Ag {i:Int} {j:Nat}:PE X (.Constant (.int i) j pos) (RE X.K (fC (.int i))):=Iy Vy λ_ _=>.int i
theorem Dm {i:Bool} {j:Nat}:PE X (.Constant (.bool i) j pos) (RE X.K (fC (.bl i))):=Iy WR λ_ _=>.bl i
theorem AE {i:Str} {j:Nat}:PE X (.Constant (.str i) j pos) (RE X.K (fC (.str i))):=Iy Qp λ_ _=>.str i
theorem CD {j:Nat}:PE X (.Constant .none j pos) (RE X.K (fC .non)):=Iy VA λ_ _=>.non
theorem HJ {x:Str} {i:Int} {tk:Tok} (hg:Gl X x) (hm:X.mg x=some (.int i tk)) (hd:(x == ("__debug__" : Str))=false:=by decide):PE X (.Name x pos) (RE X.K (fC (.int i))):=
 Iy (KJ hg hm (v:=.int i) ⟨tk,rfl⟩ hd) λ_ _=>.int i
theorem Rc {x:Str} {y:Str} {tk:Tok} (hg:Gl X x) (hm:X.mg x=some (.str y tk)) (hd:(x == ("__debug__" : Str))=false:=by decide):PE X (.Name x pos) (RE X.K (fC (.str y))):=
 Iy (KJ hg hm (v:=.str y) ⟨tk,rfl⟩ hd) λ_ _=>.str y
theorem GG {x:Str} {n:String} (hg:Gl X x) (hm:X.mg x=none) (hv:bootBuiltins x=some (.type n)) (hn:x≠"__name__":=by decide) (hd:(x == ("__debug__" : Str))=false:=by decide):PE X (.Name x pos) (RE X.K (fC (.ty n))):=
 Iy (N6 hg hm hv (v:=.ty n) rfl hn hd) λ_ _=>.ty n
noncomputable def Ad (i:Nat):M D:=λt=>match t.env[i]? with
 | some (some (.val d))=>some (d,t)
 | some (some (.own ds))=>some (.lst ds,{ t with env:=t.env.set i (some (.val (.lst ds))) })
 | _=>none
theorem OG {i:Nat} {t t':T} {r:D} (h:Ad i t=some (r,t')):(t.env[i]?=some (some (.val r))/\t'=t)\/∃ds,t.env[i]?=some (some (.own ds))/\r = .lst ds/\t' = { t with env:=t.env.set i (some (.val (.lst ds))) }:=by
 unfold Ad at h
 cases e:t.env[i]? with
 | none=>rw [e] at h;cases h
 | some o=>
   cases o with
   | none=>rw [e] at h;cases h
   | some sl=>
     cases sl with
     | val d=>rw [e] at h;cases h;exact .inl ⟨rfl,rfl⟩
     | own ds=>rw [e] at h;cases h;exact .inr ⟨ds,rfl,rfl,rfl⟩
theorem Ab (i:Nat) {x:Str} (hN:X.N[i]?=some x:=by rfl) (hv:Vis X.env.scope x:=by first | exact Or.inl rfl | exact Or.inr (Or.inl rfl) | exact Or.inr (Or.inr rfl)) (hd:(x == ("__debug__" : Str))=false:=by decide)
 (hcd:(x == ("__classdict__" : Str))=false:=by decide):PE X (.Name x pos) (RE X.K (Ad i)):=
 BN (Du hN hv hd hcd) λZ H Q ⟨Oo,c,t,f,r,t',eq,k⟩=>by
  rcases OG eq with ⟨q,rfl⟩ | ⟨ds,q,rfl,rfl⟩
  ·obtain ⟨v,h1,h2⟩:=f.val i r q
   exact ⟨v,h1,k v H c f .refl h2⟩
  ·obtain ⟨c',v,f',st,h1,h2⟩:=f.frz q
   exact ⟨v,h1,k v H c' f' st h2⟩
def Ah (f g:M D) (h:D->D->M D):M D:=bnd f λx=>bnd g λy=>h x y
theorem RE.two {K:PySem.W.Frag} {f g:M D} {h:D->D->M D} {R:R2} (s:BZ K R h) {Z:L2.St} {H:Hp} {Q:VK} (q:RE K (Ah f g h) Z H Q):tOp R (RE K f) (RE K g) Z H Q:=by
 obtain ⟨Oo,c,t,fi,r,t',eq,k⟩:=q
 obtain ⟨dx,t1,e1,eq⟩:=Au eq
 obtain ⟨dy,t2,e2,eq⟩:=Au eq
 exact ⟨Oo,c,t,fi,dx,t1,e1,λx H1 c1 f1 s1 rx=>⟨Oo,c1,t1,f1,dy,t2,e2,λy H2 c2 f2 s2 ry=>s f2 (rx.mono s2.ext) ry eq λv H' c' f' s' rv=>k v H' c' f' ((s1.trans s2).trans s') rv⟩⟩
theorem AC {op:Operator} {R:R2} {f g:M D} {h:D->D->M D} (ho:OpR X (binaryOp op) R) (s:BZ X.K R h) (ha:PE X a (RE X.K f)) (hb:PE X b (RE X.K g)):PE X (.BinOp a op b pos) (RE X.K (Ah f g h)):=
 BN (OV ho ha hb) λ_ _ _ q=>RE.two s q
theorem FH {op:CmpOp} {R:R2} {f g:M D} {h:D->D->M D} (ho:OpR X (compareOp op) R) (s:BZ X.K R h) (ha:PE X a (RE X.K f)) (hb:PE X b (RE X.K g)) (hm:behindInMarks op b=false):PE X (.Compare a [op] [b] pos) (RE X.K (Ah f g h)):=
 BN (T7 ho ha hb hm) λ_ _ _ q=>RE.two s q
theorem An {R:R2} {f g:M D} {h:D->D->M D} (hr:IxR X R) (s:BZ X.K R h) (ha:PE X a (RE X.K f)) (hb:PE X b (RE X.K g)) (hs:NS b):PE X (.Subscript a b pos) (RE X.K (Ah f g h)):=
 BN (WS hr ha hb hs) λ_ _ _ q=>RE.two s q
def fUn (f:M D) (h:D->M D):M D:=bnd f h
def toB:D->M Bool
 | .bl b=>ret b
 | _=>fail
def AT (f:M D):M Bool:=bnd f toB
theorem Jb {d:D} {t:T} {z:Bool×T} (h:toB d t=some z):∃b,d = .bl b/\z=(b,t):=by
 cases d with
 | bl b=>cases h;exact ⟨b,rfl,rfl⟩
 | _=>cases h
theorem RT.val {K:PySem.W.Frag} {f:M D} {Z:L2.St} {H:Hp} {Q:Bool->Hp->Prop} (q:RT K (AT f) Z H Q):RE K f Z H λx H1=>∃k,x = .bl k/\Q k H1:=by
 obtain ⟨Oo,c,t,fi,r,t',eq,k⟩:=q
 obtain ⟨d,t1,e1,eq⟩:=Au eq
 obtain ⟨b,rfl,z⟩:=Jb eq
 cases z
 refine ⟨Oo,c,t,fi,_,t',e1,λv H1 c1 f1 s1 rv=>?_⟩
 cases rv
 exact ⟨r,rfl,k H1 c1 f1 s1⟩
theorem Df {f:M D} (h:PE X e (RE X.K f)) (he:∀whole,isTrue e X.env whole=(do let v <-whole;standAt e.pos;holding [v] (truthy v)):=by intro _;rfl):PT X e (RT X.K (AT f)):=
 L4 (VO h he) λ_ _ _ q=>RT.val q
theorem AU {op:CmpOp} {R:R2} {f g:M D} {h:D->D->M D} (ho:OpR X (compareOp op) R) (s:BZ X.K R h) (ha:PE X a (RE X.K f)) (hb:PE X b (RE X.K g)) (hm:behindInMarks op b=false):PT X (.Compare a [op] [b] pos) (RT X.K (AT (Ah f g h))):=
 L4 (Uj ho ha hb hm) λZ H Q q=>RE.two s (RT.val q)
def FG (f g w:M D) (h h':D->D->M D):M D:=bnd f λx=>bnd g λy=>bnd (AT (h x y)) λk=>if k=true then bnd w λz=>h' y z else ret (.bl false)
theorem RE.chain {K:PySem.W.Frag} {f g w:M D} {h h':D->D->M D} {R R':R2} (s:BZ K R h) (s':BZ K R' h') {Z:L2.St} {H:Hp} {Q:VK} (q:RE K (FG f g w h h') Z H Q):QI R R' (RE K f) (RE K g) (RE K w) Z H Q:=by
 obtain ⟨Oo,c,t,fi,r,t',eq,k⟩:=q
 obtain ⟨dx,t1,e1,eq⟩:=Au eq
 obtain ⟨dy,t2,e2,eq⟩:=Au eq
 obtain ⟨kb,t3,e3,eq⟩:=Au eq
 obtain ⟨d3,t3',e3',e3⟩:=Au e3
 obtain ⟨b3,rfl,z⟩:=Jb e3
 cases z
 refine ⟨Oo,c,t,fi,dx,t1,e1,λx H1 c1 f1 s1 rx=>⟨Oo,c1,t1,f1,dy,t2,e2,λy H2 c2 f2 s2 ry=>s f2 (rx.mono s2.ext) ry e3' λv H3 c3 f3 s3 rv=>?_⟩⟩
 cases rv
 refine ⟨kb,rfl,?_⟩
 cases kb with
 | false=>
   rw [if_neg Bool.false_ne_true] at eq ⊢
   cases eq
   exact k _ H3 c3 f3 ((s1.trans s2).trans s3) (.bl false)
 | true=>
   rw [if_pos rfl] at eq ⊢
   obtain ⟨dz,t4,e4,eq⟩:=Au eq
   exact ⟨Oo,c3,t3,f3,dz,t4,e4,λw' H4 c4 f4 s4 rw'=>s' f4 (ry.mono (s3.trans s4).ext) rw' eq λv H' c' f' s' rv=>k v H' c' f' ((((s1.trans s2).trans s3).trans s4).trans s') rv⟩
theorem MC {d:Expr} {op op':CmpOp} {R R':R2} {f g w:M D} {h h':D->D->M D} (ho:OpR X (compareOp op) R) (ho':OpR X (compareOp op') R') (s:BZ X.K R h) (s':BZ X.K R' h') (ha:PE X a (RE X.K f)) (hb:PE X b (RE X.K g)) (hd:PE X d (RE X.K w))
 (hm:lastMarks [op,op'] [b,d]=false:=by with_unfolding_all rfl):PE X (.Compare a [op,op'] [b,d] pos) (RE X.K (FG f g w h h')):=
 BN (RJ ho ho' ha hb hd hm) λ_ _ _ q=>RE.chain s s' q
def MB (f g:M Bool):M Bool:=bnd f λk=>if k=true then g else ret false
def fOr (f g:M Bool):M Bool:=bnd f λk=>if k=true then ret true else g
def DV (f:M Bool):M Bool:=bnd f λk=>ret (!k)
def EY (f g:M D):M D:=bnd (AT f) λk=>if k=true then g else ret (.bl false)
def Va (f g:M D):M D:=bnd (AT f) λk=>if k=true then ret (.bl true) else g
def Jt (f:M D):M D:=bnd (AT f) λk=>ret (.bl (!k))
def fIf (f:M Bool) (g h:M D):M D:=bnd f λk=>if k=true then g else h
variable {f g:M Bool} {u v w:M D} {rest:List Expr}
theorem HK (h:PW X e (RT X.K f)):PT X e (RT X.K f):=h.pt
theorem Ts (ha:PT X a (RT X.K f)):PW X (.BoolOp .And [a] pos) (RT X.K f):=Ul ha
theorem Hi (ha:PT X a (RT X.K f)):PW X (.BoolOp .Or [a] pos) (RT X.K f):=VR ha
theorem Vd (ha:PT X a (RT X.K f)) (hb:PW X (.BoolOp .And (b :: rest) pos) (RT X.K g)):PW X (.BoolOp .And (a :: b :: rest) pos) (RT X.K (MB f g)):=
 Pm (VQ ha hb) λZ H Q ⟨Oo,c,t,fi,r,t',eq,k⟩=>by
  obtain ⟨kb,t1,e1,eq⟩:=Au eq
  refine ⟨Oo,c,t,fi,kb,t1,e1,λH1 c1 f1 s1=>?_⟩
  cases kb with
  | false=>rw [if_neg Bool.false_ne_true] at eq ⊢;cases eq;exact k H1 c1 f1 s1
  | true=>rw [if_pos rfl] at eq ⊢;exact ⟨Oo,c1,t1,f1,r,t',eq,λH2 c2 f2 s2=>k H2 c2 f2 (s1.trans s2)⟩
theorem Jy (ha:PT X a (RT X.K f)) (hb:PW X (.BoolOp .Or (b :: rest) pos) (RT X.K g)):PW X (.BoolOp .Or (a :: b :: rest) pos) (RT X.K (fOr f g)):=
 Pm (WY ha hb) λZ H Q ⟨Oo,c,t,fi,r,t',eq,k⟩=>by
  obtain ⟨kb,t1,e1,eq⟩:=Au eq
  refine ⟨Oo,c,t,fi,kb,t1,e1,λH1 c1 f1 s1=>?_⟩
  cases kb with
  | true=>rw [if_pos rfl] at eq ⊢;cases eq;exact k H1 c1 f1 s1
  | false=>rw [if_neg Bool.false_ne_true] at eq ⊢;exact ⟨Oo,c1,t1,f1,r,t',eq,λH2 c2 f2 s2=>k H2 c2 f2 (s1.trans s2)⟩
theorem Dt (ha:PT X a (RT X.K f)):PT X (.UnaryOp .Not a pos) (RT X.K (DV f)):=
 L4 (VN ha) λZ H Q ⟨Oo,c,t,fi,r,t',eq,k⟩=>by
  obtain ⟨kb,t1,e1,eq⟩:=Au eq
  cases eq
  exact ⟨Oo,c,t,fi,kb,_,e1,λH1 c1 f1 s1=>k H1 c1 f1 s1⟩
theorem Nr {f:M D} {t:T} {kb:Bool} {t1:T} (h:AT f t=some (kb,t1)):f t=some (.bl kb,t1):=by
 obtain ⟨d,t2,e1,e2⟩:=Au h
 obtain ⟨b,rfl,z⟩:=Jb e2
 cases z
 exact e1
theorem Gi {op:PySem.BoolOp} (h:PE X a (RE X.K u)):PE X (.BoolOp op [a] pos) (RE X.K u):=VC h
theorem Gh (ha:PE X a (RE X.K u)) (hb:PE X (.BoolOp .And (b :: rest) pos) (RE X.K v)):PE X (.BoolOp .And (a :: b :: rest) pos) (RE X.K (EY u v)):=
 BN (Vx ha hb) λZ H Q ⟨Oo,c,t,fi,r,t',eq,k⟩=>by
  obtain ⟨kb,t1,e1,eq⟩:=Au eq
  refine ⟨Oo,c,t,fi,_,t1,Nr e1,λx H1 c1 f1 s1 rx=>?_⟩
  cases rx
  refine ⟨kb,rfl,?_⟩
  cases kb with
  | false=>rw [if_neg Bool.false_ne_true] at eq ⊢;cases eq;exact k _ H1 c1 f1 s1 (.bl false)
  | true=>rw [if_pos rfl] at eq ⊢;exact ⟨Oo,c1,t1,f1,r,t',eq,λy H2 c2 f2 s2 ry=>k y H2 c2 f2 (s1.trans s2) ry⟩
theorem Vb (ha:PE X a (RE X.K u)):PE X (.UnaryOp .Not a pos) (RE X.K (Jt u)):=
 BN (VB ha) λZ H Q ⟨Oo,c,t,fi,r,t',eq,k⟩=>by
  obtain ⟨kb,t1,e1,eq⟩:=Au eq
  cases eq
  refine ⟨Oo,c,t,fi,_,_,Nr e1,λx H1 c1 f1 s1 rx=>?_⟩
  cases rx
  exact ⟨kb,rfl,k _ H1 c1 f1 s1 (.bl (!kb))⟩
end
section
variable {X:Cx} {e a b:Expr} {es:List Expr} {pos:Pos}
def Aj:M (List D):=ret []
def Ac (f:M D) (g:M (List D)):M (List D):=bnd f λd=>bnd g λds=>ret (d :: ds)
theorem Af:PA X [] (RA X.K Aj):=Pj M6 λZ H Q ⟨Oo,c,t,fi,r,t',eq,k⟩=>by
 cases eq
 exact k [] H c fi .refl .nil
theorem Tk {f:M D} {g:M (List D)} (ha:PE X e (RE X.K f)) (hr:PA X es (RA X.K g)) (hs:starEach (e :: es) X.env=(false,eval e X.env) :: starEach es X.env:=by rfl):PA X (e :: es) (RA X.K (Ac f g)):=
 Pj (Gq ha hr hs) λZ H Q ⟨Oo,c,t,fi,r,t',eq,k⟩=>by
  obtain ⟨d,t1,e1,eq⟩:=Au eq
  obtain ⟨ds,t2,e2,eq⟩:=Au eq
  cases eq
  exact ⟨Oo,c,t,fi,d,t1,e1,λx H1 c1 f1 s1 rx=>⟨Oo,c1,t1,f1,ds,_,e2,λxs H2 c2 f2 s2 rxs=>k _ H2 c2 f2 (s1.trans s2) (.cons (rx.mono s2.ext) rxs)⟩⟩
def lim {α:Type} (n:Nat) (a:α):M α:=λt=>if n<=LIM then some (a,t) else none
theorem Eb {α:Type} {n:Nat} {a:α} {t:T} {z:α×T} (h:lim n a t=some z):n<=LIM/\z=(a,t):=by
 unfold lim at h
 split at h
 ·next h1=>cases h;exact ⟨h1,rfl⟩
 ·cases h
def BP (f:M (List D)):M D:=bnd f λds=>lim ds.length (.tup ds)
theorem BD {x1:Nat} {f:M (List D)} (h:PA X es (RA X.K f)):PE X (.Tuple es x1 pos) (RE X.K (BP f)):=
 BN (VD h) λZ H Q ⟨Oo,c,t,fi,r,t',eq,k⟩=>by
  obtain ⟨ds,t1,e1,eq⟩:=Au eq
  obtain ⟨hl,z⟩:=Eb eq
  cases z
  refine ⟨Oo,c,t,fi,ds,_,e1,λxs H1 c1 f1 s1 rxs=>⟨by rw [rxs.length];exact Nat.le_trans hl CI,λp hp=>?_⟩⟩
  exact k _ _ c1 (f1.laid hp) (s1.trans (f1.stp_laid hp)) (.tup Az (f1.s.free hp) (rxs.mono (Ext.laid f1.s hp)))
def Bq (f:M (List D)):M (List D):=bnd f λds=>lim ds.length ds
theorem A4 {f:M (List D)} (h:PA X es (RA X.K f)):PE X (.List es pos) (RF X.K (Bq f)):=
 BN (Vz h) λZ H Q ⟨Oo,c,t,fi,r,t',eq,k⟩=>by
  obtain ⟨ds,t1,e1,eq⟩:=Au eq
  obtain ⟨hl,z⟩:=Eb eq
  cases z
  exact ⟨Oo,c,t,fi,_,_,e1,λxs H1 c1 f1 s1 rxs=>⟨by rw [rxs.length];exact Nat.le_trans hl CI,λp hp=>k p xs H1 c1 f1 s1 rxs hp⟩⟩
def AW (f:M (List D)):M D:=bnd f λds=>ret (.lst ds)
theorem AN {f:M (List D)} (h:PE X e (RF X.K f)):PE X e (RE X.K (AW f)):=
 BN h λZ H Q ⟨Oo,c,t,fi,r,t',eq,k⟩=>by
  obtain ⟨ds,t1,e1,eq⟩:=Au eq
  cases eq
  exact ⟨Oo,c,t,fi,ds,_,e1,λp xs H1 c1 f1 s1 rxs hp=>k _ _ c1 (f1.laid hp) (s1.trans (f1.stp_laid hp)) (.lst Az (f1.s.free hp) (rxs.mono (Ext.laid f1.s hp)))⟩
noncomputable def OS (o:Ob):M D:=λt=>some (.obj t.S.length,{ t with S:=t.S++[o] })
def U9 (f:M (List D)):M D:=bnd f λds=>OS (.lst ds)
abbrev Fn:=List D->List Ob->Option (D×List Ob)
def spF (K:PySem.W.Frag) (f:Fn):Sp:=λvs H Q _=>∃c ds S,SInv K c S H/\Reps K c H vs ds/\∃r S',f ds S=some (r,S')/\
 ∀v H' c',SInv K c' S' H'->Stp c.O c H c' H'->(∀b,c'.O b↔c.O b)->Rep K c' H' v r->Q v H'
def As (g:Fn) (f:M (List D)):M D:=bnd f λds t=>match g ds t.S with
 | some (r,S')=>some (r,{ t with S:=S' })
 | none=>none
theorem K4 {g:Fn} {ds:List D} {t:T} {r:D} {t':T} (h:(match g ds t.S with | some (r,S')=>some (r,{ t with S:=S' }) | none=>none:Option (D×T))=some (r,t')):∃S',g ds t.S=some (r,S')/\t' = { t with S:=S' }:=by
 cases e:g ds t.S with
 | none=>rw [e] at h;cases h
 | some p=>obtain ⟨r',S'⟩:=p;rw [e] at h;cases h;exact ⟨S',rfl,rfl⟩
theorem Tl {k:Nat} {fa:Addr} {fd:FuncData} {ps:List Str} {g:Fn} {f:M (List D)} {x:Str} {p:Pos} (F:FnOk X.prog X.w X.K X.mg X.base CX0 k fa fd ps (spF X.K g)) (hr:Room k X.A) (hg:Gl X x) (hm:X.mg x=some (.ref fa)) (hk:PySem.W.keepIn X.K (.ref fa)=true) (hb:Binds X.K fd ps [])
 (ha:PA X (e :: es) (RA X.K f)) (hdb:(x == ("__debug__" : Str))=false:=by decide) (he:starEach (e :: es) X.env=(false,eval e X.env) :: starEach es X.env:=by rfl) (hpl:(backTo pos (starEach es X.env)).any (·.1)=false:=by rfl) :
 PE X (.Call (.Name x p) (e :: es) [] pos) (RE X.K (As g f)):=
 BN (N7 F hr hg hm hk hb .nil SH ha hdb he hpl) λZ H Q ⟨Oo,c,t,fi,r,t',eq,kk⟩=>by
  obtain ⟨ds,t1,e1,eq⟩:=Au eq
  obtain ⟨S',e2,rfl⟩:=K4 eq
  refine ⟨Oo,c,t,fi,ds,t1,e1,λvs H1 c1 f1 s1 rvs=>?_⟩
  show spF X.K g (vs++[]) H1 Q E0
  rw [List.append_nil]
  refine ⟨c1,ds,t1.S,f1.s,rvs,r,S',e2,λv H' c' si st ho rv=>?_⟩
  obtain ⟨f2,s2⟩:=f1.after si st ho
  exact kk v H' c' f2 (s1.trans s2) rv
def fB (f:M (List D)) (h:List D->M D):M D:=bnd f h
theorem RE.callB {K:PySem.W.Frag} {f:M (List D)} {h:List D->M D} {R:List V->Hp->VK->Prop} (s:Fb K R h) {Z:L2.St} {H:Hp} {Q:VK} (q:RE K (fB f h) Z H Q):tCB R (RA K f) Z H Q:=by
 obtain ⟨Oo,c,t,fi,r,t',eq,k⟩:=q
 obtain ⟨ds,t1,e1,eq⟩:=Au eq
 exact ⟨Oo,c,t,fi,ds,t1,e1,λxs H1 c1 f1 s1 rxs=>s f1 rxs eq λv H' c' f' s' rv=>k v H' c' f' (s1.trans s') rv⟩
def fBF (f:M (List D)) (h:List D->M (List D)):M (List D):=bnd f h
theorem RF.callB {K:PySem.W.Frag} {f:M (List D)} {h:List D->M (List D)} {R:List V->Hp->VK->Prop} (s:LF K R h) {Z:L2.St} {H:Hp} {Q:VK} (q:RF K (fBF f h) Z H Q):tCB R (RA K f) Z H Q:=by
 obtain ⟨Oo,c,t,fi,r,t',eq,k⟩:=q
 obtain ⟨ds,t1,e1,eq⟩:=Au eq
 exact ⟨Oo,c,t,fi,ds,t1,e1,λxs H1 c1 f1 s1 rxs=>s f1 rxs eq λp vs H' c' f' s' rv hp=>k p vs H' c' f' (s1.trans s') rv hp⟩
theorem RF.two {K:PySem.W.Frag} {f g:M D} {h:D->D->M (List D)} {R:R2} (s:Ot K R h) {Z:L2.St} {H:Hp} {Q:VK} (q:RF K (bnd f λx=>bnd g λy=>h x y) Z H Q):tOp R (RE K f) (RE K g) Z H Q:=by
 obtain ⟨Oo,c,t,fi,r,t',eq,k⟩:=q
 obtain ⟨dx,t1,e1,eq⟩:=Au eq
 obtain ⟨dy,t2,e2,eq⟩:=Au eq
 exact ⟨Oo,c,t,fi,dx,t1,e1,λx H1 c1 f1 s1 rx=>⟨Oo,c1,t1,f1,dy,t2,e2,λy H2 c2 f2 s2 ry=>s f2 (rx.mono s2.ext) ry eq λp vs H' c' f' s' rv hp=>k p vs H' c' f' ((s1.trans s2).trans s') rv hp⟩⟩
end
section
variable {X:Cx} {e a b:Expr} {pos:Pos} {st:Stmt} {sts:List Stmt}
noncomputable def Ap (f g:M Out):M Out:=λt=>match f t with
 | some (.next,t1)=>g t1
 | z=>z
def A7:M Out:=ret .next
theorem AI {μ:Cf->Hp->D->(V->Hp->Prop)->Prop}:PSs X [] (RSg X.K μ A7):=NR Ui λE Z H ⟨Oo,c,t,fi,o,t',eq,k⟩=>by
 cases eq
 exact k Z H c fi .refl
theorem Ai {μ:Cf->Hp->D->(V->Hp->Prop)->Prop} {f g:M Out} (h1:PS X st (RSg X.K μ f)) (h2:PSs X sts (RSg X.K μ g)):PSs X (st :: sts) (RSg X.K μ (Ap f g)):=
 NR (IQ h1 h2) λE Z H ⟨Oo,c,t,fi,o,t',eq,k⟩=>by
  unfold Ap at eq
  cases e1:f t with
  | none=>rw [e1] at eq;cases eq
  | some p=>
    obtain ⟨o1,t1⟩:=p
    rw [e1] at eq
    refine ⟨Oo,c,t,fi,o1,t1,e1,λZ1 H1 c1 f1 s1=>?_⟩
    cases o1 with
    | next=>exact ⟨Oo,c1,t1,f1,o,t',eq,λZ2 H2 c2 f2 s2=>k Z2 H2 c2 f2 (s1.trans s2)⟩
    | brk=>cases eq;exact k Z1 H1 c1 f1 s1
    | cont=>cases eq;exact k Z1 H1 c1 f1 s1
    | ret d=>cases eq;exact k Z1 H1 c1 f1 s1
theorem Ak {μ:Cf->Hp->D->(V->Hp->Prop)->Prop} {f:M Out} (h1:PS X st (RSg X.K μ f)):PSs X [st] (RSg X.K μ f):=HS h1
def AQ (f:M D):M Out:=bnd f λd=>ret (.ret d)
theorem AL {f:M D} (h:PE X e (RE X.K f)):PS X (.Return (some e) pos) (RS X.K (AQ f)):=
 Cc (Hs h) λE Z H ⟨Oo,c,t,fi,o,t',eq,k⟩=>by
  obtain ⟨d,t1,e1,eq⟩:=Au eq
  cases eq
  exact ⟨Oo,c,t,fi,d,_,e1,λv H1 c1 f1 s1 rv=>k Z H1 c1 f1 s1 v rv⟩
theorem IB {μ:Cf->Hp->D->(V->Hp->Prop)->Prop}:PS X (.Break pos) (RSg X.K μ (ret .brk)):=Cc RV λE Z H ⟨Oo,c,t,fi,o,t',eq,k⟩=>by
 cases eq
 exact k Z H c fi .refl
def Sx (f:M D):M Out:=bnd f λ_=>ret .next
def ifS (f:M Bool) (g h:M Out):M Out:=bnd f λk=>if k=true then g else h
theorem A6 {μ:Cf->Hp->D->(V->Hp->Prop)->Prop} {f:M Bool} {g h:M Out} {sa sb:List Stmt} (hc:PT X e (RT X.K f)) (ha:PSs X sa (RSg X.K μ g)) (hb:PSs X sb (RSg X.K μ h)):PS X (.If e sa sb pos) (RSg X.K μ (ifS f g h)):=
 Cc (WX hc ha hb) λE Z H ⟨Oo,c,t,fi,o,t',eq,k⟩=>by
  obtain ⟨kb,t1,e1,eq⟩:=Au eq
  refine ⟨Oo,c,t,fi,kb,t1,e1,λH1 c1 f1 s1=>?_⟩
  cases kb with
  | true=>rw [if_pos rfl] at eq ⊢;exact ⟨Oo,c1,t1,f1,o,t',eq,λZ2 H2 c2 f2 s2=>k Z2 H2 c2 f2 (s1.trans s2)⟩
  | false=>rw [if_neg Bool.false_ne_true] at eq ⊢;exact ⟨Oo,c1,t1,f1,o,t',eq,λZ2 H2 c2 f2 s2=>k Z2 H2 c2 f2 (s1.trans s2)⟩
noncomputable def BE (i:Nat) (d:D):M Unit:=λt=>some ((),{ t with env:=t.env.set i (some (.val d)) })
def A9 (i:Nat) (f:M D):M Out:=bnd f λd=>bnd (BE i d) λ_=>ret .next
theorem RS.set {μ:Cf->Hp->D->(V->Hp->Prop)->Prop} {K:PySem.W.Frag} {i:Nat} {f:M D} {E:Ends} {Z:L2.St} {H:Hp} (q:RSg K μ (A9 i f) E Z H):O6 (RE K f) (LK i) E Z H:=by
 obtain ⟨Oo,c,t,fi,o,t',eq,k⟩:=q
 obtain ⟨d,t1,e1,eq⟩:=Au eq
 cases eq
 exact ⟨Oo,c,t,fi,d,t1,e1,λv H1 c1 f1 s1 rv=>k _ H1 c1 (f1.set rv) s1⟩
theorem AJ {μ:Cf->Hp->D->(V->Hp->Prop)->Prop} {i:Nat} {x:Str} {f:M D} {pos':Pos} (hN:X.N.Nodup) (hi:X.N[i]?=some x) (hx:Loc X.env.scope x) (he:PE X e (RE X.K f)) (hs:swapsWith e (some (.Name x pos')) pos.line X.env=pure false:=by rfl) (hf:X.fn x=true\/X.env.scope.names.lookup x=some .local:=by first | exact .inl rfl | exact .inr rfl | assumption) :
 PS X (.Assign [.Name x pos'] e pos) (RSg X.K μ (A9 i f)):=Cc (Nc hN hi hx he hs hf) λ_ _ _ q=>RS.set q
def Ed (i:Nat) (f:M (List D)):M Out:=bnd f λds t=>some (.next,{ t with env:=t.env.set i (some (.own ds)) })
theorem RS.own {μ:Cf->Hp->D->(V->Hp->Prop)->Prop} {K:PySem.W.Frag} {i:Nat} {f:M (List D)} {E:Ends} {Z:L2.St} {H:Hp} (q:RSg K μ (Ed i f) E Z H):O6 (RF K f) (LK i) E Z H:=by
 obtain ⟨Oo,c,t,fi,o,t',eq,k⟩:=q
 obtain ⟨ds,t1,e1,eq⟩:=Au eq
 cases eq
 refine ⟨Oo,c,t,fi,ds,t1,e1,λp vs H1 c1 f1 s1 rv hp=>?_⟩
 obtain ⟨c2,f2,s2⟩:=f1.setOwn (i:=i) hp rv
 exact k _ _ c2 f2 (s1.trans s2)
theorem Ez {μ:Cf->Hp->D->(V->Hp->Prop)->Prop} {i:Nat} {x:Str} {f:M (List D)} {pos':Pos} (hN:X.N.Nodup) (hi:X.N[i]?=some x) (hx:Loc X.env.scope x) (he:PE X e (RF X.K f)) (hs:swapsWith e (some (.Name x pos')) pos.line X.env=pure false:=by rfl) (hf:X.fn x=true\/X.env.scope.names.lookup x=some .local:=by first | exact .inl rfl | exact .inr rfl | assumption) :
 PS X (.Assign [.Name x pos'] e pos) (RSg X.K μ (Ed i f)):=Cc (Nc hN hi hx he hs hf) λ_ _ _ q=>RS.own q
theorem Bc {i:Nat} {x:Str} (hN:X.N.Nodup) (hi:X.N[i]?=some x) (hx:Loc X.env.scope x) (hf:X.fn x=true\/X.env.scope.names.lookup x=some .local:=by first | exact .inl rfl | exact .inr rfl | assumption):PG X (.Name x pos) (RG X.K (BE i)):=
 LY (Ua hN hi hx hf) λv Z H Q ⟨Oo,c,t,d,fi,rv,t',eq,k⟩=>by
  cases eq
  exact k _ H c (fi.set rv) .refl
def Da (f:M D) (g:D->M Unit):M Out:=bnd f λd=>bnd (g d) λ_=>ret .next
theorem CF {μ:Cf->Hp->D->(V->Hp->Prop)->Prop} {tg:Expr} {f:M D} {g:D->M Unit} (he:PE X e (RE X.K f)) (hg:PG X tg (RG X.K g)) (hs:swapsWithSole [tg] e pos.line X.env=pure false:=by rfl) (hw:swappedStores [tg] e X.env=pure none:=by rfl) (hp:(assignEach [tg] X.env).map (·.2)=[assign tg X.env]:=by rfl) :
 PS X (.Assign [tg] e pos) (RSg X.K μ (Da f g)):=
 Cc (by first | exact JS he hg hs hw | exact JS he hg hs hw hp) λE Z H ⟨Oo,c,t,fi,o,t',eq,k⟩=>by
  obtain ⟨d,t1,e1,eq⟩:=Au eq
  obtain ⟨u,t2,e2,eq⟩:=Au eq
  cases eq
  exact ⟨Oo,c,t,fi,d,t1,e1,λv H1 c1 f1 s1 rv=>⟨Oo,c1,t1,d,f1,rv,_,e2,λZ2 H2 c2 f2 s2=>k Z2 H2 c2 f2 (s1.trans s2)⟩⟩
def RGs (K:PySem.W.Frag) (f:List D->M Unit):TGs:=λvs Z H Q=>∃Oo c t ds,FInv K Oo c t Z H/\Reps K c H vs ds/\∃t',f ds t=some ((),t')/\∀Z' H' c',FInv K Oo c' t' Z' H'->Stp Oo c H c' H'->Q Z' H'
theorem NQ {ts:List Expr} {t t':TGs} (h:PGs X ts t) (i:∀v Z H Q,t' v Z H Q->t v Z H Q):PGs X ts t':=λpins s Z H vs us Q I r q=>h pins s Z H vs us Q I r (i vs Z H Q q)
def DZ:List D->M Unit
 | []=>ret ()
 | _=>fail
def BL (f:D->M Unit) (g:List D->M Unit):List D->M Unit
 | d :: ds=>bnd (f d) λ_=>g ds
 | []=>fail
theorem EM:PGs X [] (RGs X.K DZ):=NQ Ub λvs Z H Q ⟨Oo,c,t,ds,fi,rv,t',eq,k⟩=>by
 cases rv with
 | nil=>cases eq;exact ⟨rfl,k Z H c fi .refl⟩
 | cons _ _=>cases eq
theorem RGs.cons {K:PySem.W.Frag} {f:D->M Unit} {g:List D->M Unit} {vs:List V} {Z:L2.St} {H:Hp} {Q:L2.St->Hp->Prop} (q:RGs K (BL f g) vs Z H Q):SE (RG K f) (RGs K g) vs Z H Q:=by
 obtain ⟨Oo,c,t,ds,fi,rv,t',eq,k⟩:=q
 cases rv with
 | nil=>cases eq
 | cons r rs=>
   obtain ⟨u,t1,e1,eq⟩:=Au eq
   exact ⟨_,_,rfl,Oo,c,t,_,fi,r,t1,e1,λZ1 H1 c1 f1 s1=>⟨Oo,c1,t1,_,f1,rs.mono s1.ext,t',eq,λZ2 H2 c2 f2 s2=>k Z2 H2 c2 f2 (s1.trans s2)⟩⟩
def unT (n:Nat) (g:List D->M Unit):D->M Unit
 | .tup ds=>if ds.length=n then g ds else fail
 | _=>fail
def Dy (st:D->M Unit) (b:M Out):List D->M Out
 | []=>ret .next
 | d :: r=>λt=>match st d t with
   | none=>none
   | some (_,t1)=>match b t1 with
     | some (.next,t2)=>Dy st b r t2
     | some (.cont,t2)=>Dy st b r t2
     | some (.brk,t2)=>some (.next,t2)
     | some (.ret x,t2)=>some (.ret x,t2)
     | none=>none
def Dn (f:M (List D)) (st:D->M Unit) (b:M Out):M Out:=bnd f λds=>Dy st b ds
theorem RS.for {μ:Cf->Hp->D->(V->Hp->Prop)->Prop} {K:PySem.W.Frag} {f:M (List D)} {g:D->M Unit} {b:M Out} {E:Ends} {Z:L2.St} {H:Hp} (q:RSg K μ (Dn f g b) E Z H):Wl (RI K f) (RG K g) (RSg K μ b) E Z H:=by
 obtain ⟨Oo,c,t,fi,o,t',eq,k⟩:=q
 obtain ⟨ds,t1,e1,eq⟩:=Au eq
 refine ⟨Oo,c,t,fi,ds,t1,e1,λJ H1 c1 f1 s1 it=>?_⟩
 refine ⟨λi m Z' H'=>m=ds.length - i/\i<=ds.length/\∃c' t2,FInv K Oo c' t2 Z' H'/\Stp Oo c1 H1 c' H'/\Dy g b (ds.drop i) t2=some (o,t'),⟨_,rfl,Nat.zero_le _,c1,t1,f1,.refl,by rw [List.drop_zero];exact eq⟩,?_⟩
 rintro i m Z' H' ⟨rfl,hi,c',t2,f2,s2,e2⟩
 by_cases hlt:i < ds.length
 ·refine .inr ⟨it.go c' H' i s2.ext hlt,λZ3 H3=>∃c3 t3,FInv K Oo c3 t3 Z3 H3/\Stp Oo c1 H1 c3 H3/\Dy g b (ds.drop (i + 1)) t3=some (o,t'),λZ3 H3 h=>⟨ds.length - (i + 1),by lia,rfl,hlt,h⟩,λx H'' hy=>?_⟩
  obtain ⟨rfl,rx⟩:=it.yld c' H' i x H'' _ s2.ext (List.getElem?_eq_getElem hlt) hy
  rw [List.drop_eq_getElem_cons hlt] at e2
  unfold Dy at e2
  cases e3:g ds[i] t2 with
  | none=>rw [e3] at e2;cases e2
  | some p=>
    obtain ⟨u,t3⟩:=p
    rw [e3] at e2
    try dsimp only at e2
    refine ⟨Oo,c',t2,_,f2,rx,t3,e3,λZ3 H3 c3 f3 s3=>?_⟩
    cases e4:b t3 with
    | none=>rw [e4] at e2;cases e2
    | some p=>
      obtain ⟨o4,t4⟩:=p
      rw [e4] at e2
      try dsimp only at e2
      refine ⟨Oo,c3,t3,f3,o4,t4,e4,λZ5 H5 c5 f5 s5=>?_⟩
      have s':=(s2.trans s3).trans s5
      cases o4 with
      | next=>exact ⟨c5,t4,f5,s',e2⟩
      | cont=>exact ⟨c5,t4,f5,s',e2⟩
      | brk=>cases e2;exact k Z5 H5 c5 f5 (s1.trans s')
      | ret r=>cases e2;exact k Z5 H5 c5 f5 (s1.trans s')
 ·have hi':i=ds.length:=by lia
  subst hi'
  rw [List.drop_length] at e2
  cases e2
  exact .inl ⟨it.stop c' H' s2.ext,k Z' H' c' f2 (s1.trans s2)⟩
theorem De {μ:Cf->Hp->D->(V->Hp->Prop)->Prop} {tg iter:Expr} {body:List Stmt} {f:M (List D)} {g:D->M Unit} {b:M Out} (hp:PassesOwn (model X.prog X.w) X.A X.env X.xe) (hc:X.calm=true) (hi:PI X tg iter (RI X.K f)) (hg:PG X tg (RG X.K g)) (hb:PSs X body (RSg X.K μ b))
 (hs:∀x,foldedSetIterable iter X.env x=pure x:=by intro _;rfl):PS X (.For tg iter body [] pos) (RSg X.K μ (Dn f g b)):=
 Cc (VL hp hc hi hg hb hs) λ_ _ _ q=>RS.for q
theorem ItOk.lst {K:PySem.W.Frag} {c:Cf} {H:Hp} {p:Addr} {ds:List D} (r:∀c' H',Ext c H c' H'->∃vs,SqL K H' p vs/\Reps K c' H' vs ds):ItOk K (Itl K p) c H ds:=by
 refine ⟨λc' H' i ex hi=>?_,λc' H' i x H'' d ex hd hy=>?_,λc' H' ex=>?_⟩
 ·obtain ⟨vs,h1,h2⟩:=r c' H' ex
  obtain ⟨v,e,_⟩:=h2.at (List.getElem?_eq_getElem hi)
  exact ⟨vs,v,h1,e⟩
 ·obtain ⟨vs,h1,h2⟩:=r c' H' ex
  obtain ⟨rfl,h⟩:=hy
  exact ⟨rfl,h2.get (h vs h1) hd⟩
 ·obtain ⟨vs,h1,h2⟩:=r c' H' ex
  exact ⟨vs,h1,by rw [h2.length];exact Nat.le_refl _⟩
theorem ItOk.tup {K:PySem.W.Frag} {c:Cf} {H:Hp} {p:Addr} {ds:List D} (r:∀c' H',Ext c H c' H'->∃vs,SqT K H' p vs/\Reps K c' H' vs ds):ItOk K (Itt K p) c H ds:=by
 refine ⟨λc' H' i ex hi=>?_,λc' H' i x H'' d ex hd hy=>?_,λc' H' ex=>?_⟩
 ·obtain ⟨vs,h1,h2⟩:=r c' H' ex
  obtain ⟨v,e,_⟩:=h2.at (List.getElem?_eq_getElem hi)
  exact ⟨vs,v,h1,e⟩
 ·obtain ⟨vs,h1,h2⟩:=r c' H' ex
  obtain ⟨rfl,h⟩:=hy
  exact ⟨rfl,h2.get (h vs h1) hd⟩
 ·obtain ⟨vs,h1,h2⟩:=r c' H' ex
  exact ⟨vs,h1,by rw [h2.length];exact Nat.le_refl _⟩
end
theorem FInv.leave {K:PySem.W.Frag} {Oo:Addr->Prop} {c:Cf} {t:T} {Z:L2.St} {H:Hp} (f:FInv K Oo c t Z H):SInv K ⟨c.ι,Oo⟩ t.S H/\Ext c H ⟨c.ι,Oo⟩ H:=by
 have ext:Ext c H ⟨c.ι,Oo⟩ H:=⟨λ_ _ e _=>e,λb o _ z=>z.elim .inl λw=>.inr (f.sub b w),λ_ _ e=>e⟩
 exact ⟨⟨f.s.len,f.s.nd,λk a o e1 e2=>(f.s.obs k a o e1 e2).mono ext rfl,λb z=>f.s.trk b (f.sub b z),λb z=>f.s.dis b (f.sub b z)⟩,ext⟩
noncomputable def env0 (m:Nat) (ds:List D):List (Option Sl):=ds.map (λd=>some (.val d))++List.replicate (m - ds.length) none
def fnOf (n m:Nat) (g:M Out):Fn:=λds S=>if ds.length=n then (match g ⟨env0 m ds,S⟩ with
 | some (.ret r,t)=>some (r,t.S)
 | some (.next,t)=>some (.non,t.S)
 | _=>none) else none
theorem GJ {K:PySem.W.Frag} {c:Cf} {S:List Ob} {H:Hp} {vs:List V} {ds:List D} {N:List Str} (s:SInv K c S H) (r:Reps K c H vs ds):FInv K c.O c ⟨env0 N.length ds,S⟩ (L2.C8 N vs) H:=by
 have hlen:vs.length=ds.length:=r.length
 have none_:∀{i:Nat} {x:Sl},(env0 N.length ds)[i]?=some (some x)->∃d,ds[i]?=some d/\x = .val d:=λ{i x} q=>by
  unfold env0 at q
  by_cases hi:i < ds.length
  ·rw [List.getElem?_append_left (by simpa using hi),List.getElem?_map,List.getElem?_eq_getElem hi] at q
   simp at q
   exact ⟨ds[i],List.getElem?_eq_getElem hi,q.symm⟩
  ·rw [List.getElem?_append_right (by simpa using hi),List.getElem?_replicate] at q
   split at q <;> simp at q
 refine ⟨s,by simp [env0,L2.C8,hlen],λ_ z=>z,λi d q=>?_,λi es q=>?_,λi j es _ a q _ _ _=>?_⟩
 ·obtain ⟨d',h1,h2⟩:=none_ q
  cases h2
  obtain ⟨v,h3,h4⟩:=r.at h1
  refine ⟨v,?_,h4⟩
  unfold L2.C8
  have hi:=(List.getElem?_eq_some_iff.mp h3).1
  rw [List.getElem?_append_left (by simpa using hi),List.getElem?_map,h3]
  rfl
 ·obtain ⟨_,_,h2⟩:=none_ q;cases h2
 ·obtain ⟨_,_,h2⟩:=none_ q;cases h2
theorem WL {P:Program} {w:World} {K:PySem.W.Frag} {mg:Str->Option Value} {base:Heap} {x qual:Str} {st:Stmt} {fa:Addr} {fd:FuncData} {N ps:List Str} {k:Nat} {g:M Out} (F:Fun K x qual st fa fd) (S:FnScope N ps (Ao st))
 (hb:∀(cdv:Value) (A:Around) (outer:List Env) (s:Shared) (H:Hp) (E:XK),Room k (A.deeper (PyProof.Rows.envOfC qual (Ao st) s.heap.objs.size fa cdv))->
   PSs (DH CX0 P w K mg base N qual (Ao st) fa cdv A outer s H E).nox (B9 st) (RS K g)):FnOk P w K mg base CX0 (k + 1) fa fd ps (spF K (fnOf ps.length N.length g)):=by
 have hlen:∀{ds:List D} {S:List Ob} {z:D×List Ob},fnOf ps.length N.length g ds S=some z->ds.length=ps.length:=λ{ds S z} h=>by
  unfold fnOf at h
  split at h
  ·next h1=>exact h1
  ·cases h
 refine F.ok S (λvs H Q E h=>?_) (λcdv A outer s H vs Q E hr h=>?_)
 ·obtain ⟨c,ds,S,si,rs,r,S',e,_⟩:=h
  rw [rs.length];exact hlen e
 obtain ⟨c,ds,S0,si,rs,r,S',e,kk⟩:=h
 refine ⟨RS K g,hb cdv A outer s H E hr,?_⟩
 have hl:=hlen e
 unfold fnOf at e
 rw [if_pos hl] at e
 cases eg:g ⟨env0 N.length ds,S0⟩ with
 | none=>rw [eg] at e;cases e
 | some p=>
   obtain ⟨o,t⟩:=p
   rw [eg] at e
   refine ⟨c.O,c,_,GJ si rs,o,t,eg,λZ' H' c' f' s'=>?_⟩
   obtain ⟨si',ext'⟩:=f'.leave
   have st':Stp c.O c H ⟨c'.ι,c.O⟩ H':=⟨s'.ext.trans ext',s'.oo⟩
   cases o with
   | next=>cases e;exact kk .non H' _ si' st' (λ_=>Iff.rfl) .non
   | ret d=>cases e;exact λv rv=>kk v H' _ si' st' (λ_=>Iff.rfl) (rv.mono ext')
   | brk=>cases e
   | cont=>cases e
section
variable {X:Cx} {e a b:Expr} {pos:Pos}
def items:D->M (List D)
 | .lst ds=>ret ds
 | .tup ds=>ret ds
 | .scr ns=>ret (ns.map .int)
 | _=>fail
noncomputable def rngL (lo:Int) (n:Nat):List D:=(List.range n).map λi=>.int (lo + (i:Nat))
theorem ItOk.rng {K:PySem.W.Frag} {c:Cf} {H:Hp} {lo:Int} {n:Nat}:ItOk K (Itr lo n) c H (rngL lo n):=by
 refine ⟨λc' H' i ex hi=>?_,λc' H' i x H'' d ex hd hy=>?_,λc' H' ex=>?_⟩
 ·have:i < n:=by simpa [rngL] using hi
  exact this
 ·obtain ⟨rfl,rfl⟩:=hy
  refine ⟨rfl,?_⟩
  have hi:i < n:=by
   have:=(List.getElem?_eq_some_iff.mp hd).1
   simpa [rngL] using this
  have:d = .int (lo + (i:Nat)):=by
   rw [rngL,List.getElem?_map,List.getElem?_range hi] at hd
   simpa using hd.symm
  rw [this]
  exact .int _
 ·show n<=(rngL lo n).length
  simp [rngL]
noncomputable def Co (i:Int):Bool:=decide (-(2 ^ 62)<=i) && decide (i < 2 ^ 62)
def KO:List D->M (List D)
 | [.int j]=>λt=>if Co j=true then some (rngL 0 j.toNat,t) else none
 | _=>fail
def KP:List D->M (List D)
 | [.int i,.int j]=>λt=>if (Co i && Co j)=true then some (rngL i (j - i).toNat,t) else none
 | _=>fail
def CV (f:M (List D)):M (List D):=bnd f KO
def FY (f:M (List D)):M (List D):=bnd f KP
theorem Et {i:Int} (h:Co i=true) : -(2 ^ 62)<=i/\i < 2 ^ 62:=by
 unfold Co at h
 rw [Bool.and_eq_true] at h
 exact ⟨of_decide_eq_true h.1,of_decide_eq_true h.2⟩
theorem PJ {tg:Expr} {f:M (List D)} {p:Pos} (hg:Gl X "range") (hm:X.mg "range" = none) (ha:PA X [a] (RA X.K f)) (hs:starEach [a] X.env=[(false,eval a X.env)]:=by rfl):PI X tg (.Call (.Name "range" p) [a] [] pos) (RI X.K (CV f)):=
 LZ (Qq hg hm ha hs) λZ H R ⟨Oo,c,t,fi,ds,t',eq,k⟩=>by
  obtain ⟨xs,t1,e1,eq⟩:=Au eq
  refine ⟨Oo,c,t,fi,xs,t1,e1,λvs H1 c1 f1 s1 rv=>?_⟩
  unfold KO at eq
  split at eq
  ·next j=>
   split at eq
   ·next hs=>
    cases eq
    cases rv with
    | cons r rs=>
      cases rs
      cases r
      obtain ⟨h1,h2⟩:=Et hs
      exact ⟨j,rfl,h1,h2,k _ H1 c1 f1 s1 ItOk.rng⟩
   ·cases eq
  ·cases eq
theorem PK {tg:Expr} {f:M (List D)} {p:Pos} (hg:Gl X "range") (hm:X.mg "range" = none) (ha:PA X [a,b] (RA X.K f)) (hs:starEach [a,b] X.env=[(false,eval a X.env),(false,eval b X.env)]:=by rfl) (hs2:starEach [b] X.env=[(false,eval b X.env)]:=by rfl):PI X tg (.Call (.Name "range" p) [a,b] [] pos) (RI X.K (FY f)):=
 LZ (Qr hg hm ha hs hs2) λZ H R ⟨Oo,c,t,fi,ds,t',eq,k⟩=>by
  obtain ⟨xs,t1,e1,eq⟩:=Au eq
  refine ⟨Oo,c,t,fi,xs,t1,e1,λvs H1 c1 f1 s1 rv=>?_⟩
  unfold KP at eq
  split at eq
  ·next i j=>
   split at eq
   ·next hs=>
    cases eq
    rw [Bool.and_eq_true] at hs
    cases rv with
    | cons r rs=>
      cases r
      cases rs with
      | cons r rs=>
        cases rs
        cases r
        obtain ⟨h1,h2⟩:=Et hs.1
        obtain ⟨h3,h4⟩:=Et hs.2
        exact ⟨i,j,rfl,⟨h1,h2,h3,h4⟩,k _ H1 c1 f1 s1 ItOk.rng⟩
   ·cases eq
  ·cases eq
def CU (st:D->M Unit) (tst:M Bool) (elt:M D):List D->M (List D)
 | []=>ret []
 | d :: r=>bnd (st d) λ_=>bnd tst λk=>if k=true then bnd elt λx=>bnd (CU st tst elt r) λxs=>ret (x :: xs) else CU st tst elt r
noncomputable def Xc:Option (Option Sl)->Option Sl
 | some (some (.val d))=>some (.val d)
 | _=>none
def cenv (n:Nat) (fr:List Nat) (env:List (Option Sl)):List (Option Sl):=List.replicate n none++fr.map λi=>Xc env[i]?
noncomputable def He (n:Nat) (fr:List Nat) (Z:L2.St):L2.St:=List.replicate n none++fr.map λi=>(Z[i]?).join
def D1 (n:Nat) (fr:List Nat) (f:M (List D)) (st:D->M Unit) (tst:M Bool) (elt:M D):M (List D):=bnd f λds t=>match CU st tst elt ds ⟨cenv n fr t.env,t.S⟩ with
 | some (xs,t')=>if xs.length<=LIM then some (xs,{ t with S:=t'.S }) else none
 | none=>none
theorem Iw {n:Nat} {fr:List Nat} {env:List (Option Sl)} {j:Nat} {x:Sl} (h:(cenv n fr env)[j]?=some (some x)):∃i d,n<=j/\fr[j - n]?=some i/\env[i]?=some (some (.val d))/\x = .val d:=by
 unfold cenv at h
 by_cases hj:j < n
 ·rw [List.getElem?_append_left (by simpa using hj),List.getElem?_replicate] at h
  split at h <;> simp at h
 ·rw [List.getElem?_append_right (by simpa using hj),List.length_replicate,List.getElem?_map] at h
  cases e:fr[j - n]? with
  | none=>rw [e] at h;simp at h
  | some i=>
    rw [e] at h
    simp only [Option.map_some,Option.some.injEq] at h
    cases e2:env[i]? with
    | none=>rw [e2] at h;cases h
    | some o=>
      cases o with
      | none=>rw [e2] at h;cases h
      | some sl=>
        cases sl with
        | own _=>rw [e2] at h;cases h
        | val d=>rw [e2] at h;cases h;exact ⟨i,d,by lia,rfl,e2,rfl⟩
theorem OJ {K:PySem.W.Frag} {Oo:Addr->Prop} {c:Cf} {t:T} {Z:L2.St} {H:Hp} {n:Nat} {fr:List Nat} (f:FInv K Oo c t Z H):FInv K c.O c ⟨cenv n fr t.env,t.S⟩ (He n fr Z) H:=by
 refine ⟨f.s,by simp [cenv,He],λ_ z=>z,λj d q=>?_,λj es q=>?_,λj _ es _ _ q _ _ _=>?_⟩
 ·obtain ⟨i,d',h0,h1,h2,h3⟩:=Iw q
  cases h3
  obtain ⟨v,h4,h5⟩:=f.val i d h2
  refine ⟨v,?_,h5⟩
  unfold He
  rw [List.getElem?_append_right (by simpa using h0),List.length_replicate,List.getElem?_map,h1]
  simp [h4]
 ·obtain ⟨_,_,_,_,_,h⟩:=Iw q;cases h
 ·obtain ⟨_,_,_,_,_,h⟩:=Iw q;cases h
theorem RF.comp {K:PySem.W.Frag} {n:Nat} {fr:List Nat} {f:M (List D)} {st:D->M Unit} {tst:M Bool} {elt:M D} {Z:L2.St} {H:Hp} {Q:VK} (q:RF K (D1 n fr f st tst elt) Z H Q):SV (RI K f) (RG K st) (RT K tst) (RE K elt) (He n fr) Z H Q:=by
 obtain ⟨Oo,c,t,fi,xs,t',eq,k⟩:=q
 obtain ⟨ds,t1,e1,eq⟩:=Au eq
 refine ⟨Oo,c,t,fi,ds,t1,e1,λJ H1 c1 f1 s1 it=>?_⟩
 cases e3:CU st tst elt ds ⟨cenv n fr t1.env,t1.S⟩ with
 | none=>rw [e3] at eq;cases eq
 | some p=>
   obtain ⟨ys,t3⟩:=p
   rw [e3] at eq
   dsimp only at eq
   split at eq
   case isFalse=>cases eq
   next hl=>
   cases eq
   refine ⟨λi m acc Z' H'=>m=ds.length - i/\i<=ds.length/\∃c' t2 zs rest,FInv K c1.O c' t2 Z' H'/\Stp c1.O c1 H1 c' H'/\Reps K c' H' acc zs/\CU st tst elt (ds.drop i) t2=some (rest,t3)/\xs=zs++rest,
    ⟨_,rfl,Nat.zero_le _,c1,_,[],xs,OJ f1,.refl,.nil,by rw [List.drop_zero];exact e3,rfl⟩,?_⟩
   rintro i m acc Z' H' ⟨rfl,hi,c',t2,zs,rest,f2,s2,ra,e2,ez⟩
   have hacc:acc.length<=sizeLine:=by
    have:zs.length<=xs.length:=by rw [ez,List.length_append];exact Nat.le_add_right _ _
    rw [ra.length]
    exact Nat.le_trans this (Nat.le_trans hl CI)
   refine ⟨hacc,?_⟩
   by_cases hlt:i < ds.length
   ·refine .inr ⟨it.go c' H' i s2.ext hlt,λx H'' hy=>?_⟩
    obtain ⟨rfl,rx⟩:=it.yld c' H' i x H'' _ s2.ext (List.getElem?_eq_getElem hlt) hy
    rw [List.drop_eq_getElem_cons hlt] at e2
    unfold CU at e2
    obtain ⟨u,t4,e4,e2⟩:=Au e2
    obtain ⟨kb,t5,e5,e2⟩:=Au e2
    refine ⟨c1.O,c',t2,_,f2,rx,t4,e4,λZ3 H3 c3 f3 s3=>⟨c1.O,c3,t4,f3,kb,t5,e5,λH4 c4 f4 s4=>?_⟩⟩
    cases kb with
    | false=>
      rw [if_neg Bool.false_ne_true] at e2 ⊢
      exact ⟨ds.length - (i + 1),by lia,rfl,hlt,c4,t5,zs,rest,f4,(s2.trans s3).trans s4,ra.mono (s3.trans s4).ext,e2,ez⟩
    | true=>
      rw [if_pos rfl] at e2 ⊢
      obtain ⟨x6,t6,e6,e2⟩:=Au e2
      obtain ⟨r7,t7,e7,e2⟩:=Au e2
      cases e2
      refine ⟨c1.O,c4,t5,f4,x6,t6,e6,λv H5 c5 f5 s5 rv=>?_⟩
      exact ⟨ds.length - (i + 1),by lia,rfl,hlt,c5,t6,zs++[x6],r7,f5,((s2.trans s3).trans s4).trans s5,(ra.mono ((s3.trans s4).trans s5).ext).append (.cons rv .nil),e7,by rw [ez,List.append_assoc];rfl⟩
   ·have hi':i=ds.length:=by lia
    subst hi'
    rw [List.drop_length] at e2
    cases e2
    refine .inl ⟨it.stop c' H' s2.ext,λp hp _=>?_⟩
    obtain ⟨si,ext⟩:=f2.leave
    obtain ⟨f6,s6⟩:=f1.after si ⟨s2.ext.trans ext,s2.oo⟩ (λ_=>Iff.rfl)
    rw [List.append_nil] at ez
    subst ez
    exact k p acc H' _ f6 (s1.trans s6) (ra.mono ext) hp
end
end F2
namespace F2
open PySem L2 PySem.Spec PySem.SeqAt
noncomputable def eq0:D->D->Option Bool
 | .int a,.int b=>some (a == b)
 | .str a,.str b=>some (a == b)
 | .bl a,.bl b=>some (a == b)
 | .non,.non=>some true
 | .int _,.str _=>some false
 | .str _,.int _=>some false
 | _,_=>none
noncomputable def Dx (f:D->D->Option Bool):List D->List D->Option Bool
 | x :: xs,y :: ys=>match f x y,Dx f xs ys with
   | some a,some b=>some (a && b)
   | _,_=>none
 | _,_=>some true
def eqN:Nat->D->D->Option Bool
 | 0,x,y=>eq0 x y
 | n + 1,.tup xs,.tup ys=>(Dx (eqN n) xs ys).map λb=>b && xs.length == ys.length
 | n + 1,.lst xs,.lst ys=>if xs.length=ys.length then Dx (eqN n) xs ys else some false
 | _ + 1,x,y=>eq0 x y
noncomputable def ej (f:D->D->Option Bool) (xs ys:List D) (j:Nat):Bool:=match xs[j]?,ys[j]? with
 | some d,some e=>(f d e).getD true
 | _,_=>true
theorem DI {f:D->D->Option Bool}:∀{xs ys:List D} {b:Bool},Dx f xs ys=some b->b=(List.range (min xs.length ys.length)).all (ej f xs ys)/\∀(j:Nat) d e,xs[j]?=some d->ys[j]?=some e->∃k,f d e=some k
 | [],ys,b,h=>by
   have h:some true=some b:=by simpa [Dx] using h
   cases h
   refine ⟨by simp,λj d e q _=>by simp at q⟩
 | x :: xs,[],b,h=>by
   have h:some true=some b:=by simpa [Dx] using h
   cases h
   refine ⟨by simp,λj d e _ q=>by simp at q⟩
 | x :: xs,y :: ys,b,h=>by
   unfold Dx at h
   cases e1:f x y with
   | none=>rw [e1] at h;cases h
   | some a=>
     cases e2:Dx f xs ys with
     | none=>rw [e1,e2] at h;cases h
     | some c=>
       rw [e1,e2] at h
       cases h
       obtain ⟨h1,h2⟩:=DI e2
       refine ⟨?_,λj d e q1 q2=>?_⟩
       ·have hm:min (x :: xs).length (y :: ys).length=min xs.length ys.length + 1:=by simp [Nat.succ_min_succ]
        rw [hm,List.range_succ_eq_map,List.all_cons,List.all_map,h1]
        have:ej f (x :: xs) (y :: ys) 0=a:=by simp [ej,e1]
        rw [this]
        rfl
       ·cases j with
        | zero=>simp at q1 q2;subst q1 q2;exact ⟨a,e1⟩
        | succ j=>exact h2 j d e (by simpa using q1) (by simpa using q2)
theorem GM {P:Program} {w:World} {H:Hp} {h:Heap} {a:Addr} {vs:List V} (o:HOk P w H h) (e:H a=some (.lst vs)):∃its:List Value,Vals vs its/\h.IsList a its.toArray:=by
 obtain ⟨_,its,n,r,q⟩:=o a _ e
 exact ⟨its,r,_,q,rfl,n,rfl⟩
theorem HL {P:Program} {w:World} {H:Hp} {h:Heap} {a:Addr} {vs:List V} (o:HOk P w H h) (e:H a=some (.tup vs)):∃its:List Value,Vals vs its/\h.IsTuple a its.toArray:=by
 obtain ⟨_,its,r,q⟩:=o a _ e
 exact ⟨its,r,q⟩
theorem Kb {vs:List V} {its:List Value} {j:Nat} (r:Vals vs its) (h:j < its.toArray.size):∃v,vs[j]?=some v/\RelV v its.toArray[j]:=by
 have h':j < its.length:=by simpa using h
 have hl:j < vs.length:=by rw [r.length];exact h'
 obtain ⟨u,e1,e2⟩:=r.get (List.getElem?_eq_getElem hl)
 refine ⟨vs[j],List.getElem?_eq_getElem hl,?_⟩
 rw [List.getElem?_eq_getElem h'] at e1
 cases e1
 simpa using e2
theorem Pz {f:D->D->Option Bool} {xs ys:List D} {b:Bool} (h:Dx f xs ys=some b) (ht:∀(j:Nat) d e k,xs[j]?=some d->ys[j]?=some e->f d e=some k->k=true):b=true:=by
 obtain ⟨h1,h2⟩:=DI h
 rw [h1,List.all_eq_true]
 intro j hj
 have hj':=List.mem_range.mp hj
 have l1:j < xs.length:=by lia
 have l2:j < ys.length:=by lia
 obtain ⟨k,ek⟩:=h2 j _ _ (List.getElem?_eq_getElem l1) (List.getElem?_eq_getElem l2)
 have:=ht j _ _ k (List.getElem?_eq_getElem l1) (List.getElem?_eq_getElem l2) ek
 unfold ej
 rw [List.getElem?_eq_getElem l1,List.getElem?_eq_getElem l2]
 simp [ek,this]
theorem Hf {x y:D} {b:Bool} (e:eq0 x y=some b):(∃i j,x = .int i/\y = .int j/\(i == j)=b)\/(∃i j,x = .str i/\y = .str j/\(i == j)=b)\/(∃i j,x = .bl i/\y = .bl j/\(i == j)=b)\/(x = .non/\y = .non/\true=b)\/(∃i j,x = .int i/\y = .str j/\false=b)\/(∃i j,x = .str i/\y = .int j/\false=b):=by
 unfold eq0 at e
 split at e
 ·cases e;exact .inl ⟨_,_,rfl,rfl,rfl⟩
 ·cases e;exact .inr (.inl ⟨_,_,rfl,rfl,rfl⟩)
 ·cases e;exact .inr (.inr (.inl ⟨_,_,rfl,rfl,rfl⟩))
 ·cases e;exact .inr (.inr (.inr (.inl ⟨rfl,rfl,rfl⟩)))
 ·cases e;exact .inr (.inr (.inr (.inr (.inl ⟨_,_,rfl,rfl,rfl⟩))))
 ·cases e;exact .inr (.inr (.inr (.inr (.inr ⟨_,_,rfl,rfl,rfl⟩))))
 ·cases e
theorem Hg {n:Nat} {x y:D} {b:Bool} (e:eqN n x y=some b):eq0 x y=some b\/(∃m xs ys,n=m + 1/\x = .lst xs/\y = .lst ys/\(if xs.length=ys.length then Dx (eqN m) xs ys else some false)=some b)\/∃m xs ys b',n=m + 1/\x = .tup xs/\y = .tup ys/\Dx (eqN m) xs ys=some b'/\(b' && xs.length == ys.length)=b:=by
 unfold eqN at e
 split at e
 ·exact .inl e
 ·obtain ⟨b',e1,e2⟩:=Option.map_eq_some_iff.mp e
  exact .inr (.inr ⟨_,_,_,b',rfl,rfl,rfl,e1,e2⟩)
 ·exact .inr (.inl ⟨_,_,_,rfl,rfl,rfl,e⟩)
 ·exact .inl e
theorem Ks {K:PySem.W.Frag} {c:Cf} {H:Hp}:∀(n:Nat) {v:V} {d e:D} {b:Bool},Rep K c H v d->Rep K c H v e->eqN n d e=some b->b=true
 | n,v,d,e,b,rd,re,q=>by
   have items:∀{m:Nat} {vs:List V} {ds es:List D} {b':Bool},n=m + 1->Reps K c H vs ds->Reps K c H vs es->Dx (eqN m) ds es=some b'->b'=true:=λ{m vs ds es b'} hm r1 r2 e'=>
    Pz e' λj d e k q1 q2 ek=>by
     obtain ⟨v,g1,g2⟩:=r1.at q1
     exact Ks m g2 (r2.get g1 q2) ek
   rcases Hg q with q0 | ⟨m,ds,es,hm,rfl,rfl,q0⟩ | ⟨m,ds,es,b',hm,rfl,rfl,q1,q2⟩
   ·rcases Hf q0 with ⟨i,j,rfl,rfl,rfl⟩ | ⟨i,j,rfl,rfl,rfl⟩ | ⟨i,j,rfl,rfl,rfl⟩ | ⟨rfl,rfl,rfl⟩ | ⟨i,j,rfl,rfl,rfl⟩ | ⟨i,j,rfl,rfl,rfl⟩
    ·cases rd;cases re;simp
    ·cases rd;cases re;simp
    ·cases rd;cases re;simp
    ·cases rd;cases re;rfl
    ·cases rd;cases re
    ·cases rd;cases re
   ·cases rd with
    | lst h1 h2 h3=>
      cases re with
      | lst g1 g2 g3=>
        rw [h1] at g1;cases g1
        rw [if_pos (h3.length.symm.trans g3.length)] at q0
        exact items hm h3 g3 q0
   ·cases rd with
    | tup h1 h2 h3=>
      cases re with
      | tup g1 g2 g3=>
        rw [h1] at g1;cases g1
        rw [<-q2,items hm h3 g3 q1,h3.length.symm.trans g3.length]
        simp
theorem HI {P:Program} {w:World} {K:PySem.W.Frag} {c:Cf} {H:Hp} {s:Shared} (hok:HOk P w H s.heap):∀(n:Nat) {A:Around} {x y:V} {u v:Value} {dx dy:D} {b:Bool},RelV x u->RelV y v->Rep K c H x dx->Rep K c H y dy->eqN n dx dy=some b->A.units + n < cLine->
 RcAt A s u v b/\(EqAt A s u v b)
 | n,A,x,y,u,v,dx,dy,b,ru,rv,rx,ry,e,hu=>by
   have items:∀{m:Nat} {vs ws:List V} {is js:List Value} {ds es:List D} {b':Bool},n=m + 1->Vals vs is->Vals ws js->Reps K c H vs ds->Reps K c H ws es->Dx (eqN m) ds es=some b'->
    ∀j (h1:j < is.toArray.size) (h2:j < js.toArray.size),EqAt A.in1 s is.toArray[j] js.toArray[j] (ej (eqN m) ds es j):=λ{m vs ws is js ds es b'} hm r1 r2 q1 q2 e' j h1 h2=>by
    obtain ⟨v1,a1,a2⟩:=Kb r1 h1
    obtain ⟨v2,b1,b2⟩:=Kb r2 h2
    obtain ⟨l1,g1⟩:=List.getElem?_eq_some_iff.mp a1
    obtain ⟨l2,g2⟩:=List.getElem?_eq_some_iff.mp b1
    have k1:ds[j]?=some (ds[j]'(by rw [<-q1.length];exact l1)):=List.getElem?_eq_getElem _
    have k2:es[j]?=some (es[j]'(by rw [<-q2.length];exact l2)):=List.getElem?_eq_getElem _
    obtain ⟨kk,ek⟩:=(DI e').2 j _ _ k1 k2
    have:ej (eqN m) ds es j=kk:=by unfold ej;rw [k1,k2];simp [ek]
    rw [this]
    have hu':A.in1.units + m < cLine:=by
     have:A.in1.units=A.units + 1:=by first | rfl | exact Around.units_in1 _ | simp [Around.in1,Around.units]
     lia
    exact (HI hok m a2 b2 (q1.get a1 k1) (q2.get b1 k2) ek hu').2
   have hu0:A.units < cLine:=by lia
   have conc:∀{p q:Addr} {k:Bool},p≠q->RcAt A s (.ref p) (.ref q) k->RcAt A s (.ref p) (.ref q) k/\EqAt A s (.ref p) (.ref q) k:=λhn h=>⟨h,EqAt.of_refs hn h⟩
   rcases Hg e with e0 | ⟨m,ds,es,hm,rfl,rfl,e0⟩ | ⟨m,ds,es,b',hm,rfl,rfl,e1,e2⟩
   ·rcases Hf e0 with ⟨i,j,rfl,rfl,rfl⟩ | ⟨i,j,rfl,rfl,rfl⟩ | ⟨i,j,rfl,rfl,rfl⟩ | ⟨rfl,rfl,rfl⟩ | ⟨i,j,rfl,rfl,rfl⟩ | ⟨i,j,rfl,rfl,rfl⟩
    ·cases rx;cases ry;obtain ⟨t',rfl⟩:=ru;obtain ⟨t,rfl⟩:=rv;exact ⟨RcAt.int_int _ _ _ _,EqAt.int_int _ _ _ _⟩
    ·cases rx;cases ry;obtain ⟨t',rfl⟩:=ru;obtain ⟨t,rfl⟩:=rv;exact ⟨RcAt.str_str _ _ _ _,EqAt.str_str _ _ _ _⟩
    ·cases rx;cases ry;cases ru;cases rv;exact ⟨RcAt.bool_bool _ _,EqAt.bool_bool _ _⟩
    ·cases rx;cases ry;cases ru;cases rv;exact ⟨RcAt.none_none,EqAt.same _⟩
    ·cases rx;cases ry;obtain ⟨t',rfl⟩:=ru;obtain ⟨t,rfl⟩:=rv;exact ⟨RcAt.int_str _ _ _ _,EqAt.int_str _ _ _ _⟩
    ·cases rx;cases ry;obtain ⟨t',rfl⟩:=ru;obtain ⟨t,rfl⟩:=rv;exact ⟨RcAt.str_int _ _ _ _,EqAt.str_int _ _ _ _⟩
   ·cases rx with
    | @lst p vs _ g1 g2 g3=>
    cases ry with
    | @lst q ws _ h1 h2 h3=>
      cases ru
      cases rv
      obtain ⟨is,r1,l1⟩:=GM hok g1
      obtain ⟨js,r2,l2⟩:=GM hok h1
      have hs1:is.toArray.size=ds.length:=by rw [<-g3.length,r1.length];simp
      have hs2:js.toArray.size=es.length:=by rw [<-h3.length,r2.length];simp
      by_cases hl:ds.length=es.length
      ·rw [if_pos hl] at e0
       have hsz:is.toArray.size=js.toArray.size:=by rw [hs1,hs2,hl]
       have rc:=RcAt.lists l1 l2 hsz hu0 (items hm r1 r2 g3 h3 e0)
       have eb:(List.range is.toArray.size).all (ej (eqN m) ds es)=b:=by rw [(DI e0).1,hs1,<-hl,Nat.min_self]
       rw [eb] at rc
       by_cases hpq:p=q
       ·refine ⟨rc,?_⟩
        subst hpq
        rw [Ks n (Rep.lst g1 g2 g3) (Rep.lst h1 h2 h3) e]
        exact EqAt.same _
       ·exact conc hpq rc
      ·rw [if_neg hl] at e0
       cases e0
       have hsz:(is.toArray.size != js.toArray.size)=true:=by rw [hs1,hs2];simpa using hl
       refine conc (λz=>hl ?_) (RcAt.lists_lengths l1 l2 hsz hu0)
       subst z
       rw [g1] at h1;cases h1
       rw [<-g3.length,<-h3.length]
   ·cases rx with
    | @tup p vs _ g1 g2 g3=>
    cases ry with
    | @tup q ws _ h1 h2 h3=>
      cases ru
      cases rv
      obtain ⟨is,r1,l1⟩:=HL hok g1
      obtain ⟨js,r2,l2⟩:=HL hok h1
      have hs1:is.toArray.size=ds.length:=by rw [<-g3.length,r1.length];simp
      have hs2:js.toArray.size=es.length:=by rw [<-h3.length,r2.length];simp
      have rc:=RcAt.tuples l1 l2 hu0 (items hm r1 r2 g3 h3 e1)
      have eb:((List.range (min is.toArray.size js.toArray.size)).all (ej (eqN m) ds es) && is.toArray.size == js.toArray.size)=b:=by rw [hs1,hs2,<-(DI e1).1];exact e2
      rw [eb] at rc
      by_cases hpq:p=q
      ·refine ⟨rc,?_⟩
       subst hpq
       rw [Ks n (Rep.tup g1 g2 g3) (Rep.tup h1 h2 h3) e]
       exact EqAt.same _
      ·exact conc hpq rc
theorem TU {P:Program} {w:World} {K:PySem.W.Frag} {c:Cf} {H:Hp} {s:Shared} (hok:HOk P w H s.heap) (n:Nat) {A:Around} {x y:V} {u v:Value} {dx dy:D} {b:Bool} (ru:RelV x u) (rv:RelV y v) (rx:Rep K c H x dx) (ry:Rep K c H y dy) (e:eqN n dx dy=some b) (hu:A.units + n < cLine) :
 RcNeAt A s u v (!b):=by
 have items:∀{m:Nat} {vs ws:List V} {is js:List Value} {ds es:List D} {b':Bool},n=m + 1->Vals vs is->Vals ws js->Reps K c H vs ds->Reps K c H ws es->Dx (eqN m) ds es=some b'->
  ∀j (h1:j < is.toArray.size) (h2:j < js.toArray.size),EqAt A.in1 s is.toArray[j] js.toArray[j] (ej (eqN m) ds es j):=λ{m vs ws is js ds es b'} hm r1 r2 q1 q2 e' j h1 h2=>by
  obtain ⟨v1,a1,a2⟩:=Kb r1 h1
  obtain ⟨v2,b1,b2⟩:=Kb r2 h2
  obtain ⟨l1,g1⟩:=List.getElem?_eq_some_iff.mp a1
  obtain ⟨l2,g2⟩:=List.getElem?_eq_some_iff.mp b1
  have k1:ds[j]?=some (ds[j]'(by rw [<-q1.length];exact l1)):=List.getElem?_eq_getElem _
  have k2:es[j]?=some (es[j]'(by rw [<-q2.length];exact l2)):=List.getElem?_eq_getElem _
  obtain ⟨kk,ek⟩:=(DI e').2 j _ _ k1 k2
  have:ej (eqN m) ds es j=kk:=by unfold ej;rw [k1,k2];simp [ek]
  rw [this]
  have hu':A.in1.units + m < cLine:=by
   have:A.in1.units=A.units + 1:=rfl
   lia
  exact (HI hok m a2 b2 (q1.get a1 k1) (q2.get b1 k2) ek hu').2
 have hu0:A.units < cLine:=by lia
 rcases Hg e with e0 | ⟨m,ds,es,hm,rfl,rfl,e0⟩ | ⟨m,ds,es,b',hm,rfl,rfl,e1,e2⟩
 ·rcases Hf e0 with ⟨i,j,rfl,rfl,rfl⟩ | ⟨i,j,rfl,rfl,rfl⟩ | ⟨i,j,rfl,rfl,rfl⟩ | ⟨rfl,rfl,rfl⟩ | ⟨i,j,rfl,rfl,rfl⟩ | ⟨i,j,rfl,rfl,rfl⟩
  ·cases rx;cases ry;obtain ⟨t',rfl⟩:=ru;obtain ⟨t,rfl⟩:=rv;exact RcNeAt.int_int _ _ _ _
  ·cases rx;cases ry;obtain ⟨t',rfl⟩:=ru;obtain ⟨t,rfl⟩:=rv;exact RcNeAt.str_str _ _ _ _
  ·cases rx;cases ry;cases ru;cases rv;exact RcNeAt.bool_bool _ _
  ·cases rx;cases ry;cases ru;cases rv;exact RcNeAt.none_none
  ·cases rx;cases ry;obtain ⟨t',rfl⟩:=ru;obtain ⟨t,rfl⟩:=rv;exact RcNeAt.int_str _ _ _ _
  ·cases rx;cases ry;obtain ⟨t',rfl⟩:=ru;obtain ⟨t,rfl⟩:=rv;exact RcNeAt.str_int _ _ _ _
 ·cases rx with
  | @lst p vs _ g1 g2 g3=>
  cases ry with
  | @lst q ws _ h1 h2 h3=>
    cases ru
    cases rv
    obtain ⟨is,r1,l1⟩:=GM hok g1
    obtain ⟨js,r2,l2⟩:=GM hok h1
    have hs1:is.toArray.size=ds.length:=by rw [<-g3.length,r1.length];simp
    have hs2:js.toArray.size=es.length:=by rw [<-h3.length,r2.length];simp
    by_cases hl:ds.length=es.length
    ·rw [if_pos hl] at e0
     have hsz:is.toArray.size=js.toArray.size:=by rw [hs1,hs2,hl]
     have rc:=RcNeAt.lists l1 l2 hsz hu0 (items hm r1 r2 g3 h3 e0)
     rw [show (List.range is.toArray.size).all (ej (eqN m) ds es)=b by rw [(DI e0).1,hs1,<-hl,Nat.min_self]] at rc
     exact rc
    ·rw [if_neg hl] at e0
     cases e0
     exact RcNeAt.lists_lengths l1 l2 (by rw [hs1,hs2];simpa using hl) hu0
 ·cases rx with
  | @tup p vs _ g1 g2 g3=>
  cases ry with
  | @tup q ws _ h1 h2 h3=>
    cases ru
    cases rv
    obtain ⟨is,r1,l1⟩:=HL hok g1
    obtain ⟨js,r2,l2⟩:=HL hok h1
    have hs1:is.toArray.size=ds.length:=by rw [<-g3.length,r1.length];simp
    have hs2:js.toArray.size=es.length:=by rw [<-h3.length,r2.length];simp
    have rc:=RcNeAt.tuples l1 l2 hu0 (items hm r1 r2 g3 h3 e1)
    have eb:((List.range (min is.toArray.size js.toArray.size)).all (ej (eqN m) ds es) && is.toArray.size == js.toArray.size)=b:=by rw [hs1,hs2,<-(DI e1).1];exact e2
    rw [eb] at rc
    exact rc
def EQD:Nat:=40
def neD (x y:D):M D:=λt=>(eqN EQD x y).map λb=>(.bl (!b),t)
def R1 (K:PySem.W.Frag) (g:Bool->Bool):R2:=λx y H Q=>∃c dx dy b,Rep K c H x dx/\Rep K c H y dy/\eqN EQD dx dy=some b/\Q (.bl (g b)) H
theorem Bz {X:Cx} (hu:X.A.units + 64 < cLine):OpR X (compareOp .Eq) (R1 X.K id):=by
 intro pins s Z H x y v u Q I rx ry h
 obtain ⟨c,dx,dy,b,q1,q2,e,q⟩:=h
 have hu':X.A.units + EQD < cLine:=by unfold EQD;lia
 exact (HI I.hok EQD rx ry q1 q2 e hu').1 X.prog X.w _ _ ⟨.bl b,H,I,rfl,q⟩
theorem Gp {X:Cx} (hu:X.A.units + 64 < cLine):OpR X (compareOp .NotEq) (R1 X.K (!·)):=by
 intro pins s Z H x y v u Q I rx ry h
 obtain ⟨c,dx,dy,b,q1,q2,e,q⟩:=h
 have hu':X.A.units + EQD < cLine:=by unfold EQD;lia
 exact TU I.hok EQD rx ry q1 q2 e hu' X.prog X.w _ _ ⟨.bl (!b),H,I,rfl,q⟩
end F2
set_option maxHeartbeats 4000000
namespace F2
open PySem L2 PySem.Spec
section
variable {K:PySem.W.Frag}
def i2 (g:Int->Int->D):D->D->M D
 | .int i,.int j=>ret (g i j)
 | _,_=>fail
theorem Ve {g:Int->Int->D} {x y:D} {t:T} {z:D×T} (h:i2 g x y t=some z):∃i j,x = .int i/\y = .int j/\z=(g i j,t):=by
 cases x with
 | int i=>cases y with
   | int j=>cases h;exact ⟨i,j,rfl,rfl,rfl⟩
   | _=>cases h
 | _=>cases h
theorem Wb {gV:Int->Int->V} {g:Int->Int->D} (hr:∀i j c H,Rep K c H (gV i j) (g i j)):BZ K (rI0 gV) (i2 g):=λ{Oo c t Z H x y dx dy r t' Q} f rx ry eq k=>by
 obtain ⟨i,j,rfl,rfl,z⟩:=Ve eq
 cases z
 cases rx
 cases ry
 exact ⟨i,j,rfl,rfl,k _ H c f .refl (hr i j c H)⟩
def i2C (C:Int->Int->Bool) (g:Int->Int->D):D->D->M D
 | .int i,.int j=>λt=>if C i j=true then some (g i j,t) else none
 | _,_=>fail
theorem Tx {C:Int->Int->Bool} {g:Int->Int->D} {x y:D} {t:T} {z:D×T} (h:i2C C g x y t=some z):∃i j,x = .int i/\y = .int j/\C i j=true/\z=(g i j,t):=by
 cases x with
 | int i=>cases y with
   | int j=>
     unfold i2C at h
     dsimp only at h
     by_cases hc:C i j=true
     ·rw [if_pos hc] at h;cases h;exact ⟨i,j,rfl,rfl,hc,rfl⟩
     ·rw [if_neg hc] at h;cases h
   | _=>cases h
 | _=>cases h
theorem Fw {P:Int->Int->Prop} {C:Int->Int->Bool} {gV:Int->Int->V} {g:Int->Int->D} (hP:∀i j,C i j=true->P i j) (hr:∀i j c H,Rep K c H (gV i j) (g i j)):BZ K (rI P gV) (i2C C g):=λ{Oo c t Z H x y dx dy r t' Q} f rx ry eq k=>by
 obtain ⟨i,j,rfl,rfl,hc,z⟩:=Tx eq
 cases z
 cases rx
 cases ry
 exact ⟨i,j,rfl,rfl,hP i j hc,k _ H c f .refl (hr i j c H)⟩
def CM:=i2 λi j=>.int (i - j)
noncomputable def LI (_ j:Int):Bool:=decide (0 < j) && decide (j < 1073741824)
def GF:=i2C LI λi j=>.int (i / j)
def FM:=i2C (λ_ j=>decide (0 < j)) λi j=>.int (i % j)
noncomputable def LN (i j:Int):Bool:=decide (0<=j) && decide (j<=1000000) && decide (i.natAbs < 2 ^ 64)
def IP:=i2C LN λi j=>.int (i ^ j.toNat)
noncomputable def Fo (i j:Int):Bool:=(decide (-(2 ^ 64) < i) && decide (i < 2 ^ 64)) || (decide (-(2 ^ 64) < j) && decide (j < 2 ^ 64))
def O4:=i2C (λ_ j=>decide (0<=j)) λi j=>.int (i / 2 ^ j.toNat)
theorem B6:BZ K (rI0 λi j=>.int (i - j)) CM:=Wb λi j _ _=>.int _
theorem IZ:BZ K (rI UU λi j=>.int (i / j)) GF:=Fw (λi j h=>by
 unfold LI at h;rw [Bool.and_eq_true] at h;exact ⟨of_decide_eq_true h.1,of_decide_eq_true h.2⟩) λi j _ _=>.int _
theorem EU:BZ K (rI (λ_ j=>0 < j) λi j=>.int (i % j)) FM:=Fw (λi j h=>of_decide_eq_true h) λi j _ _=>.int _
theorem H9:BZ K (rI UV λi j=>.int (i ^ j.toNat)) IP:=Fw (λi j h=>by
 unfold LN at h;rw [Bool.and_eq_true,Bool.and_eq_true] at h;exact ⟨of_decide_eq_true h.1.1,of_decide_eq_true h.1.2,of_decide_eq_true h.2⟩) λi j _ _=>.int _
theorem Uw:BZ K (rI (λ_ j=>0<=j) λi j=>.int (i / 2 ^ j.toNat)) O4:=Fw (λi j h=>of_decide_eq_true h) λi j _ _=>.int _
theorem Qf {i j:Int} (h:Fo i j=true):CMul i j:=by
 unfold Fo at h
 rw [Bool.or_eq_true,Bool.and_eq_true,Bool.and_eq_true] at h
 rcases h with h | h
 ·exact .inl ⟨of_decide_eq_true h.1,of_decide_eq_true h.2⟩
 ·exact .inr ⟨of_decide_eq_true h.1,of_decide_eq_true h.2⟩
def Yl:D->M D
 | .int i=>ret (.int (-i))
 | _=>fail
def Q1:D->D->M D
 | .int i,.int j=>ret (.int (i + j))
 | .str x,.str y=>lim (x.length + y.length) (.str (x++y))
 | .lst xs,.lst ys=>lim (xs.length + ys.length) (.lst (xs++ys))
 | .tup xs,.tup ys=>λt=>if xs.isEmpty=false/\xs.length + ys.length<=LIM then some (.tup (xs++ys),t) else none
 | _,_=>fail
def Um:R2:=λx y H Q=>∃i j,x = .str i/\y = .str j/\i.length + j.length<=sizeLine/\Q (.str (i++j)) H
def OX (K:PySem.W.Frag):R2:=λx y H Q=>rI0 (λi j=>.int (i + j)) x y H Q\/(Um x y H Q\/(RZ x y H Q\/SL K x y H Q))
theorem op_add4 {X:Cx}:OpR X (binaryOp .Add) (OX X.K):=op_add.or (op_add_str.or (op_cat.or T2))
theorem Up:BZ K (OX K) Q1:=λ{Oo c t Z H x y dx dy r t' Q} f rx ry eq k=>by
 cases rx with
 | int i=>
   cases ry with
   | int j=>cases eq;exact .inl ⟨i,j,rfl,rfl,k _ H c f .refl (.int _)⟩
   | _=>cases eq
 | str i=>
   cases ry with
   | str j=>
     obtain ⟨h,z⟩:=Eb eq
     cases z
     exact .inr (.inl ⟨i,j,rfl,rfl,Nat.le_trans h CI,k _ H c f .refl (.str _)⟩)
   | _=>cases eq
 | @lst a vs ds h1 h2 h3=>
   cases ry with
   | @lst b ws es g1 g2 g3=>
     obtain ⟨h,z⟩:=Eb eq
     cases z
     refine .inr (.inr (.inl ⟨a,b,vs,ws,rfl,rfl,h1,g1,?_,λp hp=>?_⟩))
     ·rw [h3.length,g3.length];exact Nat.le_trans h CI
     ·exact k _ _ c (f.laid hp) (f.stp_laid hp) (.lst Az (f.s.free hp) ((h3.append g3).mono (Ext.laid f.s hp)))
   | _=>cases eq
 | @tup a vs ds h1 h2 h3=>
   cases ry with
   | @tup b ws es g1 g2 g3=>
     unfold Q1 at eq
     dsimp only at eq
     split at eq
     ·next h=>
      cases eq
      have hne:vs≠[]:=λz=>by
       have:=h3.length
       rw [z] at this
       have h0:ds.length=0:=this.symm
       have:ds=[]:=List.length_eq_zero_iff.mp h0
       rw [this] at h
       simp at h
      refine .inr (.inr (.inr ⟨a,b,vs,ws,rfl,rfl,SqT.of h1,SqT.of g1,hne,?_,λz=>?_,λz p hp=>?_⟩))
      ·rw [h3.length,g3.length];exact Nat.le_trans h.2 CI
      ·subst z
       have:es=[]:=List.length_eq_zero_iff.mp g3.length.symm
       subst this
       rw [List.append_nil] at k
       exact k _ H c f .refl (.tup h1 h2 h3)
      ·exact k _ _ c (f.laid hp) (f.stp_laid hp) (.tup Az (f.s.free hp) ((h3.append g3).mono (Ext.laid f.s hp)))
     ·cases eq
   | _=>cases eq
 | _=>cases eq
def Iv:D->D->M (List D)
 | .lst xs,.lst ys=>lim (xs.length + ys.length) (xs++ys)
 | _,_=>fail
theorem IY:Ot K RZ Iv:=λ{Oo c t Z H x y dx dy r t' Q} f rx ry eq k=>by
 cases rx with
 | @lst a vs ds h1 h2 h3=>
   cases ry with
   | @lst b ws es g1 g2 g3=>
     obtain ⟨h,z⟩:=Eb eq
     cases z
     refine ⟨a,b,vs,ws,rfl,rfl,h1,g1,?_,λp hp=>k p _ H c f .refl (h3.append g3) hp⟩
     rw [h3.length,g3.length];exact Nat.le_trans h CI
   | _=>cases eq
 | _=>cases eq
def isC:D->D->M D
 | x,.non=>λt=>some (.bl (match x with | .non=>true | _=>false),t)
 | x,.bl b=>λt=>some (.bl (match x with | .bl c=>c == b | _=>false),t)
 | _,_=>fail
def Hj (x y:D):M D:=bnd (isC x y) λd=>match d with | .bl b=>ret (.bl (!b)) | _=>fail
def rIs (g:Bool->Bool):R2:=λx y H Q=>(y = .non\/∃b,y = .bl b)/\Q (.bl (g (decide (x=y)))) H
theorem NT {x y:V} {v u:Value} (rx:RelV x v) (ry:RelV y u) (hy:y = .non\/∃b,y = .bl b):plainIs v u=true/\(v == u)=decide (x=y):=by
 rcases hy with rfl | ⟨b,rfl⟩
 ·cases ry
  cases x with
  | non=>cases rx;exact ⟨rfl,by simp⟩
  | bl _=>cases rx;exact ⟨rfl,by simp⟩
  | int _=>obtain ⟨t,rfl⟩:=rx;exact ⟨rfl,by simp⟩
  | str _=>obtain ⟨t,rfl⟩:=rx;exact ⟨rfl,by simp⟩
  | byt _=>obtain ⟨t,rfl⟩:=rx;exact ⟨rfl,by simp⟩
  | flt _=>obtain ⟨t,rfl⟩:=rx;exact ⟨rfl,by simp⟩
  | ref _=>cases rx;exact ⟨rfl,by simp⟩
  | ty _=>cases rx;exact ⟨rfl,by simp⟩
 ·cases ry
  cases x with
  | non=>cases rx;exact ⟨rfl,by simp⟩
  | bl c=>cases rx;exact ⟨rfl,by simp;cases c <;> cases b <;> rfl⟩
  | int _=>obtain ⟨t,rfl⟩:=rx;exact ⟨rfl,by simp⟩
  | str _=>obtain ⟨t,rfl⟩:=rx;exact ⟨rfl,by simp⟩
  | byt _=>obtain ⟨t,rfl⟩:=rx;exact ⟨rfl,by simp⟩
  | flt _=>obtain ⟨t,rfl⟩:=rx;exact ⟨rfl,by simp⟩
  | ref _=>cases rx;exact ⟨rfl,by simp⟩
  | ty _=>cases rx;exact ⟨rfl,by simp⟩
theorem Qn {X:Cx}:OpR X (compareOp .Is) (rIs id):=by
 intro pins s Z H x y v u Q I rx ry h
 obtain ⟨hy,q⟩:=h
 obtain ⟨h1,h2⟩:=NT rx ry hy
 exact wpAny_is_plain h1 ⟨.bl _,H,I,by rw [h2];rfl,q⟩
theorem Qo {X:Cx}:OpR X (compareOp .IsNot) (rIs (!·)):=by
 intro pins s Z H x y v u Q I rx ry h
 obtain ⟨hy,q⟩:=h
 obtain ⟨h1,h2⟩:=NT rx ry hy
 exact wpAny_isNot_plain h1 ⟨.bl _,H,I,by rw [h2];rfl,q⟩
theorem N0 {c:Cf} {H:Hp} {x y:V} {dx dy:D} {t:T} {z:D×T} (rx:Rep K c H x dx) (ry:Rep K c H y dy) (eq:isC dx dy t=some z):(y = .non\/∃b,y = .bl b)/\z=(.bl (decide (x=y)),t):=by
 cases ry with
 | non=>
   refine ⟨.inl rfl,?_⟩
   cases rx <;> (cases eq;first | rfl | simp)
 | bl b=>
   refine ⟨.inr ⟨b,rfl⟩,?_⟩
   cases rx <;> (cases eq;first | rfl | simp)
   next a=>cases a <;> cases b <;> rfl
 | _=>cases eq
theorem QB:BZ K (rIs id) isC:=λ{Oo c t Z H x y dx dy r t' Q} f rx ry eq k=>by
 obtain ⟨h,z⟩:=N0 rx ry eq
 cases z
 exact ⟨h,k _ H c f .refl (.bl _)⟩
theorem QC:BZ K (rIs (!·)) Hj:=λ{Oo c t Z H x y dx dy r t' Q} f rx ry eq k=>by
 obtain ⟨d,t1,e1,eq⟩:=Au eq
 obtain ⟨h,z⟩:=N0 rx ry e1
 cases z
 cases eq
 exact ⟨h,k _ H c f .refl (.bl _)⟩
noncomputable def GK:D->Bool
 | .non=>true | .bl _=>true | .int _=>true | .str _=>true | _=>false
noncomputable def toV:D->V
 | .bl b=>.bl b | .int i=>.int i | .str x=>.str x | _=>.non
theorem KM {c:Cf} {H:Hp} {v:V} {d:D} (r:Rep K c H v d) (h:GK d=true):v=toV d:=by cases r <;> first | rfl | cases h
theorem IU {c:Cf} {H:Hp}:∀{vs:List V} {ds:List D},Reps K c H vs ds->ds.all GK=true->vs=ds.map toV
 | _,_,.nil,_=>rfl
 | _,_,.cons r t,h=>by
   rw [List.all_cons,Bool.and_eq_true] at h
   rw [List.map_cons,KM r h.1,IU t h.2]
theorem MM:∀d:D,Fl (toV d)=true:=λd=>by cases d <;> rfl
def ixD:D->D->M D
 | .lst ds,.int i=>λt=>(atI ds i).map λd=>(d,t)
 | .tup ds,.int i=>λt=>(atI ds i).map λd=>(d,t)
 | .scr ns,.int i=>λt=>(atI ns i).map λn=>(.int n,t)
 | .str x,.int i=>λt=>if x.length<=LIM then (atI x.cps.toList i).map λn=>(.str ⟨#[n]⟩,t) else none
 | .obj k,.int i=>λt=>match t.S[k]? with
   | some (.lst ds)=>(atI ds i).map λd=>(d,t)
   | _=>none
 | _,_=>fail
theorem Iq {c:Cf} {H:Hp} {vs:List V} {ds:List D} {i:Int} {d:D} (r:Reps K c H vs ds) (h:atI ds i=some d):∃v,atI vs i=some v/\Rep K c H v d:=by
 unfold atI at h ⊢
 obtain ⟨j,h1,h2⟩:=Option.bind_eq_some_iff.mp h
 obtain ⟨v,h3,h4⟩:=r.at h2
 exact ⟨v,by rw [r.length,h1];exact h3,h4⟩
theorem Tb {α β:Type} (g:α->β) (xs:List α) (i:Int):atI (xs.map g) i=(atI xs i).map g:=by
 unfold atI
 rw [List.length_map]
 cases ixN xs.length i with
 | none=>rfl
 | some j=>simp
theorem Vf {dx dy r:D} {t t':T} (eq:ixD dx dy t=some (r,t')):∃i,dy = .int i/\((∃ds,dx = .lst ds)\/(∃ds,dx = .tup ds)\/(∃ns,dx = .scr ns)\/(∃z,dx = .str z)\/∃k,dx = .obj k):=by
 unfold ixD at eq
 split at eq
 ·exact ⟨_,rfl,.inl ⟨_,rfl⟩⟩
 ·exact ⟨_,rfl,.inr (.inl ⟨_,rfl⟩)⟩
 ·exact ⟨_,rfl,.inr (.inr (.inl ⟨_,rfl⟩))⟩
 ·exact ⟨_,rfl,.inr (.inr (.inr (.inl ⟨_,rfl⟩)))⟩
 ·exact ⟨_,rfl,.inr (.inr (.inr (.inr ⟨_,rfl⟩)))⟩
 ·cases eq
theorem Am:BZ K (rIx K) ixD:=λ{Oo c t Z H x y dx dy r t' Q} f rx ry eq k=>by
 obtain ⟨i,rfl,hd⟩:=Vf eq
 cases ry
 rcases hd with ⟨ds,rfl⟩ | ⟨ds,rfl⟩ | ⟨ns,rfl⟩ | ⟨z,rfl⟩ | ⟨kk,rfl⟩
 ·cases rx with
  | @lst a vs _ h1 h2 h3=>
    obtain ⟨d,e1,e2⟩:=Option.map_eq_some_iff.mp eq
    cases e2
    obtain ⟨v,e3,e4⟩:=Iq h3 e1
    exact .inl ⟨a,vs,i,v,rfl,rfl,SqL.of h1,e3,k _ H c f .refl e4⟩
 ·cases rx with
  | @tup a vs _ h1 h2 h3=>
    obtain ⟨d,e1,e2⟩:=Option.map_eq_some_iff.mp eq
    cases e2
    obtain ⟨v,e3,e4⟩:=Iq h3 e1
    exact .inr (.inl ⟨a,vs,i,v,rfl,rfl,SqT.of h1,e3,k _ H c f .refl e4⟩)
 ·cases rx with
  | @scr a _ h1=>
    obtain ⟨n,e1,e2⟩:=Option.map_eq_some_iff.mp eq
    cases e2
    exact .inl ⟨a,_,i,.int n,rfl,rfl,h1.sq,by rw [Tb,e1];rfl,k _ H c f .refl (.int n)⟩
 ·cases rx
  unfold ixD at eq
  dsimp only at eq
  split at eq
  ·next hl=>
   obtain ⟨n,e1,e2⟩:=Option.map_eq_some_iff.mp eq
   cases e2
   exact .inr (.inr ⟨z,i,n,rfl,rfl,Nat.le_trans hl CI,e1,k _ H c f .refl (.str _)⟩)
  ·cases eq
 ·cases rx with
  | @obj a _ h1=>
    unfold ixD at eq
    dsimp only at eq
    cases es:t.S[kk]? with
    | none=>rw [es] at eq;cases eq
    | some o=>
      rw [es] at eq
      cases o with
      | dct _=>cases eq
      | lst ds=>
        obtain ⟨d,e1,e2⟩:=Option.map_eq_some_iff.mp eq
        cases e2
        obtain ⟨vs,g1,g2⟩:=f.s.obs kk a _ h1 es
        obtain ⟨v,e3,e4⟩:=Iq g2 e1
        exact .inl ⟨a,vs,i,v,rfl,rfl,SqL.of g1,e3,k _ H c f .refl e4⟩
end
section
variable {X:Cx} {e a b:Expr} {es:List Expr} {pos:Pos}
def RO (K:PySem.W.Frag) (f:M (Option Int)):TO:=λZ H Q=>∃Oo c t,FInv K Oo c t Z H/\∃r t',f t=some (r,t')/\∀H' c',FInv K Oo c' t' Z H'->Stp Oo c H c' H'->Q r H'
theorem Pk {oe:Option Expr} {t t':TO} (h:PO X oe t) (i:∀Z H Q,t' Z H Q->t Z H Q):PO X oe t':=λpins s Z H Q I q=>h pins s Z H Q I (i Z H Q q)
def fNo:M (Option Int):=ret none
def asI:D->M (Option Int)
 | .int i=>ret (some i)
 | _=>fail
def EZ (f:M D):M (Option Int):=bnd f asI
theorem Fs:PO X none (RO X.K fNo):=Pk Uf λZ H Q ⟨Oo,c,t,fi,r,t',eq,k⟩=>by
 cases eq
 exact k H c fi .refl
theorem Ft {f:M D} (h:PE X e (RE X.K f)):PO X (some e) (RO X.K (EZ f)):=Pk (Ug h) λZ H Q ⟨Oo,c,t,fi,r,t',eq,k⟩=>by
 obtain ⟨d,t1,e1,eq⟩:=Au eq
 refine ⟨Oo,c,t,fi,d,t1,e1,λv H1 c1 f1 s1 rv=>?_⟩
 cases rv with
 | int i=>cases eq;exact ⟨i,rfl,k H1 c1 f1 s1⟩
 | _=>cases eq
def QW (K:PySem.W.Frag) (R:V->Option Int->Option Int->Hp->VK->Prop) (h:D->Option Int->Option Int->M D):Prop:=∀{Oo:Addr->Prop} {c:Cf} {t:T} {Z:L2.St} {H:Hp} {x:V} {dx r:D} {lo hi:Option Int} {t':T} {Q:VK},FInv K Oo c t Z H->Rep K c H x dx->h dx lo hi t=some (r,t')->
 (∀v H' c',FInv K Oo c' t' Z H'->Stp Oo c H c' H'->Rep K c' H' v r->Q v H')->R x lo hi H Q
def fSl (f:M D) (l u:M (Option Int)) (h:D->Option Int->Option Int->M D):M D:=bnd f λx=>bnd l λlo=>bnd u λhi=>h x lo hi
theorem EK {R:V->Option Int->Option Int->Hp->VK->Prop} {h:D->Option Int->Option Int->M D} {f:M D} {l u:M (Option Int)} {lo hi:Option Expr} {p2:Pos} (hr:SlR X R) (s:QW X.K R h) (he:PE X e (RE X.K f)) (hl:PO X lo (RO X.K l)) (hu:PO X hi (RO X.K u)):PE X (.Subscript e (.Slice lo hi none p2) pos) (RE X.K (fSl f l u h)):=
 BN (RK hr he hl hu) λZ H Q ⟨Oo,c,t,fi,r,t',eq,k⟩=>by
  obtain ⟨d,t1,e1,eq⟩:=Au eq
  obtain ⟨ol,t2,e2,eq⟩:=Au eq
  obtain ⟨oh,t3,e3,eq⟩:=Au eq
  exact ⟨Oo,c,t,fi,d,t1,e1,λv H1 c1 f1 s1 rv=>⟨Oo,c1,t1,f1,ol,t2,e2,λH2 c2 f2 s2=>⟨Oo,c2,t2,f2,oh,t3,e3,λH3 c3 f3 s3=>
   s f3 (rv.mono (s2.trans s3).ext) eq λv H' c' f' s' rv'=>k v H' c' f' (((s1.trans s2).trans s3).trans s') rv'⟩⟩⟩
def Dc {α:Type} (xs:List α) (lo hi:Option Int):List α:=(xs.drop (HT.sIx xs.length 0 lo)).take (HT.sIx xs.length xs.length hi - HT.sIx xs.length 0 lo)
def slD:D->Option Int->Option Int->M D
 | .lst ds,lo,hi=>ret (.lst (Dc ds lo hi))
 | .scr ns,lo,hi=>ret (.lst ((Dc ns lo hi).map .int))
 | .tup ds,lo,hi=>λt=>if HT.sIx ds.length 0 lo=0/\HT.sIx ds.length ds.length hi=ds.length then none else some (.tup (Dc ds lo hi),t)
 | _,_,_=>fail
theorem IT {K:PySem.W.Frag} {c:Cf} {H:Hp} {vs:List V} {ds:List D} (r:Reps K c H vs ds) (lo hi:Option Int):Reps K c H (GE vs lo hi) (Dc ds lo hi):=by
 unfold GE Dc
 rw [r.length]
 exact (r.drop _).take _
theorem Q8 {α β:Type} (g:α->β) (xs:List α) (lo hi:Option Int):Dc (xs.map g) lo hi=(Dc xs lo hi).map g:=by
 unfold Dc
 rw [List.length_map,List.map_take,List.map_drop]
theorem Py (ns:List Int) (lo hi:Option Int):GE (ns.map V.int) lo hi=(Dc ns lo hi).map V.int:=Q8 V.int ns lo hi
def R3 (K:PySem.W.Frag):V->Option Int->Option Int->Hp->VK->Prop:=λx lo hi H Q=>V2 K x lo hi H Q\/V4 K x lo hi H Q
theorem sl2:SlR X (R3 X.K):=sl_list.or We
theorem Wc {K:PySem.W.Frag}:QW K (R3 K) slD:=λ{Oo c t Z H x dx r lo hi t' Q} f rx eq k=>by
 cases rx with
 | @lst p vs ds h1 h2 h3=>
   cases eq
   exact .inl ⟨p,vs,rfl,SqL.of h1,λq hq=>k _ _ c (f.laid hq) (f.stp_laid hq) (.lst Az (f.s.free hq) ((IT h3 lo hi).mono (Ext.laid f.s hq)))⟩
 | @scr p ns h1=>
   cases eq
   refine .inl ⟨p,_,rfl,h1.sq,λq hq=>k _ _ c (f.laid hq) (f.stp_laid hq) (.lst Az (f.s.free hq) ?_)⟩
   rw [Py]
   exact Reps.ints _
 | @tup p vs ds h1 h2 h3=>
   unfold slD at eq
   dsimp only at eq
   split at eq
   ·cases eq
   ·next hn=>
    cases eq
    exact .inr ⟨p,vs,rfl,SqT.of h1,by rw [h3.length];exact hn,λq hq=>k _ _ c (f.laid hq) (f.stp_laid hq) (.tup Az (f.s.free hq) ((IT h3 lo hi).mono (Ext.laid f.s hq)))⟩
 | _=>cases eq
theorem Yc {id:String} {R:List V->Hp->VK->Prop} {h:List D->M D} {f:M (List D)} {x:Str} {p:Pos} (hc:CN X (.builtin id) R) (s:Fb X.K R h) (hg:Gl X x) (hm:X.mg x=none) (hv:bootBuiltins x=some (.builtin id)) (ha:PA X (e :: es) (RA X.K f)) (hn:x≠"__name__":=by decide) (hdb:(x == ("__debug__" : Str))=false:=by decide)
 (he:starEach (e :: es) X.env=(false,eval e X.env) :: starEach es X.env:=by rfl) (hpl:(backTo pos (starEach es X.env)).any (·.1)=false:=by rfl):PE X (.Call (.Name x p) (e :: es) [] pos) (RE X.K (fB f h)):=
 BN (IO hc hg hm hv ha hn hdb he hpl) λ_ _ _ q=>RE.callB s q
theorem Yd {id:String} {R:List V->Hp->VK->Prop} {h:List D->M D} {f:M (List D)} {x:Str} {p:Pos} (hc:CN X (.type id) R) (s:Fb X.K R h) (hg:Gl X x) (hm:X.mg x=none) (hv:bootBuiltins x=some (.type id)) (ha:PA X (e :: es) (RA X.K f)) (hn:x≠"__name__":=by decide) (hdb:(x == ("__debug__" : Str))=false:=by decide)
 (he:starEach (e :: es) X.env=(false,eval e X.env) :: starEach es X.env:=by rfl) (hpl:(backTo pos (starEach es X.env)).any (·.1)=false:=by rfl):PE X (.Call (.Name x p) (e :: es) [] pos) (RE X.K (fB f h)):=
 BN (Hq hc hg hm hv ha hn hdb he hpl) λ_ _ _ q=>RE.callB s q
theorem Ye {id:String} {R:List V->Hp->VK->Prop} {h:List D->M (List D)} {f:M (List D)} {x:Str} {p:Pos} (hc:CN X (.type id) R) (s:LF X.K R h) (hg:Gl X x) (hm:X.mg x=none) (hv:bootBuiltins x=some (.type id)) (ha:PA X (e :: es) (RA X.K f)) (hn:x≠"__name__":=by decide) (hdb:(x == ("__debug__" : Str))=false:=by decide)
 (he:starEach (e :: es) X.env=(false,eval e X.env) :: starEach es X.env:=by rfl) (hpl:(backTo pos (starEach es X.env)).any (·.1)=false:=by rfl):PE X (.Call (.Name x p) (e :: es) [] pos) (RF X.K (fBF f h)):=
 BN (Hq hc hg hm hv ha hn hdb he hpl) λ_ _ _ q=>RF.callB s q
theorem OH {op:Operator} {R:R2} {f g:M D} {h:D->D->M (List D)} (ho:OpR X (binaryOp op) R) (s:Ot X.K R h) (ha:PE X a (RE X.K f)) (hb:PE X b (RE X.K g)):PE X (.BinOp a op b pos) (RF X.K (bnd f λx=>bnd g λy=>h x y)):=
 BN (OV ho ha hb) λ_ _ _ q=>RF.two s q
end
section
variable {K:PySem.W.Frag}
theorem D6 {c:Cf} {H:Hp} {xs:List V} {d:D} (r:Reps K c H xs [d]):∃v,xs=[v]/\Rep K c H v d:=by
 cases r with
 | cons r rs=>cases rs;exact ⟨_,rfl,r⟩
theorem O2 {c:Cf} {H:Hp} {xs:List V} {d e:D} (r:Reps K c H xs [d,e]):∃v u,xs=[v,u]/\Rep K c H v d/\Rep K c H u e:=by
 cases r with
 | cons r rs=>
   obtain ⟨u,rfl,q⟩:=D6 rs
   exact ⟨_,u,rfl,r,q⟩
def Cb:List D->M D
 | [.lst ds]=>ret (.int ds.length)
 | [.tup ds]=>ret (.int ds.length)
 | [.scr ns]=>ret (.int ns.length)
 | [.str x]=>lim x.length (.int x.length)
 | [.obj k]=>λt=>match t.S[k]? with
   | some (.lst ds)=>some (.int ds.length,t)
   | _=>none
 | _=>fail
theorem B1:Fb K (λxs H Q=>∃x n,xs=[x]/\UY K x H n/\Q (.int n) H) Cb:=λ{Oo c t Z H xs ds r t' Q} f rx eq k=>by
 match ds,rx,eq with
 | [],_,eq=>cases eq
 | d0 :: _ :: _,_,eq=>cases d0 <;> cases eq
 | [d],rx,eq=>
   obtain ⟨v,rfl,rv⟩:=D6 rx
   cases rv with
   | @lst a vs ds h1 h2 h3=>cases eq;exact ⟨_,ds.length,rfl,.inl ⟨vs,SqL.of h1,h3.length.symm⟩,k _ H c f .refl (.int _)⟩
   | @tup a vs ds h1 h2 h3=>cases eq;exact ⟨_,ds.length,rfl,.inr ⟨vs,SqT.of h1,h3.length.symm⟩,k _ H c f .refl (.int _)⟩
   | @scr a ns h1=>cases eq;exact ⟨_,ns.length,rfl,.inl ⟨_,h1.sq,by simp⟩,k _ H c f .refl (.int _)⟩
   | str x=>
     obtain ⟨hl,z⟩:=Eb eq
     cases z
     exact ⟨_,x.length,rfl,⟨Nat.le_trans hl CI,rfl⟩,k _ H c f .refl (.int _)⟩
   | @obj a kk h1=>
     unfold Cb at eq
     dsimp only at eq
     cases es:t.S[kk]? with
     | none=>rw [es] at eq;cases eq
     | some o=>
       rw [es] at eq
       cases o with
       | dct _=>cases eq
       | lst ds=>
         cases eq
         obtain ⟨vs,g1,g2⟩:=f.s.obs kk a _ h1 es
         exact ⟨_,ds.length,rfl,.inl ⟨vs,SqL.of g1,g2.length.symm⟩,k _ H c f .refl (.int _)⟩
   | _=>cases eq
noncomputable def tyD:D->Option String
 | .non=>some "NoneType"
 | .bl _=>some "bool"
 | .int _=>some "int"
 | .str _=>some "str"
 | .lst _=>some "list"
 | .tup _=>some "tuple"
 | .dic=>some "dict"
 | _=>none
noncomputable def Kv (n m:String):Option Bool:=match m with
 | "int"=>some (n == "int" || n == "bool")
 | "bool"=>some (n == "bool")
 | "str"=>some (n == "str")
 | "list"=>some (n == "list")
 | "tuple"=>some (n == "tuple")
 | "dict"=>some (n == "dict")
 | _=>none
def EA:List D->M D
 | [d,.ty m]=>λt=>match tyD d with
   | some n=>(Kv n m).map λb=>(.bl b,t)
   | none=>none
 | _=>fail
theorem TC {d:D} {n m:String} {b:Bool} (h1:tyD d=some n) (h2:Kv n m=some b):PySem.W.kitOne K (.type n) (.type m)=some b:=by
 have hm:m = "int"\/m = "bool"\/m = "str"\/m = "list"\/m = "tuple"\/m = "dict":=by
  unfold Kv at h2
  split at h2 <;> simp_all
 have hn:n = "NoneType"\/n = "bool"\/n = "int"\/n = "str"\/n = "list"\/n = "tuple"\/n = "dict":=by
  cases d <;> simp [tyD] at h1 <;> simp [<-h1]
 rcases hm with rfl | rfl | rfl | rfl | rfl | rfl <;> rcases hn with rfl | rfl | rfl | rfl | rfl | rfl | rfl <;> (cases h2;rfl)
def VW (K:PySem.W.Frag):List V->Hp->VK->Prop:=λxs H Q=>∃x n t b,xs=[x,.ty n]/\TyOf K H x t/\PySem.W.kitOne K t (.type n)=some b/\Q (.bl b) H
theorem D9 {X:Cx}:CN X (.builtin "isinstance") (VW X.K):=by
 intro pins s Z H xs us Q I r h
 obtain ⟨x,n,t,b,rfl,ty,e,q⟩:=h
 obtain ⟨u,w',rfl,rx,rt⟩:=LP r
 cases rt
 exact La I rx ty e λtk=>⟨.bl b,H,I.tok tk,rfl,q⟩
theorem ET:Fb K (VW K) EA:=λ{Oo c t Z H xs ds r t' Q} f rx eq k=>by
 unfold EA at eq
 split at eq
 ·next d m=>
  obtain ⟨v,u,rfl,rv,ru⟩:=O2 rx
  cases ru
  cases et:tyD d with
  | none=>rw [et] at eq;cases eq
  | some n=>
    rw [et] at eq
    obtain ⟨b,e1,e2⟩:=Option.map_eq_some_iff.mp eq
    cases e2
    refine ⟨v,m,.type n,b,rfl,?_,TC et e1,k _ H c f .refl (.bl b)⟩
    cases rv <;> first | (cases et;first | exact .non | exact .bl _ | exact .int _ | exact .str _ | exact .lst ‹_› | exact .tup ‹_› | exact .dK ‹_›) | cases et
 ·cases eq
def Nt:List D->M D
 | [.lst ds]=>ret (.tup ds)
 | [.tup ds]=>ret (.tup ds)
 | [.obj k]=>λt=>match t.S[k]? with
   | some (.lst ds)=>some (.tup ds,t)
   | _=>none
 | _=>fail
theorem Ux:Fb K (λxs H Q=>∃p ys,xs=[.ref p]/\((SqL K H p ys/\∀l,H l=none->Q (.ref l) (upd H l (.tup ys)))\/(SqT K H p ys/\Q (.ref p) H))) Nt:=λ{Oo c t Z H xs ds r t' Q} f rx eq k=>by
 match ds,rx,eq with
 | [],_,eq=>cases eq
 | d0 :: _ :: _,_,eq=>cases d0 <;> cases eq
 | [d],rx,eq=>
   obtain ⟨v,rfl,rv⟩:=D6 rx
   cases rv with
   | @lst a vs ds h1 h2 h3=>cases eq;exact ⟨a,vs,rfl,.inl ⟨SqL.of h1,λq hq=>k _ _ c (f.laid hq) (f.stp_laid hq) (.tup Az (f.s.free hq) (h3.mono (Ext.laid f.s hq)))⟩⟩
   | @tup a vs ds h1 h2 h3=>cases eq;exact ⟨a,vs,rfl,.inr ⟨SqT.of h1,k _ H c f .refl (.tup h1 h2 h3)⟩⟩
   | @obj a kk h1=>
     unfold Nt at eq
     dsimp only at eq
     cases es:t.S[kk]? with
     | none=>rw [es] at eq;cases eq
     | some o=>
       rw [es] at eq
       cases o with
       | dct _=>cases eq
       | lst ds=>
         cases eq
         obtain ⟨vs,g1,g2⟩:=f.s.obs kk a _ h1 es
         exact ⟨a,vs,rfl,.inl ⟨SqL.of g1,λq hq=>k _ _ c (f.laid hq) (f.stp_laid hq) (.tup Az (f.s.free hq) (g2.mono (Ext.laid f.s hq)))⟩⟩
   | _=>cases eq
def GP:List D->M (List D)
 | [.lst ds]=>ret ds
 | [.tup ds]=>ret ds
 | [.scr ns]=>ret (ns.map .int)
 | [.obj k]=>λt=>match t.S[k]? with
   | some (.lst ds)=>some (ds,t)
   | _=>none
 | _=>fail
theorem HZ:LF K (λxs H Q=>∃p ys,xs=[.ref p]/\(SqL K H p ys\/SqT K H p ys)/\∀l,H l=none->Q (.ref l) (upd H l (.lst ys))) GP:=λ{Oo c t Z H xs ds r t' Q} f rx eq k=>by
 match ds,rx,eq with
 | [],_,eq=>cases eq
 | d0 :: _ :: _,_,eq=>cases d0 <;> cases eq
 | [d],rx,eq=>
   obtain ⟨v,rfl,rv⟩:=D6 rx
   cases rv with
   | @lst a vs ds h1 h2 h3=>cases eq;exact ⟨a,vs,rfl,.inl (SqL.of h1),λq hq=>k q vs H c f .refl h3 hq⟩
   | @tup a vs ds h1 h2 h3=>cases eq;exact ⟨a,vs,rfl,.inr (SqT.of h1),λq hq=>k q vs H c f .refl h3 hq⟩
   | @scr a ns h1=>cases eq;exact ⟨a,_,rfl,.inl h1.sq,λq hq=>k q _ H c f .refl (Reps.ints ns) hq⟩
   | @obj a kk h1=>
     unfold GP at eq
     dsimp only at eq
     cases es:t.S[kk]? with
     | none=>rw [es] at eq;cases eq
     | some o=>
       rw [es] at eq
       cases o with
       | dct _=>cases eq
       | lst ds=>
         cases eq
         obtain ⟨vs,g1,g2⟩:=f.s.obs kk a _ h1 es
         exact ⟨a,vs,rfl,.inl (SqL.of g1),λq hq=>k q vs H c f .refl g2 hq⟩
   | _=>cases eq
def MS:List D->M D
 | [.int i]=>ret (.int i)
 | [.bl b]=>ret (.int (if b then 1 else 0))
 | _=>fail
theorem Ut:Fb K (λxs H Q=>(∃i,xs=[.int i]/\Q (.int i) H)\/∃k,xs=[.bl k]/\Q (.int (if k then 1 else 0)) H) MS:=λ{Oo c t Z H xs ds r t' Q} f rx eq k=>by
 match ds,rx,eq with
 | [],_,eq=>cases eq
 | d0 :: _ :: _,_,eq=>cases d0 <;> cases eq
 | [d],rx,eq=>
   obtain ⟨v,rfl,rv⟩:=D6 rx
   cases rv with
   | int i=>cases eq;exact .inl ⟨i,rfl,k _ H c f .refl (.int _)⟩
   | bl b=>cases eq;exact .inr ⟨b,rfl,k _ H c f .refl (.int _)⟩
   | _=>cases eq
def X4:List D->M D
 | [.int i]=>ret (.int (if i < 0 then -i else i))
 | _=>fail
def GQ:List D->M D
 | [.int i,.int j]=>ret (.int (if j < i then j else i))
 | _=>fail
def MZ:List D->M D
 | [.int i,.int j]=>ret (.int (if j > i then j else i))
 | _=>fail
theorem H0:Fb K (λxs H Q=>∃i j,xs=[.int i,.int j]/\Q (.int (if j < i then j else i)) H) GQ:=λ{Oo c t Z H xs ds r t' Q} f rx eq k=>by
 unfold GQ at eq
 split at eq
 ·next i j=>
  obtain ⟨v,u,rfl,rv,ru⟩:=O2 rx
  cases rv;cases ru;cases eq
  exact ⟨i,j,rfl,k _ H c f .refl (.int _)⟩
 ·cases eq
theorem Uu:Fb K (λxs H Q=>∃i j,xs=[.int i,.int j]/\Q (.int (if j > i then j else i)) H) MZ:=λ{Oo c t Z H xs ds r t' Q} f rx eq k=>by
 unfold MZ at eq
 split at eq
 ·next i j=>
  obtain ⟨v,u,rfl,rv,ru⟩:=O2 rx
  cases rv;cases ru;cases eq
  exact ⟨i,j,rfl,k _ H c f .refl (.int _)⟩
 ·cases eq
def KI:List D->M D
 | [.str x]=>λt=>if x.length=1 then some (.int (x.cps.getD 0 0:Nat),t) else none
 | _=>fail
theorem Of:Fb K (λxs H Q=>∃x,xs=[.str x]/\x.length=1/\Q (.int (x.cps.getD 0 0:Nat)) H) KI:=λ{Oo c t Z H xs ds r t' Q} f rx eq k=>by
 match ds,rx,eq with
 | [],_,eq=>cases eq
 | d0 :: _ :: _,_,eq=>cases d0 <;> cases eq
 | [d],rx,eq=>
   obtain ⟨v,rfl,rv⟩:=D6 rx
   cases rv with
   | str x=>
     unfold KI at eq
     dsimp only at eq
     split at eq
     ·next h=>cases eq;exact ⟨x,rfl,h,k _ H c f .refl (.int _)⟩
     ·cases eq
   | _=>cases eq
end
end F2
namespace L2
open PySem PySem.Spec PyProof.Rows
open AutoSeq1 (wpAny_loadPart')
def SK (K:PySem.W.Frag):R2:=λx y H Q=>∃a b ys,x = .ref a/\y = .ref b/\SqT K H a []/\SqT K H b ys/\Q (.ref b) H
theorem T1 {X:Cx}:OpR X (binaryOp .Add) (SK X.K):=by
 intro pins s Z H x y v u Q I rx ry h
 obtain ⟨a,b,ys,rfl,rfl,h1,h2,q⟩:=h
 cases rx
 cases ry
 obtain ⟨its,r,⟨⟨cls,dd,data,sl⟩,ho,hc,n,hd⟩,z⟩:=I.tuple h1
 obtain ⟨its2,r2,⟨⟨cls2,dd2,data2,sl2⟩,ho2,hc2,n2,hd2⟩,z2⟩:=I.tuple h2
 simp only at hc hd hc2 hd2
 subst hc hd hc2 hd2
 cases r
 exact concat_meets ⟨_,ho,rfl⟩ ⟨_,ho2,rfl⟩ noFill_tuple_add seq_tuple_add PySem.F.slot_tuple_add PySem.F.entry_tuple_add (PySem.F.args_tuple_add_2 _ _)
  (tuple_addW0 a b #[] its2.toArray n n2 dd dd2 sl sl2 rfl) ⟨ho,ho2,.ref b,H,I,rfl,q⟩
theorem II:fillsNumberSlot (.type "tuple") "mul" = pure false:=
 PySem.fillsNumberSlot_seq (id:="tuple.__mul__") (r:=some (.builtin "tuple.__rmul__")) F.slot_tuple_mul.lookup (by decide +kernel) F.slot_tuple_rmul.lookup (by decide +kernel)
theorem Nh:seqRepeat? (.type "tuple")=pure (some (.builtin "tuple.__mul__")):=by
 unfold seqRepeat?
 rw [PySem.seqSlot_of (T:="tuple") (name:="__mul__") (id:="tuple.__mul__") F.slot_tuple_mul.lookup (by decide +kernel),PySem.seqSlot_of (T:="tuple") (name:="__rmul__") (id:="tuple.__rmul__") F.slot_tuple_rmul.lookup (by decide +kernel)]
 rfl
theorem KN (a:Int) (t:Tok) (l:Addr) (items:Array Value) (n:Nat) (dd:Option Addr) (sl:Array (Option Value)) :
 Meets (Builtin.«int.__rmul__» ⟨[.int a t,.ref l],[]⟩) (λ_ R s=>s.heap.get? l=some { cls:=.type "tuple",dict:=dd,data:=.seq items n,slots:=sl }/\R (.ok (.ret Value.notImplemented)) s):=
 .of_wp λprog w A R s h=>by obtain ⟨hp,g,d,tk,os⟩:=s;obtain ⟨hl,h⟩:=h;wp_walk;exact ⟨_,rfl,h⟩
theorem NM (l:Addr) (items:Array Value) (n:Nat) (dd:Option Addr) (sl:Array (Option Value)) (x:Int) (u:Tok) (hc0:(decide (x < -(2 ^ 63)) || decide (x ≥ 2 ^ 63))=false) (hc1:(items.isEmpty || x == 1)=true) :
 Meets (Builtin.«tuple.__mul__» ⟨[.ref l,.int x u],[]⟩) (λ_ R s=>s.heap.get? l=some { cls:=.type "tuple",dict:=dd,data:=.seq items n,slots:=sl }/\R (.ok (.ret (Value.ref l))) s):=
 .of_wp λprog w A R s h=>by
  obtain ⟨hp,g,d,tk,os⟩:=s;obtain ⟨hl,h⟩:=h;have f1:=AutoSeq1.idx_int;have f2:=AutoSeq1.sub_tuple_tuple;have f3:=AutoSeq1.sub_list_list;have f4:=AutoSeq1.sub_tuple_list;have f5:=AutoSeq1.sub_list_tuple
  wp_walk using wpAny_loadPart' hl
  refine wpAny_ite_split (λz=>absurd z (by rw [hc0];decide)) λ_=>?_
  wp_walk using wpAny_loadPart' hl
  exact ⟨_,rfl,h⟩
theorem NN (l:Addr) (items:Array Value) (n:Nat) (dd:Option Addr) (sl:Array (Option Value)) (x:Int) (u:Tok) (hc0:(decide (x < -(2 ^ 63)) || decide (x ≥ 2 ^ 63))=false) (hc1:(items.isEmpty || x == 1)=false) (hc2:(decide (x<=0) || items.isEmpty)=true) :
 Meets (Builtin.«tuple.__mul__» ⟨[.ref l,.int x u],[]⟩) (λ_ R s=>s.heap.get? l=some { cls:=.type "tuple",dict:=dd,data:=.seq items n,slots:=sl }/\R (.ok (.ret (Value.ref s.heap.objs.size))) { s with heap:=s.heap.push { cls:=Value.type "tuple",data:=Data.seq #[] },toks:=s.toks }):=
 .of_wp λprog w A R s h=>by
  obtain ⟨hp,g,d,tk,os⟩:=s;obtain ⟨hl,h⟩:=h;have f1:=AutoSeq1.idx_int;have f2:=AutoSeq1.sub_tuple_tuple;have f3:=AutoSeq1.sub_list_list;have f4:=AutoSeq1.sub_tuple_list;have f5:=AutoSeq1.sub_list_tuple
  wp_walk using wpAny_loadPart' hl
  refine wpAny_ite_split (λz=>absurd z (by rw [hc0];decide)) λ_=>?_
  wp_walk using wpAny_loadPart' hl
  exact ⟨_,rfl,h⟩
theorem NO (l:Addr) (items:Array Value) (n:Nat) (dd:Option Addr) (sl:Array (Option Value)) (x:Int) (u:Tok) (hc0:(decide (x < -(2 ^ 63)) || decide (x ≥ 2 ^ 63))=false) (hc1:(items.isEmpty || x == 1)=false) (hc2:(decide (x<=0) || items.isEmpty)=false)
 (hc3:¬(items.size:Int) * x > (2 ^ 63 - 1) / 8) (hc4:Builtin.Tuple.tupleTooMany ((items.size:Int) * x)=false) (hsz:(List.foldl (λx1 x2=>x1++x2) #[] (List.replicate x.toNat items)).size<=sizeLine) :
 Meets (Builtin.«tuple.__mul__» ⟨[.ref l,.int x u],[]⟩) (λ_ R s=>s.heap.get? l=some { cls:=.type "tuple",dict:=dd,data:=.seq items n,slots:=sl }/\R (.ok (.ret (Value.ref s.heap.objs.size))) { s with heap:=s.heap.push { cls:=Value.type "tuple",data:=Data.seq (List.foldl (λx1 x2=>x1++x2) #[] (List.replicate x.toNat items)) },toks:=s.toks }):=
 .of_wp λprog w A R s h=>by
  obtain ⟨hp,g,d,tk,os⟩:=s;obtain ⟨hl,h⟩:=h;have f1:=AutoSeq1.idx_int;have f2:=AutoSeq1.sub_tuple_tuple;have f3:=AutoSeq1.sub_list_list;have f4:=AutoSeq1.sub_tuple_list;have f5:=AutoSeq1.sub_list_tuple
  wp_walk using wpAny_loadPart' hl
  refine wpAny_ite_split (λz=>absurd z (by rw [hc0];decide)) λ_=>?_
  wp_walk using wpAny_loadPart' hl
  refine wpAny_ite_split (λz=>absurd z hc3) λ_=>?_
  wp_walk using wpAny_loadPart' hl
  exact ⟨_,rfl,h⟩
end L2
namespace L2
open PySem PySem.Spec PyProof.Rows
open AutoSeq1 (wpAny_loadPart')
def SS (K:PySem.W.Frag):R2:=λx y H Q=>∃a k xs,x = .ref a/\y = .int k/\SqT K H a xs/\-(2 ^ 62)<=k/\k < 2 ^ 62/\xs.length * k.toNat<=sizeLine/\
 ((xs=[]\/k=1)->Q (.ref a) H)/\(¬(xs=[]\/k=1)->∀p,H p=none->Q (.ref p) (upd H p (.tup (List.replicate k.toNat xs).flatten)))
theorem Inv.tnew {X:Cx} {pins:List (Addr×Obj)} {Z:L2.St} {H:Hp} {s:Shared} {ys:List V} {its:List Value} {t':Nat} (I:Inv X pins Z H s) (hv:Vals ys its) (hz:ys.length<=sizeLine) :
 Inv X pins Z (upd H s.heap.objs.size (.tup ys)) { s with heap:=s.heap.push { cls:=.type "tuple",data:=.seq its.toArray },toks:=t' }:=
 I.laid (λb u e=>Heap.get?_push_of_some _ e) (Nat.le_refl _) ⟨hz,its,hv,⟨_,Heap.get?_push_size _ rfl,rfl,_,rfl⟩⟩
theorem op_mulT {X:Cx}:OpR X (binaryOp .Mult) (SS X.K):=by
 intro pins s Z H x y v u Q I rx ry h
 obtain ⟨a,k,xs,rfl,rfl,hq,h1,h2,hz,q1,q2⟩:=h
 cases rx
 obtain ⟨t,rfl⟩:=ry
 obtain ⟨its,r,⟨⟨cls,dd,data,sl⟩,ho,hc,n,hd⟩,z⟩:=I.tuple hq
 simp only at hc hd
 subst hc hd
 have hl:=r.length
 have hc0:(decide (k < -(2 ^ 63)) || decide (k ≥ 2 ^ 63))=false:=by
  rw [Bool.or_eq_false_iff];exact ⟨decide_eq_false (by lia),decide_eq_false (by lia)⟩
 refine wpAny_binaryOp_repeat_ref (T:="tuple") (U:="int") (by decide) ⟨_,ho,rfl⟩ (λs'=>typeIs_int s' k t) II F.fills_int_mul F.slot_int_rmul Nh F.slot_int_index.lookup
  (call_meets F.slot_int_rmul (typeIs_int s k t) F.entry_int_rmul (F.args_int_rmul_2 _ _) (KN k t a its.toArray n dd sl) ⟨ho,rfl,⟨_,ho,rfl⟩,?_⟩)
 by_cases hs:xs=[]\/k=1
 ·have hc1:(its.toArray.isEmpty || k == 1)=true:=by
   rw [Bool.or_eq_true]
   rcases hs with z | z
   ·subst z;cases r;exact .inl rfl
   ·exact .inr (by simp [z])
  exact call_meets F.slot_tuple_mul ⟨_,ho,rfl⟩ F.entry_tuple_mul (F.args_tuple_mul_2 _ _) (NM a its.toArray n dd sl k t hc0 hc1) ⟨ho,.ref a,H,I,rfl,q1 hs⟩
 ·have hne:its≠[]:=λz=>hs (.inl (by subst z;cases r;rfl))
  have hk1:k≠1:=λz=>hs (.inr z)
  have hem:its.toArray.isEmpty=false:=by cases its with | nil=>exact absurd rfl hne | cons _ _=>rfl
  have hc1:(its.toArray.isEmpty || k == 1)=false:=by rw [hem];simpa using hk1
  by_cases hk:k<=0
  ·have hc2:(decide (k<=0) || its.toArray.isEmpty)=true:=by rw [decide_eq_true hk];rfl
   refine call_meets F.slot_tuple_mul ⟨_,ho,rfl⟩ F.entry_tuple_mul (F.args_tuple_mul_2 _ _) (NN a its.toArray n dd sl k t hc0 hc1 hc2) ⟨ho,?_⟩
   have hk0:k.toNat=0:=by lia
   refine ⟨.ref _,_,I.tnew (t':=s.toks) (ys:=[]) (its:=[]) .nil (Nat.zero_le _),rfl,?_⟩
   have:=q2 hs _ I.fresh
   rw [hk0] at this
   exact this
  ·have hc2:(decide (k<=0) || its.toArray.isEmpty)=false:=by rw [decide_eq_false hk,hem];rfl
   have hsz:its.length * k.toNat<=sizeLine:=by rw [<-hl];exact hz
   have hmul:((its.toArray.size:Nat):Int) * k=((its.length * k.toNat:Nat):Int):=by
    rw [List.size_toArray,Int.natCast_mul,Int.toNat_of_nonneg (by lia)]
   have hline:(sizeLine:Nat)<=(2 ^ 63 - 1) / 8:=by decide
   have hc3:¬(its.toArray.size:Int) * k > (2 ^ 63 - 1) / 8:=by rw [hmul];lia
   have hc4:Builtin.Tuple.tupleTooMany ((its.toArray.size:Int) * k)=false:=by
    unfold Builtin.Tuple.tupleTooMany;rw [hmul];exact decide_eq_false (by lia)
   have f0:List.foldl (λx1 x2=>x1++x2) #[] (List.replicate k.toNat its.toArray)=(List.replicate k.toNat its).flatten.toArray:=by
    have:=Hh its k.toNat []
    rw [List.nil_append] at this
    exact this
   have hfz:(List.foldl (λx1 x2=>x1++x2) #[] (List.replicate k.toNat its.toArray)).size<=sizeLine:=by
    rw [f0,List.size_toArray,Kw,Nat.mul_comm];exact hsz
   refine call_meets F.slot_tuple_mul ⟨_,ho,rfl⟩ F.entry_tuple_mul (F.args_tuple_mul_2 _ _) (NO a its.toArray n dd sl k t hc0 hc1 hc2 hc3 hc4 hfz) ⟨ho,?_⟩
   rw [f0]
   exact ⟨.ref _,_,I.tnew (t':=s.toks) (r.rep k.toNat) (by rw [Kw,Nat.mul_comm];exact hz),rfl,q2 hs _ I.fresh⟩
theorem Hn (l:Addr) (items:Array Value) (n:Nat) (b:Addr) (items2:Array Value) (n2:Nat) (dd:Option Addr) (sl:Array (Option Value)) (hs0:¬(!items.isEmpty && Builtin.List.listTooLong (items.size + items2.size))=true) (hs1:items.size<=sizeLine) (hs2:items.size + items2.size<=sizeLine + 1) :
 Meets (Builtin.«list.extend» ⟨[.ref l,.ref b],[]⟩) (λ_ R s=>s.heap.get? l=some { cls:=.type "list",dict:=none,data:=.seq items n,slots:=#[] }/\s.heap.get? b=some { cls:=.type "tuple",dict:=dd,data:=.seq items2 n2,slots:=sl }/\R (.ok (.ret Value.none)) { s with heap:=s.heap.update l (Obj.mapSeq λx=>x++items2),toks:=s.toks }):=
 .of_wp λprog w A R s h=>by
  obtain ⟨hp,g,d,tk,os⟩:=s;obtain ⟨hl,hb,h⟩:=h;have f1:=AutoSeq1.idx_int;have f2:=AutoSeq1.sub_tuple_tuple;have f3:=AutoSeq1.sub_list_list;have f4:=AutoSeq1.sub_tuple_list;have f5:=AutoSeq1.sub_list_tuple
  have hz':(items++items2).size<=sizeLine + 1:=by rw [Array.size_append];exact hs2
  wp_walk using (wpAny_updateSeq hl rfl (hz:=hs1) (_hz':=hz')),wpAny_loadPart' hl,wpAny_loadPart' hb;exact ⟨_,rfl,h⟩
def Nd (K:PySem.W.Frag):V->List V->Hp->VK->Prop:=λx vs H Q=>∃l b xs zs,x = .ref l/\vs=[.ref b]/\H l=some (.lst xs)/\SqT K H b zs/\xs.length + zs.length<=sizeLine/\Q .non (upd H l (.lst (xs++zs)))
theorem OR {X:Cx}:MtM X "list.extend" (Nd X.K):=by
 intro pins s Z H x vs v us Q I rx rv h
 obtain ⟨l,b,xs,zs,rfl,rfl,hH,hB,hz,q⟩:=h
 cases rx
 obtain ⟨u,rfl,ru⟩:=rv.one
 cases ru
 obtain ⟨z,its,n,r,hl,e⟩:=I.lstM hH
 obtain ⟨its2,r2,⟨⟨cls,dd,data,sl⟩,ho,hc,n2,hd⟩,z2⟩:=I.tuple hB
 simp only at hc hd
 subst hc hd
 have hl2:=r2.length
 have hsz:its.toArray.size + its2.toArray.size<=sizeLine:=by rw [List.size_toArray,List.size_toArray];lia
 have hlong:¬(!its.toArray.isEmpty && Builtin.List.listTooLong (its.toArray.size + its2.toArray.size))=true:=by
  rw [IJ hsz,Bool.and_false]
  exact Bool.false_ne_true
 refine call_meets F.slot_list_extend ⟨_,e,rfl⟩ F.entry_list_extend (F.args_list_extend_2 _ _)
  (Hn l its.toArray n b its2.toArray n2 dd sl hlong (by rw [List.size_toArray];lia) (by lia)) ⟨e,ho,?_⟩
 refine ⟨.non,_,I.lset (its':=its++its2) hH e (by simp) (r.append r2) ?_,rfl,q⟩
 rw [List.length_append]
 lia
theorem MtM.or {X:Cx} {id:String} {r r':V->List V->Hp->VK->Prop} (h:MtM X id r) (h':MtM X id r'):MtM X id (λx xs H Q=>r x xs H Q\/r' x xs H Q):=by
 intro pins s Z H x xs v us Q I rx rv q
 rcases q with q | q
 ·exact h pins s Z H x xs v us Q I rx rv q
 ·exact h' pins s Z H x xs v us Q I rx rv q
section
variable {X:Cx} {a b c d:Expr} {ta tb tc td:TE} {pos:Pos}
end
end L2
namespace F2
open PySem L2 PySem.Spec
section
variable {K:PySem.W.Frag}
def Bh (x y:D):M D:=match x,y with
 | .tup [],.tup ys=>ret (.tup ys)
 | x,y=>Q1 x y
def SJ (K:PySem.W.Frag):R2:=λx y H Q=>OX K x y H Q\/SK K x y H Q
theorem AS {X:Cx}:OpR X (binaryOp .Add) (SJ X.K):=op_add4.or T1
theorem AK:BZ K (SJ K) Bh:=λ{Oo c t Z H x y dx dy r t' Q} f rx ry eq k=>by
 unfold Bh at eq
 split at eq
 ·next ys=>
  cases eq
  cases rx with
  | tup h1 h2 h3=>
    cases h3
    cases ry with
    | tup g1 g2 g3=>exact .inr ⟨_,_,_,rfl,rfl,SqT.of h1,SqT.of g1,k _ H c f .refl (.tup g1 g2 g3)⟩
 ·exact .inl (Up f rx ry eq k)
def IH:D->D->M D
 | .int i,.int j=>λt=>if Fo i j=true then some (.int (i * j),t) else none
 | .tup xs,.int k=>λt=>if Co k=true/\xs.length * k.toNat<=LIM then some (.tup (List.replicate k.toNat xs).flatten,t) else none
 | .lst xs,.int k=>λt=>if Co k=true/\xs.length * k.toNat<=LIM then some (.lst (List.replicate k.toNat xs).flatten,t) else none
 | _,_=>fail
def OZ (K:PySem.W.Frag):R2:=λx y H Q=>rI CMul (λi j=>.int (i * j)) x y H Q\/(SS K x y H Q\/V0 x y H Q)
theorem op_mul3 {X:Cx}:OpR X (binaryOp .Mult) (OZ X.K):=op_mul.or (op_mulT.or Vv)
theorem TR {dx dy r:D} {t t':T} (eq:IH dx dy t=some (r,t')):∃j,dy = .int j/\((∃i,dx = .int i)\/(∃ds,dx = .tup ds)\/∃ds,dx = .lst ds):=by
 unfold IH at eq
 split at eq
 ·exact ⟨_,rfl,.inl ⟨_,rfl⟩⟩
 ·exact ⟨_,rfl,.inr (.inl ⟨_,rfl⟩)⟩
 ·exact ⟨_,rfl,.inr (.inr ⟨_,rfl⟩)⟩
 ·cases eq
theorem Uv:BZ K (OZ K) IH:=λ{Oo c t Z H x y dx dy r t' Q} f rx ry eq k=>by
 obtain ⟨j,rfl,hd⟩:=TR eq
 cases ry
 rcases hd with ⟨i,rfl⟩ | ⟨ds,rfl⟩ | ⟨ds,rfl⟩
 ·cases rx
  unfold IH at eq
  dsimp only at eq
  split at eq
  ·next h=>cases eq;exact .inl ⟨i,j,rfl,rfl,Qf h,k _ H c f .refl (.int _)⟩
  ·cases eq
 ·cases rx with
  | @tup a vs _ h1 h2 h3=>
    unfold IH at eq
    dsimp only at eq
    split at eq
    ·next h=>
     cases eq
     obtain ⟨g1,g2⟩:=Et h.1
     refine .inr (.inl ⟨a,j,vs,rfl,rfl,SqT.of h1,g1,g2,by rw [h3.length];exact Nat.le_trans h.2 CI,λhs=>?_,λhs p hp=>?_⟩)
     ·rcases hs with z | z
      ·subst z
       have:ds=[]:=List.length_eq_zero_iff.mp h3.length.symm
       subst this
       have e:(List.replicate j.toNat ([]:List D)).flatten=[]:=by simp
       rw [e] at k
       exact k _ H c f .refl (.tup h1 h2 h3)
      ·subst z
       have e:(List.replicate (1:Int).toNat ds).flatten=ds:=by simp
       rw [e] at k
       exact k _ H c f .refl (.tup h1 h2 h3)
     ·exact k _ _ c (f.laid hp) (f.stp_laid hp) (.tup Az (f.s.free hp) ((h3.rep j.toNat).mono (Ext.laid f.s hp)))
    ·cases eq
 ·cases rx with
  | @lst a vs _ h1 h2 h3=>
    unfold IH at eq
    dsimp only at eq
    split at eq
    ·next h=>
     cases eq
     obtain ⟨g1,g2⟩:=Et h.1
     refine .inr (.inr ⟨a,j,vs,rfl,rfl,h1,by lia,by lia,by rw [h3.length];exact Nat.le_trans h.2 CI,λp hp=>?_⟩)
     exact k _ _ c (f.laid hp) (f.stp_laid hp) (.lst Az (f.s.free hp) ((h3.rep j.toNat).mono (Ext.laid f.s hp)))
    ·cases eq
end
section
variable {X:Cx} {e a b:Expr} {pos:Pos}
def Dl (xs:List D):List D->Option (List D)
 | [d]=>if xs.length < LIM then some (xs++[d]) else none
 | _=>none
def Ix (xs:List D):List D->Option (List D)
 | [.lst ys]=>if xs.length + ys.length<=LIM then some (xs++ys) else none
 | [.tup ys]=>if xs.length + ys.length<=LIM then some (xs++ys) else none
 | _=>none
def ownM (i:Nat) (h:List D->List D->Option (List D)) (g:M (List D)):M Out:=λt=>match t.env[i]? with
 | some (some (.own _))=>bnd g (λds t1=>match t1.env[i]? with
   | some (some (.own xs))=>(h xs ds).map λys=>(.next,{ t1 with env:=t1.env.set i (some (.own ys)) })
   | _=>none) t
 | _=>none
def QX (K:PySem.W.Frag) (R:V->List V->Hp->VK->Prop) (h:List D->List D->Option (List D)):Prop:=∀{c:Cf} {S:List Ob} {H:Hp} {a:Addr} {vs us:List V} {xs ds ys:List D} {Q:VK},SInv K c S H->H a=some (.lst vs)->Reps K c H vs xs->Reps K c H us ds->h xs ds=some ys->
 (∀ws,Reps K c H ws ys->Q .non (upd H a (.lst ws)))->R (.ref a) us H Q
theorem Uq {K:PySem.W.Frag}:QX K N9 Dl:=λ{c S H a vs us xs ds ys Q} s h r rs e k=>by
 unfold Dl at e
 split at e
 ·next d=>
  split at e
  ·next hl=>
   cases e
   obtain ⟨v,rfl,rv⟩:=D6 rs
   exact ⟨a,vs,v,rfl,rfl,h,by rw [r.length];exact Nat.lt_of_lt_of_le hl CI,k _ (r.append (.cons rv .nil))⟩
  ·cases e
 ·cases e
def SN (K:PySem.W.Frag):V->List V->Hp->VK->Prop:=λx xs H Q=>Oa x xs H Q\/Nd K x xs H Q
theorem TM {X:Cx}:MtM X "list.extend" (SN X.K):=mt_extend.or OR
theorem Ur {K:PySem.W.Frag}:QX K (SN K) Ix:=λ{c S H a vs us xs ds ys Q} s h r rs e k=>by
 unfold Ix at e
 split at e
 ·split at e
  ·next hl=>
   cases e
   obtain ⟨v,rfl,rv⟩:=D6 rs
   cases rv with
   | lst h1 h2 h3=>exact .inl ⟨a,_,vs,_,rfl,rfl,h,h1,by rw [r.length,h3.length];exact Nat.le_trans hl CI,k _ (r.append h3)⟩
  ·cases e
 ·split at e
  ·next hl=>
   cases e
   obtain ⟨v,rfl,rv⟩:=D6 rs
   cases rv with
   | tup h1 h2 h3=>exact .inr ⟨a,_,vs,_,rfl,rfl,h,SqT.of h1,by rw [r.length,h3.length];exact Nat.le_trans hl CI,k _ (r.append h3)⟩
  ·cases e
 ·cases e
theorem RS.ownM {μ:Cf->Hp->D->(V->Hp->Prop)->Prop} {K:PySem.W.Frag} {i:Nat} {h:List D->List D->Option (List D)} {g:M (List D)} {R:V->List V->Hp->VK->Prop} (s:QX K R h) {E:Ends} {Z:L2.St} {H:Hp} (q:RSg K μ (F2.ownM i h g) E Z H):SW (tBM K "list" R (Wn i) (RA K g)) E Z H:=by
 obtain ⟨Oo,c,t,fi,o,t',eq,k⟩:=q
 unfold F2.ownM at eq
 split at eq
 ·next xs0 e0=>
  obtain ⟨ds,t1,e1,eq⟩:=Au eq
  obtain ⟨a,vs0,h1,h2,h3,h4,h5⟩:=fi.own i xs0 e0
  refine ⟨.ref a,h1,.inl ⟨rfl,vs0,SqL.of h4⟩,Oo,c,t,fi,ds,t1,e1,λus H1 c1 f1 s1 rus=>?_⟩
  split at eq
  ·next xs ex=>
   obtain ⟨ys,ey,ez⟩:=Option.map_eq_some_iff.mp eq
   cases ez
   obtain ⟨a',vs,g1,g2,g3,g4,g5⟩:=f1.own i xs ex
   rw [h1] at g1;injection g1 with g1;injection g1 with g1;injection g1 with g1;subst g1
   refine s f1.s g4 g5 rus ey λws rws=>?_
   obtain ⟨f2,s2⟩:=f1.wrOwn ex h1 rws
   exact k Z _ c1 f2 (s1.trans s2)
  ·cases eq
 ·cases eq
theorem PN {μ:Cf->Hp->D->(V->Hp->Prop)->Prop} (i:Nat) {x:Str} {es:List Expr} {g:M (List D)} {px apos cpos:Pos} (ha:PA X (e :: es) (RA X.K g)) (hN:X.N[i]?=some x:=by rfl) (hv:Vis X.env.scope x:=by first | exact Or.inl rfl | exact Or.inr (Or.inl rfl) | exact Or.inr (Or.inr rfl)) (hd:(x == ("__debug__" : Str))=false:=by decide)
 (hcd:(x == ("__classdict__" : Str))=false:=by decide)
 (hbase:attributeBase (.Name x px) "append" X.env (eval (.Name x px) X.env)=eval (.Name x px) X.env:=by rfl)
 (hfew:((backTo cpos (starEach (e :: es) X.env)).all (λx=>!x.1) && (backToKw cpos (keywordEach [] X.env)).all (λx=>x.1.isSome) && decide ((e :: es).length + ([]:List Keyword).length + (if ([]:List Keyword).isEmpty then 0 else 1) < 30))=true:=by rfl)
 (hline:(apos.endLine == cpos.line)=true:=by rfl) (hs:starEach (e :: es) X.env=(false,eval e X.env) :: starEach es X.env:=by rfl) (hplain:(backTo cpos (starEach es X.env)).any (·.1)=false:=by rfl) :
 PS X (.Expr (.Call (.Attribute (.Name x px) "append" apos) (e :: es) [] cpos) pos) (RSg X.K μ (ownM i Dl g)):=
 Cc (N8 (LM PySem.F.plainAttrs_list PySem.F.slot_list_append PySem.F.type_list_append Qd (Du hN hv hd hcd) ha hbase hfew hline hs hplain)) λ_ _ _ q=>RS.ownM Uq q
theorem PP {μ:Cf->Hp->D->(V->Hp->Prop)->Prop} (i:Nat) {x:Str} {es:List Expr} {g:M (List D)} {px apos cpos:Pos} (ha:PA X (e :: es) (RA X.K g)) (hN:X.N[i]?=some x:=by rfl) (hv:Vis X.env.scope x:=by first | exact Or.inl rfl | exact Or.inr (Or.inl rfl) | exact Or.inr (Or.inr rfl)) (hd:(x == ("__debug__" : Str))=false:=by decide)
 (hcd:(x == ("__classdict__" : Str))=false:=by decide)
 (hbase:attributeBase (.Name x px) "extend" X.env (eval (.Name x px) X.env)=eval (.Name x px) X.env:=by rfl)
 (hfew:((backTo cpos (starEach (e :: es) X.env)).all (λx=>!x.1) && (backToKw cpos (keywordEach [] X.env)).all (λx=>x.1.isSome) && decide ((e :: es).length + ([]:List Keyword).length + (if ([]:List Keyword).isEmpty then 0 else 1) < 30))=true:=by rfl)
 (hline:(apos.endLine == cpos.line)=true:=by rfl) (hs:starEach (e :: es) X.env=(false,eval e X.env) :: starEach es X.env:=by rfl) (hplain:(backTo cpos (starEach es X.env)).any (·.1)=false:=by rfl) :
 PS X (.Expr (.Call (.Attribute (.Name x px) "extend" apos) (e :: es) [] cpos) pos) (RSg X.K μ (ownM i Ix g)):=
 Cc (N8 (LM PySem.F.plainAttrs_list PySem.F.slot_list_extend PySem.F.type_list_extend TM (Du hN hv hd hcd) ha hbase hfew hline hs hplain)) λ_ _ _ q=>RS.ownM Ur q
def Wg (o i d:D):M Unit:=match o,i with
 | .obj k,.int j=>λt=>match t.S[k]? with
   | some (.lst xs)=>(ixN xs.length j).map λn=>((),{ t with S:=t.S.set k (.lst (xs.set n d)) })
   | _=>none
 | _,_=>fail
def stD (f g:M D) (d:D):M Unit:=bnd f λo=>bnd g λi=>Wg o i d
end
section
variable {X:Cx} {e a b tg iter elt:Expr} {ifs:List Expr} {pos:Pos} {scope:Scope} {N':List Str} {n:Nat} {fr:List Nat} {f:M (List D)} {st:D->M Unit} {tst:M Bool} {el:M D}
def Fh:M Bool:=ret true
theorem EN:PIf X [] (RT X.K Fh):=λpins s Z H Q I ⟨Oo,c,t,fi,r,t',eq,k⟩=>Uc pins s Z H Q I (by cases eq;exact k H c fi .refl)
theorem EL (O:CmpOk X scope N' (He n fr)) (hc:X.calm=true) (hi:PI X tg iter (RI X.K f))
 (hg:∀cl C s2 H2 fp,PG (DU X N' scope cl C s2 H2 fp) tg (RG X.K st)) (ht:∀cl C s2 H2 fp,PIf (DU X N' scope cl C s2 H2 fp) ifs (RT X.K tst)) (he:∀cl C s2 H2 fp,PE (DU X N' scope cl C s2 H2 fp) elt (RE X.K el))
 (hs:∀x,foldedSetIterable iter X.env x=pure x:=by intro _;rfl):PE X (.ListComp elt [⟨tg,iter,ifs,0⟩] scope pos) (RF X.K (D1 n fr f st tst el)):=
 BN (T8 O hc hi hg ht he hs) λ_ _ _ q=>RF.comp q
theorem FE (tgs:List Str) (frn:List (Nat×Str)) (hk:scope.kind = .function) (hcell:(scope.names.all λy=>y.2 != .cell)=true) (hloc:(scope.names.all λy=>y.2 != .local || scope.names.lookup y.1 == some .local)=true)
 (hfree:(scope.names.all λy=>y.2 != .free || X.env.kindOf y.1 == some .cell || X.env.kindOf y.1 == some .free)=true)
 (hf:(frn.all λp=>X.N[p.1]? == some p.2 && scope.names.lookup p.2 == some .free)=true):CmpOk X scope (tgs++frn.map (·.2)) (He tgs.length (frn.map (·.1))):=by
 rw [List.all_eq_true] at hcell hloc hfree hf
 refine ⟨hk,λy hy=>by simpa using hcell y hy,λy hy hl=>?_,λy hy hl=>?_,λZ _=>by simp [He],λZ j x v h1 h2=>?_⟩
 ·have:=hloc y hy
  simpa [hl] using this
 ·have:=hfree y hy
  simpa [hl] using this
 ·unfold He at h2
  by_cases hj:j < tgs.length
  ·rw [List.getElem?_append_left (by simpa using hj),List.getElem?_replicate] at h2
   split at h2 <;> simp at h2
  ·rw [List.getElem?_append_right (by simpa using hj),List.length_replicate,List.getElem?_map,List.getElem?_map] at h2
   rw [List.getElem?_append_right (by simpa using hj),List.getElem?_map] at h1
   cases e:frn[j - tgs.length]? with
   | none=>rw [e] at h1;cases h1
   | some p=>
     rw [e] at h1 h2
     simp only [Option.map_some,Option.some.injEq] at h1 h2
     have hp:=hf p (List.mem_of_getElem? e)
     rw [Bool.and_eq_true] at hp
     refine ⟨p.1,by rw [<-h1];simpa using hp.1,?_,by rw [<-h1];simpa using hp.2⟩
     cases e2:Z[p.1]? with
     | none=>rw [e2] at h2;cases h2
     | some o=>rw [e2] at h2;simpa using h2
end
mutual
noncomputable def C3:D->Bool
 | .tup xs=>IR xs
 | .lst xs=>IR xs
 | .obj _=>false
 | .scr _=>false
 | .exc _ _=>false
 | _=>true
noncomputable def IR:List D->Bool
 | []=>true
 | d :: r=>C3 d && IR r
end
def c0:Cf:=⟨[],λ_=>False⟩
theorem Me (a:Addr):¬c0.A a:=λh=>h.elim (λz=>nomatch z) λz=>z
mutual
theorem Gv {K:PySem.W.Frag} {c:Cf} {H:Hp}:∀{v:V} {d:D},Rep K c H v d->C3 d=true->Rep K c0 H v d
 | _,_,.non,_=>.non
 | _,_,.bl b,_=>.bl b
 | _,_,.int i,_=>.int i
 | _,_,.str x,_=>.str x
 | _,_,.ty n,_=>.ty n
 | _,_,.tup h n r,p=>.tup h (Me _) (HU r (by simpa [C3] using p))
 | _,_,.lst h n r,p=>.lst h (Me _) (HU r (by simpa [C3] using p))
 | _,_,.scr h,p=>by simp [C3] at p
 | _,_,.dic h n,_=>.dic h (Me _)
 | _,_,.obj h,p=>by simp [C3] at p
 | _,_,.exc _ _ _ _ _,p=>by simp [C3] at p
theorem HU {K:PySem.W.Frag} {c:Cf} {H:Hp}:∀{vs:List V} {ds:List D},Reps K c H vs ds->IR ds=true->Reps K c0 H vs ds
 | _,_,.nil,_=>.nil
 | _,_,.cons h t,p=>by
   simp only [IR,Bool.and_eq_true] at p
   exact .cons (Gv h p.1) (HU t p.2)
end
noncomputable def EH (S:List Ob):D->D
 | .obj k=>match S[k]? with
   | some (.lst ds)=>.lst ds
   | _=>.obj k
 | d=>d
noncomputable def Ri:D->Bool
 | .obj _=>true
 | _=>false
def eqS (g:Bool->Bool) (x y:D):M D:=λt=>
 if (Ri x || Ri y)=true then (if (C3 (EH t.S x) && C3 (EH t.S y))=true then (eqN EQD (EH t.S x) (EH t.S y)).map λb=>(.bl (g b),t) else none)
 else (eqN EQD x y).map λb=>(.bl (g b),t)
theorem GY {K:PySem.W.Frag} {c:Cf} {S:List Ob} {H:Hp} {v:V} {d:D} (s:SInv K c S H) (r:Rep K c H v d) (p:C3 (EH S d)=true):Rep K c0 H v (EH S d):=by
 cases r with
 | @obj a k hk=>
   unfold EH at p ⊢
   dsimp only at p ⊢
   split
   ·next ds e=>
    rw [e] at p
    obtain ⟨vs,h1,h2⟩:=s.obs k a _ hk e
    exact .lst h1 (Me _) (HU h2 (by simpa [C3] using p))
   ·next h=>
    split at p
    ·next ds e=>exact absurd e (h ds)
    ·simp [C3] at p
 | non=>exact .non
 | bl b=>exact .bl b
 | int b=>exact .int b
 | str b=>exact .str b
 | ty b=>exact .ty b
 | tup h n q=>exact Gv (.tup h n q) p
 | lst h n q=>exact Gv (.lst h n q) p
 | scr h=>exact Gv (c:=c) (.scr h) p
 | dic h n=>exact Gv (.dic h n) p
 | exc a b n f q=>exact Gv (.exc a b n f q) p
theorem A5 {K:PySem.W.Frag} {g:Bool->Bool}:BZ K (R1 K g) (eqS g):=λ{Oo c t Z H x y dx dy r t' Q} f rx ry eq k=>by
 unfold eqS at eq
 split at eq
 ·split at eq
  ·next hp=>
   rw [Bool.and_eq_true] at hp
   obtain ⟨b,e1,e2⟩:=Option.map_eq_some_iff.mp eq
   cases e2
   exact ⟨c0,_,_,b,GY f.s rx hp.1,GY f.s ry hp.2,e1,k _ H c f .refl (.bl (g b))⟩
  ·cases eq
 ·obtain ⟨b,e1,e2⟩:=Option.map_eq_some_iff.mp eq
  cases e2
  exact ⟨c,dx,dy,b,rx,ry,e1,k _ H c f .refl (.bl (g b))⟩
theorem P4 {K:PySem.W.Frag} {H:Hp} {a:Addr} {ns:List Int} {f:Fn} {S':List Ob} (hO:Os H) (hS:SqL K H a (ns.map V.int)) (e:f [.scr ns] []=some (.bl true,S')):spF K f [.ref a] H (λv _=>v = .bl true) λ_ _ _=>False:=by
 refine ⟨c0,[.scr ns],[],⟨rfl,List.Pairwise.nil,λk a o h=>by simp [c0] at h,λb z=>z.elim,λb z=>z.elim⟩,.cons (.scr ?_) .nil,.bl true,S',e,λv H' c' _ _ _ rv=>by cases rv;rfl⟩
 rcases hS with (h | h) | h
 ·rcases hO a with z | ⟨o,xs,z⟩
  ·rw [z] at h;cases h
  ·rw [z] at h;cases h
 ·exact .inl ⟨h,Me _⟩
 ·exact .inr h
end F2
namespace L2
open PySem PySem.Spec PyProof.Rows
section
variable {prog:Program} {w:World} {A:Around} {E:Value->Shared->Prop} {s:Shared}
theorem Jq {it l:Addr} {items:Array Value} (hne:l≠it):∀(n i:Nat) (s:Shared) (Q:List Value->Shared->Prop),s.heap.IsListIter it l i->s.heap.IsList l items->i + n<=items.size->
 (∀h',h'.IsListIter it l (i + n)->Heap.SameBut it s.heap h'->Q ((items.toList.drop i).take n) { s with heap:=h' })->wpAny (model prog w) A (draw (.ref it) n) Q E s
 | 0,i,s,Q,hit,_,_,hQ=>wpAny_pure (by simpa using hQ s.heap hit (Heap.SameBut.refl ..))
 | n + 1,i,s,Q,hit,ht,hle,hQ=>by
   have hlt:i < items.size:=by lia
   refine wpAny_bind (wpAny_pyNext_list_item hit ht (x:=items[i]) (by simp [hlt]) λh1 hit1 hs1=>?_)
   refine wpAny_bind (wpAny_holding (Jq hne n (i + 1) _ _ hit1 (ht.extBut hs1.extBut hne) (by lia) λh2 hit2 hs2=>wpAny_pure ?_))
   have hd:items.toList.drop i=items[i] :: items.toList.drop (i + 1):=by simp [List.drop_eq_getElem_cons,hlt]
   have:=hQ h2 (by rw [show i + (n + 1)=i + 1 + n by lia];exact hit2) (hs1.trans hs2)
   rw [hd,List.take_succ_cons] at this
   exact this
theorem Nv {l:Addr} {items:Array Value} {targets:List (Bool×(Value->Sem Unit))} {Q:Unit->Shared->Prop} (hh:A.handled=none) (ht:s.heap.IsList l items) (hn:targets.length=items.size) (hstar:targets.findIdx? (·.1)=none)
 (h:∀h',Heap.ExtBut s.heap.objs.size s.heap h'->wpAny (model prog w) A (assignInOrder (targets.map (·.2)) items.toList) Q E { s with heap:=h' }):wpAny (model prog w) A (unpack (.ref l) targets) Q E s:=by
 have hlt:l≠s.heap.objs.size:=by obtain ⟨o,ho,_⟩:=ht;exact Nat.ne_of_lt (Heap.lt_size ho)
 unfold unpack
 rw [hn,hstar]
 refine wpAny_bind (wpAny_holding ?_)
 unfold unpackItems
 refine wpAny_bind ?_
 unfold notIterableAtAll
 refine wpAny_bind (wpAny_specialOf ht.typeIs PySem.F.slot_list_iter.lookup ?_)
 refine wpAny_pure ?_
 simp only [Bool.false_eq_true,if_false]
 refine wpAny_bind (wpAny_holding (wpAny_pyIter_list ht ?_))
 have hp:Heap.IsList (s.heap.push { cls:=.type "list_iterator",data:=.fields #[.ref l,.int 0 0] }) l items:=by
  obtain ⟨o,ho,r⟩:=ht
  exact ⟨o,Heap.get?_push_of_some _ ho,r⟩
 refine wpAny_bind (wpAny_holding (Jq hlt items.size 0 _ _ ⟨_,Heap.get?_push_size _ rfl,rfl,rfl⟩ hp (by lia) λh1 hit1 hs1=>?_))
 have hall:List.take items.size (List.drop 0 items.toList)=items.toList:=by
  rw [List.drop_zero];exact List.take_of_length_le (by simp)
 rw [hall]
 rw [if_neg (by simp)]
 have ht1:Heap.IsList h1 l items:=hp.extBut hs1.extBut hlt
 refine wpAny_bind (wpAny_holding (wpAny_pyNext_list_end hh hit1 ht1 (by simp) λh2 he2=>?_))
 simp only [Option.isSome_none,Bool.false_eq_true,if_false]
 exact wpAny_pure (h h2 λb o hb e=>he2 b o hb (hs1.extBut b o hb (Heap.get?_push_of_some _ e)))
end
section
variable {X:Cx} {pos:Pos}
def gUn (K:PySem.W.Frag) (n:Nat) (t:TGs):TG:=λv Z H Q=>∃a xs,v = .ref a/\(SqT K H a xs\/SqL K H a xs)/\xs.length=n/\t xs Z H Q
theorem WT {es:List Expr} {k:Nat} {t:TGs} {n:Nat} (hc:X.calm=true) (h:PGs X es t)
 (hn:(assignEach es X.env).length=n:=by rfl) (hst:(assignEach es X.env).findIdx? (·.1)=none:=by rfl):PG X (.Tuple es k pos) (gUn X.K n t):=by
 intro pins s Z H v u Q I r hw
 obtain ⟨a,xs,e1,hq | hq,hl,hw⟩:=hw
 ·exact VG hc h hn hst pins s Z H v u Q I r ⟨a,xs,e1,hq,hl,hw⟩
 ·subst e1
  cases r
  obtain ⟨its,rv,ht,hz⟩:=I.list hq
  rw [assign_Tuple]
  refine wpAny_bind (wpAny_standAt (Nv (I.ok.hd hc) ht.isList (by simp [hn,<-hl,rv.length]) hst λh' hx=>?_))
  have I1:Inv X pins Z H { s with heap:=h' }:=I.kept (t':=s.toks) λb o e=>hx b o (Nat.ne_of_lt (Heap.lt_size e)) e
  exact h pins _ Z H xs _ Q I1 (by simpa using rv) hw
end
section
open HT
variable {prog:Program} {w:World} {A:Around} {E:Value->Shared->Prop} {s:Shared}
theorem G7 {t sl:Addr} {items:Array Value} {vl vu:Value} {lo hi:Option Int} {Q:Value->Shared->Prop} (ht:IsTup s.heap t items) (hs:s.heap.IsSliceOf sl vl vu .none) (pl:IsPart vl lo) (pu:IsPart vu hi)
 (hw:sIx items.size 0 lo=0/\sIx items.size items.size hi=items.size) (h:Q (.ref t) s):wpAny (model prog w) A (getItem (.ref t) (.ref sl)) Q E s:=by
 obtain ⟨os,hos,hcs,hds⟩:=id hs
 have hTs:s.TypeIs (.ref sl) "slice":=⟨os,hos,hcs⟩
 unfold getItem
 try with_reducible refine wpAny_holding ?_
 first | refine wpAny_bind (wpAny_pure ?_) | skip
 refine wpAny_bind (wpAny_sequenceKey ht.typeIs (by decide) ?_)
 refine wpAny_bind (wpAny_callSpecial?_slot (name:=Str.ofString "__getitem__") ht.typeIs PyProof.Rows.slot_tuple_getitem
  (wpAny_call_entry PyProof.Rows.slot_tuple_getitem ht.typeIs entry_tuple_getitem ?_ (args_tuple_getitem _ _)))
 show wpAny _ _ (Builtin.Tuple.tupleItemsOf (.ref t) >>= _) _ _ s
 refine wpAny_bind (tupleItemsOf_ ht ?_)
 refine wpAny_bind (wpAny_typeOf hTs ?_)
 rw [if_pos (by decide)]
 refine wpAny_bind (FQ hs pl pu ?_)
 have hyes:(((sIx items.size 0 lo:Nat):Int) == 0 && (1:Int) == 1 && (sIx items.size items.size hi - sIx items.size 0 lo) == items.size)=true:=by
  rw [hw.1,hw.2];simp
 show wpAny _ _ (if (((sIx items.size 0 lo:Nat):Int) == 0 && (1:Int) == 1 && (sIx items.size items.size hi - sIx items.size 0 lo) == items.size)=true then _ else _) _ _ s
 rw [if_pos hyes]
 refine wpAny_bind (m:=Builtin.Tuple.tupleIsExact _) ?_
 unfold Builtin.Tuple.tupleIsExact
 refine wpAny_bind (wpAny_typeOf ht.typeIs (wpAny_pure ?_))
 rw [if_pos (by decide)]
 first
  | exact wpAny_bind (wpAny_rule (wpAny_pure ⟨_,rfl,wpAny_pure h⟩))
  | exact wpAny_bind (wpAny_rule (wpAny_bind (wpAny_pure (wpAny_pure ⟨_,rfl,wpAny_pure h⟩))))
end
section
variable {X:Cx}
def V5 (K:PySem.W.Frag):V->Option Int->Option Int->Hp->VK->Prop:=λx lo hi H Q=>∃a xs,x = .ref a/\SqT K H a xs/\(HT.sIx xs.length 0 lo=0/\HT.sIx xs.length xs.length hi=xs.length)/\Q (.ref a) H
theorem UC:SlR X (V5 X.K):=by
 intro pins s Z H x v vl vu lo hi sl Q I rx hs pl pu h
 obtain ⟨a,xs,rfl,hx,hw,q⟩:=h
 cases rx
 obtain ⟨its,r,ht,hz⟩:=I.tuple hx
 have hlen:its.toArray.size=xs.length:=by rw [List.size_toArray];exact r.length.symm
 exact ⟨"tuple",_,PyProof.Rows.slot_tuple_getitem.lookup,ht.typeIs,G7 ht hs pl pu (by rw [hlen];exact hw) ⟨.ref a,H,I,rfl,q⟩⟩
end
noncomputable def Its (z:Str):It:=⟨λi _=>i < z.cps.size,λi H x H'=>H'=H/\∃c,z.cps[i]?=some c/\x = .str ⟨#[c]⟩,λi _=>i=z.cps.size⟩
theorem Nu {P:Program} {w:World} {K:PySem.W.Frag} {tg:Expr} {T:String} {x:Str} {t:Tok} (it:Addr) (hT:["enumerate", "zip", "dict_itemiterator", "dict_reverseitemiterator", "odict_iterator", "itertools.zip_longest", "itertools.pairwise"].contains T=false)
 (W:∀A:Around,A.handled=none->Walks P w A it [it] [it] x.cps.size (SignAt x) (λi h=>h.IsStrIter it T x t i))
 (self:∀(A:Around) (i:Nat) (s:Shared) (Q:Value->Shared->Prop) (E:Value->Shared->Prop),s.heap.IsStrIter it T x t i->Q (.ref it) s->wpAny (model P w) A (pyIter (.ref it)) Q E s) :
 Turn P w K tg (Its x) [it] it (λi h=>h.IsStrIter it T x t i) where
 mem:=by simp
 obj:=λi h st b hb=>by
  have e:b=it:=by simpa using hb
  subst e
  obtain ⟨o,e,c,d⟩:=st
  exact ⟨o,e,λv z=>by rw [d] at z;cases z⟩
 keep:=λi h h' st k=>by
  obtain ⟨o,e,r⟩:=st
  exact ⟨o,k it (by simp) o e,r⟩
 item:=by
  intro X hP hw hK hc i pins s Z H E I hf st hg
  subst hP hw hK
  obtain ⟨f0,f1,f2,f3,f4,f5⟩:=hf it (by simp)
  refine (W X.A (I.ok.hd hc)).item i s _ _ hg st λv h' tk hv st' kk=>?_
  obtain ⟨c,u,hcc,rfl⟩:=hv
  have I1:Inv X pins Z H { s with heap:=h',toks:=tk }:=I.turned (λb o hb e=>kk b o (by simpa using hb) e) f0 f1 f3 f4 f5
  obtain ⟨o,e,ec,ed⟩:=id st'
  exact ⟨_,rfl,LL (s:={ s with heap:=h',toks:=tk }) e ec ed hT ⟨.str ⟨#[c]⟩,H,I1,⟨u,rfl⟩,⟨rfl,c,hcc,rfl⟩,st',λb hb=>(hf b hb).1⟩⟩
 done:=by
  intro X hP hw hK hc i pins s Z H E I hf st hg
  subst hP hw hK
  obtain ⟨f0,f1,f2,f3,f4,f5⟩:=hf it (by simp)
  have hg':i=x.cps.size:=hg
  subst hg'
  exact (W X.A (I.ok.hd hc)).done s _ _ st λh' tk kk=>⟨rfl,I.turned (λb o hb e=>kk b o (by simpa using hb) e) f0 f1 f3 f4 f5⟩
 self:=λA i s Q E st h=>self A i s Q E st h
section
variable {X:Cx} {tg:Expr} {pos:Pos}
def Yi (K:PySem.W.Frag) (tl:TE):TI:=λZ H R=>tl Z H λx H1=>(∃a,x = .ref a/\(∃xs,SqL K H1 a xs)/\R (Itl K a) H1)\/(∃a,x = .ref a/\(∃xs,SqT K H1 a xs)/\R (Itt K a) H1)\/∃z,x = .str z/\R (Its z) H1
theorem VH {l:Expr} {tl:TE} (hl:PE X l tl):PI X tg l (Yi X.K tl):=by
 intro pins s Z H R I h
 refine thn (hl pins s Z H _ I h) λv s1 ⟨x,H1,I1,r1,q1⟩=>?_
 have fp:∀b∈[s1.heap.objs.size],FpOk X pins H1 b:=λb hb=>by
  have e:b=s1.heap.objs.size:=by simpa using hb
  subst e
  exact I1.fpOk (Nat.le_refl _) (I1.hok.fresh (Nat.le_refl _))
 rcases q1 with ⟨a,rfl,⟨xs,hq⟩,q⟩ | ⟨a,rfl,⟨xs,hq⟩,q⟩ | ⟨z,rfl,q⟩
 ·cases r1
  obtain ⟨its,rv,p,hz⟩:=I1.list hq
  refine wpAny_pyIter_list p.isList ?_
  exact ⟨s1.heap.objs.size,[s1.heap.objs.size],_,_,H1,rfl,I1.kept (t':=s1.toks) λb o e=>Heap.get?_push_of_some _ e,QM a _,⟨_,Heap.get?_push_size _ rfl,rfl,rfl⟩,fp,q⟩
 ·cases r1
  obtain ⟨its,rv,p,hz⟩:=I1.tuple hq
  refine wpAny_pyIter_tuple (show s1.heap.IsTuple a its.toArray from p) ?_
  exact ⟨s1.heap.objs.size,[s1.heap.objs.size],_,_,H1,rfl,I1.kept (t':=s1.toks) λb o e=>Heap.get?_push_of_some _ e,Pb a _,⟨_,Heap.get?_push_size _ rfl,rfl,rfl⟩,fp,q⟩
 ·obtain ⟨t,rfl⟩:=r1
  cases ha:z.cps.all (· < 128)
  ·refine wpAny_pyIter_wide ha ?_
   exact ⟨s1.heap.objs.size,[s1.heap.objs.size],_,_,H1,rfl,I1.kept (t':=s1.toks) λb o e=>Heap.get?_push_of_some _ e,Nu (T:="str_iterator") (x:=z) (t:=t) _ (by decide) (λA hA=>Walks.strWide hA _ z t) (λ_ _ _ _ _ st h=>wpAny_pyIter_striter_wide st h),⟨_,Heap.get?_push_size _ rfl,rfl,rfl⟩,fp,q⟩
  ·refine wpAny_pyIter_ascii ha ?_
   exact ⟨s1.heap.objs.size,[s1.heap.objs.size],_,_,H1,rfl,I1.kept (t':=s1.toks) λb o e=>Heap.get?_push_of_some _ e,Nu (T:="str_ascii_iterator") (x:=z) (t:=t) _ (by decide) (λA hA=>Walks.strAscii hA _ z t) (λ_ _ _ _ _ st h=>wpAny_pyIter_striter_ascii st h),⟨_,Heap.get?_push_size _ rfl,rfl,rfl⟩,fp,q⟩
def SR:R2:=λx y H Q=>∃z k,x = .str z/\y = .int k/\MulOk z k/\Q (.str (Txt.mul z k)) H
theorem T3:OpR X (binaryOp .Mult) SR:=by
 intro pins s Z H x y v u Q I rx ry h
 obtain ⟨z,k,rfl,rfl,hk,q⟩:=h
 obtain ⟨t,rfl⟩:=rx
 obtain ⟨t',rfl⟩:=ry
 exact SB.mul hk λt2 tk=>⟨.str _,H,I.tok tk,⟨t2,rfl⟩,q⟩
def V3:V->Option Int->Option Int->Hp->VK->Prop:=λx lo hi H Q=>∃z,x = .str z/\z.length<=sizeLine/\Q (.str (Txt.slice z lo hi)) H
theorem sl_str:SlR X V3:=by
 intro pins s Z H x v vl vu lo hi sl Q I rx hs pl pu h
 obtain ⟨z,rfl,hz,q⟩:=h
 obtain ⟨t,rfl⟩:=rx
 refine ⟨"str",_,PySem.F.slot_str_getitem.lookup,typeIs_str _ _ _,?_⟩
 have part:∀{v:Value} {o:Option Int},IsPart v o->∃l:Option (Int×Tok),v=partValue l/\l.map (·.1)=o:=λ{v o} p=>by
  cases p with
  | none=>exact ⟨none,rfl,rfl⟩
  | int i t=>exact ⟨some (i,t),rfl,rfl⟩
 obtain ⟨l,rfl,el⟩:=part pl
 obtain ⟨u,rfl,eu⟩:=part pu
 refine wpAny_getItem_str_slice (l:=l) (u:=u) (st:=none) (by obtain ⟨o,h1,h2,h3⟩:=hs;exact ⟨o,h1,h2,h3⟩) rfl ?_
 unfold sliceMade slicePicked
 rw [el,eu]
 show (if ((1:Int) == 1 && (Builtin.Str.strSliceIndices lo hi 1 z.length).length == z.length)=true then Made.val (.str z t) else Made.str ⟨((Builtin.Str.strSliceIndices lo hi 1 z.length).filterMap (z.cps[·]?)).toArray⟩).post _ s
 have hle:=Txt.slice_le z lo hi
 unfold Txt.slice at q hle
 by_cases hc:((1:Int) == 1 && (Builtin.Str.strSliceIndices lo hi 1 z.length).length == z.length)=true
 ·rw [if_pos hc] at q ⊢
  exact ⟨.str z,H,I,⟨t,rfl⟩,q⟩
 ·rw [if_neg hc] at q hle ⊢
  exact ⟨Nat.le_trans hle hz,.str _,H,I.tok _,⟨_,rfl⟩,q⟩
def GX (g:Int->Int->Bool) (h:List Nat->List Nat->Bool):R2:=λx y H Q=>(∃i j,x = .int i/\y = .int j/\Q (.bl (g i j)) H)\/∃i j,x = .str i/\y = .str j/\Q (.bl (h i.cps.toList j.cps.toList)) H
theorem M5:OpR X (compareOp .Lt) (GX (λi j=>decide (i < j)) λi j=>decide (i < j)):=op_lt.or λpins s Z H x y v u Q I rx ry h=>by
 obtain ⟨i,j,rfl,rfl,q⟩:=h
 obtain ⟨t,rfl⟩:=rx
 obtain ⟨t',rfl⟩:=ry
 exact P.lt_str ⟨.bl _,H,I,rfl,q⟩
theorem JQ:OpR X (compareOp .LtE) (GX (λi j=>decide (i<=j)) λi j=>!(decide (j < i))):=op_le.or λpins s Z H x y v u Q I rx ry h=>by
 obtain ⟨i,j,rfl,rfl,q⟩:=h
 obtain ⟨t,rfl⟩:=rx
 obtain ⟨t',rfl⟩:=ry
 exact P.le_str ⟨.bl _,H,I,rfl,q⟩
theorem Go:OpR X (compareOp .Gt) (GX (λi j=>decide (j < i)) λi j=>decide (j < i)):=op_gt.or λpins s Z H x y v u Q I rx ry h=>by
 obtain ⟨i,j,rfl,rfl,q⟩:=h
 obtain ⟨t,rfl⟩:=rx
 obtain ⟨t',rfl⟩:=ry
 exact P.gt_str ⟨.bl _,H,I,rfl,q⟩
theorem JP:OpR X (compareOp .GtE) (GX (λi j=>decide (j<=i)) λi j=>!(decide (i < j))):=op_ge.or λpins s Z H x y v u Q I rx ry h=>by
 obtain ⟨i,j,rfl,rfl,q⟩:=h
 obtain ⟨t,rfl⟩:=rx
 obtain ⟨t',rfl⟩:=ry
 exact P.ge_str ⟨.bl _,H,I,rfl,q⟩
end
end L2
namespace F2
open PySem L2 PySem.Spec
def EB:D->M (List D)
 | .lst ds=>ret ds
 | .scr ns=>ret (ns.map .int)
 | .tup ds=>ret ds
 | .str x=>ret (x.cps.toList.map λc=>.str ⟨#[c]⟩)
 | _=>fail
def F9 (f:M D):M (List D):=bnd f EB
def DW:D->D->M D
 | .str x,.int k=>λt=>if Co k=true/\x.length * k.toNat<=LIM/\k<=LIM/\x.length<=LIM then some (.str (Txt.mul x k),t) else none
 | x,y=>IH x y
def EI:D->Option Int->Option Int->M D
 | .str x,lo,hi=>lim x.length (.str (Txt.slice x lo hi))
 | .tup ds,lo,hi=>ret (.tup (Dc ds lo hi))
 | x,lo,hi=>slD x lo hi
def Mt (g:Int->Int->Bool) (h:List Nat->List Nat->Bool):D->D->M D
 | .int i,.int j=>ret (.bl (g i j))
 | .str x,.str y=>ret (.bl (h x.cps.toList y.cps.toList))
 | _,_=>fail
def ltA:=Mt (λi j=>decide (i < j)) (λi j=>decide (i < j))
def leA:=Mt (λi j=>decide (i<=j)) (λi j=>!(decide (j < i)))
def gtA:=Mt (λi j=>decide (j < i)) (λi j=>decide (j < i))
def geA:=Mt (λi j=>decide (j<=i)) (λi j=>!(decide (i < j)))
def unS (n:Nat) (g:List D->M Unit):D->M Unit
 | .tup ds=>if ds.length=n then g ds else fail
 | .lst ds=>if ds.length=n then g ds else fail
 | _=>fail
def Yb:M D:=fC .dic
section
variable {X:Cx} {e a b:Expr} {pos:Pos} {st:Stmt}
theorem ItOk.str {K:PySem.W.Frag} {c:Cf} {H:Hp} {x:Str}:ItOk K (Its x) c H (x.cps.toList.map λc=>.str ⟨#[c]⟩):=by
 refine ⟨λc' H' i ex hi=>?_,λc' H' i y H'' d ex hd hy=>?_,λc' H' ex=>?_⟩
 ·show i < x.cps.size
  simpa using hi
 ·obtain ⟨rfl,n,hn,rfl⟩:=hy
  refine ⟨rfl,?_⟩
  have:d = .str ⟨#[n]⟩:=by
   rw [List.getElem?_map] at hd
   have hn':x.cps.toList[i]?=some n:=by simpa using hn
   rw [hn'] at hd
   simpa using hd.symm
  rw [this]
  exact .str _
 ·show _=x.cps.size
  simp
theorem Gj {tg:Expr} {f:M D} (h:PE X e (RE X.K f)):PI X tg e (RI X.K (F9 f)):=
 LZ (VH h) λZ H R ⟨Oo,c,t,fi,ds,t',eq,k⟩=>by
  obtain ⟨d,t1,e1,eq⟩:=Au eq
  refine ⟨Oo,c,t,fi,d,t1,e1,λv H1 c1 f1 s1 rv=>?_⟩
  cases rv with
  | @lst p vs ds' h1 h2 h3=>
    cases eq
    exact .inl ⟨p,rfl,⟨vs,SqL.of h1⟩,k _ H1 c1 f1 s1 (ItOk.lst λc' H' ex=>⟨vs,SqL.of (ex.keep _ _ h1 h2),h3.mono ex⟩)⟩
  | @scr p ns h1=>
    cases eq
    exact .inl ⟨p,rfl,⟨_,h1.sq⟩,k _ H1 c1 f1 s1 (ItOk.lst λc' H' ex=>⟨_,(h1.mono ex).sq,Reps.ints ns⟩)⟩
  | @tup p vs ds' h1 h2 h3=>
    cases eq
    exact .inr (.inl ⟨p,rfl,⟨vs,SqT.of h1⟩,k _ H1 c1 f1 s1 (ItOk.tup λc' H' ex=>⟨vs,SqT.of (ex.keep _ _ h1 h2),h3.mono ex⟩)⟩)
  | str x=>
    cases eq
    exact .inr (.inr ⟨x,rfl,k _ H1 c1 f1 s1 ItOk.str⟩)
  | _=>cases eq
theorem RG.un {K:PySem.W.Frag} {n:Nat} {g:List D->M Unit} {v:V} {Z:L2.St} {H:Hp} {Q:L2.St->Hp->Prop} (q:RG K (unS n g) v Z H Q):gUn K n (RGs K g) v Z H Q:=by
 obtain ⟨Oo,c,t,d,fi,rv,t',eq,k⟩:=q
 cases rv with
 | @tup a vs ds h1 h2 h3=>
   unfold unS at eq
   by_cases hn:ds.length=n
   ·dsimp only at eq
    rw [if_pos hn] at eq
    exact ⟨a,vs,rfl,.inl (SqT.of h1),by rw [h3.length];exact hn,Oo,c,t,ds,fi,h3,t',eq,k⟩
   ·dsimp only at eq
    rw [if_neg hn] at eq;cases eq
 | @lst a vs ds h1 h2 h3=>
   unfold unS at eq
   by_cases hn:ds.length=n
   ·dsimp only at eq
    rw [if_pos hn] at eq
    exact ⟨a,vs,rfl,.inr (SqL.of h1),by rw [h3.length];exact hn,Oo,c,t,ds,fi,h3,t',eq,k⟩
   ·dsimp only at eq
    rw [if_neg hn] at eq;cases eq
 | _=>cases eq
theorem GH {es:List Expr} {k n:Nat} {g:List D->M Unit} (hc:X.calm=true) (h:PGs X es (RGs X.K g)) (hn:(assignEach es X.env).length=n:=by rfl) (hst:(assignEach es X.env).findIdx? (·.1)=none:=by rfl):PG X (.Tuple es k pos) (RG X.K (unS n g)):=
 LY (WT hc h hn hst) λ_ _ _ _ q=>RG.un q
theorem BQ {es:List Expr} {f:D->M Unit} {g:List D->M Unit} (h1:PG X e (RG X.K f)) (h2:PGs X es (RGs X.K g)) (hs:(assignEach (e :: es) X.env).map (·.2)=assign e X.env :: (assignEach es X.env).map (·.2):=by rfl):PGs X (e :: es) (RGs X.K (BL f g)):=
 NQ (RM h1 h2 hs) λ_ _ _ _ q=>RGs.cons q
end
section
variable {K:PySem.W.Frag}
def SQ (K:PySem.W.Frag):R2:=λx y H Q=>OZ K x y H Q\/SR x y H Q
theorem ER {X:Cx}:OpR X (binaryOp .Mult) (SQ X.K):=op_mul3.or T3
theorem NB {x:Str} {k:Int} (h:Co k=true/\x.length * k.toNat<=LIM/\k<=LIM/\x.length<=LIM):MulOk x k:=by
 obtain ⟨g1,g2⟩:=Et h.1
 have hL:LIM=100000:=rfl
 refine ⟨?_,λh1 _=>?_,λh1 _=>?_⟩
 ·rw [Bool.or_eq_false_iff];exact ⟨decide_eq_false (by lia),decide_eq_false (by lia)⟩
 ·have h2:k<=100000:=by have:=h.2.2.1;rw [hL] at this;exact this
  have h3:x.length<=100000:=by have:=h.2.2.2;rw [hL] at this;exact this
  have h4:(92233720368547:Int)<=(2 ^ 63 - 1) / k:=by
   rw [Int.le_ediv_iff_mul_le (by lia)]
   lia
  lia
 ·have h5:=h.2.1
  rw [hL] at h5
  unfold Builtin.Str.tooLong
  first | exact decide_eq_false (by unfold sizeLine;lia) | (unfold sizeLine;exact decide_eq_false (by lia))
theorem Ee:BZ K (SQ K) DW:=λ{Oo c t Z H x y dx dy r t' Q} f rx ry eq k=>by
 unfold DW at eq
 split at eq
 ·next z kk=>
  split at eq
  ·next h=>
   cases eq
   cases rx
   cases ry
   exact .inr ⟨z,kk,rfl,rfl,NB h,k _ H c f .refl (.str _)⟩
  ·cases eq
 ·exact .inl (Uv f rx ry eq k)
def V1 (K:PySem.W.Frag):V->Option Int->Option Int->Hp->VK->Prop:=λx lo hi H Q=>R3 K x lo hi H Q\/(V3 x lo hi H Q\/V5 K x lo hi H Q)
theorem sl3 {X:Cx}:SlR X (V1 X.K):=sl2.or (sl_str.or UC)
theorem OF {α:Type} {xs:List α} {lo hi:Option Int} (h:HT.sIx xs.length 0 lo=0/\HT.sIx xs.length xs.length hi=xs.length):Dc xs lo hi=xs:=by
 unfold Dc;rw [h.1,h.2];simp
theorem Fy:QW K (V1 K) EI:=λ{Oo c t Z H x dx r lo hi t' Q} f rx eq k=>by
 unfold EI at eq
 split at eq
 ·next z=>
  obtain ⟨h,e⟩:=Eb eq
  cases e
  cases rx
  exact .inr (.inl ⟨z,rfl,Nat.le_trans h CI,k _ H c f .refl (.str _)⟩)
 ·next ds=>
  cases eq
  cases rx with
  | @tup p vs ds h1 h2 h3=>
    by_cases hw:HT.sIx ds.length 0 lo=0/\HT.sIx ds.length ds.length hi=ds.length
    ·rw [OF hw] at k
     exact .inr (.inr ⟨p,vs,rfl,SqT.of h1,by rw [h3.length];exact hw,k _ H c f .refl (.tup h1 h2 h3)⟩)
    ·exact .inl (.inr ⟨p,vs,rfl,SqT.of h1,by rw [h3.length];exact hw,λq hq=>k _ _ c (f.laid hq) (f.stp_laid hq) (.tup Az (f.s.free hq) ((IT h3 lo hi).mono (Ext.laid f.s hq)))⟩)
 ·exact .inl (Wc f rx eq k)
theorem HW {g:Int->Int->Bool} {h:List Nat->List Nat->Bool}:BZ K (GX g h) (Mt g h):=λ{Oo c t Z H x y dx dy r t' Q} f rx ry eq k=>by
 cases rx with
 | int i=>cases ry with
   | int j=>cases eq;exact .inl ⟨i,j,rfl,rfl,k _ H c f .refl (.bl _)⟩
   | _=>cases eq
 | str i=>cases ry with
   | str j=>cases eq;exact .inr ⟨i,j,rfl,rfl,k _ H c f .refl (.bl _)⟩
   | _=>cases eq
 | _=>cases eq
theorem KQ:BZ K (GX (λi j=>decide (i < j)) λi j=>decide (i < j)) ltA:=HW
theorem HY:BZ K (GX (λi j=>decide (i<=j)) λi j=>!(decide (j < i))) leA:=HW
theorem Fv:BZ K (GX (λi j=>decide (j < i)) λi j=>decide (j < i)) gtA:=HW
theorem HX:BZ K (GX (λi j=>decide (j<=i)) λi j=>!(decide (i < j))) geA:=HW
end
theorem BT {P:Program} {w:World} {K:PySem.W.Frag} {mg:Str->Option Value} {base:Heap} {x qual:Str} {st:Stmt} {fa:Addr} {fd:FuncData} {N ps:List Str} {k n m:Nat} {g:M Out} (e1:ps.length=n) (e2:N.length=m) (F:Fun K x qual st fa fd) (S:FnScope N ps (Ao st))
 (hb:∀(cdv:Value) (A:Around) (outer:List Env) (s:Shared) (H:Hp) (E:XK),Room k (A.deeper (PyProof.Rows.envOfC qual (Ao st) s.heap.objs.size fa cdv))->
   PSs (DH CX0 P w K mg base N qual (Ao st) fa cdv A outer s H E).nox (B9 st) (RS K g)):FnOk P w K mg base CX0 (k + 1) fa fd ps (spF K (fnOf n m g)):=by
 subst e1 e2
 exact WL F S hb
theorem BU {P:Program} {w:World} {K:PySem.W.Frag} {mg:Str->Option Value} {base:Heap} {fa:Addr} {fd:FuncData} {ps:List Str} {k:Nat} {f g:Fn} (e:f=g) (h:FnOk P w K mg base CX0 k fa fd ps (spF K g)):FnOk P w K mg base CX0 k fa fd ps (spF K f):=by rw [e];exact h
theorem Cd:bootBuiltins "len" = some (.builtin "len"):=by decide +kernel
theorem Bt:bootBuiltins "isinstance" = some (.builtin "isinstance"):=by decide +kernel
theorem Pq:bootBuiltins "ord" = some (.builtin "ord"):=by decide +kernel
theorem Ji:bootBuiltins "min" = some (.builtin "min"):=by decide +kernel
theorem U3:bootBuiltins "max" = some (.builtin "max"):=by decide +kernel
theorem Pp:bootBuiltins "int" = some (.type "int"):=by decide +kernel
theorem Ps:bootBuiltins "str" = some (.type "str"):=by decide +kernel
theorem Te:bootBuiltins "bool" = some (.type "bool"):=by decide +kernel
theorem Gg:bootBuiltins "list" = some (.type "list"):=by decide +kernel
theorem Ir:bootBuiltins "tuple" = some (.type "tuple"):=by decide +kernel
noncomputable def B3:Expr->Bool
 | .Starred _ _=>true
 | _=>false
theorem BM {e:Expr} {es:List Expr} {env:Env} (h:B3 e=false):starEach (e :: es) env=(false,eval e env) :: starEach es env:=by
 cases e <;> first | rfl | cases h
def Ce (es:List Expr):Bool:=es.all λe=>!B3 e
theorem BJ:∀{es:List Expr} {env:Env} {p:Pos},Ce es=true->(backTo p (starEach es env)).any (·.1)=false/\(backTo p (starEach es env)).all (λx=>!x.1)=true
 | [],env,p,_=>⟨rfl,rfl⟩
 | e :: es,env,p,h=>by
   have h':B3 e=false/\Ce es=true:=by
    rw [Ce,List.all_cons,Bool.and_eq_true] at h
    exact ⟨by simpa using h.1,h.2⟩
   obtain ⟨h1,h2⟩:=BJ (es:=es) (env:=env) (p:=p) h'.2
   rw [BM h'.1]
   refine ⟨?_,?_⟩
   ·show (false || (backTo p (starEach es env)).any (·.1))=false
    rw [h1];rfl
   ·show (!false && (backTo p (starEach es env)).all (λx=>!x.1))=true
    rw [h2];rfl
section
variable {X:Cx} {e a b:Expr} {es:List Expr} {pos:Pos}
theorem Aa {f:M D} {g:M (List D)} (ha:PE X e (RE X.K f)) (hr:PA X es (RA X.K g)) (hs:B3 e=false:=by rfl):PA X (e :: es) (RA X.K (Ac f g)):=Tk ha hr (BM hs)
theorem Aq {k:Nat} {fa:Addr} {fd:FuncData} {ps:List Str} {g:Fn} {f:M (List D)} {x:Str} {p:Pos} (F:FnOk X.prog X.w X.K X.mg X.base CX0 k fa fd ps (spF X.K g)) (hr:Room k X.A) (hg:Gl X x) (hm:X.mg x=some (.ref fa)) (hk:PySem.W.keepIn X.K (.ref fa)=true) (hb:Binds X.K fd ps [])
 (ha:PA X (e :: es) (RA X.K f)) (hdb:(x == ("__debug__" : Str))=false:=by decide) (h1:B3 e=false:=by rfl) (h2:Ce es=true:=by rfl) :
 PE X (.Call (.Name x p) (e :: es) [] pos) (RE X.K (As g f)):=Tl F hr hg hm hk hb ha hdb (BM h1) (BJ h2).1
theorem BK {id:String} {R:List V->Hp->VK->Prop} {h:List D->M D} {f:M (List D)} {x:Str} {p:Pos} (hc:CN X (.builtin id) R) (s:Fb X.K R h) (hg:Gl X x) (hm:X.mg x=none) (hv:bootBuiltins x=some (.builtin id)) (ha:PA X (e :: es) (RA X.K f)) (hn:x≠"__name__":=by decide) (hdb:(x == ("__debug__" : Str))=false:=by decide)
 (h1:B3 e=false:=by rfl) (h2:Ce es=true:=by rfl):PE X (.Call (.Name x p) (e :: es) [] pos) (RE X.K (fB f h)):=Yc hc s hg hm hv ha hn hdb (BM h1) (BJ h2).1
theorem Sy {id:String} {R:List V->Hp->VK->Prop} {h:List D->M D} {f:M (List D)} {x:Str} {p:Pos} (hc:CN X (.type id) R) (s:Fb X.K R h) (hg:Gl X x) (hm:X.mg x=none) (hv:bootBuiltins x=some (.type id)) (ha:PA X (e :: es) (RA X.K f)) (hn:x≠"__name__":=by decide) (hdb:(x == ("__debug__" : Str))=false:=by decide)
 (h1:B3 e=false:=by rfl) (h2:Ce es=true:=by rfl):PE X (.Call (.Name x p) (e :: es) [] pos) (RE X.K (fB f h)):=Yd hc s hg hm hv ha hn hdb (BM h1) (BJ h2).1
theorem LJ {id:String} {R:List V->Hp->VK->Prop} {h:List D->M (List D)} {f:M (List D)} {x:Str} {p:Pos} (hc:CN X (.type id) R) (s:LF X.K R h) (hg:Gl X x) (hm:X.mg x=none) (hv:bootBuiltins x=some (.type id)) (ha:PA X (e :: es) (RA X.K f)) (hn:x≠"__name__":=by decide) (hdb:(x == ("__debug__" : Str))=false:=by decide)
 (h1:B3 e=false:=by rfl) (h2:Ce es=true:=by rfl):PE X (.Call (.Name x p) (e :: es) [] pos) (RF X.K (fBF f h)):=Ye hc s hg hm hv ha hn hdb (BM h1) (BJ h2).1
theorem Ck {tg:Expr} {f:M (List D)} {p:Pos} (hg:Gl X "range") (hm:X.mg "range" = none) (ha:PA X [a] (RA X.K f)) (h1:B3 a=false:=by rfl):PI X tg (.Call (.Name "range" p) [a] [] pos) (RI X.K (CV f)):=PJ hg hm ha (BM h1)
theorem GI {tg:Expr} {f:M (List D)} {p:Pos} (hg:Gl X "range") (hm:X.mg "range" = none) (ha:PA X [a,b] (RA X.K f)) (h1:B3 a=false:=by rfl) (h2:B3 b=false:=by rfl):PI X tg (.Call (.Name "range" p) [a,b] [] pos) (RI X.K (FY f)):=
 PK hg hm ha (by rw [BM h1,BM h2];rfl) (BM h2)
theorem PF {cpos:Pos} (h1:B3 e=false) (h2:Ce es=true) (h3:es.length < 20):((backTo cpos (starEach (e :: es) X.env)).all (λx=>!x.1) && (backToKw cpos (keywordEach [] X.env)).all (λx=>x.1.isSome) && decide ((e :: es).length + ([]:List Keyword).length + (if ([]:List Keyword).isEmpty then 0 else 1) < 30))=true:=by
 rw [(BJ (es:=e :: es) (env:=X.env) (p:=cpos) (by rw [Ce,List.all_cons,h1];exact h2)).2]
 show (true && true && decide (es.length + 1 + 0 + 0 < 30))=true
 simp;lia
theorem CG {μ:Cf->Hp->D->(V->Hp->Prop)->Prop} (i:Nat) {x:Str} {g:M (List D)} {px apos cpos:Pos} (ha:PA X (e :: es) (RA X.K g)) (hN:X.N[i]?=some x:=by rfl) (hv:Vis X.env.scope x:=by first | exact Or.inl rfl | exact Or.inr (Or.inl rfl) | exact Or.inr (Or.inr rfl)) (hd:(x == ("__debug__" : Str))=false:=by decide)
 (hcd:(x == ("__classdict__" : Str))=false:=by decide) (hline:(apos.endLine == cpos.line)=true:=by rfl) (h1:B3 e=false:=by rfl) (h2:Ce es=true:=by rfl) (h3:es.length < 20:=by decide) :
 PS X (.Expr (.Call (.Attribute (.Name x px) "append" apos) (e :: es) [] cpos) pos) (RSg X.K μ (ownM i Dl g)):=PN i ha hN hv hd hcd rfl (PF h1 h2 h3) hline (BM h1) (BJ h2).1
theorem OL {μ:Cf->Hp->D->(V->Hp->Prop)->Prop} (i:Nat) {x:Str} {g:M (List D)} {px apos cpos:Pos} (ha:PA X (e :: es) (RA X.K g)) (hN:X.N[i]?=some x:=by rfl) (hv:Vis X.env.scope x:=by first | exact Or.inl rfl | exact Or.inr (Or.inl rfl) | exact Or.inr (Or.inr rfl)) (hd:(x == ("__debug__" : Str))=false:=by decide)
 (hcd:(x == ("__classdict__" : Str))=false:=by decide) (hline:(apos.endLine == cpos.line)=true:=by rfl) (h1:B3 e=false:=by rfl) (h2:Ce es=true:=by rfl) (h3:es.length < 20:=by decide) :
 PS X (.Expr (.Call (.Attribute (.Name x px) "extend" apos) (e :: es) [] cpos) pos) (RSg X.K μ (ownM i Ix g)):=PP i ha hN hv hd hcd rfl (PF h1 h2 h3) hline (BM h1) (BJ h2).1
end
end F2
namespace HT
open PySem PySem.Spec L2 PyProof.Rows
section
variable {prog:Program} {w:World} {A:Around} {E:Value->Shared->Prop} {s:Shared}
end
end HT
namespace L2
open PySem PySem.Spec PyProof.Rows
section
variable {X:Cx} {e ek:Expr} {p2 pos:Pos} {te:TE} {tk:TO}
end
section
variable {X:Cx}
theorem Hd:∀{ys:List Str} {us:List Value},Vals (ys.map V.str) us->CarriedAll us (ys.map PyData.str)
 | [],_,r=>by cases r;exact .nil
 | _ :: _,_,r=>by
   cases r with
   | cons r1 r2=>obtain ⟨t,rfl⟩:=r1;exact .cons (.str _ _) (Hd r2)
def SO (K:PySem.W.Frag):V->List V->Hp->VK->Prop:=λx xs H Q=>∃z a ys,x = .str z/\xs=[.ref a]/\SqL K H a (ys.map V.str)/\(∀y∈ys,y.length<=8)/\z.length<=8/\ys.length<=1048576/\Q (.str (Txt.join z ys)) H
theorem TN:MtR X "str.join" (SO X.K):=by
 intro pins s Z H x xs v us Q I rx rs h
 obtain ⟨z,a,ys,rfl,rfl,ha,h1,h2,h3,q⟩:=h
 obtain ⟨t,rfl⟩:=rx
 obtain ⟨u,rfl,ru⟩:=Fp rs
 cases ru
 obtain ⟨its,r,pl,_⟩:=I.list ha
 refine join_madeW (l:=ys) (g:=id) 8 pl.isList (by rw [List.map_id];exact Hd r) h1 h3 (by lia) λt' k=>?_
 rw [List.map_id]
 exact ⟨.str _,H,I.tok _,⟨_,rfl⟩,q⟩
end
section
variable {X:Cx}
end
section
variable {X:Cx}
end
end L2
namespace F2
open PySem L2 PySem.Spec
section
variable {X:Cx} {K:PySem.W.Frag}
noncomputable def FT:List D->Option (List Str)
 | []=>some []
 | .str x :: r=>if x.length<=8 then (FT r).map (x :: ·) else none
 | _=>none
def joinM (f:M D) (g:M (List D)):M D:=bnd f λo=>bnd g λas=>match o,as with
 | .str z,[.lst ds]=>λt=>match FT ds with
   | some ys=>if z.length<=8/\ys.length<=1048576 then some (.str (Txt.join z ys),t) else none
   | none=>none
 | _,_=>fail
theorem Nq {c:Cf} {H:Hp}:∀{ds:List D} {vs:List V} {ys:List Str},Reps K c H vs ds->FT ds=some ys->vs=ys.map V.str/\∀y∈ys,y.length<=8
 | [],_,ys,r,e=>by
   cases r
   cases e
   exact ⟨rfl,λ_ h=>nomatch h⟩
 | d :: ds,_,ys,r,e=>by
   cases r with
   | cons r1 r2=>
     cases r1 with
     | str x=>
       unfold FT at e
       split at e
       ·next hx=>
        obtain ⟨zs,e1,rfl⟩:=Option.map_eq_some_iff.mp e
        obtain ⟨h1,h2⟩:=Nq r2 e1
        refine ⟨by rw [h1];rfl,λy hy=>?_⟩
        rcases List.mem_cons.mp hy with rfl | hy
        ·exact hx
        ·exact h2 y hy
       ·cases e
     | _=>cases e
theorem RE.joinM {f:M D} {g:M (List D)} {Z:L2.St} {H:Hp} {Q:VK} (q:RE K (F2.joinM f g) Z H Q):tBM K "str" (SO K) (RE K f) (RA K g) Z H Q:=by
 obtain ⟨Oo,c,t,fi,r,t',eq,k⟩:=q
 obtain ⟨d,t1,e1,eq⟩:=Au eq
 obtain ⟨as,t2,e2,eq⟩:=Au eq
 refine ⟨Oo,c,t,fi,d,t1,e1,λv H1 c1 f1 s1 rv=>?_⟩
 split at eq
 ·next z ds=>
  cases rv
  refine ⟨rfl,Oo,c1,t1,f1,_,t2,e2,λus H2 c2 f2 s2 rus=>?_⟩
  obtain ⟨w,rfl,rw'⟩:=D6 rus
  split at eq
  ·next ys ey=>
   split at eq
   ·next hz=>
    cases eq
    cases rw' with
    | @lst p vs ds h1 h2 h3=>
      obtain ⟨h4,h5⟩:=Nq h3 ey
      subst h4
      exact ⟨_,p,ys,rfl,rfl,SqL.of h1,h5,hz.1,hz.2,k _ _ c2 f2 (s1.trans s2) (.str _)⟩
   ·cases eq
  ·cases eq
 ·cases eq
theorem Tn {o e:Expr} {es:List Expr} {f:M D} {g:M (List D)} {apos cpos:Pos} (ho:PE X o (RE X.K f)) (ha:PA X (e :: es) (RA X.K g))
 (hbase:attributeBase o "join" X.env (eval o X.env)=eval o X.env:=by rfl)
 (hfew:((backTo cpos (starEach (e :: es) X.env)).all (λx=>!x.1) && (backToKw cpos (keywordEach [] X.env)).all (λx=>x.1.isSome) && decide ((e :: es).length + ([]:List Keyword).length + (if ([]:List Keyword).isEmpty then 0 else 1) < 30))=true:=by rfl)
 (hline:(apos.endLine == cpos.line)=true:=by rfl) (hs:starEach (e :: es) X.env=(false,eval e X.env) :: starEach es X.env:=by rfl) (hplain:(backTo cpos (starEach es X.env)).any (·.1)=false:=by rfl) :
 PE X (.Call (.Attribute o "join" apos) (e :: es) [] cpos) (RE X.K (joinM f g)):=
 BN (LM PySem.F.plainAttrs_str PySem.F.slot_str_join PySem.F.type_str_join TN ho ha hbase hfew hline hs hplain) λ_ _ _ q=>RE.joinM q
end
end F2
namespace L2
open PySem PySem.Spec PyProof.Rows
def Qx:R2:=λx y H Q=>∃a kvs k v,x = .ref a/\y = .str k/\H a=some (.dK kvs)/\Dz kvs (Sum.inr k:Key)=some v/\Q v H
def VS:V->V->V->Hp->(Hp->Prop)->Prop:=λo i v H Q=>∃a kvs k,o = .ref a/\i = .str k/\H a=some (.dK kvs)/\kvs.length < sizeLine/\Q (upd H a (.dK (DX kvs (Sum.inr k:Key) v)))
section
variable {X:Cx}
theorem B4:IxR X Qx:=by
 intro value slice pins s Z H x y v u Q I rx ry h hs
 obtain ⟨a,kvs,k,z,rfl,rfl,e,l,q⟩:=h
 cases rx
 obtain ⟨_,_,vs,rel,dd⟩:=HH I.hok e
 have g:DGet H a (kV (Sum.inr k:Key)) (some z):=by rw [<-l];exact DGet.k e
 have hT:=dd.typeIs
 unfold subscriptTail
 refine wpAny_bind ?_
 rw [getitemInPython_of_ne hT.not_modules]
 refine wpAny_bind (wpAny_specialOf hT PySem.F.slot_dict_getitem.lookup ?_)
 have get:wpAny (model X.prog X.w) X.A (getItem (.ref a) u) (EP X pins Z Q) X.xe s:=by
  obtain ⟨w',hw,rw'⟩:=RelO.some_of (v:=z) (o:=valueAt vs (Sum.inr k:Key)) (by rw [<-l];exact rel.val _)
  exact wpAny_getItem_of (JD (k:=(Sum.inr k:Key)) ry) dd.mapOf hw ⟨z,H,I.tok _,rw',q⟩
 have fin:wpAny (model X.prog X.w) X.A (subscripted slice false (.ref a) u) (λr s₃=>wpAny (model X.prog X.w) X.A (letTemporaryGo value (.ref a) r >>= λ_=>pure r) (EP X pins Z Q) X.xe s₃) X.xe s:=by
  rw [hs]
  exact wpAny_operating (wpAny_mono get (λr s₃ h₃=>wpAny_bind (wpAny_letTemporaryGo (wpAny_pure h₃))) λ_ _ x=>x)
 first
  | exact wpAny_pure (wpAny_bind fin)
  | exact wpAny_bind (wpAny_pure (wpAny_bind fin))
  | exact wpAny_bind fin
theorem Uy:UZ X VS:=by
 intro pins s Z H o i v ov iv u Q I ro ri rv h
 obtain ⟨a,kvs,k,rfl,rfl,e,l,q⟩:=h
 cases ro
 obtain ⟨z,hd,vs,rel,dd⟩:=HH I.hok e
 have hz:vs.length<=sizeLine:=by rw [<-rel.length];exact z
 have hl:(DX kvs (Sum.inr k:Key) v).length<=sizeLine:=by have:=Ij kvs (Sum.inr k:Key) v;lia
 refine wpAny_setItem_pairs (hsz:=hz) (JD (k:=(Sum.inr k:Key)) ri) dd λh' dd' hs=>⟨_,?_,q⟩
 have he:∃q,h'.get? a=some q:=let ⟨q,_,_,hq,_⟩:=dd';⟨q,hq⟩
 exact NV I (by rw [e];exact True.intro) hs he (Mz hl hd (rel.put _ rv) dd')
end
end L2
namespace F2
open PySem L2 PySem.Spec
noncomputable def BI (kvs:List (Key×D)) (k:Key):Option D:=(kvs.find? λkv=>decide (kv.1=k)).map (·.2)
noncomputable def B7 (kvs:List (Key×D)) (k:Key) (d:D):List (Key×D):=
 if (kvs.any λkv=>decide (kv.1=k))=true then kvs.map (λkv=>if kv.1=k then (kv.1,d) else kv) else kvs++[(k,d)]
def BY:D->D->M D
 | .obj n,.str x=>λt=>match t.S[n]? with
   | some (.dct kvs)=>(BI kvs (.inr x)).map λd=>(d,t)
   | _=>none
 | _,_=>fail
def Gx:D->D->D->M Unit
 | .obj n,.str x,d=>λt=>match t.S[n]? with
   | some (.dct kvs)=>if kvs.length < LIM then some ((),{ t with S:=t.S.set n (.dct (B7 kvs (.inr x) d)) }) else none
   | _=>none
 | _,_,_=>fail
def DS (f g:M D) (d:D):M Unit:=bnd f λo=>bnd g λi=>Gx o i d
def DY:List (Str×M D)->M (List (Key×D))
 | []=>ret []
 | (k,f) :: r=>bnd f λd=>bnd (DY r) λps=>ret ((.inr k,d) :: ps)
def Bs (ps:List (Key×D)):List (Key×D):=ps.foldl (λacc kv=>B7 acc kv.1 kv.2) []
def Kr (n:Nat) (ps:List (Key×D)):M D:=λt=>match t.S[n]? with
 | some (.dct [])=>if ps.length<=15 then some (.obj n,{ t with S:=t.S.set n (.dct (Bs ps)) }) else none
 | _=>none
def Ey (l:List (Str×M D)):M D:=λt=>bnd (DY l) (Kr t.S.length) { t with S:=t.S++[.dct []] }
section
variable {K:PySem.W.Frag} {c:Cf} {H:Hp}
theorem KVR.get {us:List (Key×V)} {kvs:List (Key×D)} (r:KVR K c H us kvs) (k:Key) {d:D} (e:BI kvs k=some d):∃v,Dz us k=some v/\Rep K c H v d:=by
 unfold KVR at r
 induction r with
 | nil=>simp [BI] at e
 | @cons p q ps qs h t ih=>
   by_cases hk:p.1=k
   ·have hq:q.1=k:=h.1.symm.trans hk
    have:BI (q :: qs) k=some q.2:=by simp [BI,List.find?_cons,hq]
    rw [this] at e;cases e
    exact ⟨p.2,G4 hk,h.2⟩
   ·have hq:¬q.1=k:=λz=>hk (h.1.trans z)
    have:BI (q :: qs) k=BI qs k:=by simp [BI,List.find?_cons,hq]
    rw [this] at e
    rw [G3 hk]
    exact ih e
theorem KVR.any {us:List (Key×V)} {kvs:List (Key×D)} (r:KVR K c H us kvs) (k:Key):(us.any λkv=>decide (kv.1=k))=(kvs.any λkv=>decide (kv.1=k)):=by
 unfold KVR at r
 induction r with
 | nil=>rfl
 | @cons p q ps qs h t ih=>rw [List.any_cons,List.any_cons,ih,h.1]
theorem KVR.put {us:List (Key×V)} {kvs:List (Key×D)} (r:KVR K c H us kvs) (k:Key) {v:V} {d:D} (rv:Rep K c H v d):KVR K c H (DX us k v) (B7 kvs k d):=by
 unfold DX B7
 rw [r.any k]
 by_cases q:(kvs.any λkv=>decide (kv.1=k))=true
 ·rw [if_pos q,if_pos q]
  clear q
  unfold KVR at r ⊢
  induction r with
  | nil=>exact .nil
  | @cons p q ps qs h t ih=>
    rw [List.map_cons,List.map_cons]
    refine .cons ?_ ih
    by_cases e:p.1=k
    ·rw [if_pos e,if_pos (h.1.symm.trans e)];exact ⟨h.1,rv⟩
    ·rw [if_neg e,if_neg (λz=>e (h.1.trans z))];exact h
 ·rw [if_neg q,if_neg q]
  exact Paired.snoc r ⟨rfl,rv⟩
theorem KVR.length {us:List (Key×V)} {kvs:List (Key×D)} (r:KVR K c H us kvs):us.length=kvs.length:=Paired.length r
theorem KVR.mono {c':Cf} {H':Hp} {us:List (Key×V)} {kvs:List (Key×D)} (e:Ext c H c' H') (r:KVR K c H us kvs):KVR K c' H' us kvs:=Paired.mapP r λ_ _ z=>⟨z.1,z.2.mono e⟩
theorem KVR.merge:∀{ps:List (Key×D)} {us:List (Key×V)} {acc:List (Key×D)} {ua:List (Key×V)},KVR K c H us ps->KVR K c H ua acc->KVR K c H (FL ua us) (ps.foldl (λacc kv=>B7 acc kv.1 kv.2) acc):=by
 intro ps us acc ua r
 unfold KVR at r
 induction r generalizing acc ua with
 | nil=>intro q;exact q
 | @cons p q ps qs h t ih=>
   intro r0
   refine ih ?_
   show KVR K c H (DX ua p.1 p.2) (B7 acc q.1 q.2)
   have:=KVR.put r0 p.1 h.2
   rw [<-h.1]
   exact this
theorem BA:BZ K Qx BY:=λ{Oo c t Z H x y dx dy r t' Q} f rx ry eq k=>by
 unfold BY at eq
 split at eq
 ·next n z=>
  cases ry
  cases rx with
  | @obj a kk hk=>
    split at eq
    ·next kvs es=>
     obtain ⟨d,e1,e2⟩:=Option.map_eq_some_iff.mp eq
     cases e2
     obtain ⟨us,g1,g2⟩:=f.s.obs _ a _ hk es
     obtain ⟨v,e3,e4⟩:=g2.get _ e1
     exact ⟨a,us,z,v,rfl,rfl,g1,e3,k _ H c f .refl e4⟩
    ·cases eq
 ·cases eq
end
section
variable {X:Cx} {pos:Pos} {e:Expr}
theorem Cv {o i:Expr} {f g:M D} (ho:PE X o (RE X.K f)) (hi:PE X i (RE X.K g))
 (ha:∀v,assign (.Subscript o i pos) X.env v=(do
   let ov <-holding [v] (eval o X.env)
   let iv <-holding [v,ov] (eval i X.env)
   standAt pos
   holding [v,ov,iv] (setItem ov iv v)
   release [v,ov,iv] []):=by intro _;rfl):PG X (.Subscript o i pos) (RG X.K (DS f g)):=
 LY (VF ho hi Uy ha) λv Z H Q ⟨Oo,c,t,d,fi,rv,t',eq,k⟩=>by
  obtain ⟨d0,t1,e1,eq⟩:=Au eq
  obtain ⟨di,t2,e2,eq⟩:=Au eq
  refine ⟨Oo,c,t,fi,_,t1,e1,λx H1 c1 f1 s1 rx=>⟨Oo,c1,t1,f1,di,t2,e2,λy H2 c2 f2 s2 ry=>?_⟩⟩
  unfold Gx at eq
  split at eq
  ·next n z dd=>
   cases ry
   cases rx with
   | @obj a kk hk=>
     split at eq
     ·next kvs es=>
      split at eq
      ·next hl=>
       cases eq
       have hk2:=s2.ext.io _ _ hk
       obtain ⟨us,g1,g2⟩:=f2.s.obs _ a _ hk2 es
       refine ⟨a,us,z,rfl,rfl,g1,by rw [g2.length];exact Nat.lt_trans hl UW,?_⟩
       have rv2:=rv.mono (s1.trans s2).ext
       obtain ⟨f3,s3⟩:=f2.wrObj (o:=.dct (B7 kvs (.inr z) d)) (u:=.dK (DX us (.inr z) v)) hk2 λc' H' ext hu=>⟨_,hu,(g2.put _ rv2).mono ext⟩
       exact k Z _ c2 f3 ((s1.trans s2).trans s3)
      ·cases eq
     ·cases eq
  ·cases eq
def RP (K:PySem.W.Frag) (f:M (List (Key×D))) (Z:St) (H:Hp) (Q:List (V×V)->Hp->Prop):Prop:=
 ∃Oo c t,FInv K Oo c t Z H/\∃ps t',f t=some (ps,t')/\∀us H' c',FInv K Oo c' t' Z H'->Stp Oo c H c' H'->KVR K c' H' us ps->Q (us.map λkv=>(kV kv.1,kv.2)) H'
def PPf (X:Cx) (pos:Pos) (keys:List (Option Expr)) (values:List Expr) (f:M (List (Key×D))):Prop:=
 ∃trs,PPs X pos keys values trs/\∀Z H Q,RP X.K f Z H Q->Ka trs Z H Q
theorem Ej:PPf X pos [] [] (DY []):=⟨[],Uh,λZ H Q ⟨Oo,c,t,fi,ps,t',eq,k⟩=>by
 cases eq
 exact k [] H c fi .refl .nil⟩
theorem B2 {k:Str} {j:Nat} {kp:Pos} {v:Expr} {ks:List (Option Expr)} {vs:List Expr} {f:M D} {r:List (Str×M D)} (hv:PE X v (RE X.K f)) (hr:PPf X pos ks vs (DY r)) :
 PPf X pos (some (.Constant (.str k) j kp) :: ks) (v :: vs) (DY ((k,f) :: r)):=by
 obtain ⟨trs,h1,h2⟩:=hr
 refine ⟨_,RU Qp hv h1,λZ H Q ⟨Oo,c,t,fi,ps,t',eq,kk⟩=>?_⟩
 obtain ⟨d,t1,e1,eq⟩:=Au eq
 obtain ⟨qs,t2,e2,eq⟩:=Au eq
 cases eq
 refine ⟨Oo,c,t,fi,d,t1,e1,λy H1 c1 f1 s1 ry=>?_⟩
 refine h2 Z H1 _ ⟨Oo,c1,t1,f1,qs,_,e2,λus H2 c2 f2 s2 ru=>?_⟩
 exact kk ((.inr k,y) :: us) H2 c2 f2 (s1.trans s2) (.cons ⟨rfl,ry.mono s2.ext⟩ ru)
theorem Eh {keys:List (Option Expr)} {values:List Expr} {l:List (Str×M D)} (h:PPf X pos keys values (DY l)) (hall:keys.all (·.isSome)=true:=by rfl) (hl:keys.length=values.length:=by rfl) (h0:keys≠[]:=by exact List.cons_ne_nil _ _)
 (h15:keys.length<=15:=by exact Nat.le_of_ble_eq_true rfl):PE X (.Dict keys values pos) (RE X.K (Ey l)):=by
 obtain ⟨trs,h1,h2⟩:=h
 refine BN (T9 h1 hall hl h0 h15) λZ H Q ⟨Oo,c,t,fi,r,t',eq,k⟩=>?_
 intro p hp
 obtain ⟨c1,f1,s1,e1⟩:=fi.newObj (o:=.dct []) (u:=.dK []) hp λc' H' ex hu=>⟨[],hu,.nil⟩
 obtain ⟨ps,t2,e2,eq⟩:=Au eq
 refine h2 Z _ _ ⟨Oo,c1,_,f1,ps,t2,e2,λus H2 c2 f2 s2 ru=>?_⟩
 unfold Kr at eq
 split at eq
 ·next es=>
  split at eq
  ·next hl15=>
   cases eq
   have hk2:=s2.ext.io _ _ e1
   obtain ⟨u0,g1,g2⟩:=f2.s.obs _ p _ hk2 es
   cases g2
   refine ⟨g1,us,rfl,by rw [ru.length];exact hl15,?_⟩
   obtain ⟨f3,s3⟩:=f2.wrObj (o:=.dct (Bs ps)) (u:=.dK (FL [] us)) hk2 λc' H' ext hu=>⟨_,hu,(KVR.merge ru .nil).mono ext⟩
   exact k _ _ c2 f3 (s1.trans (s2.trans s3)) (.obj hk2)
  ·cases eq
 ·cases eq
end
end F2
namespace L2
open PySem PySem.Spec PyProof.Rows
section
variable {X:Cx}
end
end L2
namespace F2
open PySem L2 PySem.Spec
section
variable {X:Cx} {pos:Pos} {e:Expr} {es:List Expr}
end
end F2
namespace L2
open PySem PySem.Spec PyProof.Rows
section
variable {prog:Program} {w:World} {A:Around} {I:Addr} {fp wr:List Addr} {G:Array GenState->Array GenState->Prop} {n:Nat} {P:Nat->Value->Prop} {St:Nat->Shared->Prop}
end
section
variable {X:Cx}
end
end L2
namespace F2
open PySem L2 PySem.Spec PyProof.Rows
section
variable {X:Cx} {pos:Pos} {e:Expr}
end
end F2
namespace F2
open PySem L2 PySem.Spec
noncomputable def Dv (f:M Bool) (b:M Out):Nat->M Out
 | 0=>λ_=>none
 | n + 1=>λt=>match f t with
   | none=>none
   | some (false,t1)=>some (.next,t1)
   | some (true,t1)=>match b t1 with
     | some (.next,t2)=>Dv f b n t2
     | some (.cont,t2)=>Dv f b n t2
     | some (.brk,t2)=>some (.next,t2)
     | some (.ret x,t2)=>some (.ret x,t2)
     | none=>none
def LG:Nat:=1000000
def Ke (f:M Bool) (b:M Out):M Out:=Dv f b LG
theorem RS.while {μ:Cf->Hp->D->(V->Hp->Prop)->Prop} {K:PySem.W.Frag} {f:M Bool} {b:M Out} {E:Ends} {Z:L2.St} {H:Hp} (q:RSg K μ (Ke f b) E Z H):QJ (RT K f) (RSg K μ b) E Z H:=by
 obtain ⟨Oo,c,t,fi,o,t',eq,k⟩:=q
 refine ⟨λm Z' H'=>∃c' t2,FInv K Oo c' t2 Z' H'/\Stp Oo c H c' H'/\Dv f b m t2=some (o,t'),⟨LG,c,t,fi,.refl,eq⟩,?_⟩
 rintro m Z' H' ⟨c',t2,f2,s2,e2⟩
 cases m with
 | zero=>cases e2
 | succ m=>
 rw [Dv] at e2
 dsimp only at e2
 cases ef:f t2 with
 | none=>rw [ef] at e2;cases e2
 | some p=>
 obtain ⟨r,t3⟩:=p
 rw [ef] at e2
 refine ⟨Oo,c',t2,f2,r,t3,ef,λH3 c3 f3 s3=>?_⟩
 cases r with
 | false=>
   cases e2
   exact k Z' H3 c3 f3 (s2.trans s3)
 | true=>
   rw [if_pos rfl]
   dsimp only at e2
   refine ⟨λZ4 H4=>∃c4 t4,FInv K Oo c4 t4 Z4 H4/\Stp Oo c H c4 H4/\Dv f b m t4=some (o,t'),λZ4 H4 h=>⟨m,Nat.lt_succ_self m,h⟩,?_⟩
   cases eb:b t3 with
   | none=>rw [eb] at e2;cases e2
   | some p=>
   obtain ⟨ob,t4⟩:=p
   rw [eb] at e2
   refine ⟨Oo,c3,t3,f3,ob,t4,eb,λZ4 H4 c4 f4 s4=>?_⟩
   cases ob with
   | next=>exact ⟨c4,t4,f4,(s2.trans s3).trans s4,e2⟩
   | cont=>exact ⟨c4,t4,f4,(s2.trans s3).trans s4,e2⟩
   | brk=>
     cases e2
     exact k Z4 H4 c4 f4 ((s2.trans s3).trans s4)
   | ret x=>
     cases e2
     exact k Z4 H4 c4 f4 ((s2.trans s3).trans s4)
section
variable {X:Cx} {pos:Pos}
theorem MO {μ:Cf->Hp->D->(V->Hp->Prop)->Prop} {e:Expr} {body:List Stmt} {f:M Bool} {b:M Out} (hp:PassesOwn (model X.prog X.w) X.A X.env X.xe) (hc:PT X e (RT X.K f)) (hb:PSs X body (RSg X.K μ b)):PS X (.While e body [] pos) (RSg X.K μ (Ke f b)):=
 Cc (RW hp hc hb) λ_ _ _ q=>RS.while q
end
end F2
namespace L2
open PySem PySem.Spec PyProof.Rows
end L2
namespace F2
open PySem L2 PySem.Spec
end F2
namespace L2
open PySem PySem.Spec PyProof.Rows
section
variable {X:Cx} {tg:Expr}
end
end L2
namespace F2
open PySem L2 PySem.Spec
section
variable {X:Cx} {pos:Pos} {e:Expr} {es:List Expr}
end
noncomputable def ES (H:Hp) (a:Addr):Hp:=λb=>if b=a then none else H b
theorem RB {H:Hp} {a:Addr} {o:HO} (h:H a=some o):upd (ES H a) a o=H:=by
 funext b
 by_cases e:b=a
 ·subst e;rw [Az];exact h.symm
 ·rw [Ar e];unfold ES;rw [if_neg e]
section
variable {K:PySem.W.Frag} {Oo:Addr->Prop} {c:Cf} {t:T} {Z:L2.St} {H:Hp}
theorem FInv.out (f:FInv K Oo c t Z H) {i:Nat} {ds:List D} (e:t.env[i]?=some (some (.own ds))) {a:Addr} (ha:Z[i]?=some (some (.ref a))) :
 FInv K Oo ⟨c.ι,λb=>c.O b/\b≠a⟩ { t with env:=t.env.set i none } Z (ES H a)/\Stp Oo c H ⟨c.ι,λb=>c.O b/\b≠a⟩ (ES H a):=by
 obtain ⟨a',vs,g1,g2,g3,g4,g5⟩:=f.own i ds e
 rw [ha] at g1;injection g1 with g1;injection g1 with g1;injection g1 with g1;subst g1
 have ni:a∉c.ι:=f.s.dis a g2
 have ext:Ext c H ⟨c.ι,λb=>c.O b/\b≠a⟩ (ES H a):=by
  refine ⟨λb o hb hn=>?_,λb o hb z=>?_,λk b h=>h⟩
  ·unfold ES;rw [if_neg λz=>hn (by rw [z];exact .inr g2)];exact hb
  ·rcases z with z | z
   ·exact .inl z
   ·exact .inr z.1
 have stp:Stp Oo c H ⟨c.ι,λb=>c.O b/\b≠a⟩ (ES H a):=⟨ext,λb hb=>by unfold ES;rw [if_neg λz=>g3 (by rw [<-z];exact hb)]⟩
 have old:∀{j:Nat} {x:Sl},(t.env.set i none)[j]?=some (some x)->j≠i/\t.env[j]?=some (some x):=λ{j x} q=>by
  by_cases h:j=i
  ·subst h
   rw [List.getElem?_set] at q
   split at q
   ·split at q <;> simp at q
   ·contradiction
  ·exact ⟨h,by rw [List.getElem?_set_ne (Ne.symm h)] at q;exact q⟩
 refine ⟨⟨⟨f.s.len,f.s.nd,λk b o e1 e2=>?_,λb hb=>?_,λb hb=>f.s.dis b hb.1⟩,by simpa using f.len,λb hb=>⟨f.sub b hb,λz=>g3 (by rw [<-z];exact hb)⟩,λj d q=>?_,λj es q=>?_,λj k es fs b q1 q2 q3 q4=>?_⟩,stp⟩
 ·refine (f.s.obs k b o e1 e2).mono ext ?_
  unfold ES
  rw [if_neg λz=>ni (by rw [<-z];exact List.mem_of_getElem? e1)]
 ·obtain ⟨o,ho⟩:=f.s.trk b hb.1
  exact ⟨o,by unfold ES;rw [if_neg hb.2];exact ho⟩
 ·obtain ⟨v,h1,h2⟩:=f.val j d (old q).2
  exact ⟨v,h1,h2.mono ext⟩
 ·obtain ⟨nj,q'⟩:=old q
  obtain ⟨b,us,k1,k2,k3,k4,k5⟩:=f.own j es q'
  have nb:b≠a:=λz=>nj (f.inj j i es ds a q' e (by rw [k1,z]) ha)
  exact ⟨b,us,k1,⟨k2,nb⟩,k3,by unfold ES;rw [if_neg nb];exact k4,k5.mono ext⟩
 ·exact f.inj j k es fs b (old q1).2 (old q2).2 q3 q4
end
noncomputable def Hv (i:Nat):M Out:=λt=>match t.env[i]? with
 | some (some (.own xs))=>some (.ret (.lst xs),{ t with env:=t.env.set i none })
 | _=>none
def Hu (f:M (List D)):M Out:=bnd f λds=>ret (.ret (.lst ds))
section
variable {X:Cx} {pos:Pos} {e:Expr} {es:List Expr}
theorem Fu {f:M (List D)} (h:PE X e (RF X.K f)):PS X (.Return (some e) pos) (RSg X.K (μF X.K) (Hu f)):=
 Cc (Hs h) λE Z H ⟨Oo,c,t,fi,o,t',eq,k⟩=>by
  obtain ⟨ds,t1,e1,eq⟩:=Au eq
  cases eq
  exact ⟨Oo,c,t,fi,ds,_,e1,λp us H1 c1 f1 s1 ru hp=>k Z H1 c1 f1 s1 p us hp ru⟩
theorem PQ (i:Nat) {x:Str} {px:Pos} (hN:X.N[i]?=some x:=by rfl) (hv:Vis X.env.scope x:=by first | exact Or.inl rfl | exact Or.inr (Or.inl rfl) | exact Or.inr (Or.inr rfl)) (hd:(x == ("__debug__" : Str))=false:=by decide)
 (hcd:(x == ("__classdict__" : Str))=false:=by decide):PS X (.Return (some (.Name x px)) pos) (RSg X.K (μF X.K) (Hv i)):=
 Cc (Hs (Du hN hv hd hcd)) λE Z H ⟨Oo,c,t,fi,o,t',eq,k⟩=>by
  unfold Hv at eq
  split at eq
  ·next xs ex=>
   cases eq
   obtain ⟨a,vs,h1,h2,h3,h4,h5⟩:=fi.own i xs ex
   refine ⟨.ref a,h1,?_⟩
   obtain ⟨f2,s2⟩:=fi.out ex h1
   have:=k Z (ES H a) _ f2 s2 a vs (by unfold ES;rw [if_pos rfl]) (h5.mono s2.ext)
   rw [RB h4] at this
   exact this
  ·cases eq
def Ja (K:PySem.W.Frag) (f:Fn):Sp:=λvs H Q _=>∃c ds S,SInv K c S H/\Reps K c H vs ds/\∃rs S',f ds S=some (.lst rs,S')/\
 ∀p us H' c',SInv K c' S' H'->Stp c.O c H c' H'->(∀b,c'.O b↔c.O b)->Reps K c' H' us rs->H' p=none->Q (.ref p) (upd H' p (.lst us))
def Ex (g:Fn) (f:M (List D)):M (List D):=bnd f λds t=>match g ds t.S with
 | some (.lst rs,S')=>some (rs,{ t with S:=S' })
 | _=>none
theorem OC {g:Fn} {ds:List D} {t:T} {rs:List D} {t':T} (h:(match g ds t.S with | some (.lst rs,S')=>some (rs,{ t with S:=S' }) | _=>none:Option (List D×T))=some (rs,t')):∃S',g ds t.S=some (.lst rs,S')/\t' = { t with S:=S' }:=by
 split at h
 ·next rs' S' e=>cases h;exact ⟨S',e,rfl⟩
 ·cases h
theorem MD {k:Nat} {fa:Addr} {fd:FuncData} {ps:List Str} {g:Fn} {f:M (List D)} {x:Str} {p:Pos} (F:FnOk X.prog X.w X.K X.mg X.base CX0 k fa fd ps (Ja X.K g)) (hr:Room k X.A) (hg:Gl X x) (hm:X.mg x=some (.ref fa)) (hk:PySem.W.keepIn X.K (.ref fa)=true) (hb:Binds X.K fd ps [])
 (ha:PA X (e :: es) (RA X.K f)) (hdb:(x == ("__debug__" : Str))=false:=by decide) (h1:B3 e=false:=by rfl) (h2:Ce es=true:=by rfl) :
 PE X (.Call (.Name x p) (e :: es) [] pos) (RF X.K (Ex g f)):=
 BN (N7 F hr hg hm hk hb .nil SH ha hdb (BM h1) (BJ h2).1) λZ H Q ⟨Oo,c,t,fi,rs,t',eq,kk⟩=>by
  obtain ⟨ds,t1,e1,eq⟩:=Au eq
  obtain ⟨S',e2,rfl⟩:=OC eq
  refine ⟨Oo,c,t,fi,ds,t1,e1,λvs H1 c1 f1 s1 rvs=>?_⟩
  show Ja X.K g (vs++[]) H1 Q E0
  rw [List.append_nil]
  refine ⟨c1,ds,t1.S,f1.s,rvs,rs,S',e2,λp us H' c' si st ho ru hp=>?_⟩
  obtain ⟨f2,s2⟩:=f1.after si st ho
  exact kk p us H' c' f2 (s1.trans s2) ru hp
theorem Fa {k:Nat} {fa:Addr} {fd:FuncData} {ps:List Str} {g:Fn} {f:M (List D)} {x:Str} {p:Pos} (F:FnOk X.prog X.w X.K X.mg X.base CX0 k fa fd ps (Ja X.K g)) (hr:Room k X.A) (hg:Gl X x) (hm:X.mg x=some (.ref fa)) (hk:PySem.W.keepIn X.K (.ref fa)=true) (hb:Binds X.K fd ps [])
 (ha:PA X (e :: es) (RA X.K f)) (hdb:(x == ("__debug__" : Str))=false:=by decide) (h1:B3 e=false:=by rfl) (h2:Ce es=true:=by rfl) :
 PE X (.Call (.Name x p) (e :: es) [] pos) (RE X.K (AW (Ex g f))):=AN (MD F hr hg hm hk hb ha hdb h1 h2)
end
theorem NY {P:Program} {w:World} {K:PySem.W.Frag} {mg:Str->Option Value} {base:Heap} {x qual:Str} {st:Stmt} {fa:Addr} {fd:FuncData} {N ps:List Str} {k n m:Nat} {g:M Out} (e1:ps.length=n) (e2:N.length=m) (F:Fun K x qual st fa fd) (S:FnScope N ps (Ao st))
 (hb:∀(cdv:Value) (A:Around) (outer:List Env) (s:Shared) (H:Hp) (E:XK),Room k (A.deeper (PyProof.Rows.envOfC qual (Ao st) s.heap.objs.size fa cdv))->
   PSs (DH CX0 P w K mg base N qual (Ao st) fa cdv A outer s H E).nox (B9 st) (RSg K (μF K) g)):FnOk P w K mg base CX0 (k + 1) fa fd ps (Ja K (fnOf n m g)):=by
 subst e1 e2
 have hlen:∀{ds:List D} {S:List Ob} {z:D×List Ob},fnOf ps.length N.length g ds S=some z->ds.length=ps.length:=λ{ds S z} h=>by
  unfold fnOf at h
  split at h
  ·next h1=>exact h1
  ·cases h
 refine F.ok S (λvs H Q E h=>?_) (λcdv A outer s H vs Q E hr h=>?_)
 ·obtain ⟨c,ds,S,si,rs,r,S',e,_⟩:=h
  rw [rs.length];exact hlen e
 obtain ⟨c,ds,S0,si,rs,r,S',e,kk⟩:=h
 refine ⟨RSg K (μF K) g,hb cdv A outer s H E hr,?_⟩
 have hl:=hlen e
 unfold fnOf at e
 rw [if_pos hl] at e
 cases eg:g ⟨env0 N.length ds,S0⟩ with
 | none=>rw [eg] at e;cases e
 | some p=>
   obtain ⟨o,t⟩:=p
   rw [eg] at e
   refine ⟨c.O,c,_,GJ si rs,o,t,eg,λZ' H' c' f' s'=>?_⟩
   obtain ⟨si',ext'⟩:=f'.leave
   have st':Stp c.O c H ⟨c'.ι,c.O⟩ H':=⟨s'.ext.trans ext',s'.oo⟩
   cases o with
   | next=>cases e
   | ret d=>
     cases e
     exact λp us hp ru=>kk p us H' _ si' st' (λ_=>Iff.rfl) (ru.mono ext') hp
   | brk=>cases e
   | cont=>cases e
theorem Oc {P:Program} {w:World} {K:PySem.W.Frag} {mg:Str->Option Value} {base:Heap} {fa:Addr} {fd:FuncData} {ps:List Str} {k:Nat} {f g:Fn} (e:f=g) (h:FnOk P w K mg base CX0 k fa fd ps (Ja K g)):FnOk P w K mg base CX0 k fa fd ps (Ja K f):=by rw [e];exact h
end F2
namespace L2
open PySem PySem.Spec PyProof.Rows
section
variable {X:Cx}
theorem T6 {o:Expr} {to:TE} {apos cpos:Pos} (ho:PE X o to) (hbase:attributeBase o "bit_length" X.env (eval o X.env)=eval o X.env:=by rfl) (hline:(apos.endLine == cpos.line)=true:=by rfl) :
 PE X (.Call (.Attribute o "bit_length" apos) [] [] cpos) (λZ H Q=>to Z H λv H1=>∃i,v = .int i/\Q (.int (Builtin.Int.intBits i:Nat)) H1):=by
 intro pins s Z H Q I h
 refine Call_method0 hbase hline (thn (ho pins s Z H _ I h) λu s1 ⟨v,H1,I1,rv,i,ex,q⟩=>?_)
 subst ex
 obtain ⟨t,rfl⟩:=rv
 exact ⟨"int", "int.bit_length",PySem.F.plainAttrs_int,PySem.F.slot_int_bit_length,PySem.F.type_int_bit_length,typeIs_int _ _ _,(λ_ e=>nomatch e),
  method0_gives PySem.F.slot_int_bit_length PySem.F.entry_int_bit_length (typeIs_int _ _ _) (PySem.F.args_int_bit_length_1 _) (PySem.AutoIntG2.int_bit_length_int_0 i t) ⟨.int (Builtin.Int.intBits i:Nat),H1,I1.tok _,⟨_,rfl⟩,q⟩⟩
end
end L2
namespace F2
open PySem L2 PySem.Spec
def LH:D->M D
 | .int i=>ret (.int (Builtin.Int.intBits i:Nat))
 | _=>fail
section
variable {X:Cx} {pos:Pos} {e:Expr} {es:List Expr}
theorem PD {o:Expr} {f:M D} {apos cpos:Pos} (ho:PE X o (RE X.K f)) (hbase:attributeBase o "bit_length" X.env (eval o X.env)=eval o X.env:=by rfl) (hline:(apos.endLine == cpos.line)=true:=by rfl) :
 PE X (.Call (.Attribute o "bit_length" apos) [] [] cpos) (RE X.K (fUn f LH)):=
 BN (T6 ho hbase hline) λZ H Q ⟨Oo,c,t,fi,r,t',eq,k⟩=>by
  obtain ⟨d,t1,e1,eq⟩:=Au eq
  refine ⟨Oo,c,t,fi,d,t1,e1,λx H1 c1 f1 s1 rx=>?_⟩
  unfold LH at eq
  split at eq
  ·next i=>
   cases eq
   cases rx
   exact ⟨i,rfl,k _ H1 c1 f1 s1 (.int _)⟩
  ·cases eq
end
section
variable {X:Cx} {b elt:Expr} {pos:Pos}
end
end F2
namespace L2
open PySem PySem.Spec PyProof.Rows
end L2
namespace F2
open PySem L2 PySem.Spec
structure ItOk2 (K:PySem.W.Frag) (J:It) (c:Cf) (H:Hp) (ds:List D):Prop where
 go:∀c' H' (i:Nat),Ext c H c' H'->i < ds.length->J.go i H'
 yld:∀c' H' (i:Nat) x H'' d,Ext c H c' H'->ds[i]?=some d->J.yld i H' x H''->∃p vs es,x = .ref p/\H' p=none/\H''=upd H' p (.tup vs)/\d = .tup es/\Reps K c' H' vs es
 stop:∀c' H',Ext c H c' H'->J.stop ds.length H'
section
variable {X:Cx} {pos:Pos} {e:Expr}
end
end F2
namespace L2
open PySem PySem.Spec PyProof.Rows
section
variable {X:Cx}
end
end L2
namespace F2
open PySem L2 PySem.Spec
section
variable {X:Cx} {pos:Pos} {e:Expr} {es:List Expr}
end
end F2
namespace L2
open PySem PySem.Spec PyProof.Rows
section
variable {X:Cx} {e ek:Expr} {p2 pos:Pos} {te:TE} {tk:TO}
end
end L2
namespace F2
open PySem L2 PySem.Spec
section
variable {X:Cx}
end
end F2
namespace L2
open PySem PySem.Spec PyProof.Rows
section
variable {X:Cx}
end
end L2
namespace F2
open PySem L2 PySem.Spec
section
variable {X:Cx} {pos:Pos}
end
end F2
namespace L2
open PySem PySem.Spec PyProof.Rows
theorem Ln {x y:Int} (h0:0 < y) (h1:y < 18446744073709551616):Builtin.divisionGoesByPylong x y=false:=by
 unfold Builtin.divisionGoesByPylong
 have hl:y.natAbs.log2 < 64:=(Nat.log2_lt (by lia)).mpr (by show y.natAbs < 2 ^ 64;lia)
 have e:(y == 0)=false:=by rw [beq_eq_false_iff_ne];lia
 simp only [e,Bool.false_eq_true,if_false]
 rw [Bool.and_eq_false_iff]
 left
 rw [decide_eq_false_iff_not]
 lia
def Sm (i j:Int):Prop:=0 < j/\j < 18446744073709551616
section
variable {X:Cx}
theorem K1 {i:Int} (h:i.natAbs < 2 ^ 512):Builtin.Int.intBits i<=2 ^ 20:=by
 unfold Builtin.Int.intBits
 split
 ·exact Nat.zero_le _
 ·next z=>
  have hz:i.natAbs≠0:=by
   intro e
   have:i=0:=by lia
   subst this
   exact z rfl
  have:=(Nat.log2_lt hz).mpr h
  lia
def Sn (i j:Int):Prop:=i.natAbs < 2 ^ 512/\j.natAbs < 2 ^ 512
theorem KH:OpR X (binaryOp .Mult) (rI Sn λi j=>.int (i * j)):=opI λ_ _ _ _ _ _ _ hc q=>mul_int q (IntMulOk.of_bits (K1 hc.1) (K1 hc.2))
theorem M4:OpR X (binaryOp .FloorDiv) (rI Sm λi j=>.int (i / j)):=opI λi j _ _ _ _ _ hc q=>by
 have h1:(0:Int) < j:=hc.1
 exact floordiv_int (by lia) (by rw [Int.fdiv_eq_ediv_of_nonneg i (by lia)];exact q) (.inl (Ln hc.1 hc.2))
end
end L2
namespace F2
open PySem L2 PySem.Spec
noncomputable def My (i j:Int):Bool:=decide (0 < j) && decide (j < 18446744073709551616)
def Ju:=i2C My λi j=>.int (i / j)
theorem Le {K:PySem.W.Frag}:BZ K (rI Sm λi j=>.int (i / j)) Ju:=Fw (λi j h=>by
 unfold My at h
 rw [Bool.and_eq_true,decide_eq_true_eq,decide_eq_true_eq] at h
 exact h) λ_ _ _ _=>.int _
noncomputable def M1 (i j:Int):Bool:=decide (i.natAbs < 2 ^ 512) && decide (j.natAbs < 2 ^ 512)
def Kx:=i2C M1 λi j=>.int (i * j)
theorem I9 {K:PySem.W.Frag}:BZ K (rI Sn λi j=>.int (i * j)) Kx:=Fw (λi j h=>by
 unfold M1 at h
 rw [Bool.and_eq_true] at h
 exact ⟨of_decide_eq_true h.1,of_decide_eq_true h.2⟩) λ_ _ _ _=>.int _
end F2
namespace L2
open PySem PySem.Spec PyProof.Rows
section
variable {X:Cx}
end
section
variable {X:Cx}
def MQ (y:V) (xs:List V):Option Nat:=xs.findIdx? λz=>eqV z y
theorem N3 {x:V}:∀{xs:List V} {us:List Value},Vals xs us->xs.all Fl=true->us.map (eqU x)=xs.map λy=>eqV y x
 | _,_,.nil,_=>rfl
 | y :: xs,u :: us,.cons r t,f=>by
   rw [List.all_cons,Bool.and_eq_true] at f
   rw [List.map_cons,List.map_cons,PB r f.1,N3 t f.2]
def VT (K:PySem.W.Frag):V->List V->Hp->VK->Prop:=λx vs H Q=>∃p xs y j,x = .ref p/\vs=[y]/\SqL K H p xs/\Fl y=true/\xs.all Fl=true/\MQ y xs=some j/\Q (.int (j:Nat)) H
theorem Vo:MtR X "list.index" (VT X.K):=by
 intro pins s Z H x vs v us Q I rx rv h
 obtain ⟨p,xs,y,j,rfl,rfl,hq,fy,fs,hj,q⟩:=h
 cases rx
 obtain ⟨u,rfl,ru⟩:=Fp rv
 obtain ⟨its,r,pl,hz⟩:=I.list hq
 obtain ⟨⟨cl1,dd,dt1,sl⟩,ho,h1,n,h2⟩:=pl.isList
 simp only at h1 h2
 subst h1 h2
 obtain ⟨jl,jt,jn⟩:=List.findIdx?_eq_some_iff_getElem.mp hj
 have hl:=r.length
 have hm:=N3 (x:=y) r fs
 have at_:∀m (h1:m < its.length) (h2:m < xs.length),eqU y its[m]=eqV xs[m] y:=λm h1 h2=>by
  have e1:(its.map (eqU y))[m]?=some (eqU y its[m]):=by rw [List.getElem?_map,List.getElem?_eq_getElem h1];rfl
  have e2:(xs.map λz=>eqV z y)[m]?=some (eqV xs[m] y):=by rw [List.getElem?_map,List.getElem?_eq_getElem h2];rfl
  rw [hm,e2] at e1
  exact (Option.some.inj e1).symm
 have hs:its.toArray.size=its.length:=by simp
 refine call_meets PySem.F.slot_list_index ⟨_,ho,rfl⟩ PySem.F.entry_list_index (PySem.F.args_list_index_2 _ _) (SeqAt.list_indexAt p its.toArray n dd sl u (eqU y) j (by lia) ?_ ?_ ?_) ⟨ho,λw hw=>M0 ru fy r fs w (by simpa using hw),⟨.int (j:Nat),H,I.tok _,⟨_,rfl⟩,q⟩⟩
 ·have:sizeLine < 2 ^ 62:=by decide
  lia
 ·rw [List.getElem_toArray,at_ j (by lia) jl];exact jt
 ·intro m hm' hlt
  rw [List.getElem_toArray,at_ m (by lia) (by lia)]
  simpa using jn m hlt
end
section
variable {X:Cx}
end
end L2
namespace F2
open PySem L2 PySem.Spec
def idxM (f:M D) (g:M (List D)):M D:=bnd f λo=>bnd g λas=>match o,as with
 | .lst ds,[y]=>λt=>if GK y=true/\ds.all GK=true then (match MQ (toV y) (ds.map toV) with
   | some j=>some (.int (j:Nat),t)
   | none=>none) else none
 | _,_=>fail
theorem RE.idxM {K:PySem.W.Frag} {f:M D} {g:M (List D)} {Z:L2.St} {H:Hp} {Q:VK} (q:RE K (F2.idxM f g) Z H Q):tBM K "list" (VT K) (RE K f) (RA K g) Z H Q:=by
 obtain ⟨Oo,c,t,fi,r,t',eq,k⟩:=q
 obtain ⟨d,t1,e1,eq⟩:=Au eq
 obtain ⟨as,t2,e2,eq⟩:=Au eq
 refine ⟨Oo,c,t,fi,d,t1,e1,λv H1 c1 f1 s1 rv=>?_⟩
 split at eq
 ·next ds y=>
  cases rv with
  | @lst p vs ds h1 h2 h3=>
  refine ⟨.inl ⟨rfl,vs,SqL.of h1⟩,Oo,c1,t1,f1,_,t2,e2,λus H2 c2 f2 s2 rus=>?_⟩
  obtain ⟨w,rfl,rw'⟩:=D6 rus
  have rv2:=(Rep.lst h1 h2 h3).mono s2.ext
  cases rv2 with
  | @lst _ ws _ h1 h2 h3=>
  split at eq
  ·next hf=>
   split at eq
   ·next j ej=>
    cases eq
    refine ⟨p,ws,w,j,rfl,rfl,SqL.of h1,?_,?_,?_,k _ _ c2 f2 (s1.trans s2) (.int _)⟩
    ·rw [KM rw' hf.1];exact MM _
    ·rw [IU h3 hf.2,List.all_map,List.all_eq_true];exact λd _=>MM d
    ·rw [KM rw' hf.1,IU h3 hf.2];exact ej
   ·cases eq
  ·cases eq
 ·cases eq
section
variable {X:Cx} {pos:Pos} {e:Expr} {es:List Expr}
theorem Re {o e:Expr} {es:List Expr} {f:M D} {g:M (List D)} {apos cpos:Pos} (ho:PE X o (RE X.K f)) (ha:PA X (e :: es) (RA X.K g))
 (hbase:attributeBase o "index" X.env (eval o X.env)=eval o X.env:=by rfl)
 (hfew:((backTo cpos (starEach (e :: es) X.env)).all (λx=>!x.1) && (backToKw cpos (keywordEach [] X.env)).all (λx=>x.1.isSome) && decide ((e :: es).length + ([]:List Keyword).length + (if ([]:List Keyword).isEmpty then 0 else 1) < 30))=true:=by rfl)
 (hline:(apos.endLine == cpos.line)=true:=by rfl) (hs:starEach (e :: es) X.env=(false,eval e X.env) :: starEach es X.env:=by rfl) (hplain:(backTo cpos (starEach es X.env)).any (·.1)=false:=by rfl) :
 PE X (.Call (.Attribute o "index" apos) (e :: es) [] cpos) (RE X.K (F2.idxM f g)):=
 BN (LM PySem.F.plainAttrs_list PySem.F.slot_list_index PySem.F.type_list_index Vo ho ha hbase hfew hline hs hplain) λ_ _ _ q=>RE.idxM q
end
end F2
namespace L2
open PySem PySem.Spec PyProof.Rows
section
variable {X:Cx}
end
end L2
namespace F2
open PySem L2 PySem.Spec
noncomputable def OO:List (Key×D)->Option (List Int)
 | []=>some []
 | (.inl k,_) :: r=>(OO r).map (k :: ·)
 | _=>none
section
variable {K:PySem.W.Frag} {c:Cf} {H:Hp}
theorem KVR.has {us:List (Key×V)} {kvs:List (Key×D)} (r:KVR K c H us kvs) (k:Key):(Dz us k).isSome=(BI kvs k).isSome:=by
 unfold KVR at r
 induction r with
 | nil=>rfl
 | @cons p q ps qs h t ih=>
   by_cases hk:p.1=k
   ·have hq:q.1=k:=h.1.symm.trans hk
    rw [G4 hk]
    simp [BI,List.find?_cons,hq]
   ·have hq:¬q.1=k:=λz=>hk (h.1.trans z)
    have:BI (q :: qs) k=BI qs k:=by simp [BI,List.find?_cons,hq]
    rw [this,G3 hk]
    exact ih
end
section
variable {X:Cx} {pos:Pos} {e b:Expr}
end
end F2
namespace L2
open PySem PySem.Spec PyProof.Rows
noncomputable def tb (led:Bool) (pl:List Nat):SetTable:={ mask:=7,place:=pl.toArray,dummies:=#[],finger:=0,led:=led,moves:=0,plain:=true }
noncomputable def pls:Nat->List (List Nat)
 | 0=>[[]]
 | k + 1=>(pls k).flatMap λl=>(List.range 8).filterMap λj=>if l.all (· < j) then some (l++[j]) else none
section
variable {P:Program} {w:World} {A:Around} {E:Value->Shared->Prop} {s:Shared}
end
section
variable {P:Program} {w:World} {A:Around} {I:Addr} {fp wr:List Addr} {G:Array GenState->Array GenState->Prop} {n:Nat} {Pr:Nat->Value->Prop} {St:Nat->Shared->Prop}
end
section
variable {P:Program} {w:World} {A:Around} {E:Value->Shared->Prop} {s:Shared}
end
section
variable {prog:Program} {w:World} {A:Around}
end
section
variable {X:Cx}
end
end L2
namespace F2
open PySem L2 PySem.Spec PyProof.Rows
section
variable {X:Cx} {pos:Pos} {e:Expr}
end
end F2
namespace L2
open PySem PySem.Spec PyProof.Rows
section
variable {P:Program} {w:World} {A:Around} {E:Value->Shared->Prop} {s:Shared}
structure ZT (h:Heap) (z TI TO i1 i2 t1 t2:Addr) (n:Nat):Prop where
 zz:IsZip h z TI TO .none
 ti:IsPair h TI (.ref i1) (.ref i2)
 ot:∃a b,IsPair h TO a b
 p1:h.IsTupleIter i1 t1 n
 p2:h.IsTupleIter i2 t2 n
end
section
variable {P:Program} {w:World} {A:Around} {E:Value->Shared->Prop} {s:Shared}
end
def Itz (K:PySem.W.Frag) (a b:Addr):It:=
 ⟨λi H=>∃xs ys x y,SqT K H a xs/\SqT K H b ys/\xs[i]?=some x/\ys[i]?=some y,λi H v H'=>∃p x y,v = .ref p/\H p=none/\(∀xs,SqT K H a xs->xs[i]?=some x)/\(∀ys,SqT K H b ys->ys[i]?=some y)/\H'=upd H p (.tup [x,y]),λi H=>∃xs ys,SqT K H a xs/\SqT K H b ys/\(xs.length<=i\/ys.length<=i)⟩
end L2
namespace F2
open PySem L2 PySem.Spec
noncomputable def Zb:List D->List D->List D
 | x :: xs,y :: ys=>.tup [x,y] :: Zb xs ys
 | _,_=>[]
section
variable {X:Cx} {e a b tg iter elt:Expr} {ifs:List Expr} {pos:Pos} {scope:Scope} {N':List Str} {n:Nat} {fr:List Nat} {f:M (List D)} {st:D->M Unit} {tst:M Bool} {el:M D}
end
section
variable {X:Cx} {elt:Expr} {pos:Pos} {e:Expr} {es:List Expr}
end
end F2
namespace L2
open PySem PySem.Spec PyProof.Rows
section
variable {X:Cx} {pins:List (Addr×Obj)} {Z:St} {H:Hp} {s:Shared} {a:Addr} {kvs:List (Key×V)} {o:Obj}
end
section
variable {X:Cx}
end
section
variable {X:Cx}
end
end L2
namespace F2
open PySem L2 PySem.Spec SeqAt
def G8 (K:PySem.W.Frag) (H:Hp) (v w:V):Prop:=∃c dv dw,Rep K c H v dv/\Rep K c H w dw/\eqN EQD dv dw=some true
def UT (K:PySem.W.Frag) (H:Hp) (v w:V):Prop:=G8 K H v w\/∃a b us ts,v = .ref a/\w = .ref b/\H a=some (.dK us)/\H b=some (.dK ts)/\us.length=ts.length/\(∀kv∈us,∃n:Int,kv.1=Sum.inl n)/\(∀kv∈ts,∃n:Int,kv.1=Sum.inl n)/\∀kv∈us,∃z,Dz ts kv.1=some z/\G8 K H kv.2 z
def Zy (K:PySem.W.Frag) (b:Bool):R2:=λx y H Q=>∃p q vs ws,x = .ref p/\y = .ref q/\H p=some (.lst vs)/\H q=some (.lst ws)/\vs.length=ws.length/\(∀(j:Nat) v w,vs[j]?=some v->ws[j]?=some w->UT K H v w)/\Q (.bl b) H
def alike1 (S:List Ob) (x y:D):Bool:=C3 (EH S x) && C3 (EH S y) && decide (eqN EQD (EH S x) (EH S y)=some true)
def Zk (S:List Ob) (x y:D):Bool:=match x,y with
 | .obj m,.obj n=>match S[m]?,S[n]? with
   | some (.dct kvs),some (.dct lvs)=>kvs.length == lvs.length && (OO kvs).isSome && (OO lvs).isSome && kvs.all (λkv=>match BI lvs kv.1 with | some e=>alike1 S kv.2 e | none=>false)
   | _,_=>alike1 S x y
 | _,_=>alike1 S x y
theorem alike1.to {K:PySem.W.Frag} {c:Cf} {S:List Ob} {H:Hp} (s:SInv K c S H) {v w:V} {x y:D} (rx:Rep K c H v x) (ry:Rep K c H w y) (h:alike1 S x y=true):G8 K H v w:=by
 unfold alike1 at h
 rw [Bool.and_eq_true,Bool.and_eq_true] at h
 exact ⟨c0,_,_,GY s rx h.1.1,GY s ry h.1.2,of_decide_eq_true h.2⟩
theorem KVR.allK {K:PySem.W.Frag} {c:Cf} {H:Hp} {us:List (Key×V)} {kvs:List (Key×D)} (r:KVR K c H us kvs):∀kv∈us,∃q∈kvs,kv.1=q.1/\Rep K c H kv.2 q.2:=by
 unfold KVR at r
 induction r with
 | nil=>intro kv h;cases h
 | @cons p q ps qs h _ ih=>
   intro kv hk
   rcases List.mem_cons.mp hk with rfl | hk
   ·exact ⟨q,List.mem_cons_self,h⟩
   ·obtain ⟨q',m,z⟩:=ih kv hk
    exact ⟨q',List.mem_cons_of_mem _ m,z⟩
end F2
namespace F2
open PySem L2 PySem.Spec
section
variable {X:Cx} {pos:Pos}
end
end F2
namespace L2
open PySem PySem.Spec PyProof.Rows
structure ZL (h:Heap) (z TI TO i1 i2 t1 t2:Addr) (n:Nat):Prop where
 zz:IsZip h z TI TO .none
 ti:IsPair h TI (.ref i1) (.ref i2)
 ot:∃a b,IsPair h TO a b
 p1:h.IsListIter i1 t1 n
 p2:h.IsListIter i2 t2 n
end L2
namespace F2
open PySem L2 PySem.Spec
section
variable {X:Cx} {a b:Expr} {pos:Pos}
end
end F2
namespace L2
open PySem PySem.Spec PyProof.Rows PySem.W
section
variable {prog:Program} {w:World} {A:Around} {h:Heap} {g:Array GenState} {d:Drawn} {t:Nat} {os:OsState} {R:Result->Shared->Prop}
variable {nm q:Str} {C N fI:Addr} {bs bm bmB:List Value} {hdct:Bool} {sn:List Str} {sub:List Value} {ab:Bool} {col:Option Bool} {dd:Option Addr} {k0 k1 k2 k3 k5:Option Value} {B newId initId:String} {mN:Str->Option Value}
abbrev excObj (C tp:Addr):Obj:={ cls:=.ref C,data:=.fields #[.ref tp,.none,.none,.none,.bool false,.none] }
abbrev D5 (h:Heap) (C:Addr) (us:List Value):Heap:=(h.push { cls:=.type "tuple",data:=.seq us.toArray }).push (excObj C h.objs.size)
theorem MY (F:ExcBaseFacts B newId initId bmB) (T:OwnTail h bmB bm) {us:List Value} (hC:h.get? C=some (excClassObj nm q C N bs bm hdct sn sub ab col dd k0 k1 k2 k3 k5 newId)) (hn:h.Ns N mN) (hni:mN "__init__" = some (.ref fI))
 (hb:Looks (model prog w) h (bindSpecial (.ref fI) (.ref (h.objs.size + 1))) (.ref fI,[.ref (h.objs.size + 1)])) (hus:us.length<=sizeLine)
 (hq:codeAny (model prog w) (A.under (.builtin "type.__call__" ⟨.ref C :: us,[]⟩)) (.call (.ref fI) ⟨.ref (h.objs.size + 1) :: us,[]⟩) (InitBack (h.objs.size + 1) R) ⟨D5 h C us,g,d,t,os⟩) :
 codeAny (model prog w) A (.call (.ref C) ⟨us,[]⟩) R ⟨h,g,d,t,os⟩:=by
 have c1:=tc_lookup
 have c2:=tc_bind (.ref C)
 have ty:(⟨h,g,d,t,os⟩:Shared).TypeIs (.ref C) "type":=⟨_,hC,rfl⟩
 refine codeAny_of_tree ?_
 show wpAny _ _ (callAny (.ref C) _) _ _ _
 repeat (any_goals (first
  | assumption
  | with_reducible refine wpAny_loadPart_at hC ?_
  | wp_step))
 refine ⟨rfl,codeAny_call_builtin_at (Code.quiet_builtin _ (by decide +kernel)) entry_typeCall (wpAny_check_type_call_sub hC ?_)⟩
 repeat (first
  | with_reducible refine wpAny_loadPart_at hC ?_
  | with_reducible refine wpAny_madeBy_exc hC ?_
  | wp_step)
 refine codeAny_call_builtin_code (Code.quiet_builtin _ F.quiet) (wpAny_check_new_subT F T hC (codeAny_exc_new_subT F T hC ?_ hus))
 change wpAny _ _ _ _ _ (Shared.mk (D5 h C us) g d t os)
 have kp:∀b o,h.get? b=some o->(D5 h C us).get? b=some o:=λb o e=>Heap.get?_push_of_some _ (Heap.get?_push_of_some _ e)
 have he:(D5 h C us).get? (h.objs.size + 1)=some { cls:=.ref C,data:=.fields #[.ref h.objs.size,.none,.none,.none,.bool false,.none] }:=by heap_get
 have n1:(D5 h C us).Ns N mN:=hn.keeps kp
 have cC:(Value.ref C :: bm).contains (.ref C)=true:=by simp
 unfold isInstance
 repeat (first
  | with_reducible refine wpAny_loadPart_at he ?_
  | (with_reducible refine wpAny_isSubtype_exc (kp _ _ hC) ?_;rw [cC])
  | wp_step)
 show wpAny _ _ (typeLookup (.ref C) _) _ _ _
 refine wpAny_typeLookup_tail (kp _ _ hC) n1 (T.keeps kp) F.mroIs F.init.lookup ?_
 rw [hni]
 refine wpAny_holding (wpAny_bind ((hb.keeps kp).at ?_))
 refine wpAny_bind (wpAny_call (codeAny_mono hq λr s' z=>?_))
 cases r with
 | error e=>exact z
 | ok f=>
   cases f with
   | ret v=>
     obtain ⟨rfl,z⟩:=z
     exact wpAny_pure (wpAny_pure z)
   | _=>exact z.elim
end
end L2
namespace L2
open PySem PySem.Spec PyProof.Rows PySem.W PySem.Builtin PySem.Builtin.ObjectAttr
theorem Qz (self:Value):refuseLoop self "__setattr__" [.type "ValueError",.type "Exception",.type "BaseException",.type "object"]=pure ():=by
 kernel_rfl
abbrev FX (C P:Addr):List Value:=[.ref C,.ref P,.type "ValueError",.type "Exception",.type "BaseException",.type "object"]
theorem JT (self:Value) (C P:Addr):refuseLoop self "__setattr__" (FX C P)=pure ():=by
 rw [FX,refuseLoop_ref,refuseLoop_ref]
 exact Qz self
section
variable {prog:Program} {w:World} {A:Around} {s:Shared} {K:PySem.W.Frag} {x C P tp:Addr} {R:Result->Shared->Prop} {name:Str} {v:Value} {tk:Tok} {cd:ClassData}
theorem T5 (X:K.In s.heap) (hx:s.heap.get? x=some (excObj C tp)) (hc:clsIn K C=some cd) (hmr:cd.mro=FX C P) (ha:findIn K (.ref C) name=some none)
 (h:wpAny (model prog w) A.in1 (storeInOwnDict (.ref x) (.ref C) (.str name tk) name v false) (λfin s'=>match fin with | .done f=>R (.ok f) s' | .again c'=>c'.quiet=true/\codeAny (model prog w) A c' R s') (λe s'=>R (.error e) s') s) :
 codeAny (model prog w) A (.call (.builtin "object.__setattr__") ⟨[.ref x,.str name tk,v],[]⟩) R s:=by
 have SF:=PySem.F.store_object
 have I:InstAt s.heap x (excObj C tp) C none:=⟨hx,rfl,rfl,trivial⟩
 have ob:Looks (model prog w) s.heap (isInstance (.ref x) (.type "object")) true:=I.type.andThen (looks_mroIn X (by unfold mroIn;rw [hc,Option.bind_some,hmr];rfl))
 refine codeAny_call_builtin SF.slot.plain SF.entry (@check_slot (model prog w) _ _ s "object.__setattr__" "object" "__setattr__" (.ref x) [.str name tk,v] [] _ SF.kind SF.split ob (SF.args (.ref x) (.str name tk) v) ?_)
 have mr:Looks (model prog w) s.heap (mroOf (.ref C)) (FX C P):=by rw [<-hmr];exact (looks_clsIn X hc).andThen .now
 rw [osa_eq,refuse_eq]
 refine wpAny_bind (wpAny_bind (I.type.here (wpAny_bind (mr.here ?_))))
 rw [JT]
 refine wpAny_pure (wpAny_bind (I.type.here (wpAny_bind ((looks_findIn X ha).here ?_))))
 exact wpAny_bind (wpAny_pure h)
theorem Uz {E:Value->Shared->Prop} {Q:Unit->Shared->Prop} (X:K.In s.heap) (hx:s.heap.get? x=some (excObj C tp)) (hs:findIn K (.ref C) "__setattr__" = some (some (.builtin "object.__setattr__"))) (hc:clsIn K C=some cd) (hmr:cd.mro=FX C P) (hd:cd.hasDict=true) (ha:findIn K (.ref C) name=some none)
 (h:∀h',(∀b o,b≠x->s.heap.get? b=some o->h'.get? b=some o)->h'.get? x=some { excObj C tp with dict:=some s.heap.objs.size }->h'.Ns1 s.heap.objs.size (λy=>if y=name then some v else none)->Q () { s with heap:=h',toks:=s.toks + 2 }) :
 wpAny (model prog w) A (setAttr (.ref x) name v) Q E s:=by
 have I:InstAt s.heap x (excObj C tp) C none:=⟨hx,rfl,rfl,trivial⟩
 refine set_plain X I hs (T5 (s:={ s with toks:=s.toks + 1 }) X hx hc hmr ha ?_)
 refine wpAny_bind (wpAny_pure (wpAny_bind (wpAny_bind (wpAny_loadPart (s:={ s with toks:=s.toks + 1 }) hx (wpAny_bind (Looks.here (s:={ s with toks:=s.toks + 1 }) (looks_clsIn X hc) ?_))))))
 rw [hd,if_neg (by decide)]
 show wpAny _ _ (alloc _ >>= λdx=>update x _ >>= λ_=>pure (some dx)) _ _ _
 have hx1:(s.heap.push emptyDict).get? x=some (excObj C tp):=Heap.get?_push_of_some _ hx
 have hne:s.heap.objs.size≠x:=Nat.ne_of_gt (Heap.lt_size hx)
 refine wpAny_bind (wpAny_alloc (s:={ s with toks:=s.toks + 1 }) (wpAny_bind (wpAny_update hx1 (wpAny_pure ?_))))
 have hx2:((s.heap.push emptyDict).update x λo=>{ o with dict:=some s.heap.objs.size }).get? x=some { excObj C tp with dict:=some s.heap.objs.size }:=Heap.get?_update_self _ hx1 rfl
 have hk:∀b o,b≠x->s.heap.get? b=some o->((s.heap.push emptyDict).update x λo=>{ o with dict:=some s.heap.objs.size }).get? b=some o:=λb o hb e=>(Heap.get?_update_other _ _ (Ne.symm hb)).trans (Heap.get?_push_of_some _ e)
 have hdx:((s.heap.push emptyDict).update x λo=>{ o with dict:=some s.heap.objs.size }).get? s.heap.objs.size=some emptyDict:=(Heap.get?_update_other _ _ (Ne.symm hne)).trans (Heap.get?_push_size _ rfl)
 have n1:((s.heap.push emptyDict).update x λo=>{ o with dict:=some s.heap.objs.size }).Ns1 s.heap.objs.size λ_=>none:=⟨_,#[],_,hdx,rfl,(λe he=>by simp at he),(by simp [UniqKeys]),λ_=>rfl⟩
 refine wpAny_bind (wpAny_pure (wpAny_bind ?_))
 refine wpAny_nsSet1 n1 λh' n2 sb=>?_
 obtain ⟨oD,esD,epD,hoD,hdD,hcD⟩:=n2.count (PySem.Within.cons name v (ns:=[]) (λy u=>absurd rfl u))
 refine wpAny_bind (wpAny_lookBehind hoD (by rw [hdD];exact pastItsLine_dict (Nat.le_trans hcD (by show 1<=_;decide))) ?_)
 exact wpAny_pure (h h' (λb o hb e=>by
  by_cases hb2:b=s.heap.objs.size
  ·subst hb2;exact absurd (Heap.lt_size e) (Nat.lt_irrefl _)
  ·exact (sb.2 b hb2).trans (hk b o hb e)) ((sb.2 x (Ne.symm hne)).trans hx2) n2)
end
end L2
namespace L2
open PySem PySem.Spec PyProof.Rows PySem.W
variable {qx:Bool}
def XRec (qx:Bool) (h:Heap) (x C:Addr) (dx:Option Addr) (tb:Value):Prop:=∃(o:Obj) (vs:Array Value),h.get? x=some o/\o.cls = .ref C/\o.dict=dx/\o.data = .fields vs/\vs[1]?=some tb/\(qx=true->vs[2]?=some .none/\4 < vs.size)
theorem U6 {qx:Bool} {vs:Array Value} {v:Value} (h:qx=true->vs[2]?=some .none/\4 < vs.size):qx=true->(vs.setIfInBounds 1 v)[2]?=some .none/\4 < (vs.setIfInBounds 1 v).size:=λz=>by
 rw [Array.getElem?_setIfInBounds_ne (by decide),Array.size_setIfInBounds]
 exact h z
theorem XRec.to {qx:Bool} {h:Heap} {x C:Addr} {dx:Option Addr} {tb:Value} (r:XRec true h x C dx tb):XRec qx h x C dx tb:=by
 obtain ⟨o,vs,h1,h2,h3,h4,h5,h6⟩:=r
 exact ⟨o,vs,h1,h2,h3,h4,h5,λ_=>h6 rfl⟩
def XTb (h:Heap) (T:Addr):Prop:=∃(o:Obj) (ts:Array Value),h.get? T=some o/\o.data = .fields ts/\ts[3]?=some .none
structure XKeep (fs ch:List Addr) (h h':Heap):Prop where
 keep:∀b o,b∉ch->b∉fs->h.get? b=some o->h'.get? b=some o
 slot:∀b o,b∉ch->h.get? b=some o->∃sl,h'.get? b=some { o with slots:=sl }
section
variable {M:Model} {A:Around} {E:Value->Shared->Prop} {s:Shared} {env:Env} {outer:List Env} {base:Heap} {L x C:Addr} {dx:Option Addr} {tb:Value} {Q:Unit->Shared->Prop}
theorem FK {o:Obj} {vs:Array Value} (hd:o.data = .fields vs) (f:Array Value->Array Value):(o.mapFields f).data = .fields (f vs)/\(o.mapFields f).cls=o.cls/\(o.mapFields f).dict=o.dict:=by
 obtain ⟨c,d,dt,sl⟩:=o
 cases hd
 exact ⟨rfl,rfl,rfl⟩
end
end L2
namespace L2
open PySem PySem.Spec PyProof.Rows PySem.W
variable {qx:Bool}
abbrev VE:List Value:=[.type "ValueError",.type "Exception",.type "BaseException",.type "object"]
structure XCl (K:PySem.W.Frag) (C:Addr) (bm:List Value):Prop where
 ex:∃cd dd k0 k1 k2 k3 k5,K.lookup C=some { cls:=.type "type",dict:=dd,data:=.cls cd,slots:=#[k0,k1,k2,k3,some (.builtin "ValueError.__new__"),k5] }/\cd.mro = .ref C :: bm/\cd.hasDel=false/\cd.hasDict=true/\nsOkIn K cd.ns=true
 tl:tailIn K VE bm=true
noncomputable def LR (K:PySem.W.Frag) (C:Addr) (bm:List Value):Bool:=tailIn K VE bm && match K.lookup C with
 | some ⟨.type "type",_,.cls cd,sl⟩=>(match sl.toList with
   | [_,_,_,_,some (.builtin n),_]=>n == "ValueError.__new__" && cd.mro == .ref C :: bm && !cd.hasDel && cd.hasDict && nsOkIn K cd.ns
   | _=>false)
 | _=>false
theorem XCl.of_in {K:PySem.W.Frag} {C:Addr} {bm:List Value} (q:LR K C bm=true):XCl K C bm:=by
 unfold LR at q
 rw [Bool.and_eq_true] at q
 refine ⟨?_,q.1⟩
 have q:=q.2
 split at q
 ·rename_i dd cd sl ho
  split at q
  ·rename_i k0 k1 k2 k3 n k5 hs
   simp only [Bool.and_eq_true,beq_iff_eq,Bool.not_eq_true'] at q
   obtain ⟨⟨⟨⟨rfl,h1⟩,h2⟩,h3⟩,h4⟩:=q
   have hsl:sl=#[k0,k1,k2,k3,some (.builtin "ValueError.__new__"),k5]:=by
    cases sl
    exact congrArg Array.mk hs
   exact ⟨cd,dd,k0,k1,k2,k3,k5,by rw [ho,hsl],h1,h2,h3,h4⟩
  ·cases q
 ·cases q
theorem XCl.obj {K:PySem.W.Frag} {C:Addr} {bm:List Value} {h:Heap} (c:XCl K C bm) (X:K.In h):∃nm q N bs sn sub ab col dd k0 k1 k2 k3 k5,h.get? C=some (excClassObj nm q C N bs bm true sn sub ab col dd k0 k1 k2 k3 k5 "ValueError.__new__")/\h.Ns N (h.nsMap N):=by
 obtain ⟨⟨nm,bs,mro,ns,qn,hd,sn,sub,ab,col,del⟩,dd,k0,k1,k2,k3,k5,h1,h2,h3,h4,h5⟩:=c.ex
 dsimp only at h2 h3 h4 h5
 subst h2 h3 h4
 exact ⟨nm,qn,ns,bs,sn,sub,ab,col,dd,k0,k1,k2,k3,k5,X _ _ h1,.of_isNs (isNs_of_in X h5)⟩
theorem XCl.tail {K:PySem.W.Frag} {C:Addr} {bm:List Value} {h:Heap} (c:XCl K C bm) (X:K.In h):OwnTail h VE bm:=tail_of_in X c.tl
theorem XCl.has {K:PySem.W.Frag} {C:Addr} {bm:List Value} {h:Heap} (c:XCl K C bm) (X:K.In h):(Value.ref C :: bm).contains (.type "BaseException")=true:=by
 rw [List.contains_cons,(c.tail X).hasType (b:=true) (by decide +kernel),Bool.or_true]
section
variable {M:Model} {A:Around} {E:Value->Shared->Prop} {env:Env} {K:PySem.W.Frag} {C:Addr} {bm:List Value} {s:Shared}
theorem R4 {t:Sem Value} {Q:Flow->Shared->Prop} (c:XCl K C bm) (hh:A.handled=none)
 (h:wpAny M A t (λv s1=>∃x dx,v = .ref x/\K.In s1.heap/\XRec qx s1.heap x C dx .none/\E v s1) E s):wpAny M A (raiseStmt env (some t) none) Q E s:=by
 unfold raiseStmt
 refine wpAny_bind (wpAny_mono h (λv s1 q=>?_) λ_ _ z=>z)
 obtain ⟨x,dx,rfl,X,⟨o,vs,hx,hc,hd,hdt,h1,_⟩,hE⟩:=q
 obtain ⟨nm,q,N,bs,sn,sub,ab,col,dd,k0,k1,k2,k3,k5,hC,_⟩:=c.obj X
 have hb:=c.has X
 obtain ⟨hp,g,d,tk,os⟩:=s1
 repeat (first
  | (with_reducible refine wpAny_loadPart_at hx ?_;rw [hc])
  | with_reducible refine wpAny_loadPart_at hC ?_
  | (with_reducible refine wpAny_isSubtype_exc hC ?_;rw [hb])
  | with_reducible refine wpAny_field hx hdt h1 ?_
  | wp_step)
 exact wpAny_raiseNew_none hh hE
end
def CX1 (qx:Bool) (P:Program) (w:World):CXT:=λouter H s E e s'=>∃(x C:Addr) (dx:Option Addr) (T:Addr) (H':Hp),e = .ref x/\s'.os=s.os/\AllBare s'.gens/\Un (frs outer) [] H H' s.heap s'.heap/\HOk P w H' s'.heap/\
 H' x=some (.ext (F2.XIs qx x C dx))/\s.heap.objs.size<=x/\s.heap.objs.size<=T/\T≠x/\H' T=none/\XRec qx s'.heap x C dx (.ref T)/\XTb s'.heap T/\E (.ref x) dx H'
theorem XRec.is {h:Heap} {x C:Addr} {dx:Option Addr} {tb:Value} (r:XRec qx h x C dx tb):F2.XIs qx x C dx h:=by
 obtain ⟨o,vs,h1,h2,h3,h4,_,h5⟩:=r
 exact ⟨o,vs,h1,h2,h3,h4,h5⟩
theorem XIs.stay {x C:Addr} {dx:Option Addr} {h1 h2:Heap} (r:F2.XIs qx x C dx h1) (k:∀o,h1.get? x=some o->h2.get? x=some o):F2.XIs qx x C dx h2:=by
 obtain ⟨o,vs,e,q⟩:=r
 exact ⟨o,vs,k o e,q⟩
theorem Jr {P:Program} {w:World} {H:Hp} {h:Heap} {x C:Addr} {dx:Option Addr} (r:F2.XIs qx x C dx h):ObjOk P w H h x (.ext (F2.XIs qx x C dx)):=
 ⟨r,let ⟨o,_,e,_⟩:=r;⟨o,e⟩,λ_ _ q k=>XIs.stay q k⟩
section
variable {X:Cx} {pins:List (Addr×Obj)} {Z:St} {H H':Hp} {s s':Shared} {h':Heap} {x C T:Addr} {dx:Option Addr} {ch:List Addr}
theorem Se (k:XKeep (frs X.stack) ch s.heap h') (hT:∀b∈ch,b=x\/b=T):Un (frs X.stack) (x :: T :: []) H H s.heap h':=by
 have nch:∀b:Addr,b∉(x :: T :: [])->b∉ch:=λb hb z=>hb (by rcases hT b z with rfl | rfl <;> simp)
 refine ⟨λb o e n hb hx=>k.keep b o (nch b hx) hb e,λb o e n hb hx=>k.slot b o (nch b hx) e,λb o e n _=>n,λb o e hx=>?_,λ_ _ e=>e,λ_ _ _ e=>e,λb ps e=>⟨#[],by rw [e];simp⟩⟩
 obtain ⟨sl,q⟩:=k.slot b o (nch b hx) e
 exact ⟨_,q⟩
theorem Inv.left (I:Inv X pins Z H s) (hx:H x=some (.ext (F2.XIs qx x C dx))) (hT:H T=none) (nx:X.s₀.heap.objs.size<=x) (nT:X.s₀.heap.objs.size<=T) (k:XKeep (frs X.stack) ch s.heap h') (hc:∀b∈ch,b=x\/b=T) (r:F2.XIs qx x C dx h')
 (oT:∀y c,X.env.cells.lookup y=some c->c≠T) (lT:T≠X.env.locals) (pT:∀p∈X.pn++pins,p.1≠T):Inv X pins Z H { s with heap:=h' }:=by
 have nfr:∀b u,H b=some u->b∉frs X.stack:=λb u e z=>by rw [I.stkFree b z] at e;cases e
 refine I.call (g':=s.gens) (t':=s.toks) (d':=s.drawn) (ch:=[x,T]) (Se k hc) (λb u e=>?_) I.bare λb hb=>?_
 ·by_cases hb:b=x
  ·subst hb;rw [hx] at e;cases e;exact Jr r
  ·refine (I.hok b u e).stay (λc v hcc q=>k.keep c v ?_ ?_ q) (λ_ q=>q) λ_ _ q=>q
   ·intro z
    rcases hcc with rfl | hcc
    ·rcases hc c z with q | q
     ·exact hb q
     ·rw [q,hT] at e;cases e
    ·rcases hc c z with q | q
     ·rw [q,hx] at hcc;cases hcc
     ·rw [q,hT] at hcc;cases hcc
   ·rcases hcc with rfl | hcc
    ·exact nfr _ _ e
    ·exact nfr _ _ hcc
 ·have q:b=x\/b=T:=by simpa using hb
  rcases q with rfl | rfl
  ·exact ⟨.inr nx,(λz=>by rw [z,I.free] at hx;cases hx),(λy c e z=>by subst z;rw [I.freeC y c e] at hx;cases hx),λp hp z=>by rw [<-z,(I.pin p hp).2.1] at hx;cases hx⟩
  ·exact ⟨.inr nT,lT,oT,pT⟩
theorem Inv.raised (I:Inv X pins Z H s) {E:XK} {e:Value} (q:CX1 qx X.prog X.w X.stack H s E e s'):∃(x C:Addr) (dx:Option Addr) (T:Addr) (H':Hp),e = .ref x/\Inv X pins Z H' s'/\H' x=some (.ext (F2.XIs qx x C dx))/\s.heap.objs.size<=x/\s.heap.objs.size<=T/\T≠x/\H' T=none/\XRec qx s'.heap x C dx (.ref T)/\XTb s'.heap T/\E (.ref x) dx H':=by
 obtain ⟨x,C,dx,T,H',he,os,bare,un,hok,hx,nx,nT,ne,hT,r,tb,q⟩:=q
 obtain ⟨hh,g,d,t,os'⟩:=s'
 obtain rfl:os'=s.os:=os
 exact ⟨x,C,dx,T,H',he,I.call (h':=hh) (g':=g) (d':=d) (t':=t) (ch:=[]) un hok bare (λb z=>absurd z (by simp)),hx,nx,nT,ne,hT,r,tb,q⟩
theorem Inv.newT (I:Inv X pins Z H s) (h:s.heap.objs.size<=T):T≠X.env.locals/\(∀y c,X.env.cells.lookup y=some c->c≠T)/\∀p∈X.pn++pins,p.1≠T:=by
 have far:∀b o,s.heap.get? b=some o->b≠T:=λb o e z=>absurd (Nat.lt_of_lt_of_le (Heap.lt_size e) h) (by rw [z];exact Nat.lt_irrefl _)
 refine ⟨λz=>absurd I.lt (by rw [<-z];exact Nat.not_lt.mpr h),λy c e=>?_,λp hp=>far _ _ (I.pin p hp).1⟩
 obtain ⟨v,o,ho,_⟩:=I.cell y c e
 exact far c o ho
end
section
variable {P:Program} {w:World} {K:PySem.W.Frag} {mg:Str->Option Value} {base:Heap} {N:List Str} {qual:Str} {scope:Scope} {f:Addr} {cd:Value} {A:Around} {outer:List Env} {s₀:Shared} {H₀:Hp} {E:XK}
end
end L2
namespace L2
open PySem PySem.Spec PyProof.Rows PySem.W
noncomputable def exO (x C tp:Addr):HO:=.ext λh=>h.get? x=some (excObj C tp)
noncomputable def F8 (x C tp dx:Addr):HO:=.ext λh=>h.get? x=some { excObj C tp with dict:=some dx }
theorem PC {P:Program} {w:World} {H:Hp} {h:Heap} {x C tp:Addr} (e:h.get? x=some (excObj C tp)):ObjOk P w H h x (exO x C tp):=⟨e,⟨_,e⟩,λ_ _ p k=>k _ p⟩
theorem Tj {P:Program} {w:World} {H:Hp} {h:Heap} {x C tp dx:Addr} (e:h.get? x=some { excObj C tp with dict:=some dx }):ObjOk P w H h x (F8 x C tp dx):=⟨e,⟨_,e⟩,λ_ _ p k=>k _ p⟩
structure XAt (K:PySem.W.Frag) (C P:Addr) (f:Str):Prop where
 cl:XCl K C (.ref P :: VE)
 set:findIn K (.ref C) "__setattr__" = some (some (.builtin "object.__setattr__"))
 no:findIn K (.ref C) f=some none
theorem XCl.cls {K:PySem.W.Frag} {C:Addr} {bm:List Value} (c:XCl K C bm):∃cd,clsIn K C=some cd/\cd.mro = .ref C :: bm/\cd.hasDict=true:=by
 obtain ⟨cd,dd,k0,k1,k2,k3,k5,h1,h2,_,h4,_⟩:=c.ex
 exact ⟨cd,by unfold clsIn;rw [h1],h2,h4⟩
def sXF (K:PySem.W.Frag) (P:Addr) (ta tv:TE) (f:Str):TS:=λD Z H=>tv Z H λy H1=>ta Z H1 λx H2=>∃a C tp,x = .ref a/\H2 a=some (exO a C tp)/\XAt K C P f/\
 ∀dx,H2 dx=none->dx≠a->D.nx Z (upd (upd H2 dx (.xd [(f,y)])) a (F8 a C tp dx))
theorem SI {X:Cx} {P:Addr} {o value:Expr} {ta tv:TE} {f:Str} {pos' pos:Pos} (ha:PE X o ta) (hv:PE X value tv) (hs:swapsWith value (some (.Attribute o f pos')) pos.line X.env=pure false):PS X (.Assign [.Attribute o f pos'] value pos) (sXF X.K P ta tv f):=by
 intro pins s Z H D I h
 refine plainObj_wpAny_Assign_Attribute (thn (hv pins s Z H _ I h) λu s1 ⟨y,H1,I1,ry,q⟩=>thn (ha pins s1 Z H1 _ I1 q) λov s2 ⟨x,H2,I2,rx,a,C,tp,ex,ea,c,q2⟩=>?_) hs
 subst ex
 obtain rfl:ov=Value.ref a:=rx
 obtain ⟨cd,c1,c2,c3⟩:=c.cl.cls
 have hx:s2.heap.get? a=some (excObj C tp):=(I2.hok a _ ea).1
 refine Uz I2.kIn hx c.set c1 c2 c3 c.no λh' k e n=>?_
 have fr:=I2.hok.fresh (Nat.le_refl s2.heap.objs.size)
 have ne:s2.heap.objs.size≠a:=(λz=>by rw [z,ea] at fr;cases fr)
 have nn:∀b u,H2 b=some u->b≠s2.heap.objs.size:=λb u z=>Bi z fr
 have na:∀b u,s2.heap.get? b=some u->H2 b=none->b≠a:=λb u _ z w'=>by rw [w',ea] at z;cases z
 refine ⟨Z,_,I2.un (h':=h') (t':=s2.toks + 2) ⟨λb u e1 e2 _ _=>k b u (na b u e1 e2) e1,λb u e1 e2 _ _=>⟨u.slots,k b u (na b u e1 e2) e1⟩,λb u e1 e2 _=>?_,λb u e1 _=>?_,λb xs e1=>?_,λb o' u e1=>?_,λb ps e1=>⟨#[],?_⟩⟩ λb u e1=>?_,q2 s2.heap.objs.size fr ne⟩
 ·rw [Ar (na b u e1 e2),Ar (Nat.ne_of_lt (Heap.lt_size e1))];exact e2
 ·by_cases hb:b=a
  ·subst hb;exact ⟨_,e⟩
  ·exact ⟨_,k b u hb e1⟩
 ·rw [Ar (λz=>by rw [z,ea] at e1;cases e1),Ar (nn _ _ e1)];exact e1
 ·rw [Ar (λz=>by rw [z,ea] at e1;cases e1),Ar (nn _ _ e1)];exact e1
 ·rw [Ar (λz=>by rw [z,ea] at e1;cases e1),Ar (nn _ _ e1),e1];simp
 ·by_cases hb:b=a
  ·subst hb;rw [Az] at e1;cases e1;exact Tj e
  ·rw [Ar hb] at e1
   by_cases hb2:b=s2.heap.objs.size
   ·subst hb2;rw [Az] at e1;cases e1
    refine ⟨_,n,λg=>?_⟩
    by_cases hg:g=f
    ·subst hg;simp only [List.lookup,beq_self_eq_true,if_true];exact ry
    ·have hgb:(g == f)=false:=beq_eq_false_iff_ne.mpr hg
     simp only [List.lookup,hgb,if_neg hg];trivial
   ·rw [Ar hb2] at e1
    refine (I2.hok b u e1).stay (λz v hz q=>k z v ?_ q) (λz q=>?_) λz xs q=>?_
    ·rcases hz with rfl | hz
     ·exact hb
     ·intro w';rw [w',ea] at hz;cases hz
    ·rw [Ar (λz=>by rw [z,ea] at q;cases q),Ar (nn _ _ q)];exact q
    ·rw [Ar (λz=>by rw [z,ea] at q;cases q),Ar (nn _ _ q)];exact q
variable {qx:Bool}
theorem JI {K:PySem.W.Frag} {h:Heap} {N:Addr} {m:Str->Option Value} {n:Str} {v:Value} (X:K.In h) (G:h.Ns N m) (e:nsIn K N n=some (some v)):m n=some v:=by
 obtain ⟨o,es,ep,ho,hd,_,hf⟩:=G
 unfold nsIn at e
 split at e
 ·next c d es' n' sl q=>
  have z:=X _ _ q
  rw [ho] at z
  cases z
  cases hd
  split at e
  ·next en he=>
   rw [<-hf]
   unfold nsFind findBy
   rw [<-Array.find?_toList,he]
   simpa using e
  ·split at e <;> cases e
 ·cases e
structure XMk (K:PySem.W.Frag) (C P f:Addr):Prop where
 cl:XCl K C (.ref P :: VE)
 init:∃cd,clsIn K C=some cd/\nsIn K cd.ns "__init__" = some (some (.ref f))
 fn:isFn K (.ref f)=true
 kp:keepIn K (.ref C)=true
section
variable {X:Cx} {k:Nat} {f C P:Addr} {fd:FuncData} {pins:List (Addr×Obj)} {Z:St} {H:Hp} {s:Shared} {Q:Value->Shared->Prop} {us:List Value} {vs:List V} {a:Str} {ps:List Str} {v:V} {u:Value}
end
end L2
namespace L2
open PySem PySem.Spec PyProof.Rows PySem.W
variable {qx:Bool}
section
variable {M:Model} {A:Around} {E:Value->Shared->Prop} {K:PySem.W.Frag} {s:Shared} {x C C':Addr} {bm bm':List Value} {dx:Option Addr} {tb:Value}
theorem IF {Q:Bool->Shared->Prop} (c:XCl K C bm) (c':XCl K C' bm') (X:K.In s.heap) (hx:XRec qx s.heap x C dx tb) (h:Q ((Value.ref C :: bm).contains (.ref C')) s):wpAny M A (excMatches (.ref x) (.ref C')) Q E s:=by
 obtain ⟨nm,q,N,bs,sn,sub,ab,col,dd,k0,k1,k2,k3,k5,hC,_⟩:=c.obj X
 obtain ⟨nm',q',N',bs',sn',sub',ab',col',dd',k0',k1',k2',k3',k5',hC',_⟩:=c'.obj X
 have hb:=c'.has X
 obtain ⟨o,vs,ho,hc,hd,hdt,h1⟩:=hx
 obtain ⟨hp,g,d,tk,os⟩:=s
 have ty:(⟨hp,g,d,tk,os⟩:Shared).TypeIs (.ref C') "type":=⟨_,hC',rfl⟩
 have nt:=tc_notTuple
 cases hbb:(Value.ref C :: bm).contains (.ref C') <;> (
  rw [hbb] at h
  unfold excMatches
  repeat (first
   | (with_reducible refine wpAny_loadPart_at ho ?_;rw [hc])
   | with_reducible refine wpAny_loadPart_at hC' ?_
   | (with_reducible refine wpAny_isSubtype_exc hC' ?_;rw [hb])
   | (with_reducible refine wpAny_isSubtype_exc hC ?_;rw [hbb])
   | wp_step)
  exact h)
end
end L2
namespace L2
open PySem PySem.Spec PyProof.Rows PySem.W
variable {qx:Bool}
def Q0 (h:Heap) (T:Addr) (fl:Value):Prop:=∃(o:Obj) (ts:Array Value),h.get? T=some o/\o.data = .fields ts/\ts[3]?=some fl
section
variable {M:Model} {A:Around} {E:Value->Shared->Prop} {s:Shared} {env:Env} {outer:List Env} {base:Heap} {L x C:Addr} {dx:Option Addr} {tb:Value} {Q:Unit->Shared->Prop}
theorem K5 {hadNext:Bool} {hd:Value} (hfr:A.frames=some (env :: outer)) (hl:s.heap.FunFrames base (env :: outer)) (hf:env.frame=some L) (hx:XRec qx s.heap x C dx tb)
 (h:∀h' T,s.heap.objs.size<=T->T≠x->XRec qx h' x C dx (.ref T)->Q0 h' T (rawInt L)->XKeep (frs (env :: outer)) [x] s.heap h'->Q () { s with heap:=h' }) :
 wpAny M A (do let fo <-frameOf env;let at' <-entryPlaceOf L hadNext;let en <-EntryCells.newEntry hd fo .none (rawInt L) .none at';setField (.ref x) 1 en) Q E s:=by
 obtain ⟨ox,vs,gx,cx,dxe,dtx,tbx,xc⟩:=hx
 have v1:1 < vs.size:=(Array.getElem?_eq_some_iff.mp tbx).1
 have nfr:x∉frs (env :: outer):=λz=>by
  obtain ⟨_,o2,g2,n2⟩:=hl.mem z
  rw [gx] at g2;cases g2
  exact n2 vs dtx
 refine wpAny_bind (wpAny_frameOf_fun hfr hl hf λh1 so=>?_)
 refine wpAny_bind (wpAny_entryPlaceOf λat' ip=>?_)
 unfold EntryCells.newEntry newFields
 refine wpAny_bind (wpAny_newObj_type ?_ (ip.sizeOk5 _ _ _ _ _))
 generalize hne:(Obj.mk (Value.type "traceback") none (Data.fields ([hd,Value.ref L,Value.none,rawInt L,Value.none]++if at'.isEmpty=true then List.replicate 6 Value.none else at').toArray) #[])=nob
 have dn:nob.data = .fields ([hd,Value.ref L,Value.none,rawInt L,Value.none]++if at'.isEmpty=true then List.replicate 6 Value.none else at').toArray:=by rw [<-hne]
 have gx1:h1.get? x=some ox:=(so.2.1 x nfr).trans gx
 have gx2:(h1.push nob).get? x=some ox:=Heap.get?_push_of_some _ gx1
 have nex:h1.objs.size≠x:=Nat.ne_of_gt (Heap.lt_size gx1)
 refine wpAny_setField gx2 dtx v1 ?_
 obtain ⟨m1,m2,m3⟩:=FK dtx (·.setIfInBounds 1 (Value.ref h1.objs.size))
 have gx3:=Heap.get?_update_self (Obj.mapFields (·.setIfInBounds 1 (Value.ref h1.objs.size))) gx2 (Obj.isFreed_of_fields m1)
 have gT2:(h1.push nob).get? h1.objs.size=some nob:=Heap.get?_push_size h1 (Obj.isFreed_of_fields dn)
 have gT3:=(Heap.get?_update_other (h1.push nob) (Obj.mapFields (·.setIfInBounds 1 (Value.ref h1.objs.size))) (Ne.symm nex)).trans gT2
 have vx:(vs.setIfInBounds 1 (Value.ref h1.objs.size))[1]?=some (.ref h1.objs.size):=by simp [v1]
 have old:∀b o,b≠x->h1.get? b=some o->((h1.push nob).update x (Obj.mapFields (·.setIfInBounds 1 (Value.ref h1.objs.size)))).get? b=some o:=λb o hb e=>by
  rw [Heap.get?_update_other _ _ (Ne.symm hb)]
  exact Heap.get?_push_of_some _ e
 refine h _ h1.objs.size (Nat.le_of_eq so.1.symm) nex ⟨_,_,gx3,m2.trans cx,m3.trans dxe,m1,vx,U6 xc⟩ ⟨_,_,gT3,dn,?_⟩ ⟨λb o hb hbf e=>old b o (λz=>hb (by simp [z])) ((so.2.1 b hbf).trans e),λb o hb e=>?_⟩
 ·rw [List.getElem?_toArray];rfl
 ·obtain ⟨sl,e1⟩:=so.2.2 b o e
  exact ⟨sl,old b _ (λz=>hb (by simp [z])) e1⟩
end
structure XOn (qx:Bool) (X:Cx) (pins:List (Addr×Obj)) (H:Hp) (s:Shared) (x C:Addr) (dx:Option Addr) (T:Option Addr) (fl:Value):Prop where
 hx:H x=some (.ext (F2.XIs qx x C dx))
 nx:X.s₀.heap.objs.size<=x
 rc:XRec qx s.heap x C dx (match T with | some a=>.ref a | none=>.none)
 tb:∀a,T=some a->a≠x/\H a=none/\X.s₀.heap.objs.size<=a/\(a≠X.env.locals/\(∀y c,X.env.cells.lookup y=some c->c≠a)/\∀p∈X.pn++pins,p.1≠a)/\Q0 s.heap a fl
 fo:fl = .none\/fl=rawInt X.env.locals
section
variable {M:Model} {A:Around} {Er:Value->Shared->Prop} {X:Cx} {pins:List (Addr×Obj)} {Z:St} {H:Hp} {s:Shared} {x C:Addr} {dx T:Option Addr} {fl:Value} {Q:Unit->Shared->Prop}
theorem Ep (fr:Option Addr) (I:Inv X pins Z H s) {a:Addr} (o:XOn qx X pins H s x C dx (some a) fl) (hfr:fr=none\/fr=some X.env.locals)
 (k:∀h',Inv X pins Z H { s with heap:=h' }->XOn qx X pins H { s with heap:=h' } x C dx (some a) (fr.elim Value.none λf=>rawInt f)->Q () { s with heap:=h' }):wpAny M A (setFlight (.ref x) fr) Q Er s:=by
 obtain ⟨ox,vs,gx,cx,dxe,dtx,tbx,xc⟩:=id o.rc
 obtain ⟨ne,hT,nT,oT,ot,ts,gT,dT,t3⟩:=o.tb a rfl
 unfold setFlight
 refine wpAny_bind (wpAny_field gx dtx tbx ?_)
 rw [if_pos (show (Value.ref a != Value.none)=true from rfl)]
 refine wpAny_setField gT dT (Array.getElem?_eq_some_iff.mp t3).1 ?_
 obtain ⟨m1,m2,m3⟩:=FK dT (·.setIfInBounds 3 (fr.elim Value.none λf=>rawInt f))
 have gT2:=Heap.get?_update_self (Obj.mapFields (·.setIfInBounds 3 (fr.elim Value.none λf=>rawInt f))) gT (Obj.isFreed_of_fields m1)
 have oth:∀b,b≠a->(s.heap.update a (Obj.mapFields (·.setIfInBounds 3 (fr.elim Value.none λf=>rawInt f)))).get? b=s.heap.get? b:=λb z=>Heap.get?_update_other _ _ (Ne.symm z)
 have rc':XRec qx (s.heap.update a (Obj.mapFields (·.setIfInBounds 3 (fr.elim Value.none λf=>rawInt f)))) x C dx (.ref a):=⟨ox,vs,(oth x (Ne.symm ne)).trans gx,cx,dxe,dtx,tbx,xc⟩
 refine k _ (I.left o.hx hT o.nx nT (ch:=[a]) ⟨λb u hb _ e=>(oth b (by simpa using hb)).trans e,λb u hb e=>⟨u.slots,(oth b (by simpa using hb)).trans e⟩⟩ (λb hb=>.inr (by simpa using hb)) rc'.is oT.2.1 oT.1 oT.2.2) ⟨o.hx,o.nx,rc',λa' e=>?_,?_⟩
 ·cases e
  exact ⟨ne,hT,nT,oT,_,_,gT2,m1,by rw [Array.getElem?_setIfInBounds_self,if_pos (Array.getElem?_eq_some_iff.mp t3).1]⟩
 ·rcases hfr with rfl | rfl
  ·exact .inl rfl
  ·exact .inr rfl
theorem FN (hA:A.frames=some X.stack) (I:Inv X pins Z H s) (hs:X.stack=X.env :: X.outer) (hf:X.env.frame=some X.env.locals) (o:XOn qx X pins H s x C dx T fl)
 (k:∀h' a,Inv X pins Z H { s with heap:=h' }->XOn qx X pins H { s with heap:=h' } x C dx (some a) (rawInt X.env.locals)->Q () { s with heap:=h' }):wpAny M A (noteFrame (.ref x) X.env) Q Er s:=by
 obtain ⟨ox,vs,gx,cx,dxe,dtx,tbx,xc⟩:=id o.rc
 have fin:∀(s1:Shared) (hh:∃h1,s1 = { s with heap:=h1 }) (ch:List Addr) (h':Heap) (a:Addr),Inv X pins Z H s1->s1.heap.objs.size<=a->a≠x->XRec qx h' x C dx (.ref a)->Q0 h' a (rawInt X.env.locals)->XKeep (frs (X.env :: X.outer)) [x] s1.heap h'->Q () { s1 with heap:=h' }:=by
  rintro s1 ⟨h1,rfl⟩ ch h' a I1 l1 l2 l3 l4 l5
  obtain ⟨o1,o2,o3⟩:=I1.newT l1
  have J:=I1.left o.hx (I1.hok.fresh l1) o.nx (Nat.le_trans I1.sz l1) (ch:=[x]) (hs ▸ l5) (λb hb=>.inl (by simpa using hb)) l3.is o2 o1 o3
  exact k h' a J ⟨o.hx,o.nx,l3,λa' e=>by cases e;exact ⟨l2,I1.hok.fresh l1,Nat.le_trans I1.sz l1,⟨o1,o2,o3⟩,l4⟩,.inr rfl⟩
 unfold noteFrame
 simp only [hf]
 refine wpAny_bind (wpAny_field gx dtx tbx ?_)
 cases T with
 | none=>
   rw [if_neg (by decide)]
   exact K5 (hA.trans (congrArg some hs)) (hs ▸ I.stack) hf o.rc λh' a l1 l2 l3 l4 l5=>fin s ⟨s.heap,rfl⟩ [] h' a I l1 l2 l3 l4 l5
 | some T₀=>
   obtain ⟨ne,hT,nT,oT,ot,ts,gT,dT,t3⟩:=o.tb T₀ rfl
   rw [if_pos (show (Value.ref T₀ != Value.none)=true from rfl)]
   refine wpAny_bind (wpAny_field gT dT t3 ?_)
   rcases o.fo with rfl | rfl
   ·rw [if_neg (show ¬((Value.none == rawInt X.env.locals)=true) from by simp [rawInt])]
    refine wpAny_bind (wpAny_setField gT dT (Array.getElem?_eq_some_iff.mp t3).1 ?_)
    have oth:∀b,b≠T₀->(s.heap.update T₀ (Obj.mapFields (·.setIfInBounds 3 Value.none))).get? b=s.heap.get? b:=λb z=>Heap.get?_update_other _ _ (Ne.symm z)
    have rc':XRec qx (s.heap.update T₀ (Obj.mapFields (·.setIfInBounds 3 Value.none))) x C dx (.ref T₀):=⟨ox,vs,(oth x (Ne.symm ne)).trans gx,cx,dxe,dtx,tbx,xc⟩
    have J:=I.left o.hx hT o.nx nT (ch:=[T₀]) ⟨λb u hb _ e=>(oth b (by simpa using hb)).trans e,λb u hb e=>⟨u.slots,(oth b (by simpa using hb)).trans e⟩⟩ (λb hb=>.inr (by simpa using hb)) rc'.is oT.2.1 oT.1 oT.2.2
    exact K5 (s:={ s with heap:=s.heap.update T₀ (Obj.mapFields (·.setIfInBounds 3 Value.none)) }) (hA.trans (congrArg some hs)) (hs ▸ J.stack) hf rc' λh' a l1 l2 l3 l4 l5=>fin _ ⟨_,rfl⟩ [] h' a J l1 l2 l3 l4 l5
   ·rw [if_pos (show (rawInt X.env.locals == rawInt X.env.locals)=true from by first | (simp;done) | exact beq_self_eq_true _)]
    exact wpAny_pure (k s.heap T₀ I ⟨o.hx,o.nx,o.rc,o.tb,.inr rfl⟩)
end
def XE (qx:Bool) (X:Cx) (E:St->XK):Value->Shared->Prop:=λe s=>∃pins Z H x C dx T fl,e = .ref x/\Inv X pins Z H s/\XOn qx X pins H s x C dx T fl/\E Z (.ref x) dx H
def Fr (CX:CXT) (X:Cx) (E:St->XK):Prop:=∀(pins:List (Addr×Obj)) (Z:St) (H:Hp) (s:Shared) (e:Value) (s':Shared),Inv X pins Z H s->CX X.stack H s (E Z) e s'->X.xe e s'
section
variable {M:Model} {X:Cx} {E:St->XK}
theorem XE.own (hs:X.stack=X.env :: X.outer) (hf:X.env.frame=some X.env.locals):PassesOwn M X.A X.env (XE qx X E):=by
 rintro e s ⟨pins,Z,H,x,C,dx,T,fl,rfl,I,o,q⟩
 refine FN I.ok.frames I hs hf o λh' a I' o'=>?_
 obtain ⟨ox,vs,gx,cx,dxe,dtx,tbx,xc⟩:=id o'.rc
 unfold cameBackBy
 refine wpAny_bind (wpAny_field gx dtx tbx ?_)
 rw [if_neg (show ¬((Value.ref a == Value.none)=true) from by intro z;cases z)]
 rw [hf]
 exact Ep _ I' o' (.inr rfl) λh'' I'' o''=>⟨pins,Z,H,x,C,dx,some a,_,rfl,I'',o'',q⟩
theorem XE.pass:Fr (CX1 qx X.prog X.w) (X.wish (XE qx X E)) E:=by
 intro pins Z H s e s' I q
 obtain ⟨x,C,dx,T,H',rfl,J,hx,nx,nT,ne,hT,r,tb,q⟩:=I.unwish.raised q
 exact ⟨pins,Z,H',x,C,dx,some T,.none,rfl,J,⟨hx,Nat.le_trans I.sz nx,r,λa e=>by cases e;exact ⟨ne,hT,Nat.le_trans I.sz nT,I.unwish.newT nT,tb⟩,.inl rfl⟩,q⟩
end
section
variable {P:Program} {w:World} {K:PySem.W.Frag} {mg:Str->Option Value} {base:Heap}
abbrev cxX (qx:Bool) (P:Program) (w:World) (K:PySem.W.Frag) (mg:Str->Option Value) (base:Heap) (N:List Str) (qual:Str) (scope:Scope) (f:Addr) (cd:Value) (A:Around) (outer:List Env) (s:Shared) (H:Hp) (E:XK):Cx:=
 (DH (CX1 qx P w) P w K mg base N qual scope f cd A outer s H E).wish (XE qx (DH (CX1 qx P w) P w K mg base N qual scope f cd A outer s H E) λ_=>E)
theorem XE.leaves {N:List Str} {qual:Str} {scope:Scope} {f:Addr} {cd:Value} {A:Around} {outer:List Env} {s₀:Shared} {H₀:Hp} {E:XK} {e:Value} {s:Shared}
 (h:XE qx (DH (CX1 qx P w) P w K mg base N qual scope f cd A outer s₀ H₀ E) (λ_=>E) e s):(DH (CX1 qx P w) P w K mg base N qual scope f cd A outer s₀ H₀ E).xe e s:=by
 obtain ⟨pins,Z,H,x,C,dx,T,fl,rfl,I,o,q⟩:=h
 refine wpAny_bind (FN I.ok.frames I rfl rfl o λh' a I' o'=>?_)
 refine Ep none I' o' (.inl rfl) λh'' I'' o''=>?_
 obtain ⟨ne,hT,nT,oT,tb⟩:=o''.tb a rfl
 exact ⟨x,C,dx,a,H,rfl,I''.os,I''.bare,I''.base,I''.hok,o''.hx,o''.nx,nT,ne,hT,o''.rc,tb,q⟩
theorem Fun.okX {x qual:Str} {st:Stmt} {f:Addr} {fd:FuncData} {N ps:List Str} {k:Nat} {sp:Sp} (F:Fun K x qual st f fd) (S:FnScope N ps (Ao st)) (len:∀vs H Q E,sp vs H Q E->vs.length=ps.length)
 (hbody:∀(cdv:Value) (A:Around) (outer:List Env) (s:Shared) (H:Hp) (vs:List V) (Q:VK) (E:XK),Room k (A.deeper (envOfC qual (Ao st) s.heap.objs.size f cdv))->sp vs H Q E->
   ∃t,PSs (cxX qx P w K mg base N qual (Ao st) f cdv A outer s H E) (B9 st) t/\t { nx:=λ_ H'=>Q .non H',rt:=Q } (C8 N vs) H):FnOk P w K mg base (CX1 qx P w) (k + 1) f fd ps sp:=by
 obtain ⟨oc,od,kV,doc,pm,an,cdv,ct,osl,rfl,lk,hcd⟩:=F.ex
 refine SC lk hcd S len λA outer s H vs Q E hr hsp=>?_
 obtain ⟨t,h,q⟩:=hbody cdv A outer s H vs Q E hr hsp
 exact ⟨t,λpins s1 Z H1 D I hw=>wpAny_mono (h pins s1 Z H1 D (I.wish _) hw) (λ_ _ q=>q.unwish) λ_ _ z=>z.leaves,q⟩
theorem FnOk.calm {k:Nat} {f:Addr} {fd:FuncData} {ps:List Str} {sp sp':Sp} (F:FnOk P w K mg base (CX1 qx P w) k f fd ps sp) (h:∀vs H Q E,sp' vs H Q E->sp vs H Q E0):FnOk P w K mg base CX0 k f fd ps sp':=by
 refine ⟨λvs H Q E q=>F.len vs H Q E0 (h _ _ _ _ q),λA outer s H args us vs Q E hr he hb hv hs=>codeAny_mono (F.run A outer s H args us vs Q E0 hr he hb hv (h _ _ _ _ hs)) λr s' q=>?_⟩
 cases r with
 | error e=>obtain ⟨_,_,_,_,_,_,_,_,_,_,_,_,_,_,_,_,_,z⟩:=q;exact z.elim
 | ok fl=>cases fl <;> exact q
end
section
variable {X:Cx} {CX:CXT} {k:Nat} {f:Addr} {fd:FuncData} {ps:List Str} {sp:Sp} {E:St->XK} {x:Str} {p pos:Pos} {e:Expr} {es:List Expr} {t:TA}
def Wk (sp:Sp) (E:St->XK) (t:TA):TE:=λZ H Q=>t Z H λvs H1=>sp vs H1 Q (E Z)
theorem RD (F:FnOk X.prog X.w X.K X.mg X.base CX k f fd ps sp) (hr:Room k X.A) (hg:Gl X x) (hm:X.mg x=some (.ref f)) (hk:PySem.W.keepIn X.K (.ref f)=true) (hb:Binds X.K fd ps []) (hx:Fr CX X E)
 (ha:PA X (e :: es) t) (hdb:(x == ("__debug__" : Str))=false:=by decide) (he:starEach (e :: es) X.env=(false,eval e X.env) :: starEach es X.env:=by rfl) (hpl:(backTo pos (starEach es X.env)).any (·.1)=false:=by rfl) :
 PE X (.Call (.Name x p) (e :: es) [] pos) (Wk sp E t):=by
 intro pins s Z H Q I h
 refine wpAny_Call_Name_kw (DO I hg hm ?_ hdb)
 refine PySem.W.callWith_K (h₀:=X.base) I.ok.mod.kin hk (thn (ha pos pins s Z H _ I h) λus s1 ⟨vs,H1,I1,r,q⟩=>⟨I1.kIn,?_⟩) he hpl
 have hl:(us++[]).length=ps.length:=by rw [List.append_nil,<-r.length];exact F.len _ _ _ _ q
 refine wpAny_call (codeAny_mono (F.run X.A X.stack s1 H1 ⟨us,[]⟩ us vs Q (E Z) hr I1.env0 (by have:=hb s1 us I1.kIn hl;rwa [List.append_nil] at this) r q) λr s' hq=>?_)
 cases r with
 | error e=>exact hx pins Z H1 s1 e s' I1 hq
 | ok fl=>
   cases fl with
   | ret u=>exact I1.after hq
   | next=>exact False.elim hq
   | brk=>exact False.elim hq
   | cont=>exact False.elim hq
end
end L2
namespace L2
open PySem PySem.Spec PyProof.Rows PySem.W
variable {qx:Bool}
def PM (qx:Bool) (X:Cx) (e:Expr) (C:Addr) (t:St->Hp->(Addr->Option Addr->Hp->Prop)->Prop):Prop:=
 ∀(pins:List (Addr×Obj)) (s:Shared) (Z:St) (H:Hp) (Q:Addr->Option Addr->Hp->Prop),Inv X pins Z H s->t Z H Q->
  wpAny (model X.prog X.w) X.A (eval e X.env) (λv s1=>∃x dx H1,v = .ref x/\Inv X pins Z H1 s1/\H1 x=some (.ext (F2.XIs qx x C dx))/\X.s₀.heap.objs.size<=x/\XRec true s1.heap x C dx .none/\Q x dx H1) X.xe s
def Gf (qx:Bool) (X:Cx) (E:St->XK):Prop:=∀(pins:List (Addr×Obj)) (Z:St) (H:Hp) (s:Shared) (x C:Addr) (dx:Option Addr),Inv X pins Z H s->XOn qx X pins H s x C dx none .none->E Z (.ref x) dx H->X.xe (.ref x) s
theorem XE.raises {X:Cx} {E:St->XK}:Gf qx (X.wish (XE qx X E)) E:=λpins Z H s x C dx I o q=>⟨pins,Z,H,x,C,dx,none,.none,rfl,I.unwish,⟨o.hx,o.nx,o.rc,o.tb,o.fo⟩,q⟩
theorem Nb {X:Cx} {e:Expr} {C:Addr} {bm:List Value} {t:St->Hp->(Addr->Option Addr->Hp->Prop)->Prop} {E:St->XK} {pos:Pos} (hc:X.calm=true) (c:XCl X.K C bm) (hx:Gf qx X E) (h:PM qx X e C t)
 (ho:evalOpt (some e) X.env=some (eval e X.env):=by rfl):PS X (.Raise (some e) none pos) (λ_ Z H=>t Z H λx dx H1=>E Z (.ref x) dx H1):=by
 intro pins s Z H D I q
 rw [arm_exec_Raise,ho]
 refine wpAny_bind (wpAny_standAt ?_)
 refine R4 (qx:=true) c (I.ok.hd hc) ?_
 refine wpAny_bind (wpAny_mono (h pins s Z H _ I q) (λv s1 ⟨x,dx,H1,e1,I1,hx1,nx,r,q1⟩=>?_) λ_ _ z=>z)
 subst e1
 refine wpAny_bind (wpAny_standAt (wpAny_pure ⟨x,dx,rfl,I1.kIn,r,hx pins Z H1 s1 x C dx I1 ⟨hx1,nx,r.to,(λa e=>by cases e),.inl rfl⟩ q1⟩))
theorem OT {K:PySem.W.Frag} {h:Heap} {N:Addr} {m:Str->Option Value} {n:Str} (X:K.In h) (G:h.Ns N m) (e:nsIn K N n=some none):m n=none:=by
 obtain ⟨o,es,ep,ho,hd,_,hf⟩:=G
 unfold nsIn at e
 split at e
 ·next c d es' n' sl q=>
  have z:=X _ _ q
  rw [ho] at z
  cases z
  cases hd
  split at e
  ·cases e
  ·next he=>rw [<-hf];unfold nsFind findBy;rw [<-Array.find?_toList,he];rfl
 ·cases e
section
variable {prog:Program} {w:World} {A:Around} {E:Value->Shared->Prop} {h:Heap} {g:Array GenState} {d:Drawn} {t:Nat} {os:OsState} {Q:Value->Shared->Prop}
variable {nm q:Str} {C N:Addr} {bs bm bmB:List Value} {hdct:Bool} {sn:List Str} {sub:List Value} {ab:Bool} {col:Option Bool} {dd:Option Addr} {k0 k1 k2 k3 k5:Option Value} {B newId initId:String} {mN:Str->Option Value}
theorem Qc (F:ExcBaseFacts B newId initId bmB) (T:OwnTail h bmB bm) {us:List Value} (hC:h.get? C=some (excClassObj nm q C N bs bm hdct sn sub ab col dd k0 k1 k2 k3 k5 newId)) (hn:h.Ns N mN) (hni:mN "__init__" = none) (hus:us.length<=sizeLine)
 (hq:∀h' tp,(∀b o,h.get? b=some o->h'.get? b=some o)->h'.get? (h.objs.size + 1)=some (excObj C tp)->Q (.ref (h.objs.size + 1)) ⟨h',g,d,t,os⟩) :
 wpAny (model prog w) A (call (.ref C) us) Q E ⟨h,g,d,t,os⟩:=by
 have c1:=tc_lookup
 have c2:=tc_bind (.ref C)
 have ty:(⟨h,g,d,t,os⟩:Shared).TypeIs (.ref C) "type":=⟨_,hC,rfl⟩
 refine wpAny_call (codeAny_of_tree ?_)
 show wpAny _ _ (callAny (.ref C) _) _ _ _
 repeat (any_goals (first
  | assumption
  | with_reducible refine wpAny_loadPart_at hC ?_
  | wp_step))
 refine ⟨rfl,codeAny_call_builtin_at (Code.quiet_builtin _ (by decide +kernel)) entry_typeCall (wpAny_check_type_call_sub hC ?_)⟩
 repeat (first
  | with_reducible refine wpAny_loadPart_at hC ?_
  | with_reducible refine wpAny_madeBy_exc hC ?_
  | wp_step)
 refine codeAny_call_builtin_code (Code.quiet_builtin _ F.quiet) (wpAny_check_new_subT F T hC (codeAny_exc_new_subT F T hC ?_ hus))
 change wpAny _ _ _ _ _ (Shared.mk (D5 h C us) g d t os)
 have kp:∀b o,h.get? b=some o->(D5 h C us).get? b=some o:=λb o e=>Heap.get?_push_of_some _ (Heap.get?_push_of_some _ e)
 have he:(D5 h C us).get? (h.objs.size + 1)=some { cls:=.ref C,data:=.fields #[.ref h.objs.size,.none,.none,.none,.bool false,.none] }:=by heap_get
 have n1:(D5 h C us).Ns N mN:=hn.keeps kp
 have cC:(Value.ref C :: bm).contains (.ref C)=true:=by simp
 unfold isInstance
 repeat (first
  | with_reducible refine wpAny_loadPart_at he ?_
  | (with_reducible refine wpAny_isSubtype_exc (kp _ _ hC) ?_;rw [cC])
  | wp_step)
 show wpAny _ _ (typeLookup (.ref C) _) _ _ _
 refine wpAny_typeLookup_tail (kp _ _ hC) n1 (T.keeps kp) F.mroIs F.init.lookup ?_
 rw [hni]
 refine wpAny_holding (wpAny_bind (wpAny_of_eq (F.init.bind _) (wpAny_bind (wpAny_call (codeAny_call_builtin F.init.plain F.initEntry (wpAny_check_init_subT F (T.keeps kp) (kp _ _ hC) he rfl ?_))))))
 wp_walk
 refine hq _ ((D5 h C us).objs.size) (λb o hb=>?_) ?_
 ·rw [Heap.get?_update_other _ _ (Nat.ne_of_gt (Nat.lt_succ_of_lt (Heap.lt_size hb)))]
  exact Heap.get?_push_of_some _ (kp b o hb)
 ·rw [Heap.get?_update_self _ (Heap.get?_push_of_some _ he) rfl]
  rfl
end
section
variable {X:Cx} {k:Nat} {f C P:Addr} {fd:FuncData} {a:Str} {ps:List Str} {n:Str} {p pos:Pos} {e:Expr} {es:List Expr}
theorem Ud {t:TA} {bm:List Value} {cd:ClassData} (c:XCl X.K C bm) (hk:keepIn X.K (.ref C)=true) (hcd:clsIn X.K C=some cd) (hni:nsIn X.K cd.ns "__init__" = some none) (hg:Gl X n) (hm:X.mg n=some (.ref C)) (ha:PA X (e :: es) t)
 (hdb:(n == ("__debug__" : Str))=false:=by decide) (h1:starEach (e :: es) X.env=(false,eval e X.env) :: starEach es X.env:=by rfl) (hpl:(backTo pos (starEach es X.env)).any (·.1)=false:=by rfl) :
 PM qx X (.Call (.Name n p) (e :: es) [] pos) C (λZ H Q=>t Z H λvs H1=>vs.length<=1000/\∀x,H1 x=none->Q x none (upd H1 x (.ext (F2.XIs qx x C none)))):=by
 intro pins s Z H Q I h
 refine wpAny_Call_Name_kw (DO I hg hm ?_ hdb)
 refine PySem.W.callWith_K (h₀:=X.base) I.ok.mod.kin hk (thn (ha pos pins s Z H _ I h) λus s1 ⟨vs,H1,I1,r,hl,q⟩=>⟨I1.kIn,?_⟩) h1 hpl
 obtain ⟨nm,q',N,bs,sn,sub,ab,col,dd,k0,k1,k2,k3,k5,hC,hN⟩:=c.obj I1.kIn
 have hni':s1.heap.nsMap N "__init__" = none:=by
  unfold clsIn at hcd
  split at hcd
  ·next l=>
   cases hcd
   have z:=I1.kIn _ _ l
   rw [hC] at z
   cases z
   exact OT I1.kIn hN hni
  ·cases hcd
 obtain ⟨hh,g,d,tk,os⟩:=s1
 refine Qc PySem.F.excBase_ValueError (c.tail I1.kIn) hC hN hni' (by show us.length<=sizeLine;rw [<-r.length];exact Nat.le_trans hl (by decide)) λh' tp kp ht=>?_
 have xr:XRec true h' (hh.objs.size + 1) C none .none:=⟨_,_,ht,rfl,rfl,rfl,rfl,λ_=>⟨rfl,by show 4 < 6;decide⟩⟩
 exact ⟨_,none,_,rfl,I1.laid (h':=h') (t':=tk) kp (Nat.le_succ _) (Jr xr.to.is),Az,Nat.le_trans I1.sz (Nat.le_succ _),xr,q _ (I1.hok.fresh (Nat.le_succ _))⟩
end
end L2
namespace L2
open PySem PySem.Spec PyProof.Rows PySem.W
variable {qx:Bool}
abbrev Cx.mark (X:Cx) (x:Addr):Cx:={ X with A:=X.A.mark (some (.ref x)),calm:=false,xe:=λ_ _=>False }
section
variable {X:Cx} {pins:List (Addr×Obj)} {Z:St} {H:Hp} {s:Shared} {D:Ends}
theorem Inv.mark (I:Inv X pins Z H s) (x:Addr):Inv (X.mark x) pins Z H s:=
 ⟨⟨I.ok.mod,I.ok.kind,I.ok.glob,I.ok.blt,I.ok.above,I.ok.inj,I.ok.has,I.ok.cab,(λz=>by cases z),I.ok.frames,I.ok.stk,I.ok.exf,I.ok.bs,I.ok.bsz,I.ok.noex,I.ok.exfs,I.ok.funs,I.ok.frf⟩,I.os,I.bare,I.base,I.loc,I.cell,I.free,I.freeC,I.pin,I.hok,I.len⟩
theorem Inv.unmark {x:Addr} (J:X.Ok) (I:Inv (X.mark x) pins Z H s):Inv X pins Z H s:=⟨J,I.os,I.bare,I.base,I.loc,I.cell,I.free,I.freeC,I.pin,I.hok,I.len⟩
theorem Inv.repin {pn' pins':List (Addr×Obj)} {xe:Value->Shared->Prop} (I:Inv X pins Z H s) (h:∀p∈pn'++pins',p∈X.pn++pins):Inv { X with pn:=pn',xe:=xe } pins' Z H s:=
 ⟨⟨I.ok.mod,I.ok.kind,I.ok.glob,I.ok.blt,I.ok.above,I.ok.inj,I.ok.has,I.ok.cab,I.ok.hd,I.ok.frames,I.ok.stk,I.ok.exf,I.ok.bs,I.ok.bsz,I.ok.noex,I.ok.exfs,I.ok.funs,I.ok.frf⟩,I.os,I.bare,I.base,I.loc,I.cell,I.free,I.freeC,λp hp=>I.pin p (h p hp),I.hok,I.len⟩
theorem SP.unmark {x:Addr} (J:X.Ok) {f:Flow} (h:SP (X.mark x) pins D f s):SP X pins D f s:=by
 cases f with
 | next=>obtain ⟨Z',H',I,q⟩:=h;exact ⟨Z',H',I.unmark J,q⟩
 | brk=>obtain ⟨Z',H',I,q⟩:=h;exact ⟨Z',H',I.unmark J,q⟩
 | cont=>obtain ⟨Z',H',I,q⟩:=h;exact ⟨Z',H',I.unmark J,q⟩
 | ret u=>obtain ⟨v,Z',H',I,r,q⟩:=h;exact ⟨v,Z',H',I.unmark J,r,q⟩
theorem G2 {M:Model} {A:Around} {E:Value->Shared->Prop} {i:Nat} {n:Str} {pos:Pos} {Q:Unit->Shared->Prop} (I:Inv X pins Z H s) (hN:X.N.Nodup) (hi:X.N[i]?=some n) (hk:X.env.scope.names.lookup n=some .local)
 (h:∀s',Inv X pins (Z.set i none) H s'->Q () s'):wpAny M A (do bindName X.env n .none;unbindBehindTheSuite X.env n pos) Q E s:=by
 refine wpAny_bind (wpAny_bindName (FS (v:=.non) I hN hi (.inl hk) rfl (λs1 I1=>?_) (.inr hk)))
 unfold unbindBehindTheSuite
 have hiZ:i < Z.length:=by rw [I.len];exact (List.getElem?_eq_some_iff.mp hi).1
 obtain ⟨m,hn,hl⟩:=id I1.loc
 have hcls:(X.env.scope.kind == .class || (X.env.scope.kind == .module && X.env.locals != X.env.globals))=false:=by rw [I.ok.kind];rfl
 obtain ⟨u0,_,lk⟩:=hl i n .non hi (by rw [List.getElem?_set_self hiZ]) (.inl hk)
 have hv:m n=some u0:=by
  rcases lk with ⟨_,e⟩ | ⟨k,_⟩
  ·exact e
  ·have k:X.env.scope.names.lookup n=some .cell\/X.env.scope.names.lookup n=some .free:=k
   rw [hk] at k;rcases k with k | k <;> cases k
 refine wpAny_onRaise (wpAny_unbindName_local hk hn hv hcls λh' u hn' hs=>?_)
 have cne:=I1.cne
 have tracked:HOk X.prog X.w H h':=λb ob e=>by
  refine (I1.hok b ob e).stay (λc w' hc q=>(hs.2 c ?_).trans q) (λ_ q=>q) λ_ _ q=>q
  rintro rfl
  rcases hc with rfl | hc
  ·rw [I1.free] at e;cases e
  ·rw [I1.free] at hc;cases hc
 have far:∀b o,X.s₀.heap.get? b=some o->b≠X.env.locals:=λb o e=>Nat.ne_of_lt (Nat.lt_of_lt_of_le (Heap.lt_size e) I1.ok.above)
 refine h _ ⟨I1.ok,I1.os,I1.bare,⟨λb o e n hb hx=>?_,λb o e n hb hx=>?_,I1.base.free,λb o e hx=>?_,I1.base.tups,I1.base.frzs,I1.base.tbls⟩,⟨_,hn',λj y v' e1 e2 e3=>?_⟩,λy c e=>?_,I1.free,I1.freeC,λp hp=>?_,tracked,by simpa using I.len⟩
 ·exact (hs.2 b (far b o e)).trans (I1.base.keep b o e n hb hx)
 ·obtain ⟨sl,e1⟩:=I1.base.slot b o e n hb hx
  exact ⟨sl,(hs.2 b (far b o e)).trans e1⟩
 ·obtain ⟨o',e1⟩:=I1.base.there b o e hx
  exact ⟨o',(hs.2 b (far b o e)).trans e1⟩
 ·by_cases hj:j=i
  ·subst hj
   rw [List.getElem?_set_self hiZ] at e2
   cases e2
  ·rw [List.getElem?_set_ne (Ne.symm hj)] at e2
   obtain ⟨u',r',q⟩:=hl j y v' e1 (by rw [List.getElem?_set_ne (Ne.symm hj)];exact e2) e3
   refine ⟨u',r',?_⟩
   rcases q with ⟨k,e⟩ | ⟨k,c,e,z⟩
   ·refine .inl ⟨k,?_⟩
    have:y≠n:=λe=>hj (GR hN e1 (e ▸ hi))
    simp [this,e]
   ·exact .inr ⟨k,c,e,z.sameBut hs (cne y c e)⟩
 ·obtain ⟨w',z⟩:=I1.cell y c e
  exact ⟨w',z.sameBut hs (cne y c e)⟩
 ·obtain ⟨e,n,ne,nf,d⟩:=I1.pin p hp
  exact ⟨(hs.2 p.1 ne).trans e,n,ne,nf,d⟩
end
def PH (qx:Bool) (X:Cx) (hs:List ExceptHandler) (th:Addr->Addr->Option Addr->TS):Prop:=∀(pins:List (Addr×Obj)) (s:Shared) (Z:St) (H:Hp) (x C:Addr) (dx:Option Addr) (T:Addr) (D:Ends),Inv X pins Z H s->XOn qx X pins H s x C dx (some T) .none->th x C dx D Z H->
 wpAny (model X.prog X.w) X.A (handleBy (.ref x) X.env hs) (SP X pins D) X.xe s
noncomputable def Ends.unset (D:Ends) (i:Nat):Ends:={ nx:=λZ H=>D.nx (Z.set i none) H,rt:=D.rt,bk:=λZ H=>D.bk (Z.set i none) H,ct:=λZ H=>D.ct (Z.set i none) H }
section
variable {X:Cx} {n v:Str} {C':Addr} {bm':List Value} {p pos:Pos} {b₀:Stmt} {suite:List Stmt} {rest:List ExceptHandler} {ts:Addr->TS} {tr:Addr->Addr->Option Addr->TS} {i:Nat}
def Yq (K:PySem.W.Frag) (C':Addr) (i:Nat) (ts:Addr->TS) (tr:Addr->Addr->Option Addr->TS):Addr->Addr->Option Addr->TS:=λx C dx D Z H=>∃bm,XCl K C bm/\
 if (Value.ref C :: bm).contains (.ref C')=true then ts x (D.unset i) (Z.set i (some (.ref x))) H else tr x C dx D Z H
theorem WU (hg:Gl X n) (hm:X.mg n=some (.ref C')) (c':XCl X.K C' bm') (hN:X.N.Nodup) (hi:X.N[i]?=some v) (hl:X.env.scope.names.lookup v=some .local) (hb:∀x,PSs (X.mark x) (b₀ :: suite) (ts x)) (hr:PH qx X rest tr)
 (hdb:(n == ("__debug__" : Str))=false:=by decide):PH qx X (.ExceptHandler (some (.Name n p)) (some v) (b₀ :: suite) pos :: rest) (Yq X.K C' i ts tr):=by
 intro pins s Z H x C dx T D I o ⟨bm,c,q⟩
 have Im:=I.mark x
 refine wpAny_handleBy_cons (codeAny_handlers_test (DO Im hg hm ?_ hdb)) (by intro z;cases z)
 refine IF c c' I.kIn o.rc ?_
 cases hc:(Value.ref C :: bm).contains (.ref C') with
 | false=>
   rw [hc,if_neg (by decide)] at q
   exact hr pins s Z H x C dx T D I o q
 | true=>
   rw [hc,if_pos rfl] at q
   refine codeAny_handlers_suite_as ?_
   refine Ep none I o (.inl rfl) λh1 I1 o1=>?_
   refine FS (v:=.ref x) I1 hN hi (.inl hl) rfl (λs2 I2=>?_) (.inr hl)
   refine wpAny_mono (hb x pins s2 _ H _ (I2.mark x) q) (λf s3 z=>?_) λ_ _ z=>z.elim
   show wpAny _ _ _ _ _ _
   have J:=I.ok
   cases f with
   | next=>obtain ⟨Z',H',I',q'⟩:=z;exact G2 (I'.unmark J) hN hi hl λs4 I4=>⟨_,H',I4,q'⟩
   | brk=>obtain ⟨Z',H',I',q'⟩:=z;exact G2 (I'.unmark J) hN hi hl λs4 I4=>⟨_,H',I4,q'⟩
   | cont=>obtain ⟨Z',H',I',q'⟩:=z;exact G2 (I'.unmark J) hN hi hl λs4 I4=>⟨_,H',I4,q'⟩
   | ret u=>obtain ⟨w,Z',H',I',r,q'⟩:=z;exact G2 (I'.unmark J) hN hi hl λs4 I4=>⟨w,_,H',I4,r,q'⟩
def Yr (K:PySem.W.Frag) (C':Addr) (ts:TS) (tr:Addr->Addr->Option Addr->TS):Addr->Addr->Option Addr->TS:=λx C dx D Z H=>∃bm,XCl K C bm/\
 if (Value.ref C :: bm).contains (.ref C')=true then ts D Z H else tr x C dx D Z H
theorem WV {ts:TS} (hg:Gl X n) (hm:X.mg n=some (.ref C')) (c':XCl X.K C' bm') (hb:∀x,PSs (X.mark x) (b₀ :: suite) ts) (hr:PH qx X rest tr)
 (hdb:(n == ("__debug__" : Str))=false:=by decide):PH qx X (.ExceptHandler (some (.Name n p)) none (b₀ :: suite) pos :: rest) (Yr X.K C' ts tr):=by
 intro pins s Z H x C dx T D I o ⟨bm,c,q⟩
 have Im:=I.mark x
 refine wpAny_handleBy_cons (codeAny_handlers_test (DO Im hg hm ?_ hdb)) (by intro z;cases z)
 refine IF c c' I.kIn o.rc ?_
 cases hc:(Value.ref C :: bm).contains (.ref C') with
 | false=>
   rw [hc,if_neg (by decide)] at q
   exact hr pins s Z H x C dx T D I o q
 | true=>
   rw [hc,if_pos rfl] at q
   refine codeAny_handlers_suite ?_
   refine Ep none I o (.inl rfl) λh1 I1 o1=>?_
   exact wpAny_mono (hb x pins _ _ H _ (I1.mark x) q) (λf s3 z=>z.unmark I.ok) λ_ _ z=>z.elim
theorem VM {body:List Stmt} {h₀:ExceptHandler} {hs:List ExceptHandler} {tb:(St->XK)->TS} {th:Addr->Addr->Option Addr->TS} (h1:X.stack=X.env :: X.outer) (h2:X.env.frame=some X.env.locals)
 (hb:∀(pn:List (Addr×Obj)) (E:St->XK),PSs { X with pn:=pn,xe:=XE qx { X with pn:=pn } E } body (tb E)) (hh:PH qx X (h₀ :: hs) th) :
 PS X (.Try body (h₀ :: hs) [] [] pos) (λD Z H=>tb (λZ' v dx H'=>∀x C,v = .ref x->H' x=some (.ext (F2.XIs qx x C dx))->(∃h,F2.XIs qx x C dx h)->th x C dx D Z' H') D Z H):=by
 intro pins s Z H D I q
 refine wpAny_Try_except ?_
 refine wpAny_mono (hb (X.pn++pins) _ [] s Z H D (I.repin λp hp=>by simpa using hp) q) (λf s1 z=>?_) λe s1 z=>?_
 ·have back:∀{Z':St} {H':Hp},Inv { X with pn:=X.pn++pins,xe:=XE qx { X with pn:=X.pn++pins } (λZ' v dx H'=>∀x C,v = .ref x->H' x=some (.ext (F2.XIs qx x C dx))->(∃h,F2.XIs qx x C dx h)->th x C dx D Z' H') } [] Z' H' s1->Inv X pins Z' H' s1:=λJ=>J.repin (X:={ X with pn:=X.pn++pins,xe:=_ }) (pn':=X.pn) (pins':=pins) (xe:=X.xe) λp hp=>by simpa using hp
  cases f with
  | next=>obtain ⟨Z',H',J,q'⟩:=z;exact wpAny_execs_nil ⟨Z',H',back J,q'⟩
  | brk=>obtain ⟨Z',H',J,q'⟩:=z;exact ⟨Z',H',back J,q'⟩
  | cont=>obtain ⟨Z',H',J,q'⟩:=z;exact ⟨Z',H',back J,q'⟩
  | ret u=>obtain ⟨w,Z',H',J,r,q'⟩:=z;exact ⟨w,Z',H',back J,r,q'⟩
 ·obtain ⟨pins',Z',H',x,C,dx,T,fl,rfl,J,o,q'⟩:=z
  have J1:Inv X pins Z' H' s1:=J.repin (X:={ X with pn:=X.pn++pins }) (pn':=X.pn) (pins':=pins) (xe:=X.xe) λp hp=>by
   simp only [List.mem_append] at hp ⊢;exact .inl hp
  have o1:XOn qx X pins H' s1 x C dx T fl:=⟨o.hx,o.nx,o.rc,λa e=>by
   obtain ⟨z1,z2,z3,⟨y1,y2,y3⟩,z5⟩:=o.tb a e
   exact ⟨z1,z2,z3,⟨y1,y2,λp hp=>y3 p (by simp only [List.mem_append] at hp ⊢;exact .inl hp)⟩,z5⟩,o.fo⟩
  refine FN J1.ok.frames J1 h1 h2 o1 λh' a I' o'=>Ep none I' o' (.inl rfl) λh'' I'' o''=>?_
  exact hh pins _ Z' H' x C dx a D I'' o'' (q' x C rfl o.hx ⟨_,o.rc.is⟩)
end
end L2
namespace F2
open PySem L2 PySem.Spec
variable {qx:Bool}
noncomputable def BR:D->Bool
 | .exc _ _=>true
 | _=>false
def exE (E:XK) (v:V) (H:Hp):Prop:=∀x dx,v = .ref x->E (.ref x) dx H
section
variable (K:PySem.W.Frag)
def RX (E:L2.St->XK) (f:M D):TE:=λZ H Q=>∃Oo c t,FInv K Oo c t Z H/\∃r t',f t=some (r,t')/\∀v H' c',FInv K Oo c' t' Z H'->Stp Oo c H c' H'->Rep K c' H' v r->if BR r=true then exE (E Z) v H' else Q v H'
def μX (E:XK):Cf->Hp->D->(V->Hp->Prop)->Prop:=λc H r rt=>∀v,Rep K c H v r->if BR r=true then exE E v H else rt v H
def RSX (E:L2.St->XK) (f:M Out):TS:=λD Z H=>∃Oo c t,FInv K Oo c t Z H/\∃o t',f t=some (o,t')/\∀Z' H' c',FInv K Oo c' t' Z' H'->Stp Oo c H c' H'->
 match o with
 | .next=>D.nx Z' H'
 | .brk=>D.bk Z' H'
 | .cont=>D.ct Z' H'
 | .ret r=>∀v,Rep K c' H' v r->if BR r=true then exE (E Z') v H' else D.rt v H'
def spX (f:Fn):Sp:=λvs H Q E=>∃c ds S,SInv K c S H/\Reps K c H vs ds/\∃r S',f ds S=some (r,S')/\
 ∀v H' c',SInv K c' S' H'->Stp c.O c H c' H'->(∀b,c'.O b↔c.O b)->Rep K c' H' v r->if BR r=true then exE E v H' else Q v H'
end
def Ky (g:Fn):Fn:=λds S=>match g ds S with
 | some (r,S')=>if BR r=true then none else some (r,S')
 | none=>none
theorem Ql {g:Fn} {ds:List D} {S S':List Ob} {r:D} (h:Ky g ds S=some (r,S')):g ds S=some (r,S')/\BR r=false:=by
 unfold Ky at h
 split at h
 ·next r' S1 e=>
  by_cases hx:BR r'=true
  ·rw [if_pos hx] at h;cases h
  ·rw [if_neg hx] at h;cases h;exact ⟨e,by simpa using hx⟩
 ·cases h
section
variable {P:Program} {w:World} {K:PySem.W.Frag} {mg:Str->Option Value} {base:Heap}
theorem WH {k:Nat} {fa:Addr} {fd:FuncData} {ps:List Str} {g:Fn} (F:FnOk P w K mg base (CX1 qx P w) k fa fd ps (spX K g)):FnOk P w K mg base CX0 k fa fd ps (spF K (Ky g)):=
 F.calm λvs H Q E ⟨c,ds,S,si,rs,r,S',e,kk⟩=>by
  obtain ⟨e1,e2⟩:=Ql e
  exact ⟨c,ds,S,si,rs,r,S',e1,λv H' c' a1 a2 a3 a4=>by rw [if_neg (by rw [e2];decide)];exact kk v H' c' a1 a2 a3 a4⟩
theorem Dd {x qual:Str} {st:Stmt} {fa:Addr} {fd:FuncData} {N ps:List Str} {k n m:Nat} {g:M Out} (e1:ps.length=n) (e2:N.length=m) (F:Fun K x qual st fa fd) (S:FnScope N ps (Ao st))
 (hb:∀(cdv:Value) (A:Around) (outer:List Env) (s:Shared) (H:Hp) (E:XK),Room k (A.deeper (PyProof.Rows.envOfC qual (Ao st) s.heap.objs.size fa cdv))->
   Fr (CX1 qx P w) (cxX qx P w K mg base N qual (Ao st) fa cdv A outer s H E) (λ_=>E)->Gf qx (cxX qx P w K mg base N qual (Ao st) fa cdv A outer s H E) (λ_=>E)->
   PassesOwn (model P w) (cxX qx P w K mg base N qual (Ao st) fa cdv A outer s H E).A (cxX qx P w K mg base N qual (Ao st) fa cdv A outer s H E).env (cxX qx P w K mg base N qual (Ao st) fa cdv A outer s H E).xe->
   PSs (cxX qx P w K mg base N qual (Ao st) fa cdv A outer s H E) (B9 st) (RSg K (μX K E) g)):FnOk P w K mg base (CX1 qx P w) (k + 1) fa fd ps (spX K (fnOf n m g)):=by
 subst e1 e2
 have hlen:∀{ds:List D} {S:List Ob} {z:D×List Ob},fnOf ps.length N.length g ds S=some z->ds.length=ps.length:=λ{ds S z} h=>by
  unfold fnOf at h
  split at h
  ·next h1=>exact h1
  ·cases h
 refine F.okX S (λvs H Q E h=>?_) (λcdv A outer s H vs Q E hr h=>?_)
 ·obtain ⟨c,ds,S,si,rs,r,S',e,_⟩:=h
  rw [rs.length];exact hlen e
 obtain ⟨c,ds,S0,si,rs,r,S',e,kk⟩:=h
 refine ⟨RSg K (μX K E) g,hb cdv A outer s H E hr XE.pass XE.raises (XE.own rfl rfl),?_⟩
 have hl:=hlen e
 unfold fnOf at e
 rw [if_pos hl] at e
 cases eg:g ⟨env0 N.length ds,S0⟩ with
 | none=>rw [eg] at e;cases e
 | some p=>
   obtain ⟨o,t⟩:=p
   rw [eg] at e
   refine ⟨c.O,c,_,GJ si rs,o,t,eg,λZ' H' c' f' s'=>?_⟩
   obtain ⟨si',ext'⟩:=f'.leave
   have st':Stp c.O c H ⟨c'.ι,c.O⟩ H':=⟨s'.ext.trans ext',s'.oo⟩
   cases o with
   | next=>cases e;exact kk .non H' _ si' st' (λ_=>Iff.rfl) .non
   | ret d=>cases e;exact λv rv=>kk v H' _ si' st' (λ_=>Iff.rfl) (rv.mono ext')
   | brk=>cases e
   | cont=>cases e
theorem CH {fa:Addr} {fd:FuncData} {ps:List Str} {k:Nat} {f g:Fn} (e:f=g) (h:FnOk P w K mg base (CX1 qx P w) k fa fd ps (spX K g)):FnOk P w K mg base (CX1 qx P w) k fa fd ps (spX K f):=by rw [e];exact h
end
section
variable {X:Cx} {e a b:Expr} {es:List Expr} {pos:Pos} {E:L2.St->XK} {st:Stmt}
theorem Ch {E:XK} {f:M Out} (h:PS X st (RSX X.K (λ_=>E) f)):PS X st (RSg X.K (μX X.K E) f):=Cc h λD Z H ⟨Oo,c,t,fi,o,t',eq,k⟩=>⟨Oo,c,t,fi,o,t',eq,λZ' H' c' f' s'=>by
 have q:=k Z' H' c' f' s'
 cases o <;> exact q⟩
theorem BV {k:Nat} {fa:Addr} {fd:FuncData} {ps:List Str} {g:Fn} {f:M (List D)} {x:Str} {p:Pos} (F:FnOk X.prog X.w X.K X.mg X.base (CX1 qx X.prog X.w) k fa fd ps (spX X.K g)) (hr:Room k X.A) (hg:Gl X x) (hm:X.mg x=some (.ref fa)) (hk:PySem.W.keepIn X.K (.ref fa)=true) (hb:Binds X.K fd ps [])
 (hx:Fr (CX1 qx X.prog X.w) X E) (ha:PA X (e :: es) (RA X.K f)) (hdb:(x == ("__debug__" : Str))=false:=by decide) (h1:B3 e=false:=by rfl) (h2:Ce es=true:=by rfl) :
 PE X (.Call (.Name x p) (e :: es) [] pos) (RX X.K E (As g f)):=
 BN (RD F hr hg hm hk hb hx ha hdb (BM h1) (BJ h2).1) λZ H Q ⟨Oo,c,t,fi,r,t',eq,kk⟩=>by
  obtain ⟨ds,t1,e1,eq⟩:=Au eq
  obtain ⟨S',e2,rfl⟩:=K4 eq
  refine ⟨Oo,c,t,fi,ds,t1,e1,λvs H1 c1 f1 s1 rvs=>?_⟩
  refine ⟨c1,ds,t1.S,f1.s,rvs,r,S',e2,λv H' c' si st ho rv=>?_⟩
  obtain ⟨f2,s2⟩:=f1.after si st ho
  exact kk v H' c' f2 (s1.trans s2) rv
def nxD (f:M D):M D:=bnd f λd=>if BR d=true then fail else ret d
theorem M3 {f:M D} {t t':T} {r:D} (h:nxD f t=some (r,t')):f t=some (r,t')/\BR r=false:=by
 obtain ⟨d,t1,e1,h⟩:=Au h
 by_cases hx:BR d=true
 ·rw [if_pos hx] at h;cases h
 ·rw [if_neg hx] at h;cases h;exact ⟨e1,by simpa using hx⟩
theorem PX {r:D} {A B:Prop} (h:BR r=false) (q:if BR r=true then A else B):B:=by rw [if_neg (by rw [h];decide)] at q;exact q
def Kl (g:M D) (h:D->M D):M D:=bnd g λy=>if BR y=true then ret y else nxD (h y)
theorem RX.bind {K:PySem.W.Frag} {g:M D} {h:D->M D} {Z:L2.St} {H:Hp} {Q:VK} {Oo:Addr->Prop} {c:Cf} {t t':T} {r:D} (fi:FInv K Oo c t Z H) (eq:Kl g h t=some (r,t'))
 (k:∀v H' c',FInv K Oo c' t' Z H'->Stp Oo c H c' H'->Rep K c' H' v r->if BR r=true then exE (E Z) v H' else Q v H') {R:V->Hp->Prop}
 (s:∀y dy t1 H1 c1,FInv K Oo c1 t1 Z H1->Stp Oo c H c1 H1->Rep K c1 H1 y dy->h dy t1=some (r,t')->(∀v H' c',FInv K Oo c' t' Z H'->Stp Oo c1 H1 c' H'->Rep K c' H' v r->Q v H')->R y H1):RX K E g Z H R:=by
 obtain ⟨dy,t1,e1,eq⟩:=Au eq
 refine ⟨Oo,c,t,fi,dy,t1,e1,λy H1 c1 f1 s1 ry=>?_⟩
 by_cases hx:BR dy=true
 ·rw [if_pos hx] at eq ⊢
  cases eq
  have:=k y H1 c1 f1 s1 ry
  rw [if_pos hx] at this
  exact this
 ·rw [if_neg hx] at eq ⊢
  obtain ⟨e2,e3⟩:=M3 eq
  exact s y dy t1 H1 c1 f1 s1 ry e2 λv H' c' f' s' rv=>PX e3 (k v H' c' f' (s1.trans s') rv)
def Js (f g:M D) (h:D->D->M D):M D:=bnd f λx=>Kl g λy=>h x y
theorem RX.two {K:PySem.W.Frag} {f g:M D} {h:D->D->M D} {R:R2} (s:BZ K R h) {Z:L2.St} {H:Hp} {Q:VK} (q:RX K E (Js f g h) Z H Q):tOp R (RE K f) (RX K E g) Z H Q:=by
 obtain ⟨Oo,c,t,fi,r,t',eq,k⟩:=q
 obtain ⟨dx,t1,e1,eq⟩:=Au eq
 refine ⟨Oo,c,t,fi,dx,t1,e1,λx H1 c1 f1 s1 rx=>?_⟩
 exact RX.bind f1 eq (λv H' c' f' s' rv=>k v H' c' f' (s1.trans s') rv) λy dy t2 H2 c2 f2 s2 ry e2 kk=>s f2 (rx.mono s2.ext) ry e2 kk
theorem SD {op:Operator} {R:R2} {f g:M D} {h:D->D->M D} (ho:OpR X (binaryOp op) R) (s:BZ X.K R h) (ha:PE X a (RE X.K f)) (hb:PE X b (RX X.K E g)):PE X (.BinOp a op b pos) (RX X.K E (Js f g h)):=
 BN (OV ho ha hb) λ_ _ _ q=>RX.two s q
def Zu (f g:M D) (h:D->D->M D):M D:=Kl f λx=>bnd g λy=>h x y
def Zl (g:Fn) (f:M D):M D:=Kl f λd t=>match g [d] t.S with
 | some (r,S')=>some (r,{ t with S:=S' })
 | none=>none
theorem Gm {f:M D} (h:PE X e (RX X.K E f)):PS X (.Return (some e) pos) (RSX X.K E (AQ f)):=
 Cc (Hs h) λD Z H ⟨Oo,c,t,fi,o,t',eq,k⟩=>by
  obtain ⟨d,t1,e1,eq⟩:=Au eq
  cases eq
  exact ⟨Oo,c,t,fi,d,_,e1,λv H1 c1 f1 s1 rv=>k Z H1 c1 f1 s1 v rv⟩
def DL (i:Nat) (f:M D):M Out:=bnd f λd=>if BR d=true then ret (.ret d) else bnd (BE i d) λ_=>ret .next
theorem Cr {i:Nat} {x:Str} {f:M D} {pos':Pos} (hN:X.N.Nodup) (hi:X.N[i]?=some x) (hx:Loc X.env.scope x) (he:PE X e (RX X.K E f)) (hs:swapsWith e (some (.Name x pos')) pos.line X.env=pure false:=by rfl) (hf:X.fn x=true\/X.env.scope.names.lookup x=some .local:=by first | exact .inl rfl | exact .inr rfl | assumption) :
 PS X (.Assign [.Name x pos'] e pos) (RSX X.K E (DL i f)):=Cc (Nc hN hi hx he hs hf) λD Z H ⟨Oo,c,t,fi,o,t',eq,k⟩=>by
 obtain ⟨d,t1,e1,eq⟩:=Au eq
 refine ⟨Oo,c,t,fi,d,t1,e1,λv H1 c1 f1 s1 rv=>?_⟩
 by_cases hx:BR d=true
 ·rw [if_pos hx] at eq ⊢
  cases eq
  have:=k Z H1 c1 f1 s1 v rv
  rw [if_pos hx] at this
  exact this
 ·rw [if_neg hx] at eq ⊢
  cases eq
  exact k _ H1 c1 (f1.set rv) s1
def Zt (f:M D):M Out:=bnd f λd=>if BR d=true then ret (.ret d) else ret .next
def Q4 (f:M D) (g:D->M Unit):M Out:=bnd f λd=>if BR d=true then ret (.ret d) else bnd (g d) λ_=>ret .next
theorem Tr {tg:Expr} {f:M D} {g:D->M Unit} (he:PE X e (RX X.K E f)) (hg:PG X tg (RG X.K g)) (hs:swapsWithSole [tg] e pos.line X.env=pure false:=by rfl) (hw:swappedStores [tg] e X.env=pure none:=by rfl) (hp:(assignEach [tg] X.env).map (·.2)=[assign tg X.env]:=by rfl) :
 PS X (.Assign [tg] e pos) (RSX X.K E (Q4 f g)):=
 Cc (by first | exact JS he hg hs hw | exact JS he hg hs hw hp) λD Z H ⟨Oo,c,t,fi,o,t',eq,k⟩=>by
  obtain ⟨d,t1,e1,eq⟩:=Au eq
  refine ⟨Oo,c,t,fi,d,t1,e1,λv H1 c1 f1 s1 rv=>?_⟩
  by_cases hx:BR d=true
  ·rw [if_pos hx] at eq ⊢
   cases eq
   have:=k Z H1 c1 f1 s1 v rv
   rw [if_pos hx] at this
   exact this
  ·rw [if_neg hx] at eq ⊢
   obtain ⟨u,t2,e2,eq⟩:=Au eq
   cases eq
   exact ⟨Oo,c1,t1,d,f1,rv,_,e2,λZ2 H2 c2 f2 s2=>k Z2 H2 c2 f2 (s1.trans s2)⟩
theorem IC {f:M Out} (h:PS X st (RSX X.K E f)):PSs X [st] (RSX X.K E f):=HS h
end
end F2
namespace L2
open PySem PySem.Spec PyProof.Rows PySem.W PySem.Builtin PySem.Builtin.ObjectAttr
structure XGet (K:PySem.W.Frag) (C:Addr):Prop where
 ga:findIn K (.ref C) "__getattribute__" = some (some (.builtin "BaseException.__getattribute__"))
 gt:findIn K (.ref C) "__getattr__" = some none
 mb:mroIn K C (.type "BaseException")=some true
 mo:mroIn K C (.type "object")=some true
 hd:hasDictIn K C=true
section
variable {prog:Program} {w:World} {A:Around} {E:Value->Shared->Prop} {s:Shared} {K:PySem.W.Frag} {x C:Addr} {ox:Obj} {od:Option Obj} {name:Str} {tk:Tok} {Q:Value->Shared->Prop} {R:Result->Shared->Prop}
theorem K6 {fill expr:Bool} (X:K.In s.heap) (I:InstAt s.heap x ox C od) (g:XGet K C)
 (h:codeAny (model prog w) A (.call (.builtin "BaseException.__getattribute__") ⟨[.ref x,.str name tk],[]⟩) (λr s'=>match r with | .ok (.ret v)=>wpAny (model prog w) A (handedOut v) Q E s' | _=>False) s) :
 wpAny (model prog w) A (getAttrBy (.ref x) (.str name tk) fill expr) Q E s:=by
 have L0:=I.type (M:=model prog w)
 have L1:=looks_findIn (M:=model prog w) X g.ga
 have L2:=looks_findIn (M:=model prog w) X g.gt
 have ne:(onTheHeap (Value.ref C) && Value.builtin "BaseException.__getattribute__" == Value.builtin "object.__getattribute__")=false:=by
  rw [show (Value.builtin "BaseException.__getattribute__" == Value.builtin "object.__getattribute__")=false from by decide +kernel];rfl
 unfold getAttrBy
 refine wpAny_holding (wpAny_bind (L0.here (wpAny_bind (L1.here ?_))))
 show wpAny _ _ (if (onTheHeap (Value.ref C) && Value.builtin "BaseException.__getattribute__" == Value.builtin "object.__getattribute__")=true then _ else _) _ _ _
 rw [if_neg (by rw [ne];decide)]
 unfold getAttrByItsOwn hookBefore
 rw [if_pos (show onTheHeap (Value.ref C)=true from rfl)]
 refine wpAny_bind (L2.here (wpAny_bind (wpAny_attempt (wpAny_holding ?_))))
 unfold callGetattribute
 rw [if_neg (show ¬((expr && onTheHeap (Value.builtin "BaseException.__getattribute__"))=true) from by cases expr <;> decide)]
 unfold boundAndCalled
 refine wpAny_bind (wpAny_of_eq (PySem.F.excAttr_ValueError.ga.bind _) (wpAny_call (codeAny_mono h λr s' z=>?_)))
 cases r with
 | error e=>exact z.elim
 | ok f=>cases f <;> first | exact z | exact z.elim
theorem MP (X:K.In s.heap) (I:InstAt s.heap x ox C od) (g:XGet K C)
 (h:wpAny (model prog w) A.in1 («object.__getattribute__» ⟨[.ref x,.str name tk],[]⟩) (λfin s'=>match fin with | .done f=>R (.ok f) s' | .again c'=>c'.quiet=true/\codeAny (model prog w) A c' R s') (λe s'=>R (.error e) s') s) :
 codeAny (model prog w) A (.call (.builtin "BaseException.__getattribute__") ⟨[.ref x,.str name tk],[]⟩) R s:=by
 have ob:Looks (model prog w) s.heap (isInstance (.ref x) (.type "BaseException")) true:=I.type.andThen (looks_mroIn X g.mb)
 refine codeAny_call_builtin PySem.F.excAttr_ValueError.ga.plain PySem.F.entry_bexc_ga (@check_slot (model prog w) _ _ s "BaseException.__getattribute__" "BaseException" "__getattribute__" (.ref x) [.str name tk] [] _ (by decide +kernel) (by decide +kernel) ob (PySem.F.args_bexc_ga (.ref x) (.str name tk)) h)
theorem Rf {v:Value} (X:K.In s.heap) (I:InstAt s.heap x ox C od) (g:XGet K C) (hf:findObj K C od name=some (.value v)) (h:R (.ok (.ret v)) s) :
 codeAny (model prog w) A (.call (.builtin "BaseException.__getattribute__") ⟨[.ref x,.str name tk],[]⟩) R s:=by
 refine MP X I g ?_
 have L0:=I.type (M:=model prog w)
 have L1:=looks_find (M:=model prog w) X I hf
 refine wpAny_bind (wpAny_pure (wpAny_bind (wpAny_pure (wpAny_bind (L0.here (wpAny_bind (L1.here ?_)))))))
 exact wpAny_pure h
theorem Tt {gg a:Value} (X:K.In s.heap) (I:InstAt s.heap x ox C od) (g:XGet K C) (hf:findObj K C od name=some (.bind gg a)) (h:codeAny (model prog w) A.in1 (.call gg ⟨[a,.ref x,.ref C],[]⟩) (λr s'=>match r with | .ok (.ret v)=>R (.ok (.ret v)) s' | .ok _=>False | .error e=>R (.error e) s') s) :
 codeAny (model prog w) A (.call (.builtin "BaseException.__getattribute__") ⟨[.ref x,.str name tk],[]⟩) R s:=by
 refine MP X I g ?_
 have L0:=I.type (M:=model prog w)
 have L1:=looks_find (M:=model prog w) X I hf
 refine wpAny_bind (wpAny_pure (wpAny_bind (wpAny_pure (wpAny_bind (L0.here (wpAny_bind (L1.here ?_)))))))
 show wpAny _ _ (bindTo gg a (.ref x) (.ref C)) _ _ _
 unfold bindTo
 refine wpAny_bind (wpAny_holding (wpAny_call (codeAny_mono h λr s' z=>?_)))
 cases r with
 | error e=>exact z
 | ok f=>cases f <;> first | exact wpAny_pure z | exact z.elim
end
end L2
namespace L2
open PySem PySem.Spec PyProof.Rows PySem.W
theorem Tg (K:PySem.W.Frag):specialIn K (.builtin "object.__class__") "__get__" = some (some (.builtin "getset_descriptor.__get__")):=by kernel_rfl
theorem Pv (K:PySem.W.Frag):takesIn K (.builtin "object.__class__")=some true:=by kernel_rfl
theorem MG {K:PySem.W.Frag} {C:Addr} {od:Option Obj} (hc:(clsIn K C).isSome=true) (ha:findIn K (.ref C) "__class__" = some (some (.builtin "object.__class__"))):findObj K C od "__class__" = some (.bind (.builtin "getset_descriptor.__get__") (.builtin "object.__class__")):=by
 obtain ⟨cd,hc⟩:=Option.isSome_iff_exists.mp hc
 unfold findObj
 rw [hc,Option.bind_some,ha,Option.bind_some]
 simp [Tg,Pv]
def Ss (x C:Addr) (h:Heap):Prop:=∃ox od,InstAt h x ox C od
theorem Rj {K:PySem.W.Frag} {x C:Addr} (g:XGet K C) (ha:findIn K (.ref C) "__class__" = some (some (.builtin "object.__class__"))):KitX K (.ref x) (.ref C) (Ss x C) where
 ty:=λ_ _ _ ⟨_,_,I⟩=>I.type
 it:=λ_ _ X _=>by
  obtain ⟨cd,hc,_⟩:=any_some g.hd
  unfold clsIn at hc
  split at hc
  ·next ho=>
   intro A' Q' E' s' k q
   unfold isType loadHead
   exact wpAny_bind (wpAny_loadPart (k _ _ (X _ _ ho)) (wpAny_pure q))
  ·cases hc
 ne:=λh tp dd its n sl X htp=>by
  obtain ⟨cd,hc,_⟩:=any_some g.hd
  refine Bool.eq_false_iff.mpr λq=>?_
  have e:C=tp:=Value.ref.inj (beq_iff_eq.mp q)
  subst e
  unfold clsIn at hc
  split at hc
  ·next ho=>
   have z:=(X _ _ ho).symm.trans htp
   cases z
  ·cases hc
 ca:=λ{prog w A E Q s} X ⟨ox,od,I⟩ k=>by
  obtain ⟨cd,hc,_⟩:=any_some g.hd
  unfold getAttr? getAttrBy?
  refine wpAny_bind (wpAny_mkText (wpAny_bind (wpAny_attempt ?_)))
  refine K6 (s:={ s with toks:=s.toks + 1 }) X I g (Tt X I g (MG (by rw [hc];rfl) ha) (class_get (s:={ s with toks:=s.toks + 1 }) X I g.mo ?_))
  exact handed_on rfl (wpAny_pure k)
end L2
namespace F2
open PySem L2 PySem.Spec PySem.W
variable {qx:Bool}
abbrev BW:List Str:=["NoValue", "Short", "Broken", "NoTalk", "NoName", "NoText", "NoRow"]
structure XM (K:PySem.W.Frag) (mg:Str->Option Value) (P:Addr) (ca:Str->Addr):Prop where
 pm:mg "ParleyError" = some (.ref P)
 pc:XCl K P VE
 ns:∀n∈BW,nsIn K mainGlobals n=some (some (.ref (ca n)))
 ms:∀n∈BW,mg n=some (.ref (ca n))
 cl:∀n∈BW,XCl K (ca n) (.ref P :: VE)
 inj:∀n∈BW,∀m∈BW,ca n=ca m->n=m
 np:∀n∈BW,ca n≠P
 kp:∀n∈BW,keepIn K (.ref (ca n))=true
 gt:∀n∈BW,XGet K (ca n)
 gc:∀n∈BW,findIn K (.ref (ca n)) "__class__" = some (some (.builtin "object.__class__"))
 na:∀n∈BW,findIn K (.ref (ca n)) "at" = some none
 nd:∀n∈BW,findIn K (.ref (ca n)) "side" = some none
noncomputable def DN (n m:Str):Bool:=m == "ParleyError" || m == "ValueError" || n == m
theorem Ew {a b:Addr} {r:List Value}:(Value.ref a :: r).contains (.ref b)=(a == b || r.contains (.ref b)):=by
 rw [List.contains_cons]
 congr 1
 by_cases h:a=b
 ·subst h;simp
 ·rw [beq_eq_false_iff_ne.mpr h,beq_eq_false_iff_ne.mpr (λz:Value.ref b=Value.ref a=>h (Value.ref.inj z).symm)]
theorem U0 {b:Addr}:VE.contains (.ref b)=false:=rfl
section
variable {K:PySem.W.Frag} {mg:Str->Option Value} {P:Addr} {ca:Str->Addr}
theorem XM.subP (x:XM K mg P ca) {n:Str} (hn:n∈BW):(Value.ref (ca n) :: .ref P :: VE).contains (.ref P)=DN n "ParleyError":=by
 rw [Ew,Ew,beq_self_eq_true,Bool.true_or,Bool.or_true];rfl
theorem XM.subE (x:XM K mg P ca) {n m:Str} (hn:n∈BW) (hm:m∈BW):(Value.ref (ca n) :: .ref P :: VE).contains (.ref (ca m))=DN n m:=by
 rw [Ew,Ew,U0,beq_eq_false_iff_ne.mpr (Ne.symm (x.np m hm)),Bool.or_false,Bool.or_false]
 have h1:(m == ("ParleyError" : Str))=false/\(m == ("ValueError" : Str))=false:=by
  simp only [BW,List.mem_cons,List.not_mem_nil,or_false] at hm
  rcases hm with rfl | rfl | rfl | rfl | rfl | rfl | rfl <;> exact ⟨by decide,by decide⟩
 unfold DN
 rw [h1.1,h1.2,Bool.false_or,Bool.false_or]
 by_cases h:n=m
 ·subst h;rw [beq_self_eq_true,beq_self_eq_true]
 ·rw [beq_eq_false_iff_ne.mpr h,beq_eq_false_iff_ne.mpr λz=>h (x.inj n hn m hm z)]
theorem XM.of (x:XM K mg P ca) {n:Str} {C:Addr} (hn:n∈BW) (h:nsIn K mainGlobals n=some (some (.ref C))):C=ca n:=by
 rw [x.ns n hn] at h
 injection h with h;injection h with h;injection h with h
 exact h.symm
end
theorem US {q1 q2:Bool} {x C C':Addr} {dx dx':Option Addr} (h:XIs q1 x C dx=XIs q2 x C' dx') (e:∃h,XIs q1 x C dx h):C=C'/\dx=dx':=by
 obtain ⟨hh,o,vs,e1,e2,e3,e4⟩:=e
 have q:XIs q2 x C' dx' hh:=by rw [<-h];exact ⟨o,vs,e1,e2,e3,e4⟩
 obtain ⟨o',vs',q1,q2,q3,q4⟩:=q
 rw [e1] at q1;cases q1
 rw [e2] at q2;cases q2
 exact ⟨rfl,e3.symm.trans q3⟩
section
variable {X:Cx} {e:Expr} {es:List Expr} {pos p pos2:Pos} {E:L2.St->XK} {P:Addr} {ca:Str->Addr}
def Zn (n:Str) (f:M (List D)):M Out:=bnd f λds=>match ds with
 | [d]=>ret (.ret (.exc n [d]))
 | _=>fail
def XN0 (K:PySem.W.Frag) (C:Addr):Prop:=∃cd,clsIn K C=some cd/\nsIn K cd.ns "__init__" = some none
def Ht (n:Str) (f:M (List D)):M Out:=bnd f λds=>if ds.length<=1000 then ret (.ret (.exc n [])) else fail
theorem K8 {n:Str} {f:M (List D)} (x:XM X.K X.mg P ca) (hn:n∈BW) (hf:Iz n=[]) (xn:XN0 X.K (ca n)) (hc:X.calm=true) (hx:Gf qx X E) (hg:Gl X n) (ha:PA X (e :: es) (RA X.K f))
 (hdb:(n == ("__debug__" : Str))=false:=by decide) (h1:B3 e=false:=by rfl) (h2:Ce es=true:=by rfl):PS X (.Raise (some (.Call (.Name n p) (e :: es) [] pos)) none pos2) (RSX X.K E (Ht n f)):=by
 obtain ⟨cd,hcd,hni⟩:=xn
 refine Cc (Nb hc (x.cl n hn) hx (Ud (x.cl n hn) (x.kp n hn) hcd hni hg (x.ms _ hn) ha hdb (BM h1) (BJ h2).1)) λD Z H ⟨Oo,c,t,fi,o,t',eq,k⟩=>?_
 obtain ⟨ds,t1,e1,eq⟩:=Au eq
 refine ⟨Oo,c,t,fi,ds,t1,e1,λvs H1 c1 f1 s1 rvs=>?_⟩
 split at eq
 ·next hl=>
  cases eq
  refine ⟨by rw [rvs.length];exact hl,λy hy=>?_⟩
  have f3:=f1.laid (o:=.ext (XIs qx y (ca n) none)) hy
  exact k Z _ c1 f3 (s1.trans (f1.stp_laid hy)) (.ref y) (.exc (x.ns _ hn) Az (f1.s.free hy) (vs:=[]) rfl .nil) y none rfl
 ·cases eq
end
section
variable {X:Cx} {pos p:Pos} {P:Addr} {ca:Str->Addr} {μ:Cf->Hp->D->(V->Hp->Prop)->Prop}
def RH (K:PySem.W.Frag) (ca:Str->Addr) (μ:Cf->Hp->D->(V->Hp->Prop)->Prop) (h:D->M Out):Addr->Addr->Option Addr->TS:=λx C dx E Z H=>∃Oo c t n ds,FInv K Oo c t Z H/\n∈BW/\C=ca n/\Rep K c H (.ref x) (.exc n ds)/\
 ∃o t',h (.exc n ds) t=some (o,t')/\∀Z' H' c',FInv K Oo c' t' Z' H'->Stp Oo c H c' H'->
  match o with
  | .next=>E.nx Z' H'
  | .brk=>E.bk Z' H'
  | .cont=>E.ct Z' H'
  | .ret r=>μ c' H' r E.rt
noncomputable def unE (i:Nat) (t:T):T:={ t with env:=t.env.set i none }
theorem FInv.unset {K:PySem.W.Frag} {Oo:Addr->Prop} {c:Cf} {t:T} {Z:L2.St} {H:Hp} (f:FInv K Oo c t Z H) (i:Nat):FInv K Oo c (unE i t) (Z.set i none) H:=by
 have neq:∀{j:Nat} {x:Sl},(t.env.set i none)[j]?=some (some x)->j≠i/\t.env[j]?=some (some x):=λ{j x} q=>by
  by_cases h:j=i
  ·subst h
   rw [List.getElem?_set] at q
   split at q
   ·split at q
    ·injection q with q;cases q
    ·cases q
   ·next h1=>exact absurd rfl h1
  ·rw [List.getElem?_set_ne (Ne.symm h)] at q
   exact ⟨h,q⟩
 refine ⟨f.s,by simp [unE,f.len],f.sub,λj e q=>?_,λj ds q=>?_,λj k ds es a q1 q2 q3 q4=>?_⟩
 ·obtain ⟨h,q⟩:=neq q
  obtain ⟨u,h1,h2⟩:=f.val j e q
  exact ⟨u,by rw [List.getElem?_set_ne (Ne.symm h)];exact h1,h2⟩
 ·obtain ⟨h,q⟩:=neq q
  obtain ⟨a,vs,h1,h2⟩:=f.own j ds q
  exact ⟨a,vs,by rw [List.getElem?_set_ne (Ne.symm h)];exact h1,h2⟩
 ·obtain ⟨h,q1⟩:=neq q1
  obtain ⟨h',q2⟩:=neq q2
  rw [List.getElem?_set_ne (Ne.symm h)] at q3
  rw [List.getElem?_set_ne (Ne.symm h')] at q4
  exact f.inj j k ds es a q1 q2 q3 q4
def hAs (n':Str) (i:Nat) (s:M Out) (r:D->M Out):D->M Out:=λe t=>match e with
 | .exc n ds=>if DN n n'=true then (match s { t with env:=t.env.set i (some (.val (.exc n ds))) } with
   | some (o,t2)=>some (o,unE i t2)
   | none=>none) else r (.exc n ds) t
 | _=>none
def hNo (n':Str) (s:M Out) (r:D->M Out):D->M Out:=λe t=>match e with
 | .exc n ds=>if DN n n'=true then s t else r (.exc n ds) t
 | _=>none
noncomputable def OM:D->M Out:=λ_ _=>none
theorem ME:PH qx X [] (RH X.K ca μ OM):=λ_ _ _ _ _ _ _ _ _ _ _ ⟨_,_,_,_,_,_,_,_,_,_,_,e,_⟩=>by cases e
theorem Sz {n' v:Str} {C':Addr} {bm':List Value} {i:Nat} {b₀:Stmt} {suite:List Stmt} {rest:List ExceptHandler} {s:M Out} {r:D->M Out} (x:XM X.K X.mg P ca) (hg:Gl X n') (hm:X.mg n'=some (.ref C')) (c':XCl X.K C' bm') (hs:∀n∈BW,(Value.ref (ca n) :: .ref P :: VE).contains (.ref C')=DN n n')
 (hN:X.N.Nodup) (hi:X.N[i]?=some v) (hl:X.env.scope.names.lookup v=some .local) (hb:∀x,PSs (X.mark x) (b₀ :: suite) (RSg X.K μ s)) (hr:PH qx X rest (RH X.K ca μ r)) (hdb:(n' == ("__debug__" : Str))=false:=by decide) :
 PH qx X (.ExceptHandler (some (.Name n' p)) (some v) (b₀ :: suite) pos :: rest) (RH X.K ca μ (hAs n' i s r)):=by
 intro pins s0 Z H y C dx T D I o q
 refine WU hg hm c' hN hi hl hb hr hdb pins s0 Z H y C dx T D I o ?_
 obtain ⟨Oo,c,t,n,ds,fi,hn,rfl,rv,o1,t',eq,k⟩:=q
 refine ⟨_,x.cl n hn,?_⟩
 rw [hs n hn]
 unfold hAs at eq
 dsimp only at eq
 by_cases hb':DN n n'=true
 ·rw [if_pos hb'] at eq ⊢
  cases e1:s { t with env:=t.env.set i (some (.val (.exc n ds))) } with
  | none=>rw [e1] at eq;cases eq
  | some z=>
    obtain ⟨o2,t2⟩:=z
    rw [e1] at eq
    cases eq
    refine ⟨Oo,c,_,fi.set rv,o1,t2,e1,λZ' H' c2 f2 s2=>?_⟩
    have:=k _ H' c2 (f2.unset i) s2
    cases o1 <;> exact this
 ·rw [if_neg hb'] at eq ⊢
  exact ⟨Oo,c,t,n,ds,fi,hn,rfl,rv,o1,t',eq,k⟩
theorem SA {n':Str} {C':Addr} {bm':List Value} {b₀:Stmt} {suite:List Stmt} {rest:List ExceptHandler} {s:M Out} {r:D->M Out} (x:XM X.K X.mg P ca) (hg:Gl X n') (hm:X.mg n'=some (.ref C')) (c':XCl X.K C' bm') (hs:∀n∈BW,(Value.ref (ca n) :: .ref P :: VE).contains (.ref C')=DN n n')
 (hb:∀x,PSs (X.mark x) (b₀ :: suite) (RSg X.K μ s)) (hr:PH qx X rest (RH X.K ca μ r)) (hdb:(n' == ("__debug__" : Str))=false:=by decide) :
 PH qx X (.ExceptHandler (some (.Name n' p)) none (b₀ :: suite) pos :: rest) (RH X.K ca μ (hNo n' s r)):=by
 intro pins s0 Z H y C dx T D I o q
 refine WV hg hm c' hb hr hdb pins s0 Z H y C dx T D I o ?_
 obtain ⟨Oo,c,t,n,ds,fi,hn,rfl,rv,o1,t',eq,k⟩:=q
 refine ⟨_,x.cl n hn,?_⟩
 rw [hs n hn]
 unfold hNo at eq
 dsimp only at eq
 by_cases hb':DN n n'=true
 ·rw [if_pos hb'] at eq ⊢
  exact ⟨Oo,c,t,fi,o1,t',eq,λZ' H' c2 f2 s2=>by
   have:=k _ H' c2 f2 s2
   cases o1 <;> exact this⟩
 ·rw [if_neg hb'] at eq ⊢
  exact ⟨Oo,c,t,n,ds,fi,hn,rfl,rv,o1,t',eq,k⟩
noncomputable def Fi (b:M Out) (h:D->M Out):M Out:=λt=>match b t with
 | some (.ret (.exc n ds),t1)=>if n∈BW then h (.exc n ds) t1 else none
 | z=>z
theorem MN {body:List Stmt} {h₀:ExceptHandler} {hs:List ExceptHandler} {b:M Out} {h:D->M Out} (x:XM X.K X.mg P ca) (hμ:∀c H r rt,BR r=false->(∀v,Rep X.K c H v r->rt v H)=μ c H r rt) (h1:X.stack=X.env :: X.outer) (h2:X.env.frame=some X.env.locals)
 (hb:∀(pn:List (Addr×Obj)) (E:L2.St->XK),Fr (CX1 qx X.prog X.w) { X with pn:=pn,xe:=XE qx { X with pn:=pn } E } E->PSs { X with pn:=pn,xe:=XE qx { X with pn:=pn } E } body (RSX X.K E b)) (hh:PH qx X (h₀ :: hs) (RH X.K ca μ h)):PS X (.Try body (h₀ :: hs) [] [] pos) (RSg X.K μ (Fi b h)):=
 Cc (VM h1 h2 (λpn E=>hb pn E (XE.pass (X:={ X with pn:=pn }))) hh) λD Z H ⟨Oo,c,t,fi,o,t',eq,k⟩=>by
  unfold Fi at eq
  cases e1:b t with
  | none=>rw [e1] at eq;cases eq
  | some z=>
    obtain ⟨o1,t1⟩:=z
    rw [e1] at eq
    refine ⟨Oo,c,t,fi,o1,t1,e1,λZ1 H1 c1 f1 s1=>?_⟩
    cases o1 with
    | next=>cases eq;exact k Z1 H1 c1 f1 s1
    | brk=>cases eq;exact k Z1 H1 c1 f1 s1
    | cont=>cases eq;exact k Z1 H1 c1 f1 s1
    | ret r=>
      intro v rv
      cases hx:BR r with
      | false=>
        rw [if_neg (by decide)]
        have eq':some (Out.ret r,t1)=some (o,t'):=by cases r <;> first | exact eq | cases hx
        cases eq'
        have q:=k Z1 H1 c1 f1 s1
        have q:μ c1 H1 r D.rt:=q
        rw [<-hμ _ _ _ _ hx] at q
        exact q v rv
      | true=>
        rw [if_pos rfl]
        intro y dx hv y' C hy' hC hex
        cases rv with
        | @exc q0 x0 C0 dx0 n vs ds g hx0 hA fl rs=>
          cases hv
          cases hy'
          dsimp only at eq
          split at eq
          ·next hn=>
           rw [hx0] at hC
           injection hC with hC;injection hC with hC
           obtain ⟨e2,e3⟩:=US hC.symm hex
           have:=x.of hn g
           exact ⟨Oo,c1,t1,n,ds,f1,hn,e2.trans this,.exc g hx0 hA fl rs,o,t',eq,λZ' H' c' f' s'=>k Z' H' c' f' (s1.trans s')⟩
          ·cases eq
        | _=>cases hx
end
end F2
namespace F2
open PySem L2 PySem.Spec PySem.W
variable {qx:Bool}
def Ea (n:Str):D->M D
 | .exc m _=>if m∈BW then ret (.bl (DN m n)) else fail
 | .non=>ret (.bl false)
 | .bl _=>ret (.bl false)
 | .int _=>ret (.bl false)
 | .str _=>ret (.bl false)
 | .lst _=>ret (.bl false)
 | .tup _=>ret (.bl false)
 | .dic=>ret (.bl false)
 | _=>fail
def OY (K:PySem.W.Frag) (c:Value):List V->Hp->VK->Prop:=λxs H Q=>∃x y t b,xs=[x,y]/\(∀u,RelV y u->u=c)/\
 (TyOf K H x t\/∃q0 a C dx,x = .ref a/\t = .ref C/\H a=some (.ext (XIs q0 a C dx))/\(∀d,dx=some d->∃fs,H d=some (.xd fs))/\XGet K C/\findIn K (.ref C) "__class__" = some (some (.builtin "object.__class__")))/\kitOne K t c=some b/\Q (.bl b) H
theorem XR {X:Cx} {pins:List (Addr×Obj)} {Z:L2.St} {H:Hp} {s:Shared} {a C:Addr} {dx:Option Addr} (I:Inv X pins Z H s) (h:H a=some (.ext (XIs qx a C dx))) (hd:∀d,dx=some d->∃fs,H d=some (.xd fs)):Ss a C s.heap:=by
 obtain ⟨o,vs,e1,e2,e3,e4,_⟩:=(I.hok a _ h).1
 have nc:notCls o=true:=by unfold notCls;rw [e4]
 cases dx with
 | none=>exact ⟨o,none,e1,e2,nc,by rw [e3];trivial⟩
 | some d=>
   obtain ⟨fs,hf⟩:=hd d rfl
   obtain ⟨mA,n,_⟩:=(show ObjOk X.prog X.w H s.heap d (.xd fs) from I.hok d _ hf)
   obtain ⟨od,ho,_⟩:=F0 n
   exact ⟨o,some od,e1,e2,nc,by rw [e3];exact ho⟩
theorem K3 {X:Cx} {c:Value}:CN X (.builtin "isinstance") (OY X.K c):=by
 intro pins s Z H xs us Q I r h
 obtain ⟨x,y,t,b,rfl,hy,ty,e,q⟩:=h
 obtain ⟨u,w',rfl,rx,rt⟩:=LP r
 cases hy _ rt
 rcases ty with ty | ⟨q0,a,C,dx,rfl,rfl,ha,hd,g,gc⟩
 ·exact La I rx ty e λtk=>⟨.bl b,H,I.tok tk,rfl,q⟩
 ·cases (show u=Value.ref a from rx)
  exact kia_one (Rj g gc) I.kIn (XR I ha hd) e (λz=>nomatch z) λtk=>⟨.bl b,H,I.tok tk,rfl,q⟩
theorem Vm {K:PySem.W.Frag} {d:D} {T:String} {C':Addr} {bm':List Value} (h:tyD d=some T) (c':XCl K C' bm'):kitOne K (.type T) (.ref C')=some false:=by
 obtain ⟨cd,dd,k0,k1,k2,k3,k5,h1,h2,h3,h4,h5⟩:=c'.ex
 have e1:clsIn K C'=some cd:=by unfold clsIn;rw [h1]
 have e2:typeIn K (.ref C')=some (.type "type"):=by
  show (K.lookup C').map _=_
  rw [h1];rfl
 have z:((clsIn K C').isSome && typeIn K (.ref C') == some (.type "type"))=true:=by rw [e1,e2,Option.isSome_some,Bool.true_and];decide
 have hT:T = "NoneType"\/T = "bool"\/T = "int"\/T = "str"\/T = "list"\/T = "tuple"\/T = "dict":=by
  cases d <;> simp [tyD] at h <;> simp [<-h]
 unfold kitOne kitCls
 rw [if_neg (by intro q;cases beq_iff_eq.mp q)]
 dsimp only
 rw [if_pos z]
 rcases hT with rfl | rfl | rfl | rfl | rfl | rfl | rfl <;> rfl
theorem TD {K:PySem.W.Frag} {d:D} {T:String} (h:tyD d=some T):kitOne K (.type T) (.type "ValueError")=some false:=by
 have hT:T = "NoneType"\/T = "bool"\/T = "int"\/T = "str"\/T = "list"\/T = "tuple"\/T = "dict":=by
  cases d <;> simp [tyD] at h <;> simp [<-h]
 rcases hT with rfl | rfl | rfl | rfl | rfl | rfl | rfl <;> rfl
theorem QG {K:PySem.W.Frag} {C:Addr} {bm:List Value} (c:XCl K C bm) (v:Value):subIn K (.ref C) v=some ((Value.ref C :: bm).contains v):=by
 obtain ⟨cd,h1,h2,_⟩:=c.cls
 show mroIn K C v=_
 unfold mroIn
 rw [h1,Option.bind_some,h2];rfl
theorem TB {K:PySem.W.Frag} {C C':Addr} {bm bm':List Value} (c:XCl K C bm) (c':XCl K C' bm'):kitOne K (.ref C) (.ref C')=some ((Value.ref C :: bm).contains (.ref C')):=by
 obtain ⟨cd,dd,k0,k1,k2,k3,k5,h1,h2,h3,h4,h5⟩:=c'.ex
 have e1:clsIn K C'=some cd:=by unfold clsIn;rw [h1]
 have e2:typeIn K (.ref C')=some (.type "type"):=by
  show (K.lookup C').map _=_
  rw [h1];rfl
 have z:((clsIn K C').isSome && typeIn K (.ref C') == some (.type "type"))=true:=by rw [e1,e2,Option.isSome_some,Bool.true_and];decide
 unfold kitOne kitCls
 by_cases h:C=C'
 ·subst h;rw [if_pos (by simp)];simp
 ·rw [if_neg (λq=>h (Value.ref.inj (beq_iff_eq.mp q)))]
  dsimp only
  rw [if_pos z]
  exact QG c _
theorem WO {K:PySem.W.Frag} {C P:Addr} (c:XCl K C (.ref P :: VE)):kitOne K (.ref C) (.type "ValueError")=some true:=by
 unfold kitOne kitCls
 rw [if_neg (by intro q;cases beq_iff_eq.mp q)]
 dsimp only
 rw [if_pos (by decide +kernel),QG c]
 rw [List.contains_cons,List.contains_cons,show VE.contains (.type "ValueError")=true from by decide +kernel,Bool.or_true,Bool.or_true]
section
variable {X:Cx} {P:Addr} {ca:Str->Addr} {a:Expr} {f:M D} {p pos q:Pos}
theorem N1 {n:Str} {c:Value} {y:V} (x:XM X.K X.mg P ca) (hy:∀u,RelV y u->u=c) (k1:∀d T,tyD d=some T->kitOne X.K (.type T) c=some false) (k2:∀m∈BW,kitOne X.K (.ref (ca m)) c=some (DN m n)) {Z:L2.St} {H:Hp} {Q:VK} (h:RE X.K (bnd f (Ea n)) Z H Q) :
 tCB (OY X.K c) (O7 (RE X.K f) (O7 (tC y) Wm)) Z H Q:=by
 obtain ⟨Oo,c0,t,fi,r,t',eq,k⟩:=h
 obtain ⟨d,t1,e1,eq⟩:=Au eq
 refine ⟨Oo,c0,t,fi,d,t1,e1,λv H1 c1 f1 s1 rv=>?_⟩
 show OY X.K c [v,y] H1 Q
 cases rv with
 | @exc q0 x0 C0 dx0 m vs ds g hx0 hA fl rs=>
   unfold Ea at eq
   dsimp only at eq
   split at eq
   ·next hm=>
    cases eq
    have hc:=x.of hm g
    subst hc
    refine ⟨_,_,_,_,rfl,hy,.inr ⟨_,x0,ca m,dx0,rfl,rfl,hx0,λd hd=>?_,x.gt m hm,x.gc m hm⟩,k2 m hm,k _ H1 c1 f1 s1 (.bl _)⟩
    subst hd
    exact ⟨_,fl.1⟩
   ·cases eq
 | non=>cases eq;exact ⟨_,_,_,_,rfl,hy,.inl .non,k1 .non _ rfl,k _ H1 c1 f1 s1 (.bl _)⟩
 | bl b=>cases eq;exact ⟨_,_,_,_,rfl,hy,.inl (.bl _),k1 (.bl b) _ rfl,k _ H1 c1 f1 s1 (.bl _)⟩
 | int i=>cases eq;exact ⟨_,_,_,_,rfl,hy,.inl (.int _),k1 (.int i) _ rfl,k _ H1 c1 f1 s1 (.bl _)⟩
 | str i=>cases eq;exact ⟨_,_,_,_,rfl,hy,.inl (.str _),k1 (.str i) _ rfl,k _ H1 c1 f1 s1 (.bl _)⟩
 | lst h1 h2 h3=>cases eq;exact ⟨_,_,_,_,rfl,hy,.inl (.lst h1),k1 (.lst []) _ rfl,k _ H1 c1 f1 s1 (.bl _)⟩
 | tup h1 h2 h3=>cases eq;exact ⟨_,_,_,_,rfl,hy,.inl (.tup h1),k1 (.tup []) _ rfl,k _ H1 c1 f1 s1 (.bl _)⟩
 | dic h1 h2=>cases eq;exact ⟨_,_,_,_,rfl,hy,.inl (.dK h1),k1 .dic _ rfl,k _ H1 c1 f1 s1 (.bl _)⟩
 | _=>cases eq
theorem Ei {n:Str} (x:XM X.K X.mg P ca) (hn:n∈BW) (hg:Gl X "isinstance") (hm:X.mg "isinstance" = none) (hv:bootBuiltins "isinstance" = some (.builtin "isinstance")) (hgn:Gl X n) (ha:PE X a (RE X.K f)) (hdb:(n == ("__debug__" : Str))=false:=by decide) (h1:B3 a=false:=by rfl) :
 PE X (.Call (.Name "isinstance" p) [a,.Name n q] [] pos) (RE X.K (bnd f (Ea n))):=
 BN (IO K3 hg hm hv (Gq ha (Gq (KJ hgn (x.ms n hn) (v:=.ref (ca n)) rfl hdb) M6 (BM (e:=.Name n q) rfl)) (BM h1)) (by decide) (by decide) (BM h1) (BJ (es:=[.Name n q]) rfl).1)
  λZ H Q h=>N1 (n:=n) (c:=.ref (ca n)) (y:=.ref (ca n)) x (λu r=>r) (λd T e=>Vm e (x.cl n hn)) (λm hm=>by rw [TB (x.cl m hm) (x.cl n hn),x.subE hm hn]) h
theorem Tm (x:XM X.K X.mg P ca) (hg:Gl X "isinstance") (hm:X.mg "isinstance" = none) (hv:bootBuiltins "isinstance" = some (.builtin "isinstance")) (hgn:Gl X "ValueError") (hmn:X.mg "ValueError" = none) (hvn:bootBuiltins "ValueError" = some (.type "ValueError")) (ha:PE X a (RE X.K f)) (h1:B3 a=false:=by rfl) :
 PE X (.Call (.Name "isinstance" p) [a,.Name "ValueError" q] [] pos) (RE X.K (bnd f (Ea "ValueError"))):=
 BN (IO K3 hg hm hv (Gq ha (Gq (N6 hgn hmn hvn (v:=.ty "ValueError") rfl (by decide) (by decide)) M6 (BM (e:=.Name "ValueError" q) rfl)) (BM h1)) (by decide) (by decide) (BM h1) (BJ (es:=[.Name "ValueError" q]) rfl).1)
  λZ H Q h=>N1 (n:="ValueError") (c:=.type "ValueError") (y:=.ty "ValueError") x (λu r=>r) (λd T e=>TD e) (λm hm=>by rw [WO (x.cl m hm)];rfl) h
def Hc (nm:Str):D->M D
 | .exc n ds=>if n∈BW then (match ((Iz n).zip ds).lookup nm with
   | some d=>ret d
   | none=>fail) else fail
 | _=>fail
theorem Il {K:PySem.W.Frag} {c:Cf} {H:Hp} {nm:Str} {d:D}:∀{ns:List Str} {vs:List V} {ds:List D},Reps K c H vs ds->(ns.zip ds).lookup nm=some d->∃v,(ns.zip vs).lookup nm=some v/\Rep K c H v d
 | [],_,_,_,e=>by cases e
 | _ :: _,_,_,.nil,e=>by cases e
 | n :: ns,_,_,.cons (v:=v0) (d:=d0) r rs,e=>by
   by_cases h:nm=n
   ·subst h
    simp only [List.zip_cons_cons,List.lookup,beq_self_eq_true,Option.some.injEq] at e ⊢
    subst e
    exact ⟨v0,rfl,r⟩
   ·have hb:(nm == n)=false:=beq_eq_false_iff_ne.mpr h
    simp only [List.zip_cons_cons,List.lookup,hb] at e ⊢
    exact Il rs e
theorem Lj:bootBuiltins "ValueError" = some (.type "ValueError"):=by decide +kernel
theorem Jv {nm:Str} (x:XM X.K X.mg P ca) (hno:∀n∈BW,findIn X.K (.ref (ca n)) nm=some none) (ha:PE X a (RE X.K f)) (hb:attributeBase a nm X.env (eval a X.env)=eval a X.env):PE X (.Attribute a nm pos) (RE X.K (bnd f (Hc nm))):=by
 intro pins s Z H Q I h
 obtain ⟨Oo,c0,t,fi,r,t',eq,k⟩:=h
 obtain ⟨d,t1,e1,eq⟩:=Au eq
 refine Td hb (thn (ha pins s Z H (λv H1=>∃c1,FInv X.K Oo c1 t1 Z H1/\Stp Oo c0 H c1 H1/\Rep X.K c1 H1 v d) I ⟨Oo,c0,t,fi,d,t1,e1,λv H1 c1 f1 s1 rv=>⟨c1,f1,s1,rv⟩⟩) λu s1 ⟨v,H1,I1,rx,c1,f1,st1,rv⟩=>?_)
 cases rv with
 | @exc q0 x0 C0 dx0 m vs ds g hx0 hA fl rs=>
   cases (show u=Value.ref x0 from rx)
   unfold Hc at eq
   dsimp only at eq
   split at eq
   ·next hm=>
    have hc:=x.of hm g
    subst hc
    cases el:((Iz m).zip ds).lookup nm with
    | none=>rw [el] at eq;cases eq
    | some d'=>
      rw [el] at eq
      cases eq
      obtain ⟨v',l1,r1⟩:=Il rs el
      cases dx0 with
      | none=>
        have fl:vs=[]:=fl
        subst fl
        simp at l1
      | some dd=>
        have hdd:H1 dd=some (.xd ((Iz m).zip vs)):=fl.1
        obtain ⟨o,vs0,q1,q2,q3,q4,_⟩:=(I1.hok x0 _ hx0).1
        have nc:notCls o=true:=by unfold notCls;rw [q4]
        obtain ⟨mA,nA,rA⟩:=(show ObjOk X.prog X.w H1 s1.heap dd (.xd ((Iz m).zip vs)) from I1.hok dd _ hdd)
        obtain ⟨od,ho,hl⟩:=F0 nA
        obtain ⟨u',hu,ru⟩:=RelO.some_of (v:=v') (o:=mA nm) (by rw [<-l1];exact rA nm)
        have IA:InstAt s1.heap x0 o (ca m) (some od):=⟨q1,q2,nc,by rw [q3];exact ho⟩
        unfold getAttr
        refine wpAny_bind (wpAny_mkText ?_)
        refine K6 (s:={ s1 with toks:=s1.toks + 1 }) I1.kIn IA (x.gt m hm) (Rf I1.kIn IA (x.gt m hm) (findObj_own (x.gt m hm).hd (hno m hm) rfl (by rw [hl,hu])) ?_)
        exact handed_on (PR ru) ⟨v',H1,I1.tok _,ru,k v' H1 c1 f1 st1 r1⟩
   ·cases eq
 | _=>cases eq
end
end F2
namespace F2
open PySem L2 PySem.Spec PySem.W
variable {qx:Bool}
def Ph (K:PySem.W.Frag) (P c:Addr):Bool:=LR K c (.ref P :: VE) && keepIn K (.ref c) && findIn K (.ref c) "__getattribute__" == some (some (.builtin "BaseException.__getattribute__")) && findIn K (.ref c) "__getattr__" == some none && mroIn K c (.type "BaseException") == some true
 && mroIn K c (.type "object") == some true && hasDictIn K c && findIn K (.ref c) "__class__" == some (some (.builtin "object.__class__")) && findIn K (.ref c) "at" == some none && findIn K (.ref c) "side" == some none
structure XOne (K:PySem.W.Frag) (P c:Addr):Prop where
 cl:XCl K c (.ref P :: VE)
 kp:keepIn K (.ref c)=true
 gt:XGet K c
 gc:findIn K (.ref c) "__class__" = some (some (.builtin "object.__class__"))
 na:findIn K (.ref c) "at" = some none
 nd:findIn K (.ref c) "side" = some none
theorem EX {K:PySem.W.Frag} {P c:Addr} (h:Ph K P c=true):XOne K P c:=by
 unfold Ph at h
 simp only [Bool.and_eq_true,beq_iff_eq] at h
 obtain ⟨⟨⟨⟨⟨⟨⟨⟨⟨h1,h2⟩,h3⟩,h4⟩,h5⟩,h6⟩,h7⟩,h8⟩,h9⟩,h10⟩:=h
 exact ⟨.of_in h1,h2,⟨h3,h4,h5,h6,h7⟩,h8,h9,h10⟩
noncomputable def F7 (c1 c2 c3 c4 c5 c6 c7:Addr):Str->Addr:=λn=>if n = "NoValue" then c1 else if n = "Short" then c2 else if n = "Broken" then c3 else if n = "NoTalk" then c4 else if n = "NoName" then c5 else if n = "NoText" then c6 else c7
theorem C9 {Q:Str->Prop} (h1:Q "NoValue") (h2:Q "Short") (h3:Q "Broken") (h4:Q "NoTalk") (h5:Q "NoName") (h6:Q "NoText") (h7:Q "NoRow"):∀n∈BW,Q n:=by
 intro n hn
 simp only [BW,List.mem_cons,List.not_mem_nil,or_false] at hn
 rcases hn with rfl | rfl | rfl | rfl | rfl | rfl | rfl <;> assumption
def Pg (K:PySem.W.Frag) (P:Addr) (cs:List Addr):Bool:=LR K P VE && cs.all (Ph K P)
theorem XS {K:PySem.W.Frag} {h:Heap} {mg:Str->Option Value} {P c1 c2 c3 c4 c5 c6 c7:Addr} (X:K.In h) (G:h.Ns mainGlobals mg) (p:nsIn K mainGlobals "ParleyError" = some (some (.ref P))) (a1:nsIn K mainGlobals "NoValue" = some (some (.ref c1))) (a2:nsIn K mainGlobals "Short" = some (some (.ref c2)))
 (a3:nsIn K mainGlobals "Broken" = some (some (.ref c3))) (a4:nsIn K mainGlobals "NoTalk" = some (some (.ref c4))) (a5:nsIn K mainGlobals "NoName" = some (some (.ref c5))) (a6:nsIn K mainGlobals "NoText" = some (some (.ref c6))) (a7:nsIn K mainGlobals "NoRow" = some (some (.ref c7)))
 (q:Pg K P [c1,c2,c3,c4,c5,c6,c7]=true) (nd:[P,c1,c2,c3,c4,c5,c6,c7].Nodup):XM K mg P (F7 c1 c2 c3 c4 c5 c6 c7):=by
 unfold Pg at q
 simp only [List.all_cons,List.all_nil,Bool.and_true,Bool.and_eq_true] at q
 obtain ⟨q0,q1,q2,q3,q4,q5,q6,q7⟩:=q
 have o1:=EX q1
 have o2:=EX q2
 have o3:=EX q3
 have o4:=EX q4
 have o5:=EX q5
 have o6:=EX q6
 have o7:=EX q7
 have inj:∀n∈BW,∀m∈BW,F7 c1 c2 c3 c4 c5 c6 c7 n=F7 c1 c2 c3 c4 c5 c6 c7 m->n=m:=by
  simp only [List.nodup_cons,List.mem_cons,List.not_mem_nil,or_false,not_or,List.nodup_nil,and_true] at nd
  obtain ⟨⟨n1,n2,n3,n4,n5,n6,n7⟩,⟨m12,m13,m14,m15,m16,m17⟩,⟨m23,m24,m25,m26,m27⟩,⟨m34,m35,m36,m37⟩,⟨m45,m46,m47⟩,⟨m56,m57⟩,m67,_⟩:=nd
  have h1:F7 c1 c2 c3 c4 c5 c6 c7 "NoValue" = c1:=rfl
  have h2:F7 c1 c2 c3 c4 c5 c6 c7 "Short" = c2:=rfl
  have h3:F7 c1 c2 c3 c4 c5 c6 c7 "Broken" = c3:=rfl
  have h4:F7 c1 c2 c3 c4 c5 c6 c7 "NoTalk" = c4:=rfl
  have h5:F7 c1 c2 c3 c4 c5 c6 c7 "NoName" = c5:=rfl
  have h6:F7 c1 c2 c3 c4 c5 c6 c7 "NoText" = c6:=rfl
  have h7:F7 c1 c2 c3 c4 c5 c6 c7 "NoRow" = c7:=rfl
  refine C9 ?_ ?_ ?_ ?_ ?_ ?_ ?_ <;> refine C9 ?_ ?_ ?_ ?_ ?_ ?_ ?_ <;> intro e <;> first | rfl | (exfalso;rw [h1] at e) | (exfalso;rw [h2] at e) | (exfalso;rw [h3] at e) | (exfalso;rw [h4] at e) | (exfalso;rw [h5] at e) | (exfalso;rw [h6] at e) | (exfalso;rw [h7] at e)
  all_goals (first | rw [h1] at e | rw [h2] at e | rw [h3] at e | rw [h4] at e | rw [h5] at e | rw [h6] at e | rw [h7] at e)
  all_goals (first | contradiction | (have e:=e.symm;contradiction))
 refine ⟨mg_of X G p,.of_in q0,C9 a1 a2 a3 a4 a5 a6 a7,C9 (mg_of X G a1) (mg_of X G a2) (mg_of X G a3) (mg_of X G a4) (mg_of X G a5) (mg_of X G a6) (mg_of X G a7),C9 o1.cl o2.cl o3.cl o4.cl o5.cl o6.cl o7.cl,inj,?_,
  C9 o1.kp o2.kp o3.kp o4.kp o5.kp o6.kp o7.kp,C9 o1.gt o2.gt o3.gt o4.gt o5.gt o6.gt o7.gt,C9 o1.gc o2.gc o3.gc o4.gc o5.gc o6.gc o7.gc,C9 o1.na o2.na o3.na o4.na o5.na o6.na o7.na,C9 o1.nd o2.nd o3.nd o4.nd o5.nd o6.nd o7.nd⟩
 simp only [List.nodup_cons,List.mem_cons,List.not_mem_nil,or_false,not_or] at nd
 obtain ⟨⟨n1,n2,n3,n4,n5,n6,n7⟩,_⟩:=nd
 exact C9 (Ne.symm n1) (Ne.symm n2) (Ne.symm n3) (Ne.symm n4) (Ne.symm n5) (Ne.symm n6) (Ne.symm n7)
noncomputable def E8 (s:Stmt) (k:Nat):Stmt:=match s with
 | .ClassDef _ _ _ body _ _ _ _ _ _ _=>body.getD k (.Pass ⟨0,0,0,0⟩)
 | _=>.Pass ⟨0,0,0,0⟩
noncomputable def MR (K:PySem.W.Frag) (C f:Addr):Bool:=match clsIn K C with
 | some cd=>nsIn K cd.ns "__init__" == some (some (.ref f))
 | none=>false
noncomputable def JH (K:PySem.W.Frag) (C:Addr):Bool:=match clsIn K C with
 | some cd=>nsIn K cd.ns "__init__" == some none
 | none=>false
theorem QS {K:PySem.W.Frag} {C:Addr} (h:JH K C=true):XN0 K C:=by
 unfold JH at h
 split at h
 ·next cd e=>exact ⟨cd,e,beq_iff_eq.mp h⟩
 ·cases h
end F2
namespace F2
open PySem L2 PySem.Spec PySem.W
inductive Kd where
 | pl | fr | ex | er
abbrev okK (k:Kd) (P:Program) (w:World) (K:PySem.W.Frag) (mg:Str->Option Value) (base:Heap) (n:Nat) (fa:Addr) (fd:FuncData) (ps:List Str) (f:Fn):Prop:=match k with
 | .pl=>FnOk P w K mg base CX0 n fa fd ps (spF K f)
 | .fr=>FnOk P w K mg base CX0 n fa fd ps (Ja K f)
 | .ex=>FnOk P w K mg base (CX1 true P w) n fa fd ps (spX K f)
 | .er=>FnOk P w K mg base (CX1 false P w) n fa fd ps (spX K f)
section
variable {X:Cx} {e a b:Expr} {pos:Pos} {f g:M D}
theorem Cq {E:XK} (h:PE X e (RE X.K f)):PS X (.Return (some e) pos) (RSg X.K (μX X.K E) (AQ (nxD f))):=
 Cc (Hs h) λD Z H ⟨Oo,c,t,fi,o,t',eq,k⟩=>by
  obtain ⟨d,t1,e1,eq⟩:=Au eq
  cases eq
  obtain ⟨e2,e3⟩:=M3 e1
  exact ⟨Oo,c,t,fi,d,_,e2,λv H1 c1 f1 s1 rv=>PX e3 (k Z H1 c1 f1 s1 v rv)⟩
end
theorem Qe {K:PySem.W.Frag}:∀(c:Cf) (H:Hp) (r:D) (rt:V->Hp->Prop),BR r=false->(∀v,Rep K c H v r->rt v H)=μR K c H r rt:=λ_ _ _ _ _=>rfl
theorem Vp {K:PySem.W.Frag} {E:XK}:∀(c:Cf) (H:Hp) (r:D) (rt:V->Hp->Prop),BR r=false->(∀v,Rep K c H v r->rt v H)=μX K E c H r rt:=λc H r rt h=>by
 unfold μX
 rw [h];rfl
variable {qx:Bool}
section
variable {X:Cx} {P:Addr} {ca:Str->Addr} {a:Expr} {es:List Expr} {f:M D} {p pos q:Pos} {i:Nat} {ns:List Str}
end
end F2
namespace F2
open PySem L2 PySem.Spec SeqAt
end F2
namespace L2
open PySem PySem.Spec PyProof.Rows PySem.W PySem.Builtin PySem.Builtin.ObjectAttr
variable {qx:Bool}
section
variable {prog:Program} {w:World} {A:Around} {s:Shared} {K:PySem.W.Frag} {x C P dx:Addr} {ox:Obj} {od:Option Obj} {R:Result->Shared->Prop} {name:Str} {v:Value} {tk:Tok} {cd:ClassData}
theorem Rz (X:K.In s.heap) (I:InstAt s.heap x ox C od) (hc:clsIn K C=some cd) (hmr:cd.mro=FX C P) (ha:findIn K (.ref C) name=some none)
 (h:wpAny (model prog w) A.in1 (storeInOwnDict (.ref x) (.ref C) (.str name tk) name v false) (λfin s'=>match fin with | .done f=>R (.ok f) s' | .again c'=>c'.quiet=true/\codeAny (model prog w) A c' R s') (λe s'=>R (.error e) s') s) :
 codeAny (model prog w) A (.call (.builtin "object.__setattr__") ⟨[.ref x,.str name tk,v],[]⟩) R s:=by
 have SF:=PySem.F.store_object
 have ob:Looks (model prog w) s.heap (isInstance (.ref x) (.type "object")) true:=I.type.andThen (looks_mroIn X (by unfold mroIn;rw [hc,Option.bind_some,hmr];rfl))
 refine codeAny_call_builtin SF.slot.plain SF.entry (@check_slot (model prog w) _ _ s "object.__setattr__" "object" "__setattr__" (.ref x) [.str name tk,v] [] _ SF.kind SF.split ob (SF.args (.ref x) (.str name tk) v) ?_)
 have mr:Looks (model prog w) s.heap (mroOf (.ref C)) (FX C P):=by rw [<-hmr];exact (looks_clsIn X hc).andThen .now
 rw [osa_eq,refuse_eq]
 refine wpAny_bind (wpAny_bind (I.type.here (wpAny_bind (mr.here ?_))))
 rw [JT]
 refine wpAny_pure (wpAny_bind (I.type.here (wpAny_bind ((looks_findIn X ha).here ?_))))
 exact wpAny_bind (wpAny_pure h)
theorem R9 {E:Value->Shared->Prop} {Q:Unit->Shared->Prop} {m:Str->Option Value} {a:Str} {oD:Obj} (X:K.In s.heap) (hx:s.heap.get? x=some ox) (hcl:ox.cls = .ref C) (hno:notCls ox=true) (hod:ox.dict=some dx) (hdx:s.heap.get? dx=some oD) (n1:s.heap.Ns1 dx m) (hm:PySem.Within m [a]) (hs:findIn K (.ref C) "__setattr__" = some (some (.builtin "object.__setattr__"))) (hc:clsIn K C=some cd) (hmr:cd.mro=FX C P) (hd:cd.hasDict=true) (ha:findIn K (.ref C) name=some none)
 (h:∀h',(∀b o,b≠dx->s.heap.get? b=some o->h'.get? b=some o)->h'.Ns1 dx (λy=>if y=name then some v else m y)->Q () { s with heap:=h',toks:=s.toks + 2 }) :
 wpAny (model prog w) A (setAttr (.ref x) name v) Q E s:=by
 have I:InstAt s.heap x ox C (some oD):=⟨hx,hcl,hno,by rw [hod];exact hdx⟩
 refine set_plain X I hs (Rz (s:={ s with toks:=s.toks + 1 }) X I hc hmr ha ?_)
 refine wpAny_bind (wpAny_pure (wpAny_bind (wpAny_bind (wpAny_loadPart (s:={ s with toks:=s.toks + 1 }) hx ?_))))
 rw [hod,hcl]
 refine wpAny_bind (Looks.here (s:={ s with toks:=s.toks + 1 }) (looks_clsIn X hc) ?_)
 rw [hd,if_neg (by decide)]
 refine wpAny_pure ?_
 refine wpAny_bind (wpAny_pure (wpAny_bind ?_))
 refine wpAny_nsSet1 n1 λh' n2 sb=>?_
 obtain ⟨oD,esD,epD,hoD,hdD,hcD⟩:=n2.count (PySem.Within.cons name v hm)
 refine wpAny_bind (wpAny_lookBehind hoD (by rw [hdD];exact pastItsLine_dict (Nat.le_trans hcD (by show 2<=_;decide))) ?_)
 exact wpAny_pure (h h' (λb o hb e=>(sb.2 b hb).trans e) n2)
end
def Ym (K:PySem.W.Frag) (P:Addr) (ta tv:TE) (f1 f:Str):TS:=λD Z H=>tv Z H λy H1=>ta Z H1 λx H2=>∃a C tp dx y1,x = .ref a/\H2 a=some (F8 a C tp dx)/\H2 dx=some (.xd [(f1,y1)])/\dx≠a/\XAt K C P f/\D.nx Z (upd H2 dx (.xd [(f1,y1),(f,y)]))
theorem Qu {X:Cx} {P:Addr} {o value:Expr} {ta tv:TE} {f1 f:Str} {pos' pos:Pos} (hf:f1≠f) (ha:PE X o ta) (hv:PE X value tv) (hs:swapsWith value (some (.Attribute o f pos')) pos.line X.env=pure false):PS X (.Assign [.Attribute o f pos'] value pos) (Ym X.K P ta tv f1 f):=by
 intro pins s Z H D I h
 refine plainObj_wpAny_Assign_Attribute (thn (hv pins s Z H _ I h) λu s1 ⟨y,H1,I1,ry,q⟩=>thn (ha pins s1 Z H1 _ I1 q) λov s2 ⟨x,H2,I2,rx,a,C,tp,dx,y1,ex,ea,ed,ne,c,q2⟩=>?_) hs
 subst ex
 obtain rfl:ov=Value.ref a:=rx
 obtain ⟨cd,c1,c2,c3⟩:=c.cl.cls
 have hx:s2.heap.get? a=some { excObj C tp with dict:=some dx }:=(I2.hok a _ ea).1
 obtain ⟨m,n1,rm⟩:=(show ObjOk X.prog X.w H2 s2.heap dx (.xd [(f1,y1)]) from I2.hok dx _ ed)
 obtain ⟨oD,ho,_⟩:=F0 n1
 have hw:PySem.Within m [f1]:=λg hg=>by
  by_cases e:g=f1
  ·simp [e]
  ·exfalso
   have z:=rm g
   have hgb:(g == f1)=false:=beq_eq_false_iff_ne.mpr e
   simp only [List.lookup,hgb] at z
   cases hm:m g with
   | none=>exact hg hm
   | some u=>rw [hm] at z;exact z
 refine R9 I2.kIn hx rfl rfl rfl ho n1 hw c.set c1 c2 c3 c.no λh' k n=>?_
 have na:∀b u,s2.heap.get? b=some u->H2 b=none->b≠dx:=λb u _ z w'=>by rw [w',ed] at z;cases z
 refine ⟨Z,_,I2.un (h':=h') (t':=s2.toks + 2) ⟨λb u e1 e2 _ _=>k b u (na b u e1 e2) e1,λb u e1 e2 _ _=>⟨u.slots,k b u (na b u e1 e2) e1⟩,λb u e1 e2 _=>?_,λb u e1 _=>?_,λb xs e1=>?_,λb o' u e1=>?_,λb ps e1=>⟨#[],?_⟩⟩ λb u e1=>?_,q2⟩
 ·rw [Ar (na b u e1 e2)];exact e2
 ·by_cases hb:b=dx
  ·subst hb;obtain ⟨od',es,ep,e,_⟩:=n;exact ⟨_,e⟩
  ·exact ⟨_,k b u hb e1⟩
 ·rw [Ar (λz=>by rw [z,ed] at e1;cases e1)];exact e1
 ·rw [Ar (λz=>by rw [z,ed] at e1;cases e1)];exact e1
 ·rw [Ar (λz=>by rw [z,ed] at e1;cases e1),e1];simp
 ·by_cases hb:b=dx
  ·subst hb;rw [Az] at e1;cases e1
   refine ⟨_,n,λg=>?_⟩
   by_cases hg:g=f
   ·subst hg
    have hgb:(g == f1)=false:=beq_eq_false_iff_ne.mpr (Ne.symm hf)
    simp only [List.lookup,hgb,beq_self_eq_true,if_true];exact ry
   ·have hgb:(g == f)=false:=beq_eq_false_iff_ne.mpr hg
    have z:=rm g
    by_cases hg1:g=f1
    ·subst hg1
     simp only [List.lookup,beq_self_eq_true] at z
     simp only [List.lookup,beq_self_eq_true,if_neg hg];exact z
    ·have hgb1:(g == f1)=false:=beq_eq_false_iff_ne.mpr hg1
     simp only [List.lookup,hgb1] at z
     simp only [List.lookup,hgb,hgb1,if_neg hg];exact z
  ·rw [Ar hb] at e1
   refine (I2.hok b u e1).stay (λz v hz q=>k z v ?_ q) (λz q=>?_) λz xs q=>?_
   ·rcases hz with rfl | hz
    ·exact hb
    ·intro w';rw [w',ed] at hz;cases hz
   ·rw [Ar (λz=>by rw [z,ed] at q;cases q)];exact q
   ·rw [Ar (λz=>by rw [z,ed] at q;cases q)];exact q
def Hy (K:PySem.W.Frag) (P:Addr) (a b:Str):Sp:=λvs H Q _=>∃x C tp v u,vs=[.ref x,v,u]/\H x=some (exO x C tp)/\XAt K C P a/\XAt K C P b/\∀dx,H dx=none->dx≠x->Q .non (upd (upd H dx (.xd [(a,v),(b,u)])) x (F8 x C tp dx))
section
variable {X:Cx} {k:Nat} {f C P:Addr} {fd:FuncData} {pins:List (Addr×Obj)} {Z:St} {H:Hp} {s:Shared} {Q:Value->Shared->Prop} {us:List Value} {vs:List V} {a b:Str} {ps:List Str} {v v2:V} {u u2:Value}
theorem O3 (M:XMk X.K C P f) (ha:XAt X.K C P a) (hab:XAt X.K C P b) (F:FnOk X.prog X.w X.K X.mg X.base CX0 k f fd ps (Hy X.K P a b)) (hr:Room (k + 1) X.A) (hb:Binds X.K fd ps []) (I:Inv X pins Z H s) (r:RelV v u) (rr:RelV v2 u2)
 (h:∀s' x dx,Inv X pins Z (upd (upd H dx (.xd [(a,v),(b,v2)])) x (.ext (F2.XIs qx x C (some dx)))) s'->H x=none->H dx=none->dx≠x->s.heap.objs.size<=x->XRec true s'.heap x C (some dx) .none->Q (.ref x) s'):wpAny (model X.prog X.w) X.A (call (.ref C) [u,u2]) Q X.xe s:=by
 obtain ⟨nm,q,N,bs,sn,sub,ab,col,dd,k0,k1,k2,k3,k5,hC,hN⟩:=M.cl.obj I.kIn
 have hni:s.heap.nsMap N "__init__" = some (.ref f):=by
  obtain ⟨cd,c1,c2⟩:=M.init
  refine JI I.kIn hN ?_
  unfold clsIn at c1
  split at c1
  ·next l=>
   cases c1
   have z:=I.kIn _ _ l
   rw [hC] at z
   cases z
   exact c2
  ·cases c1
 have I1:Inv X pins Z (upd H (s.heap.objs.size + 1) (exO (s.heap.objs.size + 1) C s.heap.objs.size)) { s with heap:=D5 s.heap C [u,u2] }:=by
  refine I.laid (t':=s.toks) (λb o e=>Heap.get?_push_of_some _ (Heap.get?_push_of_some _ e)) (Nat.le_succ _) (PC ?_)
  show ((s.heap.push _).push _).get? _=_
  heap_get
 have hx0:=I.hok.fresh (Nat.le_succ s.heap.objs.size)
 have r2:Vals [V.ref (s.heap.objs.size + 1),v,v2] [Value.ref (s.heap.objs.size + 1),u,u2]:=.cons rfl (.cons r (.cons rr .nil))
 have hsp:Hy X.K P a b [V.ref (s.heap.objs.size + 1),v,v2] (upd H (s.heap.objs.size + 1) (exO (s.heap.objs.size + 1) C s.heap.objs.size))
  (λw' H'=>w' = .non/\∃dx,H dx=none/\dx≠s.heap.objs.size + 1/\H'=upd (upd H dx (.xd [(a,v),(b,v2)])) (s.heap.objs.size + 1) (F8 (s.heap.objs.size + 1) C s.heap.objs.size dx)) E0:=by
  refine ⟨_,C,s.heap.objs.size,v,v2,rfl,Az,ha,hab,λdx h1 h2=>⟨rfl,dx,by rw [Ar h2] at h1;exact h1,h2,?_⟩⟩
  funext b
  by_cases e1:b=s.heap.objs.size + 1
  ·subst e1;rw [Az,Az]
  ·by_cases e2:b=dx
   ·subst e2;rw [Ar e1,Ar e1,Az,Az]
   ·rw [Ar e1,Ar e1,Ar e2,Ar e2,Ar e1]
 have hl:([Value.ref (s.heap.objs.size + 1),u,u2]++[]).length=ps.length:=by
  have e:=F.len _ _ _ _ hsp
  simpa using e
 obtain ⟨hh,g,d,t,os⟩:=s
 refine wpAny_call (MY PySem.F.excBase_ValueError (M.cl.tail I.kIn) hC hN hni ((bind_fn I.kIn _ (beq_iff_eq.mp M.fn))) (by show 2<=sizeLine;decide) ?_)
 refine codeAny_mono (F.run _ X.stack _ _ ⟨[Value.ref (hh.objs.size + 1),u,u2],[]⟩ [Value.ref (hh.objs.size + 1),u,u2] _ _ E0 (hr.make C [u,u2] []) (I1.env0.make C [u,u2] []) (by have:=hb _ [Value.ref (hh.objs.size + 1),u,u2] I1.kIn hl;simpa using this) r2 hsp) λr s' hq'=>?_
 cases r with
 | error e=>exact hq'.elim
 | ok fl=>
   cases fl with
   | ret w'=>
     obtain ⟨v',H',I3,rv,rfl,dx,d1,d2,rfl⟩:=I1.after hq'
     refine ⟨rv,?_⟩
     have hx:=(I3.hok (hh.objs.size + 1) _ Az).1
     have hx:s'.heap.get? (hh.objs.size + 1)=some { excObj C hh.objs.size with dict:=some dx }:=hx
     have xr:XRec true s'.heap (hh.objs.size + 1) C (some dx) .none:=⟨_,_,hx,rfl,rfl,rfl,rfl,λ_=>⟨rfl,by show 4 < 6;decide⟩⟩
     have I4:=I3.write (x:=hh.objs.size + 1) (e:=hh.objs.size + 1) (o:=.ext (F2.XIs qx (hh.objs.size + 1) C (some dx))) (h':=s'.heap) (t':=s'.toks) (by rw [Az];trivial) (.inl rfl) (λ_ _ _ z=>z) ⟨_,hx⟩ (Jr xr.to.is)
     rw [Oh] at I4
     exact h s' (hh.objs.size + 1) dx I4 hx0 d1 d2 (Nat.le_succ _) xr
   | next=>exact False.elim hq'
   | brk=>exact False.elim hq'
   | cont=>exact False.elim hq'
end
section
variable {X:Cx} {k:Nat} {f C P:Addr} {fd:FuncData} {a b:Str} {ps:List Str} {n:Str} {p pos:Pos} {e e':Expr}
theorem VI {t:TA} (M:XMk X.K C P f) (ha:XAt X.K C P a) (hab:XAt X.K C P b) (F:FnOk X.prog X.w X.K X.mg X.base CX0 k f fd ps (Hy X.K P a b)) (hr:Room (k + 1) X.A) (hb:Binds X.K fd ps []) (hg:Gl X n) (hm:X.mg n=some (.ref C)) (hA:PA X [e,e'] t)
 (hdb:(n == ("__debug__" : Str))=false:=by decide) (h1:starEach [e,e'] X.env=(false,eval e X.env) :: starEach [e'] X.env:=by rfl) (hpl:(backTo pos (starEach [e'] X.env)).any (·.1)=false:=by rfl) :
 PM qx X (.Call (.Name n p) [e,e'] [] pos) C (λZ H Q=>t Z H λvs H1=>∃v u,vs=[v,u]/\∀x dx,H1 x=none->H1 dx=none->dx≠x->Q x (some dx) (upd (upd H1 dx (.xd [(a,v),(b,u)])) x (.ext (F2.XIs qx x C (some dx))))):=by
 intro pins s Z H Q I h
 refine wpAny_Call_Name_kw (DO I hg hm ?_ hdb)
 refine PySem.W.callWith_K (h₀:=X.base) I.ok.mod.kin M.kp (thn (hA pos pins s Z H _ I h) λus s1 ⟨vs,H1,I1,r,v,u,ev,q⟩=>⟨I1.kIn,?_⟩) h1 hpl
 subst ev
 cases r with
 | cons r0 rs=>
   cases rs with
   | cons r1 rs=>
     cases rs
     exact O3 M ha hab F hr hb I1 r0 r1 λs' x dx I' hx hdx ne nx rc=>⟨x,some dx,_,rfl,I',Az,Nat.le_trans I1.sz nx,rc,q x dx hx hdx ne⟩
end
end L2
namespace F2
open PySem L2 PySem.Spec PySem.W
variable {qx:Bool}
section
variable {X:Cx} {e e':Expr} {pos p pos2:Pos} {E:L2.St->XK} {P:Addr} {ca:Str->Addr}
def XN2 (prog:Program) (w:World) (K:PySem.W.Frag) (mg:Str->Option Value) (base:Heap) (C P:Addr):Prop:=
 ∃(f:Addr) (fd:FuncData) (ps:List Str),XMk K C P f/\XAt K C P "at"/\XAt K C P "side"/\Binds K fd ps []/\FnOk prog w K mg base CX0 1 f fd ps (Hy K P "at" "side")
def EG (n:Str) (f:M (List D)):M Out:=bnd f λds=>match ds with
 | [d,d']=>ret (.ret (.exc n [d,d']))
 | _=>fail
theorem FZ {f:M (List D)} (x:XM X.K X.mg P ca) (xn:XN2 X.prog X.w X.K X.mg X.base (ca "Broken") P) (hr:L2.Room 2 X.A) (hc:X.calm=true) (hx:Gf qx X E) (hg:Gl X "Broken") (ha:PA X [e,e'] (RA X.K f))
 (h1:B3 e=false:=by rfl) (h2:Ce [e']=true:=by rfl):PS X (.Raise (some (.Call (.Name "Broken" p) [e,e'] [] pos)) none pos2) (RSX X.K E (EG "Broken" f)):=by
 obtain ⟨fa,fd,ps,M,A,A2,B,F⟩:=xn
 have hn:("Broken" : Str)∈BW:=by decide
 refine Cc (Nb hc M.cl hx (VI M A A2 F hr B hg (x.ms _ hn) ha (by decide) (BM h1) (BJ h2).1)) λD Z H ⟨Oo,c,t,fi,o,t',eq,k⟩=>?_
 obtain ⟨ds,t1,e1,eq⟩:=Au eq
 refine ⟨Oo,c,t,fi,ds,t1,e1,λvs H1 c1 f1 s1 rvs=>?_⟩
 rcases ds with _ | ⟨d,_ | ⟨d',_ | ⟨_,_⟩⟩⟩
 ·cases eq
 ·cases eq
 ·cases rvs with
  | @cons v0 _ _ _ rv r=>
  cases r with
  | @cons v1 _ _ _ rv1 r=>
  cases r
  cases eq
  refine ⟨_,_,rfl,λy dx hy hdx ne=>?_⟩
  have f2:=f1.laid (o:=.xd [("at",v0),("side",v1)]) hdx
  have hy2:upd H1 dx (.xd [("at",v0),("side",v1)]) y=none:=by rw [Ar (Ne.symm ne)];exact hy
  have f3:=f2.laid (o:=.ext (XIs qx y (ca "Broken") (some dx))) hy2
  have ex:=(f1.stp_laid (o:=.xd [("at",v0),("side",v1)]) hdx).ext.trans (f2.stp_laid (o:=.ext (XIs qx y (ca "Broken") (some dx))) hy2).ext
  have s3:=s1.trans ((f1.stp_laid (o:=.xd [("at",v0),("side",v1)]) hdx).trans (f2.stp_laid (o:=.ext (XIs qx y (ca "Broken") (some dx))) hy2))
  refine k Z _ c1 f3 s3 (.ref y) (.exc (x.ns _ hn) Az (f2.s.free hy2) ?_ (.cons (rv.mono ex) (.cons (rv1.mono ex) .nil))) y (some dx) rfl
  exact ⟨by rw [Ar ne,Az];rfl,f1.s.free hdx⟩
 ·cases eq
end
def XF2 (K:PySem.W.Frag) (C P:Addr) (qual:Str) (st:Stmt):Prop:=∃(f:Addr) (fd:FuncData),XMk K C P f/\XAt K C P "at"/\XAt K C P "side"/\Binds K fd ["self", "at", "side"] []/\Fun K "__init__" qual st f fd
theorem WC {K:PySem.W.Frag} {C P f:Addr} {qual:Str} {st:Stmt} {od an:Option Addr} {sl:Array (Option Value)} {oc kV dc pm cd ct:Value} (o:XOne K P C) (i:MR K C f=true) (hf:isFn K (.ref f)=true) (hs:findIn K (.ref C) "__setattr__" = some (some (.builtin "object.__setattr__")))
 (l:K.lookup f=some ⟨oc,od,.func (PySem.W.fnOf "__init__" qual (Eg st) (B9 st) (Ao st) .none kV dc pm an cd ct),sl⟩) (c:codeIn K cd qual=true) (k:keepIn K (.ref f)=true)
 (hb:∀(kV doc pm:Value) (an:Option Addr) (cdv ct:Value) (us:List Value),us.length=3->bindArgs (PySem.W.fnOf "__init__" qual (Eg st) (B9 st) (Ao st) .none kV doc pm an cdv ct) ⟨us,[]⟩=pure ((["self", "at", "side"]:List Str).zip us)):XF2 K C P qual st:=by
 refine ⟨f,_,⟨o.cl,?_,hf,o.kp⟩,⟨o.cl,hs,o.na⟩,⟨o.cl,hs,o.nd⟩,(Jx (st:=st) l c k).binds (ps:=["self", "at", "side"]) hb,Jx (st:=st) l c k⟩
 unfold MR at i
 split at i
 ·next cd' e=>exact ⟨cd',e,beq_iff_eq.mp i⟩
 ·cases i
theorem GN {prog:Program} {w:World} {K:PySem.W.Frag} {mg:Str->Option Value} {base:Heap} {C P:Addr} {qual:Str} {st:Stmt} {p1 p2 p3 p4 p5 p6 p7 p8:Pos} (hbd:B9 st=[.Assign [.Attribute (.Name "self" p1) "at" p2] (.Name "at" p3) p4,.Assign [.Attribute (.Name "self" p5) "side" p6] (.Name "side" p7) p8]) (S:FnScope ["self", "at", "side"] ["self", "at", "side"] (Ao st))
 (s1:(Ao st).names.lookup ("self" : Str)=some NameKind.local) (s2:(Ao st).names.lookup ("at" : Str)=some NameKind.local) (s3:(Ao st).names.lookup ("side" : Str)=some NameKind.local) (x:XF2 K C P qual st):XN2 prog w K mg base C P:=by
 obtain ⟨f,fd,M,A,A2,B,F⟩:=x
 refine ⟨f,fd,_,M,A,A2,B,F.ok (k:=0) S (λvs H Q E h=>?_) λcdv A' outer s H vs Q E hr h=>?_⟩
 ·obtain ⟨y,C',tp,v,u,rfl,_⟩:=h;rfl
 ·rw [hbd]
  refine ⟨_,IQ (SI (P:=P) (Du (i:=0) rfl (.inl s1) (by decide) (by decide)) (Du (i:=1) rfl (.inl s2) (by decide) (by decide)) rfl) (HS (Qu (P:=P) (f1:="at") (by decide) (Du (i:=0) rfl (.inl s1) (by decide) (by decide)) (Du (i:=2) rfl (.inl s3) (by decide) (by decide)) rfl)),?_⟩
  obtain ⟨y,C',tp,v,u,rfl,hy,ha,ha2,k⟩:=h
  refine ⟨v,rfl,.ref y,rfl,y,C',tp,rfl,hy,ha,λdx h1 h2=>⟨u,rfl,.ref y,rfl,y,C',tp,dx,v,rfl,Az,by rw [Ar h2,Az],h2,ha2,?_⟩⟩
  have z:=k dx h1 h2
  have e:upd (upd (upd H dx (.xd [("at",v)])) y (F8 y C' tp dx)) dx (.xd [("at",v),("side",u)])=upd (upd H dx (.xd [("at",v),("side",u)])) y (F8 y C' tp dx):=by
   funext b
   by_cases e1:b=dx
   ·subst e1;rw [Az,Ar h2,Az]
   ·by_cases e2:b=y
    ·subst e2;rw [Ar e1,Az,Az]
    ·rw [Ar e1,Ar e2,Ar e1,Ar e2,Ar e1]
  rw [e]
  exact z
end F2
namespace L2
open PySem PySem.Spec PyProof.Rows PySem.W
end L2
namespace F2
open PySem L2 PySem.Spec
section
variable {X:Cx} {a b:Expr} {pos:Pos}
end
end F2
namespace L2
open PySem PySem.Spec PyProof.Rows PySem.W
theorem Lm:entryFor table "proto.unchain" = some Builtin.«proto.unchain»:=entryFor_of_tree (by kernel_rfl)
section
variable {prog:Program} {w:World} {A:Around} {E:Value->Shared->Prop} {env:Env} {K:PySem.W.Frag} {C:Addr} {bm:List Value} {s:Shared}
theorem Pc {x y:Addr} {ox:Obj} {vx:Array Value} {Q:Value->Shared->Prop} (gx:s.heap.get? x=some ox) (dx:ox.data = .fields vx) (x2:vx[2]?=some .none) (h:Q .none s) :
 wpAny (model prog w) A (runValue (.builtin "proto.unchain" ⟨[.ref y,.ref x,.ref x,.bool false],[]⟩)) Q E s:=by
 refine runValue_entry Lm ?_
 unfold Builtin.«proto.unchain»
 refine wpAny_bind (wpAny_field gx dx x2 ?_)
 rw [if_pos (by decide)]
 refine wpAny_bind (wpAny_pure (wpAny_pure ⟨_,rfl,h⟩))
theorem R5 {t c0:Sem Value} {x:Addr} {Q:Flow->Shared->Prop} (c:XCl K C bm) (hh:A.handled=some (.ref x))
 (hc0:∀(s:Shared) (Q:Value->Shared->Prop) (E:Value->Shared->Prop),Q Value.none s->wpAny (model prog w) A c0 Q E s)
 (h:wpAny (model prog w) A t (λv s1=>∃y dy ox vx,v = .ref y/\y≠x/\K.In s1.heap/\XRec true s1.heap y C dy .none/\s1.heap.get? x=some ox/\ox.data = .fields vx/\vx[2]?=some .none/\
   ∀h',XRec false h' y C dy .none->(∀b,b≠y->h'.get? b=s1.heap.get? b)->E v { s1 with heap:=h' }) E s):wpAny (model prog w) A (raiseStmt env (some t) (some c0)) Q E s:=by
 unfold raiseStmt
 refine wpAny_bind (wpAny_mono h (λv s1 q=>?_) λ_ _ z=>z)
 obtain ⟨y,dy,ox,vx,rfl,ne,X,⟨o,vs,hx,hc,hd,hdt,h1,h2⟩,gx,dx,x2,hE⟩:=q
 obtain ⟨h2,h4⟩:=h2 rfl
 obtain ⟨nm,q,N,bs,sn,sub,ab,col,dd,k0,k1,k2,k3,k5,hC,_⟩:=c.obj X
 have hb:=c.has X
 obtain ⟨hp,g,d,tk,os⟩:=s1
 refine wpAny_bind (wpAny_holding (hc0 _ _ _ (wpAny_bind (wpAny_pure ?_))))
 repeat (first
  | (with_reducible refine wpAny_loadPart_at hx ?_;rw [hc])
  | with_reducible refine wpAny_loadPart_at hC ?_
  | (with_reducible refine wpAny_isSubtype_exc hC ?_;rw [hb])
  | with_reducible refine wpAny_field hx hdt h1 ?_
  | wp_step)
 have nC:C≠y:=by
  rintro rfl
  rw [hC] at hx
  cases hx
  cases hdt
 rw [hdt]
 show wpAny _ _ (if 3 < vs.size then _ else _) _ _ _
 rw [if_pos (Nat.lt_of_succ_lt h4)]
 refine wpAny_update hx ?_
 obtain ⟨m1,m2,m3⟩:=FK hdt (·.setIfInBounds 3 Value.none)
 have hx1:=Heap.get?_update_self (Obj.mapFields (·.setIfInBounds 3 Value.none)) hx (Obj.isFreed_of_fields m1)
 refine wpAny_bind (wpAny_setField hx1 m1 (by rw [Array.size_setIfInBounds];exact h4) ?_)
 obtain ⟨n1,n2,n3⟩:=FK m1 (·.setIfInBounds 4 (Value.bool true))
 have hx2:=Heap.get?_update_self (Obj.mapFields (·.setIfInBounds 4 (Value.bool true))) hx1 (Obj.isFreed_of_fields n1)
 have oth:∀b,b≠y->((hp.update y (Obj.mapFields (·.setIfInBounds 3 Value.none))).update y (Obj.mapFields (·.setIfInBounds 4 (Value.bool true)))).get? b=hp.get? b:=λb z=>by
  rw [Heap.get?_update_other _ _ (Ne.symm z),Heap.get?_update_other _ _ (Ne.symm z)]
 have hC2:=(oth C nC).trans hC
 have gx2:=(oth x (Ne.symm ne)).trans gx
 have hc2:=n2.trans (m2.trans hc)
 have hd2:=n3.trans (m3.trans hd)
 have t1:((vs.setIfInBounds 3 Value.none).setIfInBounds 4 (Value.bool true))[1]?=some .none:=by
  rw [Array.getElem?_setIfInBounds_ne (by decide),Array.getElem?_setIfInBounds_ne (by decide)];exact h1
 have t4:2 < ((vs.setIfInBounds 3 Value.none).setIfInBounds 4 (Value.bool true)).size:=by
  rw [Array.size_setIfInBounds,Array.size_setIfInBounds];lia
 show wpAny (model prog w) A _ Q E ⟨(hp.update y (Obj.mapFields (·.setIfInBounds 3 Value.none))).update y (Obj.mapFields (·.setIfInBounds 4 (Value.bool true))),g,d,tk,os⟩
 generalize (hp.update y (Obj.mapFields (·.setIfInBounds 3 Value.none))).update y (Obj.mapFields (·.setIfInBounds 4 (Value.bool true)))=h3 at hx2 oth hC2 gx2
 generalize ((o.mapFields (·.setIfInBounds 3 Value.none)).mapFields (·.setIfInBounds 4 (Value.bool true)))=o2 at hx2 hc2 hd2 n1
 generalize ((vs.setIfInBounds 3 Value.none).setIfInBounds 4 (Value.bool true))=vs2 at n1 t1 t4
 clear hx1 m1 m2 m3 n2 n3
 repeat (first
  | (with_reducible refine wpAny_loadPart_at hx2 ?_;rw [hc2])
  | with_reducible refine wpAny_loadPart_at hC2 ?_
  | (with_reducible refine wpAny_isSubtype_exc hC2 ?_;rw [hb])
  | with_reducible refine wpAny_field hx2 n1 t1 ?_
  | wp_step)
 unfold raiseNew
 refine wpAny_bind (wpAny_handled ?_)
 rw [hh]
 dsimp only
 rw [if_pos (by simpa using Ne.symm ne)]
 refine wpAny_bind (wpAny_holding (Pc gx2 dx x2 (wpAny_bind ?_)))
 obtain ⟨z1,z2,z3⟩:=FK n1 (·.setIfInBounds 2 (Value.ref x))
 refine wpAny_setField hx2 n1 t4 ?_
 have hx3:=Heap.get?_update_self (Obj.mapFields (·.setIfInBounds 2 (Value.ref x))) hx2 (Obj.isFreed_of_fields z1)
 refine wpAny_throw (hE _ ⟨_,_,hx3,z2.trans hc2,z3.trans hd2,z1,?_,λz=>by cases z⟩ λb hb'=>?_)
 ·rw [Array.getElem?_setIfInBounds_ne (by decide)];exact t1
 ·rw [Heap.get?_update_other _ _ (Ne.symm hb')]
  exact oth b hb'
end
section
variable {X:Cx} {pins:List (Addr×Obj)} {Z:St} {H:Hp} {s s':Shared} {qx:Bool} {x C:Addr} {dx T:Option Addr} {fl:Value}
theorem XOn.keep (I:Inv X pins Z H s) (o:XOn qx X pins H s x C dx T fl) (k:∀b,b≠X.env.locals->(∀z c,X.env.cells.lookup z=some c->c≠b)->s'.heap.get? b=s.heap.get? b):XOn qx X pins H s' x C dx T fl:=by
 obtain ⟨ox,vs,gx,cx,dxe,dtx,tbx,xc⟩:=id o.rc
 have nl:x≠X.env.locals:=λz=>by have:=o.hx;rw [z,I.free] at this;cases this
 have nc:∀z c,X.env.cells.lookup z=some c->c≠x:=λz c e w=>by
  have:=o.hx
  rw [<-w,I.freeC z c e] at this
  cases this
 refine ⟨o.hx,o.nx,⟨ox,vs,(k x nl nc).trans gx,cx,dxe,dtx,tbx,xc⟩,λa e=>?_,o.fo⟩
 obtain ⟨z1,z2,z3,⟨y1,y2,y3⟩,ot,ts,gT,dT,t3⟩:=o.tb a e
 exact ⟨z1,z2,z3,⟨y1,y2,y3⟩,ot,ts,(k a y1 y2).trans gT,dT,t3⟩
theorem QN {M:Model} {A:Around} {E:Value->Shared->Prop} {i:Nat} {n:Str} {pos:Pos} {Q:Unit->Shared->Prop} (I:Inv X pins Z H s) (hN:X.N.Nodup) (hi:X.N[i]?=some n) (hk:X.env.scope.names.lookup n=some .local)
 (h:∀s',Inv X pins (Z.set i none) H s'->(∀b,b≠X.env.locals->(∀z c,X.env.cells.lookup z=some c->c≠b)->s'.heap.get? b=s.heap.get? b)->Q () s'):wpAny M A (do bindName X.env n .none;unbindBehindTheSuite X.env n pos) Q E s:=by
 refine wpAny_bind (wpAny_bindName (Lh (v:=.non) I hN hi (.inl hk) rfl (λs1 I1 sb1=>?_) (.inr hk)))
 obtain ⟨a1,sb1,ha1⟩:=sb1
 unfold unbindBehindTheSuite
 have hiZ:i < Z.length:=by rw [I.len];exact (List.getElem?_eq_some_iff.mp hi).1
 obtain ⟨m,hn,hl⟩:=id I1.loc
 have hcls:(X.env.scope.kind == .class || (X.env.scope.kind == .module && X.env.locals != X.env.globals))=false:=by rw [I.ok.kind];rfl
 obtain ⟨u0,_,lk⟩:=hl i n .non hi (by rw [List.getElem?_set_self hiZ]) (.inl hk)
 have hv:m n=some u0:=by
  rcases lk with ⟨_,e⟩ | ⟨k,_⟩
  ·exact e
  ·have k:X.env.scope.names.lookup n=some .cell\/X.env.scope.names.lookup n=some .free:=k
   rw [hk] at k;rcases k with k | k <;> cases k
 refine wpAny_onRaise (wpAny_unbindName_local hk hn hv hcls λh' u hn' hs=>?_)
 have cne:=I1.cne
 have tracked:HOk X.prog X.w H h':=λb ob e=>by
  refine (I1.hok b ob e).stay (λc w' hc q=>(hs.2 c ?_).trans q) (λ_ q=>q) λ_ _ q=>q
  rintro rfl
  rcases hc with rfl | hc
  ·rw [I1.free] at e;cases e
  ·rw [I1.free] at hc;cases hc
 have far:∀b o,X.s₀.heap.get? b=some o->b≠X.env.locals:=λb o e=>Nat.ne_of_lt (Nat.lt_of_lt_of_le (Heap.lt_size e) I1.ok.above)
 refine h _ ⟨I1.ok,I1.os,I1.bare,⟨λb o e n hb hx=>?_,λb o e n hb hx=>?_,I1.base.free,λb o e hx=>?_,I1.base.tups,I1.base.frzs,I1.base.tbls⟩,⟨_,hn',λj y v' e1 e2 e3=>?_⟩,λy c e=>?_,I1.free,I1.freeC,λp hp=>?_,tracked,by simpa using I.len⟩ λb hb hc=>?_
 ·exact (hs.2 b (far b o e)).trans (I1.base.keep b o e n hb hx)
 ·obtain ⟨sl,e1⟩:=I1.base.slot b o e n hb hx
  exact ⟨sl,(hs.2 b (far b o e)).trans e1⟩
 ·obtain ⟨o',e1⟩:=I1.base.there b o e hx
  exact ⟨o',(hs.2 b (far b o e)).trans e1⟩
 ·by_cases hj:j=i
  ·subst hj
   rw [List.getElem?_set_self hiZ] at e2
   cases e2
  ·rw [List.getElem?_set_ne (Ne.symm hj)] at e2
   obtain ⟨u',r',q⟩:=hl j y v' e1 (by rw [List.getElem?_set_ne (Ne.symm hj)];exact e2) e3
   refine ⟨u',r',?_⟩
   rcases q with ⟨k,e⟩ | ⟨k,c,e,z⟩
   ·refine .inl ⟨k,?_⟩
    have:y≠n:=λe=>hj (GR hN e1 (e ▸ hi))
    simp [this,e]
   ·exact .inr ⟨k,c,e,z.sameBut hs (cne y c e)⟩
 ·obtain ⟨w',z⟩:=I1.cell y c e
  exact ⟨w',z.sameBut hs (cne y c e)⟩
 ·obtain ⟨e,n,ne,nf,d⟩:=I1.pin p hp
  exact ⟨(hs.2 p.1 ne).trans e,n,ne,nf,d⟩
 ·rw [hs.2 b hb]
  refine sb1.2 b ?_
  rintro rfl
  rcases ha1 with z | z
  ·exact hb z
  ·exact hc _ _ z rfl
end
def HF (X:Cx) (E:St->XK):Prop:=∀(pins:List (Addr×Obj)) (Z:St) (H:Hp) (s:Shared) (x C:Addr) (dx T:Option Addr) (fl:Value),Inv X pins Z H s->XOn false X pins H s x C dx T fl->E Z (.ref x) dx H->X.xe (.ref x) s
theorem XE.raisesT {X:Cx} {E:St->XK}:HF (X.wish (XE false X E)) E:=λpins Z H s x C dx T fl I o q=>⟨pins,Z,H,x,C,dx,T,fl,rfl,I.unwish,⟨o.hx,o.nx,o.rc,o.tb,o.fo⟩,q⟩
section
variable {X:Cx} {n v:Str} {C' C2:Addr} {bm' bm2:List Value} {p pos p2:Pos} {e cN:Expr} {rest:List ExceptHandler} {t:St->Hp->(Addr->Option Addr->Hp->Prop)->Prop} {tr:Addr->Addr->Option Addr->TS} {i:Nat} {E:St->XK}
def Ys (K:PySem.W.Frag) (C':Addr) (i:Nat) (t:St->Hp->(Addr->Option Addr->Hp->Prop)->Prop) (E:St->XK) (tr:Addr->Addr->Option Addr->TS):Addr->Addr->Option Addr->TS:=λx C dx D Z H=>∃bm,XCl K C bm/\
 if (Value.ref C :: bm).contains (.ref C')=true then t (Z.set i (some (.ref x))) H (λy dy H1=>y≠x/\H1 x=some (.ext (F2.XIs true x C dx))/\E ((Z.set i (some (.ref x))).set i none) (.ref y) dy H1) else tr x C dx D Z H
theorem WW (h1:X.stack=X.env :: X.outer) (h2:X.env.frame=some X.env.locals) (hg:Gl X n) (hm:X.mg n=some (.ref C')) (c':XCl X.K C' bm') (hN:X.N.Nodup) (hi:X.N[i]?=some v) (hl:X.env.scope.names.lookup v=some .local)
 (c2:XCl X.K C2 bm2) (hp:∀x,PM false (X.mark x) e C2 t) (hx:HF X E)
 (hz:∀(A:Around) (s:Shared) (Q:Value->Shared->Prop) (E:Value->Shared->Prop),Q Value.none s->wpAny (model X.prog X.w) A (eval cN X.env) Q E s)
 (hr:PH true X rest tr) (hdb:(n == ("__debug__" : Str))=false:=by decide):PH true X (.ExceptHandler (some (.Name n p)) (some v) [.Raise (some e) (some cN) p2] pos :: rest) (Ys X.K C' i t E tr):=by
 intro pins s Z H x C dx T D I o ⟨bm,c,q⟩
 have Im:=I.mark x
 refine wpAny_handleBy_cons (codeAny_handlers_test (DO Im hg hm ?_ hdb)) (by intro z;cases z)
 refine IF c c' I.kIn o.rc ?_
 cases hc:(Value.ref C :: bm).contains (.ref C') with
 | false=>
   rw [hc,if_neg (by decide)] at q
   exact hr pins s Z H x C dx T D I o q
 | true=>
   rw [hc,if_pos rfl] at q
   refine codeAny_handlers_suite_as ?_
   refine Ep none I o (.inl rfl) λh1' I1 o1=>?_
   refine FS (v:=.ref x) I1 hN hi (.inl hl) rfl (λs2 I2=>?_) (.inr hl)
   refine wpAny_execs_cons ?_
   rw [arm_exec_Raise]
   refine wpAny_bind (wpAny_standAt ?_)
   refine R5 (x:=x) c2 rfl (λs Q E h=>wpAny_bind (hz _ _ _ _ (wpAny_bind (wpAny_standAt (wpAny_pure h))))) ?_
   refine wpAny_bind (wpAny_mono (hp x pins s2 _ H _ (I2.mark x) q) (λw' s3 ⟨y,dy,H1,e1,I3,hy,ny,r,ne,hxx,q1⟩=>?_) λ_ _ z=>z.elim)
   subst e1
   have J3:=I3.unmark I.ok
   obtain ⟨ox,vx,gx,_,_,dtx,xc⟩:=(I3.hok x _ hxx).1
   refine wpAny_bind (wpAny_standAt (wpAny_pure ⟨y,dy,ox,vx,rfl,ne,I3.kIn,r,gx,dtx,(xc rfl).1,λh' r' kp=>?_⟩))
   obtain ⟨o1',o2',o3'⟩:=J3.newT (Nat.le_refl _)
   have J4:=J3.left hy (J3.hok.fresh (Nat.le_refl _)) ny (Nat.le_trans J3.sz (Nat.le_refl _)) (ch:=[y]) (h':=h') ⟨λb u hb _ e=>(kp b (by simpa using hb)).trans e,λb u hb e=>⟨u.slots,(kp b (by simpa using hb)).trans e⟩⟩ (λb hb=>.inl (by simpa using hb)) r'.is o2' o1' o3'
   have o4:XOn false X pins H1 { s3 with heap:=h' } y C2 dy none .none:=⟨hy,ny,r',(λa e=>by cases e),.inl rfl⟩
   refine FN I3.ok.frames J4 h1 h2 o4 λh5 a J5 o5=>?_
   refine QN J5 hN hi hl λs6 J6 k6=>?_
   have o6:=o5.keep J5 k6
   obtain ⟨oy,vy,gy,_,_,dty,tby,_⟩:=id o6.rc
   unfold PySem.passOn
   refine wpAny_bind (wpAny_field gy dty tby ?_)
   rw [if_neg (show ¬((Value.ref a == Value.none)=true) from by intro z;cases z)]
   rw [h2]
   refine wpAny_bind (Ep (some X.env.locals) J6 o6 (.inr rfl) λh7 J7 o7=>wpAny_throw ?_)
   refine FN I3.ok.frames J7 h1 h2 o7 λh8 a8 J8 o8=>?_
   obtain ⟨oz,vz,gz,_,_,dtz,tbz,_⟩:=id o8.rc
   show cameBackBy _ _ _ _ _ _
   unfold cameBackBy
   refine wpAny_bind (wpAny_field gz dtz tbz ?_)
   rw [if_neg (show ¬((Value.ref a8 == Value.none)=true) from by intro z;cases z)]
   rw [h2]
   exact Ep (some X.env.locals) J8 o8 (.inr rfl) λh9 J9 o9=>hx pins _ H1 _ y C2 dy _ _ J9 o9 q1
end
structure FnOkH (P:Program) (w:World) (K:PySem.W.Frag) (mg:Str->Option Value) (base:Heap) (CX:CXT) (k:Nat) (f:Addr) (fd:FuncData) (ps:List Str) (sp:Sp):Prop where
 len:∀vs H Q E,sp vs H Q E->vs.length=ps.length
 run:∀(z:Addr) (A:Around) (outer:List Env) (s:Shared) (H:Hp) (args:Args) (us:List Value) (vs:List V) (Q:VK) (E:XK),Room k A->Env0 P w K mg base A outer s H->BindsTo s fd args (ps.zip us)->Vals vs us->sp vs H Q E->
  codeAny (model P w) (A.mark (some (.ref z))) (.call (.ref f) args) (CR CX outer P w H s Q E) s
theorem Vc {CX:CXT} {P:Program} {w:World} {K:PySem.W.Frag} {mg:Str->Option Value} {base:Heap} {k:Nat} {f:Addr} {name qual:Str} {params:Arguments} {body:List Stmt} {scope:Scope} {dV kV doc pm cdv ct oc:Value} {an od:Option Addr}
 {osl:Array (Option Value)} {N ps:List Str} {sp:Sp} (lk:K.lookup f=some ⟨oc,od,.func (PySem.W.fnOf name qual params body scope dV kV doc pm an cdv ct),osl⟩) (hcd:PySem.W.codeIn K cdv qual=true) (S:FnScope N ps scope)
 (len:∀vs H Q E,sp vs H Q E->vs.length=ps.length)
 (hbody:∀(z:Addr) (A:Around) (outer:List Env) (s:Shared) (H:Hp) (vs:List V) (Q:VK) (E:XK),Room k (A.deeper (envOfC qual scope s.heap.objs.size f cdv))->sp vs H Q E->
   ∃t,PSs ((DH CX P w K mg base N qual scope f cdv A outer s H E).mark z) body t/\t { nx:=λ_ H'=>Q .non H',rt:=Q } (C8 N vs) H) :
 FnOkH P w K mg base CX (k + 1) f (PySem.W.fnOf name qual params body scope dV kV doc pm an cdv ct) ps sp:=by
 refine ⟨len,λz A outer s H args us vs Q E hr e0 hb r hsp=>?_⟩
 have hl:=len _ _ _ _ hsp
 have KX:K.In s.heap:=e0.mod.kin.keeps λb o e=>(e0.bs b o e).1
 have lim:s.heap.NoLimit:=e0.mod.nolimit.keeps λb o e=>(e0.bs b o e).1
 have hkind:∀y∈ps.zip us,scope.names.lookup y.1=some .local\/(scope.names.lookup y.1=some .cell/\((cellsFrom (s.heap.objs.size + 1) scope.names []).lookup y.1).isSome=true):=λ⟨n,v⟩ hy=>by
  rcases S.par n (List.of_mem_zip hy).1 with q | q
  ·exact .inl q
  ·exact .inr ⟨q,PySem.W.cellsFrom_some _ _ _ (.inl q)⟩
 refine codeAny_call_function (A:=A.mark (some (.ref z))) hr.depth (KX _ _ lk) rfl S.co S.gen rfl (PySem.W.codeRec_of KX hcd) (hb _ _ _ _ ?_)
 refine wpAny_newFunctionEnv_cells S.kind hkind λenv he s1 x=>?_
 subst he
 refine ⟨lim.keeps x.toInCall.keep,codeAny_func ?_⟩
 obtain ⟨t,ht,hq⟩:=hbody z A outer s H vs Q E (hr.deeper _) hsp
 have I:Inv (DH CX P w K mg base N qual scope f cdv A outer s H E) [] (C8 N vs) H s1:=K9 S hr.hd e0 hl r x
 refine wpAny_mono (ht [] s1 (C8 N vs) H _ (I.mark z) hq) (λfl s' hs=>?_) λe s' hs=>hs.elim
 have fin:∀{Z':St} {H':Hp} {v:V} {u:Value},Inv ((DH CX P w K mg base N qual scope f cdv A outer s H E).mark z) [] Z' H' s'->RelV v u->Q v H'->CE outer P w H s Q u s':=
  λ{Z' H' v u} J rv q=>⟨v,H',J.os,J.bare,J.base,J.hok,rv,q⟩
 cases fl with
 | ret u=>
   obtain ⟨v,Z',H',J,rv,q⟩:=hs
   exact fin J rv q
 | next=>
   obtain ⟨Z',H',J,q⟩:=hs
   exact fin (v:=V.non) (u:=Value.none) J rfl q
 | brk=>
   obtain ⟨_,_,_,q⟩:=hs
   exact False.elim q
 | cont=>
   obtain ⟨_,_,_,q⟩:=hs
   exact False.elim q
theorem Fun.okH {P:Program} {w:World} {K:PySem.W.Frag} {mg:Str->Option Value} {base:Heap} {x qual:Str} {st:Stmt} {f:Addr} {fd:FuncData} {N ps:List Str} {k:Nat} {sp:Sp} (F:Fun K x qual st f fd) (S:FnScope N ps (Ao st)) (len:∀vs H Q E,sp vs H Q E->vs.length=ps.length)
 (hbody:∀(cdv:Value) (z:Addr) (A:Around) (outer:List Env) (s:Shared) (H:Hp) (vs:List V) (Q:VK) (E:XK),Room k (A.deeper (envOfC qual (Ao st) s.heap.objs.size f cdv))->sp vs H Q E->
   ∃t,PSs ((DH CX0 P w K mg base N qual (Ao st) f cdv A outer s H E).mark z) (B9 st) t/\t { nx:=λ_ H'=>Q .non H',rt:=Q } (C8 N vs) H):FnOkH P w K mg base CX0 (k + 1) f fd ps sp:=by
 obtain ⟨oc,od,kV,doc,pm,an,cdv,ct,osl,rfl,lk,hcd⟩:=F.ex
 exact Vc lk hcd S len λz A outer s H vs Q E hr hsp=>hbody cdv z A outer s H vs Q E hr hsp
section
variable {qx:Bool} {X:Cx} {k:Nat} {f C P:Addr} {fd:FuncData} {pins:List (Addr×Obj)} {Z:St} {H:Hp} {s:Shared} {Q:Value->Shared->Prop} {us:List Value} {vs:List V} {a b:Str} {ps:List Str} {v v2:V} {u u2:Value} {n:Str} {p pos:Pos} {e e':Expr}
theorem NI {z:Addr} (M:XMk X.K C P f) (ha:XAt X.K C P a) (hab:XAt X.K C P b) (F:FnOkH X.prog X.w X.K X.mg X.base CX0 k f fd ps (Hy X.K P a b)) (hr:Room (k + 1) X.A) (hb:Binds X.K fd ps []) (I:Inv (X.mark z) pins Z H s) (r:RelV v u) (rr:RelV v2 u2)
 (h:∀s' x dx,Inv (X.mark z) pins Z (upd (upd H dx (.xd [(a,v),(b,v2)])) x (.ext (F2.XIs qx x C (some dx)))) s'->H x=none->H dx=none->dx≠x->s.heap.objs.size<=x->XRec true s'.heap x C (some dx) .none->Q (.ref x) s'):wpAny (model X.prog X.w) (X.mark z).A (call (.ref C) [u,u2]) Q (X.mark z).xe s:=by
 obtain ⟨nm,q,N,bs,sn,sub,ab,col,dd,k0,k1,k2,k3,k5,hC,hN⟩:=M.cl.obj I.kIn
 have hni:s.heap.nsMap N "__init__" = some (.ref f):=by
  obtain ⟨cd,c1,c2⟩:=M.init
  refine JI I.kIn hN ?_
  unfold clsIn at c1
  split at c1
  ·next l=>
   cases c1
   have z:=I.kIn _ _ l
   rw [hC] at z
   cases z
   exact c2
  ·cases c1
 have I1:Inv (X.mark z) pins Z (upd H (s.heap.objs.size + 1) (exO (s.heap.objs.size + 1) C s.heap.objs.size)) { s with heap:=D5 s.heap C [u,u2] }:=by
  refine I.laid (t':=s.toks) (λb o e=>Heap.get?_push_of_some _ (Heap.get?_push_of_some _ e)) (Nat.le_succ _) (PC ?_)
  show ((s.heap.push _).push _).get? _=_
  heap_get
 have hx0:=I.hok.fresh (Nat.le_succ s.heap.objs.size)
 have r2:Vals [V.ref (s.heap.objs.size + 1),v,v2] [Value.ref (s.heap.objs.size + 1),u,u2]:=.cons rfl (.cons r (.cons rr .nil))
 have hsp:Hy X.K P a b [V.ref (s.heap.objs.size + 1),v,v2] (upd H (s.heap.objs.size + 1) (exO (s.heap.objs.size + 1) C s.heap.objs.size))
  (λw' H'=>w' = .non/\∃dx,H dx=none/\dx≠s.heap.objs.size + 1/\H'=upd (upd H dx (.xd [(a,v),(b,v2)])) (s.heap.objs.size + 1) (F8 (s.heap.objs.size + 1) C s.heap.objs.size dx)) E0:=by
  refine ⟨_,C,s.heap.objs.size,v,v2,rfl,Az,ha,hab,λdx h1 h2=>⟨rfl,dx,by rw [Ar h2] at h1;exact h1,h2,?_⟩⟩
  funext b
  by_cases e1:b=s.heap.objs.size + 1
  ·subst e1;rw [Az,Az]
  ·by_cases e2:b=dx
   ·subst e2;rw [Ar e1,Ar e1,Az,Az]
   ·rw [Ar e1,Ar e1,Ar e2,Ar e2,Ar e1]
 have hl:([Value.ref (s.heap.objs.size + 1),u,u2]++[]).length=ps.length:=by
  have e:=F.len _ _ _ _ hsp
  simpa using e
 obtain ⟨hh,g,d,t,os⟩:=s
 refine wpAny_call (MY PySem.F.excBase_ValueError (M.cl.tail I.kIn) hC hN hni ((bind_fn I.kIn _ (beq_iff_eq.mp M.fn))) (by show 2<=sizeLine;decide) ?_)
 refine codeAny_mono (F.run z _ X.stack _ _ ⟨[Value.ref (hh.objs.size + 1),u,u2],[]⟩ [Value.ref (hh.objs.size + 1),u,u2] _ _ E0 (hr.make C [u,u2] []) (Env0.make (A:=X.A) ⟨I1.env0.frames,I1.env0.mod,I1.env0.bs,I1.env0.bsz,I1.env0.funs,I1.env0.frf,I1.env0.hok,I1.env0.bare⟩ C [u,u2] []) (by have:=hb _ [Value.ref (hh.objs.size + 1),u,u2] I1.kIn hl;simpa using this) r2 hsp) λr s' hq'=>?_
 cases r with
 | error e=>exact hq'.elim
 | ok fl=>
   cases fl with
   | ret w'=>
     obtain ⟨v',H',I3,rv,rfl,dx,d1,d2,rfl⟩:=I1.after hq'
     refine ⟨rv,?_⟩
     have hx:=(I3.hok (hh.objs.size + 1) _ Az).1
     have hx:s'.heap.get? (hh.objs.size + 1)=some { excObj C hh.objs.size with dict:=some dx }:=hx
     have xr:XRec true s'.heap (hh.objs.size + 1) C (some dx) .none:=⟨_,_,hx,rfl,rfl,rfl,rfl,λ_=>⟨rfl,by show 4 < 6;decide⟩⟩
     have I4:=I3.write (x:=hh.objs.size + 1) (e:=hh.objs.size + 1) (o:=.ext (F2.XIs qx (hh.objs.size + 1) C (some dx))) (h':=s'.heap) (t':=s'.toks) (by rw [Az];trivial) (.inl rfl) (λ_ _ _ z=>z) ⟨_,hx⟩ (Jr xr.to.is)
     rw [Oh] at I4
     exact h s' (hh.objs.size + 1) dx I4 hx0 d1 d2 (Nat.le_succ _) xr
   | next=>exact False.elim hq'
   | brk=>exact False.elim hq'
   | cont=>exact False.elim hq'
theorem Ue {z:Addr} {t:TA} (M:XMk X.K C P f) (ha:XAt X.K C P a) (hab:XAt X.K C P b) (F:FnOkH X.prog X.w X.K X.mg X.base CX0 k f fd ps (Hy X.K P a b)) (hr:Room (k + 1) X.A) (hb:Binds X.K fd ps []) (hg:Gl (X.mark z) n) (hm:X.mg n=some (.ref C)) (hA:PA (X.mark z) [e,e'] t)
 (hdb:(n == ("__debug__" : Str))=false:=by decide) (h1:starEach [e,e'] X.env=(false,eval e X.env) :: starEach [e'] X.env:=by rfl) (hpl:(backTo pos (starEach [e'] X.env)).any (·.1)=false:=by rfl) :
 PM qx (X.mark z) (.Call (.Name n p) [e,e'] [] pos) C (λZ H Q=>t Z H λvs H1=>∃v u,vs=[v,u]/\∀x dx,H1 x=none->H1 dx=none->dx≠x->Q x (some dx) (upd (upd H1 dx (.xd [(a,v),(b,u)])) x (.ext (F2.XIs qx x C (some dx))))):=by
 intro pins s Z H Q I h
 refine wpAny_Call_Name_kw (DO I hg hm ?_ hdb)
 refine PySem.W.callWith_K (h₀:=X.base) I.ok.mod.kin M.kp (thn (hA pos pins s Z H _ I h) λus s1 ⟨vs,H1,I1,r,v,u,ev,q⟩=>⟨I1.kIn,?_⟩) h1 hpl
 subst ev
 cases r with
 | cons r0 rs=>
   cases rs with
   | cons r1 rs=>
     cases rs
     exact NI (X:=X) (z:=z) M ha hab F hr hb I1 r0 r1 λs' x dx I' hx hdx ne nx rc=>⟨x,some dx,_,rfl,I',Az,Nat.le_trans I1.sz nx,rc,q x dx hx hdx ne⟩
end
end L2
namespace F2
open PySem L2 PySem.Spec PySem.W
section
variable {X:Cx} {pos p p2 p3 p4:Pos} {P:Addr} {ca:Str->Addr} {E:XK} {e e' cN:Expr}
def QZ (prog:Program) (w:World) (K:PySem.W.Frag) (mg:Str->Option Value) (base:Heap) (C P:Addr):Prop:=
 ∃(f:Addr) (fd:FuncData) (ps:List Str),XMk K C P f/\XAt K C P "at"/\XAt K C P "side"/\Binds K fd ps []/\FnOkH prog w K mg base CX0 1 f fd ps (Hy K P "at" "side")
theorem WK {n' v:Str} {C':Addr} {bm':List Value} {i:Nat} {rest:List ExceptHandler} {f:M (List D)} {r:D->M Out} (x:XM X.K X.mg P ca) (xn:QZ X.prog X.w X.K X.mg X.base (ca "Broken") P) (h1:X.stack=X.env :: X.outer) (h2:X.env.frame=some X.env.locals) (hr:L2.Room 2 X.A)
 (hg:Gl X n') (hm:X.mg n'=some (.ref C')) (c':XCl X.K C' bm') (hs:∀n∈BW,(Value.ref (ca n) :: .ref P :: VE).contains (.ref C')=DN n n')
 (hN:X.N.Nodup) (hi:X.N[i]?=some v) (hl:X.env.scope.names.lookup v=some .local) (hx:HF X (λ_=>E)) (hgB:Gl X "Broken") (ha:∀x,PA (X.mark x) [e,e'] (RA X.K f))
 (hz:∀(A:Around) (s:Shared) (Q:Value->Shared->Prop) (E:Value->Shared->Prop),Q Value.none s->wpAny (model X.prog X.w) A (eval cN X.env) Q E s)
 (hrest:PH true X rest (RH X.K ca (μX X.K E) r)) (hdb:(n' == ("__debug__" : Str))=false:=by decide) (hs1:B3 e=false:=by rfl) (hs2:Ce [e']=true:=by rfl) :
 PH true X (.ExceptHandler (some (.Name n' p)) (some v) [.Raise (some (.Call (.Name "Broken" p3) [e,e'] [] p4)) (some cN) p2] pos :: rest) (RH X.K ca (μX X.K E) (hAs n' i (EG "Broken" f) r)):=by
 obtain ⟨fa,fd,ps,M,A,A2,B,F⟩:=xn
 have hnB:("Broken" : Str)∈BW:=by decide
 intro pins s0 Z H y C dx T D I o q
 refine WW h1 h2 hg hm c' hN hi hl M.cl (λz=>Ue M A A2 F hr B hgB (x.ms _ hnB) (ha z) (by decide) (BM hs1) (BJ hs2).1) hx hz hrest hdb pins s0 Z H y C dx T D I o ?_
 obtain ⟨Oo,c,t,n,ds,fi,hn,rfl,rv,o1,t',eq,k⟩:=q
 refine ⟨_,x.cl n hn,?_⟩
 rw [hs n hn]
 unfold hAs at eq
 dsimp only at eq
 by_cases hb':DN n n'=true
 ·rw [if_pos hb'] at eq ⊢
  cases e1:EG "Broken" f { t with env:=t.env.set i (some (.val (.exc n ds))) } with
  | none=>rw [e1] at eq;cases eq
  | some z=>
    obtain ⟨o2,t2⟩:=z
    rw [e1] at eq
    cases eq
    obtain ⟨es,t1,e2,e1⟩:=Au e1
    have hny:¬c.A y:=by cases rv with | exc _ _ hA _ _=>exact hA
    refine ⟨Oo,c,_,fi.set rv,es,t1,e2,λvs H1 c1 f1 s1 rvs=>?_⟩
    rcases es with _ | ⟨d,_ | ⟨d',_ | ⟨_,_⟩⟩⟩
    ·cases e1
    ·cases e1
    ·cases rvs with
     | @cons v0 _ _ _ r0 rs=>
     cases rs with
     | @cons v1 _ _ _ r1 rs=>
     cases rs
     cases e1
     refine ⟨_,_,rfl,λu du hu hdu ne=>?_⟩
     have hy1:H1 y=some (.ext (XIs true y (ca n) dx)):=s1.ext.keep _ _ o.hx hny
     have nyu:y≠u:=λz=>by rw [z,hu] at hy1;cases hy1
     have nyd:y≠du:=λz=>by rw [z,hdu] at hy1;cases hy1
     have f2:=f1.laid (o:=.xd [("at",v0),("side",v1)]) hdu
     have hu2:upd H1 du (.xd [("at",v0),("side",v1)]) u=none:=by rw [Ar (Ne.symm ne)];exact hu
     have f3:=f2.laid (o:=.ext (XIs false u (ca "Broken") (some du))) hu2
     have ex:=(f1.stp_laid (o:=.xd [("at",v0),("side",v1)]) hdu).ext.trans (f2.stp_laid (o:=.ext (XIs false u (ca "Broken") (some du))) hu2).ext
     have s3:=s1.trans ((f1.stp_laid (o:=.xd [("at",v0),("side",v1)]) hdu).trans (f2.stp_laid (o:=.ext (XIs false u (ca "Broken") (some du))) hu2))
     refine ⟨Ne.symm nyu,by rw [Ar nyu,Ar nyd];exact hy1,?_⟩
     refine k _ _ c1 (f3.unset i) s3 (.ref u) (.exc (x.ns _ hnB) Az (f2.s.free hu2) ?_ (.cons (r0.mono ex) (.cons (r1.mono ex) .nil))) u (some du) rfl
     exact ⟨by rw [Ar ne,Az];rfl,f1.s.free hdu⟩
    ·cases e1
 ·rw [if_neg hb'] at eq ⊢
  exact ⟨Oo,c,t,n,ds,fi,hn,rfl,rv,o1,t',eq,k⟩
end
theorem PY {prog:Program} {w:World} {K:PySem.W.Frag} {mg:Str->Option Value} {base:Heap} {C P:Addr} {qual:Str} {st:Stmt} {p1 p2 p3 p4 p5 p6 p7 p8:Pos} (hbd:B9 st=[.Assign [.Attribute (.Name "self" p1) "at" p2] (.Name "at" p3) p4,.Assign [.Attribute (.Name "self" p5) "side" p6] (.Name "side" p7) p8]) (S:FnScope ["self", "at", "side"] ["self", "at", "side"] (Ao st))
 (s1:(Ao st).names.lookup ("self" : Str)=some NameKind.local) (s2:(Ao st).names.lookup ("at" : Str)=some NameKind.local) (s3:(Ao st).names.lookup ("side" : Str)=some NameKind.local) (x:XF2 K C P qual st):QZ prog w K mg base C P:=by
 obtain ⟨f,fd,M,A,A2,B,F⟩:=x
 refine ⟨f,fd,_,M,A,A2,B,F.okH (k:=0) S (λvs H Q E h=>?_) λcdv z A' outer s H vs Q E hr h=>?_⟩
 ·obtain ⟨y,C',tp,v,u,rfl,_⟩:=h;rfl
 ·rw [hbd]
  refine ⟨_,IQ (SI (P:=P) (Du (i:=0) rfl (.inl s1) (by decide) (by decide)) (Du (i:=1) rfl (.inl s2) (by decide) (by decide)) rfl) (HS (Qu (P:=P) (f1:="at") (by decide) (Du (i:=0) rfl (.inl s1) (by decide) (by decide)) (Du (i:=2) rfl (.inl s3) (by decide) (by decide)) rfl)),?_⟩
  obtain ⟨y,C',tp,v,u,rfl,hy,ha,ha2,k⟩:=h
  refine ⟨v,rfl,.ref y,rfl,y,C',tp,rfl,hy,ha,λdx h1 h2=>⟨u,rfl,.ref y,rfl,y,C',tp,dx,v,rfl,Az,by rw [Ar h2,Az],h2,ha2,?_⟩⟩
  have z:=k dx h1 h2
  have e:upd (upd (upd H dx (.xd [("at",v)])) y (F8 y C' tp dx)) dx (.xd [("at",v),("side",u)])=upd (upd H dx (.xd [("at",v),("side",u)])) y (F8 y C' tp dx):=by
   funext b
   by_cases e1:b=dx
   ·subst e1;rw [Az,Ar h2,Az]
   ·by_cases e2:b=y
    ·subst e2;rw [Ar e1,Az,Az]
    ·rw [Ar e1,Ar e2,Ar e1,Ar e2,Ar e1]
  rw [e]
  exact z
end F2
namespace L2
open PySem PySem.Spec PyProof.Rows
section
variable {prog:Program} {w:World} {A:Around} {E:Value->Shared->Prop} {s:Shared}
variable {I:Addr} {fp wr:List Addr} {G:Array GenState->Array GenState->Prop} {n:Nat} {P:Nat->Value->Prop} {St:Nat->Shared->Prop}
def Zg (prog:Program) (w:World) (h:Heap) (no:List Addr) (k:Key) (x v:Value):Prop:=∃(p:Addr) (o:Obj) (kv:Value) (q:Nat),v = .ref p/\p∉no/\h.get? p=some o/\o.cls = .type "tuple"/\o.data = .seq #[kv,x] q/\(Cn prog w).is k kv=true
end
section
variable {X:Cx}
end
end L2
namespace F2
open PySem L2 PySem.Spec PyProof.Rows
section
variable {X:Cx} {pos:Pos} {e:Expr}
end
end F2
namespace L2
open PySem PySem.Spec PyProof.Rows
def VU (neg:Bool):R2:=λx y H Q=>∃a kvs k,x = .str k/\y = .ref a/\H a=some (.dK kvs)/\Q (.bl (if neg then !(Dz kvs (Sum.inr k:Key)).isSome else (Dz kvs (Sum.inr k:Key)).isSome)) H
section
variable {X:Cx}
theorem Vu (hu:X.A.units + 64 < cLine):OpR X (compareOp .In) (VU false):=by
 intro pins s Z H x y v u Q I rx ry h
 obtain ⟨a,kvs,k,rfl,rfl,e,q⟩:=h
 cases ry
 exact X7 (by lia) I (DGet.k (k:=(Sum.inr k:Key)) e) rx λs' I'=>⟨.bl _,H,I',rfl,q⟩
theorem OD:CN X (.type "dict") (λxs H Q=>∃(p:Addr) (kvs:List (Key×V)),xs=[.ref p]/\H p=some (.dK kvs)/\∀l,H l=none->Q (.ref l) (upd H l (.dK kvs))):=by
 intro pins s Z H xs us0 Q I r h
 obtain ⟨p,kvs,rfl,e,q⟩:=h
 obtain ⟨u,rfl,rx⟩:=Fp r
 cases rx
 obtain ⟨hz,hp,vs,rel,dd⟩:=HH I.hok e
 refine kt_call_dict hp dd (by rw [<-rel.length];exact hz) λh' hD sb=>?_
 have nm:(s.heap.objs.size == sysModules)=false:=by
  have:=I.big
  rw [beq_eq_false_iff_ne]
  exact Nat.ne_of_gt this
 have hk:∀b o,s.heap.get? b=some o->h'.get? b=some o:=λb o eb=>by
  rw [sb.2 b (Nat.ne_of_lt (Heap.lt_size eb))]
  exact Heap.get?_push_of_some _ eb
 exact ⟨.ref s.heap.objs.size,_,I.laid (t':=s.toks) hk (Nat.le_refl _) (Mz hz nm rel hD),rfl,q _ (I.hok.fresh (Nat.le_refl _))⟩
end
end L2
namespace F2
open PySem L2 PySem.Spec PyProof.Rows
def inS (neg:Bool):D->D->M D
 | .str k,.obj n=>λt=>match t.S[n]? with
   | some (.dct kvs)=>some (.bl (if neg then !(BI kvs (.inr k)).isSome else (BI kvs (.inr k)).isSome),t)
   | _=>none
 | _,_=>fail
def Jp:List D->M D
 | [.obj n]=>λt=>match t.S[n]? with
   | some (.dct kvs)=>some (.obj t.S.length,{ t with S:=t.S++[.dct kvs] })
   | _=>none
 | _=>fail
section
variable {K:PySem.W.Frag}
theorem Us {neg:Bool}:BZ K (VU neg) (inS neg):=λ{Oo c t Z H x y dx dy r t' Q} f rx ry eq k=>by
 unfold inS at eq
 split at eq
 ·next z n=>
  cases rx
  cases ry with
  | @obj a kk hk=>
    split at eq
    ·next kvs es=>
     cases eq
     obtain ⟨us,g1,g2⟩:=f.s.obs _ a _ hk es
     refine ⟨a,us,z,rfl,rfl,g1,?_⟩
     rw [g2.has]
     exact k _ H c f .refl (.bl _)
    ·cases eq
 ·cases eq
end
section
variable {X:Cx} {pos:Pos} {e:Expr}
theorem Rb {f:M (List D)} {p:Pos} (hg:Gl X "dict") (hm:X.mg "dict" = none) (ha:PA X [e] (RA X.K f)) (h1:B3 e=false:=by rfl) :
 PE X (.Call (.Name "dict" p) [e] [] pos) (RE X.K (fB f Jp)):=
 BN (Hq OD hg hm (by decide +kernel) ha (by decide) (by decide) (BM h1) rfl) λZ H Q ⟨Oo,c,t,fi,r,t',eq,k⟩=>by
  obtain ⟨as,t1,e1,eq⟩:=Au eq
  unfold Jp at eq
  split at eq
  ·next n=>
   split at eq
   ·next kvs es=>
    cases eq
    refine ⟨Oo,c,t,fi,_,_,e1,λvs H1 c1 f1 s1 rv=>?_⟩
    obtain ⟨v,rfl,rw1⟩:=D6 rv
    cases rw1 with
    | @obj a kk hk=>
    obtain ⟨us,g1,g2⟩:=f1.s.obs _ a _ hk es
    refine ⟨a,us,rfl,g1,λl hnl=>?_⟩
    obtain ⟨c2,f2,s2,eo⟩:=f1.newObj (o:=.dct kvs) (u:=.dK us) hnl λc' H' ex hu=>⟨_,hu,g2.mono ex⟩
    exact k _ _ c2 f2 (s1.trans s2) (.obj eo)
   ·cases eq
  ·cases eq
end
end F2
namespace F2
open PySem L2 PySem.Spec PySem.W
theorem Ku {P:Program} {w:World} {K:PySem.W.Frag} {mg:Str->Option Value} {base:Heap} {x qual:Str} {st:Stmt} {fa:Addr} {fd:FuncData} {N ps:List Str} {k n m:Nat} {g:M Out} (e1:ps.length=n) (e2:N.length=m) (F:Fun K x qual st fa fd) (S:FnScope N ps (Ao st))
 (hb:∀(cdv:Value) (A:Around) (outer:List Env) (s:Shared) (H:Hp) (E:XK),L2.Room k (A.deeper (PyProof.Rows.envOfC qual (Ao st) s.heap.objs.size fa cdv))->
   Fr (CX1 false P w) (cxX false P w K mg base N qual (Ao st) fa cdv A outer s H E) (λ_=>E)->Gf false (cxX false P w K mg base N qual (Ao st) fa cdv A outer s H E) (λ_=>E)->
   PassesOwn (model P w) (cxX false P w K mg base N qual (Ao st) fa cdv A outer s H E).A (cxX false P w K mg base N qual (Ao st) fa cdv A outer s H E).env (cxX false P w K mg base N qual (Ao st) fa cdv A outer s H E).xe->
   HF (cxX false P w K mg base N qual (Ao st) fa cdv A outer s H E) (λ_=>E)->
   PSs (cxX false P w K mg base N qual (Ao st) fa cdv A outer s H E) (B9 st) (RSg K (μX K E) g)):FnOk P w K mg base (CX1 false P w) (k + 1) fa fd ps (spX K (fnOf n m g)):=
 Dd e1 e2 F S λcdv A outer s H E hr h1 h2 h3=>hb cdv A outer s H E hr h1 h2 h3 XE.raisesT
theorem Tw {M:Model} {env:Env} {j:Nat} {pos:Pos}:∀(A:Around) (s:Shared) (Q:Value->Shared->Prop) (E:Value->Shared->Prop),Q Value.none s->wpAny M A (eval (.Constant .none j pos) env) Q E s:=λA s Q E h=>wpAny_pure h
def SM (K:PySem.W.Frag) (b:Bool):R2:=λx y H Q=>∃p q us ts,x = .ref p/\y = .ref q/\H p=some (.dK us)/\H q=some (.dK ts)/\us.length=ts.length/\(∀kv∈us,∃z,Dz ts kv.1=some z/\G8 K H kv.2 z)/\Q (.bl b) H
theorem Th {P:Program} {w:World} {K:PySem.W.Frag} {H:Hp} {s:Shared} {A:Around} (hok:HOk P w H s.heap) {ts:List (Key×V)} {ws:List (Key×Value)} (rel2:KV ts ws) (hu:A.units + 60 < cLine):∀{us:List (Key×V)} {vs:List (Key×Value)},KV us vs->(∀kv∈us,∃z,Dz ts kv.1=some z/\G8 K H kv.2 z)->PySem.W.KeqHits A s ws vs true:=λ{us vs} rel hh=>by
 unfold KV at rel
 induction rel with
 | nil=>exact .nil
 | @cons p q ps qs h1 _ ih=>
   obtain ⟨z,ez,c,dz,dz',r1,r2,e⟩:=hh p List.mem_cons_self
   obtain ⟨k,v⟩:=q
   obtain ⟨u',hu',ru'⟩:=RelO.some_of (v:=z) (o:=valueAt ws p.1) (by rw [<-ez];exact rel2.val _)
   have:=PySem.W.KeqHits.hit (k:=k) (v:=v) (y:=u') (e:=true) (b:=true) (by rw [show k=p.1 from h1.1.symm];exact hu') (HI hok EQD h1.2 ru' r1 r2 e (by unfold EQD;lia)).2 (ih λkv m=>hh kv (List.mem_cons_of_mem _ m))
   exact this
section
variable {X:Cx}
theorem T4 (hu:X.A.units + 64 < cLine):OpR X (compareOp .NotEq) (SM X.K false):=by
 intro pins s Z H x y v u Q I rx ry h
 obtain ⟨p,q,us,ts,rfl,rfl,h1,h2,hl,hh,k⟩:=h
 cases rx;cases ry
 obtain ⟨_,lo1,vs,rel1,d1⟩:=HH I.hok h1
 obtain ⟨_,lo2,ws,rel2,d2⟩:=HH I.hok h2
 have hlen:vs.length=ws.length:=by rw [<-rel1.length,<-rel2.length];exact hl
 refine PySem.W.keq_ne (knd:=Cn X.prog X.w) lo1 lo2 d1 d2 (by lia) (λ_=>Th (A:=X.A.in1) I.hok rel2 (by rw [show X.A.in1.units=X.A.units + 1 from rfl];lia) rel1 hh) ?_
 rw [hlen,beq_self_eq_true]
 exact ⟨.bl false,H,I,rfl,k⟩
end
def MA (b:Bool) (x y:D):M D:=match x,y with
 | .obj m,.obj n=>λt=>match t.S[m]?,t.S[n]? with
   | some (.dct kvs),some (.dct lvs)=>if kvs.length=lvs.length/\kvs.all (λkv=>match BI lvs kv.1 with | some e=>alike1 t.S kv.2 e | none=>false)=true then some (.bl b,t) else none
   | _,_=>none
 | _,_=>fail
theorem R8 {K:PySem.W.Frag} {b:Bool}:BZ K (SM K b) (MA b):=λ{Oo c t Z H x y dx dy r t' Q} f rx ry eq k=>by
 unfold MA at eq
 split at eq
 ·next m n=>
  split at eq
  ·next kvs lvs e1 e2=>
   split at eq
   ·next hp=>
    cases eq
    cases rx with
    | @obj a _ ha=>
    cases ry with
    | @obj b' _ hb=>
    obtain ⟨us,g1,g2⟩:=f.s.obs _ a _ ha e1
    obtain ⟨ts,g3,g4⟩:=f.s.obs _ b' _ hb e2
    refine ⟨a,b',us,ts,rfl,rfl,g1,g3,by rw [g2.length,g4.length];exact hp.1,λkv m=>?_,k _ H c f .refl (.bl b)⟩
    obtain ⟨q,q1,q2,q3⟩:=g2.allK kv m
    have hq:=List.all_eq_true.mp hp.2 q q1
    split at hq
    ·next e ee=>
     obtain ⟨z,z1,z2⟩:=g4.get _ ee
     exact ⟨z,by rw [q2];exact z1,alike1.to f.s q3 z2 hq⟩
    ·cases hq
   ·cases eq
  ·cases eq
 ·cases eq
end F2
namespace LW
open PySem L2 F2
def E5:M Out:=
 (AQ (EY (fB (Ac (Ad 0) (Ac (fC (.ty "int")) Aj)) EA) (Jt (fB (Ac (Ad 0) (Ac (fC (.ty "bool")) Aj)) EA))))
def CZ (Mm:Fn):M Out:=
 (AQ (EY (As Mm (Ac (Ad 0) Aj)) (FG (Ad 1) (Ad 0) (Ad 2) leA leA)))
def JG (Kn Mj Mi Ml Dw:Fn):M Out:=
 (Ap (A9 2 (Ah (Ad 0) (fC (.int 0)) ixD))
 (Ap (ifS (AT (Ah (Ad 2) (fC (.str "nothing")) (eqS id)))
   (AQ (Ah (Ad 1) (fC .non) isC))
   A7)
 (Ap (ifS (AT (Ah (Ad 2) (fC (.str "number")) (eqS id)))
   (AQ (As Dw (Ac (Ad 1) (Ac (Ah (Ad 0) (fC (.int 1)) ixD) (Ac (Ah (Ad 0) (fC (.int 2)) ixD) Aj)))))
   A7)
 (Ap (ifS (AT (Ah (Ad 2) (fC (.str "text")) (eqS id)))
   (AQ (As Ml (Ac (Ad 0) (Ac (Ad 1) Aj))))
   A7)
 (Ap (ifS (AT (Ah (Ad 2) (fC (.str "list")) (eqS id)))
   (AQ (As Mi (Ac (Ad 0) (Ac (Ad 1) Aj))))
   A7)
 (Ap (ifS (AT (Ah (Ad 2) (fC (.str "pair")) (eqS id)))
   (AQ (As Mj (Ac (Ad 0) (Ac (Ad 1) Aj))))
   A7)
 (AQ (As Kn (Ac (Ad 0) (Ac (Ad 1) Aj))))))))))
def E4 (GC:Fn):M Out:=
 (Ap (ifS (fOr (DV (AT (fB (Ac (Ad 1) (Ac (fC (.ty "str")) Aj)) EA))) (AT (Ah (fB (Ac (Ad 1) Aj) Cb) (Ah (Ad 0) (fC (.int 1)) ixD) gtA)))
   (AQ (fC (.bl false)))
   A7)
 (Ap (Dn (F9 (Ad 1)) (BE 2)
   (ifS (DV (AT (As GC (Ac (fB (Ac (Ad 2) Aj) KI) Aj))))
   (AQ (fC (.bl false)))
   A7))
 (AQ (fC (.bl true)))))
def F1:M Out:=
 (AQ (EY (FG (fC (.int 32)) (Ad 0) (fC (.int 126)) leA leA) (Ah (Ad 0) (fC (.int 37)) (eqS λb=>!b))))
def E2 (Ef:Fn):M Out:=
 (Ap (ifS (fOr (DV (AT (fB (Ac (Ad 1) (Ac (fC (.ty "list")) Aj)) EA))) (AT (Ah (fB (Ac (Ad 1) Aj) Cb) (Ah (Ad 0) (fC (.int 2)) ixD) gtA)))
   (AQ (fC (.bl false)))
   A7)
 (Ap (Dn (F9 (Ad 1)) (BE 2)
   (ifS (DV (AT (As Ef (Ac (Ah (Ad 0) (fC (.int 1)) ixD) (Ac (Ad 2) Aj)))))
   (AQ (fC (.bl false)))
   A7))
 (AQ (fC (.bl true)))))
def E3 (Ef:Fn):M Out:=
 (Ap (ifS (fOr (DV (AT (fB (Ac (Ad 1) (Ac (fC (.ty "tuple")) Aj)) EA))) (AT (Ah (fB (Ac (Ad 1) Aj) Cb) (fC (.int 2)) (eqS λb=>!b))))
   (AQ (fC (.bl false)))
   A7)
 (AQ (EY (As Ef (Ac (Ah (Ad 0) (fC (.int 1)) ixD) (Ac (Ah (Ad 1) (fC (.int 0)) ixD) Aj))) (As Ef (Ac (Ah (Ad 0) (fC (.int 2)) ixD) (Ac (Ah (Ad 1) (fC (.int 1)) ixD) Aj))))))
def D3 (Ef Dw:Fn):M Out:=
 (Ap (ifS (fOr (DV (AT (fB (Ac (Ad 1) (Ac (fC (.ty "tuple")) Aj)) EA))) (AT (Ah (fB (Ac (Ad 1) Aj) Cb) (fC (.int 3)) (eqS λb=>!b))))
   (AQ (fC (.bl false)))
   A7)
 (Ap (ifS (fOr (DV (AT (fB (Ac (Ah (Ad 1) (fC (.int 0)) ixD) (Ac (fC (.ty "str")) Aj)) EA))) (AT (Ah (Ah (Ad 1) (fC (.int 0)) ixD) (fC (.str "of")) (eqS λb=>!b))))
   (AQ (fC (.bl false)))
   A7)
 (Ap (ifS (DV (AT (As Dw (Ac (Ah (Ad 1) (fC (.int 1)) ixD) (Ac (fC (.int 0)) (Ac (Ah (fB (Ac (Ah (Ad 0) (fC (.int 1)) ixD) Aj) Cb) (fC (.int 1)) CM) Aj))))))
   (AQ (fC (.bl false)))
   A7)
 (AQ (As Ef (Ac (Ah (Ah (Ad 0) (fC (.int 1)) ixD) (Ah (Ad 1) (fC (.int 1)) ixD) ixD) (Ac (Ah (Ad 1) (fC (.int 2)) ixD) Aj)))))))
def DG (Cp EJ Jm:Fn):M Out:=
 (Ap (A9 2 (Ah (Ad 0) (fC (.int 0)) ixD))
 (Ap (ifS (AT (Ah (Ad 2) (fC (.str "nothing")) (eqS id)))
   (Hu (Bq Aj))
   A7)
 (Ap (ifS (AT (Ah (Ad 2) (fC (.str "number")) (eqS id)))
   (Hu (Ex Jm (Ac (Ah (Ad 1) (Ah (Ad 0) (fC (.int 1)) ixD) CM) (Ac (As EJ (Ac (Ah (Ah (Ad 0) (fC (.int 2)) ixD) (Ah (Ad 0) (fC (.int 1)) ixD) CM) Aj)) Aj))))
   A7)
 (Ap (ifS (AT (Ah (Ad 2) (fC (.str "text")) (eqS id)))
   (Hu (bnd (AW (Bq (Ac (fB (Ac (Ad 1) Aj) Cb) Aj))) λx=>bnd (AW (D1 1 [] (F9 (Ad 1)) (BE 0) Fh (fB (Ac (Ad 0) Aj) KI))) λy=>Iv x y))
   A7)
 (Ap (ifS (AT (Ah (Ad 2) (fC (.str "list")) (eqS id)))
   (Ap (Ed 3 (Bq (Ac (fB (Ac (Ad 1) Aj) Cb) Aj)))
 (Ap (Dn (F9 (Ad 1)) (BE 4)
   (ownM 3 Ix (Ac (AW (Ex Cp (Ac (Ah (Ad 0) (fC (.int 1)) ixD) (Ac (Ad 4) Aj)))) Aj)))
 (Hv 3)))
   A7)
 (Ap (ifS (AT (Ah (Ad 2) (fC (.str "pair")) (eqS id)))
   (Hu (bnd (AW (Ex Cp (Ac (Ah (Ad 0) (fC (.int 1)) ixD) (Ac (Ah (Ad 1) (fC (.int 0)) ixD) Aj)))) λx=>bnd (AW (Ex Cp (Ac (Ah (Ad 0) (fC (.int 2)) ixD) (Ac (Ah (Ad 1) (fC (.int 1)) ixD) Aj)))) λy=>Iv x y))
   A7)
 (Hu (bnd (AW (Bq (Ac (Ah (Ad 1) (fC (.int 1)) ixD) Aj))) λx=>bnd (AW (Ex Cp (Ac (Ah (Ah (Ad 0) (fC (.int 1)) ixD) (Ah (Ad 1) (fC (.int 1)) ixD) ixD) (Ac (Ah (Ad 1) (fC (.int 2)) ixD) Aj)))) λy=>Iv x y))))))))
def D4:M Out:=
 (AQ (Ah (Ah (fUn (Ad 0) LH) (fC (.int 7)) Bh) (fC (.int 8)) GF))
def DP (GD:Fn):M Out:=
 (Hu (D1 1 [0,1] (FY (Ac (fC (.int 1)) (Ac (Ah (Ad 1) (fC (.int 1)) Bh) Aj))) (BE 0) Fh (Ah (As GD (Ac (Ad 1) (Ac (Ah (Ad 2) (Ad 0) CM) Aj))) (fC (.int 256)) FM)))
def F4:M Out:=
 (AQ (Ah (Ad 0) (Ah (fC (.int 8)) (Ad 1) DW) O4))
def C1 (Ko Mo Mn Mp Kp:Fn):M Out:=
 (Ap (A9 3 (Ah (Ad 0) (fC (.int 0)) ixD))
 (Ap (ifS (AT (Ah (Ad 3) (fC (.str "nothing")) (eqS id)))
   (AQ (nxD (BP (Ac (fC .non) (Ac (Ad 2) Aj)))))
   A7)
 (Ap (ifS (AT (Ah (Ad 3) (fC (.str "number")) (eqS id)))
   (AQ (As Kp (Ac (Ad 0) (Ac (Ad 1) (Ac (Ad 2) Aj)))))
   A7)
 (Ap (ifS (AT (Ah (Ad 3) (fC (.str "text")) (eqS id)))
   (AQ (As Mp (Ac (Ad 0) (Ac (Ad 1) (Ac (Ad 2) Aj)))))
   A7)
 (Ap (ifS (AT (Ah (Ad 3) (fC (.str "list")) (eqS id)))
   (AQ (As Mn (Ac (Ad 0) (Ac (Ad 1) (Ac (Ad 2) Aj)))))
   A7)
 (Ap (ifS (AT (Ah (Ad 3) (fC (.str "pair")) (eqS id)))
   (AQ (As Mo (Ac (Ad 0) (Ac (Ad 1) (Ac (Ad 2) Aj)))))
   A7)
 (AQ (As Ko (Ac (Ad 0) (Ac (Ad 1) (Ac (Ad 2) Aj)))))))))))
def EC:M Out:=
 (Ap (ifS (AT (Ah (Ad 1) (fB (Ac (Ad 0) Aj) Cb) geA))
   (Ht "Short" (Ac (fC (.str "the bytes end within a value")) Aj))
   A7)
 (AQ (nxD (Ah (Ad 0) (Ad 1) ixD))))
def DB (Eu:Fn):M Out:=
 (Ap (DL 3 (As Eu (Ac (Ad 1) (Ac (Ad 2) Aj))))
 (Ap (ifS (AT (Ah (Ad 3) (Ad 0) gtA))
   (EG "Broken" (Ac (Ad 2) (Ac (fC .non) Aj)))
   A7)
 (AQ (nxD (Ad 3)))))
def CL (GD Eu EJ:Fn):M Out:=
 (Ap (A9 3 (Ah (Ah (Ad 0) (fC (.int 2)) ixD) (Ah (Ad 0) (fC (.int 1)) ixD) CM))
 (Ap (A9 4 (As EJ (Ac (Ad 3) Aj)))
 (Ap (A9 5 (fC (.int 0)))
 (Ap (Dn (CV (Ac (Ad 4) Aj)) (BE 6)
   (Ap (DL 5 (Js (Ah (Ad 5) (fC (.int 256)) DW) (As Eu (Ac (Ad 1) (Ac (Ah (Ad 2) (Ad 6) Bh) Aj))) Bh))
 (ifS (AT (Ah (Ad 5) (As GD (Ac (Ad 3) (Ac (Ah (Ah (Ad 4) (fC (.int 1)) CM) (Ad 6) CM) Aj))) gtA))
   (EG "Broken" (Ac (Ah (Ad 2) (Ad 6) Bh) (Ac (fC .non) Aj)))
   A7)))
 (AQ (nxD (BP (Ac (Ah (Ah (Ad 0) (fC (.int 1)) ixD) (Ad 5) Bh) (Ac (Ah (Ad 2) (Ad 4) Bh) Aj)))))))))
def Di (OA Ds:Fn):M Out:=
 (Ap (DL 3 (As Ds (Ac (Ah (Ad 0) (fC (.int 1)) ixD) (Ac (Ad 1) (Ac (Ad 2) Aj)))))
 (Ap (A9 4 (Ah (Ad 2) (fC (.int 1)) Bh))
 (Ap (A9 5 (fC (.str "")))
 (Ap (Dn (CV (Ac (Ad 3) Aj)) (BE 6)
   (DL 5 (Js (Ad 5) (As OA (Ac (Ad 1) (Ac (Ah (Ad 4) (Ad 6) Bh) Aj))) Bh)))
 (AQ (nxD (BP (Ac (Ad 5) (Ac (Ah (Ad 4) (Ad 3) Bh) Aj)))))))))
def EE (GC Eu:Fn):M Out:=
 (Ap (DL 2 (As Eu (Ac (Ad 0) (Ac (Ad 1) Aj))))
 (Ap (ifS (DV (AT (As GC (Ac (Ad 2) Aj))))
   (EG "Broken" (Ac (Ad 1) (Ac (fC .non) Aj)))
   A7)
 (AQ (nxD (Ah (fC (.str " !\"#$ &'()*+,-./0123456789:;<=>?@ABCDEFGHIJKLMNOPQRSTUVWXYZ[\\]^_`abcdefghijklmnopqrstuvwxyz{|}~")) (Ah (Ad 2) (fC (.int 32)) CM) ixD)))))
def Dg (B5 Ds:Fn):M Out:=
 (Ap (DL 3 (As Ds (Ac (Ah (Ad 0) (fC (.int 2)) ixD) (Ac (Ad 1) (Ac (Ad 2) Aj)))))
 (Ap (A9 4 (Ah (Ad 2) (fC (.int 1)) Bh))
 (Ap (Ed 5 (Bq Aj))
 (Ap (Dn (CV (Ac (Ad 3) Aj)) (BE 6)
   (Ap (DL 7 (As B5 (Ac (Ah (Ad 0) (fC (.int 1)) ixD) (Ac (Ad 1) (Ac (Ad 4) Aj)))))
 (Ap (ownM 5 Dl (Ac (Ah (Ad 7) (fC (.int 0)) ixD) Aj))
 (A9 4 (Ah (Ad 7) (fC (.int 1)) ixD)))))
 (AQ (nxD (BP (Ac (Ad 5) (Ac (Ad 4) Aj)))))))))
def Dh (B5:Fn):M Out:=
 (Ap (DL 3 (As B5 (Ac (Ah (Ad 0) (fC (.int 1)) ixD) (Ac (Ad 1) (Ac (Ad 2) Aj)))))
 (Ap (DL 4 (As B5 (Ac (Ah (Ad 0) (fC (.int 2)) ixD) (Ac (Ad 1) (Ac (Ah (Ad 3) (fC (.int 1)) ixD) Aj)))))
 (AQ (nxD (BP (Ac (BP (Ac (Ah (Ad 3) (fC (.int 0)) ixD) (Ac (Ah (Ad 4) (fC (.int 0)) ixD) Aj))) (Ac (Ah (Ad 4) (fC (.int 1)) ixD) Aj)))))))
def CK (B5 Ds:Fn):M Out:=
 (Ap (DL 3 (As Ds (Ac (Ah (fB (Ac (Ah (Ad 0) (fC (.int 1)) ixD) Aj) Cb) (fC (.int 1)) CM) (Ac (Ad 1) (Ac (Ad 2) Aj)))))
 (Ap (DL 4 (As B5 (Ac (Ah (Ah (Ad 0) (fC (.int 1)) ixD) (Ad 3) ixD) (Ac (Ad 1) (Ac (Ah (Ad 2) (fC (.int 1)) Bh) Aj)))))
 (AQ (nxD (BP (Ac (BP (Ac (fC (.str "of")) (Ac (Ad 3) (Ac (Ah (Ad 4) (fC (.int 0)) ixD) Aj)))) (Ac (Ah (Ad 4) (fC (.int 1)) ixD) Aj)))))))
def CW:M Out:=
 (Ap (ifS (AT (Ah (Ad 1) (fB (Ac (Ad 0) Aj) Cb) ltA))
   (AQ (Ah (Ad 0) (Ad 1) ixD))
   A7)
 (AQ (fC (.int 0))))
def Cy (Jk:Fn):M Out:=
 (Ap (A9 2 (As Jk (Ac (Ad 0) (Ac (Ad 1) Aj))))
 (AQ (Ey [("rest",(Ad 2)),("mixed",(Ah (Ad 2) (Ah (fC (.int 10)) (fC (.int 12)) IP) ltA)),("count",(Ah (fC (.int 3)) (Ah (fC (.int 5)) (Ad 1) DW) Bh))])))
def Cz:M Out:=
 (Ap (A9 2 (Ah (Ad 0) (fC (.str "rest")) BY))
 (Ap (ifS (DV (AT (Ah (Ad 0) (fC (.str "mixed")) BY)))
   (Ap (Da (Ah (Ad 2) (Ad 1) Ju) (DS (Ad 0) (fC (.str "rest"))))
 (AQ (Ah (Ad 2) (Ad 1) FM)))
   A7)
 (Ap (Da (Ah (Ah (Ad 0) (fC (.str "count")) BY) (fC (.int 1)) Bh) (DS (Ad 0) (fC (.str "count"))))
 (Ap (A9 2 (Ah (Ah (Ad 2) (fC (.int 1000000000163)) FM) (Ah (fC (.int 70001)) (Ah (Ad 0) (fC (.str "count")) BY) Kx) Bh))
 (Ap (A9 2 (Ah (Ah (Ad 2) (Ah (Ad 2) (fC (.int 29)) Bh) Kx) (fC (.int 1000000000193)) FM))
 (Ap (A9 2 (Ah (Ah (Ad 2) (Ad 2) Kx) (fC (.int 999999999959)) FM))
 (Ap (Da (Ad 2) (DS (Ad 0) (fC (.str "rest"))))
 (AQ (Ah (Ah (Ad 2) (fC (.int 9)) Ju) (Ad 1) FM)))))))))
def Do (Ax CQ:Fn):M Out:=
 (Ap (A9 2 (As Ax (Ac (Ad 0) (Ac (Ah (fC (.int 3)) (Ah (fC (.int 3)) (fB (Ac (Ah (Ad 1) (fC (.int 0)) gtA) Aj) MS) DW) Bh) Aj))))
 (Ap (ifS (AT (Ah (Ad 2) (fC (.int 0)) (eqS id)))
   (AQ (BP (Ac (fC (.str "nothing")) Aj)))
   A7)
 (Ap (ifS (AT (Ah (Ad 2) (fC (.int 1)) (eqS id)))
   (Ap (A9 3 (Ah (AW (Bq (Ac (fC (.int 0)) (Ac (Ah (As Ax (Ac (Ad 0) (Ac (fC (.int 9)) Aj))) (fC (.int 4)) CM) (Ac (Ah (As Ax (Ac (Ad 0) (Ac (Ah (fC (.int 10)) (fC (.int 17)) IP) Aj))) (Ah (fC (.int 10)) (fC (.int 16)) IP) CM) Aj))))) (As Ax (Ac (Ad 0) (Ac (fC (.int 3)) Aj))) ixD))
 (AQ (BP (Ac (fC (.str "number")) (Ac (Ad 3) (Ac (Ah (Ad 3) (Ah (AW (Bq (Ac (fC (.int 0)) (Ac (fC (.int 1)) (Ac (fC (.int 255)) (Ac (fC (.int 256)) (Ac (fC (.int 300)) (Ac (fC (.int 70000)) (Ac (As Ax (Ac (Ad 0) (Ac (Ah (fC (.int 10)) (fC (.int 17)) IP) Aj))) Aj))))))))) (As Ax (Ac (Ad 0) (Ac (fC (.int 7)) Aj))) ixD) Bh) Aj))))))
   A7)
 (Ap (ifS (AT (Ah (Ad 2) (fC (.int 2)) (eqS id)))
   (AQ (BP (Ac (fC (.str "text")) (Ac (Ah (AW (Bq (Ac (fC (.int 0)) (Ac (fC (.int 1)) (Ac (fC (.int 5)) (Ac (fC (.int 250)) Aj)))))) (As Ax (Ac (Ad 0) (Ac (fC (.int 4)) Aj))) ixD) Aj))))
   A7)
 (Ap (ifS (AT (Ah (Ad 2) (fC (.int 3)) (eqS id)))
   (AQ (BP (Ac (fC (.str "list")) (Ac (As CQ (Ac (Ad 0) (Ac (Ah (Ad 1) (fC (.int 1)) CM) Aj))) (Ac (Ah (AW (Bq (Ac (fC (.int 0)) (Ac (fC (.int 2)) (Ac (fC (.int 6)) (Ac (fC (.int 250)) Aj)))))) (As Ax (Ac (Ad 0) (Ac (fC (.int 4)) Aj))) ixD) Aj)))))
   A7)
 (Ap (ifS (AT (Ah (Ad 2) (fC (.int 4)) (eqS id)))
   (AQ (BP (Ac (fC (.str "pair")) (Ac (As CQ (Ac (Ad 0) (Ac (Ah (Ad 1) (fC (.int 1)) CM) Aj))) (Ac (As CQ (Ac (Ad 0) (Ac (Ah (Ad 1) (fC (.int 1)) CM) Aj))) Aj)))))
   A7)
 (AQ (BP (Ac (fC (.str "choice")) (Ac (fB (Ac (AW (D1 1 [0,1] (CV (Ac (Ah (fC (.int 1)) (As Ax (Ac (Ad 0) (Ac (fC (.int 3)) Aj))) Bh) Aj)) (BE 0) Fh (As CQ (Ac (Ad 1) (Ac (Ah (Ad 2) (fC (.int 1)) CM) Aj))))) Aj) Nt) Aj))))))))))
def Dq (CS Ax:Fn):M Out:=
 (Ap (A9 2 (Ah (Ad 1) (fC (.int 0)) ixD))
 (Ap (ifS (AT (Ah (Ad 2) (fC (.str "nothing")) (eqS id)))
   (AQ (fC .non))
   A7)
 (Ap (ifS (AT (Ah (Ad 2) (fC (.str "number")) (eqS id)))
   (AQ (Ah (AW (Bq (Ac (Ah (Ad 1) (fC (.int 1)) ixD) (Ac (Ah (Ad 1) (fC (.int 2)) ixD) (Ac (Ah (Ah (Ad 1) (fC (.int 1)) ixD) (As Ax (Ac (Ad 0) (Ac (Ah (Ah (Ah (Ad 1) (fC (.int 2)) ixD) (Ah (Ad 1) (fC (.int 1)) ixD) CM) (fC (.int 1)) Bh) Aj))) Bh) Aj))))) (As Ax (Ac (Ad 0) (Ac (fC (.int 3)) Aj))) ixD))
   A7)
 (Ap (ifS (AT (Ah (Ad 2) (fC (.str "text")) (eqS id)))
   (Ap (A9 3 (fC (.str " !#09AZaz~{")))
 (AQ (joinM (fC (.str "")) (Ac (AW (D1 1 [3,0] (CV (Ac (fB (Ac (Ah (Ad 1) (fC (.int 1)) ixD) (Ac (As Ax (Ac (Ad 0) (Ac (fC (.int 7)) Aj))) Aj)) GQ) Aj)) (BE 0) Fh (Ah (Ad 1) (As Ax (Ac (Ad 2) (Ac (fC (.int 11)) Aj))) ixD))) Aj))))
   A7)
 (Ap (ifS (AT (Ah (Ad 2) (fC (.str "list")) (eqS id)))
   (AQ (AW (D1 1 [0,1] (CV (Ac (fB (Ac (Ah (Ad 1) (fC (.int 2)) ixD) (Ac (As Ax (Ac (Ad 0) (Ac (fC (.int 4)) Aj))) Aj)) GQ) Aj)) (BE 0) Fh (As CS (Ac (Ad 1) (Ac (Ah (Ad 2) (fC (.int 1)) ixD) Aj))))))
   A7)
 (Ap (ifS (AT (Ah (Ad 2) (fC (.str "pair")) (eqS id)))
   (AQ (BP (Ac (As CS (Ac (Ad 0) (Ac (Ah (Ad 1) (fC (.int 1)) ixD) Aj))) (Ac (As CS (Ac (Ad 0) (Ac (Ah (Ad 1) (fC (.int 2)) ixD) Aj))) Aj))))
   A7)
 (Ap (A9 4 (As Ax (Ac (Ad 0) (Ac (fB (Ac (Ah (Ad 1) (fC (.int 1)) ixD) Aj) Cb) Aj))))
 (AQ (BP (Ac (fC (.str "of")) (Ac (Ad 4) (Ac (As CS (Ac (Ad 0) (Ac (Ah (Ah (Ad 1) (fC (.int 1)) ixD) (Ad 4) ixD) Aj))) Aj))))))))))))
def CY (Ax CQ Db:Fn):M Out:=
 (Ap (A9 1 (As Db (Ac (Ad 0) (Ac (fC (.int 0)) Aj))))
 (Ap (A9 2 (Ah (AW (Bq (Ac (Ah (fC (.int 1)) (As Ax (Ac (Ad 1) (Ac (fC (.int 5)) Aj))) Bh) (Ac (Ah (fC (.int 1)) (As Ax (Ac (Ad 1) (Ac (fC (.int 9)) Aj))) Bh) (Ac (fC (.int 30)) Aj))))) (As Ax (Ac (Ad 1) (Ac (fC (.int 3)) Aj))) ixD))
 (Ap (Ed 3 (Bq Aj))
 (Ap (Dn (CV (Ac (Ad 2) Aj)) (BE 4)
   (Ap (A9 1 (As Db (Ac (Ad 0) (Ac (Ah (fC (.int 1)) (Ah (Ad 4) (fC (.int 13)) FM) Bh) Aj))))
 (Ap (Da (Ah (Ah (Ah (Ad 1) (fC (.str "rest")) BY) (Ah (fC (.int 1)) (Ah (Ad 4) (fC (.int 13)) GF) Bh) GF) (Ah (fC (.int 37)) (Ad 4) DW) Bh) (DS (Ad 1) (fC (.str "rest"))))
 (ifS (MB (AT (Ah (As Ax (Ac (Ad 1) (Ac (fC (.int 6)) Aj))) (fC (.int 0)) (eqS id))) (AT (Ah (Ad 4) (fC (.int 0)) gtA)))
   (ownM 3 Dl (Ac (BP (Ac (fC (.str "end")) Aj)) Aj))
   (Ap (A9 5 (Ah (AW (Bq (Ac (fC (.str "left")) (Ac (fC (.str "right")) Aj)))) (As Ax (Ac (Ad 1) (Ac (fC (.int 2)) Aj))) ixD))
 (Ap (Ed 6 (Bq Aj))
 (Ap (Dn (CV (Ac (Ah (AW (Bq (Ac (fC (.int 1)) (Ac (fC (.int 2)) (Ac (fC (.int 3)) (Ac (fC (.int 9)) Aj)))))) (As Ax (Ac (Ad 1) (Ac (fC (.int 4)) Aj))) ixD) Aj)) (BE 7)
   (Ap (A9 8 (Ah (Ah (fC (.str "abcdefghi")) (Ad 7) ixD) (Ah (Ah (fC (.str "xyz")) (As Ax (Ac (Ad 1) (Ac (fC (.int 3)) Aj))) ixD) (As Ax (Ac (Ad 1) (Ac (fC (.int 8)) Aj))) DW) Bh))
 (Ap (A9 9 (Ah (AW (Bq (Ac (As Ax (Ac (Ad 1) (Ac (Ad 2) Aj))) (Ac (fB (Ac (Ah (Ad 2) (fC (.int 1)) CM) (Ac (Ah (Ad 4) (fC (.int 1)) Bh) Aj)) GQ) Aj)))) (As Ax (Ac (Ad 1) (Ac (fC (.int 2)) Aj))) ixD))
 (ownM 6 Dl (Ac (BP (Ac (Ad 8) (Ac (As CQ (Ac (Ad 1) (Ac (As Ax (Ac (Ad 1) (Ac (fC (.int 3)) Aj))) Aj))) (Ac (Ad 9) Aj)))) Aj)))))
 (ownM 3 Dl (Ac (BP (Ac (Ad 5) (Ac (Ad 6) Aj))) Aj)))))))))
 (AQ (Ad 3))))))
def DE (CS Ax Db:Fn):M Out:=
 (Ap (Ed 4 (Bq Aj))
 (Ap (A9 5 (fC (.int 0)))
 (Ap (Ed 6 (Bq (Ac (fC (.int 0)) Aj)))
 (Ap (Dn (FY (Ac (Ad 2) (Ac (fB (Ac (fB (Ac (Ad 0) Aj) Cb) (Ac (Ad 3) Aj)) GQ) Aj))) (BE 7)
   (Ap (A9 8 (As Db (Ac (Ad 0) (Ac (Ad 7) Aj))))
 (ifS (AT (Ah (Ah (Ad 1) (Ad 5) ixD) (BP (Ac (fC (.str "end")) Aj)) (eqS λb=>!b)))
   (Ap (Da (Ah (Ad 1) (Ad 5) ixD) (unS 2 (BL (BE 9) (BL (BE 10) DZ))))
 (Ap (Da (Ah (Ad 10) (As Ax (Ac (Ad 8) (Ac (fB (Ac (Ad 10) Aj) Cb) Aj))) ixD) (unS 3 (BL (BE 11) (BL (BE 12) (BL (BE 13) DZ)))))
 (Ap (ownM 4 Dl (Ac (BP (Ac (Ad 9) (Ac (Ad 11) (Ac (As CS (Ac (Ad 8) (Ac (Ad 12) Aj))) Aj)))) Aj))
 (Ap (A9 5 (Ad 13))
 (ownM 6 Dl (Ac (Ad 5) Aj))))))
   A7)))
 (AQ (AW (Bq (Ac (Ad 4) (Ac (Ad 6) Aj)))))))))
def Dr (Cp Ef:Fn):M Out:=
 (Ap (ifS (DV (AT (As Ef (Ac (Ad 0) (Ac (Ad 1) Aj)))))
   (Ht "NoValue" (Ac (fC (.str "the value does not fit the shape")) Aj))
   A7)
 (AQ (nxD (AW (Ex Cp (Ac (Ad 0) (Ac (Ad 1) Aj)))))))
def F6 (Oz:Fn):M Out:=
 (Ap (DL 3 (As Oz (Ac (Ad 0) (Ac (fC (.int 0)) (Ac (Ey [("left",(Ad 1)),("right",(Ad 2))]) (Ac (Ey [("left",(fC (.int 0))),("right",(fC (.int 0)))]) Aj))))))
 (AQ (nxD (BP (Ac (Ah (Ad 3) (fC (.int 0)) ixD) (Ac (Ah (Ad 3) (fC (.int 1)) ixD) (Ac (BP (Ac (Ah (Ah (Ad 3) (fC (.int 2)) ixD) (fC (.str "left")) BY) (Ac (Ah (Ah (Ad 3) (fC (.int 2)) ixD) (fC (.str "right")) BY) Aj))) Aj)))))))
def F5 (Jn:Fn):M Out:=
 (Ap (Ed 4 (Bq Aj))
 (Ap (A9 5 (Ad 1))
 (Ap (A9 6 (fB (Ac (Ad 3) Aj) Jp))
 (Ap (Ke (AT (Ah (Ah (Ah (Ad 0) (Ad 5) ixD) (fC (.int 0)) ixD) (Ad 2) (inS false)))
   (Ap (A9 7 (Ah (Ah (Ad 0) (Ad 5) ixD) (fC (.int 0)) ixD))
 (Ap (DL 8 (As Jn (Ac (Ah (Ad 0) (Ad 5) ixD) (Ac (Ah (Ad 2) (Ad 7) BY) (Ac (Ah (Ad 6) (Ad 7) BY) Aj)))))
 (Ap (ifS (AT (Ah (Ad 8) (fC .non) isC))
   (ret .brk)
   A7)
 (Ap (ownM 4 Dl (Ac (Ah (Ad 8) (fC (.int 0)) ixD) Aj))
 (Ap (A9 5 (Ah (Ad 8) (fC (.int 1)) ixD))
 (Da (Ah (Ad 8) (fC (.int 2)) ixD) (DS (Ad 6) (Ad 7)))))))))
 (AQ (nxD (BP (Ac (Ad 4) (Ac (Ad 5) (Ac (Ad 6) Aj))))))))))
def DQ (B5:Fn):M Out:=
 (Ap (ifS (AT (Ah (Ad 2) (fB (Ac (Ad 1) Aj) Cb) geA))
   (AQ (nxD (fC .non)))
   A7)
 (Ap (ifS (AT (Ah (Ah (Ad 1) (Ad 2) ixD) (fB (Ac (Ah (Ad 0) (fC (.int 1)) ixD) Aj) Cb) geA))
   (EG "Broken" (Ac (Ad 2) (Ac (Ah (Ad 0) (fC (.int 0)) ixD) Aj)))
   A7)
 (Ap (A9 3 (Ah (Ah (Ad 0) (fC (.int 1)) ixD) (Ah (Ad 1) (Ad 2) ixD) ixD))
 (Ap (Fi (DL 4 (As B5 (Ac (Ah (Ad 3) (fC (.int 1)) ixD) (Ac (Ad 1) (Ac (Ah (Ad 2) (fC (.int 1)) Bh) Aj))))) (hNo "Short" (AQ (nxD (fC .non))) (hAs "Broken" 5 (EG "Broken" (Ac (bnd (Ad 5) (Hc "at")) (Ac (Ah (Ad 0) (fC (.int 0)) ixD) Aj))) OM)))
 (AQ (nxD (BP (Ac (BP (Ac (Ah (Ad 0) (fC (.int 0)) ixD) (Ac (Ah (Ad 3) (fC (.int 0)) ixD) (Ac (Ah (Ad 4) (fC (.int 0)) ixD) Aj)))) (Ac (Ah (Ad 3) (fC (.int 2)) ixD) (Ac (Ah (Ad 4) (fC (.int 1)) ixD) Aj))))))))))
def D2 (Kq:Fn):M Out:=
 (Ap (Ed 2 (Bq Aj))
 (Ap (A9 3 (fC (.int 0)))
 (Ap (Dn (F9 (Ad 1)) (unS 3 (BL (BE 4) (BL (BE 5) (BL (BE 6) DZ))))
   (Ap (A9 7 (Ah (Ah (Ad 0) (Ad 3) ixD) (fC (.int 1)) ixD))
 (Ap (A9 8 (idxM (AW (D1 1 [] (F9 (Ad 7)) (BE 0) Fh (Ah (Ad 0) (fC (.int 0)) ixD))) (Ac (Ad 5) Aj)))
 (Ap (ownM 2 Dl (Ac (Ah (AW (Bq (Ac (Ad 8) Aj))) (As (Ky Kq) (Ac (Ah (Ah (Ad 7) (Ad 8) ixD) (fC (.int 1)) ixD) (Ac (Ad 6) Aj))) Bh) Aj))
 (A9 3 (Ah (Ah (Ad 7) (Ad 8) ixD) (fC (.int 2)) ixD))))))
 (AQ (Ad 2)))))
def CO:M Out:=
 (Ap (A9 2 (Ey [("left",(AW (Bq Aj))),("right",(AW (Bq Aj)))]))
 (Ap (Dn (CV (Ac (fB (Ac (Ad 0) Aj) Cb) Aj)) (BE 3)
   (Da (Ah (Ah (Ad 2) (Ah (Ah (Ad 0) (Ad 3) ixD) (fC (.int 0)) ixD) BY) (Ah (Ad 1) (Ad 3) ixD) Bh) (DS (Ad 2) (Ah (Ah (Ad 0) (Ad 3) ixD) (fC (.int 0)) ixD))))
 (AQ (Ad 2))))
def Dp (B5:Fn):M Out:=
 (Ap (Fi (Q4 (As B5 (Ac (Ad 0) (Ac (Ad 1) (Ac (Ad 2) Aj)))) (unS 2 (BL (BE 3) (BL (BE 4) DZ)))) (hNo "Short" (AQ (AW (Bq (Ac (fC (.str "short")) (Ac (fC .non) (Ac (fC .non) Aj)))))) (hAs "Broken" 5 (AQ (AW (Bq (Ac (fC (.str "broken")) (Ac (bnd (Ad 5) (Hc "at")) (Ac (fC .non) Aj)))))) OM)))
 (AQ (AW (Bq (Ac (fC (.str "value")) (Ac (Ad 3) (Ac (Ad 4) Aj)))))))
def ED (Iu:Fn):M Out:=
 (Ap (Ed 2 (Bq Aj))
 (Ap (A9 3 (fC (.int 0)))
 (Ap (A9 4 (Ey [("left",(fC (.int 0))),("right",(fC (.int 0)))]))
 (Ap (Ke (AT (Ah (Ah (Ad 0) (Ad 3) ixD) (BP (Ac (fC (.str "end")) Aj)) (eqS λb=>!b)))
   (Ap (Da (Ah (Ad 0) (Ad 3) ixD) (unS 2 (BL (BE 5) (BL (BE 6) DZ))))
 (Ap (A9 7 (Ah (Ad 4) (Ad 5) BY))
 (Ap (ifS (AT (Ah (Ad 7) (fB (Ac (Ah (Ad 1) (Ad 5) BY) Aj) Cb) (eqS id)))
   (ret .brk)
   A7)
 (Ap (A9 8 (Ah (Ah (Ad 1) (Ad 5) BY) (Ad 7) ixD))
 (Ap (ifS (AT (Ah (Ad 8) (fB (Ac (Ad 6) Aj) Cb) geA))
   (AQ (AW (Bq (Ac (Ad 2) (Ac (Ad 3) (Ac (Ad 4) (Ac (BP (Ac (Ad 7) (Ac (Ad 5) Aj))) Aj)))))))
   A7)
 (Ap (Da (As Iu (Ac (Ah (Ah (Ad 6) (Ad 8) ixD) (fC (.int 1)) ixD) (Ac (Ah (Ad 1) (Ad 5) BY) (Ac (Ah (Ad 7) (fC (.int 1)) Bh) Aj)))) (unS 3 (BL (BE 9) (BL (BE 10) (BL (BE 11) DZ)))))
 (Ap (ifS (AT (Ah (Ad 9) (fC (.str "broken")) (eqS id)))
   (AQ (AW (Bq (Ac (Ad 2) (Ac (Ad 3) (Ac (Ad 4) (Ac (BP (Ac (Ad 10) (Ac (Ad 5) Aj))) Aj)))))))
   A7)
 (Ap (ifS (AT (Ah (Ad 9) (fC (.str "short")) (eqS id)))
   (ret .brk)
   A7)
 (Ap (ownM 2 Dl (Ac (BP (Ac (Ad 5) (Ac (Ah (Ah (Ad 6) (Ad 8) ixD) (fC (.int 0)) ixD) (Ac (Ad 10) Aj)))) Aj))
 (Ap (A9 3 (Ah (Ah (Ad 6) (Ad 8) ixD) (fC (.int 2)) ixD))
 (Da (Ad 11) (DS (Ad 4) (Ad 5))))))))))))))
 (AQ (AW (Bq (Ac (Ad 2) (Ac (Ad 3) (Ac (Ad 4) (Ac (fC .non) Aj)))))))))))
def C7 (Ax:Fn):M Out:=
 (Ap (A9 2 (Ey [("left",(AW (fBF (Ac (Ah (Ad 0) (fC (.str "left")) BY) Aj) GP))),("right",(AW (fBF (Ac (Ah (Ad 0) (fC (.str "right")) BY) Aj) GP)))]))
 (Ap (Dn (CV (Ac (Ah (fC (.int 1)) (As Ax (Ac (Ad 1) (Ac (fC (.int 2)) Aj))) Bh) Aj)) (BE 3)
   (Ap (A9 4 (Ah (AW (Bq (Ac (fC (.str "left")) (Ac (fC (.str "right")) Aj)))) (As Ax (Ac (Ad 1) (Ac (fC (.int 2)) Aj))) ixD))
 (Ap (A9 5 (Ah (Ad 2) (Ad 4) BY))
 (Ap (A9 6 (Ah (AW (Bq (Ac (As Ax (Ac (Ad 1) (Ac (Ah (fB (Ac (Ad 5) Aj) Cb) (fC (.int 1)) Bh) Aj))) (Ac (fB (Ac (fC (.int 0)) (Ac (Ah (Ah (fB (Ac (Ad 5) Aj) Cb) (fC (.int 1)) CM) (As Ax (Ac (Ad 1) (Ac (fC (.int 3)) Aj))) CM) Aj)) MZ) Aj)))) (As Ax (Ac (Ad 1) (Ac (fC (.int 2)) Aj))) ixD))
 (Ap (A9 7 (Ah (AW (Bq (Ac (As Ax (Ac (Ad 1) (Ac (fC (.int 256)) Aj))) (Ac (As Ax (Ac (Ad 1) (Ac (fC (.int 4)) Aj))) (Ac (fC (.int 255)) (Ac (fC (.int 251)) Aj)))))) (As Ax (Ac (Ad 1) (Ac (fC (.int 4)) Aj))) ixD))
 (Ap (A9 8 (As Ax (Ac (Ad 1) (Ac (fC (.int 5)) Aj))))
 (ifS (AT (Ah (Ad 8) (fC (.int 2)) ltA))
   (Da (Ah (Ah (fSl (Ad 5) fNo (EZ (Ad 6)) EI) (AW (Bq (Ac (Ad 7) Aj))) Bh) (fSl (Ad 5) (EZ (Ah (Ad 6) (fC (.int 1)) Bh)) fNo EI) Bh) (DS (Ad 2) (Ad 4)))
   (ifS (AT (Ah (Ad 8) (fC (.int 2)) (eqS id)))
   (Da (Ah (Ah (fSl (Ad 5) fNo (EZ (Ad 6)) EI) (AW (Bq (Ac (Ad 7) Aj))) Bh) (fSl (Ad 5) (EZ (Ad 6)) fNo EI) Bh) (DS (Ad 2) (Ad 4)))
   (ifS (AT (Ah (Ad 8) (fC (.int 3)) (eqS id)))
   (Da (Ah (fSl (Ad 5) fNo (EZ (Ad 6)) EI) (fSl (Ad 5) (EZ (Ah (Ad 6) (fC (.int 1)) Bh)) fNo EI) Bh) (DS (Ad 2) (Ad 4)))
   (Da (Ah (Ad 5) (AW (D1 1 [1] (CV (Ac (As Ax (Ac (Ad 1) (Ac (fC (.int 6)) Aj))) Aj)) (BE 0) Fh (As Ax (Ac (Ad 1) (Ac (fC (.int 256)) Aj))))) Bh) (DS (Ad 2) (Ad 4))))))))))))
 (AQ (Ad 2))))
def DF (OB:Fn):M Out:=
 (Ap (A9 2 (AW (Bq Aj)))
 (Ap (A9 3 (fC .non))
 (Ap (A9 4 (fC .non))
 (Ap (Fi (DL 4 (As OB (Ac (Ad 0) (Ac (Ah (Ad 1) (fC (.str "left")) BY) (Ac (Ah (Ad 1) (fC (.str "right")) BY) Aj))))) (hAs "ParleyError" 5 (Ap (A9 2 (AW (Bq (Ac (bnd (Ad 5) (Ea "Broken")) (Ac (bnd (Ad 5) (Ea "ValueError")) (Ac (bnd (Ad 5) (Ea "NoName")) (Ac (bnd (Ad 5) (Ea "NoRow")) Aj)))))))
 (Ap (A9 2 (Ah (Ad 2) (AW (Bq (Ac (bnd (Ad 5) (Ea "NoTalk")) (Ac (bnd (Ad 5) (Ea "NoText")) (Ac (bnd (Ad 5) (Ea "NoValue")) (Ac (bnd (Ad 5) (Ea "Short")) Aj)))))) Bh))
 (ifS (AT (bnd (Ad 5) (Ea "Broken")))
   (A9 3 (BP (Ac (bnd (Ad 5) (Hc "at")) (Ac (bnd (Ad 5) (Hc "side")) Aj))))
   A7))) OM))
 (Ap (ifS (AT (Ah (Ad 2) (AW (Bq Aj)) (eqS id)))
   (AQ (AW (Bq (Ac (fC (.str "told")) (Ac (Ad 4) Aj)))))
   A7)
 (AQ (AW (Bq (Ac (fC (.str "refused")) (Ac (EY (Ah (Ad 2) (Ah (AW (Bq (Ac (fC (.bl true)) (Ac (fC (.bl true)) Aj)))) (Ah (AW (Bq (Ac (fC (.bl false)) Aj))) (fC (.int 6)) DW) Bh) (eqS id)) (Ad 3)) Aj))))))))))
def DC (Mg Mh:Fn):M Out:=
 (Ap (Da (As Mh (Ac (Ad 0) (Ac (Ad 1) Aj))) (unS 4 (BL (BE 2) (BL (BE 3) (BL (BE 4) (BL (BE 5) DZ))))))
 (Ap (A9 6 (Ey [("left",(AW (fBF (Ac (Ah (Ad 1) (fC (.str "left")) BY) Aj) GP))),("right",(AW (fBF (Ac (Ah (Ad 1) (fC (.str "right")) BY) Aj) GP)))]))
 (Ap (A9 7 (As Mg (Ac (Ad 0) (Ac (Ad 6) Aj))))
 (Ap (ifS (AT (Ah (Ad 6) (Ad 1) (MA false)))
   (AQ (fC (.bl false)))
   A7)
 (Ap (ifS (AT (Ah (Ad 5) (fC .non) Hj))
   (AQ (Ah (Ad 7) (AW (Bq (Ac (fC (.str "refused")) (Ac (Ad 5) Aj)))) (eqS id)))
   A7)
 (AQ (Ah (Ad 7) (AW (Bq (Ac (fC (.str "told")) (Ac (BP (Ac (Ad 2) (Ac (Ad 3) (Ac (BP (Ac (Ah (Ad 4) (fC (.str "left")) BY) (Ac (Ah (Ad 4) (fC (.str "right")) BY) Aj))) Aj)))) Aj)))) (eqS id))))))))
def F3 (FC Db Km Lk G6 Mf Jl:Fn):M Out:=
 (Ap (A9 1 (As Jl (Ac (Ad 0) Aj)))
 (Ap (A9 2 (Ah (As Mf (Ac (Ad 0) (Ac (Ad 1) (Ac (fC (.int 14)) (Ac (fC (.int 44)) Aj))))) (fC (.int 0)) ixD))
 (Ap (A9 3 (As G6 (Ac (Ad 2) (Ac (As Lk (Ac (Ad 1) (Ac (Ad 2) Aj))) Aj))))
 (Ap (Dn (FY (Ac (fC (.int 44)) (Ac (fC (.int 52)) Aj))) (BE 4)
   (ifS (DV (AT (As FC (Ac (Ad 1) (Ac (As Km (Ac (Ad 3) (Ac (As Db (Ac (Ad 0) (Ac (Ad 4) Aj))) Aj))) Aj)))))
   (AQ (fC (.bl false)))
   A7))
 (AQ (EY (As FC (Ac (Ad 1) (Ac (Ad 3) Aj))) (As FC (Ac (Ad 1) (Ac (Ey [("left",(AW (Bq (Ac (fC (.int 255)) Aj)))),("right",(AW (Bq (Ac (fC (.int 255)) Aj))))]) Aj)))))))))
end LW
namespace F2
open PySem L2
def W {α:Type} (m:M α) (t:T) (P:α->T->Prop):Prop:=∃a t',m t=some (a,t')/\P a t'
def Wf (g:Fn) (ds:List D) (S:List Ob) (P:D->List Ob->Prop):Prop:=∃r S',g ds S=some (r,S')/\P r S'
theorem W.mono {α:Type} {m:M α} {t:T} {P Q:α->T->Prop} (h:W m t P) (i:∀a t',P a t'->Q a t'):W m t Q:=by
 obtain ⟨a,t',e,p⟩:=h
 exact ⟨a,t',e,i a t' p⟩
theorem Wf.mono {g:Fn} {ds:List D} {S:List Ob} {P Q:D->List Ob->Prop} (h:Wf g ds S P) (i:∀r S',P r S'->Q r S'):Wf g ds S Q:=by
 obtain ⟨a,t',e,p⟩:=h
 exact ⟨a,t',e,i a t' p⟩
section
variable {α β:Type}
theorem AV {m:M α} {t:T} {P:α->T->Prop} {a:α} {t':T} (e:m t=some (a,t')):W m t P↔P a t':=by
 constructor
 ·rintro ⟨a',t1,e',p⟩;rw [e] at e';cases e';exact p
 ·exact λp=>⟨a,t',e,p⟩
theorem Hb {m:M α} {t:T} {P:α->T->Prop} (e:m t=none):W m t P↔False:=by
 constructor
 ·rintro ⟨a',t1,e',p⟩;rw [e] at e';cases e'
 ·exact False.elim
@[simp] theorem W_ret {a:α} {t:T} {P:α->T->Prop}:W (ret a) t P↔P a t:=AV rfl
@[simp] theorem W_fail {t:T} {P:α->T->Prop}:W (fail:M α) t P↔False:=Hb rfl
@[simp] theorem W_bnd {f:M α} {g:α->M β} {t:T} {P:β->T->Prop}:W (bnd f g) t P↔W f t λa t1=>W (g a) t1 P:=by
 constructor
 ·rintro ⟨b,t',e,p⟩
  obtain ⟨a,t1,e1,e2⟩:=Au e
  exact ⟨a,t1,e1,b,t',e2,p⟩
 ·rintro ⟨a,t1,e1,b,t',e2,p⟩
  exact ⟨b,t',by unfold bnd;rw [e1];exact e2,p⟩
@[simp] theorem Sq {c:Prop} [Decidable c] {f g:M α} {t:T} {P:α->T->Prop}:W (if c then f else g) t P↔if c then W f t P else W g t P:=by split <;> rfl
@[simp] theorem Zq {n:Nat} {a:α} {t:T} {P:α->T->Prop}:W (lim n a) t P↔n<=LIM/\P a t:=by
 unfold lim
 constructor
 ·rintro ⟨a',t',e,p⟩
  split at e
  ·cases e;exact ⟨by assumption,p⟩
  ·cases e
 ·rintro ⟨h,p⟩
  exact ⟨a,t,by simp only [h,if_true],p⟩
end
variable {t:T} {env:List (Option Sl)} {S:List Ob}
@[simp] theorem W_fC {d:D} {P:D->T->Prop}:W (fC d) t P↔P d t:=AV rfl
@[simp] theorem Po {i:Nat} {P:D->T->Prop}:W (Ad i) t P↔match t.env[i]? with
 | some (some (.val d))=>P d t
 | some (some (.own ds))=>P (.lst ds) ⟨t.env.set i (some (.val (.lst ds))),t.S⟩
 | _=>False:=by
 cases e:t.env[i]? with
 | none=>exact Hb (by unfold Ad;simp [e])
 | some o=>
   cases o with
   | none=>exact Hb (by unfold Ad;simp [e])
   | some sl=>
     cases sl with
     | val d=>exact AV (by unfold Ad;simp [e])
     | own ds=>exact AV (by unfold Ad;simp [e])
@[simp] theorem W_fBin {f g:M D} {h:D->D->M D} {P:D->T->Prop}:W (Ah f g h) t P↔W f t λx t1=>W g t1 λy t2=>W (h x y) t2 P:=by simp [Ah]
@[simp] theorem W_fUn {f:M D} {h:D->M D} {P:D->T->Prop}:W (fUn f h) t P↔W f t λx t1=>W (h x) t1 P:=by simp [fUn]
@[simp] theorem W_toB {b:Bool} {P:Bool->T->Prop}:W (toB (.bl b)) t P↔P b t:=AV rfl
@[simp] theorem W_fTst {f:M D} {P:Bool->T->Prop}:W (AT f) t P↔W f t λx t1=>W (toB x) t1 P:=by simp [AT]
@[simp] theorem W_fChain {f g w:M D} {h h':D->D->M D} {P:D->T->Prop}:W (FG f g w h h') t P↔W f t λx t1=>W g t1 λy t2=>W (h x y) t2 λk t3=>W (toB k) t3 λk t4=>if k=true then W w t4 λz t5=>W (h' y z) t5 P else P (.bl false) t4:=by
 simp [FG]
@[simp] theorem W_fAnd {f g:M Bool} {P:Bool->T->Prop}:W (MB f g) t P↔W f t λk t1=>if k=true then W g t1 P else P false t1:=by simp [MB]
@[simp] theorem W_fOr {f g:M Bool} {P:Bool->T->Prop}:W (fOr f g) t P↔W f t λk t1=>if k=true then P true t1 else W g t1 P:=by simp [fOr]
@[simp] theorem W_fNot {f:M Bool} {P:Bool->T->Prop}:W (DV f) t P↔W f t λk t1=>P (!k) t1:=by simp [DV]
@[simp] theorem W_fAndV {f g:M D} {P:D->T->Prop}:W (EY f g) t P↔W f t λx t1=>W (toB x) t1 λk t2=>if k=true then W g t2 P else P (.bl false) t2:=by simp [EY]
@[simp] theorem Zj {f g:M D} {P:D->T->Prop}:W (Va f g) t P↔W f t λx t1=>W (toB x) t1 λk t2=>if k=true then P (.bl true) t2 else W g t2 P:=by simp [Va]
@[simp] theorem W_fNotV {f:M D} {P:D->T->Prop}:W (Jt f) t P↔W f t λx t1=>W (toB x) t1 λk t2=>P (.bl (!k)) t2:=by simp [Jt]
@[simp] theorem Zp {f:M Bool} {g h:M D} {P:D->T->Prop}:W (fIf f g h) t P↔W f t λk t1=>if k=true then W g t1 P else W h t1 P:=by simp [fIf]
@[simp] theorem W_fNil {P:List D->T->Prop}:W Aj t P↔P [] t:=AV rfl
@[simp] theorem W_fCons {f:M D} {g:M (List D)} {P:List D->T->Prop}:W (Ac f g) t P↔W f t λd t1=>W g t1 λds t2=>P (d :: ds) t2:=by simp [Ac]
@[simp] theorem W_fTup {f:M (List D)} {P:D->T->Prop}:W (BP f) t P↔W f t λds t1=>ds.length<=LIM/\P (.tup ds) t1:=by simp [BP]
@[simp] theorem W_fLst {f:M (List D)} {P:List D->T->Prop}:W (Bq f) t P↔W f t λds t1=>ds.length<=LIM/\P ds t1:=by simp [Bq]
@[simp] theorem W_fPure {f:M (List D)} {P:D->T->Prop}:W (AW f) t P↔W f t λds t1=>P (.lst ds) t1:=by simp [AW]
@[simp] theorem Zf {o:Ob} {P:D->T->Prop}:W (OS o) t P↔P (.obj t.S.length) ⟨t.env,t.S++[o]⟩:=AV rfl
@[simp] theorem Zi {f:M (List D)} {P:D->T->Prop}:W (U9 f) t P↔W f t λds t1=>W (OS (.lst ds)) t1 P:=by simp [U9]
@[simp] theorem W_fCall {g:Fn} {f:M (List D)} {P:D->T->Prop}:W (As g f) t P↔W f t λds t1=>Wf g ds t1.S λr S'=>P r ⟨t1.env,S'⟩:=by
 unfold As
 rw [W_bnd]
 constructor
 ·rintro ⟨ds,t1,e1,r,t',e2,p⟩
  refine ⟨ds,t1,e1,?_⟩
  dsimp only at e2
  cases e:g ds t1.S with
  | none=>rw [e] at e2;cases e2
  | some z=>obtain ⟨r',S'⟩:=z;rw [e] at e2;cases e2;exact ⟨r,_,e,p⟩
 ·rintro ⟨ds,t1,e1,r,S',e2,p⟩
  exact ⟨ds,t1,e1,r,_,by simp only [e2],p⟩
@[simp] theorem W_fB {f:M (List D)} {h:List D->M D} {P:D->T->Prop}:W (fB f h) t P↔W f t λds t1=>W (h ds) t1 P:=by simp [fB]
@[simp] theorem W_fBF {f:M (List D)} {h:List D->M (List D)} {P:List D->T->Prop}:W (fBF f h) t P↔W f t λds t1=>W (h ds) t1 P:=by simp [fBF]
@[simp] theorem W_seqS {f g:M Out} {P:Out->T->Prop}:W (Ap f g) t P↔W f t λo t1=>match o with
 | .next=>W g t1 P
 | .brk=>P .brk t1
 | .cont=>P .cont t1
 | .ret d=>P (.ret d) t1:=by
 unfold Ap
 constructor
 ·rintro ⟨o,t',e,p⟩
  dsimp only at e
  cases e1:f t with
  | none=>rw [e1] at e;cases e
  | some z=>
    obtain ⟨o1,t1⟩:=z
    rw [e1] at e
    refine ⟨o1,t1,e1,?_⟩
    cases o1 with
    | next=>exact ⟨o,t',e,p⟩
    | brk=>cases e;exact p
    | cont=>cases e;exact p
    | ret d=>cases e;exact p
 ·rintro ⟨o,t1,e,p⟩
  cases o with
  | next=>obtain ⟨o,t',e',p⟩:=p;exact ⟨o,t',by simp only [e];exact e',p⟩
  | brk=>exact ⟨_,_,by simp only [e],p⟩
  | cont=>exact ⟨_,_,by simp only [e],p⟩
  | ret d=>exact ⟨_,_,by simp only [e],p⟩
@[simp] theorem W_skipS {P:Out->T->Prop}:W A7 t P↔P .next t:=AV rfl
@[simp] theorem W_retS {f:M D} {P:Out->T->Prop}:W (AQ f) t P↔W f t λd t1=>P (.ret d) t1:=by simp [AQ]
@[simp] theorem Zc {f:M D} {P:Out->T->Prop}:W (Sx f) t P↔W f t λd t1=>P .next t1:=by simp [Sx]
@[simp] theorem W_ifS {f:M Bool} {g h:M Out} {P:Out->T->Prop}:W (ifS f g h) t P↔W f t λk t1=>if k=true then W g t1 P else W h t1 P:=by simp [ifS]
@[simp] theorem W_putV {i:Nat} {d:D} {P:Unit->T->Prop}:W (BE i d) t P↔P () ⟨t.env.set i (some (.val d)),t.S⟩:=AV rfl
@[simp] theorem W_setS {i:Nat} {f:M D} {P:Out->T->Prop}:W (A9 i f) t P↔W f t λd t1=>P .next ⟨t1.env.set i (some (.val d)),t1.S⟩:=by
 simp only [A9,W_bnd,W_ret,W_putV]
@[simp] theorem W_ownS {i:Nat} {f:M (List D)} {P:Out->T->Prop}:W (Ed i f) t P↔W f t λds t1=>P .next ⟨t1.env.set i (some (.own ds)),t1.S⟩:=by
 unfold Ed;rw [W_bnd]
 have:∀(ds:List D) (t1:T),W (λt:T=>some (Out.next,({ t with env:=t.env.set i (some (.own ds)) }:T))) t1 P↔P .next ⟨t1.env.set i (some (.own ds)),t1.S⟩:=λds t1=>AV rfl
 simp only [this]
@[simp] theorem W_asgS {f:M D} {g:D->M Unit} {P:Out->T->Prop}:W (Da f g) t P↔W f t λd t1=>W (g d) t1 λ_ t2=>P .next t2:=by simp [Da]
@[simp] theorem W_putNil {P:Unit->T->Prop}:W (DZ []) t P↔P () t:=AV rfl
@[simp] theorem W_putCons {f:D->M Unit} {g:List D->M Unit} {d:D} {ds:List D} {P:Unit->T->Prop}:W (BL f g (d :: ds)) t P↔W (f d) t λ_ t1=>W (g ds) t1 P:=by simp [BL]
@[simp] theorem W_unS_lst {n:Nat} {g:List D->M Unit} {ds:List D} {P:Unit->T->Prop}:W (unS n g (.lst ds)) t P↔ds.length=n/\W (g ds) t P:=by
 unfold unS;simp only [Sq,W_fail];split <;> simp [*]
@[simp] theorem W_unS_tup {n:Nat} {g:List D->M Unit} {ds:List D} {P:Unit->T->Prop}:W (unS n g (.tup ds)) t P↔ds.length=n/\W (g ds) t P:=by
 unfold unS;simp only [Sq,W_fail];split <;> simp [*]
@[simp] theorem W_forS {f:M (List D)} {st:D->M Unit} {b:M Out} {P:Out->T->Prop}:W (Dn f st b) t P↔W f t λds t1=>W (Dy st b ds) t1 P:=by simp [Dn]
@[simp] theorem W_forL_nil {st:D->M Unit} {b:M Out} {P:Out->T->Prop}:W (Dy st b []) t P↔P .next t:=AV rfl
theorem Ny {st:D->M Unit} {b:M Out} {d:D} {r:List D} {P:Out->T->Prop}:W (Dy st b (d :: r)) t P↔W (st d) t λ_ t1=>W b t1 λo t2=>match o with
 | .next=>W (Dy st b r) t2 P
 | .cont=>W (Dy st b r) t2 P
 | .brk=>P .next t2
 | .ret x=>P (.ret x) t2:=by
 constructor
 ·rintro ⟨o,t',e,p⟩
  unfold Dy at e
  cases e1:st d t with
  | none=>rw [e1] at e;cases e
  | some z=>
    obtain ⟨u,t1⟩:=z
    rw [e1] at e
    try dsimp only at e
    refine ⟨u,t1,e1,?_⟩
    cases e2:b t1 with
    | none=>rw [e2] at e;cases e
    | some z=>
      obtain ⟨o2,t2⟩:=z
      rw [e2] at e
      try dsimp only at e
      refine ⟨o2,t2,e2,?_⟩
      cases o2 with
      | next=>exact ⟨o,t',e,p⟩
      | cont=>exact ⟨o,t',e,p⟩
      | brk=>cases e;exact p
      | ret x=>cases e;exact p
 ·rintro ⟨u,t1,e1,o,t2,e2,p⟩
  cases o with
  | next=>obtain ⟨o,t',e',p⟩:=p;exact ⟨o,t',by unfold Dy;simp only [e1,e2];exact e',p⟩
  | cont=>obtain ⟨o,t',e',p⟩:=p;exact ⟨o,t',by unfold Dy;simp only [e1,e2];exact e',p⟩
  | brk=>exact ⟨_,_,by unfold Dy;simp only [e1,e2],p⟩
  | ret x=>exact ⟨_,_,by unfold Dy;simp only [e1,e2],p⟩
theorem Dk {st:D->M Unit} {b:M Out} {P:Out->T->Prop} (I:List D->T->Prop):∀(ds:List D) (t:T),I ds t->
 (∀d r t,I (d :: r) t->d∈ds->W (st d) t λ_ t1=>W b t1 λo t2=>match o with
   | .next=>I r t2
   | .cont=>I r t2
   | .brk=>P .next t2
   | .ret x=>P (.ret x) t2)->(∀t,I [] t->P .next t)->W (Dy st b ds) t P
 | [],t,h,_,fin=>W_forL_nil.mpr (fin t h)
 | d :: r,t,h,turn,fin=>by
   rw [Ny]
   refine (turn d r t h List.mem_cons_self).mono λ_ t1 h1=>h1.mono λo t2 h2=>?_
   cases o with
   | next=>exact Dk I r t2 h2 (λd' r' t' h' m=>turn d' r' t' h' (List.mem_cons_of_mem _ m)) fin
   | cont=>exact Dk I r t2 h2 (λd' r' t' h' m=>turn d' r' t' h' (List.mem_cons_of_mem _ m)) fin
   | brk=>exact h2
   | ret x=>exact h2
@[simp] theorem W_fComp {n:Nat} {fr:List Nat} {f:M (List D)} {st:D->M Unit} {tst:M Bool} {elt:M D} {P:List D->T->Prop}:W (D1 n fr f st tst elt) t P↔W f t λds t1=>W (CU st tst elt ds) ⟨cenv n fr t1.env,t1.S⟩ λxs t'=>xs.length<=LIM/\P xs ⟨t1.env,t'.S⟩:=by
 unfold D1
 rw [W_bnd]
 constructor
 ·rintro ⟨ds,t1,e1,xs,t',e2,p⟩
  refine ⟨ds,t1,e1,?_⟩
  dsimp only at e2
  cases e:CU st tst elt ds ⟨cenv n fr t1.env,t1.S⟩ with
  | none=>rw [e] at e2;cases e2
  | some z=>
    obtain ⟨ys,t3⟩:=z
    rw [e] at e2
    dsimp only at e2
    split at e2
    ·cases e2;exact ⟨_,_,e,by assumption,p⟩
    ·cases e2
 ·rintro ⟨ds,t1,e1,xs,t',e2,h,p⟩
  exact ⟨ds,t1,e1,xs,_,by simp only [e2,h,if_true],p⟩
@[simp] theorem W_compL_nil {st:D->M Unit} {tst:M Bool} {elt:M D} {P:List D->T->Prop}:W (CU st tst elt []) t P↔P [] t:=AV rfl
theorem Ha {st:D->M Unit} {tst:M Bool} {elt:M D} {d:D} {r:List D} {P:List D->T->Prop}:W (CU st tst elt (d :: r)) t P↔W (st d) t λ_ t1=>W tst t1 λk t2=>
 if k=true then W elt t2 λx t3=>W (CU st tst elt r) t3 λxs t4=>P (x :: xs) t4 else W (CU st tst elt r) t2 P:=by
 rw [CU];simp
theorem FA {st:D->M Unit} {tst:M Bool} {elt:M D} {P:List D->T->Prop} (I:List D->List D->T->Prop):∀(ds:List D) (acc:List D) (t:T),I acc ds t->
 (∀acc d r t,I acc (d :: r) t->d∈ds->W (st d) t λ_ t1=>W tst t1 λk t2=>if k=true then W elt t2 λx t3=>I (acc++[x]) r t3 else I acc r t2)->
 (∀acc t,I acc [] t->P acc t)->W (CU st tst elt ds) t λxs t'=>P (acc++xs) t'
 | [],acc,t,h,_,fin=>W_compL_nil.mpr (by rw [List.append_nil];exact fin acc t h)
 | d :: r,acc,t,h,turn,fin=>by
   rw [Ha]
   have turn':∀acc d' r' t',I acc (d' :: r') t'->d'∈r->_:=λacc d' r' t' h' m=>turn acc d' r' t' h' (List.mem_cons_of_mem _ m)
   refine (turn acc d r t h List.mem_cons_self).mono λ_ t1 h1=>h1.mono λk t2 h2=>?_
   cases k with
   | true=>
     rw [if_pos rfl] at h2 ⊢
     refine h2.mono λx t3 h3=>(FA I r (acc++[x]) t3 h3 turn' fin).mono λxs t4 h4=>?_
     rw [List.append_assoc] at h4
     exact h4
   | false=>
     rw [if_neg Bool.false_ne_true] at h2 ⊢
     exact FA I r acc t2 h2 turn' fin
theorem AY {n m:Nat} {g:M Out} {ds:List D} {P:D->List Ob->Prop} (h:ds.length=n) (w:W g ⟨env0 m ds,S⟩ λo t=>match o with
 | .ret r=>P r t.S
 | .next=>P .non t.S
 | _=>False):Wf (fnOf n m g) ds S P:=by
 obtain ⟨o,t,e,p⟩:=w
 cases o with
 | ret r=>exact ⟨r,t.S,by unfold fnOf;rw [if_pos h,e],p⟩
 | next=>exact ⟨.non,t.S,by unfold fnOf;rw [if_pos h,e],p⟩
 | brk=>exact p.elim
 | cont=>exact p.elim
@[simp] theorem W_tTru {P:Bool->T->Prop}:W Fh t P↔P true t:=AV rfl
@[simp] theorem Zh {P:D->T->Prop}:W Yb t P↔P .dic t:=AV rfl
end F2
namespace F2
open PySem L2
variable {t:T} {P:D->T->Prop}
theorem Ow {α β:Type} {o:Option β} {g:β->α×T} {Q:α->T->Prop} {m:M α} (e:m t=o.map g):W m t Q↔∃b,o=some b/\Q (g b).1 (g b).2:=by
 constructor
 ·rintro ⟨a,t',e',p⟩
  rw [e] at e'
  obtain ⟨b,h1,h2⟩:=Option.map_eq_some_iff.mp e'
  exact ⟨b,h1,by rw [h2];exact p⟩
 ·rintro ⟨b,h,p⟩
  exact ⟨_,_,by rw [e,h];rfl,p⟩
theorem Ov {α:Type} {c:Prop} [Decidable c] {z:α×T} {Q:α->T->Prop} {m:M α} (e:m t=if c then some z else none):W m t Q↔c/\Q z.1 z.2:=by
 constructor
 ·rintro ⟨a,t',e',p⟩
  rw [e] at e'
  split at e'
  ·cases e';exact ⟨by assumption,p⟩
  ·cases e'
 ·rintro ⟨h,p⟩
  exact ⟨_,_,by rw [e,if_pos h],p⟩
theorem L9 {α β:Type} {o:Option β} (f:β->α) {Q:α->T->Prop} {m:M α} (e:m t=o.map λb=>(f b,t)):W m t Q↔∃b,o=some b/\Q (f b) t:=Ow (g:=λb=>(f b,t)) e
theorem Gz {α:Type} {c:Prop} [Decidable c] {a:α} {Q:α->T->Prop} {m:M α} (e:m t=if c then some (a,t) else none):W m t Q↔c/\Q a t:=Ov (z:=(a,t)) e
@[simp] theorem W_ix_tup {ds:List D} {i:Int}:W (ixD (.tup ds) (.int i)) t P↔∃d,atI ds i=some d/\P d t:=L9 id rfl
@[simp] theorem W_ix_lst {ds:List D} {i:Int}:W (ixD (.lst ds) (.int i)) t P↔∃d,atI ds i=some d/\P d t:=L9 id rfl
@[simp] theorem W_ix_scr {ns:List Int} {i:Int}:W (ixD (.scr ns) (.int i)) t P↔∃n,atI ns i=some n/\P (.int n) t:=L9 D.int rfl
@[simp] theorem W_ix_str {x:Str} {i:Int}:W (ixD (.str x) (.int i)) t P↔x.length<=LIM/\∃n,atI x.cps.toList i=some n/\P (.str ⟨#[n]⟩) t:=by
 by_cases h:x.length<=LIM
 ·have:ixD (.str x) (.int i) t=(atI x.cps.toList i).map λn=>(.str ⟨#[n]⟩,t):=by simp only [ixD,h,if_true]
  rw [Ow this];simp [h]
 ·rw [Hb (by simp only [ixD,h,if_false])];simp [h]
@[simp] theorem Oy {α:Type} {a:α} {r:List α}:atI (a :: r) 0=some a:=by simp [atI,ixN]
@[simp] theorem Su {α:Type} {a b:α} {r:List α}:atI (a :: b :: r) 1=some b:=by
 have:(1:Int) < ((a :: b :: r).length:Nat):=by simp;lia
 simp only [atI,ixN,this,if_true,show (0:Int)<=1 by decide];rfl
@[simp] theorem Sv {α:Type} {a b c:α} {r:List α}:atI (a :: b :: c :: r) 2=some c:=by
 have:(2:Int) < ((a :: b :: c :: r).length:Nat):=by simp;lia
 simp only [atI,ixN,this,if_true,show (0:Int)<=2 by decide];rfl
theorem Tc {α:Type} {xs:List α} {i:Int} (h0:0<=i) (h1:i < xs.length):∃d,atI xs i=some d/\d∈xs/\xs[i.toNat]?=some d:=by
 have hl:i.toNat < xs.length:=by lia
 refine ⟨xs[i.toNat],?_,List.getElem_mem hl,List.getElem?_eq_getElem hl⟩
 simp [atI,ixN,h0,h1,hl]
@[simp] theorem W_len_lst {ds:List D}:W (Cb [.lst ds]) t P↔P (.int ds.length) t:=AV rfl
@[simp] theorem W_len_tup {ds:List D}:W (Cb [.tup ds]) t P↔P (.int ds.length) t:=AV rfl
@[simp] theorem W_len_scr {ds:List Int}:W (Cb [.scr ds]) t P↔P (.int ds.length) t:=AV rfl
@[simp] theorem W_len_str {x:Str}:W (Cb [.str x]) t P↔x.length<=LIM/\P (.int x.length) t:=by simp [Cb]
@[simp] theorem W_isi {d:D} {m:String}:W (EA [d,.ty m]) t P↔∃n,tyD d=some n/\∃b,Kv n m=some b/\P (.bl b) t:=by
 cases e:tyD d with
 | none=>rw [Hb (by simp only [EA,e])];simp
 | some n=>
   have:EA [d,.ty m] t=(Kv n m).map λb=>(.bl b,t):=by simp only [EA,e]
   rw [Ow this];simp
noncomputable def JB:D->Bool
 | .non=>true
 | _=>false
noncomputable def Yj (b:Bool):D->Bool
 | .bl c=>c == b
 | _=>false
@[simp] theorem W_is_non {x:D}:W (isC x .non) t P↔P (.bl (JB x)) t:=AV (by cases x <;> rfl)
@[simp] theorem Ze {x:D} {b:Bool}:W (isC x (.bl b)) t P↔P (.bl (Yj b x)) t:=AV (by cases x <;> rfl)
@[simp] theorem W_isNot {x y:D}:W (Hj x y) t P↔W (isC x y) t λd t1=>W (toB d) t1 λb t2=>P (.bl (!b)) t2:=by
 unfold Hj
 rw [W_bnd]
 constructor
 ·exact λh=>h.mono λd t1 h1=>by
   cases d with
   | bl b=>simpa using h1
   | _=>exact (W_fail.mp h1).elim
 ·exact λh=>h.mono λd t1 h1=>by
   cases d with
   | bl b=>simpa using h1
   | _=>obtain ⟨_,_,e,_⟩:=h1;cases e
@[simp] theorem W_add_int {i j:Int}:W (Bh (.int i) (.int j)) t P↔P (.int (i + j)) t:=AV rfl
@[simp] theorem W_sub_int {i j:Int}:W (CM (.int i) (.int j)) t P↔P (.int (i - j)) t:=AV rfl
@[simp] theorem W_lt_int {i j:Int}:W (ltA (.int i) (.int j)) t P↔P (.bl (decide (i < j))) t:=AV rfl
@[simp] theorem W_le_int {i j:Int}:W (leA (.int i) (.int j)) t P↔P (.bl (decide (i<=j))) t:=AV rfl
@[simp] theorem W_gt_int {i j:Int}:W (gtA (.int i) (.int j)) t P↔P (.bl (decide (j < i))) t:=AV rfl
@[simp] theorem W_ge_int {i j:Int}:W (geA (.int i) (.int j)) t P↔P (.bl (decide (j<=i))) t:=AV rfl
@[simp] theorem X0 {i j:Str}:W (ltA (.str i) (.str j)) t P↔P (.bl (decide (i.cps.toList < j.cps.toList))) t:=AV rfl
@[simp] theorem XX {i j:Str}:W (gtA (.str i) (.str j)) t P↔P (.bl (decide (j.cps.toList < i.cps.toList))) t:=AV rfl
@[simp] theorem Zr {i:Int}:W (Yl (.int i)) t P↔P (.int (-i)) t:=AV rfl
@[simp] theorem W_fdiv {i j:Int}:W (GF (.int i) (.int j)) t P↔(0 < j/\j < 1073741824)/\P (.int (i / j)) t:=by
 rw [Ov (m:=GF (.int i) (.int j)) (c:=LI i j=true) (z:=(.int (i / j),t)) rfl];simp [LI]
@[simp] theorem W_mod {i j:Int}:W (FM (.int i) (.int j)) t P↔0 < j/\P (.int (i % j)) t:=by
 rw [Ov (m:=FM (.int i) (.int j)) (c:=decide (0 < j)=true) (z:=(.int (i % j),t)) rfl];simp
@[simp] theorem W_pow {i j:Int}:W (IP (.int i) (.int j)) t P↔LN i j=true/\P (.int (i ^ j.toNat)) t:=Gz rfl
@[simp] theorem W_mul_int {i j:Int}:W (DW (.int i) (.int j)) t P↔Fo i j=true/\P (.int (i * j)) t:=Gz rfl
@[simp] theorem W_mul_lst {xs:List D} {k:Int}:W (DW (.lst xs) (.int k)) t P↔(Co k=true/\xs.length * k.toNat<=LIM)/\P (.lst (List.replicate k.toNat xs).flatten) t:=Gz rfl
@[simp] theorem W_mul_str {x:Str} {k:Int}:W (DW (.str x) (.int k)) t P↔(Co k=true/\x.length * k.toNat<=LIM/\k<=LIM/\x.length<=LIM)/\P (.str (Txt.mul x k)) t:=Gz rfl
theorem Gn {i j:Int} (h1 : -18446744073709551616 < i) (h2:i < 18446744073709551616):Fo i j=true:=by simp [Fo,h1,h2]
theorem TQ {i j:Int} (h1 : -18446744073709551616 < j) (h2:j < 18446744073709551616):Fo i j=true:=by simp [Fo,h1,h2]
theorem C6 {k:Int} (h1 : -4611686018427387904<=k) (h2:k < 4611686018427387904):Co k=true:=by simp [Co,h1,h2]
@[simp] theorem W_add_str {x y:Str}:W (Bh (.str x) (.str y)) t P↔x.length + y.length<=LIM/\P (.str (x++y)) t:=by
 have:Bh (.str x) (.str y)=lim (x.length + y.length) (.str (x++y)):=rfl
 rw [this];simp
@[simp] theorem W_add_lst {x y:List D}:W (Bh (.lst x) (.lst y)) t P↔x.length + y.length<=LIM/\P (.lst (x++y)) t:=by
 have:Bh (.lst x) (.lst y)=lim (x.length + y.length) (.lst (x++y)):=rfl
 rw [this];simp
@[simp] theorem XT {d:D} {x y:List D}:W (Bh (.tup (d :: x)) (.tup y)) t P↔x.length + 1 + y.length<=LIM/\P (.tup (d :: x++y)) t:=by
 have:Bh (.tup (d :: x)) (.tup y) t=if (d :: x).isEmpty=false/\(d :: x).length + y.length<=LIM then some (.tup (d :: x++y),t) else none:=rfl
 rw [Ov this];simp
@[simp] theorem WE {y:List D}:W (Bh (.tup []) (.tup y)) t P↔P (.tup y) t:=AV rfl
@[simp] theorem W_cat {x y:List D} {Q:List D->T->Prop}:W (Iv (.lst x) (.lst y)) t Q↔x.length + y.length<=LIM/\Q (x++y) t:=by
 have:Iv (.lst x) (.lst y)=lim (x.length + y.length) (x++y):=rfl
 rw [this];simp
@[simp] theorem Zo {i:Int}:W (X4 [.int i]) t P↔P (.int (if i < 0 then -i else i)) t:=AV rfl
@[simp] theorem W_min {i j:Int}:W (GQ [.int i,.int j]) t P↔P (.int (if j < i then j else i)) t:=AV rfl
@[simp] theorem W_max {i j:Int}:W (MZ [.int i,.int j]) t P↔P (.int (if j > i then j else i)) t:=AV rfl
@[simp] theorem XU {i:Int}:W (MS [.int i]) t P↔P (.int i) t:=AV rfl
@[simp] theorem W_int_bl {b:Bool}:W (MS [.bl b]) t P↔P (.int (if b then 1 else 0)) t:=AV rfl
@[simp] theorem W_ord {x:Str}:W (KI [.str x]) t P↔x.length=1/\P (.int (x.cps.getD 0 0:Nat)) t:=Gz rfl
@[simp] theorem W_tup_lst {ds:List D}:W (Nt [.lst ds]) t P↔P (.tup ds) t:=AV rfl
@[simp] theorem W_lst_lst {ds:List D} {Q:List D->T->Prop}:W (GP [.lst ds]) t Q↔Q ds t:=AV rfl
@[simp] theorem XV {ds:List D} {Q:List D->T->Prop}:W (GP [.tup ds]) t Q↔Q ds t:=AV rfl
@[simp] theorem W_eq_str {g:Bool->Bool} {x y:Str}:W (eqS g (.str x) (.str y)) t P↔P (.bl (g (x == y))) t:=AV rfl
@[simp] theorem W_eq_int {g:Bool->Bool} {x y:Int}:W (eqS g (.int x) (.int y)) t P↔P (.bl (g (x == y))) t:=AV rfl
@[simp] theorem Zd {g:Bool->Bool} {x y:Bool}:W (eqS g (.bl x) (.bl y)) t P↔P (.bl (g (x == y))) t:=AV rfl
@[simp] theorem W_eq_nil {g:Bool->Bool} {x:List D}:W (eqS g (.lst x) (.lst [])) t P↔P (.bl (g x.isEmpty)) t:=by
 refine AV ?_
 cases x <;> rfl
theorem EF {a b:String}:Str.ofString a=Str.ofString b↔a=b:=by
 constructor
 ·intro h
  rw [Str.ofString_eq_toList,Str.ofString_eq_toList] at h
  injection h with h
  have h:=congrArg Array.toList h
  simp only at h
  have hinj:∀xs ys:List Char,xs.map Char.toNat=ys.map Char.toNat->xs=ys:=by
   intro xs
   induction xs with
   | nil=>intro ys h;cases ys with | nil=>rfl | cons _ _=>simp at h
   | cons x xs ih=>
     intro ys h
     cases ys with
     | nil=>simp at h
     | cons y ys=>
       simp only [List.map_cons,List.cons.injEq] at h
       rw [ih ys h.2,Char.toNat_inj.mp h.1]
  exact String.toList_inj.mp (hinj _ _ (by simpa using h))
 ·exact λh=>by rw [h]
@[simp] theorem W_sl_lst {ds:List D} {lo hi:Option Int}:W (EI (.lst ds) lo hi) t P↔P (.lst (Dc ds lo hi)) t:=AV rfl
@[simp] theorem X1 {ds:List Int} {lo hi:Option Int}:W (EI (.scr ds) lo hi) t P↔P (.lst ((Dc ds lo hi).map .int)) t:=AV rfl
@[simp] theorem X2 {x:Str} {lo hi:Option Int}:W (EI (.str x) lo hi) t P↔x.length<=LIM/\P (.str (Txt.slice x lo hi)) t:=by
 have:EI (.str x) lo hi=lim x.length (.str (Txt.slice x lo hi)):=rfl
 rw [this];simp
@[simp] theorem X3 {ds:List D} {lo hi:Option Int}:W (EI (.tup ds) lo hi) t P↔P (.tup (Dc ds lo hi)) t:=AV rfl
@[simp] theorem W_fSl {f:M D} {l u:M (Option Int)} {h:D->Option Int->Option Int->M D}:W (fSl f l u h) t P↔W f t λx t1=>W l t1 λlo t2=>W u t2 λhi t3=>W (h x lo hi) t3 P:=by simp [fSl]
@[simp] theorem W_fNo {Q:Option Int->T->Prop}:W fNo t Q↔Q none t:=AV rfl
@[simp] theorem W_asI {i:Int} {Q:Option Int->T->Prop}:W (asI (.int i)) t Q↔Q (some i) t:=AV rfl
@[simp] theorem W_fPart {f:M D} {Q:Option Int->T->Prop}:W (EZ f) t Q↔W f t λx t1=>W (asI x) t1 Q:=by simp [EZ]
@[simp] theorem W_fItA {f:M D} {Q:List D->T->Prop}:W (F9 f) t Q↔W f t λx t1=>W (EB x) t1 Q:=by simp [F9]
@[simp] theorem W_it_lst {ds:List D} {Q:List D->T->Prop}:W (EB (.lst ds)) t Q↔Q ds t:=AV rfl
@[simp] theorem XZ {ds:List D} {Q:List D->T->Prop}:W (EB (.tup ds)) t Q↔Q ds t:=AV rfl
@[simp] theorem XY {ds:List Int} {Q:List D->T->Prop}:W (EB (.scr ds)) t Q↔Q (ds.map .int) t:=AV rfl
@[simp] theorem W_it_str {x:Str} {Q:List D->T->Prop}:W (EB (.str x)) t Q↔Q (x.cps.toList.map λc=>.str ⟨#[c]⟩) t:=AV rfl
@[simp] theorem W_fRng1 {f:M (List D)} {Q:List D->T->Prop}:W (CV f) t Q↔W f t λx t1=>W (KO x) t1 Q:=by simp [CV]
@[simp] theorem W_fRng2 {f:M (List D)} {Q:List D->T->Prop}:W (FY f) t Q↔W f t λx t1=>W (KP x) t1 Q:=by simp [FY]
@[simp] theorem W_rng1 {j:Int} {Q:List D->T->Prop}:W (KO [.int j]) t Q↔Co j=true/\Q (rngL 0 j.toNat) t:=Gz rfl
@[simp] theorem W_rng2 {i j:Int} {Q:List D->T->Prop}:W (KP [.int i,.int j]) t Q↔(Co i && Co j)=true/\Q (rngL i (j - i).toNat) t:=Gz rfl
@[simp] theorem W_ownM {i:Nat} {h:List D->List D->Option (List D)} {g:M (List D)} {Q:Out->T->Prop}:W (ownM i h g) t Q↔(∃xs,t.env[i]?=some (some (.own xs)))/\W g t λds t1=>∃xs,t1.env[i]?=some (some (.own xs))/\∃ys,h xs ds=some ys/\Q .next ⟨t1.env.set i (some (.own ys)),t1.S⟩:=by
 constructor
 ·rintro ⟨o,t',e,p⟩
  unfold ownM at e
  split at e
  ·next xs e0=>
   refine ⟨⟨xs,e0⟩,?_⟩
   obtain ⟨ds,t1,e1,e⟩:=Au e
   refine ⟨ds,t1,e1,?_⟩
   split at e
   ·next ys e2=>
    obtain ⟨zs,e3,e4⟩:=Option.map_eq_some_iff.mp e
    cases e4
    exact ⟨ys,e2,zs,e3,p⟩
   ·cases e
  ·cases e
 ·rintro ⟨⟨xs,e0⟩,ds,t1,e1,ys,e2,zs,e3,p⟩
  exact ⟨_,_,by unfold ownM bnd;simp only [e0,e1,e2,e3,Option.map_some],p⟩
@[simp] theorem app1_one {xs:List D} {d:D} {ys:List D}:Dl xs [d]=some ys↔xs.length < LIM/\xs++[d]=ys:=by
 unfold Dl;split <;> simp [*]
@[simp] theorem Zs {f g:M D} {d:D} {Q:Unit->T->Prop}:W (stD f g d) t Q↔W f t λo t1=>W g t1 λi t2=>W (Wg o i d) t2 Q:=by simp [stD]
end F2
namespace F2
open PySem L2
variable {t:T} {P:D->T->Prop} {Q:List D->T->Prop} {R:Out->T->Prop} {B:Bool->T->Prop} {U:Unit->T->Prop}
def Ga (k:Bool) (A B:Prop):Prop:=if k=true then A else B
theorem Fc {k:Bool} {A B:Prop} (h:k=true) (a:A):Ga k A B:=by unfold Ga;rw [if_pos h];exact a
theorem Gb {k:Bool} {A B:Prop} (h:k=false) (b:B):Ga k A B:=by unfold Ga;rw [if_neg (by rw [h];exact Bool.false_ne_true)];exact b
theorem CJ {k:Bool} {A B:Prop} (a:k=true->A) (b:k=false->B):Ga k A B:=by cases h:k with
 | true=>exact Fc rfl (a h)
 | false=>exact Gb rfl (b h)
def Fg (g:M Out) (R:Out->T->Prop) (o:Out) (t1:T):Prop:=match o with
 | .next=>W g t1 R
 | o=>R o t1
theorem Eo {g:M Out} {t1:T} (h:W g t1 R):Fg g R .next t1:=h
theorem Nk {g:M Out} {t1:T} {d:D} (h:R (.ret d) t1):Fg g R (.ret d) t1:=h
theorem Y3 {f g:M Out} (h:W f t (Fg g R)):W (Ap f g) t R:=W_seqS.mpr (h.mono λo t1 h1=>by cases o <;> exact h1)
theorem XH (h:R .next t):W A7 t R:=W_skipS.mpr h
theorem Y2 {f:M D} (h:W f t λd t1=>R (.ret d) t1):W (AQ f) t R:=W_retS.mpr h
theorem wIf {f:M Bool} {g h:M Out} (w:W f t λk t1=>Ga k (W g t1 R) (W h t1 R)):W (ifS f g h) t R:=W_ifS.mpr w
theorem Y4 {i:Nat} {f:M D} (h:W f t λd t1=>R .next ⟨t1.env.set i (some (.val d)),t1.S⟩):W (A9 i f) t R:=W_setS.mpr h
theorem Y0 {i:Nat} {f:M (List D)} (h:W f t λd t1=>R .next ⟨t1.env.set i (some (.own d)),t1.S⟩):W (Ed i f) t R:=W_ownS.mpr h
theorem YF {f:M D} {g:D->M Unit} (h:W f t λd t1=>W (g d) t1 λ_ t2=>R .next t2):W (Da f g) t R:=W_asgS.mpr h
theorem YI {f:M (List D)} {st:D->M Unit} {b:M Out} (h:W f t λds t1=>W (Dy st b ds) t1 R):W (Dn f st b) t R:=W_forS.mpr h
theorem wC {d:D} (h:P d t):W (fC d) t P:=W_fC.mpr h
theorem Fk {i:Nat} {d:D} (e:t.env[i]?=some (some (.val d))) (h:P d t):W (Ad i) t P:=by rw [Po,e];exact h
theorem XN {i:Nat} {ds:List D} (e:t.env[i]?=some (some (.own ds))) (h:P (.lst ds) ⟨t.env.set i (some (.val (.lst ds))),t.S⟩):W (Ad i) t P:=by rw [Po,e];exact h
theorem KR {f g:M D} {h:D->D->M D} (w:W f t λx t1=>W g t1 λy t2=>W (h x y) t2 P):W (Ah f g h) t P:=W_fBin.mpr w
theorem wUn {f:M D} {h:D->M D} (w:W f t λx t1=>W (h x) t1 P):W (fUn f h) t P:=W_fUn.mpr w
theorem DA {α β:Type} {f:M α} {g:α->M β} {K:β->T->Prop} (w:W f t λx t1=>W (g x) t1 K):W (bnd f g) t K:=W_bnd.mpr w
theorem Pd {b:Bool} (h:B b t):W (toB (.bl b)) t B:=W_toB.mpr h
theorem Pe {f:M D} (h:W f t λx t1=>W (toB x) t1 B):W (AT f) t B:=W_fTst.mpr h
theorem Ws {f g w:M D} {h h':D->D->M D} (q:W f t λx t1=>W g t1 λy t2=>W (h x y) t2 λk t3=>W (toB k) t3 λk t4=>Ga k (W w t4 λz t5=>W (h' y z) t5 P) (P (.bl false) t4)):W (FG f g w h h') t P:=W_fChain.mpr q
theorem YC {f g:M Bool} (h:W f t λk t1=>Ga k (W g t1 B) (B false t1)):W (MB f g) t B:=W_fAnd.mpr h
theorem wOr {f g:M Bool} (h:W f t λk t1=>Ga k (B true t1) (W g t1 B)):W (fOr f g) t B:=W_fOr.mpr h
theorem YZ {f:M Bool} (h:W f t λk t1=>B (!k) t1):W (DV f) t B:=W_fNot.mpr h
theorem Xg {f g:M D} (h:W f t λx t1=>W (toB x) t1 λk t2=>Ga k (W g t2 P) (P (.bl false) t2)):W (EY f g) t P:=W_fAndV.mpr h
theorem Xz {f:M D} (h:W f t λx t1=>W (toB x) t1 λk t2=>P (.bl (!k)) t2):W (Jt f) t P:=W_fNotV.mpr h
theorem Jd (h:Q [] t):W Aj t Q:=W_fNil.mpr h
theorem D8 {f:M D} {g:M (List D)} (h:W f t λd t1=>W g t1 λds t2=>Q (d :: ds) t2):W (Ac f g) t Q:=W_fCons.mpr h
def Hm (n:Nat) (A:Prop):Prop:=n<=LIM/\A
theorem Cj {n:Nat} {A:Prop} (h:n<=LIM) (a:A):Hm n A:=⟨h,a⟩
theorem Y8 {f:M (List D)} (h:W f t λds t1=>Hm ds.length (P (.tup ds) t1)):W (BP f) t P:=W_fTup.mpr h
theorem YV {f:M (List D)} (h:W f t λds t1=>Hm ds.length (Q ds t1)):W (Bq f) t Q:=W_fLst.mpr h
theorem XC {f:M (List D)} (h:W f t λds t1=>P (.lst ds) t1):W (AW f) t P:=W_fPure.mpr h
theorem Kc {g:Fn} {f:M (List D)} (h:W f t λds t1=>Wf g ds t1.S λr S'=>P r ⟨t1.env,S'⟩):W (As g f) t P:=W_fCall.mpr h
theorem wB {f:M (List D)} {h:List D->M D} (w:W f t λds t1=>W (h ds) t1 P):W (fB f h) t P:=W_fB.mpr w
theorem wBF {f:M (List D)} {h:List D->M (List D)} (w:W f t λds t1=>W (h ds) t1 Q):W (fBF f h) t Q:=W_fBF.mpr w
theorem Je {i:Nat} {d:D} (h:U () ⟨t.env.set i (some (.val d)),t.S⟩):W (BE i d) t U:=W_putV.mpr h
theorem UM (h:U () t):W (DZ []) t U:=W_putNil.mpr h
theorem Sg {f:D->M Unit} {g:List D->M Unit} {d:D} {ds:List D} (h:W (f d) t λ_ t1=>W (g ds) t1 U):W (BL f g (d :: ds)) t U:=W_putCons.mpr h
theorem Y9 {n:Nat} {g:List D->M Unit} {ds:List D} (e:ds.length=n) (h:W (g ds) t U):W (unS n g (.lst ds)) t U:=W_unS_lst.mpr ⟨e,h⟩
theorem Za {n:Nat} {g:List D->M Unit} {ds:List D} (e:ds.length=n) (h:W (g ds) t U):W (unS n g (.tup ds)) t U:=W_unS_tup.mpr ⟨e,h⟩
theorem Xm {n:Nat} {fr:List Nat} {f:M (List D)} {st:D->M Unit} {tst:M Bool} {elt:M D} (h:W f t λds t1=>W (CU st tst elt ds) ⟨cenv n fr t1.env,t1.S⟩ λxs t'=>Hm xs.length (Q xs ⟨t1.env,t'.S⟩)):W (D1 n fr f st tst elt) t Q:=W_fComp.mpr h
theorem Jf (h:B true t):W Fh t B:=W_tTru.mpr h
theorem Jc {ds:List D} {i:Int} {d:D} (e:atI ds i=some d) (h:P d t):W (ixD (.tup ds) (.int i)) t P:=W_ix_tup.mpr ⟨d,e,h⟩
theorem B0 {ds:List D} {i:Int} {d:D} (e:atI ds i=some d) (h:P d t):W (ixD (.lst ds) (.int i)) t P:=W_ix_lst.mpr ⟨d,e,h⟩
theorem Xt {ds:List D} (h:P (.int ds.length) t):W (Cb [.lst ds]) t P:=W_len_lst.mpr h
theorem Xv {ds:List D} (h:P (.int ds.length) t):W (Cb [.tup ds]) t P:=W_len_tup.mpr h
theorem Xu {ds:List Int} (h:P (.int ds.length) t):W (Cb [.scr ds]) t P:=W_len_scr.mpr h
theorem SZ {x:Str} (e:x.length<=LIM) (h:P (.int x.length) t):W (Cb [.str x]) t P:=W_len_str.mpr ⟨e,h⟩
theorem YQ {d:D} {m n:String} {b:Bool} (e:tyD d=some n) (e':Kv n m=some b) (h:P (.bl b) t):W (EA [d,.ty m]) t P:=W_isi.mpr ⟨n,e,b,e',h⟩
theorem YO {x:D} (h:P (.bl (JB x)) t):W (isC x .non) t P:=W_is_non.mpr h
theorem Wy {x y:D} (h:W (isC x y) t λd t1=>W (toB d) t1 λb t2=>P (.bl (!b)) t2):W (Hj x y) t P:=W_isNot.mpr h
theorem Xd {i j:Int} (h:P (.int (i + j)) t):W (Bh (.int i) (.int j)) t P:=W_add_int.mpr h
theorem XI {i j:Int} (h:P (.int (i - j)) t):W (CM (.int i) (.int j)) t P:=W_sub_int.mpr h
theorem YW {i j:Int} (h:P (.bl (decide (i < j))) t):W (ltA (.int i) (.int j)) t P:=W_lt_int.mpr h
theorem YU {i j:Int} (h:P (.bl (decide (i<=j))) t):W (leA (.int i) (.int j)) t P:=W_le_int.mpr h
theorem YK {i j:Int} (h:P (.bl (decide (j < i))) t):W (gtA (.int i) (.int j)) t P:=W_gt_int.mpr h
theorem YJ {i j:Int} (h:P (.bl (decide (j<=i))) t):W (geA (.int i) (.int j)) t P:=W_ge_int.mpr h
theorem Wu {i j:Int} (h1:0 < j) (h2:j < 1073741824) (h:P (.int (i / j)) t):W (GF (.int i) (.int j)) t P:=W_fdiv.mpr ⟨⟨h1,h2⟩,h⟩
theorem Nx {i j:Int} (h1:0 < j) (h:P (.int (i % j)) t):W (FM (.int i) (.int j)) t P:=W_mod.mpr ⟨h1,h⟩
theorem Y1 {i j:Int} (h1:LN i j=true) (h:P (.int (i ^ j.toNat)) t):W (IP (.int i) (.int j)) t P:=W_pow.mpr ⟨h1,h⟩
theorem Ib {i j:Int} (h1:Fo i j=true) (h:P (.int (i * j)) t):W (DW (.int i) (.int j)) t P:=W_mul_int.mpr ⟨h1,h⟩
theorem Xx {xs:List D} {k:Int} (h1:Co k=true/\xs.length * k.toNat<=LIM) (h:P (.lst (List.replicate k.toNat xs).flatten) t):W (DW (.lst xs) (.int k)) t P:=W_mul_lst.mpr ⟨h1,h⟩
theorem Xy {x:Str} {k:Int} (h1:Co k=true/\x.length * k.toNat<=LIM/\k<=LIM/\x.length<=LIM) (h:P (.str (Txt.mul x k)) t):W (DW (.str x) (.int k)) t P:=W_mul_str.mpr ⟨h1,h⟩
theorem Xf {x y:Str} (h:Hm (x.length + y.length) (P (.str (x++y)) t)):W (Bh (.str x) (.str y)) t P:=W_add_str.mpr h
theorem Xe {x y:List D} (h:Hm (x.length + y.length) (P (.lst (x++y)) t)):W (Bh (.lst x) (.lst y)) t P:=W_add_lst.mpr h
theorem YG {x y:List D} (h:Hm (x.length + y.length) (Q (x++y) t)):W (Iv (.lst x) (.lst y)) t Q:=W_cat.mpr h
theorem YY {i j:Int} (h:P (.int (if j < i then j else i)) t):W (GQ [.int i,.int j]) t P:=W_min.mpr h
theorem YX {i j:Int} (h:P (.int (if j > i then j else i)) t):W (MZ [.int i,.int j]) t P:=W_max.mpr h
theorem Xp {i:Bool} (h:P (.int (if i then 1 else 0)) t):W (MS [.bl i]) t P:=W_int_bl.mpr h
theorem Wz {x:Str} (e:x.length=1) (h:P (.int (x.cps.getD 0 0:Nat)) t):W (KI [.str x]) t P:=W_ord.mpr ⟨e,h⟩
theorem XJ {ds:List D} (h:P (.tup ds) t):W (Nt [.lst ds]) t P:=W_tup_lst.mpr h
theorem Xw {ds:List D} (h:Q ds t):W (GP [.lst ds]) t Q:=W_lst_lst.mpr h
theorem Sf {g:Bool->Bool} {x y:Str} (h:P (.bl (g (x == y))) t):W (eqS g (.str x) (.str y)) t P:=W_eq_str.mpr h
theorem Wv {g:Bool->Bool} {x y:Int} (h:P (.bl (g (x == y))) t):W (eqS g (.int x) (.int y)) t P:=W_eq_int.mpr h
theorem Ww {g:Bool->Bool} {x:List D} (h:P (.bl (g x.isEmpty)) t):W (eqS g (.lst x) (.lst [])) t P:=W_eq_nil.mpr h
theorem Y6 {ds:List D} {lo hi:Option Int} (h:P (.lst (Dc ds lo hi)) t):W (EI (.lst ds) lo hi) t P:=W_sl_lst.mpr h
theorem wSl {f:M D} {l u:M (Option Int)} {h:D->Option Int->Option Int->M D} (w:W f t λx t1=>W l t1 λlo t2=>W u t2 λhi t3=>W (h x lo hi) t3 P):W (fSl f l u h) t P:=W_fSl.mpr w
theorem wNo {K:Option Int->T->Prop} (h:K none t):W fNo t K:=W_fNo.mpr h
theorem YE {i:Int} {K:Option Int->T->Prop} (h:K (some i) t):W (asI (.int i)) t K:=W_asI.mpr h
theorem XB {f:M D} {K:Option Int->T->Prop} (h:W f t λx t1=>W (asI x) t1 K):W (EZ f) t K:=W_fPart.mpr h
theorem YR {f:M D} (h:W f t λx t1=>W (EB x) t1 Q):W (F9 f) t Q:=W_fItA.mpr h
theorem YS {ds:List D} (h:Q ds t):W (EB (.lst ds)) t Q:=W_it_lst.mpr h
theorem YT {x:Str} (h:Q (x.cps.toList.map λc=>.str ⟨#[c]⟩) t):W (EB (.str x)) t Q:=W_it_str.mpr h
theorem XD {f:M (List D)} (h:W f t λx t1=>W (KO x) t1 Q):W (CV f) t Q:=W_fRng1.mpr h
theorem XF {f:M (List D)} (h:W f t λx t1=>W (KP x) t1 Q):W (FY f) t Q:=W_fRng2.mpr h
theorem Fj {j:Int} (e:Co j=true) (h:Q (rngL 0 j.toNat) t):W (KO [.int j]) t Q:=W_rng1.mpr ⟨e,h⟩
theorem Si {i j:Int} (e:(Co i && Co j)=true) (h:Q (rngL i (j - i).toNat) t):W (KP [.int i,.int j]) t Q:=W_rng2.mpr ⟨e,h⟩
theorem XA {i:Nat} {xs:List D} {h:List D->List D->Option (List D)} {g:M (List D)} (e:t.env[i]?=some (some (.own xs))) (w:W g t λds t1=>∃xs,t1.env[i]?=some (some (.own xs))/\∃ys,h xs ds=some ys/\R .next ⟨t1.env.set i (some (.own ys)),t1.S⟩):W (ownM i h g) t R:=W_ownM.mpr ⟨⟨xs,e⟩,w⟩
theorem YD {i:Nat} {xs:List D} {d:D} {t1:T} {A:List D->Prop} (e:t1.env[i]?=some (some (.own xs))) (w:Hm (xs.length + 1) (A (xs++[d]))):∃xs,t1.env[i]?=some (some (.own xs))/\∃ys,Dl xs [d]=some ys/\A ys:=
 ⟨xs,e,_,app1_one.mpr ⟨w.1,rfl⟩,w.2⟩
end F2
namespace F2
open PySem L2
section
variable {t:T} {P:D->T->Prop} {B:Bool->T->Prop} {Q:List D->T->Prop}
theorem XL {i:Nat} {n:Int} {ds:List D} {d:D} (e:t.env[i]?=some (some (.val (.tup ds)))) (a:atI ds n=some d) (h:P d t):W (Ah (Ad i) (fC (.int n)) ixD) t P:=KR (Fk e (wC (Jc a h)))
theorem Xs {i:Nat} {x y:Str} {ds:List D} {g:Bool->Bool} (e:t.env[i]?=some (some (.val (.tup (.str y :: ds))))) (h:B (g (y == x)) t):W (AT (Ah (Ah (Ad i) (fC (.int 0)) ixD) (fC (.str x)) (eqS g))) t B:=Pe (KR (KR (Fk e (wC (Jc Oy (wC (Sf (Pd h))))))))
theorem WB {i:Nat} {x y:Str} {g:Bool->Bool} (e:t.env[i]?=some (some (.val (.str y)))) (h:B (g (y == x)) t):W (AT (Ah (Ad i) (fC (.str x)) (eqS g))) t B:=Pe (KR (Fk e (wC (Sf (Pd h)))))
theorem WA {i:Nat} {x y:Int} {g:Bool->Bool} (e:t.env[i]?=some (some (.val (.int y)))) (h:B (g (y == x)) t):W (AT (Ah (Ad i) (fC (.int x)) (eqS g))) t B:=Pe (KR (Fk e (wC (Wv (Pd h)))))
theorem UI {g:Fn} {i:Nat} {d:D} (e:t.env[i]?=some (some (.val d))) (h:Wf g [d] t.S λr S'=>P r ⟨t.env,S'⟩):W (As g (Ac (Ad i) Aj)) t P:=Kc (D8 (Fk e (Jd h)))
theorem UJ {g:Fn} {i j:Nat} {d d':D} (e:t.env[i]?=some (some (.val d))) (e':t.env[j]?=some (some (.val d'))) (h:Wf g [d,d'] t.S λr S'=>P r ⟨t.env,S'⟩):W (As g (Ac (Ad i) (Ac (Ad j) Aj))) t P:=Kc (D8 (Fk e (D8 (Fk e' (Jd h)))))
theorem UL {g:Fn} {i:Nat} {d d':D} (e:t.env[i]?=some (some (.val d))) (h:Wf g [d,d'] t.S λr S'=>P r ⟨t.env,S'⟩):W (As g (Ac (Ad i) (Ac (fC d') Aj))) t P:=Kc (D8 (Fk e (D8 (wC (Jd h)))))
theorem UK {g:Fn} {i j k:Nat} {d d' d'':D} (e:t.env[i]?=some (some (.val d))) (e':t.env[j]?=some (some (.val d'))) (e'':t.env[k]?=some (some (.val d''))) (h:Wf g [d,d',d''] t.S λr S'=>P r ⟨t.env,S'⟩):W (As g (Ac (Ad i) (Ac (Ad j) (Ac (Ad k) Aj)))) t P:=Kc (D8 (Fk e (D8 (Fk e' (D8 (Fk e'' (Jd h)))))))
end
end F2
set_option maxHeartbeats 1000000
namespace LW
open PySem L2 F2
set_option compiler.extract_closed false
local macro_rules | `(tactic| walk_at "w1")=>`(tactic| first
 | ((with_reducible first | refine' Xs ?wv ?_ | refine' WB ?wv ?_ | refine' UI ?wv ?_);(case wv=>exact rfl))
 | ((with_reducible first | refine' WA ?wv ?_ | refine' UL ?wv ?_);(case wv=>exact rfl))
 | ((with_reducible refine' XL ?wv ?wu ?_);(case wv=>exact rfl);(case wu=>first | exact rfl | exact Oy | exact Su | exact Sv))
 | ((with_reducible refine' UJ ?wv ?wu ?_);(case wv=>exact rfl);(case wu=>exact rfl))
 | ((with_reducible refine' UK ?wv ?wu ?wt ?_);(case wv=>exact rfl);(case wu=>exact rfl);(case wt=>exact rfl))
 | with_reducible (first | refine Y3 ?_ | refine Eo ?_ | refine Nk ?_ | refine Y4 ?_ | refine KR ?_ | refine wC ?_ | refine D8 ?_ | refine Jd ?_ | refine wIf ?_ | refine Pe ?_ | refine Pd ?_ | refine Y2 ?_ | refine Kc ?_ | refine Sf ?_ | refine Wv ?_ | refine wEqB ?_ | refine Xd ?_ | refine XI ?_ | refine XH ?_ | refine wB ?_ | refine wBF ?_ | refine XC ?_ | refine Y8 ?_ | refine YV ?_ | refine wObj ?_ | refine YF ?_ | refine YI ?_ | refine YC ?_ | refine wOr ?_ | refine YZ ?_ | refine Xg ?_ | refine wOrV ?_ | refine Xz ?_ | refine wIfE ?_ | refine Ws ?_ | refine wUn ?_ | refine wNeg ?_ | refine YO ?_ | refine wIsB ?_ | refine Wy ?_ | refine YW ?_ | refine YU ?_ | refine YK ?_ | refine YJ ?_ | refine wLtS ?_ | refine wGtS ?_ | refine Xt ?_ | refine Xv ?_ | refine Xu ?_ | refine wAbs ?_ | refine YY ?_ | refine YX ?_ | refine wInt ?_ | refine Xp ?_ | refine XJ ?_ | refine Xw ?_ | refine wLstT ?_ | refine Xf ?_ | refine Xe ?_ | refine wAddT ?_ | refine wAddT0 ?_ | refine YG ?_ | refine Ww ?_ | refine wSl ?_ | refine wNo ?_ | refine XB ?_ | refine YE ?_ | refine Y6 ?_ | refine wSlR ?_ | refine wSlS ?_ | refine wSlT ?_ | refine YR ?_ | refine YS ?_ | refine wItT ?_ | refine wItR ?_ | refine YT ?_ | refine XD ?_ | refine XF ?_ | refine Je ?_ | refine UM ?_ | refine Sg ?_ | refine Xm ?_ | refine Jf ?_ | refine wDic ?_ | refine Y0 ?_ | refine DA ?_ | refine wDrop ?_ | refine wStD ?_)
 | ((with_reducible first | refine' Fk ?wv ?_ | refine' Fc ?wv ?_ | refine' Y9 ?wv ?_ | refine' XA ?wv ?_ | refine' YD ?wv ?_);(case wv=>exact rfl))
 | ((with_reducible first | refine' Gb ?wv ?_ | refine' XN ?wv ?_ | refine' Za ?wv ?_);(case wv=>exact rfl))
 | ((with_reducible first | refine' Jc ?wv ?_ | refine' B0 ?wv ?_);(case wv=>first | exact rfl | exact Oy | exact Su | exact Sv))
 | ((with_reducible refine Cj ?wv ?_);(case wv=>exact Nat.le_of_ble_eq_true rfl))
 | ((with_reducible refine' YQ ?wv ?wu ?_);(case wv=>exact rfl);(case wu=>exact rfl))
 | ((with_reducible refine Wu ?wv ?wu ?_);(case wv=>decide);(case wu=>decide))
 | ((with_reducible first | refine' Y1 ?wv ?_ | refine' Nx ?wv ?_ | refine' Fj ?wv ?_ | refine' Si ?wv ?_);(case wv=>decide)))
local macro_rules | `(tactic| walk_at "w")=>`(tactic| repeat (walk_at "w1"))
structure DeckAt (k c:Nat) (S:List Ob):Prop where
 ne:k≠c
 at_:∃(cells:List Int) (par pos:Int),S[k]?=some (.lst [.obj c,.int par,.int pos])/\S[c]?=some (.lst (cells.map .int))/\cells≠[]/\0<=pos
def Zw (k c:Nat) (S S':List Ob):Prop:=S'.length=S.length/\∀j:Nat,j≠k->j≠c->S'[j]?=S[j]?
theorem CT {n:Nat} {i:Int} (h0:0<=i) (h1:i < n):ixN n i=some i.toNat:=by simp [ixN,h0,h1]
theorem Tu {S:List Ob} {k:Nat} {o o':Ob} (h:S[k]?=some o):(S.set k o')[k]?=some o':=by
 obtain ⟨hl,_⟩:=List.getElem?_eq_some_iff.mp h
 exact List.getElem?_set_self hl
inductive Sh where
 | nothing | number (lo hi:Int) | text (m:Int) | list (s:Sh) (m:Int) | pair (s r:Sh) | choice (ss:List Sh)
mutual
noncomputable def Sh.d:Sh->D
 | .nothing=>.tup [.str "nothing"]
 | .number lo hi=>.tup [.str "number",.int lo,.int hi]
 | .text m=>.tup [.str "text",.int m]
 | .list s m=>.tup [.str "list",s.d,.int m]
 | .pair s r=>.tup [.str "pair",s.d,r.d]
 | .choice ss=>.tup [.str "choice",.tup (shD ss)]
noncomputable def shD:List Sh->List D
 | []=>[]
 | s :: r=>s.d :: shD r
end
mutual
noncomputable def Sh.depth:Sh->Nat
 | .nothing=>1
 | .number _ _=>1
 | .text _=>1
 | .list s _=>s.depth + 1
 | .pair s r=>max s.depth r.depth + 1
 | .choice ss=>E6 ss + 1
noncomputable def E6:List Sh->Nat
 | []=>0
 | s :: r=>max s.depth (E6 r)
end
theorem Es:∀ss:List Sh,(shD ss).length=ss.length
 | []=>rfl
 | s :: r=>by simp [shD,Es r]
theorem Gw:∀(ss:List Sh) (k:Nat),(shD ss)[k]?=(ss[k]?).map Sh.d
 | [],k=>by simp [shD]
 | s :: r,0=>by simp [shD]
 | s :: r,k + 1=>by simp [shD,Gw r k]
theorem DM:∀(ss:List Sh) (k:Nat) (s:Sh),ss[k]?=some s->s.depth<=E6 ss
 | [],k,s,h=>by simp at h
 | s :: r,0,s',h=>by simp at h;subst h;simp [E6];lia
 | s :: r,k + 1,s',h=>by
   have:=DM r k s' (by simpa using h)
   simp [E6];lia
theorem Sh.depth_pos (s:Sh):1<=s.depth:=by cases s <;> simp [Sh.depth]
noncomputable def Ci (n:Nat):Bool:=decide (32<=n) && decide (n<=126) && decide (n≠37)
noncomputable def ID:Str->Bool:=λo=>o == ("of" : Str)
mutual
def AD:Sh->D->Bool
 | .nothing,d=>JB d
 | .number lo hi,d=>match d with
   | .int i=>decide (lo<=i) && decide (i<=hi)
   | _=>false
 | .text m,d=>match d with
   | .str x=>decide ((x.length:Int)<=m) && x.cps.toList.all Ci
   | _=>false
 | .list s m,d=>match d with
   | .lst ds=>decide ((ds.length:Int)<=m) && ds.all λe=>AD s e
   | _=>false
 | .pair s r,d=>match d with
   | .tup [a,b]=>AD s a && AD r b
   | _=>false
 | .choice ss,d=>match d with
   | .tup [.str o,.int k,x]=>ID o && (decide (0<=k) && decide (k < ss.length)) && Jw ss k.toNat x
   | _=>false
def Jw:List Sh->Nat->D->Bool
 | [],_,_=>false
 | s :: _,0,d=>AD s d
 | _ :: r,k + 1,d=>Jw r k d
end
theorem DK:∀(ss:List Sh) (k:Nat) (s:Sh) (d:D),ss[k]?=some s->Jw ss k d=AD s d
 | [],k,s,d,h=>by simp at h
 | s :: r,0,s',d,h=>by simp at h;subst h;simp [Jw]
 | s :: r,k + 1,s',d,h=>by rw [Jw];exact DK r k s' d (by simpa using h)
mutual
noncomputable def okD:D->Bool
 | .str x=>decide (x.length<=90000)
 | .tup xs=>oks xs
 | .lst xs=>oks xs
 | .obj _=>false
 | .scr _=>false
 | .exc _ _=>false
 | .ty _=>false
 | _=>true
noncomputable def oks:List D->Bool
 | []=>true
 | d :: r=>okD d && oks r
end
theorem HR:∀{xs:List D},oks xs=true->∀d∈xs,okD d=true
 | x :: r,h,d,m=>by
   rw [oks,Bool.and_eq_true] at h
   rcases List.mem_cons.mp m with z | z
   ·subst z;exact h.1
   ·exact HR h.2 d z
abbrev Pure1 (f:Fn) (ds:List D) (r:D):Prop:=∀S,Wf f ds S λv S'=>v=r/\S'=S
theorem Pure1.use {f:Fn} {ds:List D} {r:D} (h:Pure1 f ds r) {S:List Ob} {P:D->List Ob->Prop} (p:P r S):Wf f ds S P:=(h S).mono λ_ _ ⟨e1,e2⟩=>by subst e1 e2;exact p
noncomputable def P0:D->Bool
 | .int _=>true
 | _=>false
theorem MT {d:D} (h:okD d=true):Pure1 (fnOf 1 1 E5) [d] (.bl (P0 d)):=by
 intro S
 refine AY rfl ?_
 unfold E5
 cases d <;> first | (simp [okD] at h;done) | (walk_at "w";exact ⟨rfl,rfl⟩)
noncomputable def Fz (lo hi:Int):D->Bool
 | .int i=>decide (lo<=i) && decide (i<=hi)
 | _=>false
def NP (f:Fn):Prop:=∀d,okD d=true->Pure1 f [d] (.bl (P0 d))
def GB (f:Fn):Prop:=∀d lo hi,okD d=true->Pure1 f [d,.int lo,.int hi] (.bl (Fz lo hi d))
theorem QR {c:Fn} (hc:NP c):GB (fnOf 3 3 (CZ c)):=by
 intro d lo hi h S
 refine AY rfl ?_
 unfold CZ
 walk_at "w"
 refine (hc d h).use ?_
 cases d with
 | int i=>
   walk_at "w"
   refine CJ (λe=>?_) λe=>?_
   ·walk_at "w"
    exact ⟨by simp only [Fz,e,Bool.true_and],rfl⟩
   ·exact ⟨by simp only [Fz,e,Bool.false_and],rfl⟩
 | _=>walk_at "w";exact ⟨rfl,rfl⟩
def Jg (f:Fn):Prop:=∀n:Nat,Pure1 f [.int n] (.bl (Ci n))
theorem ON:Jg (fnOf 1 1 F1):=by
 intro n S
 refine AY rfl ?_
 unfold F1
 walk_at "w"
 have c1:decide ((32:Int)<=n)=decide (32<=n):=decide_eq_decide.mpr (by lia)
 have c2:decide ((n:Int)<=126)=decide (n<=126):=decide_eq_decide.mpr (by lia)
 have c3:(!((n:Int) == 37))=decide (n≠37):=by
  by_cases h:n=37
  ·subst h;rfl
  ·have:¬((n:Int)=37):=by lia
   simp [h,this]
 rw [c1]
 refine CJ (λe=>?_) λe=>?_
 ·walk_at "w"
  rw [c2]
  refine CJ (λe'=>?_) λe'=>?_
  ·walk_at "w"
   exact ⟨by simp only [Ci,e,e',c3,Bool.true_and],rfl⟩
  ·exact ⟨by simp only [Ci,e,e',Bool.false_and,Bool.and_false],rfl⟩
 ·walk_at "w"
  exact ⟨by simp only [Ci,e,Bool.false_and],rfl⟩
def L8 (f:Fn):Prop:=∀m d,okD d=true->Pure1 f [(Sh.text m).d,d] (.bl (AD (.text m) d))
theorem ML {c:Fn} (hc:Jg c):L8 (fnOf 2 3 (E4 c)):=by
 intro m d h S
 refine AY rfl ?_
 unfold E4
 rw [Sh.d]
 cases d with
 | str x=>
   have hx:x.length<=LIM:=Nat.le_trans (by simpa [okD] using h) (show 90000<=LIM by decide)
   walk_at "w"
   refine SZ hx ?_
   walk_at "w"
   refine CJ (λe=>?_) λe=>?_
   ·walk_at "w"
    have:¬((x.length:Int)<=m):=by have:=of_decide_eq_true e;lia
    exact ⟨by simp [AD,this],rfl⟩
   ·walk_at "w"
    have e':(x.length:Int)<=m:=by have:=of_decide_eq_false e;lia
    refine Dk (λr t=>t.S=S/\∃cs:List Nat,r=cs.map (λc=>D.str ⟨#[c]⟩)/\(x.cps.toList.all Ci=cs.all Ci)/\∃z,t.env=[some (.val (.tup [.str "text",.int m])),some (.val (.str x)),z]) _ _ ⟨rfl,x.cps.toList,rfl,rfl,_,rfl⟩ ?_ ?_
    ·rintro d r t ⟨hs,cs,hr,hall,z,ht⟩ _
     obtain ⟨env,S2⟩:=t
     subst hs ht
     cases cs with
     | nil=>simp at hr
     | cons c cs=>
       simp only [List.map_cons,List.cons.injEq] at hr
       obtain ⟨rfl,rfl⟩:=hr
       walk_at "w"
       refine Wz rfl ?_
       walk_at "w"
       refine (hc c).use ?_
       walk_at "w"
       refine CJ (λq=>?_) λq=>?_
       ·walk_at "w"
        have q':Ci c=false:=by simpa using q
        refine ⟨?_,rfl⟩
        simp only [AD,hall,List.all_cons,q',Bool.false_and,Bool.and_false]
       ·walk_at "w"
        have q':Ci c=true:=by simpa using q
        exact ⟨rfl,cs,rfl,by rw [hall,List.all_cons,q',Bool.true_and],_,rfl⟩
    ·rintro t ⟨hs,cs,hr,hall,z,ht⟩
     obtain ⟨env,S2⟩:=t
     subst hs ht
     have:cs=[]:=by cases cs with | nil=>rfl | cons _ _=>simp at hr
     subst this
     walk_at "w"
     exact ⟨by simp [AD,e',hall],rfl⟩
 | obj _=>simp [okD] at h
 | scr _=>simp [okD] at h
 | ty _=>simp [okD] at h
 | exc _ _=>simp [okD] at h
 | _=>walk_at "w";exact ⟨by simp [AD],rfl⟩
def Ge (f:Fn) (n:Nat):Prop:=∀s:Sh,s.depth<=n->∀d,okD d=true->Pure1 f [s.d,d] (.bl (AD s d))
def Pi (f:Fn) (n:Nat):Prop:=∀(s:Sh) (m:Int),s.depth<=n->∀d,okD d=true->Pure1 f [(Sh.list s m).d,d] (.bl (AD (.list s m) d))
theorem MJ {c:Fn} {n:Nat} (hc:Ge c n):Pi (fnOf 2 3 (E2 c)) n:=by
 intro s m hs d h S
 refine AY rfl ?_
 unfold E2
 rw [Sh.d]
 cases d with
 | lst ds=>
   have hx:∀d∈ds,okD d=true:=HR (by simpa [okD] using h)
   walk_at "w"
   refine CJ (λe=>?_) λe=>?_
   ·walk_at "w"
    have:¬((ds.length:Int)<=m):=by have:=of_decide_eq_true e;lia
    exact ⟨by simp [AD,this],rfl⟩
   ·walk_at "w"
    have e':(ds.length:Int)<=m:=by have:=of_decide_eq_false e;lia
    refine Dk (λr t=>t.S=S/\(ds.all (λe=>AD s e)=r.all λe=>AD s e)/\∃z,t.env=[some (.val (.tup [.str "list",s.d,.int m])),some (.val (.lst ds)),z]) _ _ ⟨rfl,rfl,_,rfl⟩ ?_ ?_
    ·rintro d r t ⟨hS,hall,z,ht⟩ hm
     obtain ⟨env,S2⟩:=t
     subst hS ht
     walk_at "w"
     refine (hc s hs d (hx d hm)).use ?_
     walk_at "w"
     refine CJ (λq=>?_) λq=>?_
     ·walk_at "w"
      have q':AD s d=false:=by simpa using q
      refine ⟨?_,rfl⟩
      simp only [AD,hall,List.all_cons,q',Bool.false_and,Bool.and_false]
     ·walk_at "w"
      have q':AD s d=true:=by simpa using q
      exact ⟨rfl,by rw [hall,List.all_cons,q',Bool.true_and],_,rfl⟩
    ·rintro t ⟨hS,hall,z,ht⟩
     obtain ⟨env,S2⟩:=t
     subst hS ht
     walk_at "w"
     exact ⟨by simp only [AD,e',decide_true,hall,List.all_nil,Bool.true_and],rfl⟩
 | obj _=>simp [okD] at h
 | scr _=>simp [okD] at h
 | ty _=>simp [okD] at h
 | exc _ _=>simp [okD] at h
 | _=>walk_at "w";exact ⟨by simp [AD],rfl⟩
def Pn (f:Fn) (n:Nat):Prop:=∀(s r:Sh),s.depth<=n->r.depth<=n->∀d,okD d=true->Pure1 f [(Sh.pair s r).d,d] (.bl (AD (.pair s r) d))
theorem MK {c:Fn} {n:Nat} (hc:Ge c n):Pn (fnOf 2 2 (E3 c)) n:=by
 intro s r hs hr d h S
 refine AY rfl ?_
 unfold E3
 rw [Sh.d]
 cases d with
 | tup ds=>
   have hx:∀d∈ds,okD d=true:=HR (by simpa [okD] using h)
   walk_at "w"
   match ds,hx with
   | [],_=>walk_at "w";exact ⟨by simp [AD],rfl⟩
   | [a],_=>walk_at "w";exact ⟨by simp [AD],rfl⟩
   | [a,b],hx=>
     walk_at "w"
     refine (hc s hs a (hx a (by simp))).use ?_
     walk_at "w"
     refine CJ (λe=>?_) λe=>?_
     ·walk_at "w"
      refine (hc r hr b (hx b (by simp))).use ?_
      exact ⟨by simp only [AD,e,Bool.true_and],rfl⟩
     ·exact ⟨by simp only [AD,e,Bool.false_and],rfl⟩
   | a :: b :: e :: l,_=>
     refine Fc ?_ ?_
     ·show (!(((a :: b :: e :: l).length:Int) == 2))=true
      simp;lia
     walk_at "w"
     exact ⟨by simp [AD],rfl⟩
 | obj _=>simp [okD] at h
 | scr _=>simp [okD] at h
 | ty _=>simp [okD] at h
 | exc _ _=>simp [okD] at h
 | _=>walk_at "w";exact ⟨by simp [AD],rfl⟩
def LS (f:Fn) (n:Nat):Prop:=∀(ss:List Sh),E6 ss<=n->∀d,okD d=true->Pure1 f [(Sh.choice ss).d,d] (.bl (AD (.choice ss) d))
theorem Kt {c c':Fn} {n:Nat} (hc:Ge c n) (hw:GB c'):LS (fnOf 2 2 (D3 c c')) n:=by
 intro ss hs d h S
 refine AY rfl ?_
 unfold D3
 rw [Sh.d]
 cases d with
 | tup ds=>
   have hx:∀d∈ds,okD d=true:=HR (by simpa [okD] using h)
   walk_at "w"
   match ds,hx with
   | [],_=>walk_at "w";exact ⟨by simp [AD],rfl⟩
   | [a],_=>walk_at "w";exact ⟨by simp [AD],rfl⟩
   | [a,b],_=>walk_at "w";exact ⟨by simp [AD],rfl⟩
   | [a,b,e],hx=>
     walk_at "w"
     have ha:=hx a (by simp)
     cases a with
     | str o=>
       walk_at "w"
       refine CJ (λq=>?_) λq=>?_
       ·walk_at "w"
        have q':ID o=false:=by simpa [ID] using q
        refine ⟨?_,rfl⟩
        cases b <;> simp only [AD,q',Bool.false_and]
       ·walk_at "w"
        have q':ID o=true:=by simpa [ID] using q
        refine (hw b 0 _ (hx b (by simp))).use ?_
        walk_at "w"
        cases b with
        | int k=>
          refine CJ (λq=>?_) λq=>?_
          ·walk_at "w"
           refine ⟨?_,rfl⟩
           have:(decide (0<=k) && decide (k < (ss.length:Int)))=false:=by
            have q2:k < 0\/((shD ss).length:Int) - 1 < k:=by simpa [Fz] using q
            rw [Es] at q2
            simp;lia
           simp only [AD,this,Bool.false_and,Bool.and_false]
          ·have q2:0<=k/\k<=((shD ss).length:Int) - 1:=by simpa [Fz] using q
           have q3:=q2
           rw [Es] at q3
           have hk:k.toNat < ss.length:=by lia
           have e1:ss[k.toNat]?=some ss[k.toNat]:=List.getElem?_eq_getElem hk
           have e2:atI (shD ss) k=some (ss[k.toNat]).d:=by
            unfold atI
            rw [Es,CT q3.1 (by lia)]
            simp [Gw,e1]
           walk_at "w"
           refine Jc e2 ?_
           walk_at "w"
           refine (hc _ (Nat.le_trans (DM ss _ _ e1) hs) e (hx e (by simp))).use ?_
           refine ⟨?_,rfl⟩
           have:(decide (0<=k) && decide (k < (ss.length:Int)))=true:=by simp;lia
           simp only [AD,q',this,Bool.true_and,DK ss _ _ e e1]
        | _=>
          walk_at "w"
          exact ⟨by simp [AD],rfl⟩
     | obj _=>simp [okD] at ha
     | scr _=>simp [okD] at ha
     | ty _=>simp [okD] at ha
     | exc _ _=>simp [okD] at ha
     | _=>walk_at "w";exact ⟨by simp [AD],rfl⟩
   | a :: b :: e :: f :: l,_=>
     refine Fc ?_ ?_
     ·show (!(((a :: b :: e :: f :: l).length:Int) == 3))=true
      simp;lia
     walk_at "w"
     exact ⟨by simp [AD],rfl⟩
 | obj _=>simp [okD] at h
 | scr _=>simp [okD] at h
 | ty _=>simp [okD] at h
 | exc _ _=>simp [okD] at h
 | _=>walk_at "w";exact ⟨by simp [AD],rfl⟩
theorem Tp {cc cp cl ct cw:Fn} {n:Nat} (h1:LS cc n) (h2:Pn cp n) (h3:Pi cl n) (h4:L8 ct) (h5:GB cw):Ge (fnOf 2 3 (JG cc cp cl ct cw)) (n + 1):=by
 intro s hs d h S
 refine AY rfl ?_
 unfold JG
 cases s with
 | nothing=>
   rw [Sh.d]
   walk_at "w"
   exact ⟨by rw [AD],rfl⟩
 | number lo hi=>
   rw [Sh.d]
   walk_at "w"
   refine (h5 d lo hi h).use ⟨?_,rfl⟩
   cases d <;> simp [AD,Fz]
 | text m=>
   rw [Sh.d]
   walk_at "w"
   exact (h4 m d h).use ⟨rfl,rfl⟩
 | list s m=>
   rw [Sh.depth] at hs
   have q:=h3 s m (by lia) d h
   rw [Sh.d] at q ⊢
   walk_at "w"
   exact q.use ⟨rfl,rfl⟩
 | pair s r=>
   rw [Sh.depth] at hs
   have q:=h2 s r (by lia) (by lia) d h
   rw [Sh.d] at q ⊢
   walk_at "w"
   exact q.use ⟨rfl,rfl⟩
 | choice ss=>
   rw [Sh.depth] at hs
   have q:=h1 ss (by lia) d h
   rw [Sh.d] at q ⊢
   walk_at "w"
   exact q.use ⟨rfl,rfl⟩
theorem K7 (x:Array Nat):∀(n:Nat) (acc:Array Nat),((List.replicate n x).foldl (·++·) acc).toList=acc.toList++(List.replicate n x.toList).flatten
 | 0,acc=>by simp
 | n + 1,acc=>by
   rw [List.replicate_succ,List.foldl_cons,K7 x n,List.replicate_succ,List.flatten_cons]
   simp
theorem Qg {x:Str} {k:Int}:(Txt.mul x k).cps.toList=(List.replicate k.toNat x.cps.toList).flatten:=by
 unfold Txt.mul
 split
 ·have:k.toNat=0:=by lia
  rw [this];rfl
 ·split
  ·next h=>
   rw [Bool.or_eq_true] at h
   rcases h with h | h
   ·have:k=1:=by simpa using h
    subst this;simp
   ·have:x.cps.toList=[]:=by
     have h':x.length=0:=by simpa using h
     exact List.eq_nil_of_length_eq_zero (by simpa [Str.length] using h')
    rw [this];simp
  ·have:=K7 x.cps k.toNat #[]
   simpa using this
theorem El (x:Str):x.length=x.cps.toList.length:=by simp [Str.length]
theorem FV (x y:Str):(x++y).cps.toList=x.cps.toList++y.cps.toList:=by
 show (x.cps++y.cps).toList=_
 simp
theorem Uo {α:Type} (a:α) (k:Nat):(List.replicate k [a]).flatten=List.replicate k a:=by
 induction k with
 | zero=>rfl
 | succ k ih=>rw [List.replicate_succ,List.flatten_cons,ih,List.replicate_succ];rfl
theorem KU {f:D->D} {fr:List (Option Sl)} {S:List Ob} {elt:M D} {ds:List D} {z:Option Sl} (h:∀d∈ds,W elt ⟨some (.val d) :: fr,S⟩ λx t'=>x=f d/\t'=⟨some (.val d) :: fr,S⟩) :
 W (CU (BE 0) Fh elt ds) ⟨z :: fr,S⟩ λxs t'=>xs=ds.map f/\t'.S=S:=by
 refine (FA (P:=λxs t'=>xs=ds.map f/\t'.S=S) (λacc r t=>acc++r.map f=ds.map f/\∃z,t=⟨z :: fr,S⟩) ds [] _ ⟨rfl,z,rfl⟩ ?_ ?_).mono λxs t' h=>h
 ·rintro acc d r t ⟨h1,z,rfl⟩ hm
  refine Je (Jf ?_)
  rw [if_pos rfl]
  refine (h d hm).mono λx t' ⟨e1,e2⟩=>?_
  subst e1 e2
  exact ⟨by rw [List.append_assoc];exact h1,_,rfl⟩
 ·rintro acc t ⟨h1,z,rfl⟩
  exact ⟨by simpa using h1,rfl⟩
mutual
noncomputable def sz:D->Nat
 | .tup xs=>szs xs + 1
 | .lst xs=>szs xs + 1
 | _=>1
noncomputable def szs:List D->Nat
 | []=>0
 | d :: r=>sz d + szs r
end
theorem UE {x y:Str} (h:x.cps.toList=y.cps.toList):x=y:=by
 cases x;cases y
 congr
 exact Array.toList_inj.mp h
mutual
noncomputable def wf:Sh->Bool
 | .nothing=>true
 | .number lo hi=>decide (-1000000000000000000 < lo) && decide (lo<=hi) && decide (hi < 1000000000000000000)
 | .text m=>decide (0<=m) && decide (m<=250)
 | .list s m=>decide (0<=m) && decide (m<=250) && wf s
 | .pair s r=>wf s && wf r
 | .choice ss=>decide (1<=ss.length) && decide (ss.length<=9) && wfs ss
noncomputable def wfs:List Sh->Bool
 | []=>true
 | s :: r=>wf s && wfs r
end
mutual
noncomputable def cnt:Sh->Nat
 | .list s _=>cnt s + 1
 | .pair s r=>cnt s + cnt r + 1
 | .choice ss=>U5 ss + 1
 | _=>1
noncomputable def U5:List Sh->Nat
 | []=>0
 | s :: r=>cnt s + U5 r
end
theorem EW:∀{ss:List Sh},wfs ss=true->∀s∈ss,wf s=true
 | x :: r,h,s,m=>by
   rw [wfs,Bool.and_eq_true] at h
   rcases List.mem_cons.mp m with z | z
   ·subst z;exact h.1
   ·exact EW h.2 s z
theorem QP:∀{ss:List Sh},(∀s∈ss,wf s=true)->wfs ss=true
 | [],_=>rfl
 | x :: r,h=>by rw [wfs,h x List.mem_cons_self,QP λs m=>h s (List.mem_cons_of_mem _ m)];rfl
theorem Nl:∀ss:List Sh,shD ss=ss.map Sh.d
 | []=>rfl
 | s :: r=>by rw [shD,Nl r];rfl
theorem Lf:∀{ss:List Sh} {s:Sh},s∈ss->s.depth<=E6 ss
 | x :: r,s,m=>by
   rw [E6]
   rcases List.mem_cons.mp m with z | z
   ·subst z;lia
   ·have:=Lf z;lia
theorem Ff {xs:List D} {i:Int} (h0:0<=i) (h1:i < xs.length) {p:D->Prop} (h:∀d∈xs,p d):∃d,atI xs i=some d/\p d:=by
 obtain ⟨d,e,m,_⟩:=Tc h0 h1
 exact ⟨d,e,h d m⟩
def Om (k c l:Nat) (S S':List Ob):Prop:=S'.length=S.length/\∀j:Nat,j≠k->j≠c->j≠l->S'[j]?=S[j]?
noncomputable def O5 (deep:Int):Int:=if deep < 2 then 0 else 2 * deep + 4
def bd (deep x:Int):Int:=if deep < 2 then 1 else max x 1 + O5 deep - (if deep + 1<=x then 1 else 0)
def tb (deep y i:Int):Int:=if deep=2 then i else if i=0 then 0 else y + O5 (deep - 1) + i - 1 - (if deep<=y then 1 else 0)
structure ShapeRes (k c l:Nat) (S:List Ob) (deep x:Int) (s:Sh) (S':List Ob):Prop where
 w:wf s=true
 dep:(s.depth:Int)<=max deep 1
 lft:S'[l]?=some (.lst [.int (x - cnt s)])
 one:x<=1->cnt s=1
 few:(cnt s:Int)<=max x 1 + O5 deep
 deck:DeckAt k c S'
 kp:Om k c l S S'
 few2:(cnt s:Int)<=bd deep x
theorem Vq {n:Nat} {k:Int}:(Txt.mul ⟨#[n]⟩ k).cps.toList=List.replicate k.toNat n:=by rw [Qg];exact Uo n k.toNat
theorem Rl {n:Nat} {k:Int}:(Txt.mul ⟨#[n]⟩ k).length=k.toNat:=by rw [El,Vq,List.length_replicate]
structure Sep (ks:List (Nat×Nat)):Prop where
 sep:∀p∈ks,∀q∈ks,p=q\/(q.1≠p.1/\q.1≠p.2/\q.2≠p.1/\q.2≠p.2)
mutual
noncomputable def dpt:D->Nat
 | .lst ds=>FF ds + 1
 | .tup ds=>FF ds + 1
 | _=>1
noncomputable def FF:List D->Nat
 | []=>0
 | d :: r=>max (dpt d) (FF r)
end
theorem NX:∀{ds:List D} {n:Nat},(∀d∈ds,dpt d<=n)->FF ds<=n
 | [],n,_=>by simp [FF]
 | x :: r,n,h=>by
   rw [FF]
   have h1:=h x List.mem_cons_self
   have h2:=NX λd m=>h d (List.mem_cons_of_mem _ m)
   lia
theorem NW (d:D):0 < dpt d:=by cases d <;> simp [dpt]
mutual
noncomputable def smD:D->Bool
 | .str x=>decide (x.length<=300)
 | .int i=>decide (-1000000000000000000000000 < i) && decide (i < 1000000000000000000000000)
 | .tup xs=>decide (xs.length<=300) && sms xs
 | .lst xs=>decide (xs.length<=300) && sms xs
 | .obj _=>false
 | .scr _=>false
 | .ty _=>false
 | .exc _ _=>false
 | _=>true
noncomputable def sms:List D->Bool
 | []=>true
 | d :: r=>smD d && sms r
end
theorem QE:∀{xs:List D},(∀d∈xs,smD d=true)->sms xs=true
 | [],_=>rfl
 | x :: r,h=>by
   rw [sms,Bool.and_eq_true]
   exact ⟨h x List.mem_cons_self,QE λd m=>h d (List.mem_cons_of_mem _ m)⟩
mutual
theorem SU:∀{d:D},smD d=true->okD d=true
 | .str x,h=>by rw [smD,decide_eq_true_eq] at h;rw [okD,decide_eq_true_eq];lia
 | .tup xs,h=>by rw [smD,Bool.and_eq_true] at h;rw [okD];exact Np h.2
 | .lst xs,h=>by rw [smD,Bool.and_eq_true] at h;rw [okD];exact Np h.2
 | .obj _,h=>by simp [smD] at h
 | .scr _,h=>by simp [smD] at h
 | .ty _,h=>by simp [smD] at h
 | .non,_=>by simp [okD]
 | .bl _,_=>by simp [okD]
 | .int _,_=>by simp [okD]
 | .dic,_=>by simp [okD]
theorem Np:∀{xs:List D},sms xs=true->oks xs=true
 | [],_=>by simp [oks]
 | d :: r,h=>by rw [sms,Bool.and_eq_true] at h;rw [oks,Bool.and_eq_true];exact ⟨SU h.1,Np h.2⟩
end
theorem E9 {f:D->D->Option Bool}:∀{xs:List D},(∀d∈xs,f d d=some true)->Dx f xs xs=some true
 | [],_=>rfl
 | x :: r,h=>by
   rw [Dx,h x List.mem_cons_self,E9 λd m=>h d (List.mem_cons_of_mem _ m)]
   rfl
theorem DJ:∀(n:Nat) (d:D),dpt d<=n->smD d=true->d≠.dic->(∀xs,d = .lst xs\/d = .tup xs->∀x∈xs,eqN (n - 1) x x=some true)->eqN n d d=some true
 | 0,d,hd,_,_,_=>absurd hd (by have:=NW d;lia)
 | n + 1,.lst xs,_,_,_,h=>by
   rw [eqN,if_pos rfl]
   exact E9 (h xs (.inl rfl))
 | n + 1,.tup xs,_,_,_,h=>by
   have e:Dx (eqN n) xs xs=some true:=E9 (h xs (.inr rfl))
   rw [eqN,e]
   simp
 | n + 1,.non,_,_,_,_=>rfl
 | n + 1,.bl b,_,_,_,_=>by show some (b == b)=some true;rw [beq_self_eq_true]
 | n + 1,.int b,_,_,_,_=>by show some (b == b)=some true;rw [beq_self_eq_true]
 | n + 1,.str b,_,_,_,_=>by show some (b == b)=some true;rw [beq_self_eq_true]
 | n + 1,.dic,_,_,h,_=>absurd rfl h
 | n + 1,.obj _,_,h,_,_=>by simp [smD] at h
 | n + 1,.scr _,_,h,_,_=>by simp [smD] at h
 | n + 1,.ty _,_,h,_,_=>by simp [smD] at h
theorem Gk:∀(n:Nat) (s:Sh),s.depth<=n->wf s=true->∀d,AD s d=true->smD d=true/\dpt d<=s.depth/\∀m,s.depth<=m->eqN m d d=some true
 | 0,s,h,_,_,_=>absurd s.depth_pos (by lia)
 | n + 1,s,hs,hw,d,hf=>by
   have l2:(Str.ofString "of").length<=300:=by decide +kernel
   cases s with
   | nothing=>
     cases d <;> simp [AD,JB] at hf
     refine ⟨rfl,by simp [dpt,Sh.depth],λm hm=>?_⟩
     have:=(Sh.nothing).depth_pos
     obtain ⟨m,rfl⟩:∃k,m=k + 1:=⟨m - 1,by lia⟩
     exact DJ _ _ (by simp [dpt]) rfl (by simp) (by simp)
   | number lo hi=>
     simp only [wf,Bool.and_eq_true,decide_eq_true_eq] at hw
     cases d <;> simp [AD] at hf
     rename_i i
     have sm:smD (.int i)=true:=by
      simp only [smD,Bool.and_eq_true,decide_eq_true_eq]
      lia
     refine ⟨sm,by simp [dpt,Sh.depth],λm hm=>?_⟩
     rw [Sh.depth] at hm
     obtain ⟨m,rfl⟩:∃k,m=k + 1:=⟨m - 1,by lia⟩
     exact DJ _ _ (by simp [dpt]) sm (by simp) (by simp)
   | text q=>
     simp only [wf,Bool.and_eq_true,decide_eq_true_eq] at hw
     cases d <;> simp [AD] at hf
     rename_i x
     have sm:smD (.str x)=true:=by
      simp only [smD,decide_eq_true_eq]
      lia
     refine ⟨sm,by simp [dpt,Sh.depth],λm hm=>?_⟩
     rw [Sh.depth] at hm
     obtain ⟨m,rfl⟩:∃k,m=k + 1:=⟨m - 1,by lia⟩
     exact DJ _ _ (by simp [dpt]) sm (by simp) (by simp)
   | list s q=>
     simp only [wf,Bool.and_eq_true,decide_eq_true_eq] at hw
     rw [Sh.depth] at hs
     cases d <;> simp only [AD,Bool.false_eq_true] at hf
     rename_i ds
     rw [Bool.and_eq_true,decide_eq_true_eq,List.all_eq_true] at hf
     have ih:=λd m=>Gk n s (by lia) hw.2 d (hf.2 d m)
     have sm:smD (.lst ds)=true:=by
      rw [smD,Bool.and_eq_true,decide_eq_true_eq]
      exact ⟨by lia,QE λd m=>(ih d m).1⟩
     have dd:FF ds<=s.depth:=NX λd m=>(ih d m).2.1
     refine ⟨sm,by rw [dpt,Sh.depth];lia,λm hm=>?_⟩
     rw [Sh.depth] at hm
     obtain ⟨m,rfl⟩:∃k,m=k + 1:=⟨m - 1,by lia⟩
     refine DJ _ _ (by rw [dpt];lia) sm (by simp) λxs e x hx=>?_
     rcases e with e | e
     ·cases e;exact (ih x hx).2.2 m (by lia)
     ·cases e
   | pair s r=>
     simp only [wf,Bool.and_eq_true] at hw
     rw [Sh.depth] at hs
     match d,hf with
     | .tup [a,b],hf=>
       simp only [AD,Bool.and_eq_true] at hf
       have i1:=Gk n s (by lia) hw.1 a hf.1
       have i2:=Gk n r (by lia) hw.2 b hf.2
       have sm:smD (.tup [a,b])=true:=by simp [smD,sms,i1.1,i2.1]
       have h1:=i1.2.1
       have h2:=i2.2.1
       refine ⟨sm,by simp only [dpt,FF,Sh.depth];lia,λm hm=>?_⟩
       rw [Sh.depth] at hm
       obtain ⟨m,rfl⟩:∃k,m=k + 1:=⟨m - 1,by lia⟩
       refine DJ _ _ (by simp only [dpt,FF];lia) sm (by simp) λxs e x hx=>?_
       rcases e with e | e
       ·cases e
       ·cases e
        simp only [List.mem_cons,List.not_mem_nil,or_false] at hx
        rcases hx with rfl | rfl
        ·exact i1.2.2 m (by lia)
        ·exact i2.2.2 m (by lia)
   | choice ss=>
     simp only [wf,Bool.and_eq_true,decide_eq_true_eq] at hw
     rw [Sh.depth] at hs
     match d,hf with
     | .tup [.str o,.int k,x],hf=>
       simp only [AD,Bool.and_eq_true,decide_eq_true_eq] at hf
       obtain ⟨⟨ho,k0,k1⟩,hf⟩:=hf
       have hk:k.toNat < ss.length:=by lia
       have e1:ss[k.toNat]?=some ss[k.toNat]:=List.getElem?_eq_getElem hk
       rw [DK ss _ _ _ e1] at hf
       have hd:=DM ss _ _ e1
       have ih:=Gk n _ (by lia) (EW hw.2 _ (List.getElem_mem hk)) x hf
       have ho':o.length<=300:=by
        have:o=("of" : Str):=by simpa [ID] using ho
        subst this;exact l2
       have sm:smD (.tup [.str o,.int k,x])=true:=by
        simp only [smD,sms,ih.1,Bool.and_true,Bool.and_eq_true,decide_eq_true_eq,List.length_cons,List.length_nil]
        lia
       have h1:=ih.2.1
       have h2:=NW x
       have p1:=(ss[k.toNat]).depth_pos
       refine ⟨sm,by simp only [dpt,FF,Sh.depth];lia,λm hm=>?_⟩
       rw [Sh.depth] at hm
       obtain ⟨m,rfl⟩:∃k,m=k + 1:=⟨m - 1,by lia⟩
       refine DJ _ _ (by simp only [dpt,FF];lia) sm (by simp) λxs e y hy=>?_
       rcases e with e | e
       ·cases e
       ·cases e
        obtain ⟨m',rfl⟩:∃k,m=k + 1:=⟨m - 1,by lia⟩
        simp only [List.mem_cons,List.not_mem_nil,or_false] at hy
        rcases hy with rfl | rfl | rfl
        ·exact DJ _ _ (by simp [dpt]) (by simp [smD,ho']) (by simp) (by simp)
        ·exact DJ _ _ (by simp [dpt]) (by simp only [smD,Bool.and_eq_true,decide_eq_true_eq];lia) (by simp) (by simp)
        ·exact ih.2.2 _ (by lia)
theorem KS {d:D} {g:Bool->Bool} {t:T} {P:D->T->Prop} (h0:Ri d=false) (h:eqN EQD d d=some true) (p:P (.bl (g true)) t):W (eqS g d d) t P:=⟨_,_,by simp [eqS,h0,h],p⟩
theorem Xr {f:M D} {g:M (List D)} {t:T} {P:D->T->Prop} (h:W f t λo t1=>W g t1 λas t2=>∃z ds ys,o = .str z/\as=[.lst ds]/\FT ds=some ys/\(z.length<=8/\ys.length<=1048576)/\P (.str (Txt.join z ys)) t2):W (joinM f g) t P:=by
 refine DA (h.mono λo t1 h1=>DA (h1.mono λas t2 h2=>?_))
 obtain ⟨z,ds,ys,rfl,rfl,e,hl,p⟩:=h2
 refine ⟨_,_,?_,p⟩
 simp only [e]
 rw [if_pos hl]
theorem HB:∀ns:List Nat,FT (ns.map λn=>D.str ⟨#[n]⟩)=some (ns.map λn=>(⟨#[n]⟩:Str))
 | []=>rfl
 | n :: r=>by
   rw [List.map_cons,FT,if_pos (Nat.le_of_ble_eq_true rfl),HB r]
   rfl
theorem Jz:∀(ns:List Nat) (acc:Array Nat),((ns.map λn=>(⟨#[n]⟩:Str)).foldl (λacc p=>acc++(Str.ofString "").cps++p.cps) acc).toList=acc.toList++ns
 | [],acc=>by simp
 | n :: r,acc=>by
   have e:(Str.ofString "").cps=#[]:=by decide +kernel
   rw [List.map_cons,List.foldl_cons,Jz r,e]
   simp
theorem JC (ns:List Nat):(Txt.join (Str.ofString "") (ns.map λn=>(⟨#[n]⟩:Str))).cps.toList=ns:=by
 show (List.foldl (λ(acc:Array Nat) (p:Str)=>acc++(Str.ofString "").cps++p.cps) (((ns.map λn=>(⟨#[n]⟩:Str)).headD Str.empty).cps) ((ns.map λn=>(⟨#[n]⟩:Str)).drop 1)).toList=ns
 cases ns with
 | nil=>rfl
 | cons n r=>
   rw [List.map_cons,List.drop_one,List.tail_cons,Jz]
   rfl
structure ValueRes (k c l:Nat) (S:List Ob) (s:Sh) (r:D) (S':List Ob):Prop where
 fit:AD s r=true
 lft:∃a b:Int,S'[l]?=some (.lst [.int a,.int b])
 deck:DeckAt k c S'
 kp:Om k c l S S'
theorem Id {f:M (List D)} {t:T} {P:Out->T->Prop} (h:W f t λds t1=>P (.ret (.lst ds)) t1):W (Hu f) t P:=W_bnd.mpr (h.mono λ_ _ p=>W_ret.mpr p)
theorem Gy {g:Fn} {f:M (List D)} {t:T} {P:List D->T->Prop} (h:W f t λds t1=>Wf g ds t1.S λr S'=>∃rs,r = .lst rs/\P rs ⟨t1.env,S'⟩):W (Ex g f) t P:=by
 refine W_bnd.mpr (h.mono λds t1 ⟨r,S',e,rs,er,p⟩=>?_)
 subst er
 exact ⟨rs,⟨t1.env,S'⟩,by simp only [e],p⟩
theorem UQ {i:Nat} {xs:List D} {t:T} {P:Out->T->Prop} (e:t.env[i]?=some (some (.own xs))) (h:P (.ret (.lst xs)) ⟨t.env.set i none,t.S⟩):W (Hv i) t P:=⟨_,_,by simp only [Hv,e],h⟩
theorem Xk {i:Int} {t:T} {P:D->T->Prop} (h:P (.int (Builtin.Int.intBits i:Nat)) t):W (LH (.int i)) t P:=⟨_,_,rfl,h⟩
theorem Y5 {i j:Int} {t:T} {P:D->T->Prop} (h0:0<=j) (h:P (.int (i / 2 ^ j.toNat)) t):W (O4 (.int i) (.int j)) t P:=⟨_,_,by simp [O4,i2C,h0],h⟩
theorem YH {i:Nat} {xs ys:List D} {t1:T} {A:List D->Prop} (e:t1.env[i]?=some (some (.own xs))) (l:xs.length + ys.length<=LIM) (w:A (xs++ys)):∃xs,t1.env[i]?=some (some (.own xs))/\∃zs,Ix xs [.lst ys]=some zs/\A zs:=
 ⟨xs,e,xs++ys,by simp [Ix,l],w⟩
theorem GA {f:M Bool} {b:M Out} {P:Out->T->Prop} (I:Nat->T->Prop) (turn:∀n t,I n t->W f t λk t1=>match k with
 | true=>∃m,n=m + 1/\W b t1 λo t2=>match o with
   | .next=>I m t2
   | .cont=>I m t2
   | .brk=>P .next t2
   | .ret x=>P (.ret x) t2
 | false=>P .next t1):∀(fuel n:Nat) (t:T),n < fuel->I n t->W (Dv f b fuel) t P
 | 0,n,t,h,_=>absurd h (Nat.not_lt_zero _)
 | fuel + 1,n,t,h,i=>by
   obtain ⟨k,t1,e1,p⟩:=turn n t i
   cases k with
   | false=>exact ⟨_,_,by simp only [Dv,e1],p⟩
   | true=>
     obtain ⟨m,rfl,o,t2,e2,p⟩:=p
     cases o with
     | next=>obtain ⟨o,t',e',p⟩:=GA I turn fuel m t2 (by lia) p;exact ⟨o,t',by simp only [Dv,e1,e2];exact e',p⟩
     | cont=>obtain ⟨o,t',e',p⟩:=GA I turn fuel m t2 (by lia) p;exact ⟨o,t',by simp only [Dv,e1,e2];exact e',p⟩
     | brk=>exact ⟨_,_,by simp only [Dv,e1,e2],p⟩
     | ret x=>exact ⟨_,_,by simp only [Dv,e1,e2],p⟩
noncomputable def wid (n:Nat):Nat:=if n=0 then 0 else n.log2 / 8 + 1
theorem P6 {n:Nat} (h:2<=n):n.log2=(n / 2).log2 + 1:=by rw [Nat.log2_def,if_pos h]
theorem Rp {n:Nat} (h:n < 2):n.log2=0:=by rw [Nat.log2_def,if_neg (by lia)]
theorem MW:∀(k:Nat) {n:Nat},2 ^ k<=n->n.log2=(n / 2 ^ k).log2 + k
 | 0,n,_=>by rw [Nat.pow_zero,Nat.div_one,Nat.add_zero]
 | k + 1,n,h=>by
   have h2:2 ^ k * 2<=n:=by rw [<-Nat.pow_succ];exact h
   have h3:2<=n / 2 ^ k:=(Nat.le_div_iff_mul_le (Nat.pow_pos (by decide))).mpr (by rw [Nat.mul_comm];exact h2)
   rw [MW k (Nat.le_trans (Nat.le_mul_of_pos_right _ (by decide)) h2),P6 h3,Nat.div_div_eq_div_mul,<-Nat.pow_succ,Nat.add_assoc,Nat.add_comm 1 k]
theorem Rn {n:Nat} (h:256<=n):n.log2=(n / 256).log2 + 8:=MW 8 h
theorem Ro {n:Nat} (h:n < 256):n.log2 < 8:=by
 by_cases z:n=0
 ·subst z;rw [Rp (by lia)];lia
 ·exact (Nat.log2_lt z).mpr h
theorem Sj {n:Nat} (h:0 < n):wid n=wid (n / 256) + 1:=by
 unfold wid
 rw [if_neg (by lia)]
 by_cases z:n < 256
 ·have:=Ro z
  rw [if_pos (by lia)];lia
 ·rw [if_neg (by lia),Rn (by lia)];lia
theorem Kf:∀(k n:Nat),n < 256 ^ k->wid n<=k
 | 0,n,h=>by
   have:n=0:=by simpa using h
   subst this;decide
 | k + 1,n,h=>by
   by_cases z:n=0
   ·subst z;exact Nat.zero_le _
   ·rw [Sj (by lia)]
    have:=Kf k (n / 256) (Nat.div_lt_of_lt_mul (by rw [Nat.pow_succ] at h;lia))
    lia
theorem Q6 (n:Nat):((Builtin.Int.intBits (n:Int):Nat) + 7) / 8=wid n:=by
 unfold Builtin.Int.intBits wid
 by_cases z:n=0
 ·subst z;rfl
 ·have:((n:Int) == 0)=false:=by simp;exact z
  rw [this,if_neg (by simp),if_neg z,Int.natAbs_natCast];lia
noncomputable def nb:Nat->Nat->List D
 | 0,_=>[]
 | w + 1,n=>nb w (n / 256)++[.int ((n % 256:Nat):Int)]
theorem Qi:∀w n,(nb w n).length=w
 | 0,n=>rfl
 | w + 1,n=>by rw [nb,List.length_append,Qi];rfl
theorem Qj:∀w n:Nat,(List.range w).map (λk=>D.int ((n / 2 ^ (8 * (w - 1 - k)) % 256:Nat):Int))=nb w n
 | 0,n=>rfl
 | w + 1,n=>by
   rw [List.range_succ,List.map_append,nb,<-Qj w (n / 256)]
   congr 1
   ·refine List.map_congr_left λk hk=>?_
    rw [List.mem_range] at hk
    have e:8 * (w + 1 - 1 - k)=8 + 8 * (w - 1 - k):=by lia
    rw [e,Nat.pow_add,Nat.div_div_eq_div_mul]
   ·simp
mutual
def BC:Sh->D->List D
 | .nothing,_=>[]
 | .number lo hi,d=>match d with
   | .int i=>nb (wid (hi - lo).toNat) (i - lo).toNat
   | _=>[]
 | .text _,d=>match d with
   | .str x=>.int (x.length:Nat) :: x.cps.toList.map λn=>D.int (n:Nat)
   | _=>[]
 | .list s _,d=>match d with
   | .lst ds=>.int (ds.length:Nat) :: (ds.map λd=>BC s d).flatten
   | _=>[]
 | .pair s r,d=>match d with
   | .tup [a,b]=>BC s a++BC r b
   | _=>[]
 | .choice ss,d=>match d with
   | .tup [_,.int k,x]=>.int k :: Jj ss k.toNat x
   | _=>[]
def Jj:List Sh->Nat->D->List D
 | [],_,_=>[]
 | s :: _,0,d=>BC s d
 | _ :: r,k + 1,d=>Jj r k d
end
theorem E7:∀(ss:List Sh) (k:Nat) (s:Sh) (d:D),ss[k]?=some s->Jj ss k d=BC s d
 | [],k,s,d,h=>by simp at h
 | s :: r,0,s',d,h=>by simp at h;subst h;simp [Jj]
 | s :: r,k + 1,s',d,h=>by rw [Jj];exact E7 r k s' d (by simpa using h)
def HC (f:Fn) (n:Nat):Prop:=∀(s:Sh),s.depth<=n->wf s=true->∀d,AD s d=true->(BC s d).length<=LIM->Pure1 f [s.d,d] (.lst (BC s d))
def G9 (f:Fn):Prop:=∀(n j:Nat),j<=1000->Pure1 f [.int n,.int j] (.int ((n / 2 ^ (8 * j):Nat):Int))
theorem TF:G9 (fnOf 2 2 F4):=by
 intro n j hj S
 refine AY rfl ?_
 unfold F4
 walk_at "w"
 refine Ib (Gn (by decide) (by decide)) ?_
 refine Y5 (by lia) ?_
 refine ⟨?_,rfl⟩
 have:(8 * (j:Int)).toNat=8 * j:=by lia
 rw [this]
 simp
def Jh (f:Fn):Prop:=∀n:Nat,n < 256 ^ 9->Pure1 f [.int n] (.int (wid n:Nat))
theorem Sk:Jh (fnOf 1 1 D4):=by
 intro n _ S
 refine AY rfl ?_
 unfold D4
 walk_at "w"
 refine Xk ?_
 walk_at "w"
 refine ⟨?_,rfl⟩
 rw [<-Q6]
 simp
def LX (f:Fn):Prop:=∀(n w:Nat),w<=1000->Pure1 f [.int n,.int w] (.lst (nb w n))
theorem HV (i:Int) (n:Nat):rngL i n=(List.range n).map λk:Nat=>D.int (i + k):=by
 rfl
theorem TY {c:Fn} (hc:G9 c):LX (fnOf 2 2 (DP c)):=by
 intro n w hw S
 have hL:LIM=100000:=rfl
 refine AY rfl ?_
 unfold DP
 refine Id ?_
 walk_at "w"
 refine Si (by rw [C6 (by decide) (by decide),C6 (by lia) (by lia)];rfl) ?_
 refine (KU (f:=λd=>match d with | .int k=>.int ((n / 2 ^ (8 * (w - k.toNat)) % 256:Nat):Int) | _=>d) (fr:=[some (.val (.int n)),some (.val (.int w))]) ?_).mono ?_
 ·intro d m
  rw [HV] at m
  obtain ⟨k,hk,rfl⟩:=List.mem_map.mp m
  rw [List.mem_range] at hk
  walk_at "w"
  have e:((w:Int) - (1 + (k:Int)))=((w - (1 + k):Nat):Int):=by lia
  rw [e]
  refine (hc n (w - (1 + k)) (by lia)).use ?_
  walk_at "w"
  refine ⟨?_,rfl⟩
  have e2:(1 + (k:Int)).toNat=1 + k:=by lia
  dsimp only
  rw [e2]
  simp
 ·rintro xs t' ⟨rfl,hS⟩
  have hn:((w:Int) + 1 - 1).toNat=w:=by lia
  rw [HV,hn]
  refine Cj (by simp only [List.length_map,List.length_range,hL];lia) ?_
  refine ⟨?_,hS⟩
  rw [<-Qj w n,List.map_map]
  congr 1
  refine List.map_congr_left λk hk=>?_
  rw [List.mem_range] at hk
  have e2:(1 + (k:Int)).toNat=1 + k:=by lia
  have e3:w - (1 + k)=w - 1 - k:=by lia
  simp only [Function.comp,e2,e3]
theorem Og {lo hi:Int} (h:wf (.number lo hi)=true):(hi - lo).toNat < 256 ^ 9:=by
 simp only [wf,Bool.and_eq_true,decide_eq_true_eq] at h
 have:(256:Nat) ^ 9=4722366482869645213696:=by decide
 lia
theorem Px (x:Str):(x.cps.toList.map λc=>D.str ⟨#[c]⟩).map (λd=>match d with | .str y=>D.int (y.cps.getD 0 0:Nat) | _=>d)=x.cps.toList.map λn=>D.int (n:Nat):=by
 rw [List.map_map]
 refine List.map_congr_left λn _=>?_
 rfl
theorem To {c cw cn:Fn} {n:Nat} (hc:HC c n) (hw:Jh cw) (hn:LX cn):HC (fnOf 2 5 (DG c cw cn)) (n + 1):=by
 intro s hs hwf d hf hlen S
 have hL:LIM=100000:=rfl
 refine AY rfl ?_
 unfold DG
 cases s with
 | nothing=>
   rw [Sh.d]
   walk_at "w"
   refine Id ?_
   walk_at "w"
   exact ⟨by rw [BC],rfl⟩
 | number lo hi=>
   have hsp:=Og hwf
   have hwd:=Kf 9 _ hsp
   simp only [wf,Bool.and_eq_true,decide_eq_true_eq] at hwf
   cases d <;> simp [AD] at hf
   rename_i i
   rw [Sh.d]
   walk_at "w"
   refine Id (Gy ?_)
   walk_at "w"
   have e1:hi - lo=(((hi - lo).toNat:Nat):Int):=by lia
   have e2:i - lo=(((i - lo).toNat:Nat):Int):=by lia
   rw [e1,e2]
   refine (hw _ hsp).use ?_
   walk_at "w"
   refine (hn _ _ (by lia)).use ?_
   exact ⟨_,rfl,by rw [BC],rfl⟩
 | text q=>
   simp only [wf,Bool.and_eq_true,decide_eq_true_eq] at hwf
   cases d <;> simp [AD] at hf
   rename_i x
   rw [Sh.d]
   walk_at "w"
   refine Id ?_
   refine DA ?_
   walk_at "w"
   refine SZ (by rw [hL];lia) ?_
   walk_at "w"
   refine (KU (f:=λd=>match d with | .str y=>D.int (y.cps.getD 0 0:Nat) | _=>d) (fr:=[]) ?_).mono ?_
   ·intro d m
    obtain ⟨k,hk,rfl⟩:=List.mem_map.mp m
    walk_at "w"
    refine Wz rfl ?_
    exact ⟨rfl,rfl⟩
   ·rintro xs t' ⟨rfl,hS⟩
    rw [Px]
    have hl:x.cps.toList.length<=250:=by rw [<-El];lia
    refine Cj (by rw [List.length_map,hL];lia) ?_
    walk_at "w"
    refine Cj (by simp only [List.length_map,List.length_cons,List.length_nil,hL];lia) ?_
    exact ⟨by rw [BC];rfl,hS⟩
 | list s q=>
   simp only [wf,Bool.and_eq_true,decide_eq_true_eq] at hwf
   rw [Sh.depth] at hs
   cases d <;> simp only [AD,Bool.false_eq_true] at hf
   rename_i ds
   rw [Bool.and_eq_true,decide_eq_true_eq,List.all_eq_true] at hf
   rw [BC] at hlen ⊢
   rw [Sh.d]
   walk_at "w"
   refine Dk (λr t=>∃(z:Option Sl) (acc:List D),t=⟨[some (.val (.tup [.str "list",s.d,.int q])),some (.val (.lst ds)),some (.val (.str "list")),some (.own acc),z],S⟩/\acc++(r.map λd=>BC s d).flatten = .int (ds.length:Nat) :: (ds.map λd=>BC s d).flatten) _ _ ⟨_,_,rfl,rfl⟩ ?_ ?_
   ·rintro d r t ⟨z,acc,rfl,hacc⟩ m
    rw [List.map_cons,List.flatten_cons,<-List.append_assoc] at hacc
    have hl:acc.length + (BC s d).length<=LIM:=by
     have:=congrArg List.length hacc
     rw [List.length_append,List.length_append] at this
     lia
    walk_at "w"
    refine Gy ?_
    walk_at "w"
    refine (hc s (Nat.le_of_succ_le_succ hs) hwf.2 d (hf.2 d m) (Nat.le_trans (Nat.le_add_left _ _) hl)).use ⟨_,rfl,?_⟩
    walk_at "w"
    refine YH rfl hl ?_
    exact ⟨_,_,rfl,hacc⟩
   ·rintro t ⟨z,acc,rfl,hacc⟩
    rw [List.map_nil,List.flatten_nil,List.append_nil] at hacc
    walk_at "w"
    refine UQ rfl ?_
    exact ⟨by rw [hacc],rfl⟩
 | pair s r=>
   simp only [wf,Bool.and_eq_true] at hwf
   rw [Sh.depth] at hs
   match d,hf,hlen with
   | .tup [a,b],hf,hlen=>
     simp only [AD,Bool.and_eq_true] at hf
     rw [BC] at hlen ⊢
     rw [List.length_append] at hlen
     rw [Sh.d]
     walk_at "w"
     refine Id ?_
     refine DA ?_
     walk_at "w"
     refine Gy ?_
     walk_at "w"
     refine (hc s (Nat.le_trans (Nat.le_max_left _ _) (Nat.le_of_succ_le_succ hs)) hwf.1 a hf.1 (Nat.le_trans (Nat.le_add_right _ _) hlen)).use ⟨_,rfl,?_⟩
     refine DA ?_
     walk_at "w"
     refine Gy ?_
     walk_at "w"
     refine (hc r (Nat.le_trans (Nat.le_max_right _ _) (Nat.le_of_succ_le_succ hs)) hwf.2 b hf.2 (Nat.le_trans (Nat.le_add_left _ _) hlen)).use ⟨_,rfl,?_⟩
     walk_at "w"
     refine Cj hlen ?_
     exact ⟨rfl,rfl⟩
 | choice ss=>
   simp only [wf,Bool.and_eq_true,decide_eq_true_eq] at hwf
   rw [Sh.depth] at hs
   match d,hf,hlen with
   | .tup [.str o,.int k,x],hf,hlen=>
     simp only [AD,Bool.and_eq_true,decide_eq_true_eq] at hf
     obtain ⟨⟨ho,k0,k1⟩,hf⟩:=hf
     have hk:k.toNat < ss.length:=by lia
     have e1:ss[k.toNat]?=some ss[k.toNat]:=List.getElem?_eq_getElem hk
     have hl:=Es ss
     have e2:atI (shD ss) k=some (ss[k.toNat]).d:=by
      unfold atI
      rw [CT k0 (by lia)]
      show (shD ss)[k.toNat]?=_
      rw [Gw,e1];rfl
     rw [DK ss _ _ _ e1] at hf
     rw [BC] at hlen ⊢
     rw [E7 ss _ _ _ e1] at hlen ⊢
     rw [List.length_cons] at hlen
     rw [Sh.d]
     walk_at "w"
     refine Id ?_
     walk_at "w"
     refine Gy ?_
     walk_at "w"
     refine Jc e2 ?_
     walk_at "w"
     refine (hc _ (Nat.le_trans (DM ss _ _ e1) (Nat.le_of_succ_le_succ hs)) (EW hwf.2 _ (List.getElem_mem hk)) x hf (Nat.le_of_succ_le hlen)).use ⟨_,rfl,?_⟩
     walk_at "w"
     refine Cj (by simp only [List.length_cons,List.length_nil];lia) ?_
     exact ⟨rfl,rfl⟩
theorem JU (a:Int) (n:Nat):(rngL a n).length=n:=by simp [rngL]
theorem KL {a:Int} {n j:Nat} {d:D} {r:List D} (e:d :: r=(rngL a n).drop j):d = .int (a + j)/\r=(rngL a n).drop (j + 1)/\j < n:=by
 have hj:j < (rngL a n).length:=by
  rcases Nat.lt_or_ge j (rngL a n).length with h | h
  ·exact h
  ·rw [List.drop_eq_nil_of_le h] at e;cases e
 rw [List.drop_eq_getElem_cons hj] at e
 injection e with e1 e2
 rw [JU] at hj
 refine ⟨?_,e2,hj⟩
 rw [e1]
 simp [rngL]
noncomputable def sgs:Str:=" !\"#$ &'()*+,-./0123456789:;<=>?@ABCDEFGHIJKLMNOPQRSTUVWXYZ[\\]^_`abcdefghijklmnopqrstuvwxyz{|}~"
theorem Wd {c:Nat} (h:Ci c=true):atI sgs.cps.toList ((c:Int) - 32)=some c:=by
 have hl:sgs.cps.toList.length=95:=by decide +kernel
 have hall:(List.range 127).all (λc=>!Ci c || decide (sgs.cps.toList[c - 32]?=some c))=true:=by decide +kernel
 have h':=h
 simp only [Ci,Bool.and_eq_true,decide_eq_true_eq] at h'
 have:=List.all_eq_true.mp hall c (List.mem_range.mpr (by lia))
 rw [h,Bool.not_true,Bool.false_or,decide_eq_true_eq] at this
 rw [show ((c:Int) - 32)=((c - 32:Nat):Int) by lia]
 exact Kk this
section
variable {t:T} {P:D->T->Prop} {R:Out->T->Prop}
def Sd (h:D->M Out) (R:Out->T->Prop) (o:Out) (t1:T):Prop:=match o with
 | .ret (.exc n ds)=>n∈BW/\W (h (.exc n ds)) t1 R
 | o=>R o t1
theorem Y7 {b:M Out} {h:D->M Out} (w:W b t (Sd h R)):W (Fi b h) t R:=by
 obtain ⟨o,t1,e,q⟩:=w
 have rest:∀d,BR d=false->o = .ret d->W (Fi b h) t R:=λd hd ho=>by
  subst ho
  refine ⟨.ret d,t1,?_,?_⟩
  ·unfold Fi;rw [e];cases d <;> first | rfl | cases hd
  ·cases d <;> first | exact q | cases hd
 cases o with
 | next=>exact ⟨.next,t1,by unfold Fi;rw [e],q⟩
 | brk=>exact ⟨.brk,t1,by unfold Fi;rw [e],q⟩
 | cont=>exact ⟨.cont,t1,by unfold Fi;rw [e],q⟩
 | ret d=>
   cases d with
   | exc n ds=>
     obtain ⟨hn,o2,t2,e2,q2⟩:=q
     exact ⟨o2,t2,by unfold Fi;rw [e];dsimp only;rw [if_pos hn,e2],q2⟩
   | _=>exact rest _ rfl rfl
theorem QL {h:D->M Out} {t1:T} (q:R .next t1):Sd h R .next t1:=q
theorem UG {h:D->M Out} {n:Str} {ds:List D} {t1:T} (e:n∈BW) (q:W (h (.exc n ds)) t1 R):Sd h R (.ret (.exc n ds)) t1:=⟨e,q⟩
def xK (d:D) (A B:Prop):Prop:=if BR d=true then A else B
theorem XQ {d:D} {A B:Prop} (e:BR d=false) (b:B):xK d A B:=by unfold xK;rw [if_neg (by rw [e];decide)];exact b
theorem XO {d:D} {A B:Prop} (e:BR d=true) (a:A):xK d A B:=by unfold xK;rw [if_pos e];exact a
theorem XG {i:Nat} {f:M D} (w:W f t λd t1=>xK d (R (.ret d) t1) (R .next ⟨t1.env.set i (some (.val d)),t1.S⟩)):W (DL i f) t R:=by
 refine DA (w.mono λd t1 q=>?_)
 unfold xK at q
 split at q
 ·next h=>rw [if_pos h];exact ⟨_,_,rfl,q⟩
 ·next h=>rw [if_neg h];exact ⟨_,_,rfl,q⟩
theorem Xh {f:M D} {g:D->M Unit} (w:W f t λd t1=>xK d (R (.ret d) t1) (W (g d) t1 λ_ t2=>R .next t2)):W (Q4 f g) t R:=by
 refine DA (w.mono λd t1 q=>?_)
 unfold xK at q
 split at q
 ·next h=>rw [if_pos h];exact ⟨_,_,rfl,q⟩
 ·next h=>rw [if_neg h];exact DA (q.mono λ_ t2 q2=>⟨_,_,rfl,q2⟩)
theorem wNx {f:M D} (w:W f t λd t1=>BR d=false/\P d t1):W (nxD f) t P:=by
 refine DA (w.mono λd t1 ⟨h,q⟩=>?_)
 rw [if_neg (by rw [h];decide)]
 exact ⟨_,_,rfl,q⟩
theorem Xl {g:M D} {h:D->M D} (w:W g t λy t1=>xK y (P y t1) (W (h y) t1 λd t2=>BR d=false/\P d t2)):W (Kl g h) t P:=by
 refine DA (w.mono λy t1 q=>?_)
 unfold xK at q
 split at q
 ·next z=>rw [if_pos z];exact ⟨_,_,rfl,q⟩
 ·next z=>rw [if_neg z];exact wNx q
theorem Xj {f g:M D} {h:D->D->M D} (w:W f t λx t1=>W (Kl g (h x)) t1 P):W (Js f g h) t P:=DA w
theorem UN {n:Str} {f:M (List D)} (w:W f t λds t1=>ds.length<=1000/\R (.ret (.exc n [])) t1):W (Ht n f) t R:=
 DA (w.mono λds t1 ⟨e,q⟩=>by rw [if_pos e];exact ⟨_,_,rfl,q⟩)
theorem UP {n:Str} {f:M D} (w:W f t λ_ t1=>R (.ret (.exc n [])) t1):W (Ht n (Ac f Aj)) t R:=UN (D8 (w.mono λd t1 q=>Jd ⟨by show 1<=1000;decide,q⟩))
theorem YL {n n':Str} {ds:List D} {i:Nat} {s:M Out} {r:D->M Out} (e:DN n n'=true) (w:W s { t with env:=t.env.set i (some (.val (.exc n ds))) } λo t2=>R o (unE i t2)):W (hAs n' i s r (.exc n ds)) t R:=by
 obtain ⟨o,t2,e1,q⟩:=w
 exact ⟨o,unE i t2,by unfold hAs;dsimp only;rw [if_pos e,e1],q⟩
theorem YM {n n':Str} {ds:List D} {s:M Out} {r:D->M Out} (e:DN n n'=true) (w:W s t R):W (hNo n' s r (.exc n ds)) t R:=by
 obtain ⟨o,t2,e1,q⟩:=w
 exact ⟨o,t2,by unfold hNo;dsimp only;rw [if_pos e,e1],q⟩
theorem Xo {n n':Str} {ds:List D} {s:M Out} {r:D->M Out} (e:DN n n'=false) (w:W (r (.exc n ds)) t R):W (hNo n' s r (.exc n ds)) t R:=by
 obtain ⟨o,t2,e1,q⟩:=w
 exact ⟨o,t2,by unfold hNo;dsimp only;rw [if_neg (by rw [e];decide),e1],q⟩
theorem Xq {m n:Str} {ds:List D} (e:m∈BW) (q:P (.bl (DN m n)) t):W (Ea n (.exc m ds)) t P:=⟨_,_,by unfold Ea;dsimp only;rw [if_pos e];rfl,q⟩
theorem Xi {m n:Str} {ds:List D} {d:D} (e:m∈BW) (l:((Iz m).zip ds).lookup n=some d) (q:P d t):W (Hc n (.exc m ds)) t P:=⟨_,_,by unfold Hc;dsimp only;rw [if_pos e,l];rfl,q⟩
theorem WF {g:Fn} {ds:List D} {S:List Ob} {Q:D->List Ob->Prop} (w:Wf g ds S λr S'=>BR r=false/\Q r S'):Wf (Ky g) ds S Q:=by
 obtain ⟨r,S',e,h,q⟩:=w
 exact ⟨r,S',by unfold Ky;rw [e];dsimp only;rw [if_neg (by rw [h];decide)],q⟩
end
theorem UO {n:Str} {f g:M D} {t:T} {R:Out->T->Prop} (w:W f t λa t1=>W g t1 λb t2=>R (.ret (.exc n [a,b])) t2):W (EG n (Ac f (Ac g Aj))) t R:=
 DA (D8 (w.mono λa t1 q=>D8 (q.mono λb t2 q=>Jd ⟨_,_,rfl,q⟩)))
local macro_rules | `(tactic| walk_at "x1")=>`(tactic| first
 | walk_at "w1"
 | with_reducible refine Y7 ?_ | with_reducible refine XG ?_ | with_reducible refine wDropX ?_ | with_reducible refine Xh ?_ | with_reducible refine wNx ?_ | with_reducible refine Xj ?_ | with_reducible refine wBinY ?_ | with_reducible refine Xl ?_ | with_reducible refine wCallY ?_ | with_reducible refine QL ?_
 | ((with_reducible refine' UG ?wv ?_);(case wv=>decide)) | ((with_reducible refine' XQ ?wv ?_);(case wv=>exact rfl)) | ((with_reducible refine' XO ?wv ?_);(case wv=>exact rfl))
 | with_reducible refine wRaiseT ?_ | with_reducible refine UP ?_ | ((with_reducible refine' YL ?wv ?_);(case wv=>decide)) | ((with_reducible refine' wHAsN ?wv ?_);(case wv=>decide)) | ((with_reducible refine' YM ?wv ?_);(case wv=>decide)) | ((with_reducible refine' Xo ?wv ?_);(case wv=>decide))
 | ((with_reducible refine' Xq ?wv ?_);(case wv=>decide)) | with_reducible refine wIsiXN ?_ | ((with_reducible refine' Xi ?wv ?wu ?_);(case wv=>decide);(case wu=>exact rfl)))
local macro_rules | `(tactic| walk_at "x")=>`(tactic| repeat (walk_at "x1"))
inductive Rd where
 | done (v:D)
 | need (ok:Nat->Bool) (nx:Nat->Rd)
inductive RR where
 | told (v:D) (a:Nat)
 | short
 | broken (a:Nat)
noncomputable def Rd.run:Rd->List Nat->Nat->RR
 | .done v,_,a=>.told v a
 | .need ok nx,w,a=>match w[a]? with
   | none=>.short
   | some b=>if ok b=true then (nx b).run w (a + 1) else .broken a
noncomputable def Rd.bnd:Rd->(D->Rd)->Rd
 | .done v,k=>k v
 | .need ok nx,k=>.need ok λb=>(nx b).bnd k
def RR.thn (r:RR) (w:List Nat) (k:D->Rd):RR:=match r with
 | .told v a=>(k v).run w a
 | .short=>.short
 | .broken a=>.broken a
theorem Cs {ok:Nat->Bool} {nx:Nat->Rd} {w:List Nat} {a:Nat} (h:w[a]?=none):(Rd.need ok nx).run w a = .short:=by rw [Rd.run,h]
theorem Ct {ok:Nat->Bool} {nx:Nat->Rd} {w:List Nat} {a b:Nat} (h:w[a]?=some b):(Rd.need ok nx).run w a=if ok b=true then (nx b).run w (a + 1) else .broken a:=by rw [Rd.run,h]
theorem En (k:D->Rd) (w:List Nat):∀(p:Rd) (a:Nat),(p.bnd k).run w a=(p.run w a).thn w k:=by
 intro p
 induction p with
 | done v=>intro a;rfl
 | need ok nx ih=>
   intro a
   rw [Rd.bnd]
   cases h:w[a]? with
   | none=>rw [Cs h,Cs h];rfl
   | some b=>
     rw [Ct h,Ct h]
     by_cases q:ok b=true
     ·rw [if_pos q,if_pos q];exact ih b (a + 1)
     ·rw [if_neg q,if_neg q];rfl
theorem EV {v:D} {w:List Nat} {b:Nat}:∀(p:Rd) (a:Nat),a<=w.length->p.run w a = .told v b->a<=b/\b<=w.length:=by
 intro p
 induction p with
 | done v'=>intro a ha h;cases h;exact ⟨Nat.le_refl _,ha⟩
 | need ok nx ih=>
   intro a ha h
   cases e:w[a]? with
   | none=>rw [Cs e] at h;cases h
   | some c=>
     rw [Ct e] at h
     have hl:=(List.getElem?_eq_some_iff.mp e).1
     by_cases q:ok c=true
     ·rw [if_pos q] at h;have:=ih c (a + 1) hl h;lia
     ·rw [if_neg q] at h;cases h
def Rd.good:Rd->Prop
 | .done _=>True
 | .need ok nx=>(ok 0=true\/ok 32=true)/\∀b,ok b=true->(nx b).good
noncomputable def Gd (lo:Int) (M:Nat):Nat->Nat->Rd
 | 0,x=>.done (.int (lo + x))
 | r + 1,x=>.need (λb=>decide (x * 256 + b<=M / 2 ^ (8 * r))) λb=>Gd lo M r (x * 256 + b)
def GV:Nat->List Nat->Rd
 | 0,cs=>.done (.str ⟨cs.toArray⟩)
 | n + 1,cs=>.need Ci λc=>GV n (cs++[c])
def Gc (p:Rd):Nat->List D->Rd
 | 0,ds=>.done (.lst ds)
 | n + 1,ds=>p.bnd λv=>Gc p n (ds++[v])
def pSh:Nat->Sh->Rd
 | 0,_=>.done .non
 | _ + 1,.nothing=>.done .non
 | _ + 1,.number lo hi=>Gd lo (hi - lo).toNat (wid (hi - lo).toNat) 0
 | _ + 1,.text q=>.need (λb=>decide ((b:Int)<=q)) λb=>GV b []
 | n + 1,.list s q=>.need (λb=>decide ((b:Int)<=q)) λb=>Gc (pSh n s) b []
 | n + 1,.pair s r=>(pSh n s).bnd λv=>(pSh n r).bnd λu=>.done (.tup [v,u])
 | n + 1,.choice ss=>.need (λb=>decide (b < ss.length)) λb=>(pSh n (ss.getD b .nothing)).bnd λv=>.done (.tup [.str "of",.int b,v])
mutual
noncomputable def plD:D->Bool
 | .lst xs=>pls xs
 | .tup xs=>pls xs
 | .obj _=>false
 | .scr _=>false
 | .ty _=>false
 | .exc _ _=>false
 | .dic=>false
 | _=>true
noncomputable def pls:List D->Bool
 | []=>true
 | d :: r=>plD d && pls r
end
noncomputable def pos (i:Int):Int:=if 0 < i then i else 0
structure ValueRes2 (k c l:Nat) (S:List Ob) (s:Sh) (a b:Int) (r:D) (S':List Ob):Prop where
 fit:AD s r=true
 lft:∃a' b':Int,S'[l]?=some (.lst [.int a',.int b'])/\((BC s r).length:Int)<=9 * (a - a') + (pos b - pos b')/\pos b'<=pos b/\1<=a - a'/\a - a'<=cnt s + (14 * (s.depth:Int)) * pos a
 deck:DeckAt k c S'
 kp:Om k c l S S'
mutual
noncomputable def szE:D->Nat
 | .lst xs=>1 + Sa xs
 | .tup xs=>1 + Sa xs
 | _=>1
noncomputable def Sa:List D->Nat
 | []=>0
 | d :: r=>szE d + Sa r
end
structure VOk (s:Sh) (v:D):Prop where
 fit:AD s v=true
 len:(BC s v).length<=14809
local macro_rules | `(tactic| walk_at "y1")=>`(tactic| first | walk_at "x1" | with_reducible refine UO ?_)
local macro_rules | `(tactic| walk_at "y")=>`(tactic| repeat (walk_at "y1"))
noncomputable def wD (w:List Nat):List D:=w.map λ(n:Nat)=>D.int (n:Int)
theorem Cg (w:List Nat):(wD w).length=w.length:=by unfold wD;rw [List.length_map]
theorem Nw {w:List Nat} {a b:Nat} (h:w[a]?=some b):(wD w)[a]?=some (.int (b:Int)):=by unfold wD;rw [List.getElem?_map,h];rfl
abbrev exS:D:=.exc "Short" []
abbrev exB (a:Nat):D:=.exc "Broken" [.int (a:Int),.non]
noncomputable def rrD:RR->D
 | .told v b=>.tup [v,.int (b:Int)]
 | .short=>exS
 | .broken a=>exB a
noncomputable def byX:Option Nat->D
 | none=>exS
 | some b=>.int (b:Int)
noncomputable def upX (m:Int) (a:Nat):Option Nat->D
 | none=>exS
 | some b=>if (b:Int)<=m then .int (b:Int) else exB a
def sgX (a:Nat):Option Nat->D
 | none=>exS
 | some c=>if Ci c=true then .str ⟨#[c]⟩ else exB a
def BX (f:Fn):Prop:=∀(w:List Nat) (a:Nat),Pure1 f [.lst (wD w),.int (a:Int)] (byX w[a]?)
theorem WG:BX (fnOf 2 2 EC):=by
 intro w a S
 refine AY rfl ?_
 unfold EC
 have hl:=Cg w
 cases h:w[a]? with
 | none=>
   have:=List.getElem?_eq_none_iff.mp h
   walk_at "y"
   refine Fc (decide_eq_true (by lia)) ?_
   walk_at "y"
   exact ⟨rfl,rfl⟩
 | some b=>
   obtain ⟨hj,_⟩:=List.getElem?_eq_some_iff.mp h
   walk_at "y"
   refine Gb (decide_eq_false (by lia)) ?_
   walk_at "y"
   refine B0 (Kk (Nw h)) ?_
   exact ⟨rfl,rfl,rfl⟩
def UX (f:Fn):Prop:=∀(m:Int) (w:List Nat) (a:Nat),Pure1 f [.int m,.lst (wD w),.int (a:Int)] (upX m a w[a]?)
theorem Xb {c:Fn} (hc:BX c):UX (fnOf 3 4 (DB c)):=by
 intro m w a S
 refine AY rfl ?_
 unfold DB
 have hb:=hc w a
 cases h:w[a]? with
 | none=>
   rw [h,byX] at hb
   walk_at "y"
   refine hb.use ?_
   walk_at "y"
   exact ⟨rfl,rfl⟩
 | some b=>
   rw [h,byX] at hb
   walk_at "y"
   refine hb.use ?_
   walk_at "y"
   rw [upX]
   by_cases q:(b:Int)<=m
   ·rw [if_pos q]
    refine Gb (decide_eq_false (by lia)) ?_
    walk_at "y"
    exact ⟨rfl,rfl,rfl⟩
   ·rw [if_neg q]
    refine Fc (decide_eq_true (by lia)) ?_
    walk_at "y"
    exact ⟨rfl,rfl⟩
def SX (f:Fn):Prop:=∀(w:List Nat) (a:Nat),Pure1 f [.lst (wD w),.int (a:Int)] (sgX a w[a]?)
theorem W1 {cs cb:Fn} (hs:Jg cs) (hb:BX cb):SX (fnOf 2 3 (EE cs cb)):=by
 intro w a S
 refine AY rfl ?_
 unfold EE
 have hb:=hb w a
 cases h:w[a]? with
 | none=>
   rw [h,byX] at hb
   walk_at "y"
   refine hb.use ?_
   walk_at "y"
   exact ⟨rfl,rfl⟩
 | some c=>
   rw [h,byX] at hb
   walk_at "y"
   refine hb.use ?_
   walk_at "y"
   refine (hs c).use ?_
   rw [sgX]
   by_cases q:Ci c=true
   ·rw [if_pos q,q]
    walk_at "y"
    refine W_ix_str.mpr ⟨by decide +kernel,c,Wd q,?_⟩
    exact ⟨rfl,rfl,rfl⟩
   ·have q':Ci c=false:=by simpa using q
    rw [if_neg q,q']
    walk_at "y"
    exact ⟨rfl,rfl⟩
theorem WZ {cl cb cw:Fn} (hl:G9 cl) (hb:BX cb) (hw:Jh cw) {lo hi:Int} (hwf:wf (.number lo hi)=true) (w:List Nat) (a:Nat):Pure1 (fnOf 3 7 (CL cl cb cw)) [(Sh.number lo hi).d,.lst (wD w),.int (a:Int)] (rrD ((Gd lo (hi - lo).toNat (wid (hi - lo).toNat) 0).run w a)):=by
 intro S
 have hsp:=Og hwf
 have hwd:=Kf 9 _ hsp
 refine AY rfl ?_
 unfold CL
 rw [Sh.d]
 have em:hi - lo=(((hi - lo).toNat:Nat):Int):=by
  simp only [wf,Bool.and_eq_true,decide_eq_true_eq] at hwf
  lia
 have hww:=λS P p=>(hw (hi - lo).toNat hsp).use (S:=S) (P:=P) p
 rw [<-em] at hww
 generalize (hi - lo).toNat=M at *
 generalize hW:wid M=n at *
 walk_at "y"
 refine hww _ _ ?_
 rw [em]
 walk_at "y"
 refine Fj (C6 (by lia) (by lia)) ?_
 refine Dk (λr t=>∃(j x:Nat) (e6:Option Sl),j<=n/\r=(rngL 0 ((n:Nat):Int).toNat).drop j/\(Gd lo M n 0).run w a=(Gd lo M (n - j) x).run w (a + j)/\t=⟨[some (.val (.tup [.str "number",.int lo,.int hi])),some (.val (.lst (wD w))),some (.val (.int a)),some (.val (.int M)),some (.val (.int n)),some (.val (.int x)),e6],S⟩) _ _ ⟨0,0,none,Nat.zero_le _,rfl,rfl,rfl⟩ ?_ ?_
 ·rintro d r t ⟨j,x,e6,hj,hr,hrun,rfl⟩ _
  obtain ⟨rfl,hr',hjn⟩:=KL hr
  rw [Int.toNat_natCast] at hjn
  rw [Int.zero_add]
  obtain ⟨e,he⟩:∃e,n - j=e + 1:=⟨n - j - 1,by lia⟩
  rw [he,Gd] at hrun
  have hby:=hb w (a + j)
  walk_at "y"
  refine Ib (TQ (by decide) (by decide)) ?_
  walk_at "y"
  rw [show ((a:Int) + (j:Int))=((a + j:Nat):Int) by lia]
  cases h:w[a + j]? with
  | none=>
    rw [h,byX] at hby
    rw [Cs h] at hrun
    refine hby.use ?_
    walk_at "y"
    exact ⟨by rw [hrun];rfl,rfl⟩
  | some b=>
    rw [h,byX] at hby
    rw [Ct h] at hrun
    refine hby.use ?_
    walk_at "y"
    refine ⟨rfl,?_⟩
    walk_at "y"
    rw [show ((n:Int) - 1 - (j:Int))=((e:Nat):Int) by lia,show ((x:Int) * 256 + (b:Int))=((x * 256 + b:Nat):Int) by lia]
    refine (hl M e (by lia)).use ?_
    walk_at "y"
    by_cases q:x * 256 + b<=M / 2 ^ (8 * e)
    ·rw [if_pos (decide_eq_true q)] at hrun
     refine Gb (decide_eq_false (by lia)) ?_
     walk_at "y"
     exact ⟨j + 1,x * 256 + b,_,hjn,hr',by rw [show n - (j + 1)=e by lia,hrun,Nat.add_assoc],rfl⟩
    ·rw [if_neg (by rw [decide_eq_true_eq];exact q)] at hrun
     refine Fc (decide_eq_true (by lia)) ?_
     walk_at "y"
     exact ⟨by rw [hrun];rfl,rfl⟩
 ·rintro t ⟨j,x,e6,hj,hr,hrun,rfl⟩
  have hj':j=n:=by
   have:=congrArg List.length hr
   rw [List.length_nil,List.length_drop,JU,Int.toNat_natCast] at this
   lia
  subst hj'
  rw [Nat.sub_self,Gd,Rd.run] at hrun
  walk_at "y"
  exact ⟨rfl,by rw [hrun];rfl,rfl⟩
theorem V8 {ca cu:Fn} (ha:SX ca) (hu:UX cu) {q:Int} (hwf:wf (.text q)=true) (n:Nat) (w:List Nat) (a:Nat):Pure1 (fnOf 3 7 (Di ca cu)) [(Sh.text q).d,.lst (wD w),.int (a:Int)] (rrD ((pSh (n + 1) (.text q)).run w a)):=by
 intro S
 have hL:LIM=100000:=rfl
 refine AY rfl ?_
 unfold Di
 rw [Sh.d,pSh]
 simp only [wf,Bool.and_eq_true,decide_eq_true_eq] at hwf
 have hup:=hu q w a
 walk_at "y"
 cases h:w[a]? with
 | none=>
   rw [h,upX] at hup
   rw [Cs h]
   refine hup.use ?_
   walk_at "y"
   exact ⟨rfl,rfl⟩
 | some b=>
   rw [h,upX] at hup
   rw [Ct h]
   by_cases hb:(b:Int)<=q
   ·rw [if_pos hb] at hup
    rw [if_pos (decide_eq_true hb)]
    refine hup.use ?_
    walk_at "y"
    refine Fj (C6 (by lia) (by lia)) ?_
    refine Dk (λr t=>∃(j:Nat) (y:Str) (e6:Option Sl),j<=b/\r=(rngL 0 ((b:Nat):Int).toNat).drop j/\y.cps.toList.length=j/\(GV b []).run w (a + 1)=(GV (b - j) y.cps.toList).run w (a + 1 + j)/\t=⟨[some (.val (.tup [.str "text",.int q])),some (.val (.lst (wD w))),some (.val (.int a)),some (.val (.int b)),some (.val (.int ((a:Int) + 1))),some (.val (.str y)),e6],S⟩) _ _ ⟨0,Str.ofString "",none,Nat.zero_le _,rfl,by decide +kernel,by rw [Nat.sub_zero,Nat.add_zero,show (Str.ofString "").cps.toList=[] by decide +kernel],rfl⟩ ?_ ?_
    ·rintro d r t ⟨j,y,e6,hj,hr,hyl,hrun,rfl⟩ _
     obtain ⟨rfl,hr',hjn⟩:=KL hr
     rw [Int.toNat_natCast] at hjn
     rw [Int.zero_add]
     obtain ⟨e,he⟩:∃e,b - j=e + 1:=⟨b - j - 1,by lia⟩
     rw [he,GV] at hrun
     have hsg:=ha w (a + 1 + j)
     walk_at "y"
     rw [show ((a:Int) + 1 + (j:Int))=((a + 1 + j:Nat):Int) by lia]
     cases h2:w[a + 1 + j]? with
     | none=>
       rw [h2,sgX] at hsg
       rw [Cs h2] at hrun
       refine hsg.use ?_
       walk_at "y"
       exact ⟨by rw [hrun];rfl,rfl⟩
     | some c=>
       rw [h2,sgX] at hsg
       rw [Ct h2] at hrun
       by_cases hc:Ci c=true
       ·rw [if_pos hc] at hsg hrun
        refine hsg.use ?_
        walk_at "y"
        refine Cj (by rw [El y,hyl,hL];show j + 1<=_;lia) ?_
        refine ⟨rfl,?_⟩
        walk_at "y"
        refine ⟨j + 1,_,_,hjn,hr',?_,?_,rfl⟩
        ·rw [FV,List.length_append,hyl];rfl
        ·rw [hrun,FV,show b - (j + 1)=e by lia,Nat.add_assoc (a + 1)]
       ·rw [if_neg hc] at hsg hrun
        refine hsg.use ?_
        walk_at "y"
        exact ⟨by rw [hrun];rfl,rfl⟩
    ·rintro t ⟨j,y,e6,hj,hr,hyl,hrun,rfl⟩
     have hj':j=b:=by
      have:=congrArg List.length hr
      rw [List.length_nil,List.length_drop,JU,Int.toNat_natCast] at this
      lia
     subst hj'
     rw [Nat.sub_self,GV,Rd.run] at hrun
     have ey:(⟨y.cps.toList.toArray⟩:Str)=y:=UE (by simp)
     rw [ey] at hrun
     walk_at "y"
     refine ⟨rfl,?_,rfl⟩
     rw [hrun,rrD,show ((a:Int) + 1 + (j:Int))=((a + 1 + j:Nat):Int) by lia]
   ·rw [if_neg hb] at hup
    rw [if_neg (by rw [decide_eq_true_eq];exact hb)]
    refine hup.use ?_
    walk_at "y"
    exact ⟨rfl,rfl⟩
def RX (c:Fn) (s:Sh) (p:Rd):Prop:=∀(w:List Nat) (a:Nat),a<=w.length->Pure1 c [s.d,.lst (wD w),.int (a:Int)] (rrD (p.run w a))
theorem V6 {c cu:Fn} {s:Sh} {p:Rd} {q:Int} (hu:UX cu) (hq2:q<=250) (hc:RX c s p) (w:List Nat) (a:Nat):Pure1 (fnOf 3 8 (Dg c cu)) [(Sh.list s q).d,.lst (wD w),.int (a:Int)] (rrD ((Rd.need (λb=>decide ((b:Int)<=q)) λb=>Gc p b []).run w a)):=by
 intro S
 have hL:LIM=100000:=rfl
 refine AY rfl ?_
 unfold Dg
 rw [Sh.d]
 have hup:=hu q w a
 walk_at "y"
 cases h:w[a]? with
 | none=>
   rw [h,upX] at hup
   rw [Cs h]
   refine hup.use ?_
   walk_at "y"
   exact ⟨rfl,rfl⟩
 | some b=>
   have hal:=(List.getElem?_eq_some_iff.mp h).1
   rw [h,upX] at hup
   rw [Ct h]
   by_cases hb:(b:Int)<=q
   ·rw [if_pos hb] at hup
    rw [if_pos (decide_eq_true hb)]
    refine hup.use ?_
    walk_at "y"
    refine Fj (C6 (by lia) (by lia)) ?_
    refine Dk (λr t=>∃(j a':Nat) (ds:List D) (e6 e7:Option Sl),j<=b/\r=(rngL 0 ((b:Nat):Int).toNat).drop j/\ds.length=j/\a'<=w.length/\(Gc p b []).run w (a + 1)=(Gc p (b - j) ds).run w a'/\t=⟨[some (.val (.tup [.str "list",s.d,.int q])),some (.val (.lst (wD w))),some (.val (.int a)),some (.val (.int b)),some (.val (.int (a':Int))),some (.own ds),e6,e7],S⟩) _ _ ⟨0,a + 1,[],none,none,Nat.zero_le _,rfl,rfl,hal,rfl,rfl⟩ ?_ ?_
    ·rintro d r t ⟨j,a',ds,e6,e7,hj,hr,hdl,ha',hrun,rfl⟩ _
     obtain ⟨rfl,hr',hjn⟩:=KL hr
     rw [Int.toNat_natCast] at hjn
     obtain ⟨e,he⟩:∃e,b - j=e + 1:=⟨b - j - 1,by lia⟩
     rw [he,Gc,En] at hrun
     have hcc:=hc w a' ha'
     cases h2:p.run w a' with
     | short=>
       rw [h2] at hrun hcc
       walk_at "y"
       refine hcc.use ?_
       rw [rrD]
       walk_at "y"
       exact ⟨by rw [hrun];rfl,rfl⟩
     | broken k=>
       rw [h2] at hrun hcc
       walk_at "y"
       refine hcc.use ?_
       rw [rrD]
       walk_at "y"
       exact ⟨by rw [hrun];rfl,rfl⟩
     | told v a2=>
       have hle:=EV p a' ha' h2
       rw [h2] at hrun hcc
       walk_at "y"
       refine hcc.use ?_
       rw [rrD]
       walk_at "y"
       refine Cj (by rw [hdl,hL];lia) ?_
       walk_at "y"
       exact ⟨j + 1,a2,ds++[v],_,_,hjn,hr',by rw [List.length_append,hdl];rfl,hle.2,by rw [hrun,show b - (j + 1)=e by lia];rfl,rfl⟩
    ·rintro t ⟨j,a',ds,e6,e7,hj,hr,hdl,ha',hrun,rfl⟩
     have hj':j=b:=by
      have:=congrArg List.length hr
      rw [List.length_nil,List.length_drop,JU,Int.toNat_natCast] at this
      lia
     subst hj'
     rw [Nat.sub_self,Gc,Rd.run] at hrun
     walk_at "y"
     exact ⟨rfl,by rw [hrun];rfl,rfl⟩
   ·rw [if_neg hb] at hup
    rw [if_neg (by rw [decide_eq_true_eq];exact hb)]
    refine hup.use ?_
    walk_at "y"
    exact ⟨rfl,rfl⟩
theorem V7 {c:Fn} {s r:Sh} {p p':Rd} (hs:RX c s p) (hr:RX c r p') (w:List Nat) (a:Nat) (ha:a<=w.length):Pure1 (fnOf 3 5 (Dh c)) [(Sh.pair s r).d,.lst (wD w),.int (a:Int)] (rrD ((p.bnd λv=>p'.bnd λu=>.done (.tup [v,u])).run w a)):=by
 intro S
 refine AY rfl ?_
 unfold Dh
 rw [Sh.d,En]
 have h1:=hs w a ha
 cases e1:p.run w a with
 | short=>
   rw [e1] at h1
   walk_at "y"
   refine h1.use ?_
   rw [rrD]
   walk_at "y"
   exact ⟨rfl,rfl⟩
 | broken k=>
   rw [e1] at h1
   walk_at "y"
   refine h1.use ?_
   rw [rrD]
   walk_at "y"
   exact ⟨rfl,rfl⟩
 | told v a'=>
   have hle:=EV p a ha e1
   rw [e1] at h1
   have h2:=hr w a' hle.2
   rw [RR.thn,En]
   walk_at "y"
   refine h1.use ?_
   rw [rrD]
   walk_at "y"
   refine h2.use ?_
   cases e2:p'.run w a' with
   | short=>rw [rrD];walk_at "y";exact ⟨rfl,rfl⟩
   | broken k=>rw [rrD];walk_at "y";exact ⟨rfl,rfl⟩
   | told u a2=>rw [rrD];walk_at "y";exact ⟨rfl,rfl,rfl⟩
theorem R6 {c cu:Fn} {ss:List Sh} {p:Nat->Rd} (hu:UX cu) (hc:∀(k:Nat) (h:k < ss.length),RX c ss[k] (p k)) (w:List Nat) (a:Nat):Pure1 (fnOf 3 5 (CK c cu)) [(Sh.choice ss).d,.lst (wD w),.int (a:Int)] (rrD ((Rd.need (λb=>decide (b < ss.length)) λb=>(p b).bnd λv=>.done (.tup [.str "of",.int b,v])).run w a)):=by
 intro S
 refine AY rfl ?_
 unfold CK
 rw [Sh.d]
 have hup:=hu ((ss.length:Int) - 1) w a
 walk_at "y"
 rw [Es]
 refine hup.use ?_
 cases h:w[a]? with
 | none=>
   rw [Cs h,upX]
   walk_at "y"
   exact ⟨rfl,rfl⟩
 | some b=>
   have hal:=(List.getElem?_eq_some_iff.mp h).1
   rw [Ct h,upX]
   by_cases hb:b < ss.length
   ·rw [if_pos (show (b:Int)<=(ss.length:Int) - 1 by lia),if_pos (decide_eq_true hb),En]
    have e0:ss[b]?=some ss[b]:=List.getElem?_eq_getElem hb
    have hsd:atI (shD ss) (b:Int)=some ss[b].d:=Kk (by rw [Gw,e0];rfl)
    have h2:=hc b hb w (a + 1) hal
    walk_at "y"
    refine Jc hsd ?_
    walk_at "y"
    rw [show ((a:Int) + 1)=((a + 1:Nat):Int) by lia]
    refine h2.use ?_
    cases e2:(p b).run w (a + 1) with
    | short=>rw [rrD];walk_at "y";exact ⟨rfl,rfl⟩
    | broken k=>rw [rrD];walk_at "y";exact ⟨rfl,rfl⟩
    | told u a2=>rw [rrD];walk_at "y";exact ⟨rfl,rfl,rfl⟩
   ·rw [if_neg (show ¬(b:Int)<=(ss.length:Int) - 1 by lia),if_neg (by rw [decide_eq_true_eq];exact hb)]
    walk_at "y"
    exact ⟨rfl,rfl⟩
def HG (f:Fn) (n:Nat):Prop:=∀s:Sh,s.depth<=n->wf s=true->RX f s (pSh n s)
theorem R7 {cc cp cl ct cn:Fn} {n:Nat} (hn:∀lo hi,wf (.number lo hi)=true->RX cn (.number lo hi) (pSh (n + 1) (.number lo hi))) (ht:∀q,wf (.text q)=true->RX ct (.text q) (pSh (n + 1) (.text q)))
 (hl:∀s q,q<=250->s.depth<=n->wf s=true->RX cl (.list s q) (pSh (n + 1) (.list s q))) (hp:∀s r,s.depth<=n->r.depth<=n->wf s=true->wf r=true->RX cp (.pair s r) (pSh (n + 1) (.pair s r)))
 (hc:∀ss:List Sh,(∀(k:Nat) (h:k < ss.length),ss[k].depth<=n/\wf ss[k]=true)->RX cc (.choice ss) (pSh (n + 1) (.choice ss))):HG (fnOf 3 4 (C1 cc cp cl ct cn)) (n + 1):=by
 intro s hs hwf w a ha S
 refine AY rfl ?_
 unfold C1
 cases s with
 | nothing=>
   rw [Sh.d,pSh,Rd.run,rrD]
   walk_at "y"
   exact ⟨rfl,rfl,rfl⟩
 | number lo hi=>
   have h:=hn lo hi hwf w a ha
   rw [Sh.d] at h ⊢
   walk_at "y"
   exact h.use ⟨rfl,rfl⟩
 | text q=>
   have h:=ht q hwf w a ha
   rw [Sh.d] at h ⊢
   walk_at "y"
   exact h.use ⟨rfl,rfl⟩
 | list s q=>
   simp only [wf,Bool.and_eq_true,decide_eq_true_eq] at hwf
   rw [Sh.depth] at hs
   have h:=hl s q hwf.1.2 (by lia) hwf.2 w a ha
   rw [Sh.d] at h ⊢
   walk_at "y"
   exact h.use ⟨rfl,rfl⟩
 | pair s r=>
   simp only [wf,Bool.and_eq_true] at hwf
   rw [Sh.depth] at hs
   have h:=hp s r (by lia) (by lia) hwf.1 hwf.2 w a ha
   rw [Sh.d] at h ⊢
   walk_at "y"
   exact h.use ⟨rfl,rfl⟩
 | choice ss=>
   simp only [wf,Bool.and_eq_true,decide_eq_true_eq] at hwf
   rw [Sh.depth] at hs
   have h:=hc ss (λk hk=>⟨Nat.le_trans (DM ss _ _ (List.getElem?_eq_getElem hk)) (by lia),EW hwf.2 _ (List.getElem_mem hk)⟩) w a ha
   rw [Sh.d] at h ⊢
   walk_at "y"
   exact h.use ⟨rfl,rfl⟩
theorem Qy {cn:Fn} {n:Nat} {c cu ca cl' cb cw cc cp cl ct:Fn} (e1:cc=fnOf 3 5 (CK c cu)) (e2:cp=fnOf 3 5 (Dh c)) (e3:cl=fnOf 3 8 (Dg c cu)) (e4:ct=fnOf 3 7 (Di ca cu)) (e5:cn=fnOf 3 7 (CL cl' cb cw))
 (hu:UX cu) (ha:SX ca) (hl':G9 cl') (hb:BX cb) (hw:Jh cw) (hc:HG c n):HG (fnOf 3 4 (C1 cc cp cl ct cn)) (n + 1):=by
 subst e1 e2 e3 e4 e5
 refine R7 (λlo hi h w a _=>?_) (λq h w a _=>V8 ha hu h n w a) (λs q h2 hd h w a _=>?_) (λs r d1 d2 w1 w2 w a ha=>?_) λss h w a _=>?_
 ·rw [pSh];exact WZ hl' hb hw h w a
 ·rw [pSh];exact V6 hu h2 (hc s hd h) w a
 ·rw [pSh];exact V7 (hc s d1 w1) (hc r d2 w2) w a ha
 ·rw [pSh]
  refine R6 hu (p:=λb=>pSh n (ss.getD b .nothing)) (λk hk=>?_) w a
  show RX c ss[k] (pSh n (ss.getD k .nothing))
  rw [List.getD_eq_getElem?_getD,List.getElem?_eq_getElem hk,Option.getD_some]
  exact hc _ (h k hk).1 (h k hk).2
noncomputable def seg (w:List Nat) (a b:Nat):List Nat:=(w.drop a).take (b - a)
theorem G0 (w:List Nat) (a:Nat):seg w a a=[]:=by unfold seg;rw [Nat.sub_self,List.take_zero]
theorem FP {w:List Nat} {a b x:Nat} (h:w[a]?=some x) (hb:a + 1<=b):seg w a b=x :: seg w (a + 1) b:=by
 obtain ⟨hl,e⟩:=List.getElem?_eq_some_iff.mp h
 unfold seg
 rw [List.drop_eq_getElem_cons hl,e,show b - a=(b - (a + 1)) + 1 by lia,List.take_succ_cons]
theorem Oe {w:List Nat} {a c b:Nat} (h1:a<=c) (h2:c<=b):seg w a b=seg w a c++seg w c b:=by
 unfold seg
 rw [show b - a=(c - a) + (b - c) by lia,List.take_add,List.drop_drop,show a + (c - a)=c by lia]
theorem D0 (x y:List Nat):wD (x++y)=wD x++wD y:=by unfold wD;rw [List.map_append]
theorem Ia (x:Nat) (y:List Nat):wD (x :: y) = .int (x:Int) :: wD y:=rfl
theorem N4:∀(r y:Nat),nb (r + 1) y = .int ((y / 256 ^ r % 256:Nat):Int) :: nb r y
 | 0,y=>by rw [nb,nb,nb,Nat.pow_zero,Nat.div_one];rfl
 | r + 1,y=>by
   rw [show nb (r + 1 + 1) y=nb (r + 1) (y / 256)++[.int ((y % 256:Nat):Int)] from rfl,N4 r (y / 256),List.cons_append,show nb (r + 1) y=nb r (y / 256)++[.int ((y % 256:Nat):Int)] from rfl,Nat.div_div_eq_div_mul,show 256 * 256 ^ r=256 ^ (r + 1) by rw [Nat.pow_succ,Nat.mul_comm]]
theorem M2 {lo:Int} {M:Nat} {w:List Nat} (hw:∀x∈w,x < 256) {v:D} {b:Nat}:∀(r x a:Nat),(Gd lo M r x).run w a = .told v b->∃y:Nat,v = .int (lo + y)/\y / 256 ^ r=x/\(x<=M / 2 ^ (8 * r)->y<=M)/\nb r y=wD (seg w a b)/\b=a + r
 | 0,x,a,h=>by
   rw [Gd,Rd.run] at h
   cases h
   exact ⟨x,rfl,by rw [Nat.pow_zero,Nat.div_one],(λh=>by rw [Nat.mul_zero,Nat.pow_zero,Nat.div_one] at h;exact h),by rw [G0,nb];rfl,rfl⟩
 | r + 1,x,a,h=>by
   rw [Gd] at h
   cases e:w[a]? with
   | none=>rw [Cs e] at h;cases h
   | some c=>
     rw [Ct e] at h
     have hc:=hw c (List.mem_of_getElem? e)
     by_cases q:x * 256 + c<=M / 2 ^ (8 * r)
     ·rw [if_pos (decide_eq_true q)] at h
      obtain ⟨y,h1,h2,h3,h4,h5⟩:=M2 hw r _ _ h
      refine ⟨y,h1,?_,λ_=>h3 q,?_,by lia⟩
      ·rw [Nat.pow_succ,<-Nat.div_div_eq_div_mul,h2];lia
      ·rw [N4,h2,FP e (by lia),Ia,h4]
       congr 3
       lia
     ·rw [if_neg (by rw [decide_eq_true_eq];exact q)] at h;cases h
theorem Nm {w:List Nat} {v:D} {b:Nat}:∀(n:Nat) (cs:List Nat) (a:Nat),(GV n cs).run w a = .told v b->v = .str ⟨(cs++seg w a b).toArray⟩/\(seg w a b).length=n/\(∀c∈seg w a b,Ci c=true)/\b=a + n
 | 0,cs,a,h=>by
   rw [GV,Rd.run] at h
   cases h
   rw [G0,List.append_nil]
   exact ⟨rfl,rfl,(λc z=>nomatch z),rfl⟩
 | n + 1,cs,a,h=>by
   rw [GV] at h
   cases e:w[a]? with
   | none=>rw [Cs e] at h;cases h
   | some c=>
     rw [Ct e] at h
     by_cases q:Ci c=true
     ·rw [if_pos q] at h
      obtain ⟨h1,h2,h3,h4⟩:=Nm n _ _ h
      rw [FP e (by lia)]
      refine ⟨by rw [h1,List.append_assoc];rfl,by rw [List.length_cons,h2],λx hx=>?_,by lia⟩
      rcases List.mem_cons.mp hx with rfl | hx
      ·exact q
      ·exact h3 x hx
     ·rw [if_neg q] at h;cases h
theorem MX {w:List Nat} {s:Sh} {p:Rd} (hp:∀(a b:Nat) (v:D),a<=w.length->p.run w a = .told v b->AD s v=true/\BC s v=wD (seg w a b)) {v:D} {b:Nat}:∀(n:Nat) (ds:List D) (a:Nat),a<=w.length->(Gc p n ds).run w a = .told v b->∃es,v = .lst (ds++es)/\es.length=n/\(∀e∈es,AD s e=true)/\(es.map λd=>BC s d).flatten=wD (seg w a b)/\a<=b
 | 0,ds,a,_,h=>by
   rw [Gc,Rd.run] at h
   cases h
   exact ⟨[],by rw [List.append_nil],rfl,(λe z=>nomatch z),by rw [G0];rfl,Nat.le_refl _⟩
 | n + 1,ds,a,ha,h=>by
   rw [Gc,En] at h
   cases e:p.run w a with
   | short=>rw [e] at h;cases h
   | broken k=>rw [e] at h;cases h
   | told u a'=>
     rw [e,RR.thn] at h
     have hle:=EV p a ha e
     have hu:=hp a a' u ha e
     obtain ⟨es,h1,h2,h3,h4,h5⟩:=MX hp n _ _ hle.2 h
     refine ⟨u :: es,by rw [h1,List.append_assoc];rfl,by rw [List.length_cons,h2],λx hx=>?_,?_,by lia⟩
     ·rcases List.mem_cons.mp hx with rfl | hx
      ·exact hu.1
      ·exact h3 x hx
     ·rw [List.map_cons,List.flatten_cons,h4,hu.2,Oe hle.1 h5,D0]
theorem Nj:∀(n:Nat) (s:Sh),s.depth<=n->wf s=true->∀(w:List Nat),(∀x∈w,x < 256)->∀(a b:Nat) (v:D),a<=w.length->(pSh n s).run w a = .told v b->AD s v=true/\BC s v=wD (seg w a b)
 | 0,s,hs,_,_,_,_,_,_,_,_=>absurd s.depth_pos (by lia)
 | n + 1,s,hs,hwf,w,hw,a,b,v,ha,h=>by
   cases s with
   | nothing=>
     rw [pSh,Rd.run] at h
     cases h
     rw [G0,BC]
     exact ⟨by simp [AD,JB],rfl⟩
   | number lo hi=>
     rw [pSh] at h
     obtain ⟨y,rfl,_,h3,h4,_⟩:=M2 hw _ _ _ h
     have hy:=h3 (Nat.zero_le _)
     simp only [wf,Bool.and_eq_true,decide_eq_true_eq] at hwf
     refine ⟨?_,?_⟩
     ·simp only [AD,Bool.and_eq_true,decide_eq_true_eq];lia
     ·rw [BC,<-h4,show (lo + (y:Int) - lo).toNat=y by lia]
   | text q=>
     rw [pSh] at h
     cases e:w[a]? with
     | none=>rw [Cs e] at h;cases h
     | some c=>
       rw [Ct e] at h
       by_cases hc:(c:Int)<=q
       ·rw [if_pos (decide_eq_true hc)] at h
        obtain ⟨rfl,h2,h3,h4⟩:=Nm _ _ _ h
        rw [List.nil_append]
        have hl:(⟨(seg w (a + 1) b).toArray⟩:Str).length=c:=by rw [El];exact h2
        refine ⟨?_,?_⟩
        ·simp only [AD,Bool.and_eq_true,decide_eq_true_eq,List.all_eq_true]
         exact ⟨by rw [hl];exact hc,h3⟩
        ·rw [BC,hl,FP e (by lia),Ia]
         rfl
       ·rw [if_neg (by rw [decide_eq_true_eq];exact hc)] at h;cases h
   | list s q=>
     simp only [wf,Bool.and_eq_true,decide_eq_true_eq] at hwf
     rw [Sh.depth] at hs
     rw [pSh] at h
     cases e:w[a]? with
     | none=>rw [Cs e] at h;cases h
     | some c=>
       have hal:=(List.getElem?_eq_some_iff.mp e).1
       rw [Ct e] at h
       by_cases hc:(c:Int)<=q
       ·rw [if_pos (decide_eq_true hc)] at h
        obtain ⟨es,rfl,h2,h3,h4,h5⟩:=MX (λa b v=>Nj n s (by lia) hwf.2 w hw a b v) _ _ _ hal h
        rw [List.nil_append]
        refine ⟨?_,?_⟩
        ·rw [AD,Bool.and_eq_true,decide_eq_true_eq,List.all_eq_true]
         exact ⟨by rw [h2];exact hc,h3⟩
        ·rw [BC,h4,h2,FP e h5,Ia]
       ·rw [if_neg (by rw [decide_eq_true_eq];exact hc)] at h;cases h
   | pair s r=>
     simp only [wf,Bool.and_eq_true] at hwf
     rw [Sh.depth] at hs
     rw [pSh,En] at h
     cases e:(pSh n s).run w a with
     | short=>rw [e] at h;cases h
     | broken k=>rw [e] at h;cases h
     | told u a'=>
       rw [e,RR.thn,En] at h
       have l1:=EV _ a ha e
       have i1:=Nj n s (by lia) hwf.1 w hw a a' u ha e
       cases e2:(pSh n r).run w a' with
       | short=>rw [e2] at h;cases h
       | broken k=>rw [e2] at h;cases h
       | told u2 a2=>
         rw [e2] at h
         have l2:=EV _ a' l1.2 e2
         have i2:=Nj n r (by lia) hwf.2 w hw a' a2 u2 l1.2 e2
         cases h
         refine ⟨?_,?_⟩
         ·simp only [AD,Bool.and_eq_true];exact ⟨i1.1,i2.1⟩
         ·rw [BC,i1.2,i2.2,Oe l1.1 l2.1,D0]
   | choice ss=>
     simp only [wf,Bool.and_eq_true,decide_eq_true_eq] at hwf
     rw [Sh.depth] at hs
     rw [pSh] at h
     cases e:w[a]? with
     | none=>rw [Cs e] at h;cases h
     | some c=>
       have hal:=(List.getElem?_eq_some_iff.mp e).1
       rw [Ct e] at h
       by_cases hc:c < ss.length
       ·rw [if_pos (decide_eq_true hc),En] at h
        have e0:ss[c]?=some ss[c]:=List.getElem?_eq_getElem hc
        rw [List.getD_eq_getElem?_getD,e0,Option.getD_some] at h
        cases e2:(pSh n ss[c]).run w (a + 1) with
        | short=>rw [e2] at h;cases h
        | broken k=>rw [e2] at h;cases h
        | told u a2=>
          rw [e2] at h
          have l1:=EV _ (a + 1) hal e2
          have i1:=Nj n ss[c] (Nat.le_trans (DM ss _ _ e0) (by lia)) (EW hwf.2 _ (List.getElem_mem hc)) w hw (a + 1) a2 u hal e2
          cases h
          refine ⟨?_,?_⟩
          ·simp only [AD,Bool.and_eq_true,decide_eq_true_eq]
           refine ⟨⟨rfl,by lia,by lia⟩,?_⟩
           rw [Int.toNat_natCast,DK ss _ _ _ e0]
           exact i1.1
          ·rw [BC,Int.toNat_natCast,E7 ss _ _ _ e0,i1.2,FP e l1.1,Ia]
       ·rw [if_neg (by rw [decide_eq_true_eq];exact hc)] at h;cases h
theorem Ca {n:Nat} {x:Str} {kvs:List (Key×D)} {d:D} {t:T} {P:D->T->Prop} (e:t.S[n]?=some (.dct kvs)) (e2:BI kvs (.inr x)=some d) (h:P d t):W (BY (.obj n) (.str x)) t P:=
 ⟨d,t,by simp only [BY,e,e2];rfl,h⟩
theorem C5 {f g:M D} {d:D} {t:T} {U:Unit->T->Prop} (h:W f t λo t1=>W g t1 λi t2=>W (Gx o i d) t2 U):W (DS f g d) t U:=DA (h.mono λo t1 h1=>DA h1)
theorem Cm {n:Nat} {x:Str} {d:D} {kvs:List (Key×D)} {t:T} {U:Unit->T->Prop} (e:t.S[n]?=some (.dct kvs)) (hl:kvs.length < LIM) (h:U () ⟨t.env,t.S.set n (.dct (B7 kvs (.inr x) d))⟩):W (Gx (.obj n) (.str x) d) t U:=
 ⟨(),_,by simp only [Gx,e,if_pos hl],h⟩
theorem Fq {l:List (Str×M D)} {t:T} {P:D->T->Prop} (h:W (DY l) ⟨t.env,t.S++[.dct []]⟩ λps t1=>t1.S[t.S.length]?=some (.dct [])/\ps.length<=15/\P (.obj t.S.length) ⟨t1.env,t1.S.set t.S.length (.dct (Bs ps))⟩):W (Ey l) t P:=by
 obtain ⟨ps,t1,e1,e2,e3,p⟩:=h
 refine ⟨_,_,?_,p⟩
 unfold Ey bnd
 simp only [e1]
 unfold Kr
 simp only [e2,if_pos e3]
theorem C4 {t:T} {Q:List (Key×D)->T->Prop} (h:Q [] t):W (DY []) t Q:=⟨_,_,rfl,h⟩
theorem BB {k:Str} {f:M D} {r:List (Str×M D)} {t:T} {Q:List (Key×D)->T->Prop} (h:W f t λd t1=>W (DY r) t1 λps t2=>Q ((.inr k,d) :: ps) t2):W (DY ((k,f) :: r)) t Q:=
 DA (h.mono λd t1 h1=>DA (h1.mono λps t2 h2=>⟨_,_,rfl,h2⟩))
structure St where
 rest:Int
 mixed:Bool
 turn:Int
noncomputable def St.ob (s:St):Ob:=.dct [(.inr (Str.ofString "rest"),.int s.rest),(.inr (Str.ofString "mixed"),.bl s.mixed),(.inr (Str.ofString "turn"),.int s.turn)]
noncomputable def take (s:St) (m:Int):Int×St:=
 if s.mixed=false then (s.rest % m,⟨s.rest / m,s.mixed,s.turn⟩)
 else
  let stir:=(s.rest % 2147483579 + 70001 * (s.turn + 1)) % 2147483579
  let rest:=(stir * stir % 2147483563 * 50021 + 7) % 2147483579
  (rest / 5 % m,⟨rest,s.mixed,s.turn + 1⟩)
theorem CB (a:Int) (n:Nat):(rngL a n).length=n:=by simp [rngL]
inductive GS where
 | fin
 | st (side:Str) (ws:List (Str×Sh×Int))
def wdD (w:Str×Sh×Int):D:=.tup [.str w.1,w.2.1.d,.int w.2.2]
def GS.d:GS->D
 | .fin=>.tup [.str (Str.ofString "end")]
 | .st side ws=>.tup [.str side,.lst (ws.map wdD)]
noncomputable def GS.isFin:GS->Bool
 | .fin=>true
 | _=>false
theorem QO {g:Bool->Bool} {x:GS} {t:T} {P:D->T->Prop} (h:P (.bl (g x.isFin)) t):W (eqS g x.d (.tup [.str (Str.ofString "end")])) t P:=by
 cases x with
 | fin=>exact ⟨_,_,by
    show Option.map (λb=>(D.bl (g b),t)) (Option.map (λb=>b && true) (some ((Str.ofString "end" == Str.ofString "end") && true)))=some (D.bl (g true),t)
    rw [beq_self_eq_true];rfl,h⟩
 | st side ws=>exact ⟨_,_,by
    show Option.map (λb=>(D.bl (g b),t)) (Option.map (λb=>b && false) (some ((side == Str.ofString "end") && true)))=some (D.bl (g false),t)
    cases (side == Str.ofString "end") <;> rfl,h⟩
theorem IV {a:Int} {n j:Nat} {d:D} {r:List D} (e:d :: r=(rngL a n).drop j):d = .int (a + j)/\r=(rngL a n).drop (j + 1)/\j < n:=by
 have hj:j < (rngL a n).length:=by
  rcases Nat.lt_or_ge j (rngL a n).length with h | h
  ·exact h
  ·rw [List.drop_eq_nil_of_le h] at e;cases e
 rw [List.drop_eq_getElem_cons hj] at e
 injection e with e1 e2
 rw [CB] at hj
 refine ⟨?_,e2,hj⟩
 rw [e1]
 simp [rngL]
structure WOk (n:Int) (w:Str×Sh×Int):Prop where
 ok:wf w.2.1=true
 dep:w.2.1.depth<=3
 lo:0<=w.2.2
 hi:w.2.2 < n
 nm:w.1.length<=90000
inductive GSOk (n:Int):GS->Prop
 | fin:GSOk n .fin
 | st {side:Str} {ws:List (Str×Sh×Int)}:(side=Str.ofString "left"\/side=Str.ofString "right")->0 < ws.length->ws.length<=9->(ws.map (·.1)).Nodup->(∀w∈ws,WOk n w)->GSOk n (.st side ws)
structure GOk (g:List GS):Prop where
 ne:0 < g.length
 le:g.length<=30
 all:∀x∈g,GSOk g.length x
def GS.words:GS->D
 | .fin=>.tup []
 | .st _ ws=>.lst (ws.map wdD)
noncomputable def GS.ws:GS->List (Str×Sh×Int)
 | .fin=>[]
 | .st _ ws=>ws
theorem MF {α:Type} {p:α->Bool} {l:List α} {j:Nat} (h:∀i (hi:i < l.length),i < j->p l[i]=false) {x:α} (hx:l[j]?=some x) (hp:p x=true):l.findIdx? p=some j:=by
 obtain ⟨hj,e⟩:=List.getElem?_eq_some_iff.mp hx
 rw [List.findIdx?_eq_some_iff_getElem]
 exact ⟨hj,by rw [e];exact hp,λi hi=>by simpa using h i (by lia) hi⟩
noncomputable def GS.side:GS->Str
 | .fin=>Str.ofString "end"
 | .st s _=>s
noncomputable def Cw (g:List GS) (q:Nat):GS:=g.getD q .fin
def wdAt (g:List GS) (q p:Nat):Str×Sh×Int:=(Cw g q).ws.getD p (Str.ofString "",.nothing,0)
def DR (g:List GS) (q p:Nat):Nat:=(wdAt g q p).2.2.toNat
def IG (g:List GS) (q p:Nat) (v:D):D:=.tup [.str (Cw g q).side,.str (wdAt g q p).1,v]
abbrev Mv:=Nat×D
def lastQ (g:List GS):Nat->List Mv->Nat
 | q,[]=>q
 | q,(p,_) :: r=>lastQ g (DR g q p) r
def CA (g:List GS):Nat->List Mv->List D
 | _,[]=>[]
 | q,(p,v) :: r=>IG g q p v :: CA g (DR g q p) r
def DT (g:List GS):Nat->List Mv->List D
 | q,[]=>[.int q]
 | q,(p,_) :: r=>.int q :: DT g (DR g q p) r
structure MvOk (g:List GS) (q:Nat) (p:Nat) (v:D):Prop where
 lt:q < g.length
 pl:p < (Cw g q).ws.length
 fit:AD (wdAt g q p).2.1 v=true
def okQ (g:List GS):Nat->List Mv->Prop
 | _,[]=>True
 | q,(p,v) :: r=>MvOk g q p v/\okQ g (DR g q p) r
theorem Hk (g:List GS):∀(q:Nat) (a b:List Mv),lastQ g q (a++b)=lastQ g (lastQ g q a) b
 | q,[],b=>rfl
 | q,(p,v) :: r,b=>by rw [List.cons_append,lastQ,lastQ,Hk g _ r b]
theorem Lc (g:List GS):∀(q:Nat) (a b:List Mv),CA g q (a++b)=CA g q a++CA g (lastQ g q a) b
 | q,[],b=>rfl
 | q,(p,v) :: r,b=>by rw [List.cons_append,CA,CA,lastQ,Lc g _ r b];rfl
theorem Hz (g:List GS):∀(q:Nat) (a:List Mv) (p:Nat) (v:D),DT g q (a++[(p,v)])=DT g q a++[.int (DR g (lastQ g q a) p)]
 | q,[],p,v=>rfl
 | q,(p',v') :: r,p,v=>by rw [List.cons_append,DT,DT,lastQ,Hz g _ r p v];rfl
theorem Kz (g:List GS):∀(q:Nat) (a b:List Mv),okQ g q (a++b)↔okQ g q a/\okQ g (lastQ g q a) b
 | q,[],b=>by simp [okQ,lastQ]
 | q,(p,v) :: r,b=>by rw [List.cons_append,okQ,okQ,lastQ,Kz g _ r b,and_assoc]
theorem Em (g:List GS):∀(q:Nat) (a:List Mv),(CA g q a).length=a.length
 | q,[]=>rfl
 | q,(p,v) :: r=>by rw [CA,List.length_cons,Em g _ r,List.length_cons]
theorem Io (g:List GS):∀(q:Nat) (a:List Mv),(DT g q a).length=a.length + 1
 | q,[]=>rfl
 | q,(p,v) :: r=>by rw [DT,List.length_cons,Io g _ r,List.length_cons]
theorem Ho (g:List GS):∀(q:Nat) (a:List Mv) (i:Nat) (p:Nat) (v:D),a[i]?=some (p,v)->(CA g q a)[i]?=some (IG g (lastQ g q (a.take i)) p v)
 | q,[],i,p,v,h=>by simp at h
 | q,(p',v') :: r,0,p,v,h=>by
   simp at h
   obtain ⟨rfl,rfl⟩:=h
   rfl
 | q,(p',v') :: r,i + 1,p,v,h=>by
   rw [CA,List.getElem?_cons_succ,Ho g _ r i p v (by simpa using h),List.take_succ_cons,lastQ]
theorem N5 {g:List GS} {q:Nat} {a:List Mv} (h:okQ g q a) {i p:Nat} {v:D} (e:a[i]?=some (p,v)):MvOk g (lastQ g q (a.take i)) p v:=by
 obtain ⟨hi,e'⟩:=List.getElem?_eq_some_iff.mp e
 have hd:a.drop i=(p,v) :: a.drop (i + 1):=by rw [List.drop_eq_getElem_cons hi,e']
 rw [<-List.take_append_drop i a,Kz,hd,okQ] at h
 exact h.2.1
theorem Ek {g:List GS} (h:GOk g) {q:Nat} (hq:q < g.length):GSOk g.length (Cw g q):=by
 unfold Cw
 rw [List.getD_eq_getElem?_getD,List.getElem?_eq_getElem hq]
 exact h.all _ (List.getElem_mem hq)
theorem FI {g:List GS} {q:Nat} (hq:q < g.length):atI (g.map GS.d) q=some (Cw g q).d:=by
 unfold atI
 rw [CT (by lia) (by rw [List.length_map];lia)]
 show (g.map GS.d)[(q:Int).toNat]?=_
 unfold Cw
 rw [Int.toNat_natCast,List.getElem?_map,List.getD_eq_getElem?_getD,List.getElem?_eq_getElem hq]
 rfl
theorem LO {g:List GS} {q p:Nat} (hp:p < (Cw g q).ws.length):∃side ws,Cw g q = .st side ws/\p < ws.length/\ws[p]?=some (wdAt g q p):=by
 unfold wdAt
 cases e:Cw g q with
 | fin=>rw [e] at hp;simp [GS.ws] at hp
 | st side ws=>
   rw [e] at hp
   have hp:p < ws.length:=hp
   refine ⟨side,ws,rfl,hp,?_⟩
   show ws[p]?=some (ws.getD p _)
   rw [List.getD_eq_getElem?_getD,List.getElem?_eq_getElem hp]
   rfl
theorem FU {ws:List (Str×Sh×Int)} {p:Nat} {w:Str×Sh×Int} (e:ws[p]?=some w):atI (ws.map wdD) p=some (wdD w):=by
 obtain ⟨hp,_⟩:=List.getElem?_eq_some_iff.mp e
 unfold atI
 rw [CT (by lia) (by rw [List.length_map];lia)]
 show (ws.map wdD)[(p:Int).toNat]?=_
 rw [Int.toNat_natCast,List.getElem?_map,e]
 rfl
theorem Pf {g:List GS} (h:GOk g) {q p:Nat} (hq:q < g.length) (hp:p < (Cw g q).ws.length):WOk g.length (wdAt g q p):=by
 obtain ⟨side,ws,e,hp',e2⟩:=LO hp
 have:=Ek h hq
 rw [e] at this
 cases this with
 | st _ _ _ _ h5=>exact h5 _ (List.mem_of_getElem? e2)
theorem TV {g:List GS} (h:GOk g) {q p:Nat} (hq:q < g.length) (hp:p < (Cw g q).ws.length):DR g q p < g.length:=by
 have:=Pf h hq hp
 unfold DR
 have h1:=this.lo
 have h2:=this.hi
 lia
theorem N2 {g:List GS} (h:GOk g):∀{a:List Mv} {q:Nat},q < g.length->okQ g q a->lastQ g q a < g.length
 | [],q,hq,_=>hq
 | (p,v) :: r,q,hq,hk=>by
   rw [okQ] at hk
   rw [lastQ]
   exact N2 h (TV h hq hk.1.pl) hk.2
theorem OI {ws:List (Str×Sh×Int)} (nd:(ws.map (·.1)).Nodup) {p:Nat} {w:Str×Sh×Int} (e:ws[p]?=some w):(ws.findIdx? λx=>x.1 == w.1)=some p:=by
 obtain ⟨hp,ep⟩:=List.getElem?_eq_some_iff.mp e
 refine MF (λi hi hip=>?_) e (by simp)
 rw [<-ep]
 have hne:¬ws[i].1=ws[p].1:=λz=>by
  have h1:i < (ws.map (·.1)).length:=by rw [List.length_map];exact hi
  have h2:p < (ws.map (·.1)).length:=by rw [List.length_map];exact hp
  have:(ws.map (·.1))[i]=(ws.map (·.1))[p]:=by rw [List.getElem_map,List.getElem_map];exact z
  have:=(List.getElem_inj nd).mp this
  lia
 simpa using hne
abbrev kR:Key:=.inr (Str.ofString "rest")
abbrev kM:Key:=.inr (Str.ofString "mixed")
abbrev kC:Key:=.inr (Str.ofString "count")
theorem kRM:¬kR=kM:=by intro h;injection h with h;rw [EF] at h;exact absurd h (by decide)
theorem kRC:¬kR=kC:=by intro h;injection h with h;rw [EF] at h;exact absurd h (by decide)
theorem kMC:¬kM=kC:=by intro h;injection h with h;rw [EF] at h;exact absurd h (by decide)
theorem kMR:¬kM=kR:=λh=>kRM h.symm
theorem kCR:¬kC=kR:=λh=>kRC h.symm
abbrev B8 (a b c:D):List (Key×D):=[(kR,a),(kM,b),(kC,c)]
theorem KK {a b c:D}:BI (B8 a b c) kR=some a:=by simp [BI,List.find?_cons]
theorem M8 {a b c:D}:BI (B8 a b c) kM=some b:=by
 unfold BI B8;rw [List.find?_cons,show decide (kR=kM)=false from decide_eq_false kRM];simp [List.find?_cons]
theorem GW {a b c:D}:BI (B8 a b c) kC=some c:=by
 unfold BI B8
 rw [List.find?_cons,show decide (kR=kC)=false from decide_eq_false kRC]
 dsimp only
 rw [List.find?_cons,show decide (kM=kC)=false from decide_eq_false kMC]
 simp [List.find?_cons]
theorem Gs {a b c d:D}:B7 (B8 a b c) kR d=B8 d b c:=by
 unfold B7 B8
 rw [if_pos (by simp)]
 simp only [List.map_cons,List.map_nil,if_true,if_neg kMR,if_neg kCR]
theorem Na {a b c d:D}:B7 (B8 a b c) kC d=B8 a b d:=by
 unfold B7 B8
 rw [if_pos (by simp)]
 simp only [List.map_cons,List.map_nil,if_true,if_neg kRC,if_neg kMC]
theorem M7 {a b c:D}:Bs (B8 a b c)=B8 a b c:=by
 unfold Bs
 simp only [List.foldl_cons,List.foldl_nil]
 have e1:B7 [] kR a=[(kR,a)]:=by simp [B7]
 rw [e1]
 have e2:B7 [(kR,a)] kM b=[(kR,a),(kM,b)]:=by
  unfold B7
  rw [if_neg (by simp only [List.any_cons,List.any_nil,Bool.or_false,decide_eq_true_eq];exact kRM)];rfl
 rw [e2]
 unfold B7
 rw [if_neg (by
  simp only [List.any_cons,List.any_nil,Bool.or_false,Bool.or_eq_true,decide_eq_true_eq]
  intro h
  rcases h with h | h
  ·exact kRC h
  ·exact kMC h)]
 rfl
def Room (k r:Nat) (S:List Ob):Prop:=∃(a c:Int) (b:Bool),S[k]?=some (.dct (B8 (.int a) (.bl b) (.int c)))/\0<=c/\c + r<=1000000000000000000000000000000
theorem Room.mono {k r r':Nat} {S:List Ob} (h:Room k r S) (e:r'<=r):Room k r' S:=by
 obtain ⟨a,c,b,h1,h2,h3⟩:=h
 exact ⟨a,c,b,h1,h2,by lia⟩
theorem Room.drop {k r m:Nat} {S:List Ob} (h:Room k (r + m) S):Room k r S:=h.mono (Nat.le_add_right _ _)
theorem Room.loop {k r q m:Nat} {S:List Ob} (h:Room k (r + q * (m + 1)) S):Room k (r + q * m + q) S:=by rw [Nat.mul_succ,<-Nat.add_assoc] at h;exact h
theorem Ic {i j:Int} {t:T} {P:D->T->Prop} (h1:i.natAbs < 2 ^ 512) (h2:j.natAbs < 2 ^ 512) (h:P (.int (i * j)) t):W (Kx (.int i) (.int j)) t P:=
 ⟨_,_,by simp only [Kx,i2C,M1,decide_eq_true h1,decide_eq_true h2];rfl,h⟩
theorem LQ {i j:Int} {t:T} {P:D->T->Prop} (h1:0 < j) (h2:j < 18446744073709551616) (h:P (.int (i / j)) t):W (Ju (.int i) (.int j)) t P:=
 ⟨_,_,by simp only [Ju,i2C,My,decide_eq_true h1,decide_eq_true h2];rfl,h⟩
theorem E1 {i:Int} (h0:0<=i) (h:i < 10000000000000000000000000000000000000000000000000000000000000000000000000000000):i.natAbs < 2 ^ 512:=by
 have:(10000000000000000000000000000000000000000000000000000000000000000000000000000000:Nat)<=2 ^ 512:=by decide
 lia
theorem BS {k:Nat} {S:List Ob} {o o':Ob} (h:S[k]?=some o):(S.set k o')[k]?=some o':=Tu h
def PTakeOk (f:Fn):Prop:=∀(k r:Nat) (S:List Ob) (m:Int),0 < m->m < 4611686018427387904->Room k (r + 1) S->Wf f [.obj k,.int m] S λv S'=>(∃i,v = .int i/\0<=i/\i < m)/\Room k r S'
theorem PTakeOk.use {f:Fn} (h:PTakeOk f) {k r:Nat} {S:List Ob} {m:Int} (many:Int) (d:Room k (r + 1) S) {P:D->List Ob->Prop} (p:∀i S',0<=i->i < many->Room k r S'->P (.int i) S') (e:m=many:=by first | rfl | decide) (h1:0 < many:=by decide) (h2:many < 4611686018427387904:=by decide):Wf f [.obj k,.int m] S P:=by
 subst e
 exact (h k r S m h1 h2 d).mono λv S' ⟨⟨i,e,i0,i1⟩,q⟩=>by subst e;exact p i S' i0 i1 q
theorem RY:PTakeOk (fnOf 2 3 Cz):=by
 intro k n S m hm0 hm1 ⟨a,c,b,hS,c0,c1⟩
 refine AY rfl ?_
 unfold Cz
 walk_at "w"
 refine Ca hS KK ?_
 walk_at "w"
 refine Ca hS M8 ?_
 walk_at "w"
 refine CJ (λz=>?_) λz=>?_
 ·walk_at "w"
  refine LQ hm0 (by lia) ?_
  refine C5 ?_
  walk_at "w"
  refine Cm hS (by show 3 < 100000;decide) ?_
  rw [Gs]
  walk_at "w"
  refine Nx hm0 ?_
  exact ⟨⟨_,rfl,Int.emod_nonneg _ (by lia),Int.emod_lt_of_pos _ hm0⟩,_,_,_,BS hS,c0,by lia⟩
 ·walk_at "w"
  refine Ca hS GW ?_
  walk_at "w"
  refine C5 ?_
  walk_at "w"
  refine Cm hS (by show 3 < 100000;decide) ?_
  rw [Na]
  have g1:(S.set k (.dct (B8 (.int a) (.bl b) (.int (c + 1)))))[k]?=some (.dct (B8 (.int a) (.bl b) (.int (c + 1)))):=BS hS
  refine Eo ?_
  change W _ ⟨[some (.val (.obj k)),some (.val (.int m)),some (.val (.int a))],S.set k (.dct (B8 (.int a) (.bl b) (.int (c + 1))))⟩ _
  generalize S.set k (.dct (B8 (.int a) (.bl b) (.int (c + 1))))=S1 at g1 ⊢
  walk_at "w"
  have a0:=Int.emod_nonneg a (b:=1000000000163) (by decide)
  have a1:=Int.emod_lt_of_pos a (b:=1000000000163) (by decide)
  generalize a % 1000000000163=x at a0 a1
  refine Ca g1 GW ?_
  obtain ⟨s,es⟩:∃s,s=c + 1:=⟨_,rfl⟩
  rw [<-es]
  rw [<-es] at g1
  have s0:0<=s:=by lia
  have s1:s<=1000000000000000000000000000000:=by lia
  refine Ic (by decide) (E1 s0 (by lia)) ?_
  walk_at "w"
  refine Ic (E1 (by lia) (by lia)) (E1 (by lia) (by lia)) ?_
  walk_at "w"
  have b0:=Int.emod_nonneg ((x + 70001 * s) * (x + 70001 * s + 29)) (b:=1000000000193) (by decide)
  have b1:=Int.emod_lt_of_pos ((x + 70001 * s) * (x + 70001 * s + 29)) (b:=1000000000193) (by decide)
  generalize (x + 70001 * s) * (x + 70001 * s + 29) % 1000000000193=y at b0 b1
  refine Ic (E1 (by lia) (by lia)) (E1 (by lia) (by lia)) ?_
  walk_at "w"
  refine C5 ?_
  walk_at "w"
  refine Cm g1 (by show 3 < 100000;decide) ?_
  rw [Gs]
  walk_at "w"
  refine LQ (by decide) (by decide) ?_
  walk_at "w"
  refine Nx hm0 ?_
  exact ⟨⟨_,rfl,Int.emod_nonneg _ (by lia),Int.emod_lt_of_pos _ hm0⟩,_,_,_,BS g1,by lia,by lia⟩
def HD (f:Fn):Prop:=∀(ns:List Int) (k:Nat),k<=1000->∃c:Int,Pure1 f [.scr ns,.int k] (.int c)
theorem RC:HD (fnOf 2 2 CW):=by
 intro ns k hk
 by_cases z:k < ns.length
 ·refine ⟨ns[k],λS=>AY rfl ?_⟩
  unfold CW
  walk_at "w"
  refine Fc (decide_eq_true (by lia)) ?_
  walk_at "w"
  refine W_ix_scr.mpr ⟨ns[k],?_,?_⟩
  ·unfold atI
   rw [CT (by lia) (by lia)]
   show ns[(k:Int).toNat]?=_
   rw [Int.toNat_natCast,List.getElem?_eq_getElem z]
  ·walk_at "w"
   exact ⟨rfl,rfl⟩
 ·refine ⟨0,λS=>AY rfl ?_⟩
  unfold CW
  walk_at "w"
  refine Gb (decide_eq_false (by lia)) ?_
  walk_at "w"
  exact ⟨rfl,rfl⟩
theorem CP {S:List Ob} {x:Ob}:(S++[x])[S.length]?=some x:=by simp
def HE (f:Fn):Prop:=∀(ns:List Int) (k:Nat) (S:List Ob),k<=1000->Wf f [.scr ns,.int k] S λr S'=>∃n,r = .obj n/\Room n 900000000000000000000000000000 S'
theorem RQ {cc:Fn} (hc:HD cc):HE (fnOf 2 3 (Cy cc)):=by
 intro ns k S hk
 obtain ⟨c,hc⟩:=hc ns k hk
 refine AY rfl ?_
 unfold Cy
 walk_at "w"
 refine hc.use ?_
 walk_at "w"
 refine Fq ?_
 refine BB ?_
 walk_at "w"
 refine BB ?_
 walk_at "w"
 refine BB ?_
 walk_at "w"
 refine Ib (Gn (by decide) (by decide)) ?_
 walk_at "w"
 refine C4 ?_
 refine ⟨CP,by show 3<=15;decide,S.length,rfl,?_⟩
 exact ⟨c,3 + 5 * (k:Int),_,(BS CP).trans (congrArg (λl=>some (Ob.dct l)) M7),by lia,by lia⟩
noncomputable def cs:Nat->Nat
 | 0=>10
 | d + 1=>10 + 3 * cs d
theorem WI (d:Nat):10<=cs d:=by cases d <;> simp [cs]
theorem FR {n m:Nat} (h:n<=m) (hm:m<=1000:=by decide):Co (n:Int)=true:=C6 (by lia) (by lia)
theorem IE {α:Type} {l:List α} {x:α} {m n:Nat} (h:l.length + (m + 1)=n):(l++[x]).length + m=n:=by rw [List.length_append,<-h];simp only [List.length_cons,List.length_nil];lia
theorem HN {α:Type} {l:List α} {x:α} {p:α->Prop} (h:∀y∈l,p y) (hx:p x):∀y∈l++[x],p y:=λy hy=>by
 rcases List.mem_append.mp hy with h' | h'
 ·exact h y h'
 ·rw [List.mem_singleton] at h';subst h';exact hx
theorem MV {a n:Nat} (h:a<=n) (hn:n<=100000:=by decide):a<=LIM:=Nat.le_trans h hn
theorem X8 {ss:List Sh} {n:Nat} (h:∀x∈ss,x.depth<=n):(Sh.choice ss).depth<=n + 1:=by
 rw [Sh.depth]
 refine Nat.succ_le_succ ?_
 induction ss with
 | nil=>rw [E6];exact Nat.zero_le _
 | cons x r ih=>rw [E6];exact Nat.max_le.mpr ⟨h x List.mem_cons_self,ih λy m=>h y (List.mem_cons_of_mem _ m)⟩
structure Drawn (k r:Nat) (dp:Nat) (v:D) (S':List Ob):Prop where
 ex:∃s:Sh,v=s.d/\s.depth<=dp/\wf s=true
 pool:Room k r S'
def PShapeOk (f:Fn) (n:Nat):Prop:=∀(d k r:Nat) (S:List Ob),d < n->Room k (r + cs d) S->Wf f [.obj k,.int d] S λv S'=>Drawn k r (d + 1) v S'
theorem PShapeOk.use {f:Fn} {n:Nat} (h:PShapeOk f n) {d k r:Nat} {S:List Ob} (hd:d < n) (q:Room k (r + cs d) S) {P:D->List Ob->Prop} (p:∀s S',s.depth<=d + 1->wf s=true->Room k r S'->P s.d S'):Wf f [.obj k,.int d] S P:=
 (h d k r S hd q).mono λv S' ⟨⟨s,e,h1,h2⟩,q⟩=>by subst e;exact p s S' h1 h2 q
theorem Qv {ct cr:Fn} {n:Nat} (ht:PTakeOk ct) (hr:n=0\/PShapeOk cr n):PShapeOk (fnOf 2 4 (Do ct cr)) (n + 1):=by
 intro d k r S hd p0
 refine AY rfl ?_
 unfold Do
 have hcs:=WI d
 walk_at "w"
 refine Ib (Gn (by decide) (by decide)) ?_
 walk_at "w"
 refine ht.use (r:=r + (cs d - 1)) (if d=0 then 3 else 6) (p0.mono (by lia)) (λi S1 i0 i1 p1=>?_) ?_ (by split <;> decide) (by split <;> decide)
 ·walk_at "w"
  refine CJ (λz=>?_) λz=>?_
  ·walk_at "w"
   exact ⟨⟨.nothing,by rw [Sh.d],by show 1<=_;lia,rfl⟩,p1.drop⟩
  walk_at "w"
  refine CJ (λy=>?_) λy=>?_
  ·walk_at "w"
   refine ht.use (r:=r + 8) 9 (p1.mono (by lia)) λa S2 a0 a1 p2=>?_
   walk_at "w"
   refine ht.use (r:=r + 7) 100000000000000000 p2 λb S3 b0 b1 p3=>?_
   walk_at "w"
   refine ht.use (r:=r + 6) 3 p3 λg S4 z0 z1 p4=>?_
   have e16:(10:Int) ^ (16:Int).toNat=10000000000000000:=by decide
   rw [e16]
   obtain ⟨dd,ed,lo,rfl,l0,l1⟩:=Ff (xs:=[D.int 0,D.int (a - 4),D.int (b - 10000000000000000)]) z0 (by simpa using z1) (p:=λd=>∃m:Int,d = .int m/\-100000000000000000<=m/\m<=100000000000000000) (by
    simp only [List.forall_mem_cons]
    clear z0 z1 ht p4 p3 p2 p1 p0
    exact ⟨⟨_,rfl,by decide,by decide⟩,⟨_,rfl,by lia,by lia⟩,⟨_,rfl,by lia,by lia⟩,λ_ z=>nomatch z⟩)
   refine B0 ed ?_
   walk_at "w"
   refine ht.use (r:=r + 5) 100000000000000000 p4 λx S5 x0 x1 p5=>?_
   walk_at "w"
   refine ht.use (r:=r + 4) 7 p5 λh S6 h0 h1 p6=>?_
   obtain ⟨dd,ed,hi,rfl,m0,m1⟩:=Ff (xs:=[D.int 0,D.int 1,D.int 255,D.int 256,D.int 300,D.int 70000,D.int x]) h0 (by simpa using h1) (p:=λd=>∃m:Int,d = .int m/\0<=m/\m<=100000000000000000) (by
    simp only [List.forall_mem_cons]
    exact ⟨⟨_,rfl,by decide,by decide⟩,⟨_,rfl,by decide,by decide⟩,⟨_,rfl,by decide,by decide⟩,⟨_,rfl,by decide,by decide⟩,⟨_,rfl,by decide,by decide⟩,⟨_,rfl,by decide,by decide⟩,⟨_,rfl,x0,Int.le_of_lt x1⟩,λ_ z=>nomatch z⟩)
   refine B0 ed ?_
   walk_at "w"
   refine ⟨⟨.number lo (lo + hi),by rw [Sh.d],by show 1<=_;lia,?_⟩,p6.drop⟩
   simp only [wf,Bool.and_eq_true,decide_eq_true_eq]
   clear p0 p1 p2 p3 p4 p5 p6
   lia
  walk_at "w"
  refine CJ (λx=>?_) λx=>?_
  ·walk_at "w"
   refine ht.use (r:=r + 8) 4 (p1.mono (by lia)) λg S4 z0 z1 p4=>?_
   obtain ⟨dd,ed,m,rfl,m0,m1⟩:=Ff (xs:=[D.int 0,D.int 1,D.int 5,D.int 250]) z0 (by simpa using z1) (p:=λd=>∃m:Int,d = .int m/\0<=m/\m<=250) (by
    simp only [List.forall_mem_cons]
    exact ⟨⟨_,rfl,by decide,by decide⟩,⟨_,rfl,by decide,by decide⟩,⟨_,rfl,by decide,by decide⟩,⟨_,rfl,by decide,by decide⟩,λ_ z=>nomatch z⟩)
   refine B0 ed ?_
   walk_at "w"
   refine ⟨⟨.text m,by rw [Sh.d],by show 1<=_;lia,?_⟩,p4.drop⟩
   simp only [wf,Bool.and_eq_true,decide_eq_true_eq]
   exact ⟨m0,m1⟩
  have i3:3<=i:=by
   have z':¬i=0:=by simpa using z
   have y':¬i=1:=by simpa using y
   have x':¬i=2:=by simpa using x
   lia
  obtain ⟨d,rfl⟩:∃e,d=e + 1:=⟨d - 1,by
   have:¬d=0:=λe=>by rw [if_pos e] at i1;lia
   lia⟩
  have e0:(((d + 1:Nat):Int) - 1)=(d:Int):=by lia
  rcases hr with rfl | hr
  ·exact absurd (Nat.lt_of_succ_lt_succ hd) (Nat.not_lt_zero _)
  have hd':=Nat.lt_of_succ_lt_succ hd
  have ec:cs (d + 1)=10 + 3 * cs d:=rfl
  rw [ec] at p1
  replace p1:Room k (r + 9 + 3 * cs d) S1:=p1.mono (by lia)
  clear p0 hcs ec
  walk_at "w"
  refine CJ (λw=>?_) λw=>?_
  ·walk_at "w"
   rw [e0]
   refine hr.use (r:=r + 9) hd' (p1.mono (by lia)) λs S2 s1 s2 p2=>?_
   walk_at "w"
   refine ht.use (r:=r + 8) 4 p2 λg S4 z0 z1 p4=>?_
   obtain ⟨dd,ed,m,rfl,m0,m1⟩:=Ff (xs:=[D.int 0,D.int 2,D.int 6,D.int 250]) z0 (by simpa using z1) (p:=λd=>∃m:Int,d = .int m/\0<=m/\m<=250) (by
    simp only [List.forall_mem_cons]
    exact ⟨⟨_,rfl,by decide,by decide⟩,⟨_,rfl,by decide,by decide⟩,⟨_,rfl,by decide,by decide⟩,⟨_,rfl,by decide,by decide⟩,λ_ z=>nomatch z⟩)
   refine B0 ed ?_
   walk_at "w"
   refine ⟨⟨.list s m,by rw [Sh.d],by rw [Sh.depth];lia,?_⟩,p4.drop⟩
   simp only [wf,Bool.and_eq_true,decide_eq_true_eq]
   exact ⟨⟨m0,m1⟩,s2⟩
  walk_at "w"
  refine CJ (λv=>?_) λv=>?_
  ·walk_at "w"
   rw [e0]
   refine hr.use (r:=r + cs d) hd' (p1.mono (by lia)) λs S2 s1 s2 p2=>?_
   walk_at "w"
   rw [e0]
   refine hr.use hd' p2 λs' S3 s3 s4 p3=>?_
   walk_at "w"
   exact ⟨⟨.pair s s',by rw [Sh.d],by rw [Sh.depth];lia,by simp only [wf,s2,s4,Bool.and_self]⟩,p3⟩
  walk_at "w"
  refine ht.use (r:=r + 3 * cs d) 3 (p1.mono (by lia)) λa S3 a0 a1 p3=>?_
  walk_at "w"
  obtain ⟨m,em⟩:=Int.eq_ofNat_of_zero_le (Int.add_nonneg (by decide:(0:Int)<=1) a0)
  rw [em]
  have m13:1<=m/\m<=3:=by clear p1 p3;lia
  refine Fj (FR m13.2) ?_
  refine (FA (P:=λxs t'=>∃ss:List Sh,xs=ss.map Sh.d/\ss.length=m/\(∀s∈ss,s.depth<=d + 1/\wf s=true)/\Room k r t'.S) (λacc q t=>∃(ss:List Sh) (S':List Ob) (z:Option Sl),acc=ss.map Sh.d/\ss.length + q.length=m/\(∀s∈ss,s.depth<=d + 1/\wf s=true)/\Room k (r + cs d * q.length) S'/\t=⟨[z,some (.val (.obj k)),some (.val (.int ((d + 1:Nat):Int)))],S'⟩) _ [] _ ⟨[],S3,_,rfl,by simp [rngL],by simp,p3.mono (by rw [CB,Int.toNat_natCast,Nat.mul_comm];exact Nat.add_le_add_left (Nat.mul_le_mul_right _ m13.2) _),rfl⟩ ?_ ?_).mono ?_
  ·rintro acc d' q t ⟨ss,S',z,rfl,h1,h2,h3,rfl⟩ _
   rw [List.length_cons] at h1 h3
   refine Je (Jf ?_)
   rw [if_pos rfl]
   walk_at "w"
   rw [e0]
   refine hr.use hd' h3.loop λs S5 q1 q2 q3=>?_
   exact ⟨ss++[s],S5,_,by rw [List.map_append];rfl,IE h1,HN h2 ⟨q1,q2⟩,q3,rfl⟩
  ·rintro acc t ⟨ss,S',z,rfl,h1,h2,h3,rfl⟩
   exact ⟨ss,rfl,h1,h2,h3⟩
  ·rintro xs t' ⟨ss,hxs,h1,h2,h3⟩
   rw [List.nil_append] at hxs
   subst hxs
   refine Cj (MV (n:=3) (by rw [List.length_map,h1];exact m13.2)) ?_
   walk_at "w"
   refine ⟨⟨.choice ss,by rw [Sh.d,Nl],X8 λx hx=>(h2 x hx).1,?_⟩,h3⟩
   simp only [wf,Bool.and_eq_true,decide_eq_true_eq]
   exact ⟨⟨by lia,by lia⟩,QP λx hx=>(h2 x hx).2⟩
 ·by_cases e:d=0
  ·subst e;decide
  ·rw [if_neg e]
   have:decide ((d:Int) > 0)=true:=decide_eq_true (by lia)
   rw [this];decide
theorem Ya {s:Sh} {q:Int} {m:Nat} (h:(Sh.list s q).depth<=m + 1):s.depth<=m:=by rw [Sh.depth] at h;exact Nat.le_of_succ_le_succ h
theorem U7 {a b:Sh} {m:Nat} (h:(Sh.pair a b).depth<=m + 1):a.depth<=m/\b.depth<=m:=by rw [Sh.depth] at h;lia
theorem X9 {ss:List Sh} {m:Nat} (h:(Sh.choice ss).depth<=m + 1):∀x∈ss,x.depth<=m:=λx hx=>by rw [Sh.depth] at h;exact Nat.le_trans (Lf hx) (Nat.le_of_succ_le_succ h)
theorem W0 {ss:List Sh} {k:Nat} (h:k < ss.length):atI (shD ss) (k:Int)=some (ss[k]).d:=by
 unfold atI
 rw [CT (by lia) (by rw [Es];lia)]
 show (shD ss)[(k:Int).toNat]?=_
 rw [Int.toNat_natCast,Gw,List.getElem?_eq_getElem h];rfl
def sg11:Str:=" !#09AZaz~{"
theorem UA {i:Int} (h0:0<=i) (h1:i < 11):∃c,atI sg11.cps.toList i=some c/\Ci c=true:=by
 have hl:sg11.cps.toList.length=11:=by decide +kernel
 have ha:sg11.cps.toList.all Ci=true:=by decide +kernel
 have hi:i.toNat < sg11.cps.toList.length:=by lia
 refine ⟨sg11.cps.toList[i.toNat],?_,List.all_eq_true.mp ha _ (List.getElem_mem hi)⟩
 unfold atI
 rw [CT h0 (by lia)]
 show sg11.cps.toList[i.toNat]?=_
 rw [List.getElem?_eq_getElem hi]
noncomputable def vB:Nat->Nat
 | 0=>10
 | m + 1=>10 + vB m * 3
theorem Room.vA {k r m:Nat} {S:List Ob} (h:Room k (r + vB (m + 1)) S):Room k (r + 10) S:=h.mono (by rw [vB];lia)
theorem Room.vL {k r m:Nat} {S:List Ob} (h:Room k (r + vB (m + 1)) S):Room k (r + vB m * 3 + 1) S:=h.mono (by rw [vB];lia)
theorem Room.vP {k r m:Nat} {S:List Ob} (h:Room k (r + vB (m + 1)) S):Room k (r + vB m + vB m) S:=h.mono (by rw [vB];lia)
theorem Room.vC {k r m:Nat} {S:List Ob} (h:Room k (r + vB (m + 1)) S):Room k (r + vB m + 1) S:=h.mono (by rw [vB];lia)
theorem SY {n m:Nat} (h:n<=10):n<=vB (m + 1):=by rw [vB];lia
theorem YA {n m:Nat} (h:n<=vB m * 3):n + 1<=vB (m + 1):=by rw [vB];lia
theorem YB {n p m:Nat} (h:n<=vB m) (h2:p<=vB m):n + p<=vB (m + 1):=by rw [vB];lia
theorem Yz {n m:Nat} (h:n<=vB m):n + 1<=vB (m + 1):=by rw [vB];lia
theorem Tq {A v b l c:Nat} (h:A + b * (l + 1)<=c) (hv:v<=b):A + v + b * l<=c:=by rw [Nat.mul_succ] at h;lia
theorem Vs {lo hi:Int} (h:wf (.number lo hi)=true):lo<=hi/\0 < hi - lo + 1/\hi - lo + 1 < 4611686018427387904/\wid (hi - lo).toNat<=8:=by
 simp only [wf,Bool.and_eq_true,decide_eq_true_eq] at h
 refine ⟨by lia,by lia,by lia,Kf 8 _ ?_⟩
 have:(256:Nat) ^ 8=18446744073709551616:=by decide
 lia
theorem TX {lo hi g:Int} (z0:0<=g) (z1:g < hi - lo + 1):lo<=lo + g/\lo + g<=hi:=by lia
theorem SG {g q:Int} (c:Nat) (g0:0<=g) (q0:0<=q) (g1:g < (c:Int) + 1):∃m:Nat,(if g < q then g else q)=m/\m<=c/\(m:Int)<=q:=⟨(if g < q then g else q).toNat,by split <;> lia⟩
structure Val (k r:Nat) (s:Sh) (c:Nat) (v:D) (S':List Ob):Prop where
 fit:AD s v=true
 len:(BC s v).length<=c
 pool:Room k r S'
def PValOk (f:Fn) (m:Nat):Prop:=∀(s:Sh) (k r:Nat) (S:List Ob),s.depth<=m->wf s=true->Room k (r + vB m) S->Wf f [.obj k,s.d] S λv S'=>Val k r s (vB m) v S'
theorem Uk {cv ct:Fn} {m:Nat} (ht:PTakeOk ct) (hv:m=0\/PValOk cv m):PValOk (fnOf 2 5 (Dq cv ct)) (m + 1):=by
 intro s k r S hd hw p0
 have rec_:∀{s':Sh} {r':Nat} {S':List Ob} {P:D->List Ob->Prop},s'.depth<=m->wf s'=true->Room k (r' + vB m) S'->(∀v S'',AD s' v=true->(BC s' v).length<=vB m->Room k r' S''->P v S'')->Wf cv [.obj k,s'.d] S' P:=λ{s' r' S' P} h1 h2 q p=>by
  rcases hv with rfl | hv
  ·exact absurd (Nat.lt_of_lt_of_le s'.depth_pos h1) (Nat.not_lt_zero _)
  ·exact (hv s' k r' S' h1 h2 q).mono λv S'' ⟨g1,g2,g3⟩=>p v S'' g1 g2 g3
 refine AY rfl ?_
 unfold Dq
 cases s with
 | nothing=>
   rw [Sh.d]
   walk_at "w"
   exact ⟨by rw [AD];rfl,by rw [BC];exact Nat.zero_le _,p0.drop⟩
 | number lo hi=>
   obtain ⟨w0,w1,w2,w3⟩:=Vs hw
   rw [Sh.d]
   walk_at "w"
   refine ht.use (r:=r + 9) (hi - lo + 1) p0.vA (λg S1 z0 z1 p1=>?_) rfl w1 w2
   walk_at "w"
   refine ht.use (r:=r + 8) 3 p1 λi S2 i0 i1 p2=>?_
   obtain ⟨d,ed,q,rfl,q0,q1⟩:=Ff (xs:=[D.int lo,D.int hi,D.int (lo + g)]) i0 (by simpa using i1) (p:=λd=>∃m:Int,d = .int m/\lo<=m/\m<=hi) (by
    simp only [List.forall_mem_cons]
    exact ⟨⟨_,rfl,Int.le_refl _,w0⟩,⟨_,rfl,w0,Int.le_refl _⟩,⟨_,rfl,TX z0 z1⟩,λ_ z=>nomatch z⟩)
   refine B0 ed ?_
   exact ⟨by simp only [AD,Bool.and_eq_true,decide_eq_true_eq];exact ⟨q0,q1⟩,by rw [BC,Qi];exact SY (Nat.le_trans w3 (by decide)),p2.drop⟩
 | text q=>
   simp only [wf,Bool.and_eq_true,decide_eq_true_eq] at hw
   rw [Sh.d]
   walk_at "w"
   refine Xr ?_
   walk_at "w"
   refine ht.use (r:=r + 9) 7 p0.vA λg S1 z0 z1 p1=>?_
   walk_at "w"
   obtain ⟨n,en,n3,nq⟩:=SG 6 z0 hw.1 z1
   rw [en]
   refine Fj (FR n3) ?_
   refine (FA (P:=λxs t'=>∃ns:List Nat,xs=ns.map (λn=>D.str ⟨#[n]⟩)/\ns.all Ci=true/\ns.length=n/\Room k r t'.S) (λacc q t=>∃(ns:List Nat) (S':List Ob) (z:Option Sl),acc=ns.map (λn=>D.str ⟨#[n]⟩)/\ns.all Ci=true/\ns.length + q.length=n/\Room k (r + 1 * q.length) S'/\t=⟨[z,some (.val (.str sg11)),some (.val (.obj k))],S'⟩) _ [] _ ⟨[],S1,_,rfl,rfl,by simp [rngL],p1.mono (by rw [CB,Int.toNat_natCast];exact Nat.add_le_add_left (Nat.le_trans (Nat.mul_le_mul_left 1 n3) (by decide)) _),rfl⟩ ?_ ?_).mono ?_
   ·rintro acc d q t ⟨ns,S',z,rfl,h1,h2,h3,rfl⟩ _
    rw [List.length_cons] at h2 h3
    refine Je (Jf ?_)
    rw [if_pos rfl]
    walk_at "w"
    refine ht.use 11 h3.loop λi S5 i0 i1 p5=>?_
    obtain ⟨c,ec,hc⟩:=UA i0 i1
    refine W_ix_str.mpr ⟨by decide +kernel,c,ec,?_⟩
    refine ⟨ns++[c],S5,_,by rw [List.map_append];rfl,by simp [List.all_append,h1,hc],IE h2,p5,rfl⟩
   ·rintro acc t ⟨ns,S',z,rfl,h1,h2,h3,rfl⟩
    exact ⟨ns,rfl,h1,h2,h3.drop⟩
   ·rintro xs t' ⟨ns,e,h1,h2,h3⟩
    rw [List.nil_append] at e
    subst e h2
    refine Cj (MV (n:=6) (by rw [List.length_map];exact n3)) ?_
    walk_at "w"
    refine ⟨_,_,_,rfl,rfl,HB ns,⟨by decide +kernel,by rw [List.length_map];clear p0 p1;lia⟩,?_⟩
    refine Nk ?_
    refine ⟨?_,?_,h3⟩
    ·rw [AD]
     simp only [Bool.and_eq_true,decide_eq_true_eq]
     rw [El,JC]
     exact ⟨nq,h1⟩
    ·rw [BC,List.length_cons,List.length_map,JC]
     exact SY (Nat.le_trans (Nat.succ_le_succ n3) (by decide))
 | list s q=>
   simp only [wf,Bool.and_eq_true,decide_eq_true_eq] at hw
   rw [Sh.d]
   walk_at "w"
   refine ht.use 4 p0.vL λg S1 z0 z1 p1=>?_
   walk_at "w"
   obtain ⟨n,en,n2,nq⟩:=SG 3 z0 hw.1.1 z1
   rw [en]
   have nb2:vB m * n<=vB m * 3:=Nat.mul_le_mul_left _ n2
   refine Fj (FR n2) ?_
   refine (FA (P:=λxs t'=>(∀x∈xs,AD s x=true)/\xs.length=n/\((xs.map λd=>BC s d).flatten).length<=vB m * 3/\Room k r t'.S) (λacc l t=>∃(S':List Ob) (z:Option Sl),(∀x∈acc,AD s x=true)/\acc.length + l.length=n/\((acc.map λd=>BC s d).flatten).length + vB m * l.length<=vB m * 3/\Room k (r + vB m * l.length) S'/\t=⟨[z,some (.val (.obj k)),some (.val (.tup [.str "list",s.d,.int q]))],S'⟩) _ [] _ ⟨S1,_,by simp,by simp [rngL],by rw [CB,Int.toNat_natCast];exact Nat.le_trans (Nat.le_of_eq (Nat.zero_add _)) nb2,p1.mono (by rw [CB,Int.toNat_natCast];exact Nat.add_le_add_left nb2 _),rfl⟩ ?_ ?_).mono ?_
   ·rintro acc d l t ⟨S',z,h1,h2,h3,h4,rfl⟩ _
    rw [List.length_cons] at h2 h3 h4
    refine Je (Jf ?_)
    rw [if_pos rfl]
    walk_at "w"
    refine rec_ (Ya hd) hw.2 h4.loop λv S5 f1 f2 p5=>?_
    refine ⟨S5,_,HN h1 f1,IE h2,?_,p5,rfl⟩
    rw [List.map_append,List.flatten_append,List.length_append]
    simp only [List.map_cons,List.map_nil,List.flatten_cons,List.flatten_nil,List.append_nil]
    exact Tq h3 f2
   ·rintro acc t ⟨S',z,h1,h2,h3,h4,rfl⟩
    exact ⟨h1,h2,h3,h4.drop⟩
   ·rintro xs t' ⟨h1,h2,h3,h4⟩
    rw [List.nil_append] at h1 h2 h3
    subst h2
    refine Cj (MV (n:=3) n2) ?_
    refine ⟨?_,by rw [BC,List.length_cons];exact YA h3,h4⟩
    rw [AD,Bool.and_eq_true,decide_eq_true_eq,List.all_eq_true]
    exact ⟨nq,h1⟩
 | pair a b=>
   simp only [wf,Bool.and_eq_true] at hw
   rw [Sh.d]
   walk_at "w"
   refine rec_ (U7 hd).1 hw.1 p0.vP λv S1 f1 f2 p1=>?_
   walk_at "w"
   refine rec_ (U7 hd).2 hw.2 p1 λu S2 g1 g2 p2=>?_
   walk_at "w"
   exact ⟨by simp only [AD,f1,g1,Bool.and_self],by rw [BC,List.length_append];exact YB f2 g2,p2⟩
 | choice ss=>
   simp only [wf,Bool.and_eq_true,decide_eq_true_eq] at hw
   rw [Sh.d]
   walk_at "w"
   rw [Es]
   refine ht.use (ss.length:Int) p0.vC (λi S1 i0 i1 p1=>?_) rfl (by clear p0;lia) (by clear p0;lia)
   obtain ⟨j,rfl⟩:=Int.eq_ofNat_of_zero_le i0
   have hj:j < ss.length:=Int.ofNat_lt.mp i1
   have e1:ss[j]?=some ss[j]:=List.getElem?_eq_getElem hj
   walk_at "w"
   refine Jc (W0 hj) ?_
   walk_at "w"
   refine rec_ (X9 hd _ (List.getElem_mem hj)) (EW hw.2 _ (List.getElem_mem hj)) p1 λv S2 f1 f2 p2=>?_
   walk_at "w"
   have hof:ID (Str.ofString "of")=true:=by decide +kernel
   refine ⟨?_,?_,p2⟩
   ·simp only [AD,Bool.and_eq_true,decide_eq_true_eq]
    exact ⟨⟨hof,i0,i1⟩,by rw [Int.toNat_natCast,DK ss _ _ _ e1];exact f1⟩
   ·rw [BC,Int.toNat_natCast,E7 ss _ _ _ e1,List.length_cons]
    exact Yz f2
def hd1 (x:Str):Option Nat:=x.cps.toList.head?
def abc9:Str:="abcdefghi"
def xyz3:Str:="xyz"
theorem U1 {j:Nat} (h:j < 9):atI abc9.cps.toList (j:Int)=some (97 + j):=by
 have:j=0\/j=1\/j=2\/j=3\/j=4\/j=5\/j=6\/j=7\/j=8:=by lia
 rcases this with rfl | rfl | rfl | rfl | rfl | rfl | rfl | rfl | rfl <;> decide +kernel
theorem WD {i:Int} (h0:0<=i) (h1:i < 3):∃c,atI xyz3.cps.toList i=some c:=by
 have hl:xyz3.cps.toList.length=3:=by decide +kernel
 have hi:i.toNat < xyz3.cps.toList.length:=by lia
 refine ⟨xyz3.cps.toList[i.toNat],?_⟩
 unfold atI
 rw [CT h0 (by lia)]
 show xyz3.cps.toList[i.toNat]?=_
 rw [List.getElem?_eq_getElem hi]
theorem Vr {n m:Nat} {k:Int} (h:k < 8):((⟨#[n]⟩:Str)++Txt.mul ⟨#[m]⟩ k).length<=90000:=by
 rw [El,FV,List.length_append,Vq,List.length_replicate]
 show 1 + _<=_
 lia
theorem WQ {n m:Nat} {k:Int}:hd1 ((⟨#[n]⟩:Str)++Txt.mul ⟨#[m]⟩ k)=some n:=by
 unfold hd1
 rw [FV]
 rfl
theorem WP {ws:List (Str×Sh×Int)} (h:ws.map (λw=>hd1 w.1)=(List.range ws.length).map λi=>some (97 + i)):(ws.map (·.1)).Nodup:=by
 have h1:((ws.map (·.1)).map hd1).Nodup:=by
  rw [List.map_map]
  show (ws.map λw=>hd1 w.1).Nodup
  rw [h]
  refine List.Pairwise.map _ (R:=λa b:Nat=>a≠b) (λa b h e=>?_) List.nodup_range
  injection e with e
  lia
 exact (List.pairwise_map.mp h1).imp λh e=>h (congrArg hd1 e)
theorem Tv {ws:List (Str×Sh×Int)} {w:Str×Sh×Int} (h:ws.map (λw=>hd1 w.1)=(List.range ws.length).map λi=>some (97 + i)) (hw:hd1 w.1=some (97 + ws.length)):(ws++[w]).map (λw=>hd1 w.1)=(List.range (ws++[w]).length).map λi=>some (97 + i):=by
 rw [List.map_append,h,List.length_append,List.length_singleton,List.range_succ,List.map_append]
 simp [hw]
def Kh (f:Fn):Prop:=∀(ns:List Int) (S:List Ob),Wf f [.scr ns] S λr _=>∃g:List GS,GOk g/\r = .lst (g.map GS.d)
theorem t10 {a0 a1 a2 e4 e5 e6 e7 e8 e9:Option Sl} {X Y:List D} {S:List Ob} (h:X=Y):(⟨[a0,a1,a2,some (.own X),e4,e5,e6,e7,e8,e9],S⟩:T)=⟨[a0,a1,a2,some (.own Y),e4,e5,e6,e7,e8,e9],S⟩:=by subst h;rfl
theorem Yn {a0 a1 a2 a3 e4 e5 e7 e8 e9:Option Sl} {X Y:List D} {S:List Ob} (h:X=Y):(⟨[a0,a1,a2,a3,e4,e5,some (.own X),e7,e8,e9],S⟩:T)=⟨[a0,a1,a2,a3,e4,e5,some (.own Y),e7,e8,e9],S⟩:=by subst h;rfl
theorem RL {ct cz cp:Fn} (ht:PTakeOk ct) (hs:PShapeOk cz 3) (hp:HE cp):Kh (fnOf 1 10 (CY ct cz cp)):=by
 intro ns S
 have hL:LIM=100000:=rfl
 refine AY rfl ?_
 unfold CY
 walk_at "w"
 refine (hp ns 0 S (by decide)).mono λr S1 ⟨K,e1,p1⟩=>?_
 subst e1
 walk_at "w"
 refine ht.use (r:=3) 5 (p1.mono (by decide)) λa S2 a0 a1 p2=>?_
 walk_at "w"
 refine ht.use (r:=2) 9 (p2.mono (by decide)) λb S3 b0 b1 p3=>?_
 walk_at "w"
 refine ht.use (r:=1) 3 p3 λc S4 c0 c1 p4=>?_
 obtain ⟨dd,ed,many,rfl,m0,m1⟩:=Ff (xs:=[D.int (1 + a),D.int (1 + b),D.int 30]) c0 (by simpa using c1) (p:=λd=>∃m:Nat,d = .int m/\1<=m/\m<=30) (by
  simp only [List.forall_mem_cons]
  exact ⟨⟨(1 + a).toNat,by rw [Int.toNat_of_nonneg (by lia)],by lia,by lia⟩,⟨(1 + b).toNat,by rw [Int.toNat_of_nonneg (by lia)],by lia,by lia⟩,⟨30,rfl,by decide,by decide⟩,λ_ z=>nomatch z⟩)
 refine B0 ed ?_
 clear p1 p2 p3 p4 ed a0 a1 b0 b1 c0 c1
 walk_at "w"
 refine Fj (FR m1) ?_
 refine Dk (λr t=>∃(gs:List GS) (S':List Ob) (e1 e4 e5 e6 e7 e8 e9:Option Sl),gs.length<=many/\r=(rngL 0 ((many:Nat):Int).toNat).drop gs.length/\(∀x∈gs,GSOk many x)/\t=⟨[some (.val (.scr ns)),e1,some (.val (.int many)),some (.own (gs.map GS.d)),e4,e5,e6,e7,e8,e9],S'⟩) _ _ ⟨[],S4,_,none,none,none,none,none,none,Nat.zero_le _,rfl,(λ_ z=>nomatch z),rfl⟩ ?_ ?_
 ·rintro d r t ⟨gs,S',e1,e4,e5,e6,e7,e8,e9,hj,hr,hg,rfl⟩ _
  obtain ⟨rfl,hr',hjn⟩:=IV hr
  rw [Int.toNat_natCast] at hjn
  rw [Int.zero_add]
  generalize hJ:gs.length=j at hj hjn
  walk_at "w"
  rw [show ((1:Int) + (j:Int) % 13)=((1 + j % 13:Nat):Int) by lia]
  refine (hp ns (1 + j % 13) S' (by lia)).mono λr1 S1 ⟨K,e,p1⟩=>?_
  subst e
  refine Eo ?_
  obtain ⟨ra,rc,rb,hS,c0,c1⟩:=p1
  walk_at "w"
  refine Ca hS KK ?_
  walk_at "w"
  refine Wu (by lia) (by lia) ?_
  walk_at "w"
  refine Ib (Gn (by decide) (by decide)) ?_
  walk_at "w"
  refine C5 ?_
  walk_at "w"
  refine Cm hS (by show 3 < 100000;decide) ?_
  rw [Gs]
  have p2:Room K 900000000000000000000000000000 (S1.set K (.dct (B8 (.int (ra / (1 + (j:Int) / 13) + 37 * (j:Int))) (.bl rb) (.int rc)))):=⟨_,_,_,BS hS,c0,c1⟩
  refine Eo ?_
  change W _ ⟨[some (.val (.scr ns)),some (.val (.obj K)),some (.val (.int many)),some (.own (gs.map GS.d)),some (.val (.int j)),e5,e6,e7,e8,e9],S1.set K (.dct (B8 (.int (ra / (1 + (j:Int) / 13) + 37 * (j:Int))) (.bl rb) (.int rc)))⟩ _
  generalize S1.set K (.dct (B8 (.int (ra / (1 + (j:Int) / 13) + 37 * (j:Int))) (.bl rb) (.int rc)))=S2 at p2 ⊢
  clear hS c0 c1 ra rc rb
  walk_at "w"
  refine ht.use (r:=5002) 6 (p2.mono (by decide)) λq S3 q0 q1 p3=>?_
  have grow:∀(x:GS) (S':List Ob) (e1 e4 e5 e6 e7 e8 e9:Option Sl),GSOk many x->∃(gs':List GS) (S'':List Ob) (f1 f4 f5 f6 f7 f8 f9:Option Sl),gs'.length<=many/\r=(rngL 0 ((many:Nat):Int).toNat).drop gs'.length/\(∀x∈gs',GSOk many x)/\(⟨[some (.val (.scr ns)),e1,some (.val (.int many)),some (.own (gs.map GS.d++[x.d])),e4,e5,e6,e7,e8,e9],S'⟩:T)=⟨[some (.val (.scr ns)),f1,some (.val (.int many)),some (.own (gs'.map GS.d)),f4,f5,f6,f7,f8,f9],S''⟩:=by
   intro x S' e1 e4 e5 e6 e7 e8 e9 hx
   refine ⟨gs++[x],S',e1,e4,e5,e6,e7,e8,e9,?_,?_,HN hg hx,t10 (by rw [List.map_append];rfl)⟩
   ·rw [List.length_append,List.length_singleton];lia
   ·rw [List.length_append,List.length_singleton];exact hr'
  have fin:W (ownM 3 Dl (Ac (BP (Ac (fC (.str "end")) Aj)) Aj)) ⟨[some (.val (.scr ns)),some (.val (.obj K)),some (.val (.int many)),some (.own (gs.map GS.d)),some (.val (.int j)),e5,e6,e7,e8,e9],S3⟩ λo t=>o = .next/\∃(gs':List GS) (S'':List Ob) (f1 f4 f5 f6 f7 f8 f9:Option Sl),gs'.length<=many/\r=(rngL 0 ((many:Nat):Int).toNat).drop gs'.length/\(∀x∈gs',GSOk many x)/\t=⟨[some (.val (.scr ns)),f1,some (.val (.int many)),some (.own (gs'.map GS.d)),f4,f5,f6,f7,f8,f9],S''⟩:=by
   walk_at "w"
   refine Cj (by rw [List.length_map,hL];lia) ?_
   exact ⟨rfl,grow .fin _ _ _ _ _ _ _ _ .fin⟩
  have els:W (Ap (A9 5 (Ah (AW (Bq (Ac (fC (.str "left")) (Ac (fC (.str "right")) Aj)))) (As ct (Ac (Ad 1) (Ac (fC (.int 2)) Aj))) ixD)) (Ap (Ed 6 (Bq Aj)) (Ap (Dn (CV (Ac (Ah (AW (Bq (Ac (fC (.int 1)) (Ac (fC (.int 2)) (Ac (fC (.int 3)) (Ac (fC (.int 9)) Aj)))))) (As ct (Ac (Ad 1) (Ac (fC (.int 4)) Aj))) ixD) Aj)) (BE 7) (Ap (A9 8 (Ah (Ah (fC (.str "abcdefghi")) (Ad 7) ixD) (Ah (Ah (fC (.str "xyz")) (As ct (Ac (Ad 1) (Ac (fC (.int 3)) Aj))) ixD) (As ct (Ac (Ad 1) (Ac (fC (.int 8)) Aj))) DW) Bh)) (Ap (A9 9 (Ah (AW (Bq (Ac (As ct (Ac (Ad 1) (Ac (Ad 2) Aj))) (Ac (fB (Ac (Ah (Ad 2) (fC (.int 1)) CM) (Ac (Ah (Ad 4) (fC (.int 1)) Bh) Aj)) GQ) Aj)))) (As ct (Ac (Ad 1) (Ac (fC (.int 2)) Aj))) ixD)) (ownM 6 Dl (Ac (BP (Ac (Ad 8) (Ac (As cz (Ac (Ad 1) (Ac (As ct (Ac (Ad 1) (Ac (fC (.int 3)) Aj))) Aj))) (Ac (Ad 9) Aj)))) Aj))))) (ownM 3 Dl (Ac (BP (Ac (Ad 5) (Ac (Ad 6) Aj))) Aj))))) ⟨[some (.val (.scr ns)),some (.val (.obj K)),some (.val (.int many)),some (.own (gs.map GS.d)),some (.val (.int j)),e5,e6,e7,e8,e9],S3⟩ λo t=>o = .next/\∃(gs':List GS) (S'':List Ob) (f1 f4 f5 f6 f7 f8 f9:Option Sl),gs'.length<=many/\r=(rngL 0 ((many:Nat):Int).toNat).drop gs'.length/\(∀x∈gs',GSOk many x)/\t=⟨[some (.val (.scr ns)),f1,some (.val (.int many)),some (.own (gs'.map GS.d)),f4,f5,f6,f7,f8,f9],S''⟩:=by
   clear fin
   walk_at "w"
   refine ht.use (r:=5001) 2 p3 λs S4 s0 s1 p4=>?_
   obtain ⟨dd,ed,side,rfl,hside⟩:=Ff (xs:=[D.str (Str.ofString "left"),D.str (Str.ofString "right")]) s0 (by simpa using s1) (p:=λd=>∃x:Str,d = .str x/\(x=Str.ofString "left"\/x=Str.ofString "right")) (by
    simp only [List.forall_mem_cons]
    exact ⟨⟨_,rfl,.inl rfl⟩,⟨_,rfl,.inr rfl⟩,λ_ z=>nomatch z⟩)
   refine B0 ed ?_
   walk_at "w"
   refine ht.use (r:=5000) 4 p4 λg S5 z0 z1 p5=>?_
   obtain ⟨dd,ed',cnt,rfl,n0,n1⟩:=Ff (xs:=[D.int 1,D.int 2,D.int 3,D.int 9]) z0 (by simpa using z1) (p:=λd=>∃m:Nat,d = .int m/\1<=m/\m<=9) (by
    simp only [List.forall_mem_cons]
    exact ⟨⟨1,rfl,by decide,by decide⟩,⟨2,rfl,by decide,by decide⟩,⟨3,rfl,by decide,by decide⟩,⟨9,rfl,by decide,by decide⟩,λ_ z=>nomatch z⟩)
   refine B0 ed' ?_
   walk_at "w"
   clear ed ed' z0 z1 s0 s1 p2 p3 p4 q0 q1
   refine Fj (FR n1) ?_
   refine Dk (λr t=>∃(ws:List (Str×Sh×Int)) (S':List Ob) (e7 e8 e9:Option Sl),ws.length<=cnt/\r=(rngL 0 ((cnt:Nat):Int).toNat).drop ws.length/\ws.map (λw=>hd1 w.1)=(List.range ws.length).map (λi=>some (97 + i))/\(∀w∈ws,WOk many w)/\Room K (200 * (cnt - ws.length)) S'/\t=⟨[some (.val (.scr ns)),some (.val (.obj K)),some (.val (.int many)),some (.own (gs.map GS.d)),some (.val (.int j)),some (.val (.str side)),some (.own (ws.map wdD)),e7,e8,e9],S'⟩) _ _ ⟨[],S5,_,_,_,Nat.zero_le _,rfl,rfl,(λ_ z=>nomatch z),p5.mono (by simp;lia),rfl⟩ ?_ ?_
   ·rintro d q t ⟨ws,S',e7,e8,e9,hl,hq,hh,hw,p6,rfl⟩ _
    obtain ⟨rfl,hq',hin⟩:=IV hq
    rw [Int.toNat_natCast] at hin
    rw [Int.zero_add]
    obtain ⟨m,em⟩:∃m,cnt - ws.length=m + 1:=⟨cnt - ws.length - 1,by lia⟩
    rw [em] at p6
    replace p6:Room K (200 * m + 200) S':=p6
    walk_at "w"
    refine W_ix_str.mpr ⟨by decide +kernel,97 + ws.length,U1 (by lia),?_⟩
    walk_at "w"
    refine ht.use (r:=200 * m + 199) 3 p6 λx S6 x0 x1 p7=>?_
    obtain ⟨c,ec⟩:=WD x0 x1
    refine W_ix_str.mpr ⟨by decide +kernel,c,ec,?_⟩
    walk_at "w"
    refine ht.use (r:=200 * m + 198) 8 p7 λy S7 y0 y1 p8=>?_
    refine Xy ⟨C6 (by lia) (by lia),?_,by rw [hL];show y<=(100000:Int);lia,by rw [hL];show 1<=_;decide⟩ ?_
    ·show 1 * _<=_
     rw [hL];lia
    walk_at "w"
    have hnl:=Vr (n:=97 + ws.length) (m:=c) (k:=y) y1
    refine Cj (by rw [Rl,hL];show 1 + _<=_;lia) ?_
    walk_at "w"
    refine ht.use (r:=200 * m + 197) (many:Int) p8 (λu S8 u0 u1 p9=>?_) rfl (by lia) (by lia)
    walk_at "w"
    refine ht.use (r:=200 * m + 196) 2 p9 λv S9 v0 v1 p10=>?_
    obtain ⟨dd,ed,then_,rfl,h0,h1⟩:=Ff (xs:=[D.int u,D.int (if (j:Int) + 1 < (many:Int) - 1 then (j:Int) + 1 else (many:Int) - 1)]) v0 (by simpa using v1) (p:=λd=>∃m:Int,d = .int m/\0<=m/\m < many) (by
     simp only [List.forall_mem_cons]
     exact ⟨⟨_,rfl,u0,u1⟩,⟨_,rfl,by split <;> lia,by split <;> lia⟩,λ_ z=>nomatch z⟩)
    refine B0 ed ?_
    walk_at "w"
    refine ht.use (r:=200 * m + 195) 3 p10 λdp S10 d0 d1 p11=>?_
    obtain ⟨dq,rfl⟩:=Int.eq_ofNat_of_zero_le d0
    have hdq:dq < 3:=Int.ofNat_lt.mp d1
    have hcs:cs dq<=130:=by
     have:dq=0\/dq=1\/dq=2:=by lia
     rcases this with rfl | rfl | rfl <;> decide
    walk_at "w"
    refine hs.use (r:=200 * m) hdq (p11.mono (by lia)) λsh S11 g1 g2 p12=>?_
    walk_at "w"
    refine Cj (by rw [List.length_map,hL];lia) ?_
    refine ⟨ws++[(⟨#[97 + ws.length]⟩++Txt.mul ⟨#[c]⟩ y,sh,then_)],S11,_,_,_,?_,?_,Tv hh WQ,HN hw ⟨g2,by show sh.depth<=3;lia,h0,h1,hnl⟩,p12.mono (by rw [List.length_append,List.length_singleton];lia),Yn (by rw [List.map_append];rfl)⟩
    ·rw [List.length_append,List.length_singleton];lia
    ·rw [List.length_append,List.length_singleton];exact hq'
   ·rintro t ⟨ws,S',e7,e8,e9,hl,hq,hh,hw,p6,rfl⟩
    have hl':ws.length=cnt:=by
     have:=congrArg List.length hq
     rw [List.length_nil,List.length_drop,CB,Int.toNat_natCast] at this
     lia
    walk_at "w"
    refine Cj (by rw [List.length_map,hL];lia) ?_
    exact ⟨rfl,grow (.st side ws) _ _ _ _ _ _ _ _ (.st hside (by lia) (by lia) (WP hh) hw)⟩
  walk_at "w"
  refine CJ (λz=>?_) λz=>?_
  ·walk_at "w"
   refine CJ (λy=>?_) λy=>?_
   ·exact fin.mono λo t ⟨e,h⟩=>by subst e;exact h
   ·exact els.mono λo t ⟨e,h⟩=>by subst e;exact h
  ·exact els.mono λo t ⟨e,h⟩=>by subst e;exact h
 ·rintro t ⟨gs,S',e1,e4,e5,e6,e7,e8,e9,hj,hr,hg,rfl⟩
  have hj':gs.length=many:=by
   have:=congrArg List.length hr
   rw [List.length_nil,List.length_drop,CB,Int.toNat_natCast] at this
   lia
  walk_at "w"
  exact ⟨gs,⟨by lia,by lia,by rw [hj'];exact hg⟩,rfl⟩
def okB (g:List GS):Nat->List Mv->Prop
 | _,[]=>True
 | q,(p,v) :: r=>(BC (wdAt g q p).2.1 v).length<=400/\okB g (DR g q p) r
theorem HQ (g:List GS):∀(q:Nat) (a b:List Mv),okB g q (a++b)↔okB g q a/\okB g (lastQ g q a) b
 | q,[],b=>by simp [okB,lastQ]
 | q,(p,v) :: r,b=>by rw [List.cons_append,okB,okB,lastQ,HQ g _ r b,and_assoc]
theorem Rw {g:List GS} {q:Nat} {a:List Mv} (h:okB g q a) (i:Nat):okB g q (a.take i):=by
 rw [<-List.take_append_drop i a,HQ] at h
 exact h.1
structure TOk (g:List GS) (mv:List Mv):Prop where
 ok:okQ g 0 mv
 bd:okB g 0 mv
 len:mv.length<=60
theorem PValOk.use {f:Fn} {m:Nat} (h:PValOk f m) {s:Sh} {k r:Nat} {S:List Ob} (hd:s.depth<=m) (hw:wf s=true) (q:Room k (r + vB m) S) {P:D->List Ob->Prop} (p:∀v S',AD s v=true->(BC s v).length<=vB m->P v S'):Wf f [.obj k,s.d] S P:=
 (h s k r S hd hw q).mono λv S' ⟨h1,h2,_⟩=>p v S' h1 h2
theorem t14 {a0 a1 a2 a3 e7 e8 e9 e10 e11 e12 e13:Option Sl} {x y:D} {X Y X' Y':List D} {S:List Ob} (h:X=Y) (h2:x=y) (h3:X'=Y'):(⟨[a0,a1,a2,a3,some (.own X),some (.val x),some (.own X'),e7,e8,e9,e10,e11,e12,e13],S⟩:T)=⟨[a0,a1,a2,a3,some (.own Y),some (.val y),some (.own Y'),e7,e8,e9,e10,e11,e12,e13],S⟩:=by subst h h2 h3;rfl
abbrev kL:Key:=.inr (Str.ofString "left")
abbrev kRt:Key:=.inr (Str.ofString "right")
theorem kLR:¬kL=kRt:=by intro h;injection h with h;rw [EF] at h;exact absurd h (by decide)
theorem kRL:¬kRt=kL:=λh=>kLR h.symm
theorem sLR:¬Str.ofString "left" = Str.ofString "right":=λh=>kLR (congrArg Sum.inr h)
theorem EO {a b:D}:BI [(kL,a),(kRt,b)] kL=some a:=by simp [BI,List.find?_cons]
theorem EQ {a b:D}:BI [(kL,a),(kRt,b)] kRt=some b:=by
 unfold BI;rw [List.find?_cons,show decide (kL=kRt)=false from decide_eq_false kLR];simp [List.find?_cons]
theorem Ec {a b:D}:Bs [(kL,a),(kRt,b)]=[(kL,a),(kRt,b)]:=by
 unfold Bs
 simp only [List.foldl_cons,List.foldl_nil]
 have e1:B7 [] kL a=[(kL,a)]:=by simp [B7]
 rw [e1]
 unfold B7
 rw [if_neg (by simp only [List.any_cons,List.any_nil,Bool.or_false,decide_eq_true_eq];exact kLR)];rfl
theorem TH {a b d:D}:B7 [(kL,a),(kRt,b)] kL d=[(kL,d),(kRt,b)]:=by
 unfold B7
 rw [if_pos (by simp)]
 simp only [List.map_cons,List.map_nil,if_true,if_neg kRL]
theorem TJ {a b d:D}:B7 [(kL,a),(kRt,b)] kRt d=[(kL,a),(kRt,d)]:=by
 unfold B7
 rw [if_pos (by simp)]
 simp only [List.map_cons,List.map_nil,if_true,if_neg kLR]
theorem UB {g:List GS} (hg:GOk g) {q p:Nat} {v:D} (h:MvOk g q p v):(Cw g q).side=Str.ofString "left"\/(Cw g q).side=Str.ofString "right":=by
 obtain ⟨side,ws,e,hpl,ew⟩:=LO h.pl
 have:=Ek hg h.lt
 rw [e] at this ⊢
 cases this with
 | st hs _ _ _ _=>exact hs
abbrev sL:Str:=Str.ofString "left"
abbrev sR:Str:=Str.ofString "right"
structure Wr (K A B:Nat) (S:List Ob) (xs ys:List D):Prop where
 k:S[K]?=some (.dct [(kL,.obj A),(kRt,.obj B)])
 a:S[A]?=some (.lst xs)
 b:S[B]?=some (.lst ys)
 ab:A≠B
 ka:K≠A
 kb:K≠B
def FrO (F:List (Nat×Ob)) (k:Nat) (S:List Ob):Prop:=∀p∈F,p.1≠k/\S[p.1]?=some p.2
theorem FrO.set {F:List (Nat×Ob)} {k:Nat} {S:List Ob} {o:Ob} (h:FrO F k S):FrO F k (S.set k o):=λp hp=>⟨(h p hp).1,by rw [List.getElem?_set_ne (Ne.symm (h p hp).1)];exact (h p hp).2⟩
def FAll (F:List (Nat×Ob)) (S:List Ob):Prop:=∀p∈F,S[p.1]?=some p.2
theorem FAll.app {F:List (Nat×Ob)} {S ex:List Ob} (h:FAll F S):FAll F (S++ex):=λp hp=>by rw [List.getElem?_append_left (List.getElem?_eq_some_iff.mp (h p hp)).1];exact h p hp
theorem FrO.all {F:List (Nat×Ob)} {k:Nat} {S:List Ob} (h:FrO F k S):FAll F S:=λp hp=>(h p hp).2
theorem FrO.new {F:List (Nat×Ob)} {S:List Ob} {x:Ob} (h:FAll F S):FrO F S.length (S++[x]):=λp hp=>⟨Nat.ne_of_lt (List.getElem?_eq_some_iff.mp (h p hp)).1,FAll.app h p hp⟩
theorem FrO.app {F:List (Nat×Ob)} {k:Nat} {S ex:List Ob} (h:FrO F k S):FrO F k (S++ex):=λp hp=>⟨(h p hp).1,FAll.app h.all p hp⟩
def RoomF (F:List (Nat×Ob)) (k r:Nat) (S:List Ob):Prop:=Room k r S/\FrO F k S
theorem RoomF.mono {F:List (Nat×Ob)} {k r r':Nat} {S:List Ob} (h:RoomF F k r S) (e:r'<=r):RoomF F k r' S:=⟨h.1.mono e,h.2⟩
theorem RoomF.app {F:List (Nat×Ob)} {k r:Nat} {S ex:List Ob} (h:RoomF F k r S):RoomF F k r (S++ex):=by
 obtain ⟨⟨a,c,b,h1,h2,h3⟩,h4⟩:=h
 exact ⟨⟨a,c,b,by rw [List.getElem?_append_left (List.getElem?_eq_some_iff.mp h1).1];exact h1,h2,h3⟩,h4.app⟩
def PTakeF (F:List (Nat×Ob)) (f:Fn):Prop:=∀(k r:Nat) (S:List Ob) (m:Int),0 < m->m < 4611686018427387904->RoomF F k (r + 1) S->Wf f [.obj k,.int m] S λv S'=>(∃i,v = .int i/\0<=i/\i < m)/\RoomF F k r S'
theorem PTakeF.use {F:List (Nat×Ob)} {f:Fn} (h:PTakeF F f) {k r:Nat} {S:List Ob} {m:Int} (many:Int) (d:RoomF F k (r + 1) S) {P:D->List Ob->Prop} (p:∀i S',0<=i->i < many->RoomF F k r S'->P (.int i) S') (e:m=many:=by first | rfl | decide) (h1:0 < many:=by decide) (h2:many < 4611686018427387904:=by decide):Wf f [.obj k,.int m] S P:=by
 subst e
 exact (h k r S m h1 h2 d).mono λv S' ⟨⟨i,e,i0,i1⟩,q⟩=>by subst e;exact p i S' i0 i1 q
theorem VP {F:List (Nat×Ob)}:PTakeF F (fnOf 2 3 Cz):=by
 intro k n S m hm0 hm1 ⟨⟨a,c,b,hS,c0,c1⟩,fr⟩
 refine AY rfl ?_
 unfold Cz
 walk_at "w"
 refine Ca hS KK ?_
 walk_at "w"
 refine Ca hS M8 ?_
 walk_at "w"
 refine CJ (λz=>?_) λz=>?_
 ·walk_at "w"
  refine LQ hm0 (by lia) ?_
  refine C5 ?_
  walk_at "w"
  refine Cm hS (by show 3 < 100000;decide) ?_
  rw [Gs]
  walk_at "w"
  refine Nx hm0 ?_
  exact ⟨⟨_,rfl,Int.emod_nonneg _ (by lia),Int.emod_lt_of_pos _ hm0⟩,⟨_,_,_,BS hS,c0,by lia⟩,fr.set⟩
 ·walk_at "w"
  refine Ca hS GW ?_
  walk_at "w"
  refine C5 ?_
  walk_at "w"
  refine Cm hS (by show 3 < 100000;decide) ?_
  rw [Na]
  have g1:(S.set k (.dct (B8 (.int a) (.bl b) (.int (c + 1)))))[k]?=some (.dct (B8 (.int a) (.bl b) (.int (c + 1)))):=BS hS
  have fr1:FrO F k (S.set k (.dct (B8 (.int a) (.bl b) (.int (c + 1))))):=fr.set
  refine Eo ?_
  change W _ ⟨[some (.val (.obj k)),some (.val (.int m)),some (.val (.int a))],S.set k (.dct (B8 (.int a) (.bl b) (.int (c + 1))))⟩ _
  generalize S.set k (.dct (B8 (.int a) (.bl b) (.int (c + 1))))=S1 at g1 fr1 ⊢
  walk_at "w"
  have a0:=Int.emod_nonneg a (b:=1000000000163) (by decide)
  have a1:=Int.emod_lt_of_pos a (b:=1000000000163) (by decide)
  generalize a % 1000000000163=x at a0 a1
  refine Ca g1 GW ?_
  obtain ⟨s,es⟩:∃s,s=c + 1:=⟨_,rfl⟩
  rw [<-es]
  rw [<-es] at g1
  have s0:0<=s:=by lia
  have s1:s<=1000000000000000000000000000000:=by lia
  refine Ic (by decide) (E1 s0 (by lia)) ?_
  walk_at "w"
  refine Ic (E1 (by lia) (by lia)) (E1 (by lia) (by lia)) ?_
  walk_at "w"
  have b0:=Int.emod_nonneg ((x + 70001 * s) * (x + 70001 * s + 29)) (b:=1000000000193) (by decide)
  have b1:=Int.emod_lt_of_pos ((x + 70001 * s) * (x + 70001 * s + 29)) (b:=1000000000193) (by decide)
  generalize (x + 70001 * s) * (x + 70001 * s + 29) % 1000000000193=y at b0 b1
  refine Ic (E1 (by lia) (by lia)) (E1 (by lia) (by lia)) ?_
  walk_at "w"
  refine C5 ?_
  walk_at "w"
  refine Cm g1 (by show 3 < 100000;decide) ?_
  rw [Gs]
  walk_at "w"
  refine LQ (by decide) (by decide) ?_
  walk_at "w"
  refine Nx hm0 ?_
  exact ⟨⟨_,rfl,Int.emod_nonneg _ (by lia),Int.emod_lt_of_pos _ hm0⟩,⟨_,_,_,BS g1,by lia,by lia⟩,fr1.set⟩
def L3 (F:List (Nat×Ob)) (f:Fn):Prop:=∀(ns:List Int) (k:Nat) (S:List Ob),k<=1000->FAll F S->Wf f [.scr ns,.int k] S λr S'=>∃n,r = .obj n/\RoomF F n 900000000000000000000000000000 S'
theorem VJ {F:List (Nat×Ob)} {cc:Fn} (hc:HD cc):L3 F (fnOf 2 3 (Cy cc)):=by
 intro ns k S hk hF
 obtain ⟨c,hc⟩:=hc ns k hk
 refine AY rfl ?_
 unfold Cy
 walk_at "w"
 refine hc.use ?_
 walk_at "w"
 refine Fq ?_
 refine BB ?_
 walk_at "w"
 refine BB ?_
 walk_at "w"
 refine BB ?_
 walk_at "w"
 refine Ib (Gn (by decide) (by decide)) ?_
 walk_at "w"
 refine C4 ?_
 refine ⟨CP,by show 3<=15;decide,S.length,rfl,?_⟩
 exact ⟨⟨c,3 + 5 * (k:Int),_,(BS CP).trans (congrArg (λl=>some (Ob.dct l)) M7),by lia,by lia⟩,FrO.set (FrO.new hF)⟩
structure ValF (F:List (Nat×Ob)) (k r:Nat) (s:Sh) (c:Nat) (v:D) (S':List Ob):Prop where
 fit:AD s v=true
 len:(BC s v).length<=c
 pool:RoomF F k r S'
def Rq (n:Nat) (d:D):Prop:=∀m,n<=m->eqN m d d=some true
theorem Rq.mono {n m:Nat} {d:D} (h:Rq n d) (e:n<=m):Rq m d:=λk hk=>h k (Nat.le_trans e hk)
theorem Hw {n:Nat} {i:Int}:Rq n (.int i):=λm _=>by cases m <;> (show some (i == i)=some true;rw [beq_self_eq_true])
theorem Hx {n:Nat} {i:Str}:Rq n (.str i):=λm _=>by cases m <;> (show some (i == i)=some true;rw [beq_self_eq_true])
theorem JW {n:Nat} {xs:List D} (h:∀x∈xs,Rq n x):Rq (n + 1) (.tup xs):=λm hm=>by
 obtain ⟨k,rfl⟩:∃k,m=k + 1:=⟨m - 1,by lia⟩
 have e:Dx (eqN k) xs xs=some true:=E9 λx hx=>h x hx k (by lia)
 rw [eqN,e]
 simp
theorem JV {n:Nat} {xs:List D} (h:∀x∈xs,Rq n x):Rq (n + 1) (.lst xs):=λm hm=>by
 obtain ⟨k,rfl⟩:∃k,m=k + 1:=⟨m - 1,by lia⟩
 rw [eqN,if_pos rfl]
 exact E9 λx hx=>h x hx k (by lia)
theorem X6 {p:D->Prop} {a:D} (h:p a):∀x∈[a],p x:=λx hx=>by rw [List.mem_singleton.mp hx];exact h
theorem Mb {p:D->Prop} {a b:D} (h:p a) (h2:p b):∀x∈[a,b],p x:=λx hx=>(List.mem_cons.mp hx).elim (λe=>by rw [e];exact h) (X6 h2 x)
theorem U2 {p:D->Prop} {a b c:D} (h:p a) (h2:p b) (h3:p c):∀x∈[a,b,c],p x:=λx hx=>(List.mem_cons.mp hx).elim (λe=>by rw [e];exact h) (Mb h2 h3 x)
def mB:Nat->Nat
 | 0=>0
 | m + 1=>10 + vB m * 2 + mB m * 2
structure Mis (n:Nat) (s:Sh) (v:D):Prop where
 ok:okD v=true
 no:AD s v=false
 rq:Rq n v
structure Fit (n:Nat) (s:Sh) (v:D):Prop where
 ok:okD v=true
 fit:AD s v=true
 rq:Rq n v
theorem PL {s:Sh} {v:D} {n:Nat} (hn:s.depth<=n) (hw:wf s=true) (h:AD s v=true):Fit n s v:=by
 obtain ⟨h1,h2,h3⟩:=Gk s.depth s (Nat.le_refl _) hw v h
 exact ⟨SU h1,h,λm hm=>h3 m (Nat.le_trans hn hm)⟩
def Gr (S S':List Ob):Prop:=S.length<=S'.length/\∀i,i < S.length->S'[i]?=S[i]?
theorem Gr.trans {S S1 S2:List Ob} (a:Gr S S1) (b:Gr S1 S2):Gr S S2:=⟨Nat.le_trans a.1 b.1,λi h=>(b.2 i (Nat.lt_of_lt_of_le h a.1)).trans (a.2 i h)⟩
theorem Gr.app {S ex:List Ob}:Gr S (S++ex):=⟨by rw [List.length_append];lia,λi h=>List.getElem?_append_left h⟩
theorem Gr.set {S S':List Ob} {k:Nat} {o:Ob} (a:Gr S S') (h:S.length<=k):Gr S (S'.set k o):=⟨by rw [List.length_set];exact a.1,λi hi=>by rw [List.getElem?_set_ne (by lia)];exact a.2 i hi⟩
theorem Gr.get {S S':List Ob} {k:Nat} {o:Ob} (a:Gr S S') (h:S[k]?=some o):S'[k]?=some o:=by rw [a.2 k (List.getElem?_eq_some_iff.mp h).1];exact h
theorem Gr.all {F:List (Nat×Ob)} {S S':List Ob} (a:Gr S S') (h:FAll F S):FAll F S':=λp hp=>a.get (h p hp)
abbrev lr (a b:D):List (Key×D):=[(kL,a),(kRt,b)]
abbrev dW (l r:List Nat):List (Key×D):=lr (.lst (wD l)) (.lst (wD r))
abbrev dP (a b:Nat):List (Key×D):=lr (.int a) (.int b)
noncomputable def onS {α:Type} (s:Str) (a b:α):α:=if s=sL then a else b
theorem FJ {s:Str} {a b:D} (h:s=sL\/s=sR):BI (lr a b) (.inr s)=some (onS s a b):=by
 unfold onS
 rcases h with rfl | rfl
 ·rw [if_pos rfl];exact EO
 ·rw [if_neg (Ne.symm sLR)];exact EQ
theorem JF {s:Str} {a b d:D} (h:s=sL\/s=sR):B7 (lr a b) (.inr s) d=lr (onS s d a) (onS s b d):=by
 unfold onS
 rcases h with rfl | rfl
 ·rw [if_pos rfl,if_pos rfl];exact TH
 ·rw [if_neg (Ne.symm sLR),if_neg (Ne.symm sLR)];exact TJ
inductive Sr where
 | stop
 | brk (k:Nat) (s:Str)
 | next (m:D) (h a b:Nat)
def Fe (side:Str) (ws:List (Str×Sh×Int)) (w:List Nat) (p:Nat):RR×Nat:=match w[p]? with
 | none=>(.short,0)
 | some c=>match ws[c]? with
   | none=>(.broken p,0)
   | some wd=>((pSh 3 wd.2.1).run w (p + 1),c)
def Fd (side:Str) (ws:List (Str×Sh×Int)) (w:List Nat) (p:Nat):D:=match Fe side ws w p with
 | (.short,_)=>.non
 | (.broken k,_)=>.exc "Broken" [.int k,.str side]
 | (.told v e,c)=>.tup [.tup [.str side,.str (ws.getD c (Str.ofString "",.nothing,0)).1,v],.int (ws.getD c (Str.ofString "",.nothing,0)).2.2,.int e]
def D7 (g:List GS) (wl wr:List Nat) (h a b:Nat):Sr:=match Cw g h with
 | .fin=>.stop
 | .st side ws=>match Fe side ws (onS side wl wr) (onS side a b) with
   | (.short,_)=>.stop
   | (.broken k,_)=>.brk k side
   | (.told v e,c)=>.next (.tup [.str side,.str (ws.getD c (Str.ofString "",.nothing,0)).1,v]) (ws.getD c (Str.ofString "",.nothing,0)).2.2.toNat (onS side e a) (onS side b e)
def QU (f:Fn):Prop:=∀(n:Int) (side:Str) (ws:List (Str×Sh×Int)) (w:List Nat) (p:Nat),GSOk n (.st side ws)->p<=w.length->w.length<=50000->Pure1 f [(GS.st side ws).d,.lst (wD w),.int p] (Fd side ws w p)
theorem Vn {c:Fn} (hc:HG c 3):QU (fnOf 3 6 (DQ c)):=by
 intro n side ws w p hgs hp hwl S
 have hlw:=Cg w
 cases hgs with
 | @st _ _ hs1 hs2 hs3 hs4 hs5=>
 refine AY rfl ?_
 unfold DQ
 rw [GS.d]
 cases hb:w[p]? with
 | none=>
   have hpl:¬p < w.length:=by rw [List.getElem?_eq_none_iff] at hb;lia
   rw [show Fd side ws w p = .non by unfold Fd Fe;rw [hb]]
   walk_at "y"
   rw [hlw]
   refine Fc (by simp;lia) ?_
   walk_at "y"
   refine ⟨rfl,?_⟩
   walk_at "y"
   exact ⟨rfl,rfl⟩
 | some cc=>
   obtain ⟨hpl,_⟩:=List.getElem?_eq_some_iff.mp hb
   have hix:atI (wD w) (p:Int)=some (.int (cc:Int)):=by
    unfold atI
    rw [CT (by lia) (by rw [hlw];lia)]
    show (wD w)[(p:Int).toNat]?=_
    rw [Int.toNat_natCast]
    exact Nw hb
   walk_at "y"
   rw [hlw]
   refine Gb (by simp;lia) ?_
   walk_at "y"
   refine B0 hix ?_
   walk_at "y"
   rw [List.length_map]
   cases hw:ws[cc]? with
   | none=>
     have hcl:¬cc < ws.length:=by rw [List.getElem?_eq_none_iff] at hw;lia
     rw [show Fd side ws w p = .exc "Broken" [.int p,.str side] by unfold Fd Fe;simp only [hb,hw]]
     refine Fc (by simp;lia) ?_
     walk_at "y"
     exact ⟨rfl,rfl⟩
   | some wd=>
     obtain ⟨hcl,_⟩:=List.getElem?_eq_some_iff.mp hw
     have hwo:=hs5 wd (List.mem_of_getElem? hw)
     have hgd:ws.getD cc (Str.ofString "",.nothing,0)=wd:=by rw [List.getD_eq_getElem?_getD,hw];rfl
     have hrd:=hc wd.2.1 hwo.dep hwo.ok w (p + 1) hpl
     refine Gb (by simp;lia) ?_
     walk_at "y"
     refine B0 hix ?_
     walk_at "y"
     refine B0 (FU hw) ?_
     unfold wdD
     dsimp only
     walk_at "y"
     cases e:(pSh 3 wd.2.1).run w (p + 1) with
     | told v b=>
       rw [show Fd side ws w p = .tup [.tup [.str side,.str wd.1,v],.int wd.2.2,.int b] by unfold Fd Fe;simp only [hb,hw,e,hgd]]
       rw [e,rrD] at hrd
       refine hrd.use ?_
       walk_at "y"
       exact ⟨rfl,rfl,rfl⟩
     | short=>
       rw [show Fd side ws w p = .non by unfold Fd Fe;simp only [hb,hw,e]]
       rw [e,rrD] at hrd
       refine hrd.use ?_
       walk_at "y"
       refine ⟨rfl,?_⟩
       walk_at "y"
       exact ⟨rfl,rfl⟩
     | broken k=>
       rw [show Fd side ws w p = .exc "Broken" [.int k,.str side] by unfold Fd Fe;simp only [hb,hw,e]]
       rw [e,rrD] at hrd
       refine hrd.use ?_
       walk_at "y"
       exact ⟨rfl,rfl⟩
abbrev Rs:=List D×Nat×Nat×Nat×Option (Nat×Str)
def walkR (g:List GS) (wl wr:List Nat):Nat->Nat->Nat->Nat->List D->Rs
 | 0,h,a,b,t=>(t,h,a,b,none)
 | f + 1,h,a,b,t=>match D7 g wl wr h a b with
   | .stop=>(t,h,a,b,none)
   | .brk k s=>(t,h,a,b,some (k,s))
   | .next m h' a' b'=>walkR g wl wr f h' a' b' (t++[m])
structure Pl (g:List GS) (wl wr:List Nat) (h a b:Nat):Prop where
 h:h < g.length
 a:a<=wl.length
 b:b<=wr.length
theorem Qm {s:Str} {a b:Nat} {wl wr:List Nat} (ha:a<=wl.length) (hb:b<=wr.length):onS s a b<=(onS s wl wr).length:=by unfold onS;split <;> assumption
theorem HA {g:List GS} {wl wr:List Nat} {h a b:Nat} (hg:GOk g) (p:Pl g wl wr h a b) {m:D} {h' a' b':Nat} (e:D7 g wl wr h a b = .next m h' a' b'):Pl g wl wr h' a' b'/\a + b < a' + b':=by
 have hgs:=Ek hg p.h
 unfold D7 at e
 cases eg:Cw g h with
 | fin=>rw [eg] at e;cases e
 | st side ws=>
   rw [eg] at e hgs
   cases hgs with
   | @st _ _ hs1 hs2 hs3 hs4 hs5=>
   dsimp only at e
   unfold Fe at e
   cases hb:(onS side wl wr)[onS side a b]? with
   | none=>rw [hb] at e;cases e
   | some c=>
     rw [hb] at e
     dsimp only at e
     cases hw:ws[c]? with
     | none=>rw [hw] at e;cases e
     | some wd=>
       rw [hw] at e
       dsimp only at e
       obtain ⟨hpl,_⟩:=List.getElem?_eq_some_iff.mp hb
       have hwo:=hs5 wd (List.mem_of_getElem? hw)
       have hlo:=hwo.lo
       have hhi:=hwo.hi
       have hgd:ws.getD c (Str.ofString "",.nothing,0)=wd:=by rw [List.getD_eq_getElem?_getD,hw];rfl
       cases er:(pSh 3 wd.2.1).run (onS side wl wr) (onS side a b + 1) with
       | short=>rw [er] at e;cases e
       | broken k=>rw [er] at e;cases e
       | told v x=>
         rw [er] at e
         dsimp only at e
         rw [hgd] at e
         injection e with e1 e2 e3 e4
         obtain ⟨l1,l2⟩:=EV _ _ hpl er
         have pa:=p.a
         have pb:=p.b
         subst e2
         unfold onS at e3 e4 l1 l2
         by_cases q:side=sL
         ·rw [if_pos q] at e3 e4 l1 l2
          exact ⟨⟨by lia,by lia,by lia⟩,by lia⟩
         ·rw [if_neg q] at e3 e4 l1 l2
          exact ⟨⟨by lia,by lia,by lia⟩,by lia⟩
theorem Wx {n:Nat} {x:Str} {neg:Bool} {kvs:List (Key×D)} {t:T} {P:D->T->Prop} (e:t.S[n]?=some (.dct kvs)) (h:P (.bl (if neg then !(BI kvs (.inr x)).isSome else (BI kvs (.inr x)).isSome)) t):W (inS neg (.str x) (.obj n)) t P:=
 ⟨_,_,by simp only [inS,e],h⟩
theorem Wt {n:Nat} {kvs:List (Key×D)} {t:T} {P:D->T->Prop} (e:t.S[n]?=some (.dct kvs)) (h:P (.obj t.S.length) ⟨t.env,t.S++[.dct kvs]⟩):W (Jp [.obj n]) t P:=
 ⟨_,_,by simp only [Jp,e],h⟩
theorem Ra {a b:D}:BI (lr a b) (.inr (Str.ofString "end"))=none:=by
 have h1:decide (kL=(Sum.inr (Str.ofString "end"):Key))=false:=by decide +kernel
 have h2:decide (kRt=(Sum.inr (Str.ofString "end"):Key))=false:=by decide +kernel
 unfold BI
 rw [List.find?_cons,show decide ((kL,a).1=(Sum.inr (Str.ofString "end"):Key))=false from h1]
 dsimp only
 rw [List.find?_cons,show decide ((kRt,b).1=(Sum.inr (Str.ofString "end"):Key))=false from h2]
 rfl
theorem t9 {a0 a1 a2 a3 a6 e7 e8:Option Sl} {X Y:List D} {x y:D} {S:List Ob} (h1:X=Y) (h2:x=y):(⟨[a0,a1,a2,a3,some (.own X),some (.val x),a6,e7,e8],S⟩:T)=⟨[a0,a1,a2,a3,some (.own Y),some (.val y),a6,e7,e8],S⟩:=by subst h1 h2;rfl
def roD (r:D) (S':List Ob):Rs->Prop
 | (t,h,a,b,none)=>∃K,r = .tup [.lst t,.int h,.obj K]/\S'[K]?=some (.dct (dP a b))
 | (_,_,_,_,some (k,s))=>r = .exc "Broken" [.int k,.str s]
def L6 (f:Fn):Prop:=∀(g:List GS) (wl wr:List Nat) (h a b W P:Nat) (S:List Ob),GOk g->Pl g wl wr h a b->wl.length<=25000->wr.length<=25000->S[W]?=some (.dct (dW wl wr))->S[P]?=some (.dct (dP a b))->
 Wf f [.lst (g.map GS.d),.int h,.obj W,.obj P] S λr S'=>Gr S S'/\roD r S' (walkR g wl wr (wl.length + wr.length + 1) h a b [])
theorem O0 {c:Fn} (hc:QU c):L6 (fnOf 4 9 (F5 c)):=by
 intro g wl wr h a b W P S hg p hl1 hl2 hW hP
 have hL:LIM=100000:=rfl
 refine AY rfl ?_
 unfold F5
 walk_at "y"
 refine Wt hP ?_
 walk_at "y"
 generalize hR:walkR g wl wr (wl.length + wr.length + 1) h a b []=R
 obtain ⟨K,hK⟩:∃K,K=S.length:=⟨_,rfl⟩
 rw [<-hK]
 refine GA (λn t=>∃(h' a' b':Nat) (tk:List D) (S':List Ob) (e7 e8:Option Sl),Pl g wl wr h' a' b'/\wl.length + wr.length + 1<=n + (a' + b')/\tk.length + n<=wl.length + wr.length + 1/\walkR g wl wr n h' a' b' tk=R/\Gr S S'/\S'[K]?=some (.dct (dP a' b'))/\t=⟨[some (.val (.lst (g.map GS.d))),some (.val (.int h)),some (.val (.obj W)),some (.val (.obj P)),some (.own tk),some (.val (.int h')),some (.val (.obj K)),e7,e8],S'⟩) ?_ LG (wl.length + wr.length + 1) _ ?_ ?_
 ·rintro n t ⟨h',a',b',tk,S',e7,e8,p',hn,ht,hR',hG,hK',rfl⟩
  have pa:=p'.a
  have pb:=p'.b
  obtain ⟨m,rfl⟩:∃m,n=m + 1:=⟨n - 1,by lia⟩
  have hgs:=Ek hg p'.h
  have hix:=FI p'.h
  have hW':=hG.get hW
  unfold walkR D7 at hR'
  cases eg:Cw g h' with
  | fin=>
    rw [eg] at hix hR'
    rw [GS.d] at hix
    walk_at "y"
    refine B0 hix ?_
    walk_at "y"
    refine Wx hW' ?_
    rw [Ra]
    walk_at "y"
    show Fg _ _ Out.next _
    walk_at "y"
    subst hR'
    exact ⟨rfl,hG,K,rfl,hK'⟩
  | st side ws=>
    rw [eg] at hix hR' hgs
    have hs:side=sL\/side=sR:=by cases hgs with | st hs1 _ _ _ _=>exact hs1
    have hix2:=hix
    rw [GS.d] at hix2
    walk_at "y"
    refine B0 hix2 ?_
    walk_at "y"
    refine Wx hW' ?_
    rw [FJ hs]
    walk_at "y"
    refine ⟨m,rfl,?_⟩
    walk_at "y"
    refine B0 hix2 ?_
    walk_at "y"
    refine B0 hix ?_
    walk_at "y"
    refine Ca hW' (FJ hs) ?_
    walk_at "y"
    refine Ca hK' (FJ hs) ?_
    walk_at "y"
    have hon:(onS side (D.int (a':Int)) (D.int (b':Int))) = .int ((onS side a' b':Nat):Int):=by unfold onS;split <;> rfl
    have hon2:(onS side (D.lst (wD wl)) (D.lst (wD wr))) = .lst (wD (onS side wl wr)):=by unfold onS;split <;> rfl
    rw [hon,hon2]
    have hle:=Qm (s:=side) pa pb
    have hms:=hc g.length side ws (onS side wl wr) (onS side a' b') hgs hle (by unfold onS;split <;> lia)
    unfold Fd at hms
    dsimp only at hR'
    generalize hmr:Fe side ws (onS side wl wr) (onS side a' b')=mr at hms hR'
    obtain ⟨r0,c0⟩:=mr
    cases r0 with
    | short=>
      dsimp only at hms hR'
      refine hms.use ?_
      walk_at "y"
      refine W_ret.mpr ?_
      show Fg _ _ Out.next _
      walk_at "y"
      subst hR'
      exact ⟨rfl,hG,K,rfl,hK'⟩
    | broken k=>
      dsimp only at hms hR'
      refine hms.use ?_
      walk_at "y"
      subst hR'
      exact ⟨hG,rfl⟩
    | told v e=>
      dsimp only at hms hR'
      have hst:D7 g wl wr h' a' b' = .next (.tup [.str side,.str (ws.getD c0 (Str.ofString "",.nothing,0)).1,v]) (ws.getD c0 (Str.ofString "",.nothing,0)).2.2.toNat (onS side e a') (onS side b' e):=by
       unfold D7
       rw [eg]
       dsimp only
       rw [hmr]
      obtain ⟨p2,hlt⟩:=HA hg p' hst
      refine hms.use ?_
      walk_at "y"
      refine Cj (by rw [hL];lia) ?_
      walk_at "y"
      refine C5 ?_
      walk_at "y"
      refine Cm hK' (by show 2 < 100000;decide) ?_
      rw [JF hs]
      have hwl:(0:Int)<=(ws.getD c0 (Str.ofString "",.nothing,0)).2.2:=by
       cases hgs with
       | st _ h2 _ _ h5=>
         cases hq:ws[c0]? with
         | none=>rw [List.getD_eq_getElem?_getD,hq];exact Int.le_refl _
         | some wd=>rw [List.getD_eq_getElem?_getD,hq];exact (h5 wd (List.mem_of_getElem? hq)).lo
      have hd:lr (onS side (D.int (e:Int)) (D.int (a':Int))) (onS side (D.int (b':Int)) (D.int (e:Int)))=dP (onS side e a') (onS side b' e):=by unfold onS;split <;> rfl
      refine ⟨_,_,_,tk++[_],_,_,_,p2,by lia,by rw [List.length_append,List.length_singleton];lia,hR',hG.set (by lia),(BS hK').trans (congrArg (λl=>some (Ob.dct l)) hd),t9 rfl (congrArg D.int (Int.toNat_of_nonneg hwl).symm)⟩
 ·show _ < 1000000
  lia
 ·exact ⟨h,a,b,[],_,none,none,p,by lia,by simp,hR,Gr.app,by rw [hK];exact CP,rfl⟩
def L7 (f:Fn):Prop:=∀(g:List GS) (wl wr:List Nat) (S:List Ob),GOk g->wl.length<=25000->wr.length<=25000->Wf f [.lst (g.map GS.d),.lst (wD wl),.lst (wD wr)] S λr S'=>Gr S S'/\match walkR g wl wr (wl.length + wr.length + 1) 0 0 0 [] with
 | (t,h,a,b,none)=>r = .tup [.lst t,.int h,.tup [.int a,.int b]]
 | (_,_,_,_,some (k,s))=>r = .exc "Broken" [.int k,.str s]
theorem O8 {c:Fn} (hc:L6 c):L7 (fnOf 3 4 (F6 c)):=by
 intro g wl wr S hg hl1 hl2
 refine AY rfl ?_
 unfold F6
 walk_at "y"
 refine Fq ?_
 refine BB ?_
 walk_at "y"
 refine BB ?_
 walk_at "y"
 refine C4 ?_
 refine ⟨by simp,by show 2<=15;decide,?_⟩
 have hA:Gr S ((S++[Ob.dct []]).set S.length (.dct (Bs (dW wl wr)))):=Gr.app.set (Nat.le_refl _)
 have hB:((S++[Ob.dct []]).set S.length (.dct (Bs (dW wl wr))))[S.length]?=some (.dct (dW wl wr)):=by rw [Ec];exact BS CP
 show W _ ⟨_,(S++[Ob.dct []]).set S.length (.dct (Bs (dW wl wr)))⟩ _
 generalize (S++[Ob.dct []]).set S.length (.dct (Bs (dW wl wr)))=S1 at hA hB ⊢
 walk_at "y"
 refine Fq ?_
 refine BB ?_
 walk_at "y"
 refine BB ?_
 walk_at "y"
 refine C4 ?_
 refine ⟨by simp,by show 2<=15;decide,?_⟩
 have hC:Gr S1 ((S1++[Ob.dct []]).set S1.length (.dct (Bs (dP 0 0)))):=Gr.app.set (Nat.le_refl _)
 have hD:((S1++[Ob.dct []]).set S1.length (.dct (Bs (dP 0 0))))[S1.length]?=some (.dct (dP 0 0)):=by rw [Ec];exact BS CP
 show W _ ⟨_,(S1++[Ob.dct []]).set S1.length (.dct (Bs (dP 0 0)))⟩ _
 generalize (S1++[Ob.dct []]).set S1.length (.dct (Bs (dP 0 0)))=S2 at hC hD ⊢
 walk_at "y"
 refine (hc g wl wr 0 0 0 S.length S1.length S2 hg ⟨hg.ne,Nat.zero_le _,Nat.zero_le _⟩ hl1 hl2 (hC.get hB) hD).mono λr S3 ⟨hG,hr⟩=>?_
 have hS:=hA.trans (hC.trans hG)
 generalize walkR g wl wr (wl.length + wr.length + 1) 0 0 0 []=R at hr ⊢
 obtain ⟨t,h,a,b,o⟩:=R
 cases o with
 | none=>
   obtain ⟨K,rfl,hK⟩:=hr
   walk_at "y"
   refine Ca hK EO ?_
   walk_at "y"
   refine Ca hK EQ ?_
   walk_at "y"
   exact ⟨rfl,hS,rfl⟩
 | some z=>
   obtain ⟨k,s⟩:=z
   have hr:r = .exc "Broken" [.int k,.str s]:=hr
   subst hr
   walk_at "y"
   exact ⟨hS,rfl⟩
noncomputable def vaD:RR->D
 | .told v e=>.lst [.str "value",v,.int (e:Int)]
 | .short=>.lst [.str "short",.non,.non]
 | .broken k=>.lst [.str "broken",.int (k:Int),.non]
def QT (f:Fn):Prop:=∀s:Sh,s.depth<=3->wf s=true->∀(w:List Nat) (a:Nat),a<=w.length->Pure1 f [s.d,.lst (wD w),.int (a:Int)] (vaD ((pSh 3 s).run w a))
theorem TK {c:Fn} (hc:HG c 3):QT (fnOf 3 6 (Dp c)):=by
 intro s hs hw w a ha S
 refine AY rfl ?_
 unfold Dp
 have h:=hc s hs hw w a ha
 cases e:(pSh 3 s).run w a with
 | told v b=>
   rw [e,rrD] at h
   walk_at "y"
   refine h.use ?_
   walk_at "y"
   exact ⟨rfl,rfl⟩
 | short=>
   rw [e,rrD] at h
   walk_at "y"
   refine h.use ?_
   walk_at "y"
   exact ⟨rfl,rfl⟩
 | broken k=>
   rw [e,rrD] at h
   walk_at "y"
   refine h.use ?_
   walk_at "y"
   exact ⟨rfl,rfl⟩
noncomputable def brD:Option (Nat×Str)->D
 | none=>.non
 | some (k,s)=>.tup [.int (k:Int),.str s]
def Oq (f:Fn):Prop:=∀(g:List GS) (wl wr:List Nat) (W:Nat) (S:List Ob),GOk g->wl.length<=25000->wr.length<=25000->S[W]?=some (.dct (dW wl wr))->Wf f [.lst (g.map GS.d),.obj W] S λr S'=>Gr S S'/\match walkR g wl wr (wl.length + wr.length + 1) 0 0 0 [] with
 | (t,h,a,b,o)=>∃K,r = .lst [.lst t,.int h,.obj K,brD o]/\S'[K]?=some (.dct (dP a b))
theorem Yo {a0 a1 a4 e5 e6 e7 e8 e9 e10 e11:Option Sl} {X Y:List D} {x y:D} {S:List Ob} (h1:X=Y) (h2:x=y):(⟨[a0,a1,some (.own X),some (.val x),a4,e5,e6,e7,e8,e9,e10,e11],S⟩:T)=⟨[a0,a1,some (.own Y),some (.val y),a4,e5,e6,e7,e8,e9,e10,e11],S⟩:=by subst h1 h2;rfl
theorem Ru {c:Fn} (hc:QT c):Oq (fnOf 2 12 (ED c)):=by
 intro g wl wr W S hg hl1 hl2 hW
 have hL:LIM=100000:=rfl
 refine AY rfl ?_
 unfold ED
 walk_at "y"
 refine Fq ?_
 refine BB ?_
 walk_at "y"
 refine BB ?_
 walk_at "y"
 refine C4 ?_
 refine ⟨by simp,by show 2<=15;decide,?_⟩
 have hA:Gr S ((S++[Ob.dct []]).set S.length (.dct (Bs (dP 0 0)))):=Gr.app.set (Nat.le_refl _)
 have hB:((S++[Ob.dct []]).set S.length (.dct (Bs (dP 0 0))))[S.length]?=some (.dct (dP 0 0)):=by rw [Ec];exact BS CP
 show Fg _ _ Out.next ⟨_,(S++[Ob.dct []]).set S.length (.dct (Bs (dP 0 0)))⟩
 generalize (S++[Ob.dct []]).set S.length (.dct (Bs (dP 0 0)))=S1 at hA hB ⊢
 obtain ⟨K,hK⟩:∃K,K=S.length:=⟨_,rfl⟩
 rw [<-hK] at hB ⊢
 walk_at "y"
 generalize hR:walkR g wl wr (wl.length + wr.length + 1) 0 0 0 []=R
 refine GA (λn t=>∃(h' a' b':Nat) (tk:List D) (S':List Ob) (e5 e6 e7 e8 e9 e10 e11:Option Sl),Pl g wl wr h' a' b'/\wl.length + wr.length + 1<=n + (a' + b')/\tk.length + n<=wl.length + wr.length + 1/\walkR g wl wr n h' a' b' tk=R/\Gr S S'/\S'[K]?=some (.dct (dP a' b'))/\t=⟨[some (.val (.lst (g.map GS.d))),some (.val (.obj W)),some (.own tk),some (.val (.int h')),some (.val (.obj K)),e5,e6,e7,e8,e9,e10,e11],S'⟩) ?_ LG (wl.length + wr.length + 1) _ ?_ ?_
 ·rintro n t ⟨h',a',b',tk,S',e5,e6,e7,e8,e9,e10,e11,p',hn,ht,hR',hG,hK',rfl⟩
  have pa:=p'.a
  have pb:=p'.b
  obtain ⟨m,rfl⟩:∃m,n=m + 1:=⟨n - 1,by lia⟩
  have hgs:=Ek hg p'.h
  have hix:=FI p'.h
  have hW':=hG.get hW
  unfold walkR D7 at hR'
  walk_at "y"
  refine B0 hix ?_
  walk_at "y"
  refine QO ?_
  cases eg:Cw g h' with
  | fin=>
    rw [eg] at hix hR'
    walk_at "y"
    show Fg _ _ Out.next _
    walk_at "y"
    subst hR'
    exact ⟨hG,K,rfl,hK'⟩
  | st side ws=>
    rw [eg] at hix hR' hgs
    have hst0:=eg
    cases hgs with
    | @st _ _ hs hs2 hs3 hs4 hs5=>
    rw [GS.d] at hix
    have hle:=Qm (s:=side) pa pb
    have hon:(onS side (D.int (a':Int)) (D.int (b':Int))) = .int ((onS side a' b':Nat):Int):=by unfold onS;split <;> rfl
    have hon2:(onS side (D.lst (wD wl)) (D.lst (wD wr))) = .lst (wD (onS side wl wr)):=by unfold onS;split <;> rfl
    have hgW:∀{t:T} {Q:D->T->Prop},t.S[W]?=some (.dct (dW wl wr))->Q (.lst (wD (onS side wl wr))) t->F2.W (BY (.obj W) (.str side)) t Q:=λe q=>Ca e (FJ hs) (by rw [hon2];exact q)
    have hgK:∀{t:T} {Q:D->T->Prop},t.S[K]?=some (.dct (dP a' b'))->Q (.int ((onS side a' b':Nat):Int)) t->F2.W (BY (.obj K) (.str side)) t Q:=λe q=>Ca e (FJ hs) (by rw [hon];exact q)
    have hlw:=Cg (onS side wl wr)
    walk_at "y"
    refine ⟨m,rfl,?_⟩
    walk_at "y"
    refine B0 hix ?_
    walk_at "y"
    refine hgK hK' ?_
    walk_at "y"
    refine hgW hW' ?_
    walk_at "y"
    rw [hlw]
    dsimp only at hR'
    unfold Fe at hR'
    cases hb:(onS side wl wr)[onS side a' b']? with
    | none=>
      have hpl:onS side a' b'=(onS side wl wr).length:=by rw [List.getElem?_eq_none_iff] at hb;lia
      rw [hb] at hR'
      refine Fc (by simp [hpl]) ?_
      refine W_ret.mpr ?_
      show Fg _ _ Out.next _
      walk_at "y"
      subst hR'
      exact ⟨hG,K,rfl,hK'⟩
    | some cc=>
      obtain ⟨hpl,_⟩:=List.getElem?_eq_some_iff.mp hb
      rw [hb] at hR'
      dsimp only at hR'
      have hixw:atI (wD (onS side wl wr)) ((onS side a' b':Nat):Int)=some (.int (cc:Int)):=by
       unfold atI
       rw [CT (by lia) (by rw [hlw];lia)]
       show (wD (onS side wl wr))[((onS side a' b':Nat):Int).toNat]?=_
       rw [Int.toNat_natCast]
       exact Nw hb
      refine Gb (by simp;lia) ?_
      walk_at "y"
      refine hgW hW' ?_
      walk_at "y"
      refine B0 hixw ?_
      walk_at "y"
      rw [List.length_map]
      cases hw:ws[cc]? with
      | none=>
        have hcl:¬cc < ws.length:=by rw [List.getElem?_eq_none_iff] at hw;lia
        rw [hw] at hR'
        refine Fc (by simp;lia) ?_
        walk_at "y"
        subst hR'
        exact ⟨hG,K,rfl,hK'⟩
      | some wd=>
        obtain ⟨hcl,_⟩:=List.getElem?_eq_some_iff.mp hw
        have hwo:=hs5 wd (List.mem_of_getElem? hw)
        have hgd:ws.getD cc (Str.ofString "",.nothing,0)=wd:=by rw [List.getD_eq_getElem?_getD,hw];rfl
        have hrd:=hc wd.2.1 hwo.dep hwo.ok (onS side wl wr) (onS side a' b' + 1) hpl
        rw [hw] at hR'
        dsimp only at hR'
        refine Gb (by simp;lia) ?_
        walk_at "y"
        refine B0 (FU hw) ?_
        unfold wdD
        dsimp only
        walk_at "y"
        refine hgW hW' ?_
        walk_at "y"
        cases er:(pSh 3 wd.2.1).run (onS side wl wr) (onS side a' b' + 1) with
        | short=>
          rw [er,vaD] at hrd
          rw [er] at hR'
          refine hrd.use ?_
          walk_at "y"
          refine W_ret.mpr ?_
          show Fg _ _ Out.next _
          walk_at "y"
          subst hR'
          exact ⟨hG,K,rfl,hK'⟩
        | broken k=>
          rw [er,vaD] at hrd
          rw [er] at hR'
          refine hrd.use ?_
          walk_at "y"
          subst hR'
          exact ⟨hG,K,rfl,hK'⟩
        | told v e=>
          have hst:D7 g wl wr h' a' b' = .next (.tup [.str side,.str wd.1,v]) wd.2.2.toNat (onS side e a') (onS side b' e):=by
           unfold D7
           rw [hst0]
           dsimp only
           unfold Fe
           simp only [hb,hw,er,hgd]
          obtain ⟨p2,hlt⟩:=HA hg p' hst
          rw [er,vaD] at hrd
          rw [er] at hR'
          dsimp only at hR'
          rw [hgd] at hR'
          refine hrd.use ?_
          walk_at "y"
          refine B0 (FU hw) ?_
          unfold wdD
          dsimp only
          walk_at "y"
          refine Cj (by rw [hL];lia) ?_
          walk_at "y"
          refine B0 (FU hw) ?_
          unfold wdD
          dsimp only
          walk_at "y"
          refine C5 ?_
          walk_at "y"
          refine Cm hK' (by show 2 < 100000;decide) ?_
          rw [JF hs]
          have hd:lr (onS side (D.int (e:Int)) (D.int (a':Int))) (onS side (D.int (b':Int)) (D.int (e:Int)))=dP (onS side e a') (onS side b' e):=by unfold onS;split <;> rfl
          exact ⟨_,_,_,tk++[_],_,_,_,_,_,_,_,_,p2,by lia,by rw [List.length_append,List.length_singleton];lia,hR',hG.set (by lia),(BS hK').trans (congrArg (λl=>some (Ob.dct l)) hd),Yo rfl (congrArg D.int (Int.toNat_of_nonneg hwo.lo).symm)⟩
 ·show _ < 1000000
  lia
 ·exact ⟨0,0,0,[],S1,none,none,none,none,none,none,none,⟨hg.ne,Nat.zero_le _,Nat.zero_le _⟩,by lia,by simp,hR,hA,hB,rfl⟩
theorem Ti {α:Type} {l:List α} {j:Nat} {d:α} {r:List α} (e:d :: r=l.drop j):l[j]?=some d/\r=l.drop (j + 1):=by
 constructor
 ·have:=congrArg (λx=>x[0]?) e
  simp only [List.getElem?_cons_zero,List.getElem?_drop,Nat.add_zero] at this
  exact this.symm
 ·have:=congrArg List.tail e
  rw [List.tail_drop] at this
  exact this
abbrev So (xs:List D):Prop:=∀x∈xs,∃i:Int,x = .int i
theorem Ld:∀{xs:List D},So xs->IR xs=true
 | [],_=>rfl
 | x :: r,h=>by
   obtain ⟨i,rfl⟩:=h x List.mem_cons_self
   rw [IR,Ld λy m=>h y (List.mem_cons_of_mem _ m)];rfl
theorem UD {g:List GS} {wl wr:List Nat} (hwl:∀x∈wl,x < 256) (hwr:∀x∈wr,x < 256) {h a b:Nat} (hg:GOk g) (p:Pl g wl wr h a b) {m:D} {h' a' b':Nat} (e:D7 g wl wr h a b = .next m h' a' b'):Rq 5 m:=by
 have hgs:=Ek hg p.h
 unfold D7 at e
 cases eg:Cw g h with
 | fin=>rw [eg] at e;cases e
 | st side ws=>
   rw [eg] at e hgs
   cases hgs with
   | @st _ _ hs1 hs2 hs3 hs4 hs5=>
   dsimp only at e
   unfold Fe at e
   cases hb:(onS side wl wr)[onS side a b]? with
   | none=>rw [hb] at e;cases e
   | some c=>
     rw [hb] at e
     dsimp only at e
     cases hw:ws[c]? with
     | none=>rw [hw] at e;cases e
     | some wd=>
       rw [hw] at e
       dsimp only at e
       obtain ⟨hpl,_⟩:=List.getElem?_eq_some_iff.mp hb
       have hwo:=hs5 wd (List.mem_of_getElem? hw)
       cases er:(pSh 3 wd.2.1).run (onS side wl wr) (onS side a b + 1) with
       | short=>rw [er] at e;cases e
       | broken k=>rw [er] at e;cases e
       | told v x=>
         rw [er] at e
         injection e with e1 e2 e3 e4
         rw [<-e1]
         have hall:∀y∈onS side wl wr,y < 256:=by unfold onS;split <;> assumption
         have hf:=(Nj 3 wd.2.1 hwo.dep hwo.ok _ hall _ _ _ hpl er).1
         exact JW (n:=4) (U2 Hx Hx ((PL hwo.dep hwo.ok hf).rq.mono (by decide)))
theorem Oj {g:List GS} {wl wr:List Nat} (hwl:∀x∈wl,x < 256) (hwr:∀x∈wr,x < 256) (hg:GOk g):∀(f h a b:Nat) (t:List D),Pl g wl wr h a b->(∀x∈t,Rq 5 x)->∀x∈(walkR g wl wr f h a b t).1,Rq 5 x
 | 0,h,a,b,t,p,ht=>ht
 | f + 1,h,a,b,t,p,ht=>by
   unfold walkR
   cases e:D7 g wl wr h a b with
   | stop=>exact ht
   | brk k s=>exact ht
   | next m h' a' b'=>
     refine Oj hwl hwr hg f h' a' b' _ (HA hg p e).1 λx hx=>?_
     rcases List.mem_append.mp hx with hx | hx
     ·exact ht x hx
     ·rw [List.mem_singleton.mp hx];exact UD hwl hwr hg p e
def Op (f:Fn):Prop:=∀(g:List GS) (wl wr:List Nat) (H:Nat) (S:List Ob),GOk g->wl.length<=25000->wr.length<=25000->S[H]?=some (.dct (dW wl wr))->Wf f [.lst (g.map GS.d),.obj H] S λr S'=>Gr S S'/\match walkR g wl wr (wl.length + wr.length + 1) 0 0 0 [] with
 | (t,h,a,b,none)=>r = .lst [.str "told",.tup [.lst t,.int h,.tup [.int a,.int b]]]
 | (_,_,_,_,some (k,s))=>r = .lst [.str "refused",.tup [.int k,.str s]]
theorem Rr {c:Fn} (hc:L7 c):Op (fnOf 2 6 (DF c)):=by
 intro g wl wr H S hg hl1 hl2 hH
 refine AY rfl ?_
 unfold DF
 walk_at "y"
 refine Ca hH EO ?_
 walk_at "y"
 refine Ca hH EQ ?_
 walk_at "y"
 refine (hc g wl wr S hg hl1 hl2).mono λr S1 ⟨hG,hr⟩=>?_
 generalize walkR g wl wr (wl.length + wr.length + 1) 0 0 0 []=R at hr ⊢
 obtain ⟨t,h,a,b,o⟩:=R
 cases o with
 | none=>
   have hr:r = .tup [.lst t,.int h,.tup [.int a,.int b]]:=hr
   subst hr
   walk_at "y"
   exact ⟨hG,rfl⟩
 | some z=>
   obtain ⟨k,s⟩:=z
   have hr:r = .exc "Broken" [.int k,.str s]:=hr
   subst hr
   walk_at "y"
   refine Xx ⟨by decide,by show 1 * 6<=100000;decide⟩ ?_
   walk_at "y"
   refine KS rfl (by decide +kernel) ?_
   walk_at "y"
   exact ⟨hG,rfl⟩
theorem Xn {m n:Nat} {g:Bool} {kvs:List (Key×D)} {t:T} {P:D->T->Prop} (e1:t.S[m]?=some (.dct kvs)) (e2:t.S[n]?=some (.dct kvs)) (h:kvs.all (λkv=>match BI kvs kv.1 with | some e=>alike1 t.S kv.2 e | none=>false)=true) (q:P (.bl g) t):W (MA g (.obj m) (.obj n)) t P:=
 ⟨_,_,by unfold MA;dsimp only;rw [e1,e2];dsimp only;rw [if_pos ⟨rfl,h⟩],q⟩
theorem Ma {S:List Ob} (w:List Nat):alike1 S (.lst (wD w)) (.lst (wD w))=true:=by
 have hi:So (wD w):=λx hx=>by
  unfold wD at hx
  obtain ⟨n,_,rfl⟩:=List.mem_map.mp hx
  exact ⟨_,rfl⟩
 unfold alike1
 have hp:C3 (EH S (.lst (wD w)))=true:=by
  show C3 (.lst (wD w))=true
  simp only [C3,Ld hi]
 have he:eqN EQD (EH S (.lst (wD w))) (EH S (.lst (wD w)))=some true:=by
  show eqN EQD (.lst (wD w)) (.lst (wD w))=some true
  refine JV (n:=0) (λx hx=>?_) 40 (by decide)
  obtain ⟨i,rfl⟩:=hi x hx
  exact Hw
 rw [hp,he]
 rfl
theorem Q2 {S:List Ob} (l r:List Nat):(dW l r).all (λkv=>match BI (dW l r) kv.1 with | some e=>alike1 S kv.2 e | none=>false)=true:=by
 rw [List.all_cons,List.all_cons,List.all_nil,Bool.and_true,Bool.and_eq_true]
 dsimp only
 rw [EO,EQ]
 exact ⟨Ma l,Ma r⟩
def On (f:Fn):Prop:=∀(g:List GS) (wl wr:List Nat) (W:Nat) (S:List Ob),GOk g->wl.length<=25000->wr.length<=25000->(∀x∈wl,x < 256)->(∀x∈wr,x < 256)->S[W]?=some (.dct (dW wl wr))->Wf f [.lst (g.map GS.d),.obj W] S λr S'=>Gr S S'/\r = .bl true
theorem Rm {ct cw:Fn} (ht:Op ct) (hw:Oq cw):On (fnOf 2 8 (DC ct cw)):=by
 intro g wl wr W S hg hl1 hl2 hb1 hb2 hW
 refine AY rfl ?_
 unfold DC
 walk_at "y"
 refine (hw g wl wr W S hg hl1 hl2 hW).mono λr S1 ⟨hG,hr⟩=>?_
 have hrq:=Oj hb1 hb2 hg (wl.length + wr.length + 1) 0 0 0 [] ⟨hg.ne,Nat.zero_le _,Nat.zero_le _⟩ (λ_ z=>nomatch z)
 have htold:=λH S2=>ht g wl wr H S2 hg hl1 hl2
 generalize walkR g wl wr (wl.length + wr.length + 1) 0 0 0 []=R at hr hrq htold
 obtain ⟨t,h,a,b,o⟩:=R
 obtain ⟨K,rfl,hK⟩:=hr
 have hW1:=hG.get hW
 walk_at "y"
 refine Fq ?_
 have hW2:(S1++[Ob.dct []])[W]?=some (.dct (dW wl wr)):=Gr.app.get hW1
 refine BB ?_
 walk_at "y"
 refine Ca hW2 EO ?_
 walk_at "y"
 refine BB ?_
 walk_at "y"
 refine Ca hW2 EQ ?_
 walk_at "y"
 refine C4 ?_
 refine ⟨by simp,by show 2<=15;decide,?_⟩
 have hA:Gr S1 ((S1++[Ob.dct []]).set S1.length (.dct (Bs (dW wl wr)))):=Gr.app.set (Nat.le_refl _)
 have hB:((S1++[Ob.dct []]).set S1.length (.dct (Bs (dW wl wr))))[S1.length]?=some (.dct (dW wl wr)):=by rw [Ec];exact BS CP
 show Fg _ _ Out.next ⟨_,(S1++[Ob.dct []]).set S1.length (.dct (Bs (dW wl wr)))⟩
 generalize (S1++[Ob.dct []]).set S1.length (.dct (Bs (dW wl wr)))=S2 at hA hB ⊢
 walk_at "y"
 refine (htold S1.length S2 hB).mono λr S3 ⟨hG3,hr3⟩=>?_
 have hK3:=hG3.get (hA.get hK)
 have hGG:=hG.trans (hA.trans hG3)
 walk_at "y"
 refine Xn (hG3.get hB) (hG3.get (hA.get hW1)) (Q2 wl wr) ?_
 walk_at "y"
 cases o with
 | none=>
   have hr3:r = .lst [.str "told",.tup [.lst t,.int h,.tup [.int a,.int b]]]:=hr3
   subst hr3
   unfold brD
   walk_at "y"
   refine Ca hK3 EO ?_
   walk_at "y"
   refine Ca hK3 EQ ?_
   walk_at "y"
   refine KS rfl ?_ ⟨hGG,rfl⟩
   exact JV (n:=8) (Mb Hx (JW (n:=7) (U2 (JV (n:=6) λx hx=>(hrq x hx).mono (by decide)) Hw (JW (n:=6) (Mb Hw Hw))))) 40 (by decide)
 | some z=>
   obtain ⟨k,s⟩:=z
   have hr3:r = .lst [.str "refused",.tup [.int k,.str s]]:=hr3
   subst hr3
   unfold brD
   walk_at "y"
   refine KS rfl ?_ ?_
   ·exact JV (n:=8) (Mb Hx (JW (n:=7) (Mb Hw Hx))) 40 (by decide)
   ·walk_at "y"
    exact ⟨hGG,rfl⟩
def isB (l:List D):Prop:=∀d∈l,∃x:Nat,d = .int (x:Int)/\x < 256
theorem PZ:∀{l:List D},isB l->∃w:List Nat,l=wD w/\∀x∈w,x < 256
 | [],_=>⟨[],rfl,λx z=>nomatch z⟩
 | d :: r,h=>by
   obtain ⟨x,rfl,hx⟩:=h d List.mem_cons_self
   obtain ⟨w,rfl,hw⟩:=PZ λd m=>h d (List.mem_cons_of_mem _ m)
   refine ⟨x :: w,rfl,λy hy=>?_⟩
   rcases List.mem_cons.mp hy with rfl | hy
   ·exact hx
   ·exact hw y hy
theorem NZ {a b:List D} (ha:isB a) (hb:isB b):isB (a++b):=λd h=>(List.mem_append.mp h).elim (ha d) (hb d)
theorem GO {x:Nat} {b:List D} (hx:x < 256) (hb:isB b):isB (.int (x:Int) :: b):=λd h=>by
 rcases List.mem_cons.mp h with rfl | h
 ·exact ⟨x,rfl,hx⟩
 ·exact hb d h
theorem Qh:∀(w n:Nat),isB (nb w n)
 | 0,n=>λd h=>nomatch h
 | w + 1,n=>NZ (Qh w _) (GO (Nat.mod_lt _ (by decide)) λd h=>nomatch h)
theorem FB:∀(n:Nat) (s:Sh),s.depth<=n->wf s=true->∀v,AD s v=true->isB (BC s v)
 | 0,s,h,_,_,_=>absurd s.depth_pos (by lia)
 | n + 1,s,hs,hw,v,hf=>by
   cases s with
   | nothing=>rw [BC];exact λd h=>nomatch h
   | number lo hi=>
     cases v <;> simp [AD] at hf
     rw [BC];exact Qh _ _
   | text q=>
     simp only [wf,Bool.and_eq_true,decide_eq_true_eq] at hw
     cases v <;> simp only [AD,Bool.false_eq_true] at hf
     rename_i x
     simp only [Bool.and_eq_true,decide_eq_true_eq,List.all_eq_true] at hf
     rw [BC]
     refine GO (by lia) λd h=>?_
     obtain ⟨c,hc,rfl⟩:=List.mem_map.mp h
     have:=hf.2 c hc
     simp only [Ci,Bool.and_eq_true,decide_eq_true_eq] at this
     exact ⟨c,rfl,by lia⟩
   | list s q=>
     simp only [wf,Bool.and_eq_true,decide_eq_true_eq] at hw
     rw [Sh.depth] at hs
     cases v <;> simp only [AD,Bool.false_eq_true] at hf
     rename_i ds
     simp only [Bool.and_eq_true,decide_eq_true_eq,List.all_eq_true] at hf
     rw [BC]
     refine GO (by lia) λd h=>?_
     obtain ⟨l,hl,hd⟩:=List.mem_flatten.mp h
     obtain ⟨e,he,rfl⟩:=List.mem_map.mp hl
     exact FB n s (by lia) hw.2 e (hf.2 e he) d hd
   | pair s r=>
     simp only [wf,Bool.and_eq_true] at hw
     rw [Sh.depth] at hs
     unfold AD at hf
     split at hf
     ·rw [Bool.and_eq_true] at hf
      rw [BC]
      exact NZ (FB n s (by lia) hw.1 _ hf.1) (FB n r (by lia) hw.2 _ hf.2)
     ·cases hf
   | choice ss=>
     simp only [wf,Bool.and_eq_true,decide_eq_true_eq] at hw
     rw [Sh.depth] at hs
     unfold AD at hf
     split at hf
     ·next o k x=>
      simp only [Bool.and_eq_true,decide_eq_true_eq] at hf
      obtain ⟨j,rfl⟩:=Int.eq_ofNat_of_zero_le hf.1.2.1
      have hj:j < ss.length:=by have:=hf.1.2.2;lia
      have e1:ss[j]?=some ss[j]:=List.getElem?_eq_getElem hj
      have h2:=hf.2
      rw [Int.toNat_natCast,DK ss _ _ _ e1] at h2
      rw [BC,Int.toNat_natCast,E7 ss _ _ _ e1]
      exact GO (by lia) (FB n _ (Nat.le_trans (DM ss _ _ e1) (by lia)) (EW hw.2 _ (List.getElem_mem hj)) x h2)
     ·cases hf
theorem YN {f:M D} {g:M (List D)} {t:T} {P:D->T->Prop} (h:W f t λo t1=>W g t1 λas t2=>∃ds y j,o = .lst ds/\as=[y]/\(GK y=true/\ds.all GK=true)/\MQ (toV y) (ds.map toV)=some j/\P (.int (j:Nat)) t2):W (idxM f g) t P:=by
 obtain ⟨o,t1,e1,as,t2,e2,ds,y,j,rfl,rfl,hf,hj,p⟩:=h
 refine ⟨_,_,?_,p⟩
 simp only [idxM,bnd,e1,e2,if_pos hf,hj]
theorem PV {ws:List (Str×Sh×Int)} (nd:(ws.map (·.1)).Nodup) {p:Nat} {w:Str×Sh×Int} (e:ws[p]?=some w):MQ (toV (.str w.1)) ((ws.map λw=>D.str w.1).map toV)=some p:=by
 unfold MQ
 rw [List.map_map,List.findIdx?_map]
 rw [<-OI nd e]
 congr 1
theorem OK {ws:List (Str×Sh×Int)}:(ws.map λw=>D.str w.1).all GK=true:=by
 rw [List.all_map,List.all_eq_true]
 intro w _
 rfl
theorem Ou {α:Type} {l:List α} {ι f:α->D} {fr:List (Option Sl)} {S:List Ob} {elt:M D} {z:Option Sl} (h:∀a∈l,W elt ⟨some (.val (ι a)) :: fr,S⟩ λx t'=>x=f a/\t'=⟨some (.val (ι a)) :: fr,S⟩) :
 W (CU (BE 0) Fh elt (l.map ι)) ⟨z :: fr,S⟩ λxs t'=>xs=l.map f/\t'.S=S:=by
 induction l generalizing z with
 | nil=>exact W_compL_nil.mpr ⟨rfl,rfl⟩
 | cons a r ih=>
   rw [List.map_cons,Ha]
   refine Je (Jf ?_)
   rw [if_pos rfl]
   refine (h a List.mem_cons_self).mono λx t' ⟨e1,e2⟩=>?_
   subst e1 e2
   refine (ih (z:=some (.val (ι a))) λb hb=>h b (List.mem_cons_of_mem _ hb)).mono λxs t' ⟨e1,e2⟩=>?_
   subst e1
   exact ⟨rfl,e2⟩
def B256 (w:List Nat):Prop:=∀x∈w,x < 256
theorem B256.app {a b:List Nat} (h:B256 a) (h2:B256 b):B256 (a++b):=λx hx=>(List.mem_append.mp hx).elim (h x) (h2 x)
def VBF (f:Fn):Prop:=∀(s:Sh),s.depth<=3->wf s=true->∀d,AD s d=true->(BC s d).length<=400->Pure1 f [s.d,d] (.lst (BC s d))
theorem Wq {c cf:Fn} (hc:HC c 3) (hf:Ge cf 3):VBF (fnOf 2 2 (Dr c cf)):=by
 intro s hs hwf d h hlen S
 have hd:okD d=true:=(PL hs hwf h).ok
 refine AY rfl ?_
 unfold Dr
 walk_at "x"
 refine (hf s hs d hd).use ?_
 rw [h]
 walk_at "x"
 refine Gy ?_
 walk_at "x"
 exact (hc s hs hwf d h (Nat.le_trans hlen (by decide))).use ⟨_,rfl,rfl,rfl,rfl⟩
def QV (n:Nat) (ps:List (List Nat)):Prop:=ps.length=n/\∀w∈ps,w.length<=401/\B256 w
def LT (f:Fn):Prop:=∀(g:List GS) (mv:List Mv) (S:List Ob),GOk g->TOk g mv->Wf f [.lst (g.map GS.d),.lst (CA g 0 mv)] S λr S'=>S'=S/\∃ps,QV mv.length ps/\r = .lst (ps.map λw=>.lst (wD w))
theorem t9s {a0 a1 e4 e5 e6 e7 e8:Option Sl} {X Y:List D} {x y:D} {S:List Ob} (h1:X=Y) (h2:x=y):(⟨[a0,a1,some (.own X),some (.val x),e4,e5,e6,e7,e8],S⟩:T)=⟨[a0,a1,some (.own Y),some (.val y),e4,e5,e6,e7,e8],S⟩:=by subst h1 h2;rfl
theorem P7 {c:Fn} (hc:VBF c):LT (fnOf 2 9 (D2 c)):=by
 intro g mv S hg hT
 have hL:LIM=100000:=rfl
 have hlen:=hT.len
 refine AY rfl ?_
 unfold D2
 walk_at "x"
 refine Dk (λr t=>∃(j:Nat) (ps:List (List Nat)) (e4 e5 e6 e7 e8:Option Sl),j<=mv.length/\r=(CA g 0 mv).drop j/\QV j ps/\t=⟨[some (.val (.lst (g.map GS.d))),some (.val (.lst (CA g 0 mv))),some (.own (ps.map λw=>.lst (wD w))),some (.val (.int (lastQ g 0 (mv.take j)))),e4,e5,e6,e7,e8],S⟩) _ _ ⟨0,[],none,none,none,none,none,Nat.zero_le _,rfl,⟨rfl,λ_ z=>nomatch z⟩,rfl⟩ ?_ ?_
 ·rintro d r t ⟨j,ps,e4,e5,e6,e7,e8,hjl,hr,hps,rfl⟩ _
  obtain ⟨hdj,hr'⟩:=Ti hr
  have hjn:j < mv.length:=by
   obtain ⟨h,_⟩:=List.getElem?_eq_some_iff.mp hdj
   rw [Em] at h
   exact h
  cases em:mv[j]? with
  | none=>rw [List.getElem?_eq_none_iff] at em;lia
  | some x=>
  obtain ⟨p,v⟩:=x
  have hm:=N5 hT.ok em
  have htk:mv.take (j + 1)=mv.take j++[(p,v)]:=by
   rw [List.take_succ,em];rfl
  have hbd:(BC (wdAt g (lastQ g 0 (mv.take j)) p).2.1 v).length<=400:=by
   have:=Rw hT.bd (j + 1)
   rw [htk,HQ] at this
   exact this.2.1
  rw [Ho g 0 mv j p v em] at hdj
  cases hdj
  have nQ:lastQ g 0 (mv.take (j + 1))=DR g (lastQ g 0 (mv.take j)) p:=by rw [htk,Hk];rfl
  have hlt:=hm.lt
  obtain ⟨side,ws,egs,hpl,ew⟩:=LO hm.pl
  have hgs:=Ek hg hlt
  have hw:=Pf hg hlt hm.pl
  have hfit:=hm.fit
  have hget:=FI hlt
  have hnx:D.int (wdAt g (lastQ g 0 (mv.take j)) p).2.2=D.int (lastQ g 0 (mv.take (j + 1)):Nat):=by
   have:=hw.lo
   rw [nQ]
   unfold DR
   congr 1
   lia
  unfold IG
  have hpc:p < 9:=by
   rw [egs] at hgs
   cases hgs with
   | st _ _ h3 _ _=>lia
  obtain ⟨bs,hbs,hb256⟩:=PZ (FB 3 _ hw.dep hw.ok v hfit)
  have hvb:=hc _ hw.dep hw.ok v hfit hbd
  generalize lastQ g 0 (mv.take j)=q at *
  generalize wdAt g q p=w at *
  rw [egs] at hgs hget
  obtain ⟨nd,h9⟩:(ws.map (·.1)).Nodup/\ws.length<=9:=by
   cases hgs with
   | st _ _ h3 h4 _=>exact ⟨h4,h3⟩
  rw [GS.d] at hget
  rw [hbs] at hvb hbd
  rw [Cg] at hbd
  walk_at "x"
  refine B0 hget ?_
  walk_at "x"
  refine YN ?_
  walk_at "x"
  refine (Ou (f:=λw=>.str w.1) (fr:=[]) ?_).mono ?_
  ·intro w' _
   unfold wdD
   walk_at "x"
   exact ⟨rfl,rfl⟩
  rintro xs tc ⟨rfl,hS⟩
  refine Cj (by rw [List.length_map,hL];lia) ?_
  rw [hS]
  walk_at "x"
  refine ⟨_,_,p,rfl,rfl,⟨rfl,OK⟩,PV nd ew,?_⟩
  walk_at "x"
  refine B0 (FU ew) ?_
  unfold wdD
  dsimp only
  walk_at "x"
  refine WF (hvb.use ⟨rfl,?_⟩)
  walk_at "x"
  refine Cj (by rw [Cg,hL];show 1 + _<=_;lia) ?_
  walk_at "x"
  refine Cj (by rw [List.length_map,hps.1,hL];lia) ?_
  walk_at "x"
  refine B0 (FU ew) ?_
  unfold wdD
  dsimp only
  walk_at "x"
  refine ⟨j + 1,ps++[p :: bs],_,_,_,_,_,hjn,hr',⟨by rw [List.length_append,hps.1];rfl,λx hx=>?_⟩,t9s (by rw [List.map_append];rfl) hnx⟩
  rcases List.mem_append.mp hx with hx | hx
  ·exact hps.2 x hx
  ·rw [List.mem_singleton.mp hx]
   exact ⟨by rw [List.length_cons];lia,λy hy=>(List.mem_cons.mp hy).elim (λe=>by rw [e];lia) (hb256 y)⟩
 ·rintro t ⟨j,ps,e4,e5,e6,e7,e8,hjl,hr,hps,rfl⟩
  have hj':j=mv.length:=by
   have:=congrArg List.length hr
   rw [List.length_nil,List.length_drop,Em] at this
   lia
  subst hj'
  walk_at "x"
  exact ⟨rfl,ps,hps,rfl⟩
def Ki (K:Nat) (S:List Ob) (m:Nat):Prop:=∃l r:List Nat,S[K]?=some (.dct (dW l r))/\B256 l/\B256 r/\l.length<=m/\r.length<=m
def LV (f:Fn):Prop:=∀(g:List GS) (mv:List Mv) (ps:List (List Nat)) (S:List Ob),GOk g->TOk g mv->QV mv.length ps->Wf f [.lst (CA g 0 mv),.lst (ps.map λw=>.lst (wD w))] S λr S'=>Gr S S'/\∃K,r = .obj K/\S.length<=K/\Ki K S' 24060
theorem Qb:LV (fnOf 2 4 CO):=by
 intro g mv ps S hg hT hps
 have hL:LIM=100000:=rfl
 have hlen:=hT.len
 refine AY rfl ?_
 unfold CO
 walk_at "x"
 refine Fq ?_
 refine BB ?_
 walk_at "x"
 refine BB ?_
 walk_at "x"
 refine C4 ?_
 refine ⟨by simp,by show 2<=15;decide,?_⟩
 have hA:Gr S ((S++[Ob.dct []]).set S.length (.dct (Bs (dW [] [])))):=Gr.app.set (Nat.le_refl _)
 have hB:((S++[Ob.dct []]).set S.length (.dct (Bs (dW [] []))))[S.length]?=some (.dct (dW [] [])):=by rw [Ec];exact BS CP
 show Fg _ _ Out.next ⟨_,(S++[Ob.dct []]).set S.length (.dct (Bs (dW [] [])))⟩
 generalize (S++[Ob.dct []]).set S.length (.dct (Bs (dW [] [])))=S1 at hA hB ⊢
 obtain ⟨K,hK⟩:∃K,K=S.length:=⟨_,rfl⟩
 rw [<-hK] at hB ⊢
 walk_at "x"
 rw [Em]
 refine Fj (C6 (by lia) (by lia)) ?_
 refine Dk (λr t=>∃(j:Nat) (S':List Ob) (e3:Option Sl),j<=mv.length/\r=(rngL 0 ((mv.length:Nat):Int).toNat).drop j/\Gr S S'/\Ki K S' (401 * j)/\t=⟨[some (.val (.lst (CA g 0 mv))),some (.val (.lst (ps.map λw=>.lst (wD w)))),some (.val (.obj K)),e3],S'⟩) _ _ ⟨0,S1,none,Nat.zero_le _,rfl,hA,⟨[],[],hB,(λ_ z=>nomatch z),(λ_ z=>nomatch z),Nat.zero_le _,Nat.zero_le _⟩,rfl⟩ ?_ ?_
 ·rintro d r t ⟨j,S',e3,hjl,hr,hG,⟨wl,wr,hKw,hbl,hbr,hll,hlr⟩,rfl⟩ _
  obtain ⟨rfl,hr',hjn⟩:=IV hr
  rw [Int.toNat_natCast] at hjn
  rw [Int.zero_add]
  cases em:mv[j]? with
  | none=>rw [List.getElem?_eq_none_iff] at em;lia
  | some x=>
  obtain ⟨p,v⟩:=x
  have hm:=N5 hT.ok em
  have hmi:atI (CA g 0 mv) j=some (IG g (lastQ g 0 (mv.take j)) p v):=by
   unfold atI
   rw [CT (by lia) (by rw [Em];lia)]
   show (CA g 0 mv)[(j:Int).toNat]?=_
   rw [Int.toNat_natCast,Ho g 0 mv j p v em]
  have hjp:j < ps.length:=by rw [hps.1];exact hjn
  have hpi:atI (ps.map λw=>D.lst (wD w)) (j:Int)=some (.lst (wD ps[j])):=by
   unfold atI
   rw [CT (by lia) (by rw [List.length_map];lia)]
   show (ps.map λw=>D.lst (wD w))[(j:Int).toNat]?=_
   rw [Int.toNat_natCast,List.getElem?_map,List.getElem?_eq_getElem hjp]
   rfl
  obtain ⟨hp1,hp2⟩:=hps.2 _ (List.getElem_mem hjp)
  have hs:=UB hg hm
  unfold IG at hmi
  generalize (Cw g (lastQ g 0 (mv.take j))).side=side at hmi hs
  have hon2:(onS side (D.lst (wD wl)) (D.lst (wD wr))) = .lst (wD (onS side wl wr)):=by unfold onS;split <;> rfl
  have hol:(onS side wl wr).length<=401 * j:=by unfold onS;split <;> assumption
  walk_at "x"
  refine B0 hmi ?_
  walk_at "x"
  refine Ca hKw (FJ hs) ?_
  rw [hon2]
  walk_at "x"
  refine B0 hpi ?_
  walk_at "x"
  refine Cj (by rw [Cg,Cg,hL];lia) ?_
  rw [<-D0]
  walk_at "x"
  refine C5 ?_
  walk_at "x"
  refine B0 hmi ?_
  walk_at "x"
  refine Cm hKw (by show 2 < 100000;decide) ?_
  rw [JF hs]
  refine ⟨j + 1,_,_,hjn,hr',hG.set (by lia),⟨onS side (wl++ps[j]) wl,onS side wr (wr++ps[j]),(BS hKw).trans (congrArg (λl=>some (Ob.dct l)) ?_),?_,?_,?_,?_⟩,rfl⟩
  ·unfold onS;split <;> rfl
  ·unfold onS;split
   ·exact hbl.app hp2
   ·exact hbl
  ·unfold onS;split
   ·exact hbr
   ·exact hbr.app hp2
  ·unfold onS;split
   ·rw [List.length_append];lia
   ·lia
  ·unfold onS;split
   ·lia
   ·rw [List.length_append];lia
 ·rintro t ⟨j,S',e3,hjl,hr,hG,⟨wl,wr,hKw,hbl,hbr,hll,hlr⟩,rfl⟩
  walk_at "x"
  exact ⟨hG,K,rfl,by lia,wl,wr,hKw,hbl,hbr,by lia,by lia⟩
theorem Mw {w:List Nat} {a:Nat}:Dc (wD w) none (some (a:Int))=wD (w.take a):=by
 unfold Dc
 rw [HT.Od,HT.Ni,List.drop_zero,Nat.sub_zero]
 unfold wD
 rw [List.map_take]
 exact (List.take_eq_take_min ..).symm
theorem Mx {w:List Nat} {a:Nat}:Dc (wD w) (some (a:Int)) none=wD (w.drop a):=by
 unfold Dc
 rw [HT.Od,HT.Ni]
 unfold wD
 rw [List.map_drop,List.length_map,List.take_of_length_le (by rw [List.length_drop,List.length_map];lia)]
 by_cases h:a<=w.length
 ·rw [Nat.min_eq_left h]
 ·rw [Nat.min_eq_right (by lia),List.drop_of_length_le (by rw [List.length_map];lia),List.drop_of_length_le (by rw [List.length_map];lia)]
theorem RoomF.put {F:List (Nat×Ob)} {K k r:Nat} {S:List Ob} {o o':Ob} (h:RoomF ((K,o) :: F) k r S) (hF:∀p∈F,p.1≠K):RoomF ((K,o') :: F) k r (S.set K o'):=by
 obtain ⟨⟨a,c,b,h1,h2,h3⟩,h4⟩:=h
 have hk:=h4 _ List.mem_cons_self
 refine ⟨⟨a,c,b,by rw [List.getElem?_set_ne hk.1];exact h1,h2,h3⟩,λp hp=>?_⟩
 rcases List.mem_cons.mp hp with rfl | hp
 ·exact ⟨hk.1,BS hk.2⟩
 ·have:=h4 p (List.mem_cons_of_mem _ hp)
  exact ⟨this.1,by rw [List.getElem?_set_ne (Ne.symm (hF p hp))];exact this.2⟩
theorem RoomF.lt {F:List (Nat×Ob)} {k r:Nat} {S:List Ob} (h:RoomF F k r S):k < S.length:=by
 obtain ⟨⟨a,c,b,h1,_,_⟩,_⟩:=h
 exact (List.getElem?_eq_some_iff.mp h1).1
theorem RoomF.more {F:List (Nat×Ob)} {k r:Nat} {S:List Ob} {o:Ob} (h:RoomF F k r S):RoomF ((S.length,o) :: F) k r (S++[o]):=by
 refine ⟨(h.app (ex:=[o])).1,λp hp=>?_⟩
 rcases List.mem_cons.mp hp with rfl | hp
 ·exact ⟨Nat.ne_of_gt h.lt,CP⟩
 ·exact (h.app (ex:=[o])).2 p hp
def LU (f:Fn):Prop:=∀(F:List (Nat×Ob)) (W k r:Nat) (S:List Ob) (l r':List Nat),(W,Ob.dct (dW l r'))∈F->B256 l->B256 r'->l.length<=24060->r'.length<=24060->RoomF F k (r + 1000) S->Wf f [.obj W,.obj k] S λx S'=>∃K,x = .obj K/\Ki K S' 24100/\FAll F S'
theorem Q3 {S:List Ob} {x y:Ob}:(S++[x]).set S.length y=S++[y]:=by simp
theorem Xa {x y:Nat} {w:List Nat} (h:B256 w):B256 (w.take x)/\B256 (w.drop y):=⟨λz hz=>h z (List.mem_of_mem_take hz),λz hz=>h z (List.mem_of_mem_drop hz)⟩
theorem P8 {ct:Fn} (ht:∀F,PTakeF F ct):LU (fnOf 2 9 (C7 ct)):=by
 intro F W k r S l r' hW bl br hl hr p0
 have hL:LIM=100000:=rfl
 have hWS:=p0.2.all _ hW
 refine AY rfl ?_
 unfold C7
 walk_at "x"
 refine Fq ?_
 have hW2:(S++[Ob.dct []])[W]?=some (.dct (dW l r')):=Gr.app.get hWS
 refine BB ?_
 walk_at "x"
 refine Ca hW2 EO ?_
 walk_at "x"
 refine BB ?_
 walk_at "x"
 refine Ca hW2 EQ ?_
 walk_at "x"
 refine C4 ?_
 refine ⟨by simp,by show 2<=15;decide,?_⟩
 have p1:RoomF ((S.length,.dct (dW l r')) :: F) k (r + 1000) (S++[.dct (dW l r')]):=p0.more
 have hne:∀p∈F,p.1≠S.length:=λp hp=>Nat.ne_of_lt (List.getElem?_eq_some_iff.mp (p0.2.all p hp)).1
 show Fg _ _ Out.next ⟨_,(S++[Ob.dct []]).set S.length (.dct (Bs (dW l r')))⟩
 rw [Ec,Q3]
 generalize S++[.dct (dW l r')]=S1 at p1 ⊢
 generalize S.length=K at p1 hne ⊢
 walk_at "x"
 refine (ht _).use (r:=r + 999) 2 p1 λc S2 c0 c1 p2=>?_
 walk_at "x"
 obtain ⟨cn,ecn⟩:∃cn:Nat,(1:Int) + c=cn:=⟨(1 + c).toNat,by lia⟩
 rw [ecn]
 have hcn:cn<=2:=by lia
 refine Fj (FR hcn) ?_
 refine Dk (λq t=>∃(j:Nat) (l2 r2:List Nat) (S':List Ob) (e3 e4 e5 e6 e7 e8:Option Sl),j + q.length=cn/\B256 l2/\B256 r2/\l2.length<=24060 + 6 * j/\r2.length<=24060 + 6 * j/\RoomF ((K,.dct (dW l2 r2)) :: F) k (r + 100 * q.length) S'/\t=⟨[some (.val (.obj W)),some (.val (.obj k)),some (.val (.obj K)),e3,e4,e5,e6,e7,e8],S'⟩) _ _ ⟨0,l,r',S2,none,none,none,none,none,none,by rw [CB,Int.toNat_natCast];lia,bl,br,hl,hr,p2.mono (by rw [CB,Int.toNat_natCast];lia),rfl⟩ ?_ ?_
 ·rintro d q t ⟨j,l2,r2,S',e3,e4,e5,e6,e7,e8,hj,b2l,b2r,h2l,h2r,p3,rfl⟩ _
  rw [List.length_cons] at hj p3
  replace p3:RoomF ((K,.dct (dW l2 r2)) :: F) k (r + 100 * q.length + 100) S':=p3.mono (by lia)
  generalize hq:r + 100 * q.length=R0 at p3 ⊢
  walk_at "x"
  refine (ht _).use (r:=R0 + 99) 2 p3 λs S3 s0 s1 p4=>?_
  obtain ⟨dd,ed,side,rfl,hs⟩:=Ff (xs:=[D.str (Str.ofString "left"),D.str (Str.ofString "right")]) s0 (by simpa using s1) (p:=λd=>∃x:Str,d = .str x/\(x=Str.ofString "left"\/x=Str.ofString "right")) (by
   simp only [List.forall_mem_cons]
   exact ⟨⟨_,rfl,.inl rfl⟩,⟨_,rfl,.inr rfl⟩,λ_ z=>nomatch z⟩)
  refine B0 ed ?_
  have hon2:(onS side (D.lst (wD l2)) (D.lst (wD r2))) = .lst (wD (onS side l2 r2)):=by unfold onS;split <;> rfl
  have hol:(onS side l2 r2).length<=24060 + 6 * j:=by unfold onS;split <;> assumption
  have hob:B256 (onS side l2 r2):=by unfold onS;split <;> assumption
  generalize hw:onS side l2 r2=w at hol hob hon2
  walk_at "x"
  refine Ca (p4.2.all _ List.mem_cons_self) (FJ hs) ?_
  rw [hon2]
  walk_at "x"
  rw [Cg]
  refine (ht _).use (r:=R0 + 98) ((w.length:Int) + 1) p4 (λx S4 x0 x1 p5=>?_) rfl (by lia) (by lia)
  walk_at "x"
  rw [Cg]
  walk_at "x"
  refine (ht _).use (r:=R0 + 97) 3 p5 λy S5 y0 y1 p6=>?_
  walk_at "x"
  refine (ht _).use (r:=R0 + 96) 2 p6 λz S6 z0 z1 p7=>?_
  obtain ⟨dd,ed2,at_,rfl,ha⟩:=Ff (xs:=[D.int x,D.int (if (w.length:Int) - 1 - y > 0 then (w.length:Int) - 1 - y else 0)]) z0 (by simpa using z1) (p:=λd=>∃m:Nat,d = .int m/\m<=w.length) (by
   simp only [List.forall_mem_cons]
   exact ⟨⟨x.toNat,by rw [Int.toNat_of_nonneg x0],by lia⟩,⟨(if (w.length:Int) - 1 - y > 0 then (w.length:Int) - 1 - y else 0).toNat,by rw [Int.toNat_of_nonneg (by split <;> lia)],by split <;> lia⟩,λ_ z=>nomatch z⟩)
  refine B0 ed2 ?_
  walk_at "x"
  refine (ht _).use (r:=R0 + 95) 256 p7 λu S7 u0 u1 p8=>?_
  walk_at "x"
  refine (ht _).use (r:=R0 + 94) 4 p8 λu2 S8 v0 v1 p9=>?_
  walk_at "x"
  refine (ht _).use (r:=R0 + 93) 4 p9 λu3 S9 w0 w1 p10=>?_
  obtain ⟨dd,ed3,bb,rfl,hb⟩:=Ff (xs:=[D.int u,D.int u2,D.int 255,D.int 251]) w0 (by simpa using w1) (p:=λd=>∃m:Nat,d = .int m/\m < 256) (by
   simp only [List.forall_mem_cons]
   exact ⟨⟨u.toNat,by rw [Int.toNat_of_nonneg u0],by lia⟩,⟨u2.toNat,by rw [Int.toNat_of_nonneg v0],by lia⟩,⟨255,rfl,by decide⟩,⟨251,rfl,by decide⟩,λ_ z=>nomatch z⟩)
  refine B0 ed3 ?_
  walk_at "x"
  refine (ht _).use (r:=R0 + 92) 5 p10 λway S10 y0' y1' p11=>?_
  clear ed ed2 ed3 p5 p6 p7 p8 p9 p10
  have fin:∀(w':List Nat) (S':List Ob) (e3 e4 e5 e6 e7 e8:Option Sl),B256 w'->w'.length<=w.length + 6->RoomF ((K,.dct (dW l2 r2)) :: F) k R0 S'->∃(j':Nat) (l2' r2':List Nat) (S'':List Ob) (f3 f4 f5 f6 f7 f8:Option Sl),j' + q.length=cn/\B256 l2'/\B256 r2'/\l2'.length<=24060 + 6 * j'/\r2'.length<=24060 + 6 * j'/\RoomF ((K,.dct (dW l2' r2')) :: F) k R0 S''/\(⟨[some (.val (.obj W)),some (.val (.obj k)),some (.val (.obj K)),e3,e4,e5,e6,e7,e8],S'.set K (.dct (B7 (dW l2 r2) (.inr side) (.lst (wD w'))))⟩:T)=⟨[some (.val (.obj W)),some (.val (.obj k)),some (.val (.obj K)),f3,f4,f5,f6,f7,f8],S''⟩:=by
   intro w' S' e3 e4 e5 e6 e7 e8 hb' hl' p
   rw [JF hs]
   have hd:lr (onS side (D.lst (wD w')) (D.lst (wD l2))) (onS side (D.lst (wD r2)) (D.lst (wD w')))=dW (onS side w' l2) (onS side r2 w'):=by unfold onS;split <;> rfl
   rw [hd]
   refine ⟨j + 1,onS side w' l2,onS side r2 w',_,e3,e4,e5,e6,e7,e8,by lia,?_,?_,?_,?_,p.put hne,rfl⟩
   ·unfold onS;split <;> assumption
   ·unfold onS;split <;> assumption
   ·unfold onS;split <;> lia
   ·unfold onS;split <;> lia
  have kp:∀{S':List Ob} {R:Nat},RoomF ((K,.dct (dW l2 r2)) :: F) k R S'->S'[K]?=some (.dct (dW l2 r2)):=λp=>p.2.all _ List.mem_cons_self
  have tl:=λx y=>Xa (x:=x) (y:=y) hob
  have b1:B256 [bb]:=λx hx=>by rw [List.mem_singleton.mp hx];exact hb
  walk_at "x"
  have j1:(w.take at_).length<=w.length:=by rw [List.length_take];lia
  have j2:∀x,(w.drop x).length<=w.length:=λx=>by rw [List.length_drop];lia
  have hs1:((at_:Int) + 1)=((at_ + 1:Nat):Int):=rfl
  have hjc:j<=2:=by lia
  refine CJ (λ_=>?_) λ_=>?_
  ·walk_at "x"
   rw [Mw]
   refine Cj (by rw [Cg,hL];show _ + 1<=_;lia) ?_
   walk_at "x"
   rw [hs1,Mx]
   refine Cj (by rw [List.length_append,Cg,Cg,hL];have:=j2 (at_ + 1);show _ + 1 + _<=_;lia) ?_
   rw [show wD (w.take at_)++[D.int (bb:Int)]++wD (w.drop (at_ + 1))=wD (w.take at_++[bb]++w.drop (at_ + 1)) by rw [D0,D0];rfl]
   refine C5 ?_
   walk_at "x"
   refine Cm (kp p11) (by show 2 < 100000;decide) ?_
   exact fin _ _ _ _ _ _ _ _ (((tl at_ 0).1.app b1).app (tl 0 (at_ + 1)).2) (by rw [List.length_append,List.length_append,List.length_singleton];have:=j2 (at_ + 1);rw [List.length_drop] at *;rw [List.length_take] at *;lia) (p11.mono (by lia))
  ·walk_at "x"
   refine CJ (λ_=>?_) λ_=>?_
   ·walk_at "x"
    rw [Mw]
    refine Cj (by rw [Cg,hL];show _ + 1<=_;lia) ?_
    walk_at "x"
    rw [Mx]
    refine Cj (by rw [List.length_append,Cg,Cg,hL];have:=j2 at_;show _ + 1 + _<=_;lia) ?_
    rw [show wD (w.take at_)++[D.int (bb:Int)]++wD (w.drop at_)=wD (w.take at_++[bb]++w.drop at_) by rw [D0,D0];rfl]
    refine C5 ?_
    walk_at "x"
    refine Cm (kp p11) (by show 2 < 100000;decide) ?_
    exact fin _ _ _ _ _ _ _ _ (((tl at_ 0).1.app b1).app (tl 0 at_).2) (by rw [List.length_append,List.length_append,List.length_singleton,List.length_drop,List.length_take];lia) (p11.mono (by lia))
   ·walk_at "x"
    refine CJ (λ_=>?_) λ_=>?_
    ·walk_at "x"
     rw [Mw]
     rw [hs1,Mx]
     refine Cj (by rw [Cg,Cg,hL];have:=j2 (at_ + 1);lia) ?_
     rw [<-D0]
     refine C5 ?_
     walk_at "x"
     refine Cm (kp p11) (by show 2 < 100000;decide) ?_
     exact fin _ _ _ _ _ _ _ _ ((tl at_ 0).1.app (tl 0 (at_ + 1)).2) (by rw [List.length_append,List.length_drop,List.length_take];lia) (p11.mono (by lia))
    ·walk_at "x"
     refine (ht _).use (r:=R0 + 91) 6 p11 λn S11 n0 n1 p12=>?_
     obtain ⟨m,rfl⟩:=Int.eq_ofNat_of_zero_le n0
     have hm:m<=5:=by lia
     walk_at "x"
     refine Fj (FR hm) ?_
     refine (FA (P:=λxs t'=>∃w2:List Nat,xs=wD w2/\B256 w2/\w2.length<=5/\RoomF ((K,.dct (dW l2 r2)) :: F) k R0 t'.S) (λacc q t=>∃(w2:List Nat) (S':List Ob) (z:Option Sl),acc=wD w2/\B256 w2/\w2.length + q.length=m/\RoomF ((K,.dct (dW l2 r2)) :: F) k (R0 + q.length) S'/\t=⟨[z,some (.val (.obj k))],S'⟩) _ [] _ ⟨[],S11,_,rfl,(λ_ z=>nomatch z),by rw [CB,Int.toNat_natCast,List.length_nil];lia,p12.mono (by rw [CB,Int.toNat_natCast];lia),rfl⟩ ?_ ?_).mono ?_
     ·rintro acc d q t ⟨w2,S',z,rfl,h1,h2,h3,rfl⟩ _
      rw [List.length_cons] at h2 h3
      refine Je (Jf ?_)
      rw [if_pos rfl]
      walk_at "x"
      refine (ht _).use 256 h3 λi S5 i0 i1 p5=>?_
      obtain ⟨x,rfl⟩:=Int.eq_ofNat_of_zero_le i0
      exact ⟨w2++[x],S5,_,by rw [D0];rfl,h1.app λy hy=>by rw [List.mem_singleton.mp hy];lia,by rw [List.length_append,List.length_singleton];lia,p5,rfl⟩
     ·rintro acc t ⟨w2,S',z,rfl,h1,h2,h3,rfl⟩
      exact ⟨w2,rfl,h1,by lia,h3.mono (by lia)⟩
     ·rintro xs t' ⟨w2,e,h1,h2,h3⟩
      rw [List.nil_append] at e
      subst e
      refine Cj (by rw [Cg,hL];lia) ?_
      walk_at "x"
      refine Cj (by rw [Cg,Cg,hL];lia) ?_
      rw [<-D0]
      refine C5 ?_
      walk_at "x"
      refine Cm (kp h3) (by show 2 < 100000;decide) ?_
      exact fin _ _ _ _ _ _ _ _ (hob.app h1) (by rw [List.length_append];lia) h3
 ·rintro t ⟨j,l2,r2,S',e3,e4,e5,e6,e7,e8,hj,b2l,b2r,h2l,h2r,p3,rfl⟩
  walk_at "x"
  rw [List.length_nil] at hj
  exact ⟨K,rfl,⟨l2,r2,p3.2.all _ List.mem_cons_self,b2l,b2r,by lia,by lia⟩,λp hp=>p3.2.all p (List.mem_cons_of_mem _ hp)⟩
def Ip (f:Fn):Prop:=∀(ns:List Int) (g:List GS) (S:List Ob),GOk g->Wf f [.scr ns,.lst (g.map GS.d),.int 14,.int 44] S λr _=>∃mv:List Mv,TOk g mv/\r = .lst [.lst (CA g 0 mv),.lst (DT g 0 mv)]
theorem Vh {ca cp cs cz cw ck cg:Fn} (ha:On ca) (hp:∀F,L3 F cp) (hs:LU cs) (hz:LT cz) (hw:LV cw) (hk:Ip ck) (hgr:Kh cg) {ns:List Int}:Wf (fnOf 1 5 (F3 ca cp cs cz cw ck cg)) [.scr ns] [] λr _=>r = .bl true:=by
 refine AY rfl ?_
 unfold F3
 walk_at "x"
 refine (hgr ns []).mono λr S1 ⟨g,hg,e⟩=>?_
 subst e
 walk_at "x"
 refine (hk ns g S1 hg).mono λr S2 ⟨mv,hT,e⟩=>?_
 subst e
 walk_at "x"
 refine (hz g mv S2 hg hT).mono λr S3 ⟨e3,ps,hps,e⟩=>?_
 subst e3 e
 walk_at "x"
 refine (hw g mv ps S3 hg hT hps).mono λr S4 ⟨_,K,e,_,l,r',hK,bl,br,hl,hr⟩=>?_
 subst e
 walk_at "x"
 refine Dk (λq t=>∃(S':List Ob) (e4:Option Sl),FAll [(K,.dct (dW l r'))] S'/\t=⟨[some (.val (.scr ns)),some (.val (.lst (g.map GS.d))),some (.val (.lst (CA g 0 mv))),some (.val (.obj K)),e4],S'⟩) _ _ ⟨S4,none,(λp hp=>by rw [List.mem_singleton.mp hp];exact hK),rfl⟩ ?_ ?_
 ·rintro d q t ⟨S',e4,hF,rfl⟩ hd
  obtain ⟨k,rfl,hk1⟩:∃k:Nat,d = .int k/\k<=1000:=by
   rw [HV] at hd
   obtain ⟨i,hi,rfl⟩:=List.mem_map.mp hd
   have:=List.mem_range.mp hi
   exact ⟨44 + i,by congr 1,by lia⟩
  walk_at "x"
  refine (hp _ ns k S' hk1 hF).mono λr1 S5 ⟨n,e,p5⟩=>?_
  subst e
  walk_at "x"
  refine (hs _ K n 0 S5 l r' List.mem_cons_self bl br hl hr (p5.mono (by decide))).mono λr2 S6 ⟨K2,e,⟨l2,r2',hK2,b1,b2,h1,h2⟩,hF6⟩=>?_
  subst e
  walk_at "x"
  refine (ha g l2 r2' K2 S6 hg (by lia) (by lia) b1 b2 hK2).mono λr3 S7 ⟨hG,e⟩=>?_
  subst e
  walk_at "x"
  exact ⟨S7,_,hG.all hF6,rfl⟩
 ·rintro t ⟨S',e4,hF,rfl⟩
  walk_at "x"
  refine (ha g l r' K S' hg (by lia) (by lia) bl br (hF _ List.mem_cons_self)).mono λr3 S7 ⟨hG,e⟩=>?_
  subst e
  walk_at "x"
  refine Fq ?_
  refine BB ?_
  walk_at "x"
  refine BB ?_
  walk_at "x"
  refine C4 ?_
  refine ⟨by simp,by show 2<=15;decide,?_⟩
  have hB:((S7++[Ob.dct []]).set S7.length (.dct (Bs (dW [255] [255]))))[S7.length]?=some (.dct (dW [255] [255])):=by rw [Ec];exact BS CP
  show W _ ⟨_,(S7++[Ob.dct []]).set S7.length (.dct (Bs (dW [255] [255])))⟩ _
  generalize (S7++[Ob.dct []]).set S7.length (.dct (Bs (dW [255] [255])))=S8 at hB ⊢
  walk_at "x"
  have b255:B256 [255]:=λx hx=>by rw [List.mem_singleton.mp hx];decide
  refine (ha g [255] [255] S7.length S8 hg (by decide) (by decide) b255 b255 hB).mono λr3 S9 ⟨hG,e⟩=>?_
  subst e
  rfl
theorem Qw {cv ct cp:Fn} (hv:PValOk cv 3) (ht:PTakeOk ct) (hp:HE cp):Ip (fnOf 4 14 (DE cv ct cp)):=by
 intro ns g S hg
 have hL:LIM=100000:=rfl
 refine AY rfl ?_
 unfold DE
 walk_at "w"
 have hN:(if (44:Int) < (ns.length:Int) then (44:Int) else (ns.length:Int))<=44/\0<=(if (44:Int) < (ns.length:Int) then (44:Int) else (ns.length:Int)):=by split <;> lia
 generalize (if (44:Int) < (ns.length:Int) then (44:Int) else (ns.length:Int))=N at hN ⊢
 refine Si (by rw [C6 (by lia) (by lia),C6 (by lia) (by lia)];rfl) ?_
 have hlen:(rngL 14 (N - 14).toNat).length<=49:=by rw [CB];lia
 have hmem:∀d∈rngL 14 (N - 14).toNat,∃k:Nat,d = .int k/\k<=1000:=λd hd=>by
  rw [HV] at hd
  obtain ⟨i,hi,rfl⟩:=List.mem_map.mp hd
  have:=List.mem_range.mp hi
  exact ⟨14 + i,by congr 1,by lia⟩
 generalize rngL 14 (N - 14).toNat=ds at hlen hmem ⊢
 refine Dk (λr t=>∃(mv:List Mv) (st:List D) (S':List Ob) (e7 e8 e9 e10 e11 e12 e13:Option Sl),mv.length + r.length<=49/\okQ g 0 mv/\okB g 0 mv/\st=DT g 0 mv/\t=⟨[some (.val (.scr ns)),some (.val (.lst (g.map GS.d))),some (.val (.int 14)),some (.val (.int 44)),some (.own (CA g 0 mv)),some (.val (.int (lastQ g 0 mv))),some (.own st),e7,e8,e9,e10,e11,e12,e13],S'⟩) _ _ ⟨[],[.int 0],S,none,none,none,none,none,none,none,by rw [List.length_nil];lia,trivial,trivial,rfl,rfl⟩ ?_ ?_
 ·rintro d r t ⟨mv,st,S',e7,e8,e9,e10,e11,e12,e13,hl,hk,hb,hst,rfl⟩ hd
  obtain ⟨k,rfl,hk1⟩:=hmem d hd
  rw [List.length_cons] at hl
  have hlt:=N2 hg hg.ne hk
  walk_at "w"
  refine (hp ns k S' hk1).mono λr1 S1 ⟨K,e,p1⟩=>?_
  subst e
  refine Eo ?_
  walk_at "w"
  refine B0 (FI hlt) ?_
  walk_at "w"
  refine QO ?_
  walk_at "w"
  refine CJ (λq=>?_) λq=>?_
  ·have hnf:¬(Cw g (lastQ g 0 mv)).isFin=true:=by simpa using q
   have hgs:=Ek hg hlt
   obtain ⟨side,ws,egs⟩:∃side ws,Cw g (lastQ g 0 mv) = .st side ws:=by
    cases e:Cw g (lastQ g 0 mv) with
    | fin=>rw [e] at hnf;simp [GS.isFin] at hnf
    | st side ws=>exact ⟨side,ws,rfl⟩
   have hws:(Cw g (lastQ g 0 mv)).ws=ws:=by rw [egs];rfl
   have hside:(Cw g (lastQ g 0 mv)).side=side:=by rw [egs];rfl
   have hpos:0 < ws.length/\ws.length<=9:=by
    rw [egs] at hgs
    cases hgs with
    | st _ h2 h3 _ _=>exact ⟨h2,h3⟩
   walk_at "w"
   refine B0 (FI hlt) ?_
   rw [egs,GS.d]
   walk_at "w"
   rw [List.length_map]
   refine ht.use (r:=1000) (ws.length:Int) (p1.mono (by decide)) (λi S2 i0 i1 p2=>?_) rfl (by lia) (by lia)
   obtain ⟨p,rfl⟩:=Int.eq_ofNat_of_zero_le i0
   have hpl:p < (Cw g (lastQ g 0 mv)).ws.length:=by rw [hws];exact Int.ofNat_lt.mp i1
   obtain ⟨side',ws',egs',_,ew⟩:=LO hpl
   rw [egs] at egs'
   cases egs'
   have hw:=Pf hg hlt hpl
   have hlo:=hw.lo
   refine B0 (FU ew) ?_
   unfold wdD
   walk_at "w"
   refine hv.use (r:=0) hw.dep hw.ok (p2.mono (by decide)) λx S3 x1 x2=>?_
   walk_at "w"
   refine Cj (by rw [Em,hL];lia) ?_
   walk_at "w"
   refine Cj (by rw [hst,Io,hL];lia) ?_
   refine ⟨mv++[(p,x)],st++[.int (wdAt g (lastQ g 0 mv) p).2.2],S3,_,_,_,_,_,_,_,?_,?_,?_,?_,t14 ?_ ?_ rfl⟩
   ·rw [List.length_append,List.length_singleton];lia
   ·rw [Kz];exact ⟨hk,⟨hlt,hpl,x1⟩,trivial⟩
   ·rw [HQ];exact ⟨hb,x2,trivial⟩
   ·rw [Hz,hst]
    unfold DR
    congr 2
    congr 1
    lia
   ·rw [Lc]
    show _=_++[IG g (lastQ g 0 mv) p _]
    unfold IG
    rw [hside]
   ·rw [Hk]
    show _=D.int (DR g (lastQ g 0 mv) p:Nat)
    unfold DR
    congr 1
    lia
  ·walk_at "w"
   exact ⟨mv,st,_,_,_,_,_,_,_,_,by lia,hk,hb,hst,rfl⟩
 ·rintro t ⟨mv,st,S',e7,e8,e9,e10,e11,e12,e13,hl,hk,hb,hst,rfl⟩
  walk_at "w"
  exact ⟨mv,⟨hk,hb,by rw [List.length_nil] at hl;lia⟩,by rw [hst]⟩
end LW
set_option maxHeartbeats 4000000
namespace F2
open PySem L2 PySem.Spec PySem.W
theorem Rx {k:Kd} {P:Program} {w:World} {K:PySem.W.Frag} {mg:Str->Option Value} {base:Heap} {n:Nat} {fa:Addr} {fd:FuncData} {ps:List Str}:okK k P w K mg base n fa fd ps (λ_ _=>none):=by
 cases k <;> exact ⟨λvs H Q E h=>(by obtain ⟨c,ds,S,_,_,r,S',e,_⟩:=h;cases e),λA' outer s H args us vs Q E _ _ _ _ h=>(by obtain ⟨c,ds,S,_,_,r,S',e,_⟩:=h;cases e)⟩
theorem us0 {n:Nat}:∀{us:List Value},us.length=n + 1->∃a vs,us=a :: vs/\vs.length=n
 | _ :: _,h=>⟨_,_,rfl,Nat.succ.inj h⟩
theorem us1 {us:List Value} (h:us.length=1):∃a,us=[a]:=by
 obtain ⟨a,vs,rfl,q⟩:=us0 h
 exact ⟨a,by rw [List.eq_nil_of_length_eq_zero q]⟩
theorem us2 {us:List Value} (h:us.length=2):∃a b,us=[a,b]:=by
 obtain ⟨_,vs,rfl,q⟩:=us0 h
 obtain ⟨_,rfl⟩:=us1 q
 exact ⟨_,_,rfl⟩
theorem us3 {us:List Value} (h:us.length=3):∃a b c,us=[a,b,c]:=by
 obtain ⟨_,vs,rfl,q⟩:=us0 h
 obtain ⟨_,_,rfl⟩:=us2 q
 exact ⟨_,_,_,rfl⟩
theorem us4 {us:List Value} (h:us.length=4):∃a b c d,us=[a,b,c,d]:=by
 obtain ⟨_,vs,rfl,q⟩:=us0 h
 obtain ⟨_,_,_,rfl⟩:=us3 q
 exact ⟨_,_,_,_,rfl⟩
theorem us5 {us:List Value} (h:us.length=5):∃a b c d e,us=[a,b,c,d,e]:=by
 obtain ⟨_,vs,rfl,q⟩:=us0 h
 obtain ⟨_,_,_,_,rfl⟩:=us4 q
 exact ⟨_,_,_,_,_,rfl⟩
theorem us6 {us:List Value} (h:us.length=6):∃a b c d e f,us=[a,b,c,d,e,f]:=by
 obtain ⟨_,vs,rfl,q⟩:=us0 h
 obtain ⟨_,_,_,_,_,rfl⟩:=us5 q
 exact ⟨_,_,_,_,_,_,rfl⟩
theorem us7 {us:List Value} (h:us.length=7):∃a b c d e f g,us=[a,b,c,d,e,f,g]:=by
 obtain ⟨_,vs,rfl,q⟩:=us0 h
 obtain ⟨_,_,_,_,_,_,rfl⟩:=us6 q
 exact ⟨_,_,_,_,_,_,_,rfl⟩
end F2
namespace K27
open PySem L2 F2 LW
set_option hygiene false
set_option compiler.extract_closed false
local macro_rules
 | `(tactic| clear 1 $x $a)=>`(tactic| refine @Aq _ _ _ _ _ _ _ _ _ _ _ _ $a hr rfl (M.mgs $x) (Fun.kp (M.fn $x)) (M.bd $x) ?_ (by decide) (by rfl) (by rfl))
 | `(tactic| clear 2 $a $b)=>`(tactic| refine @Aa _ _ _ _ _ $a $b rfl)
 | `(tactic| clear 3 $a $b)=>`(tactic| refine @AJ _ _ _ _ $a _ _ _ $b rfl (.inl rfl) ?_ (by rfl) (by first | exact .inl rfl | exact .inr rfl | assumption))
 | `(tactic| clear 4 $a $b $c $d)=>`(tactic| refine @An _ _ _ _ _ _ _ _ $a $b $c $d (λ_ _=>rfl))
 | `(tactic| clear 5)=>`(tactic| refine @Ai _ _ _ _ _ _ ?_ ?_)
 | `(tactic| clear 6 $a $b $c $d)=>`(tactic| refine @BK _ _ _ _ _ _ _ _ _ _ $a $b rfl $c $d ?_ (by decide) (by decide) (by rfl) (by rfl))
 | `(tactic| clear 7 $a $b $c $d)=>`(tactic| refine @AC _ _ _ _ _ _ _ _ _ $a $b $c $d)
 | `(tactic| clear 8)=>`(tactic| refine @Ak _ _ _ _ ?_)
 | `(tactic| clear 9 $a)=>`(tactic| refine @A6 _ _ _ _ _ _ _ _ _ ?_ ?_ $a)
 | `(tactic| clear 10 $a $b $c $d)=>`(tactic| refine @AU _ _ _ _ _ _ _ _ _ $a $b ?_ $c $d)
 | `(tactic| clear 11 $a $b)=>`(tactic| refine @Ez _ _ _ _ $a _ _ _ $b rfl (.inl rfl) ?_ (by rfl) (by first | exact .inl rfl | exact .inr rfl | assumption))
 | `(tactic| clear 12)=>`(tactic| refine @AL _ _ _ _ ?_)
 | `(tactic| clear 13 $a)=>`(tactic| refine @De _ _ _ _ _ _ _ _ _ $a rfl ?_ ?_ ?_ (by intro _;rfl))
inductive Fx where
 | Bp | Ay | Br | Bo | Bj | Bu | Bv | Bd | Bb | Av | AO | A1 | Bk | Aw | A8 | AH | Bf | By | BG | Bw | Bx | Be | BH | BF | A3 | AZ | AF | Ae | AA | AB | A0 | Bl | Bg | AG | AR | Bn | Ba | Bm | AX | law_
noncomputable def top (i:Nat):Stmt:=PySem.Challenge.pw_wireparley_k27_broken_wires.main.body.getD i (.Pass ⟨0,0,0,0⟩)
noncomputable abbrev nm:Fx->Str
 | .Bp=>"is_number"
 | .Ay=>"is_number_within"
 | .Br=>"fits"
 | .Bo=>"fits_text"
 | .Bj=>"is_sign"
 | .Bu=>"fits_list"
 | .Bv=>"fits_pair"
 | .Bd=>"fits_choice"
 | .Bb=>"value_bytes"
 | .Av=>"fitting_bytes"
 | .AO=>"width_up_to"
 | .A1=>"number_bytes"
 | .Bk=>"leading"
 | .Aw=>"read_value"
 | .A8=>"byte_at"
 | .AH=>"byte_up_to"
 | .Bf=>"read_number"
 | .By=>"read_text"
 | .BG=>"sign_at"
 | .Bw=>"read_list"
 | .Bx=>"read_pair"
 | .Be=>"read_choice"
 | .BH=>"talk_by"
 | .BF=>"read_on"
 | .A3=>"read_message"
 | .AZ=>"_law_cell_at"
 | .AF=>"_law_pool"
 | .Ae=>"_law_take"
 | .AA=>"_law_shape"
 | .AB=>"_law_value"
 | .A0=>"_law_grammar"
 | .Bl=>"_law_talk"
 | .Bg=>"_law_sizes"
 | .AG=>"_law_whole_wires"
 | .AR=>"_law_value_at"
 | .Bn=>"_law_walk"
 | .Ba=>"_law_spoilt"
 | .Bm=>"_law_told"
 | .AX=>"_law_good"
 | .law_=>"law"
abbrev st:Fx->Stmt
 | .Bp=>top 13
 | .Ay=>top 14
 | .Br=>top 15
 | .Bo=>top 16
 | .Bj=>top 17
 | .Bu=>top 18
 | .Bv=>top 19
 | .Bd=>top 20
 | .Bb=>top 23
 | .Av=>top 24
 | .AO=>top 25
 | .A1=>top 26
 | .Bk=>top 27
 | .Aw=>top 28
 | .A8=>top 29
 | .AH=>top 30
 | .Bf=>top 31
 | .By=>top 32
 | .BG=>top 33
 | .Bw=>top 34
 | .Bx=>top 35
 | .Be=>top 36
 | .BH=>top 38
 | .BF=>top 39
 | .A3=>top 40
 | .AZ=>top 42
 | .AF=>top 43
 | .Ae=>top 44
 | .AA=>top 45
 | .AB=>top 46
 | .A0=>top 47
 | .Bl=>top 48
 | .Bg=>top 49
 | .AG=>top 50
 | .AR=>top 51
 | .Bn=>top 52
 | .Ba=>top 53
 | .Bm=>top 54
 | .AX=>top 55
 | .law_=>top 56
noncomputable abbrev ps:Fx->List Str
 | .Bp=>["thing"]
 | .Ay=>["thing", "low", "high"]
 | .Br=>["s", "thing"]
 | .Bo=>["s", "thing"]
 | .Bj=>["number"]
 | .Bu=>["s", "thing"]
 | .Bv=>["s", "thing"]
 | .Bd=>["s", "thing"]
 | .Bb=>["s", "value"]
 | .Av=>["s", "value"]
 | .AO=>["most"]
 | .A1=>["number", "width"]
 | .Bk=>["number", "cut"]
 | .Aw=>["s", "wire", "at"]
 | .A8=>["wire", "at"]
 | .AH=>["most", "wire", "at"]
 | .Bf=>["s", "wire", "at"]
 | .By=>["s", "wire", "at"]
 | .BG=>["wire", "at"]
 | .Bw=>["s", "wire", "at"]
 | .Bx=>["s", "wire", "at"]
 | .Be=>["s", "wire", "at"]
 | .BH=>["g", "left", "right"]
 | .BF=>["g", "state", "wires", "places"]
 | .A3=>["state", "wire", "at"]
 | .AZ=>["script", "k"]
 | .AF=>["script", "k"]
 | .Ae=>["pool", "many"]
 | .AA=>["pool", "deep"]
 | .AB=>["pool", "s"]
 | .A0=>["script"]
 | .Bl=>["script", "g", "start", "most"]
 | .Bg=>["g", "talk"]
 | .AG=>["talk", "parts"]
 | .AR=>["shape", "wire", "at"]
 | .Bn=>["g", "wires"]
 | .Ba=>["wires", "pool"]
 | .Bm=>["g", "wires"]
 | .AX=>["g", "wires"]
 | .law_=>["script"]
noncomputable abbrev ns:Fx->List Str
 | .Bp=>["thing"]
 | .Ay=>["thing", "low", "high"]
 | .Br=>["s", "thing", "kind"]
 | .Bo=>["s", "thing", "sign"]
 | .Bj=>["number"]
 | .Bu=>["s", "thing", "part"]
 | .Bv=>["s", "thing"]
 | .Bd=>["s", "thing"]
 | .Bb=>["s", "value"]
 | .Av=>["s", "value", "kind", "row", "thing"]
 | .AO=>["most"]
 | .A1=>["number", "width"]
 | .Bk=>["number", "cut"]
 | .Aw=>["s", "wire", "at", "kind"]
 | .A8=>["wire", "at"]
 | .AH=>["most", "wire", "at", "byte"]
 | .Bf=>["s", "wire", "at", "most", "width", "number", "k"]
 | .By=>["s", "wire", "at", "length", "place", "text", "k"]
 | .BG=>["wire", "at", "number"]
 | .Bw=>["s", "wire", "at", "length", "place", "things", "k", "part"]
 | .Bx=>["s", "wire", "at", "first", "second"]
 | .Be=>["s", "wire", "at", "k", "part"]
 | .BH=>["g", "left", "right", "read"]
 | .BF=>["g", "state", "wires", "places", "talk", "standing", "behind", "side", "read"]
 | .A3=>["state", "wire", "at", "word", "read", "e"]
 | .AZ=>["script", "k"]
 | .AF=>["script", "k", "cell"]
 | .Ae=>["pool", "many", "rest"]
 | .AA=>["pool", "deep", "kind", "low"]
 | .AB=>["pool", "s", "kind", "signs", "k"]
 | .A0=>["script", "pool", "many", "g", "h", "side", "words", "k", "name", "then"]
 | .Bl=>["script", "g", "start", "most", "talk", "here", "states", "k", "pool", "side", "words", "name", "shape", "then"]
 | .Bg=>["g", "talk", "found", "here", "side", "name", "value", "words", "k"]
 | .AG=>["talk", "parts", "wires", "k"]
 | .AR=>["shape", "wire", "at", "value", "place", "e"]
 | .Bn=>["g", "wires", "talk", "here", "gone", "side", "words", "at", "k", "kind", "value", "place"]
 | .Ba=>["wires", "pool", "found", "turn", "side", "wire", "at", "byte", "way"]
 | .Bm=>["g", "wires", "kinds", "fields", "told", "e"]
 | .AX=>["g", "wires", "talk", "here", "gone", "broken", "handed", "found"]
 | .law_=>["script", "g", "talk", "wires", "k"]
def body (Φ:Fx->Fn):Fx->Fn
 | .Bp=>fnOf 1 1 (E5)
 | .Ay=>fnOf 3 3 (CZ (Φ .Bp))
 | .Br=>fnOf 2 3 (JG (Φ .Bd) (Φ .Bv) (Φ .Bu) (Φ .Bo) (Φ .Ay))
 | .Bo=>fnOf 2 3 (E4 (Φ .Bj))
 | .Bj=>fnOf 1 1 (F1)
 | .Bu=>fnOf 2 3 (E2 (Φ .Br))
 | .Bv=>fnOf 2 2 (E3 (Φ .Br))
 | .Bd=>fnOf 2 2 (D3 (Φ .Br) (Φ .Ay))
 | .Bb=>fnOf 2 2 (Dr (Φ .Av) (Φ .Br))
 | .Av=>fnOf 2 5 (DG (Φ .Av) (Φ .AO) (Φ .A1))
 | .AO=>fnOf 1 1 (D4)
 | .A1=>fnOf 2 2 (DP (Φ .Bk))
 | .Bk=>fnOf 2 2 (F4)
 | .Aw=>fnOf 3 4 (C1 (Φ .Be) (Φ .Bx) (Φ .Bw) (Φ .By) (Φ .Bf))
 | .A8=>fnOf 2 2 (EC)
 | .AH=>fnOf 3 4 (DB (Φ .A8))
 | .Bf=>fnOf 3 7 (CL (Φ .Bk) (Φ .A8) (Φ .AO))
 | .By=>fnOf 3 7 (Di (Φ .BG) (Φ .AH))
 | .BG=>fnOf 2 3 (EE (Φ .Bj) (Φ .A8))
 | .Bw=>fnOf 3 8 (Dg (Φ .Aw) (Φ .AH))
 | .Bx=>fnOf 3 5 (Dh (Φ .Aw))
 | .Be=>fnOf 3 5 (CK (Φ .Aw) (Φ .AH))
 | .BH=>fnOf 3 4 (F6 (Φ .BF))
 | .BF=>fnOf 4 9 (F5 (Φ .A3))
 | .A3=>fnOf 3 6 (DQ (Φ .Aw))
 | .AZ=>fnOf 2 2 (CW)
 | .AF=>fnOf 2 3 (Cy (Φ .AZ))
 | .Ae=>fnOf 2 3 (Cz)
 | .AA=>fnOf 2 4 (Do (Φ .Ae) (Φ .AA))
 | .AB=>fnOf 2 5 (Dq (Φ .AB) (Φ .Ae))
 | .A0=>fnOf 1 10 (CY (Φ .Ae) (Φ .AA) (Φ .AF))
 | .Bl=>fnOf 4 14 (DE (Φ .AB) (Φ .Ae) (Φ .AF))
 | .Bg=>fnOf 2 9 (D2 (Φ .Bb))
 | .AG=>fnOf 2 4 (CO)
 | .AR=>fnOf 3 6 (Dp (Φ .Aw))
 | .Bn=>fnOf 2 12 (ED (Φ .AR))
 | .Ba=>fnOf 2 9 (C7 (Φ .Ae))
 | .Bm=>fnOf 2 6 (DF (Φ .BH))
 | .AX=>fnOf 2 8 (DC (Φ .Bm) (Φ .Bn))
 | .law_=>fnOf 1 5 (F3 (Φ .AX) (Φ .AF) (Φ .Ba) (Φ .Bg) (Φ .AG) (Φ .Bl) (Φ .A0))
def run:Nat->Fx->Fn
 | 0=>λ_ _ _=>none
 | n + 1=>body (run n)
structure Md (K:PySem.W.Frag) (mg:Str->Option Value) (A:Fx->Addr) (fd:Fx->FuncData):Prop where
 fn:∀x,Fun K (nm x) (nm x) (st x) (A x) (fd x)
 mgs:∀x,mg (nm x)=some (.ref (A x))
 bd:∀x,Binds K (fd x) (ps x) []
 z_ValueError:mg "ValueError" = none
 z_bool:mg "bool" = none
 z_dict:mg "dict" = none
 z_int:mg "int" = none
 z_isinstance:mg "isinstance" = none
 z_len:mg "len" = none
 z_list:mg "list" = none
 z_max:mg "max" = none
 z_min:mg "min" = none
 z_ord:mg "ord" = none
 z_range:mg "range" = none
 z_str:mg "str" = none
 z_tuple:mg "tuple" = none
 g_FIRST_SIGN:∃tk,mg "FIRST_SIGN" = some (.int 32 tk)
 g_LAST_SIGN:∃tk,mg "LAST_SIGN" = some (.int 126 tk)
 g_PERCENT_SIGN:∃tk,mg "PERCENT_SIGN" = some (.int 37 tk)
 g_SIGNS:∃tk,mg "SIGNS" = some (.str " !\"#$ &'()*+,-./0123456789:;<=>?@ABCDEFGHIJKLMNOPQRSTUVWXYZ[\\]^_`abcdefghijklmnopqrstuvwxyz{|}~" tk)
 xm:∃(P:Addr) (ca:Str->Addr),XM K mg P ca/\XF2 K (ca "Broken") P "Broken.__init__" (E8 (top 4) 0)/\∀n∈(["NoValue", "Short"]:List Str),XN0 K (ca n)
noncomputable abbrev kd:Fx->Kd
 | .Bp=>.pl
 | .Ay=>.pl
 | .Br=>.pl
 | .Bo=>.pl
 | .Bj=>.pl
 | .Bu=>.pl
 | .Bv=>.pl
 | .Bd=>.pl
 | .Bb=>.ex
 | .Av=>.fr
 | .AO=>.pl
 | .A1=>.fr
 | .Bk=>.pl
 | .Aw=>.ex
 | .A8=>.ex
 | .AH=>.ex
 | .Bf=>.ex
 | .By=>.ex
 | .BG=>.ex
 | .Bw=>.ex
 | .Bx=>.ex
 | .Be=>.ex
 | .BH=>.er
 | .BF=>.er
 | .A3=>.er
 | .AZ=>.pl
 | .AF=>.pl
 | .Ae=>.pl
 | .AA=>.pl
 | .AB=>.pl
 | .A0=>.pl
 | .Bl=>.pl
 | .Bg=>.pl
 | .AG=>.pl
 | .AR=>.pl
 | .Bn=>.pl
 | .Ba=>.pl
 | .Bm=>.pl
 | .AX=>.pl
 | .law_=>.pl
theorem J0:FnScope ["self", "at", "side"] ["self", "at", "side"] (Ao (E8 (top 4) 0)):=⟨rfl,rfl,rfl,by decide +kernel,rfl,by decide +kernel,by decide +kernel⟩
section
variable {P:Program} {w:World} {K:PySem.W.Frag} {mg:Str->Option Value} {base:Heap} {A:Fx->Addr} {fd:Fx->FuncData} {n:Nat}
theorem LD:FnScope (ns .Bp) (ps .Bp) (Ao (st .Bp)):=⟨rfl,rfl,rfl,by decide +kernel,rfl,by decide +kernel,by decide +kernel⟩
theorem Ly (M:Md K mg A fd) (ih:∀x,okK (kd x) P w K mg base (n + 2) (A x) (fd x) (ps x) (run n x)):okK .pl P w K mg base (n + 2 + 1) (A .Bp) (fd .Bp) (ps .Bp) (run (n + 1) .Bp):=by
 refine BU (g:=fnOf 1 1 (E5)) rfl (BT rfl rfl (M.fn .Bp) LD (λcdv A' outer s H E hr=>?_))
 clear 8
 clear 12
 refine @Gh _ _ _ _ _ _ _ ?_ ?_
 clear 6 D9 ET M.z_isinstance Bt
 clear 2 ?_ ?_
 exact (Ab 0)
 clear 2 ?_ Af
 exact (GG rfl M.z_int Pp)
 refine @Gi _ _ _ _ _ ?_
 refine @Vb _ _ _ _ ?_
 clear 6 D9 ET M.z_isinstance Bt
 clear 2 ?_ ?_
 exact (Ab 0)
 clear 2 ?_ Af
 exact (GG rfl M.z_bool Te)
theorem GZ:FnScope (ns .Ay) (ps .Ay) (Ao (st .Ay)):=⟨rfl,rfl,rfl,by decide +kernel,rfl,by decide +kernel,by decide +kernel⟩
theorem GU (M:Md K mg A fd) (ih:∀x,okK (kd x) P w K mg base (n + 2) (A x) (fd x) (ps x) (run n x)):okK .pl P w K mg base (n + 2 + 1) (A .Ay) (fd .Ay) (ps .Ay) (run (n + 1) .Ay):=by
 refine BU (g:=fnOf 3 3 (CZ (run n .Bp))) rfl (BT rfl rfl (M.fn .Ay) GZ (λcdv A' outer s H E hr=>?_))
 clear 8
 clear 12
 refine @Gh _ _ _ _ _ _ _ ?_ ?_
 clear 1 .Bp (ih .Bp)
 clear 2 ?_ Af
 exact (Ab 0)
 refine @Gi _ _ _ _ _ ?_
 refine MC JQ JQ HY HY ?_ ?_ ?_
 exact (Ab 1)
 exact (Ab 0)
 exact (Ab 2)
theorem sc_fits_:FnScope (ns .Br) (ps .Br) (Ao (st .Br)):=⟨rfl,rfl,rfl,by decide +kernel,rfl,by decide +kernel,by decide +kernel⟩
theorem Ry (M:Md K mg A fd) (ih:∀x,okK (kd x) P w K mg base (n + 2) (A x) (fd x) (ps x) (run n x)):okK .pl P w K mg base (n + 2 + 1) (A .Br) (fd .Br) (ps .Br) (run (n + 1) .Br):=by
 refine BU (g:=fnOf 2 3 (JG (run n .Bd) (run n .Bv) (run n .Bu) (run n .Bo) (run n .Ay))) rfl (BT rfl rfl (M.fn .Br) sc_fits_ (λcdv A' outer s H E hr=>?_))
 clear 5
 clear 3 2 sc_fits_.nd
 clear 4 Al Am ?_ Ag
 exact (Ab 0)
 clear 5
 clear 9 AI
 clear 10 (Bz hr.units) (A5 (g:=id)) AE (AM _)
 exact (Ab 2)
 clear 8
 clear 12
 refine @FH _ _ _ _ _ _ _ _ _ Qn QB ?_ CD (AM _)
 exact (Ab 1)
 clear 5
 clear 9 AI
 clear 10 (Bz hr.units) (A5 (g:=id)) AE (AM _)
 exact (Ab 2)
 clear 8
 clear 12
 clear 1 .Ay (ih .Ay)
 clear 2 ?_ ?_
 exact (Ab 1)
 clear 2 ?_ ?_
 clear 4 Al Am ?_ Ag
 exact (Ab 0)
 clear 2 ?_ Af
 clear 4 Al Am ?_ Ag
 exact (Ab 0)
 clear 5
 clear 9 AI
 clear 10 (Bz hr.units) (A5 (g:=id)) AE (AM _)
 exact (Ab 2)
 clear 8
 clear 12
 clear 1 .Bo (ih .Bo)
 clear 2 ?_ ?_
 exact (Ab 0)
 clear 2 ?_ Af
 exact (Ab 1)
 clear 5
 clear 9 AI
 clear 10 (Bz hr.units) (A5 (g:=id)) AE (AM _)
 exact (Ab 2)
 clear 8
 clear 12
 clear 1 .Bu (ih .Bu)
 clear 2 ?_ ?_
 exact (Ab 0)
 clear 2 ?_ Af
 exact (Ab 1)
 clear 5
 clear 9 AI
 clear 10 (Bz hr.units) (A5 (g:=id)) AE (AM _)
 exact (Ab 2)
 clear 8
 clear 12
 clear 1 .Bv (ih .Bv)
 clear 2 ?_ ?_
 exact (Ab 0)
 clear 2 ?_ Af
 exact (Ab 1)
 clear 8
 clear 12
 clear 1 .Bd (ih .Bd)
 clear 2 ?_ ?_
 exact (Ab 0)
 clear 2 ?_ Af
 exact (Ab 1)
theorem sc_fits_text_:FnScope (ns .Bo) (ps .Bo) (Ao (st .Bo)):=⟨rfl,rfl,rfl,by decide +kernel,rfl,by decide +kernel,by decide +kernel⟩
theorem Lx (M:Md K mg A fd) (ih:∀x,okK (kd x) P w K mg base (n + 2) (A x) (fd x) (ps x) (run n x)):okK .pl P w K mg base (n + 2 + 1) (A .Bo) (fd .Bo) (ps .Bo) (run (n + 1) .Bo):=by
 refine BU (g:=fnOf 2 3 (E4 (run n .Bj))) rfl (BT rfl rfl (M.fn .Bo) sc_fits_text_ (λcdv A' outer s H E hr=>?_))
 clear 5
 clear 9 AI
 refine @HK _ _ _ ?_
 refine @Jy _ _ _ _ _ _ _ ?_ ?_
 refine @Dt _ _ _ _ ?_
 refine @Df _ _ _ ?_ (by intro _;rfl)
 clear 6 D9 ET M.z_isinstance Bt
 clear 2 ?_ ?_
 exact (Ab 1)
 clear 2 ?_ Af
 exact (GG rfl M.z_str Ps)
 refine @Hi _ _ _ _ ?_
 clear 10 Go Fv ?_ (AM _)
 clear 6 BO B1 M.z_len Cd
 clear 2 ?_ Af
 exact (Ab 1)
 clear 4 Al Am ?_ Ag
 exact (Ab 0)
 clear 8
 exact (AL Dm)
 clear 5
 clear 13 PassesOwn.never
 refine @Gj _ _ _ _ ?_
 exact (Ab 1)
 exact (Bc sc_fits_text_.nd rfl (.inl rfl))
 clear 8
 clear 9 AI
 refine @Dt _ _ _ _ ?_
 refine @Df _ _ _ ?_ (by intro _;rfl)
 clear 1 .Bj (ih .Bj)
 clear 2 ?_ Af
 clear 6 Mq Of M.z_ord Pq
 clear 2 ?_ Af
 exact (Ab 2)
 clear 8
 exact (AL Dm)
 clear 8
 exact (AL Dm)
theorem NK:FnScope (ns .Bj) (ps .Bj) (Ao (st .Bj)):=⟨rfl,rfl,rfl,by decide +kernel,rfl,by decide +kernel,by decide +kernel⟩
theorem ND (M:Md K mg A fd) (ih:∀x,okK (kd x) P w K mg base (n + 2) (A x) (fd x) (ps x) (run n x)):okK .pl P w K mg base (n + 2 + 1) (A .Bj) (fd .Bj) (ps .Bj) (run (n + 1) .Bj):=by
 obtain ⟨_,g_FIRST_SIGN⟩:=M.g_FIRST_SIGN
 obtain ⟨_,g_LAST_SIGN⟩:=M.g_LAST_SIGN
 obtain ⟨_,g_PERCENT_SIGN⟩:=M.g_PERCENT_SIGN
 refine BU (g:=fnOf 1 1 (F1)) rfl (BT rfl rfl (M.fn .Bj) NK (λcdv A' outer s H E hr=>?_))
 clear 8
 clear 12
 refine @Gh _ _ _ _ _ _ _ ?_ ?_
 refine MC JQ JQ HY HY ?_ ?_ ?_
 exact (HJ rfl g_FIRST_SIGN)
 exact (Ab 0)
 exact (HJ rfl g_LAST_SIGN)
 refine @Gi _ _ _ _ _ ?_
 refine @FH _ _ _ _ _ _ _ _ _ (Gp hr.units) (A5 (g:=λb=>!b)) ?_ ?_ (AM _)
 exact (Ab 0)
 exact (HJ rfl g_PERCENT_SIGN)
theorem sc_fits_list_:FnScope (ns .Bu) (ps .Bu) (Ao (st .Bu)):=⟨rfl,rfl,rfl,by decide +kernel,rfl,by decide +kernel,by decide +kernel⟩
theorem Lv (M:Md K mg A fd) (ih:∀x,okK (kd x) P w K mg base (n + 2) (A x) (fd x) (ps x) (run n x)):okK .pl P w K mg base (n + 2 + 1) (A .Bu) (fd .Bu) (ps .Bu) (run (n + 1) .Bu):=by
 refine BU (g:=fnOf 2 3 (E2 (run n .Br))) rfl (BT rfl rfl (M.fn .Bu) sc_fits_list_ (λcdv A' outer s H E hr=>?_))
 clear 5
 clear 9 AI
 refine @HK _ _ _ ?_
 refine @Jy _ _ _ _ _ _ _ ?_ ?_
 refine @Dt _ _ _ _ ?_
 refine @Df _ _ _ ?_ (by intro _;rfl)
 clear 6 D9 ET M.z_isinstance Bt
 clear 2 ?_ ?_
 exact (Ab 1)
 clear 2 ?_ Af
 exact (GG rfl M.z_list Gg)
 refine @Hi _ _ _ _ ?_
 clear 10 Go Fv ?_ (AM _)
 clear 6 BO B1 M.z_len Cd
 clear 2 ?_ Af
 exact (Ab 1)
 clear 4 Al Am ?_ Ag
 exact (Ab 0)
 clear 8
 exact (AL Dm)
 clear 5
 clear 13 PassesOwn.never
 refine @Gj _ _ _ _ ?_
 exact (Ab 1)
 exact (Bc sc_fits_list_.nd rfl (.inl rfl))
 clear 8
 clear 9 AI
 refine @Dt _ _ _ _ ?_
 refine @Df _ _ _ ?_ (by intro _;rfl)
 clear 1 .Br (ih .Br)
 clear 2 ?_ ?_
 clear 4 Al Am ?_ Ag
 exact (Ab 0)
 clear 2 ?_ Af
 exact (Ab 2)
 clear 8
 exact (AL Dm)
 clear 8
 exact (AL Dm)
theorem LC:FnScope (ns .Bv) (ps .Bv) (Ao (st .Bv)):=⟨rfl,rfl,rfl,by decide +kernel,rfl,by decide +kernel,by decide +kernel⟩
theorem Lw (M:Md K mg A fd) (ih:∀x,okK (kd x) P w K mg base (n + 2) (A x) (fd x) (ps x) (run n x)):okK .pl P w K mg base (n + 2 + 1) (A .Bv) (fd .Bv) (ps .Bv) (run (n + 1) .Bv):=by
 refine BU (g:=fnOf 2 2 (E3 (run n .Br))) rfl (BT rfl rfl (M.fn .Bv) LC (λcdv A' outer s H E hr=>?_))
 clear 5
 clear 9 AI
 refine @HK _ _ _ ?_
 refine @Jy _ _ _ _ _ _ _ ?_ ?_
 refine @Dt _ _ _ _ ?_
 refine @Df _ _ _ ?_ (by intro _;rfl)
 clear 6 D9 ET M.z_isinstance Bt
 clear 2 ?_ ?_
 exact (Ab 1)
 clear 2 ?_ Af
 exact (GG rfl M.z_tuple Ir)
 refine @Hi _ _ _ _ ?_
 clear 10 (Gp hr.units) (A5 (g:=λb=>!b)) Ag (AM _)
 clear 6 BO B1 M.z_len Cd
 clear 2 ?_ Af
 exact (Ab 1)
 clear 8
 exact (AL Dm)
 clear 8
 clear 12
 refine @Gh _ _ _ _ _ _ _ ?_ ?_
 clear 1 .Br (ih .Br)
 clear 2 ?_ ?_
 clear 4 Al Am ?_ Ag
 exact (Ab 0)
 clear 2 ?_ Af
 clear 4 Al Am ?_ Ag
 exact (Ab 1)
 refine @Gi _ _ _ _ _ ?_
 clear 1 .Br (ih .Br)
 clear 2 ?_ ?_
 clear 4 Al Am ?_ Ag
 exact (Ab 0)
 clear 2 ?_ Af
 clear 4 Al Am ?_ Ag
 exact (Ab 1)
theorem JX:FnScope (ns .Bd) (ps .Bd) (Ao (st .Bd)):=⟨rfl,rfl,rfl,by decide +kernel,rfl,by decide +kernel,by decide +kernel⟩
theorem JK (M:Md K mg A fd) (ih:∀x,okK (kd x) P w K mg base (n + 2) (A x) (fd x) (ps x) (run n x)):okK .pl P w K mg base (n + 2 + 1) (A .Bd) (fd .Bd) (ps .Bd) (run (n + 1) .Bd):=by
 refine BU (g:=fnOf 2 2 (D3 (run n .Br) (run n .Ay))) rfl (BT rfl rfl (M.fn .Bd) JX (λcdv A' outer s H E hr=>?_))
 clear 5
 clear 9 AI
 refine @HK _ _ _ ?_
 refine @Jy _ _ _ _ _ _ _ ?_ ?_
 refine @Dt _ _ _ _ ?_
 refine @Df _ _ _ ?_ (by intro _;rfl)
 clear 6 D9 ET M.z_isinstance Bt
 clear 2 ?_ ?_
 exact (Ab 1)
 clear 2 ?_ Af
 exact (GG rfl M.z_tuple Ir)
 refine @Hi _ _ _ _ ?_
 clear 10 (Gp hr.units) (A5 (g:=λb=>!b)) Ag (AM _)
 clear 6 BO B1 M.z_len Cd
 clear 2 ?_ Af
 exact (Ab 1)
 clear 8
 exact (AL Dm)
 clear 5
 clear 9 AI
 refine @HK _ _ _ ?_
 refine @Jy _ _ _ _ _ _ _ ?_ ?_
 refine @Dt _ _ _ _ ?_
 refine @Df _ _ _ ?_ (by intro _;rfl)
 clear 6 D9 ET M.z_isinstance Bt
 clear 2 ?_ ?_
 clear 4 Al Am ?_ Ag
 exact (Ab 1)
 clear 2 ?_ Af
 exact (GG rfl M.z_str Ps)
 refine @Hi _ _ _ _ ?_
 clear 10 (Gp hr.units) (A5 (g:=λb=>!b)) AE (AM _)
 clear 4 Al Am ?_ Ag
 exact (Ab 1)
 clear 8
 exact (AL Dm)
 clear 5
 clear 9 AI
 refine @Dt _ _ _ _ ?_
 refine @Df _ _ _ ?_ (by intro _;rfl)
 clear 1 .Ay (ih .Ay)
 clear 2 ?_ ?_
 clear 4 Al Am ?_ Ag
 exact (Ab 1)
 clear 2 Ag ?_
 clear 2 ?_ Af
 clear 7 Cl B6 ?_ Ag
 clear 6 BO B1 M.z_len Cd
 clear 2 ?_ Af
 clear 4 Al Am ?_ Ag
 exact (Ab 0)
 clear 8
 exact (AL Dm)
 clear 8
 clear 12
 clear 1 .Br (ih .Br)
 clear 2 ?_ ?_
 clear 4 Al Am ?_ ?_
 clear 4 Al Am ?_ Ag
 exact (Ab 0)
 clear 4 Al Am ?_ Ag
 exact (Ab 1)
 clear 2 ?_ Af
 clear 4 Al Am ?_ Ag
 exact (Ab 1)
theorem JY:FnScope (ns .Bb) (ps .Bb) (Ao (st .Bb)):=⟨rfl,rfl,rfl,by decide +kernel,rfl,by decide +kernel,by decide +kernel⟩
theorem JN (M:Md K mg A fd) (ih:∀x,okK (kd x) P w K mg base (n + 2) (A x) (fd x) (ps x) (run n x)):okK .ex P w K mg base (n + 2 + 1) (A .Bb) (fd .Bb) (ps .Bb) (run (n + 1) .Bb):=by
 obtain ⟨P',ca,x,xt,x0⟩:=M.xm
 refine CH (g:=fnOf 2 2 (Dr (run n .Av) (run n .Br))) rfl (Dd rfl rfl (M.fn .Bb) JY (λcdv A' outer s H E hr hp hq ho=>?_))
 clear 5
 clear 9 AI
 refine @Dt _ _ _ _ ?_
 refine @Df _ _ _ ?_ (by intro _;rfl)
 clear 1 .Br (ih .Br)
 clear 2 ?_ ?_
 exact (Ab 0)
 clear 2 ?_ Af
 exact (Ab 1)
 clear 8
 refine Ch ?_
 refine K8 (n:="NoValue") x (by decide) rfl (x0 "NoValue" (by decide)) rfl hq rfl ?_
 clear 2 AE Af
 clear 8
 refine Cq ?_
 refine Fa (ih .Av) hr rfl (M.mgs .Av) (Fun.kp (M.fn .Av)) (M.bd .Av) ?_
 clear 2 ?_ ?_
 exact (Ab 0)
 clear 2 ?_ Af
 exact (Ab 1)
theorem sc_fitting_bytes_:FnScope (ns .Av) (ps .Av) (Ao (st .Av)):=⟨rfl,rfl,rfl,by decide +kernel,rfl,by decide +kernel,by decide +kernel⟩
theorem Ih (M:Md K mg A fd) (ih:∀x,okK (kd x) P w K mg base (n + 2) (A x) (fd x) (ps x) (run n x)):okK .fr P w K mg base (n + 2 + 1) (A .Av) (fd .Av) (ps .Av) (run (n + 1) .Av):=by
 refine Oc (g:=fnOf 2 5 (DG (run n .Av) (run n .AO) (run n .A1))) rfl (NY rfl rfl (M.fn .Av) sc_fitting_bytes_ (λcdv A' outer s H E hr=>?_))
 clear 5
 clear 3 2 sc_fitting_bytes_.nd
 clear 4 Al Am ?_ Ag
 exact (Ab 0)
 clear 5
 clear 9 AI
 clear 10 (Bz hr.units) (A5 (g:=id)) AE (AM _)
 exact (Ab 2)
 clear 8
 refine Fu ?_
 exact (A4 Af)
 clear 5
 clear 9 AI
 clear 10 (Bz hr.units) (A5 (g:=id)) AE (AM _)
 exact (Ab 2)
 clear 8
 refine Fu ?_
 refine MD (ih .A1) hr rfl (M.mgs .A1) (Fun.kp (M.fn .A1)) (M.bd .A1) ?_
 clear 2 ?_ ?_
 clear 7 Cl B6 ?_ ?_
 exact (Ab 1)
 clear 4 Al Am ?_ Ag
 exact (Ab 0)
 clear 2 ?_ Af
 clear 1 .AO (ih .AO)
 clear 2 ?_ Af
 clear 7 Cl B6 ?_ ?_
 clear 4 Al Am ?_ Ag
 exact (Ab 0)
 clear 4 Al Am ?_ Ag
 exact (Ab 0)
 clear 5
 clear 9 AI
 clear 10 (Bz hr.units) (A5 (g:=id)) AE (AM _)
 exact (Ab 2)
 clear 8
 refine Fu ?_
 refine @OH _ _ _ _ _ _ _ _ _ op_cat IY ?_ ?_
 refine @AN _ _ _ ?_
 refine @A4 _ _ _ _ ?_
 clear 2 ?_ Af
 clear 6 BO B1 M.z_len Cd
 clear 2 ?_ Af
 exact (Ab 1)
 refine @AN _ _ _ ?_
 refine EL (FE ["sign"] [] rfl rfl rfl rfl rfl) rfl ?_ ?_ ?_ ?_
 refine @Gj _ _ _ _ ?_
 exact (Ab 1)
 intro _ _ _ _ _
 exact (Bc (by show List.Nodup [("sign" : Str)] ;decide +kernel) rfl (.inl rfl))
 intro _ _ _ _ _
 exact EN
 intro _ _ _ _ _
 clear 6 Mq Of M.z_ord Pq
 clear 2 ?_ Af
 exact (Ab 0)
 clear 5
 clear 9 AI
 clear 10 (Bz hr.units) (A5 (g:=id)) AE (AM _)
 exact (Ab 2)
 clear 5
 clear 11 3 sc_fitting_bytes_.nd
 refine @A4 _ _ _ _ ?_
 clear 2 ?_ Af
 clear 6 BO B1 M.z_len Cd
 clear 2 ?_ Af
 exact (Ab 1)
 clear 5
 clear 13 PassesOwn.never
 refine @Gj _ _ _ _ ?_
 exact (Ab 1)
 exact (Bc sc_fitting_bytes_.nd rfl (.inl rfl))
 clear 8
 refine OL 3 ?_
 clear 2 ?_ Af
 refine Fa (ih .Av) hr rfl (M.mgs .Av) (Fun.kp (M.fn .Av)) (M.bd .Av) ?_
 clear 2 ?_ ?_
 clear 4 Al Am ?_ Ag
 exact (Ab 0)
 clear 2 ?_ Af
 exact (Ab 4)
 clear 8
 exact (PQ 3)
 clear 5
 clear 9 AI
 clear 10 (Bz hr.units) (A5 (g:=id)) AE (AM _)
 exact (Ab 2)
 clear 8
 refine Fu ?_
 refine @OH _ _ _ _ _ _ _ _ _ op_cat IY ?_ ?_
 refine Fa (ih .Av) hr rfl (M.mgs .Av) (Fun.kp (M.fn .Av)) (M.bd .Av) ?_
 clear 2 ?_ ?_
 clear 4 Al Am ?_ Ag
 exact (Ab 0)
 clear 2 ?_ Af
 clear 4 Al Am ?_ Ag
 exact (Ab 1)
 refine Fa (ih .Av) hr rfl (M.mgs .Av) (Fun.kp (M.fn .Av)) (M.bd .Av) ?_
 clear 2 ?_ ?_
 clear 4 Al Am ?_ Ag
 exact (Ab 0)
 clear 2 ?_ Af
 clear 4 Al Am ?_ Ag
 exact (Ab 1)
 clear 8
 refine Fu ?_
 refine @OH _ _ _ _ _ _ _ _ _ op_cat IY ?_ ?_
 refine @AN _ _ _ ?_
 refine @A4 _ _ _ _ ?_
 clear 2 ?_ Af
 clear 4 Al Am ?_ Ag
 exact (Ab 1)
 refine Fa (ih .Av) hr rfl (M.mgs .Av) (Fun.kp (M.fn .Av)) (M.bd .Av) ?_
 clear 2 ?_ ?_
 clear 4 Al Am ?_ ?_
 clear 4 Al Am ?_ Ag
 exact (Ab 0)
 clear 4 Al Am ?_ Ag
 exact (Ab 1)
 clear 2 ?_ Af
 clear 4 Al Am ?_ Ag
 exact (Ab 1)
theorem JZ:FnScope (ns .AO) (ps .AO) (Ao (st .AO)):=⟨rfl,rfl,rfl,by decide +kernel,rfl,by decide +kernel,by decide +kernel⟩
theorem JO (M:Md K mg A fd) (ih:∀x,okK (kd x) P w K mg base (n + 2) (A x) (fd x) (ps x) (run n x)):okK .pl P w K mg base (n + 2 + 1) (A .AO) (fd .AO) (ps .AO) (run (n + 1) .AO):=by
 refine BU (g:=fnOf 1 1 (D4)) rfl (BT rfl rfl (M.fn .AO) JZ (λcdv A' outer s H E hr=>?_))
 clear 8
 clear 12
 clear 7 KG IZ ?_ Ag
 clear 7 AS AK ?_ Ag
 refine PD ?_
 exact (Ab 0)
theorem IX:FnScope (ns .A1) (ps .A1) (Ao (st .A1)):=⟨rfl,rfl,rfl,by decide +kernel,rfl,by decide +kernel,by decide +kernel⟩
theorem IM (M:Md K mg A fd) (ih:∀x,okK (kd x) P w K mg base (n + 2) (A x) (fd x) (ps x) (run n x)):okK .fr P w K mg base (n + 2 + 1) (A .A1) (fd .A1) (ps .A1) (run (n + 1) .A1):=by
 refine Oc (g:=fnOf 2 2 (DP (run n .Bk))) rfl (NY rfl rfl (M.fn .A1) IX (λcdv A' outer s H E hr=>?_))
 clear 8
 refine Fu ?_
 refine EL (FE ["k"] [(0 , "number") ,(1 , "width")] rfl rfl rfl rfl rfl) rfl ?_ ?_ ?_ ?_
 refine GI rfl M.z_range ?_
 clear 2 Ag ?_
 clear 2 ?_ Af
 clear 7 AS AK ?_ Ag
 exact (Ab 1)
 intro _ _ _ _ _
 exact (Bc (by show List.Nodup [("k" : Str) ,("number" : Str) ,("width" : Str)] ;decide +kernel) rfl (.inl rfl))
 intro _ _ _ _ _
 exact EN
 intro _ _ _ _ _
 clear 7 FO EU ?_ Ag
 clear 1 .Bk (ih .Bk)
 clear 2 ?_ ?_
 exact (Ab 1)
 clear 2 ?_ Af
 clear 7 Cl B6 ?_ ?_
 exact (Ab 2)
 exact (Ab 0)
theorem NL:FnScope (ns .Bk) (ps .Bk) (Ao (st .Bk)):=⟨rfl,rfl,rfl,by decide +kernel,rfl,by decide +kernel,by decide +kernel⟩
theorem NE (M:Md K mg A fd) (ih:∀x,okK (kd x) P w K mg base (n + 2) (A x) (fd x) (ps x) (run n x)):okK .pl P w K mg base (n + 2 + 1) (A .Bk) (fd .Bk) (ps .Bk) (run (n + 1) .Bk):=by
 refine BU (g:=fnOf 2 2 (F4)) rfl (BT rfl rfl (M.fn .Bk) NL (λcdv A' outer s H E hr=>?_))
 clear 8
 clear 12
 clear 7 Vw Uw ?_ ?_
 exact (Ab 0)
 clear 7 ER Ee Ag ?_
 exact (Ab 1)
theorem sc_read_value_:FnScope (ns .Aw) (ps .Aw) (Ao (st .Aw)):=⟨rfl,rfl,rfl,by decide +kernel,rfl,by decide +kernel,by decide +kernel⟩
theorem KF (M:Md K mg A fd) (ih:∀x,okK (kd x) P w K mg base (n + 2) (A x) (fd x) (ps x) (run n x)):okK .ex P w K mg base (n + 2 + 1) (A .Aw) (fd .Aw) (ps .Aw) (run (n + 1) .Aw):=by
 refine CH (g:=fnOf 3 4 (C1 (run n .Be) (run n .Bx) (run n .Bw) (run n .By) (run n .Bf))) rfl (Dd rfl rfl (M.fn .Aw) sc_read_value_ (λcdv A' outer s H E hr hp hq ho=>?_))
 clear 5
 clear 3 3 sc_read_value_.nd
 clear 4 Al Am ?_ Ag
 exact (Ab 0)
 clear 5
 clear 9 AI
 clear 10 (Bz hr.units) (A5 (g:=id)) AE (AM _)
 exact (Ab 3)
 clear 8
 refine Cq ?_
 refine @BD _ _ _ _ _ ?_
 clear 2 CD ?_
 clear 2 ?_ Af
 exact (Ab 2)
 clear 5
 clear 9 AI
 clear 10 (Bz hr.units) (A5 (g:=id)) AE (AM _)
 exact (Ab 3)
 clear 8
 refine Ch ?_
 refine Gm ?_
 refine BV (ih .Bf) hr rfl (M.mgs .Bf) (Fun.kp (M.fn .Bf)) (M.bd .Bf) hp ?_
 clear 2 ?_ ?_
 exact (Ab 0)
 clear 2 ?_ ?_
 exact (Ab 1)
 clear 2 ?_ Af
 exact (Ab 2)
 clear 5
 clear 9 AI
 clear 10 (Bz hr.units) (A5 (g:=id)) AE (AM _)
 exact (Ab 3)
 clear 8
 refine Ch ?_
 refine Gm ?_
 refine BV (ih .By) hr rfl (M.mgs .By) (Fun.kp (M.fn .By)) (M.bd .By) hp ?_
 clear 2 ?_ ?_
 exact (Ab 0)
 clear 2 ?_ ?_
 exact (Ab 1)
 clear 2 ?_ Af
 exact (Ab 2)
 clear 5
 clear 9 AI
 clear 10 (Bz hr.units) (A5 (g:=id)) AE (AM _)
 exact (Ab 3)
 clear 8
 refine Ch ?_
 refine Gm ?_
 refine BV (ih .Bw) hr rfl (M.mgs .Bw) (Fun.kp (M.fn .Bw)) (M.bd .Bw) hp ?_
 clear 2 ?_ ?_
 exact (Ab 0)
 clear 2 ?_ ?_
 exact (Ab 1)
 clear 2 ?_ Af
 exact (Ab 2)
 clear 5
 clear 9 AI
 clear 10 (Bz hr.units) (A5 (g:=id)) AE (AM _)
 exact (Ab 3)
 clear 8
 refine Ch ?_
 refine Gm ?_
 refine BV (ih .Bx) hr rfl (M.mgs .Bx) (Fun.kp (M.fn .Bx)) (M.bd .Bx) hp ?_
 clear 2 ?_ ?_
 exact (Ab 0)
 clear 2 ?_ ?_
 exact (Ab 1)
 clear 2 ?_ Af
 exact (Ab 2)
 clear 8
 refine Ch ?_
 refine Gm ?_
 refine BV (ih .Be) hr rfl (M.mgs .Be) (Fun.kp (M.fn .Be)) (M.bd .Be) hp ?_
 clear 2 ?_ ?_
 exact (Ab 0)
 clear 2 ?_ ?_
 exact (Ab 1)
 clear 2 ?_ Af
 exact (Ab 2)
theorem NJ:FnScope (ns .A8) (ps .A8) (Ao (st .A8)):=⟨rfl,rfl,rfl,by decide +kernel,rfl,by decide +kernel,by decide +kernel⟩
theorem NC (M:Md K mg A fd) (ih:∀x,okK (kd x) P w K mg base (n + 2) (A x) (fd x) (ps x) (run n x)):okK .ex P w K mg base (n + 2 + 1) (A .A8) (fd .A8) (ps .A8) (run (n + 1) .A8):=by
 obtain ⟨P',ca,x,xt,x0⟩:=M.xm
 refine CH (g:=fnOf 2 2 (EC)) rfl (Dd rfl rfl (M.fn .A8) NJ (λcdv A' outer s H E hr hp hq ho=>?_))
 clear 5
 clear 9 AI
 clear 10 JP HX ?_ (AM _)
 exact (Ab 1)
 clear 6 BO B1 M.z_len Cd
 clear 2 ?_ Af
 exact (Ab 0)
 clear 8
 refine Ch ?_
 refine K8 (n:="Short") x (by decide) rfl (x0 "Short" (by decide)) rfl hq rfl ?_
 clear 2 AE Af
 clear 8
 refine Cq ?_
 clear 4 Al Am ?_ ?_
 exact (Ab 0)
 exact (Ab 1)
theorem sc_byte_up_to_:FnScope (ns .AH) (ps .AH) (Ao (st .AH)):=⟨rfl,rfl,rfl,by decide +kernel,rfl,by decide +kernel,by decide +kernel⟩
theorem KA (M:Md K mg A fd) (ih:∀x,okK (kd x) P w K mg base (n + 2) (A x) (fd x) (ps x) (run n x)):okK .ex P w K mg base (n + 2 + 1) (A .AH) (fd .AH) (ps .AH) (run (n + 1) .AH):=by
 obtain ⟨P',ca,x,xt,x0⟩:=M.xm
 have xb:XN2 P w K mg base (ca "Broken") P':=GN rfl J0 rfl rfl rfl xt
 refine CH (g:=fnOf 3 4 (DB (run n .A8))) rfl (Dd rfl rfl (M.fn .AH) sc_byte_up_to_ (λcdv A' outer s H E hr hp hq ho=>?_))
 clear 5
 refine Ch ?_
 refine Cr (i:=3) sc_byte_up_to_.nd rfl (.inl rfl) ?_
 refine BV (ih .A8) hr rfl (M.mgs .A8) (Fun.kp (M.fn .A8)) (M.bd .A8) hp ?_
 clear 2 ?_ ?_
 exact (Ab 1)
 clear 2 ?_ Af
 exact (Ab 2)
 clear 5
 clear 9 AI
 clear 10 Go Fv ?_ (AM _)
 exact (Ab 3)
 exact (Ab 0)
 clear 8
 refine Ch ?_
 refine FZ x xb (hr.mono (by lia)) rfl hq rfl ?_
 clear 2 ?_ ?_
 exact (Ab 2)
 clear 2 CD Af
 clear 8
 refine Cq ?_
 exact (Ab 3)
theorem sc_read_number_:FnScope (ns .Bf) (ps .Bf) (Ao (st .Bf)):=⟨rfl,rfl,rfl,by decide +kernel,rfl,by decide +kernel,by decide +kernel⟩
theorem JM (M:Md K mg A fd) (ih:∀x,okK (kd x) P w K mg base (n + 2) (A x) (fd x) (ps x) (run n x)):okK .ex P w K mg base (n + 2 + 1) (A .Bf) (fd .Bf) (ps .Bf) (run (n + 1) .Bf):=by
 obtain ⟨P',ca,x,xt,x0⟩:=M.xm
 have xb:XN2 P w K mg base (ca "Broken") P':=GN rfl J0 rfl rfl rfl xt
 refine CH (g:=fnOf 3 7 (CL (run n .Bk) (run n .A8) (run n .AO))) rfl (Dd rfl rfl (M.fn .Bf) sc_read_number_ (λcdv A' outer s H E hr hp hq ho=>?_))
 clear 5
 clear 3 3 sc_read_number_.nd
 clear 7 Cl B6 ?_ ?_
 clear 4 Al Am ?_ Ag
 exact (Ab 0)
 clear 4 Al Am ?_ Ag
 exact (Ab 0)
 clear 5
 clear 3 4 sc_read_number_.nd
 clear 1 .AO (ih .AO)
 clear 2 ?_ Af
 exact (Ab 3)
 clear 5
 exact (AJ (i:=5) sc_read_number_.nd rfl (.inl rfl) Ag)
 clear 5
 clear 13 ho
 refine Ck rfl M.z_range ?_
 clear 2 ?_ Af
 exact (Ab 4)
 exact (Bc sc_read_number_.nd rfl (.inl rfl))
 clear 5
 refine Ch ?_
 refine Cr (i:=5) sc_read_number_.nd rfl (.inl rfl) ?_
 refine SD AS AK ?_ ?_
 clear 7 ER Ee ?_ Ag
 exact (Ab 5)
 refine BV (ih .A8) hr rfl (M.mgs .A8) (Fun.kp (M.fn .A8)) (M.bd .A8) hp ?_
 clear 2 ?_ ?_
 exact (Ab 1)
 clear 2 ?_ Af
 clear 7 AS AK ?_ ?_
 exact (Ab 2)
 exact (Ab 6)
 clear 8
 clear 9 AI
 clear 10 Go Fv ?_ (AM _)
 exact (Ab 5)
 clear 1 .Bk (ih .Bk)
 clear 2 ?_ ?_
 exact (Ab 3)
 clear 2 ?_ Af
 clear 7 Cl B6 ?_ ?_
 clear 7 Cl B6 ?_ Ag
 exact (Ab 4)
 exact (Ab 6)
 clear 8
 refine Ch ?_
 refine FZ x xb (hr.mono (by lia)) rfl hq rfl ?_
 clear 2 ?_ ?_
 clear 7 AS AK ?_ ?_
 exact (Ab 2)
 exact (Ab 6)
 clear 2 CD Af
 clear 8
 refine Cq ?_
 refine @BD _ _ _ _ _ ?_
 clear 2 ?_ ?_
 clear 7 AS AK ?_ ?_
 clear 4 Al Am ?_ Ag
 exact (Ab 0)
 exact (Ab 5)
 clear 2 ?_ Af
 clear 7 AS AK ?_ ?_
 exact (Ab 2)
 exact (Ab 4)
theorem sc_read_text_:FnScope (ns .By) (ps .By) (Ao (st .By)):=⟨rfl,rfl,rfl,by decide +kernel,rfl,by decide +kernel,by decide +kernel⟩
theorem LB (M:Md K mg A fd) (ih:∀x,okK (kd x) P w K mg base (n + 2) (A x) (fd x) (ps x) (run n x)):okK .ex P w K mg base (n + 2 + 1) (A .By) (fd .By) (ps .By) (run (n + 1) .By):=by
 refine CH (g:=fnOf 3 7 (Di (run n .BG) (run n .AH))) rfl (Dd rfl rfl (M.fn .By) sc_read_text_ (λcdv A' outer s H E hr hp hq ho=>?_))
 clear 5
 refine Ch ?_
 refine Cr (i:=3) sc_read_text_.nd rfl (.inl rfl) ?_
 refine BV (ih .AH) hr rfl (M.mgs .AH) (Fun.kp (M.fn .AH)) (M.bd .AH) hp ?_
 clear 2 ?_ ?_
 clear 4 Al Am ?_ Ag
 exact (Ab 0)
 clear 2 ?_ ?_
 exact (Ab 1)
 clear 2 ?_ Af
 exact (Ab 2)
 clear 5
 clear 3 4 sc_read_text_.nd
 clear 7 AS AK ?_ Ag
 exact (Ab 2)
 clear 5
 exact (AJ (i:=5) sc_read_text_.nd rfl (.inl rfl) AE)
 clear 5
 clear 13 ho
 refine Ck rfl M.z_range ?_
 clear 2 ?_ Af
 exact (Ab 3)
 exact (Bc sc_read_text_.nd rfl (.inl rfl))
 clear 8
 refine Ch ?_
 refine Cr (i:=5) sc_read_text_.nd rfl (.inl rfl) ?_
 refine SD AS AK ?_ ?_
 exact (Ab 5)
 refine BV (ih .BG) hr rfl (M.mgs .BG) (Fun.kp (M.fn .BG)) (M.bd .BG) hp ?_
 clear 2 ?_ ?_
 exact (Ab 1)
 clear 2 ?_ Af
 clear 7 AS AK ?_ ?_
 exact (Ab 4)
 exact (Ab 6)
 clear 8
 refine Cq ?_
 refine @BD _ _ _ _ _ ?_
 clear 2 ?_ ?_
 exact (Ab 5)
 clear 2 ?_ Af
 clear 7 AS AK ?_ ?_
 exact (Ab 4)
 exact (Ab 3)
theorem sc_sign_at_:FnScope (ns .BG) (ps .BG) (Ao (st .BG)):=⟨rfl,rfl,rfl,by decide +kernel,rfl,by decide +kernel,by decide +kernel⟩
theorem NG (M:Md K mg A fd) (ih:∀x,okK (kd x) P w K mg base (n + 2) (A x) (fd x) (ps x) (run n x)):okK .ex P w K mg base (n + 2 + 1) (A .BG) (fd .BG) (ps .BG) (run (n + 1) .BG):=by
 obtain ⟨_,g_FIRST_SIGN⟩:=M.g_FIRST_SIGN
 obtain ⟨_,g_SIGNS⟩:=M.g_SIGNS
 obtain ⟨P',ca,x,xt,x0⟩:=M.xm
 have xb:XN2 P w K mg base (ca "Broken") P':=GN rfl J0 rfl rfl rfl xt
 refine CH (g:=fnOf 2 3 (EE (run n .Bj) (run n .A8))) rfl (Dd rfl rfl (M.fn .BG) sc_sign_at_ (λcdv A' outer s H E hr hp hq ho=>?_))
 clear 5
 refine Ch ?_
 refine Cr (i:=2) sc_sign_at_.nd rfl (.inl rfl) ?_
 refine BV (ih .A8) hr rfl (M.mgs .A8) (Fun.kp (M.fn .A8)) (M.bd .A8) hp ?_
 clear 2 ?_ ?_
 exact (Ab 0)
 clear 2 ?_ Af
 exact (Ab 1)
 clear 5
 clear 9 AI
 refine @Dt _ _ _ _ ?_
 refine @Df _ _ _ ?_ (by intro _;rfl)
 clear 1 .Bj (ih .Bj)
 clear 2 ?_ Af
 exact (Ab 2)
 clear 8
 refine Ch ?_
 refine FZ x xb (hr.mono (by lia)) rfl hq rfl ?_
 clear 2 ?_ ?_
 exact (Ab 1)
 clear 2 CD Af
 clear 8
 refine Cq ?_
 clear 4 Al Am ?_ ?_
 exact (Rc rfl g_SIGNS)
 clear 7 Cl B6 ?_ ?_
 exact (Ab 2)
 exact (HJ rfl g_FIRST_SIGN)
theorem sc_read_list_:FnScope (ns .Bw) (ps .Bw) (Ao (st .Bw)):=⟨rfl,rfl,rfl,by decide +kernel,rfl,by decide +kernel,by decide +kernel⟩
theorem Lz (M:Md K mg A fd) (ih:∀x,okK (kd x) P w K mg base (n + 2) (A x) (fd x) (ps x) (run n x)):okK .ex P w K mg base (n + 2 + 1) (A .Bw) (fd .Bw) (ps .Bw) (run (n + 1) .Bw):=by
 refine CH (g:=fnOf 3 8 (Dg (run n .Aw) (run n .AH))) rfl (Dd rfl rfl (M.fn .Bw) sc_read_list_ (λcdv A' outer s H E hr hp hq ho=>?_))
 clear 5
 refine Ch ?_
 refine Cr (i:=3) sc_read_list_.nd rfl (.inl rfl) ?_
 refine BV (ih .AH) hr rfl (M.mgs .AH) (Fun.kp (M.fn .AH)) (M.bd .AH) hp ?_
 clear 2 ?_ ?_
 clear 4 Al Am ?_ Ag
 exact (Ab 0)
 clear 2 ?_ ?_
 exact (Ab 1)
 clear 2 ?_ Af
 exact (Ab 2)
 clear 5
 clear 3 4 sc_read_list_.nd
 clear 7 AS AK ?_ Ag
 exact (Ab 2)
 clear 5
 clear 11 5 sc_read_list_.nd
 exact (A4 Af)
 clear 5
 clear 13 ho
 refine Ck rfl M.z_range ?_
 clear 2 ?_ Af
 exact (Ab 3)
 exact (Bc sc_read_list_.nd rfl (.inl rfl))
 clear 5
 refine Ch ?_
 refine Cr (i:=7) sc_read_list_.nd rfl (.inl rfl) ?_
 refine BV (ih .Aw) hr rfl (M.mgs .Aw) (Fun.kp (M.fn .Aw)) (M.bd .Aw) hp ?_
 clear 2 ?_ ?_
 clear 4 Al Am ?_ Ag
 exact (Ab 0)
 clear 2 ?_ ?_
 exact (Ab 1)
 clear 2 ?_ Af
 exact (Ab 4)
 clear 5
 refine CG 5 ?_
 clear 2 ?_ Af
 clear 4 Al Am ?_ Ag
 exact (Ab 7)
 clear 8
 clear 3 4 sc_read_list_.nd
 clear 4 Al Am ?_ Ag
 exact (Ab 7)
 clear 8
 refine Cq ?_
 refine @BD _ _ _ _ _ ?_
 clear 2 ?_ ?_
 exact (Ab 5)
 clear 2 ?_ Af
 exact (Ab 4)
theorem sc_read_pair_:FnScope (ns .Bx) (ps .Bx) (Ao (st .Bx)):=⟨rfl,rfl,rfl,by decide +kernel,rfl,by decide +kernel,by decide +kernel⟩
theorem LA (M:Md K mg A fd) (ih:∀x,okK (kd x) P w K mg base (n + 2) (A x) (fd x) (ps x) (run n x)):okK .ex P w K mg base (n + 2 + 1) (A .Bx) (fd .Bx) (ps .Bx) (run (n + 1) .Bx):=by
 refine CH (g:=fnOf 3 5 (Dh (run n .Aw))) rfl (Dd rfl rfl (M.fn .Bx) sc_read_pair_ (λcdv A' outer s H E hr hp hq ho=>?_))
 clear 5
 refine Ch ?_
 refine Cr (i:=3) sc_read_pair_.nd rfl (.inl rfl) ?_
 refine BV (ih .Aw) hr rfl (M.mgs .Aw) (Fun.kp (M.fn .Aw)) (M.bd .Aw) hp ?_
 clear 2 ?_ ?_
 clear 4 Al Am ?_ Ag
 exact (Ab 0)
 clear 2 ?_ ?_
 exact (Ab 1)
 clear 2 ?_ Af
 exact (Ab 2)
 clear 5
 refine Ch ?_
 refine Cr (i:=4) sc_read_pair_.nd rfl (.inl rfl) ?_
 refine BV (ih .Aw) hr rfl (M.mgs .Aw) (Fun.kp (M.fn .Aw)) (M.bd .Aw) hp ?_
 clear 2 ?_ ?_
 clear 4 Al Am ?_ Ag
 exact (Ab 0)
 clear 2 ?_ ?_
 exact (Ab 1)
 clear 2 ?_ Af
 clear 4 Al Am ?_ Ag
 exact (Ab 3)
 clear 8
 refine Cq ?_
 refine @BD _ _ _ _ _ ?_
 clear 2 ?_ ?_
 refine @BD _ _ _ _ _ ?_
 clear 2 ?_ ?_
 clear 4 Al Am ?_ Ag
 exact (Ab 3)
 clear 2 ?_ Af
 clear 4 Al Am ?_ Ag
 exact (Ab 4)
 clear 2 ?_ Af
 clear 4 Al Am ?_ Ag
 exact (Ab 4)
theorem sc_read_choice_:FnScope (ns .Be) (ps .Be) (Ao (st .Be)):=⟨rfl,rfl,rfl,by decide +kernel,rfl,by decide +kernel,by decide +kernel⟩
theorem JL (M:Md K mg A fd) (ih:∀x,okK (kd x) P w K mg base (n + 2) (A x) (fd x) (ps x) (run n x)):okK .ex P w K mg base (n + 2 + 1) (A .Be) (fd .Be) (ps .Be) (run (n + 1) .Be):=by
 refine CH (g:=fnOf 3 5 (CK (run n .Aw) (run n .AH))) rfl (Dd rfl rfl (M.fn .Be) sc_read_choice_ (λcdv A' outer s H E hr hp hq ho=>?_))
 clear 5
 refine Ch ?_
 refine Cr (i:=3) sc_read_choice_.nd rfl (.inl rfl) ?_
 refine BV (ih .AH) hr rfl (M.mgs .AH) (Fun.kp (M.fn .AH)) (M.bd .AH) hp ?_
 clear 2 ?_ ?_
 clear 7 Cl B6 ?_ Ag
 clear 6 BO B1 M.z_len Cd
 clear 2 ?_ Af
 clear 4 Al Am ?_ Ag
 exact (Ab 0)
 clear 2 ?_ ?_
 exact (Ab 1)
 clear 2 ?_ Af
 exact (Ab 2)
 clear 5
 refine Ch ?_
 refine Cr (i:=4) sc_read_choice_.nd rfl (.inl rfl) ?_
 refine BV (ih .Aw) hr rfl (M.mgs .Aw) (Fun.kp (M.fn .Aw)) (M.bd .Aw) hp ?_
 clear 2 ?_ ?_
 clear 4 Al Am ?_ ?_
 clear 4 Al Am ?_ Ag
 exact (Ab 0)
 exact (Ab 3)
 clear 2 ?_ ?_
 exact (Ab 1)
 clear 2 ?_ Af
 clear 7 AS AK ?_ Ag
 exact (Ab 2)
 clear 8
 refine Cq ?_
 refine @BD _ _ _ _ _ ?_
 clear 2 ?_ ?_
 refine @BD _ _ _ _ _ ?_
 clear 2 AE ?_
 clear 2 ?_ ?_
 exact (Ab 3)
 clear 2 ?_ Af
 clear 4 Al Am ?_ Ag
 exact (Ab 4)
 clear 2 ?_ Af
 clear 4 Al Am ?_ Ag
 exact (Ab 4)
theorem sc_talk_by_:FnScope (ns .BH) (ps .BH) (Ao (st .BH)):=⟨rfl,rfl,rfl,by decide +kernel,rfl,by decide +kernel,by decide +kernel⟩
theorem NH (M:Md K mg A fd) (ih:∀x,okK (kd x) P w K mg base (n + 2) (A x) (fd x) (ps x) (run n x)):okK .er P w K mg base (n + 2 + 1) (A .BH) (fd .BH) (ps .BH) (run (n + 1) .BH):=by
 refine CH (g:=fnOf 3 4 (F6 (run n .BF))) rfl (Ku rfl rfl (M.fn .BH) sc_talk_by_ (λcdv A' outer s H E hr hp hq ho ht=>?_))
 clear 5
 refine Ch ?_
 refine Cr (i:=3) sc_talk_by_.nd rfl (.inl rfl) ?_
 refine BV (ih .BF) hr rfl (M.mgs .BF) (Fun.kp (M.fn .BF)) (M.bd .BF) hp ?_
 clear 2 ?_ ?_
 exact (Ab 0)
 clear 2 Ag ?_
 clear 2 ?_ ?_
 refine Eh ?_
 refine B2 ?_ ?_
 exact (Ab 1)
 refine B2 ?_ Ej
 exact (Ab 2)
 clear 2 ?_ Af
 refine Eh ?_
 refine B2 Ag ?_
 exact (B2 Ag Ej)
 clear 8
 refine Cq ?_
 refine @BD _ _ _ _ _ ?_
 clear 2 ?_ ?_
 clear 4 Al Am ?_ Ag
 exact (Ab 3)
 clear 2 ?_ ?_
 clear 4 Al Am ?_ Ag
 exact (Ab 3)
 clear 2 ?_ Af
 refine @BD _ _ _ _ _ ?_
 clear 2 ?_ ?_
 clear 4 B4 BA ?_ AE
 clear 4 Al Am ?_ Ag
 exact (Ab 3)
 clear 2 ?_ Af
 clear 4 B4 BA ?_ AE
 clear 4 Al Am ?_ Ag
 exact (Ab 3)
theorem sc_read_on_:FnScope (ns .BF) (ps .BF) (Ao (st .BF)):=⟨rfl,rfl,rfl,by decide +kernel,rfl,by decide +kernel,by decide +kernel⟩
theorem NF (M:Md K mg A fd) (ih:∀x,okK (kd x) P w K mg base (n + 2) (A x) (fd x) (ps x) (run n x)):okK .er P w K mg base (n + 2 + 1) (A .BF) (fd .BF) (ps .BF) (run (n + 1) .BF):=by
 refine CH (g:=fnOf 4 9 (F5 (run n .A3))) rfl (Ku rfl rfl (M.fn .BF) sc_read_on_ (λcdv A' outer s H E hr hp hq ho ht=>?_))
 clear 5
 clear 11 4 sc_read_on_.nd
 exact (A4 Af)
 clear 5
 clear 3 5 sc_read_on_.nd
 exact (Ab 1)
 clear 5
 clear 3 6 sc_read_on_.nd
 refine Rb rfl M.z_dict ?_
 clear 2 ?_ Af
 exact (Ab 3)
 clear 5
 refine MO ho ?_ ?_
 clear 10 (Vu hr.units) (Us (neg:=false)) ?_ (by with_unfolding_all rfl)
 clear 4 Al Am ?_ Ag
 clear 4 Al Am ?_ ?_
 exact (Ab 0)
 exact (Ab 5)
 exact (Ab 2)
 clear 5
 clear 3 7 sc_read_on_.nd
 clear 4 Al Am ?_ Ag
 clear 4 Al Am ?_ ?_
 exact (Ab 0)
 exact (Ab 5)
 clear 5
 refine Ch ?_
 refine Cr (i:=8) sc_read_on_.nd rfl (.inl rfl) ?_
 refine BV (ih .A3) hr rfl (M.mgs .A3) (Fun.kp (M.fn .A3)) (M.bd .A3) hp ?_
 clear 2 ?_ ?_
 clear 4 Al Am ?_ ?_
 exact (Ab 0)
 exact (Ab 5)
 clear 2 ?_ ?_
 clear 4 B4 BA ?_ ?_
 exact (Ab 2)
 exact (Ab 7)
 clear 2 ?_ Af
 clear 4 B4 BA ?_ ?_
 exact (Ab 6)
 exact (Ab 7)
 clear 5
 clear 9 AI
 clear 10 Qn QB CD (AM _)
 exact (Ab 8)
 exact (Ak IB)
 clear 5
 refine CG 4 ?_
 clear 2 ?_ Af
 clear 4 Al Am ?_ Ag
 exact (Ab 8)
 clear 5
 clear 3 5 sc_read_on_.nd
 clear 4 Al Am ?_ Ag
 exact (Ab 8)
 clear 8
 refine CF ?_ ?_
 clear 4 Al Am ?_ Ag
 exact (Ab 8)
 refine Cv ?_ ?_
 exact (Ab 6)
 exact (Ab 7)
 clear 8
 refine Cq ?_
 refine @BD _ _ _ _ _ ?_
 clear 2 ?_ ?_
 exact (Ab 4)
 clear 2 ?_ ?_
 exact (Ab 5)
 clear 2 ?_ Af
 exact (Ab 6)
theorem sc_read_message_:FnScope (ns .A3) (ps .A3) (Ao (st .A3)):=⟨rfl,rfl,rfl,by decide +kernel,rfl,by decide +kernel,by decide +kernel⟩
theorem IN (M:Md K mg A fd) (ih:∀x,okK (kd x) P w K mg base (n + 2) (A x) (fd x) (ps x) (run n x)):okK .er P w K mg base (n + 2 + 1) (A .A3) (fd .A3) (ps .A3) (run (n + 1) .A3):=by
 obtain ⟨P',ca,x,xt,x0⟩:=M.xm
 have xb:XN2 P w K mg base (ca "Broken") P':=GN rfl J0 rfl rfl rfl xt
 have xh:QZ P w K mg base (ca "Broken") P':=PY rfl J0 rfl rfl rfl xt
 refine CH (g:=fnOf 3 6 (DQ (run n .Aw))) rfl (Ku rfl rfl (M.fn .A3) sc_read_message_ (λcdv A' outer s H E hr hp hq ho ht=>?_))
 clear 5
 clear 9 AI
 clear 10 JP HX ?_ (AM _)
 exact (Ab 2)
 clear 6 BO B1 M.z_len Cd
 clear 2 ?_ Af
 exact (Ab 1)
 clear 8
 exact (Cq CD)
 clear 5
 clear 9 AI
 clear 10 JP HX ?_ (AM _)
 clear 4 Al Am ?_ ?_
 exact (Ab 1)
 exact (Ab 2)
 clear 6 BO B1 M.z_len Cd
 clear 2 ?_ Af
 clear 4 Al Am ?_ Ag
 exact (Ab 0)
 clear 8
 refine Ch ?_
 refine FZ x xb (hr.mono (by lia)) rfl hq rfl ?_
 clear 2 ?_ ?_
 exact (Ab 2)
 clear 2 ?_ Af
 clear 4 Al Am ?_ Ag
 exact (Ab 0)
 clear 5
 clear 3 3 sc_read_message_.nd
 clear 4 Al Am ?_ ?_
 clear 4 Al Am ?_ Ag
 exact (Ab 0)
 clear 4 Al Am ?_ ?_
 exact (Ab 1)
 exact (Ab 2)
 clear 5
 refine MN (qx:=true) x Vp rfl rfl ?_ ?_
 intro pn E hp
 refine IC ?_
 refine Cr (i:=4) sc_read_message_.nd rfl (.inl rfl) ?_
 refine BV (ih .Aw) hr rfl (M.mgs .Aw) (Fun.kp (M.fn .Aw)) (M.bd .Aw) hp ?_
 clear 2 ?_ ?_
 clear 4 Al Am ?_ Ag
 exact (Ab 3)
 clear 2 ?_ ?_
 exact (Ab 1)
 clear 2 ?_ Af
 clear 7 AS AK ?_ Ag
 exact (Ab 2)
 refine SA x rfl (x.ms "Short" (by decide)) (x.cl "Short" (by decide)) (λ_ hn=>x.subE hn (by decide)) ?_ ?_
 intro y
 clear 8
 exact (Cq CD)
 refine WK (i:=5) x xh rfl rfl (hr.mono (by lia)) rfl (x.ms "Broken" (by decide)) (x.cl "Broken" (by decide)) (λ_ hn=>x.subE hn (by decide)) sc_read_message_.nd rfl rfl ht rfl ?_ Tw ME
 intro y
 clear 2 ?_ ?_
 refine Jv x x.na ?_ rfl
 exact (Ab 5)
 clear 2 ?_ Af
 clear 4 Al Am ?_ Ag
 exact (Ab 0)
 clear 8
 refine Cq ?_
 refine @BD _ _ _ _ _ ?_
 clear 2 ?_ ?_
 refine @BD _ _ _ _ _ ?_
 clear 2 ?_ ?_
 clear 4 Al Am ?_ Ag
 exact (Ab 0)
 clear 2 ?_ ?_
 clear 4 Al Am ?_ Ag
 exact (Ab 3)
 clear 2 ?_ Af
 clear 4 Al Am ?_ Ag
 exact (Ab 4)
 clear 2 ?_ ?_
 clear 4 Al Am ?_ Ag
 exact (Ab 3)
 clear 2 ?_ Af
 clear 4 Al Am ?_ Ag
 exact (Ab 4)
theorem IW:FnScope (ns .AZ) (ps .AZ) (Ao (st .AZ)):=⟨rfl,rfl,rfl,by decide +kernel,rfl,by decide +kernel,by decide +kernel⟩
theorem IK (M:Md K mg A fd) (ih:∀x,okK (kd x) P w K mg base (n + 2) (A x) (fd x) (ps x) (run n x)):okK .pl P w K mg base (n + 2 + 1) (A .AZ) (fd .AZ) (ps .AZ) (run (n + 1) .AZ):=by
 refine BU (g:=fnOf 2 2 (CW)) rfl (BT rfl rfl (M.fn .AZ) IW (λcdv A' outer s H E hr=>?_))
 clear 5
 clear 9 AI
 clear 10 M5 KQ ?_ (AM _)
 exact (Ab 1)
 clear 6 BO B1 M.z_len Cd
 clear 2 ?_ Af
 exact (Ab 0)
 clear 8
 clear 12
 clear 4 Al Am ?_ ?_
 exact (Ab 0)
 exact (Ab 1)
 clear 8
 exact (AL Ag)
theorem sc_f_law_pool:FnScope (ns .AF) (ps .AF) (Ao (st .AF)):=⟨rfl,rfl,rfl,by decide +kernel,rfl,by decide +kernel,by decide +kernel⟩
theorem Lp (M:Md K mg A fd) (ih:∀x,okK (kd x) P w K mg base (n + 2) (A x) (fd x) (ps x) (run n x)):okK .pl P w K mg base (n + 2 + 1) (A .AF) (fd .AF) (ps .AF) (run (n + 1) .AF):=by
 refine BU (g:=fnOf 2 3 (Cy (run n .AZ))) rfl (BT rfl rfl (M.fn .AF) sc_f_law_pool (λcdv A' outer s H E hr=>?_))
 clear 5
 clear 3 2 sc_f_law_pool.nd
 clear 1 .AZ (ih .AZ)
 clear 2 ?_ ?_
 exact (Ab 0)
 clear 2 ?_ Af
 exact (Ab 1)
 clear 8
 clear 12
 refine Eh ?_
 refine B2 ?_ ?_
 exact (Ab 2)
 refine B2 ?_ ?_
 refine @FH _ _ _ _ _ _ _ _ _ M5 KQ ?_ ?_ (AM _)
 exact (Ab 2)
 exact (AC JR H9 Ag Ag)
 refine B2 ?_ Ej
 clear 7 AS AK Ag ?_
 clear 7 ER Ee Ag ?_
 exact (Ab 1)
theorem sc_f_law_take:FnScope (ns .Ae) (ps .Ae) (Ao (st .Ae)):=⟨rfl,rfl,rfl,by decide +kernel,rfl,by decide +kernel,by decide +kernel⟩
theorem Lq (M:Md K mg A fd) (ih:∀x,okK (kd x) P w K mg base (n + 2) (A x) (fd x) (ps x) (run n x)):okK .pl P w K mg base (n + 2 + 1) (A .Ae) (fd .Ae) (ps .Ae) (run (n + 1) .Ae):=by
 refine BU (g:=fnOf 2 3 (Cz)) rfl (BT rfl rfl (M.fn .Ae) sc_f_law_take (λcdv A' outer s H E hr=>?_))
 clear 5
 clear 3 2 sc_f_law_take.nd
 clear 4 B4 BA ?_ AE
 exact (Ab 0)
 clear 5
 clear 9 AI
 refine @Dt _ _ _ _ ?_
 refine @Df _ _ _ ?_ (by intro _;rfl)
 clear 4 B4 BA ?_ AE
 exact (Ab 0)
 clear 5
 refine CF ?_ ?_
 clear 7 M4 Le ?_ ?_
 exact (Ab 2)
 exact (Ab 1)
 refine Cv ?_ AE
 exact (Ab 0)
 clear 8
 clear 12
 clear 7 FO EU ?_ ?_
 exact (Ab 2)
 exact (Ab 1)
 clear 5
 refine CF ?_ ?_
 clear 7 AS AK ?_ Ag
 clear 4 B4 BA ?_ AE
 exact (Ab 0)
 refine Cv ?_ AE
 exact (Ab 0)
 clear 5
 clear 3 2 sc_f_law_take.nd
 clear 7 AS AK ?_ ?_
 clear 7 FO EU ?_ Ag
 exact (Ab 2)
 clear 7 KH I9 Ag ?_
 clear 4 B4 BA ?_ AE
 exact (Ab 0)
 clear 5
 clear 3 2 sc_f_law_take.nd
 clear 7 FO EU ?_ Ag
 clear 7 KH I9 ?_ ?_
 exact (Ab 2)
 clear 7 AS AK ?_ Ag
 exact (Ab 2)
 clear 5
 clear 3 2 sc_f_law_take.nd
 clear 7 FO EU ?_ Ag
 clear 7 KH I9 ?_ ?_
 exact (Ab 2)
 exact (Ab 2)
 clear 5
 refine CF ?_ ?_
 exact (Ab 2)
 refine Cv ?_ AE
 exact (Ab 0)
 clear 8
 clear 12
 clear 7 FO EU ?_ ?_
 clear 7 M4 Le ?_ Ag
 exact (Ab 2)
 exact (Ab 1)
theorem sc_f_law_shape:FnScope (ns .AA) (ps .AA) (Ao (st .AA)):=⟨rfl,rfl,rfl,by decide +kernel,rfl,by decide +kernel,by decide +kernel⟩
theorem KB (M:Md K mg A fd) (ih:∀x,okK (kd x) P w K mg base (n + 2) (A x) (fd x) (ps x) (run n x)):okK .pl P w K mg base (n + 2 + 1) (A .AA) (fd .AA) (ps .AA) (run (n + 1) .AA):=by
 refine BU (g:=fnOf 2 4 (Do (run n .Ae) (run n .AA))) rfl (BT rfl rfl (M.fn .AA) sc_f_law_shape (λcdv A' outer s H E hr=>?_))
 clear 5
 clear 3 2 sc_f_law_shape.nd
 clear 1 .Ae (ih .Ae)
 clear 2 ?_ ?_
 exact (Ab 0)
 clear 2 ?_ Af
 clear 7 AS AK Ag ?_
 clear 7 ER Ee Ag ?_
 refine @Sy _ _ _ _ _ _ _ _ _ _ Pt Ut rfl M.z_int Pp ?_ (by decide) (by decide) (by rfl) (by rfl)
 clear 2 ?_ Af
 refine @FH _ _ _ _ _ _ _ _ _ Go Fv ?_ Ag (AM _)
 exact (Ab 1)
 clear 5
 clear 9 AI
 clear 10 (Bz hr.units) (A5 (g:=id)) Ag (AM _)
 exact (Ab 2)
 clear 8
 clear 12
 refine @BD _ _ _ _ _ ?_
 clear 2 AE Af
 clear 5
 clear 9 AI
 clear 10 (Bz hr.units) (A5 (g:=id)) Ag (AM _)
 exact (Ab 2)
 clear 5
 clear 3 3 sc_f_law_shape.nd
 clear 4 Al Am ?_ ?_
 refine @AN _ _ _ ?_
 refine @A4 _ _ _ _ ?_
 clear 2 Ag ?_
 clear 2 ?_ ?_
 clear 7 Cl B6 ?_ Ag
 clear 1 .Ae (ih .Ae)
 clear 2 ?_ ?_
 exact (Ab 0)
 clear 2 Ag Af
 clear 2 ?_ Af
 clear 7 Cl B6 ?_ ?_
 clear 1 .Ae (ih .Ae)
 clear 2 ?_ ?_
 exact (Ab 0)
 clear 2 ?_ Af
 exact (AC JR H9 Ag Ag)
 exact (AC JR H9 Ag Ag)
 clear 1 .Ae (ih .Ae)
 clear 2 ?_ ?_
 exact (Ab 0)
 clear 2 Ag Af
 clear 8
 clear 12
 refine @BD _ _ _ _ _ ?_
 clear 2 AE ?_
 clear 2 ?_ ?_
 exact (Ab 3)
 clear 2 ?_ Af
 clear 7 AS AK ?_ ?_
 exact (Ab 3)
 clear 4 Al Am ?_ ?_
 refine @AN _ _ _ ?_
 refine @A4 _ _ _ _ ?_
 clear 2 Ag ?_
 clear 2 Ag ?_
 clear 2 Ag ?_
 clear 2 Ag ?_
 clear 2 Ag ?_
 clear 2 Ag ?_
 clear 2 ?_ Af
 clear 1 .Ae (ih .Ae)
 clear 2 ?_ ?_
 exact (Ab 0)
 clear 2 ?_ Af
 exact (AC JR H9 Ag Ag)
 clear 1 .Ae (ih .Ae)
 clear 2 ?_ ?_
 exact (Ab 0)
 clear 2 Ag Af
 clear 5
 clear 9 AI
 clear 10 (Bz hr.units) (A5 (g:=id)) Ag (AM _)
 exact (Ab 2)
 clear 8
 clear 12
 refine @BD _ _ _ _ _ ?_
 clear 2 AE ?_
 clear 2 ?_ Af
 clear 4 Al Am ?_ ?_
 refine @AN _ _ _ ?_
 refine @A4 _ _ _ _ ?_
 clear 2 Ag ?_
 clear 2 Ag ?_
 clear 2 Ag ?_
 clear 2 Ag Af
 clear 1 .Ae (ih .Ae)
 clear 2 ?_ ?_
 exact (Ab 0)
 clear 2 Ag Af
 clear 5
 clear 9 AI
 clear 10 (Bz hr.units) (A5 (g:=id)) Ag (AM _)
 exact (Ab 2)
 clear 8
 clear 12
 refine @BD _ _ _ _ _ ?_
 clear 2 AE ?_
 clear 2 ?_ ?_
 clear 1 .AA (ih .AA)
 clear 2 ?_ ?_
 exact (Ab 0)
 clear 2 ?_ Af
 clear 7 Cl B6 ?_ Ag
 exact (Ab 1)
 clear 2 ?_ Af
 clear 4 Al Am ?_ ?_
 refine @AN _ _ _ ?_
 refine @A4 _ _ _ _ ?_
 clear 2 Ag ?_
 clear 2 Ag ?_
 clear 2 Ag ?_
 clear 2 Ag Af
 clear 1 .Ae (ih .Ae)
 clear 2 ?_ ?_
 exact (Ab 0)
 clear 2 Ag Af
 clear 5
 clear 9 AI
 clear 10 (Bz hr.units) (A5 (g:=id)) Ag (AM _)
 exact (Ab 2)
 clear 8
 clear 12
 refine @BD _ _ _ _ _ ?_
 clear 2 AE ?_
 clear 2 ?_ ?_
 clear 1 .AA (ih .AA)
 clear 2 ?_ ?_
 exact (Ab 0)
 clear 2 ?_ Af
 clear 7 Cl B6 ?_ Ag
 exact (Ab 1)
 clear 2 ?_ Af
 clear 1 .AA (ih .AA)
 clear 2 ?_ ?_
 exact (Ab 0)
 clear 2 ?_ Af
 clear 7 Cl B6 ?_ Ag
 exact (Ab 1)
 clear 8
 clear 12
 refine @BD _ _ _ _ _ ?_
 clear 2 AE ?_
 clear 2 ?_ Af
 refine @Sy _ _ _ _ _ _ _ _ _ _ Ll Ux rfl M.z_tuple Ir ?_ (by decide) (by decide) (by rfl) (by rfl)
 clear 2 ?_ Af
 refine @AN _ _ _ ?_
 refine EL (FE ["k"] [(0 , "pool") ,(1 , "deep")] rfl rfl rfl rfl rfl) rfl ?_ ?_ ?_ ?_
 refine Ck rfl M.z_range ?_
 clear 2 ?_ Af
 clear 7 AS AK Ag ?_
 clear 1 .Ae (ih .Ae)
 clear 2 ?_ ?_
 exact (Ab 0)
 clear 2 Ag Af
 intro _ _ _ _ _
 exact (Bc (by show List.Nodup [("k" : Str) ,("pool" : Str) ,("deep" : Str)] ;decide +kernel) rfl (.inl rfl))
 intro _ _ _ _ _
 exact EN
 intro _ _ _ _ _
 clear 1 .AA (ih .AA)
 clear 2 ?_ ?_
 exact (Ab 1)
 clear 2 ?_ Af
 clear 7 Cl B6 ?_ Ag
 exact (Ab 2)
theorem sc_f_law_value:FnScope (ns .AB) (ps .AB) (Ao (st .AB)):=⟨rfl,rfl,rfl,by decide +kernel,rfl,by decide +kernel,by decide +kernel⟩
theorem KD (M:Md K mg A fd) (ih:∀x,okK (kd x) P w K mg base (n + 2) (A x) (fd x) (ps x) (run n x)):okK .pl P w K mg base (n + 2 + 1) (A .AB) (fd .AB) (ps .AB) (run (n + 1) .AB):=by
 refine BU (g:=fnOf 2 5 (Dq (run n .AB) (run n .Ae))) rfl (BT rfl rfl (M.fn .AB) sc_f_law_value (λcdv A' outer s H E hr=>?_))
 clear 5
 clear 3 2 sc_f_law_value.nd
 clear 4 Al Am ?_ Ag
 exact (Ab 1)
 clear 5
 clear 9 AI
 clear 10 (Bz hr.units) (A5 (g:=id)) AE (AM _)
 exact (Ab 2)
 clear 8
 exact (AL CD)
 clear 5
 clear 9 AI
 clear 10 (Bz hr.units) (A5 (g:=id)) AE (AM _)
 exact (Ab 2)
 clear 8
 clear 12
 clear 4 Al Am ?_ ?_
 refine @AN _ _ _ ?_
 refine @A4 _ _ _ _ ?_
 clear 2 ?_ ?_
 clear 4 Al Am ?_ Ag
 exact (Ab 1)
 clear 2 ?_ ?_
 clear 4 Al Am ?_ Ag
 exact (Ab 1)
 clear 2 ?_ Af
 clear 7 AS AK ?_ ?_
 clear 4 Al Am ?_ Ag
 exact (Ab 1)
 clear 1 .Ae (ih .Ae)
 clear 2 ?_ ?_
 exact (Ab 0)
 clear 2 ?_ Af
 clear 7 AS AK ?_ Ag
 clear 7 Cl B6 ?_ ?_
 clear 4 Al Am ?_ Ag
 exact (Ab 1)
 clear 4 Al Am ?_ Ag
 exact (Ab 1)
 clear 1 .Ae (ih .Ae)
 clear 2 ?_ ?_
 exact (Ab 0)
 clear 2 Ag Af
 clear 5
 clear 9 AI
 clear 10 (Bz hr.units) (A5 (g:=id)) AE (AM _)
 exact (Ab 2)
 clear 5
 exact (AJ (i:=3) sc_f_law_value.nd rfl (.inr rfl) AE)
 clear 8
 clear 12
 refine Tn AE ?_
 clear 2 ?_ Af
 refine @AN _ _ _ ?_
 refine EL (FE ["k"] [(3 , "signs") ,(0 , "pool")] rfl rfl rfl rfl rfl) rfl ?_ ?_ ?_ ?_
 refine Ck rfl M.z_range ?_
 clear 2 ?_ Af
 clear 6 (FW rfl) H0 M.z_min Ji
 clear 2 ?_ ?_
 clear 4 Al Am ?_ Ag
 exact (Ab 1)
 clear 2 ?_ Af
 clear 1 .Ae (ih .Ae)
 clear 2 ?_ ?_
 exact (Ab 0)
 clear 2 Ag Af
 intro _ _ _ _ _
 exact (Bc (by show List.Nodup [("k" : Str) ,("signs" : Str) ,("pool" : Str)] ;decide +kernel) rfl (.inl rfl))
 intro _ _ _ _ _
 exact EN
 intro _ _ _ _ _
 clear 4 Al Am ?_ ?_
 exact (Ab 1)
 clear 1 .Ae (ih .Ae)
 clear 2 ?_ ?_
 exact (Ab 2)
 clear 2 Ag Af
 clear 5
 clear 9 AI
 clear 10 (Bz hr.units) (A5 (g:=id)) AE (AM _)
 exact (Ab 2)
 clear 8
 clear 12
 refine @AN _ _ _ ?_
 refine EL (FE ["k"] [(0 , "pool") ,(1 , "s")] rfl rfl rfl rfl rfl) rfl ?_ ?_ ?_ ?_
 refine Ck rfl M.z_range ?_
 clear 2 ?_ Af
 clear 6 (FW rfl) H0 M.z_min Ji
 clear 2 ?_ ?_
 clear 4 Al Am ?_ Ag
 exact (Ab 1)
 clear 2 ?_ Af
 clear 1 .Ae (ih .Ae)
 clear 2 ?_ ?_
 exact (Ab 0)
 clear 2 Ag Af
 intro _ _ _ _ _
 exact (Bc (by show List.Nodup [("k" : Str) ,("pool" : Str) ,("s" : Str)] ;decide +kernel) rfl (.inl rfl))
 intro _ _ _ _ _
 exact EN
 intro _ _ _ _ _
 clear 1 .AB (ih .AB)
 clear 2 ?_ ?_
 exact (Ab 1)
 clear 2 ?_ Af
 clear 4 Al Am ?_ Ag
 exact (Ab 2)
 clear 5
 clear 9 AI
 clear 10 (Bz hr.units) (A5 (g:=id)) AE (AM _)
 exact (Ab 2)
 clear 8
 clear 12
 refine @BD _ _ _ _ _ ?_
 clear 2 ?_ ?_
 clear 1 .AB (ih .AB)
 clear 2 ?_ ?_
 exact (Ab 0)
 clear 2 ?_ Af
 clear 4 Al Am ?_ Ag
 exact (Ab 1)
 clear 2 ?_ Af
 clear 1 .AB (ih .AB)
 clear 2 ?_ ?_
 exact (Ab 0)
 clear 2 ?_ Af
 clear 4 Al Am ?_ Ag
 exact (Ab 1)
 clear 5
 clear 3 4 sc_f_law_value.nd
 clear 1 .Ae (ih .Ae)
 clear 2 ?_ ?_
 exact (Ab 0)
 clear 2 ?_ Af
 clear 6 BO B1 M.z_len Cd
 clear 2 ?_ Af
 clear 4 Al Am ?_ Ag
 exact (Ab 1)
 clear 8
 clear 12
 refine @BD _ _ _ _ _ ?_
 clear 2 AE ?_
 clear 2 ?_ ?_
 exact (Ab 4)
 clear 2 ?_ Af
 clear 1 .AB (ih .AB)
 clear 2 ?_ ?_
 exact (Ab 0)
 clear 2 ?_ Af
 clear 4 Al Am ?_ ?_
 clear 4 Al Am ?_ Ag
 exact (Ab 1)
 exact (Ab 4)
theorem sc_f_law_grammar:FnScope (ns .A0) (ps .A0) (Ao (st .A0)):=⟨rfl,rfl,rfl,by decide +kernel,rfl,by decide +kernel,by decide +kernel⟩
theorem IL (M:Md K mg A fd) (ih:∀x,okK (kd x) P w K mg base (n + 2) (A x) (fd x) (ps x) (run n x)):okK .pl P w K mg base (n + 2 + 1) (A .A0) (fd .A0) (ps .A0) (run (n + 1) .A0):=by
 refine BU (g:=fnOf 1 10 (CY (run n .Ae) (run n .AA) (run n .AF))) rfl (BT rfl rfl (M.fn .A0) sc_f_law_grammar (λcdv A' outer s H E hr=>?_))
 clear 5
 clear 3 1 sc_f_law_grammar.nd
 clear 1 .AF (ih .AF)
 clear 2 ?_ ?_
 exact (Ab 0)
 clear 2 Ag Af
 clear 5
 clear 3 2 sc_f_law_grammar.nd
 clear 4 Al Am ?_ ?_
 refine @AN _ _ _ ?_
 refine @A4 _ _ _ _ ?_
 clear 2 ?_ ?_
 clear 7 AS AK Ag ?_
 clear 1 .Ae (ih .Ae)
 clear 2 ?_ ?_
 exact (Ab 1)
 clear 2 Ag Af
 clear 2 ?_ ?_
 clear 7 AS AK Ag ?_
 clear 1 .Ae (ih .Ae)
 clear 2 ?_ ?_
 exact (Ab 1)
 clear 2 Ag Af
 clear 2 Ag Af
 clear 1 .Ae (ih .Ae)
 clear 2 ?_ ?_
 exact (Ab 1)
 clear 2 Ag Af
 clear 5
 clear 11 3 sc_f_law_grammar.nd
 exact (A4 Af)
 clear 5
 clear 13 PassesOwn.never
 refine Ck rfl M.z_range ?_
 clear 2 ?_ Af
 exact (Ab 2)
 exact (Bc sc_f_law_grammar.nd rfl (.inl rfl))
 clear 5
 clear 3 1 sc_f_law_grammar.nd
 clear 1 .AF (ih .AF)
 clear 2 ?_ ?_
 exact (Ab 0)
 clear 2 ?_ Af
 clear 7 AS AK Ag ?_
 clear 7 FO EU ?_ Ag
 exact (Ab 4)
 clear 5
 refine CF ?_ ?_
 clear 7 AS AK ?_ ?_
 clear 7 KG IZ ?_ ?_
 clear 4 B4 BA ?_ AE
 exact (Ab 1)
 clear 7 AS AK Ag ?_
 clear 7 KG IZ ?_ Ag
 exact (Ab 4)
 clear 7 ER Ee Ag ?_
 exact (Ab 4)
 refine Cv ?_ AE
 exact (Ab 1)
 clear 8
 clear 9 ?_
 refine @HK _ _ _ ?_
 refine @Vd _ _ _ _ _ _ _ ?_ ?_
 clear 10 (Bz hr.units) (A5 (g:=id)) Ag (AM _)
 clear 1 .Ae (ih .Ae)
 clear 2 ?_ ?_
 exact (Ab 1)
 clear 2 Ag Af
 refine @Ts _ _ _ _ ?_
 clear 10 Go Fv Ag (AM _)
 exact (Ab 4)
 clear 8
 refine CG 3 ?_
 clear 2 ?_ Af
 refine @BD _ _ _ _ _ ?_
 clear 2 AE Af
 clear 5
 clear 3 5 sc_f_law_grammar.nd
 clear 4 Al Am ?_ ?_
 refine @AN _ _ _ ?_
 refine @A4 _ _ _ _ ?_
 clear 2 AE ?_
 clear 2 AE Af
 clear 1 .Ae (ih .Ae)
 clear 2 ?_ ?_
 exact (Ab 1)
 clear 2 Ag Af
 clear 5
 clear 11 6 sc_f_law_grammar.nd
 exact (A4 Af)
 clear 5
 clear 13 PassesOwn.never
 refine Ck rfl M.z_range ?_
 clear 2 ?_ Af
 clear 4 Al Am ?_ ?_
 refine @AN _ _ _ ?_
 refine @A4 _ _ _ _ ?_
 clear 2 Ag ?_
 clear 2 Ag ?_
 clear 2 Ag ?_
 clear 2 Ag Af
 clear 1 .Ae (ih .Ae)
 clear 2 ?_ ?_
 exact (Ab 1)
 clear 2 Ag Af
 exact (Bc sc_f_law_grammar.nd rfl (.inl rfl))
 clear 5
 clear 3 8 sc_f_law_grammar.nd
 clear 7 AS AK ?_ ?_
 clear 4 Al Am AE ?_
 exact (Ab 7)
 clear 7 ER Ee ?_ ?_
 clear 4 Al Am AE ?_
 clear 1 .Ae (ih .Ae)
 clear 2 ?_ ?_
 exact (Ab 1)
 clear 2 Ag Af
 clear 1 .Ae (ih .Ae)
 clear 2 ?_ ?_
 exact (Ab 1)
 clear 2 Ag Af
 clear 5
 clear 3 9 sc_f_law_grammar.nd
 clear 4 Al Am ?_ ?_
 refine @AN _ _ _ ?_
 refine @A4 _ _ _ _ ?_
 clear 2 ?_ ?_
 clear 1 .Ae (ih .Ae)
 clear 2 ?_ ?_
 exact (Ab 1)
 clear 2 ?_ Af
 exact (Ab 2)
 clear 2 ?_ Af
 clear 6 (FW rfl) H0 M.z_min Ji
 clear 2 ?_ ?_
 clear 7 Cl B6 ?_ Ag
 exact (Ab 2)
 clear 2 ?_ Af
 clear 7 AS AK ?_ Ag
 exact (Ab 4)
 clear 1 .Ae (ih .Ae)
 clear 2 ?_ ?_
 exact (Ab 1)
 clear 2 Ag Af
 clear 8
 refine CG 6 ?_
 clear 2 ?_ Af
 refine @BD _ _ _ _ _ ?_
 clear 2 ?_ ?_
 exact (Ab 8)
 clear 2 ?_ ?_
 clear 1 .AA (ih .AA)
 clear 2 ?_ ?_
 exact (Ab 1)
 clear 2 ?_ Af
 clear 1 .Ae (ih .Ae)
 clear 2 ?_ ?_
 exact (Ab 1)
 clear 2 Ag Af
 clear 2 ?_ Af
 exact (Ab 9)
 clear 8
 refine CG 3 ?_
 clear 2 ?_ Af
 refine @BD _ _ _ _ _ ?_
 clear 2 ?_ ?_
 exact (Ab 5)
 clear 2 ?_ Af
 exact (Ab 6)
 clear 8
 clear 12
 exact (Ab 3)
theorem sc_f_law_talk:FnScope (ns .Bl) (ps .Bl) (Ao (st .Bl)):=⟨rfl,rfl,rfl,by decide +kernel,rfl,by decide +kernel,by decide +kernel⟩
theorem Lr (M:Md K mg A fd) (ih:∀x,okK (kd x) P w K mg base (n + 2) (A x) (fd x) (ps x) (run n x)):okK .pl P w K mg base (n + 2 + 1) (A .Bl) (fd .Bl) (ps .Bl) (run (n + 1) .Bl):=by
 refine BU (g:=fnOf 4 14 (DE (run n .AB) (run n .Ae) (run n .AF))) rfl (BT rfl rfl (M.fn .Bl) sc_f_law_talk (λcdv A' outer s H E hr=>?_))
 clear 5
 clear 11 4 sc_f_law_talk.nd
 exact (A4 Af)
 clear 5
 exact (AJ (i:=5) sc_f_law_talk.nd rfl (.inl rfl) Ag)
 clear 5
 clear 11 6 sc_f_law_talk.nd
 refine @A4 _ _ _ _ ?_
 clear 2 Ag Af
 clear 5
 clear 13 PassesOwn.never
 refine GI rfl M.z_range ?_
 clear 2 ?_ ?_
 exact (Ab 2)
 clear 2 ?_ Af
 clear 6 (FW rfl) H0 M.z_min Ji
 clear 2 ?_ ?_
 clear 6 BO B1 M.z_len Cd
 clear 2 ?_ Af
 exact (Ab 0)
 clear 2 ?_ Af
 exact (Ab 3)
 exact (Bc sc_f_law_talk.nd rfl (.inl rfl))
 clear 5
 clear 3 8 sc_f_law_talk.nd
 clear 1 .AF (ih .AF)
 clear 2 ?_ ?_
 exact (Ab 0)
 clear 2 ?_ Af
 exact (Ab 7)
 clear 8
 clear 9 AI
 clear 10 (Gp hr.units) (A5 (g:=λb=>!b)) ?_ (AM _)
 clear 4 Al Am ?_ ?_
 exact (Ab 1)
 exact (Ab 5)
 refine @BD _ _ _ _ _ ?_
 clear 2 AE Af
 clear 5
 refine CF ?_ ?_
 clear 4 Al Am ?_ ?_
 exact (Ab 1)
 exact (Ab 5)
 refine GH rfl ?_
 refine BQ ?_ ?_
 exact (Bc sc_f_law_talk.nd rfl (.inl rfl))
 refine BQ ?_ EM
 exact (Bc sc_f_law_talk.nd rfl (.inl rfl))
 clear 5
 refine CF ?_ ?_
 clear 4 Al Am ?_ ?_
 exact (Ab 10)
 clear 1 .Ae (ih .Ae)
 clear 2 ?_ ?_
 exact (Ab 8)
 clear 2 ?_ Af
 clear 6 BO B1 M.z_len Cd
 clear 2 ?_ Af
 exact (Ab 10)
 refine GH rfl ?_
 refine BQ ?_ ?_
 exact (Bc sc_f_law_talk.nd rfl (.inl rfl))
 refine BQ ?_ ?_
 exact (Bc sc_f_law_talk.nd rfl (.inl rfl))
 refine BQ ?_ EM
 exact (Bc sc_f_law_talk.nd rfl (.inl rfl))
 clear 5
 refine CG 4 ?_
 clear 2 ?_ Af
 refine @BD _ _ _ _ _ ?_
 clear 2 ?_ ?_
 exact (Ab 9)
 clear 2 ?_ ?_
 exact (Ab 11)
 clear 2 ?_ Af
 clear 1 .AB (ih .AB)
 clear 2 ?_ ?_
 exact (Ab 8)
 clear 2 ?_ Af
 exact (Ab 12)
 clear 5
 clear 3 5 sc_f_law_talk.nd
 exact (Ab 13)
 clear 8
 refine CG 6 ?_
 clear 2 ?_ Af
 exact (Ab 5)
 clear 8
 clear 12
 refine @AN _ _ _ ?_
 refine @A4 _ _ _ _ ?_
 clear 2 ?_ ?_
 exact (Ab 4)
 clear 2 ?_ Af
 exact (Ab 6)
theorem sc_f_law_sizes:FnScope (ns .Bg) (ps .Bg) (Ao (st .Bg)):=⟨rfl,rfl,rfl,by decide +kernel,rfl,by decide +kernel,by decide +kernel⟩
theorem KC (M:Md K mg A fd) (ih:∀x,okK (kd x) P w K mg base (n + 2) (A x) (fd x) (ps x) (run n x)):okK .pl P w K mg base (n + 2 + 1) (A .Bg) (fd .Bg) (ps .Bg) (run (n + 1) .Bg):=by
 refine BU (g:=fnOf 2 9 (D2 (run n .Bb))) rfl (BT rfl rfl (M.fn .Bg) sc_f_law_sizes (λcdv A' outer s H E hr=>?_))
 clear 5
 clear 11 2 sc_f_law_sizes.nd
 exact (A4 Af)
 clear 5
 exact (AJ (i:=3) sc_f_law_sizes.nd rfl (.inl rfl) Ag)
 clear 5
 clear 13 PassesOwn.never
 refine @Gj _ _ _ _ ?_
 exact (Ab 1)
 refine GH rfl ?_
 refine BQ ?_ ?_
 exact (Bc sc_f_law_sizes.nd rfl (.inl rfl))
 refine BQ ?_ ?_
 exact (Bc sc_f_law_sizes.nd rfl (.inl rfl))
 refine BQ ?_ EM
 exact (Bc sc_f_law_sizes.nd rfl (.inl rfl))
 clear 5
 clear 3 7 sc_f_law_sizes.nd
 clear 4 Al Am ?_ Ag
 clear 4 Al Am ?_ ?_
 exact (Ab 0)
 exact (Ab 3)
 clear 5
 clear 3 8 sc_f_law_sizes.nd
 refine Re ?_ ?_
 refine @AN _ _ _ ?_
 refine EL (FE ["word"] [] rfl rfl rfl rfl rfl) rfl ?_ ?_ ?_ ?_
 refine @Gj _ _ _ _ ?_
 exact (Ab 7)
 intro _ _ _ _ _
 exact (Bc (by show List.Nodup [("word" : Str)] ;decide +kernel) rfl (.inl rfl))
 intro _ _ _ _ _
 exact EN
 intro _ _ _ _ _
 clear 4 Al Am ?_ Ag
 exact (Ab 0)
 clear 2 ?_ Af
 exact (Ab 5)
 clear 5
 refine CG 2 ?_
 clear 2 ?_ Af
 clear 7 AS AK ?_ ?_
 refine @AN _ _ _ ?_
 refine @A4 _ _ _ _ ?_
 clear 2 ?_ Af
 exact (Ab 8)
 clear 1 .Bb (WH (ih .Bb))
 clear 2 ?_ ?_
 clear 4 Al Am ?_ Ag
 clear 4 Al Am ?_ ?_
 exact (Ab 7)
 exact (Ab 8)
 clear 2 ?_ Af
 exact (Ab 6)
 clear 8
 clear 3 3 sc_f_law_sizes.nd
 clear 4 Al Am ?_ Ag
 clear 4 Al Am ?_ ?_
 exact (Ab 7)
 exact (Ab 8)
 clear 8
 clear 12
 exact (Ab 2)
theorem sc_f_law_whole_wires:FnScope (ns .AG) (ps .AG) (Ao (st .AG)):=⟨rfl,rfl,rfl,by decide +kernel,rfl,by decide +kernel,by decide +kernel⟩
theorem GT (M:Md K mg A fd) (ih:∀x,okK (kd x) P w K mg base (n + 2) (A x) (fd x) (ps x) (run n x)):okK .pl P w K mg base (n + 2 + 1) (A .AG) (fd .AG) (ps .AG) (run (n + 1) .AG):=by
 refine BU (g:=fnOf 2 4 (CO)) rfl (BT rfl rfl (M.fn .AG) sc_f_law_whole_wires (λcdv A' outer s H E hr=>?_))
 clear 5
 clear 3 2 sc_f_law_whole_wires.nd
 refine Eh ?_
 refine B2 ?_ ?_
 refine @AN _ _ _ ?_
 exact (A4 Af)
 refine B2 ?_ Ej
 refine @AN _ _ _ ?_
 exact (A4 Af)
 clear 5
 clear 13 PassesOwn.never
 refine Ck rfl M.z_range ?_
 clear 2 ?_ Af
 clear 6 BO B1 M.z_len Cd
 clear 2 ?_ Af
 exact (Ab 0)
 exact (Bc sc_f_law_whole_wires.nd rfl (.inl rfl))
 clear 8
 refine CF ?_ ?_
 clear 7 AS AK ?_ ?_
 clear 4 B4 BA ?_ ?_
 exact (Ab 2)
 clear 4 Al Am ?_ Ag
 clear 4 Al Am ?_ ?_
 exact (Ab 0)
 exact (Ab 3)
 clear 4 Al Am ?_ ?_
 exact (Ab 1)
 exact (Ab 3)
 refine Cv ?_ ?_
 exact (Ab 2)
 clear 4 Al Am ?_ Ag
 clear 4 Al Am ?_ ?_
 exact (Ab 0)
 exact (Ab 3)
 clear 8
 clear 12
 exact (Ab 2)
theorem sc_f_law_value_at:FnScope (ns .AR) (ps .AR) (Ao (st .AR)):=⟨rfl,rfl,rfl,by decide +kernel,rfl,by decide +kernel,by decide +kernel⟩
theorem Ig (M:Md K mg A fd) (ih:∀x,okK (kd x) P w K mg base (n + 2) (A x) (fd x) (ps x) (run n x)):okK .pl P w K mg base (n + 2 + 1) (A .AR) (fd .AR) (ps .AR) (run (n + 1) .AR):=by
 obtain ⟨P',ca,x,xt,x0⟩:=M.xm
 refine BU (g:=fnOf 3 6 (Dp (run n .Aw))) rfl (BT rfl rfl (M.fn .AR) sc_f_law_value_at (λcdv A' outer s H E hr=>?_))
 clear 5
 refine MN (qx:=true) x Qe rfl rfl ?_ ?_
 intro pn E hp
 refine IC ?_
 refine Tr ?_ ?_
 refine BV (ih .Aw) hr rfl (M.mgs .Aw) (Fun.kp (M.fn .Aw)) (M.bd .Aw) hp ?_
 clear 2 ?_ ?_
 exact (Ab 0)
 clear 2 ?_ ?_
 exact (Ab 1)
 clear 2 ?_ Af
 exact (Ab 2)
 refine GH rfl ?_
 refine BQ ?_ ?_
 exact (Bc sc_f_law_value_at.nd rfl (.inl rfl))
 refine BQ ?_ EM
 exact (Bc sc_f_law_value_at.nd rfl (.inl rfl))
 refine SA x rfl (x.ms "Short" (by decide)) (x.cl "Short" (by decide)) (λ_ hn=>x.subE hn (by decide)) ?_ ?_
 intro y
 clear 8
 clear 12
 refine @AN _ _ _ ?_
 refine @A4 _ _ _ _ ?_
 clear 2 AE ?_
 clear 2 CD ?_
 clear 2 CD Af
 refine Sz (i:=5) x rfl (x.ms "Broken" (by decide)) (x.cl "Broken" (by decide)) (λ_ hn=>x.subE hn (by decide)) sc_f_law_value_at.nd rfl rfl ?_ ME
 intro y
 clear 8
 clear 12
 refine @AN _ _ _ ?_
 refine @A4 _ _ _ _ ?_
 clear 2 AE ?_
 clear 2 ?_ ?_
 refine Jv x x.na ?_ rfl
 exact (Ab 5)
 clear 2 CD Af
 clear 8
 clear 12
 refine @AN _ _ _ ?_
 refine @A4 _ _ _ _ ?_
 clear 2 AE ?_
 clear 2 ?_ ?_
 exact (Ab 3)
 clear 2 ?_ Af
 exact (Ab 4)
theorem sc_f_law_walk:FnScope (ns .Bn) (ps .Bn) (Ao (st .Bn)):=⟨rfl,rfl,rfl,by decide +kernel,rfl,by decide +kernel,by decide +kernel⟩
theorem Lu (M:Md K mg A fd) (ih:∀x,okK (kd x) P w K mg base (n + 2) (A x) (fd x) (ps x) (run n x)):okK .pl P w K mg base (n + 2 + 1) (A .Bn) (fd .Bn) (ps .Bn) (run (n + 1) .Bn):=by
 refine BU (g:=fnOf 2 12 (ED (run n .AR))) rfl (BT rfl rfl (M.fn .Bn) sc_f_law_walk (λcdv A' outer s H E hr=>?_))
 clear 5
 clear 11 2 sc_f_law_walk.nd
 exact (A4 Af)
 clear 5
 exact (AJ (i:=3) sc_f_law_walk.nd rfl (.inl rfl) Ag)
 clear 5
 clear 3 4 sc_f_law_walk.nd
 refine Eh ?_
 refine B2 Ag ?_
 exact (B2 Ag Ej)
 clear 5
 refine MO PassesOwn.never ?_ ?_
 clear 10 (Gp hr.units) (A5 (g:=λb=>!b)) ?_ (AM _)
 clear 4 Al Am ?_ ?_
 exact (Ab 0)
 exact (Ab 3)
 refine @BD _ _ _ _ _ ?_
 clear 2 AE Af
 clear 5
 refine CF ?_ ?_
 clear 4 Al Am ?_ ?_
 exact (Ab 0)
 exact (Ab 3)
 refine GH rfl ?_
 refine BQ ?_ ?_
 exact (Bc sc_f_law_walk.nd rfl (.inl rfl))
 refine BQ ?_ EM
 exact (Bc sc_f_law_walk.nd rfl (.inl rfl))
 clear 5
 clear 3 7 sc_f_law_walk.nd
 clear 4 B4 BA ?_ ?_
 exact (Ab 4)
 exact (Ab 5)
 clear 5
 clear 9 AI
 clear 10 (Bz hr.units) (A5 (g:=id)) ?_ (AM _)
 exact (Ab 7)
 clear 6 BO B1 M.z_len Cd
 clear 2 ?_ Af
 clear 4 B4 BA ?_ ?_
 exact (Ab 1)
 exact (Ab 5)
 exact (Ak IB)
 clear 5
 clear 3 8 sc_f_law_walk.nd
 clear 4 Al Am ?_ ?_
 clear 4 B4 BA ?_ ?_
 exact (Ab 1)
 exact (Ab 5)
 exact (Ab 7)
 clear 5
 clear 9 AI
 clear 10 JP HX ?_ (AM _)
 exact (Ab 8)
 clear 6 BO B1 M.z_len Cd
 clear 2 ?_ Af
 exact (Ab 6)
 clear 8
 clear 12
 refine @AN _ _ _ ?_
 refine @A4 _ _ _ _ ?_
 clear 2 ?_ ?_
 exact (Ab 2)
 clear 2 ?_ ?_
 exact (Ab 3)
 clear 2 ?_ ?_
 exact (Ab 4)
 clear 2 ?_ Af
 refine @BD _ _ _ _ _ ?_
 clear 2 ?_ ?_
 exact (Ab 7)
 clear 2 ?_ Af
 exact (Ab 5)
 clear 5
 refine CF ?_ ?_
 clear 1 .AR (ih .AR)
 clear 2 ?_ ?_
 clear 4 Al Am ?_ Ag
 clear 4 Al Am ?_ ?_
 exact (Ab 6)
 exact (Ab 8)
 clear 2 ?_ ?_
 clear 4 B4 BA ?_ ?_
 exact (Ab 1)
 exact (Ab 5)
 clear 2 ?_ Af
 clear 7 AS AK ?_ Ag
 exact (Ab 7)
 refine GH rfl ?_
 refine BQ ?_ ?_
 exact (Bc sc_f_law_walk.nd rfl (.inl rfl))
 refine BQ ?_ ?_
 exact (Bc sc_f_law_walk.nd rfl (.inl rfl))
 refine BQ ?_ EM
 exact (Bc sc_f_law_walk.nd rfl (.inl rfl))
 clear 5
 clear 9 AI
 clear 10 (Bz hr.units) (A5 (g:=id)) AE (AM _)
 exact (Ab 9)
 clear 8
 clear 12
 refine @AN _ _ _ ?_
 refine @A4 _ _ _ _ ?_
 clear 2 ?_ ?_
 exact (Ab 2)
 clear 2 ?_ ?_
 exact (Ab 3)
 clear 2 ?_ ?_
 exact (Ab 4)
 clear 2 ?_ Af
 refine @BD _ _ _ _ _ ?_
 clear 2 ?_ ?_
 exact (Ab 10)
 clear 2 ?_ Af
 exact (Ab 5)
 clear 5
 clear 9 AI
 clear 10 (Bz hr.units) (A5 (g:=id)) AE (AM _)
 exact (Ab 9)
 exact (Ak IB)
 clear 5
 refine CG 2 ?_
 clear 2 ?_ Af
 refine @BD _ _ _ _ _ ?_
 clear 2 ?_ ?_
 exact (Ab 5)
 clear 2 ?_ ?_
 clear 4 Al Am ?_ Ag
 clear 4 Al Am ?_ ?_
 exact (Ab 6)
 exact (Ab 8)
 clear 2 ?_ Af
 exact (Ab 10)
 clear 5
 clear 3 3 sc_f_law_walk.nd
 clear 4 Al Am ?_ Ag
 clear 4 Al Am ?_ ?_
 exact (Ab 6)
 exact (Ab 8)
 clear 8
 refine CF ?_ ?_
 exact (Ab 11)
 refine Cv ?_ ?_
 exact (Ab 4)
 exact (Ab 5)
 clear 8
 clear 12
 refine @AN _ _ _ ?_
 refine @A4 _ _ _ _ ?_
 clear 2 ?_ ?_
 exact (Ab 2)
 clear 2 ?_ ?_
 exact (Ab 3)
 clear 2 ?_ ?_
 exact (Ab 4)
 clear 2 CD Af
theorem sc_f_law_spoilt:FnScope (ns .Ba) (ps .Ba) (Ao (st .Ba)):=⟨rfl,rfl,rfl,by decide +kernel,rfl,by decide +kernel,by decide +kernel⟩
theorem JJ (M:Md K mg A fd) (ih:∀x,okK (kd x) P w K mg base (n + 2) (A x) (fd x) (ps x) (run n x)):okK .pl P w K mg base (n + 2 + 1) (A .Ba) (fd .Ba) (ps .Ba) (run (n + 1) .Ba):=by
 refine BU (g:=fnOf 2 9 (C7 (run n .Ae))) rfl (BT rfl rfl (M.fn .Ba) sc_f_law_spoilt (λcdv A' outer s H E hr=>?_))
 clear 5
 clear 3 2 sc_f_law_spoilt.nd
 refine Eh ?_
 refine B2 ?_ ?_
 refine @AN _ _ _ ?_
 refine @LJ _ _ _ _ _ _ _ _ _ _ Ev HZ rfl M.z_list Gg ?_ (by decide) (by decide) (by rfl) (by rfl)
 clear 2 ?_ Af
 clear 4 B4 BA ?_ AE
 exact (Ab 0)
 refine B2 ?_ Ej
 refine @AN _ _ _ ?_
 refine @LJ _ _ _ _ _ _ _ _ _ _ Ev HZ rfl M.z_list Gg ?_ (by decide) (by decide) (by rfl) (by rfl)
 clear 2 ?_ Af
 clear 4 B4 BA ?_ AE
 exact (Ab 0)
 clear 5
 clear 13 PassesOwn.never
 refine Ck rfl M.z_range ?_
 clear 2 ?_ Af
 clear 7 AS AK Ag ?_
 clear 1 .Ae (ih .Ae)
 clear 2 ?_ ?_
 exact (Ab 1)
 clear 2 Ag Af
 exact (Bc sc_f_law_spoilt.nd rfl (.inl rfl))
 clear 5
 clear 3 4 sc_f_law_spoilt.nd
 clear 4 Al Am ?_ ?_
 refine @AN _ _ _ ?_
 refine @A4 _ _ _ _ ?_
 clear 2 AE ?_
 clear 2 AE Af
 clear 1 .Ae (ih .Ae)
 clear 2 ?_ ?_
 exact (Ab 1)
 clear 2 Ag Af
 clear 5
 clear 3 5 sc_f_law_spoilt.nd
 clear 4 B4 BA ?_ ?_
 exact (Ab 2)
 exact (Ab 4)
 clear 5
 clear 3 6 sc_f_law_spoilt.nd
 clear 4 Al Am ?_ ?_
 refine @AN _ _ _ ?_
 refine @A4 _ _ _ _ ?_
 clear 2 ?_ ?_
 clear 1 .Ae (ih .Ae)
 clear 2 ?_ ?_
 exact (Ab 1)
 clear 2 ?_ Af
 clear 7 AS AK ?_ Ag
 clear 6 BO B1 M.z_len Cd
 clear 2 ?_ Af
 exact (Ab 5)
 clear 2 ?_ Af
 clear 6 (Pu rfl) Uu M.z_max U3
 clear 2 Ag ?_
 clear 2 ?_ Af
 clear 7 Cl B6 ?_ ?_
 clear 7 Cl B6 ?_ Ag
 clear 6 BO B1 M.z_len Cd
 clear 2 ?_ Af
 exact (Ab 5)
 clear 1 .Ae (ih .Ae)
 clear 2 ?_ ?_
 exact (Ab 1)
 clear 2 Ag Af
 clear 1 .Ae (ih .Ae)
 clear 2 ?_ ?_
 exact (Ab 1)
 clear 2 Ag Af
 clear 5
 clear 3 7 sc_f_law_spoilt.nd
 clear 4 Al Am ?_ ?_
 refine @AN _ _ _ ?_
 refine @A4 _ _ _ _ ?_
 clear 2 ?_ ?_
 clear 1 .Ae (ih .Ae)
 clear 2 ?_ ?_
 exact (Ab 1)
 clear 2 Ag Af
 clear 2 ?_ ?_
 clear 1 .Ae (ih .Ae)
 clear 2 ?_ ?_
 exact (Ab 1)
 clear 2 Ag Af
 clear 2 Ag ?_
 clear 2 Ag Af
 clear 1 .Ae (ih .Ae)
 clear 2 ?_ ?_
 exact (Ab 1)
 clear 2 Ag Af
 clear 5
 clear 3 8 sc_f_law_spoilt.nd
 clear 1 .Ae (ih .Ae)
 clear 2 ?_ ?_
 exact (Ab 1)
 clear 2 Ag Af
 clear 8
 clear 9 ?_
 clear 10 M5 KQ Ag (AM _)
 exact (Ab 8)
 clear 8
 refine CF ?_ ?_
 clear 7 AS AK ?_ ?_
 clear 7 AS AK ?_ ?_
 refine @EK _ _ _ _ _ _ _ _ _ _ _ sl3 Fy ?_ Fs ?_
 exact (Ab 5)
 refine Ft ?_
 exact (Ab 6)
 refine @AN _ _ _ ?_
 refine @A4 _ _ _ _ ?_
 clear 2 ?_ Af
 exact (Ab 7)
 refine @EK _ _ _ _ _ _ _ _ _ _ _ sl3 Fy ?_ ?_ Fs
 exact (Ab 5)
 refine Ft ?_
 clear 7 AS AK ?_ Ag
 exact (Ab 6)
 refine Cv ?_ ?_
 exact (Ab 2)
 exact (Ab 4)
 clear 8
 clear 9 ?_
 clear 10 (Bz hr.units) (A5 (g:=id)) Ag (AM _)
 exact (Ab 8)
 clear 8
 refine CF ?_ ?_
 clear 7 AS AK ?_ ?_
 clear 7 AS AK ?_ ?_
 refine @EK _ _ _ _ _ _ _ _ _ _ _ sl3 Fy ?_ Fs ?_
 exact (Ab 5)
 refine Ft ?_
 exact (Ab 6)
 refine @AN _ _ _ ?_
 refine @A4 _ _ _ _ ?_
 clear 2 ?_ Af
 exact (Ab 7)
 refine @EK _ _ _ _ _ _ _ _ _ _ _ sl3 Fy ?_ ?_ Fs
 exact (Ab 5)
 refine Ft ?_
 exact (Ab 6)
 refine Cv ?_ ?_
 exact (Ab 2)
 exact (Ab 4)
 clear 8
 clear 9 ?_
 clear 10 (Bz hr.units) (A5 (g:=id)) Ag (AM _)
 exact (Ab 8)
 clear 8
 refine CF ?_ ?_
 clear 7 AS AK ?_ ?_
 refine @EK _ _ _ _ _ _ _ _ _ _ _ sl3 Fy ?_ Fs ?_
 exact (Ab 5)
 refine Ft ?_
 exact (Ab 6)
 refine @EK _ _ _ _ _ _ _ _ _ _ _ sl3 Fy ?_ ?_ Fs
 exact (Ab 5)
 refine Ft ?_
 clear 7 AS AK ?_ Ag
 exact (Ab 6)
 refine Cv ?_ ?_
 exact (Ab 2)
 exact (Ab 4)
 clear 8
 refine CF ?_ ?_
 clear 7 AS AK ?_ ?_
 exact (Ab 5)
 refine @AN _ _ _ ?_
 refine EL (FE ["k"] [(1 , "pool")] rfl rfl rfl rfl rfl) rfl ?_ ?_ ?_ ?_
 refine Ck rfl M.z_range ?_
 clear 2 ?_ Af
 clear 1 .Ae (ih .Ae)
 clear 2 ?_ ?_
 exact (Ab 1)
 clear 2 Ag Af
 intro _ _ _ _ _
 exact (Bc (by show List.Nodup [("k" : Str) ,("pool" : Str)] ;decide +kernel) rfl (.inl rfl))
 intro _ _ _ _ _
 exact EN
 intro _ _ _ _ _
 clear 1 .Ae (ih .Ae)
 clear 2 ?_ ?_
 exact (Ab 1)
 clear 2 Ag Af
 refine Cv ?_ ?_
 exact (Ab 2)
 exact (Ab 4)
 clear 8
 clear 12
 exact (Ab 2)
theorem sc_f_law_told:FnScope (ns .Bm) (ps .Bm) (Ao (st .Bm)):=⟨rfl,rfl,rfl,by decide +kernel,rfl,by decide +kernel,by decide +kernel⟩
theorem Ls (M:Md K mg A fd) (ih:∀x,okK (kd x) P w K mg base (n + 2) (A x) (fd x) (ps x) (run n x)):okK .pl P w K mg base (n + 2 + 1) (A .Bm) (fd .Bm) (ps .Bm) (run (n + 1) .Bm):=by
 obtain ⟨P',ca,x,xt,x0⟩:=M.xm
 refine BU (g:=fnOf 2 6 (DF (run n .BH))) rfl (BT rfl rfl (M.fn .Bm) sc_f_law_told (λcdv A' outer s H E hr=>?_))
 clear 5
 clear 3 2 sc_f_law_told.nd
 refine @AN _ _ _ ?_
 exact (A4 Af)
 clear 5
 exact (AJ (i:=3) sc_f_law_told.nd rfl (.inl rfl) CD)
 clear 5
 exact (AJ (i:=4) sc_f_law_told.nd rfl (.inl rfl) CD)
 clear 5
 refine MN (qx:=false) x Qe rfl rfl ?_ ?_
 intro pn E hp
 refine IC ?_
 refine Cr (i:=4) sc_f_law_told.nd rfl (.inl rfl) ?_
 refine BV (ih .BH) hr rfl (M.mgs .BH) (Fun.kp (M.fn .BH)) (M.bd .BH) hp ?_
 clear 2 ?_ ?_
 exact (Ab 0)
 clear 2 ?_ ?_
 clear 4 B4 BA ?_ AE
 exact (Ab 1)
 clear 2 ?_ Af
 clear 4 B4 BA ?_ AE
 exact (Ab 1)
 refine Sz (i:=5) x rfl x.pm x.pc (λ_ hn=>x.subP hn) sc_f_law_told.nd rfl rfl ?_ ME
 intro y
 clear 5
 clear 3 2 sc_f_law_told.nd
 refine @AN _ _ _ ?_
 refine @A4 _ _ _ _ ?_
 clear 2 ?_ ?_
 refine Ei (n:="Broken") x (by decide) rfl M.z_isinstance Bt rfl ?_
 exact (Ab 5)
 clear 2 ?_ ?_
 refine Tm x rfl M.z_isinstance Bt rfl M.z_ValueError Lj ?_
 exact (Ab 5)
 clear 2 ?_ ?_
 refine Ei (n:="NoName") x (by decide) rfl M.z_isinstance Bt rfl ?_
 exact (Ab 5)
 clear 2 ?_ Af
 refine Ei (n:="NoRow") x (by decide) rfl M.z_isinstance Bt rfl ?_
 exact (Ab 5)
 clear 5
 clear 3 2 sc_f_law_told.nd
 clear 7 AS AK ?_ ?_
 exact (Ab 2)
 refine @AN _ _ _ ?_
 refine @A4 _ _ _ _ ?_
 clear 2 ?_ ?_
 refine Ei (n:="NoTalk") x (by decide) rfl M.z_isinstance Bt rfl ?_
 exact (Ab 5)
 clear 2 ?_ ?_
 refine Ei (n:="NoText") x (by decide) rfl M.z_isinstance Bt rfl ?_
 exact (Ab 5)
 clear 2 ?_ ?_
 refine Ei (n:="NoValue") x (by decide) rfl M.z_isinstance Bt rfl ?_
 exact (Ab 5)
 clear 2 ?_ Af
 refine Ei (n:="Short") x (by decide) rfl M.z_isinstance Bt rfl ?_
 exact (Ab 5)
 clear 8
 clear 9 AI
 refine @Df _ _ _ ?_ (by intro _;rfl)
 refine Ei (n:="Broken") x (by decide) rfl M.z_isinstance Bt rfl ?_
 exact (Ab 5)
 clear 8
 clear 3 3 sc_f_law_told.nd
 refine @BD _ _ _ _ _ ?_
 clear 2 ?_ ?_
 refine Jv x x.na ?_ rfl
 exact (Ab 5)
 clear 2 ?_ Af
 refine Jv x x.nd ?_ rfl
 exact (Ab 5)
 clear 5
 clear 9 AI
 clear 10 (Bz hr.units) (A5 (g:=id)) ?_ (AM _)
 exact (Ab 2)
 refine @AN _ _ _ ?_
 exact (A4 Af)
 clear 8
 clear 12
 refine @AN _ _ _ ?_
 refine @A4 _ _ _ _ ?_
 clear 2 AE ?_
 clear 2 ?_ Af
 exact (Ab 4)
 clear 8
 clear 12
 refine @AN _ _ _ ?_
 refine @A4 _ _ _ _ ?_
 clear 2 AE ?_
 clear 2 ?_ Af
 refine @Gh _ _ _ _ _ _ _ ?_ ?_
 refine @FH _ _ _ _ _ _ _ _ _ (Bz hr.units) (A5 (g:=id)) ?_ ?_ (AM _)
 exact (Ab 2)
 clear 7 AS AK ?_ ?_
 refine @AN _ _ _ ?_
 refine @A4 _ _ _ _ ?_
 clear 2 Dm ?_
 clear 2 Dm Af
 clear 7 ER Ee ?_ Ag
 refine @AN _ _ _ ?_
 refine @A4 _ _ _ _ ?_
 clear 2 Dm Af
 refine @Gi _ _ _ _ _ ?_
 exact (Ab 3)
theorem sc_f_law_good:FnScope (ns .AX) (ps .AX) (Ao (st .AX)):=⟨rfl,rfl,rfl,by decide +kernel,rfl,by decide +kernel,by decide +kernel⟩
theorem Lo (M:Md K mg A fd) (ih:∀x,okK (kd x) P w K mg base (n + 2) (A x) (fd x) (ps x) (run n x)):okK .pl P w K mg base (n + 2 + 1) (A .AX) (fd .AX) (ps .AX) (run (n + 1) .AX):=by
 refine BU (g:=fnOf 2 8 (DC (run n .Bm) (run n .Bn))) rfl (BT rfl rfl (M.fn .AX) sc_f_law_good (λcdv A' outer s H E hr=>?_))
 clear 5
 refine CF ?_ ?_
 clear 1 .Bn (ih .Bn)
 clear 2 ?_ ?_
 exact (Ab 0)
 clear 2 ?_ Af
 exact (Ab 1)
 refine GH rfl ?_
 refine BQ ?_ ?_
 exact (Bc sc_f_law_good.nd rfl (.inl rfl))
 refine BQ ?_ ?_
 exact (Bc sc_f_law_good.nd rfl (.inl rfl))
 refine BQ ?_ ?_
 exact (Bc sc_f_law_good.nd rfl (.inl rfl))
 refine BQ ?_ EM
 exact (Bc sc_f_law_good.nd rfl (.inl rfl))
 clear 5
 clear 3 6 sc_f_law_good.nd
 refine Eh ?_
 refine B2 ?_ ?_
 refine @AN _ _ _ ?_
 refine @LJ _ _ _ _ _ _ _ _ _ _ Ev HZ rfl M.z_list Gg ?_ (by decide) (by decide) (by rfl) (by rfl)
 clear 2 ?_ Af
 clear 4 B4 BA ?_ AE
 exact (Ab 1)
 refine B2 ?_ Ej
 refine @AN _ _ _ ?_
 refine @LJ _ _ _ _ _ _ _ _ _ _ Ev HZ rfl M.z_list Gg ?_ (by decide) (by decide) (by rfl) (by rfl)
 clear 2 ?_ Af
 clear 4 B4 BA ?_ AE
 exact (Ab 1)
 clear 5
 clear 3 7 sc_f_law_good.nd
 clear 1 .Bm (ih .Bm)
 clear 2 ?_ ?_
 exact (Ab 0)
 clear 2 ?_ Af
 exact (Ab 6)
 clear 5
 clear 9 AI
 clear 10 (T4 hr.units) (R8 (b:=false)) ?_ (AM _)
 exact (Ab 6)
 exact (Ab 1)
 clear 8
 exact (AL Dm)
 clear 5
 clear 9 AI
 clear 10 Qo QC CD (AM _)
 exact (Ab 5)
 clear 8
 clear 12
 refine @FH _ _ _ _ _ _ _ _ _ (Bz hr.units) (A5 (g:=id)) ?_ ?_ (AM _)
 exact (Ab 7)
 refine @AN _ _ _ ?_
 refine @A4 _ _ _ _ ?_
 clear 2 AE ?_
 clear 2 ?_ Af
 exact (Ab 5)
 clear 8
 clear 12
 refine @FH _ _ _ _ _ _ _ _ _ (Bz hr.units) (A5 (g:=id)) ?_ ?_ (AM _)
 exact (Ab 7)
 refine @AN _ _ _ ?_
 refine @A4 _ _ _ _ ?_
 clear 2 AE ?_
 clear 2 ?_ Af
 refine @BD _ _ _ _ _ ?_
 clear 2 ?_ ?_
 exact (Ab 2)
 clear 2 ?_ ?_
 exact (Ab 3)
 clear 2 ?_ Af
 refine @BD _ _ _ _ _ ?_
 clear 2 ?_ ?_
 clear 4 B4 BA ?_ AE
 exact (Ab 4)
 clear 2 ?_ Af
 clear 4 B4 BA ?_ AE
 exact (Ab 4)
theorem sc_law_:FnScope (ns .law_) (ps .law_) (Ao (st .law_)):=⟨rfl,rfl,rfl,by decide +kernel,rfl,by decide +kernel,by decide +kernel⟩
theorem T0 (M:Md K mg A fd) (ih:∀x,okK (kd x) P w K mg base (n + 2) (A x) (fd x) (ps x) (run n x)):okK .pl P w K mg base (n + 2 + 1) (A .law_) (fd .law_) (ps .law_) (run (n + 1) .law_):=by
 refine BU (g:=fnOf 1 5 (F3 (run n .AX) (run n .AF) (run n .Ba) (run n .Bg) (run n .AG) (run n .Bl) (run n .A0))) rfl (BT rfl rfl (M.fn .law_) sc_law_ (λcdv A' outer s H E hr=>?_))
 clear 5
 clear 3 1 sc_law_.nd
 clear 1 .A0 (ih .A0)
 clear 2 ?_ Af
 exact (Ab 0)
 clear 5
 clear 3 2 sc_law_.nd
 clear 4 Al Am ?_ Ag
 clear 1 .Bl (ih .Bl)
 clear 2 ?_ ?_
 exact (Ab 0)
 clear 2 ?_ ?_
 exact (Ab 1)
 clear 2 Ag ?_
 clear 2 Ag Af
 clear 5
 clear 3 3 sc_law_.nd
 clear 1 .AG (ih .AG)
 clear 2 ?_ ?_
 exact (Ab 2)
 clear 2 ?_ Af
 clear 1 .Bg (ih .Bg)
 clear 2 ?_ ?_
 exact (Ab 1)
 clear 2 ?_ Af
 exact (Ab 2)
 clear 5
 clear 13 PassesOwn.never
 refine GI rfl M.z_range ?_
 clear 2 Ag ?_
 clear 2 Ag Af
 exact (Bc sc_law_.nd rfl (.inl rfl))
 clear 8
 clear 9 AI
 refine @Dt _ _ _ _ ?_
 refine @Df _ _ _ ?_ (by intro _;rfl)
 clear 1 .AX (ih .AX)
 clear 2 ?_ ?_
 exact (Ab 1)
 clear 2 ?_ Af
 clear 1 .Ba (ih .Ba)
 clear 2 ?_ ?_
 exact (Ab 3)
 clear 2 ?_ Af
 clear 1 .AF (ih .AF)
 clear 2 ?_ ?_
 exact (Ab 0)
 clear 2 ?_ Af
 exact (Ab 4)
 clear 8
 exact (AL Dm)
 clear 8
 clear 12
 refine @Gh _ _ _ _ _ _ _ ?_ ?_
 clear 1 .AX (ih .AX)
 clear 2 ?_ ?_
 exact (Ab 1)
 clear 2 ?_ Af
 exact (Ab 3)
 refine @Gi _ _ _ _ _ ?_
 clear 1 .AX (ih .AX)
 clear 2 ?_ ?_
 exact (Ab 1)
 clear 2 ?_ Af
 refine Eh ?_
 refine B2 ?_ ?_
 refine @AN _ _ _ ?_
 refine @A4 _ _ _ _ ?_
 clear 2 Ag Af
 refine B2 ?_ Ej
 refine @AN _ _ _ ?_
 refine @A4 _ _ _ _ ?_
 clear 2 Ag Af
theorem all_ok (M:Md K mg A fd):∀(n:Nat) (x:Fx),okK (kd x) P w K mg base (n + 2) (A x) (fd x) (ps x) (run n x)
 | 0,x=>Rx
 | n + 1,x=>by
   have ih:=all_ok M n
   cases x with
   | Bp=>exact Ly M ih
   | Ay=>exact GU M ih
   | Br=>exact Ry M ih
   | Bo=>exact Lx M ih
   | Bj=>exact ND M ih
   | Bu=>exact Lv M ih
   | Bv=>exact Lw M ih
   | Bd=>exact JK M ih
   | Bb=>exact JN M ih
   | Av=>exact Ih M ih
   | AO=>exact JO M ih
   | A1=>exact IM M ih
   | Bk=>exact NE M ih
   | Aw=>exact KF M ih
   | A8=>exact NC M ih
   | AH=>exact KA M ih
   | Bf=>exact JM M ih
   | By=>exact LB M ih
   | BG=>exact NG M ih
   | Bw=>exact Lz M ih
   | Bx=>exact LA M ih
   | Be=>exact JL M ih
   | BH=>exact NH M ih
   | BF=>exact NF M ih
   | A3=>exact IN M ih
   | AZ=>exact IK M ih
   | AF=>exact Lp M ih
   | Ae=>exact Lq M ih
   | AA=>exact KB M ih
   | AB=>exact KD M ih
   | A0=>exact IL M ih
   | Bl=>exact Lr M ih
   | Bg=>exact KC M ih
   | AG=>exact GT M ih
   | AR=>exact Ig M ih
   | Bn=>exact Lu M ih
   | Ba=>exact JJ M ih
   | Bm=>exact Ls M ih
   | AX=>exact Lo M ih
   | law_=>exact T0 M ih
end
abbrev fno (x:Fx) (kV dc pm:Value) (an:Option Addr) (cd ct:Value):FuncData:=PySem.W.fnOf (nm x) (nm x) (Eg (st x)) (B9 (st x)) (Ao (st x)) .none kV dc pm an cd ct
structure At (K:PySem.W.Frag) (x:Fx) (f:Addr) (fd:FuncData):Prop where
 a:PySem.W.nsIn K mainGlobals (nm x)=some (some (.ref f))
 fn:Fun K (nm x) (nm x) (st x) f fd
 bd:Binds K fd (ps x) []
 eq:∃kV dc pm an cd ct,fd=fno x kV dc pm an cd ct
theorem at_mk {K:PySem.W.Frag} {x:Fx} {f:Addr} {od an:Option Addr} {sl:Array (Option Value)} {oc kV dc pm cd ct:Value} (a:PySem.W.nsIn K mainGlobals (nm x)=some (some (.ref f))) (l:K.lookup f=some ⟨oc,od,.func (fno x kV dc pm an cd ct),sl⟩) (c:PySem.W.codeIn K cd (nm x)=true) (k:PySem.W.keepIn K (.ref f)=true):∃p:Addr×FuncData,At K x p.1 p.2:=by
 refine ⟨(f,fno x kV dc pm an cd ct),a,Jx (st:=st x) l c k,(Jx (st:=st x) l c k).binds (ps:=ps x) λ_ _ _ _ _ _ us hl=>?_,_,_,_,_,_,_,rfl⟩
 cases x <;> first | (obtain ⟨_,rfl⟩:=us1 hl;rfl) | (obtain ⟨_,_,rfl⟩:=us2 hl;rfl) | (obtain ⟨_,_,_,rfl⟩:=us3 hl;rfl) | (obtain ⟨_,_,_,_,rfl⟩:=us4 hl;rfl) | (obtain ⟨_,_,_,_,_,rfl⟩:=us5 hl;rfl) | (obtain ⟨_,_,_,_,_,_,rfl⟩:=us6 hl;rfl) | (obtain ⟨_,_,_,_,_,_,_,rfl⟩:=us7 hl;rfl)
theorem xm_all {K:PySem.W.Frag} {h:Heap} {mg:Str->Option Value} {P c1 c2 c3 c4 c5 c6 c7:Addr} {f2:Addr} {od2 an2:Option Addr} {sl2:Array (Option Value)} {oc2 kV2 dc2 pm2 cd2 ct2:Value} (X:K.In h) (G:h.Ns mainGlobals mg) (p:PySem.W.nsIn K mainGlobals "ParleyError" = some (some (.ref P))) (a1:PySem.W.nsIn K mainGlobals "NoValue" = some (some (.ref c1))) (a2:PySem.W.nsIn K mainGlobals "Short" = some (some (.ref c2))) (a3:PySem.W.nsIn K mainGlobals "Broken" = some (some (.ref c3))) (a4:PySem.W.nsIn K mainGlobals "NoTalk" = some (some (.ref c4))) (a5:PySem.W.nsIn K mainGlobals "NoName" = some (some (.ref c5))) (a6:PySem.W.nsIn K mainGlobals "NoText" = some (some (.ref c6))) (a7:PySem.W.nsIn K mainGlobals "NoRow" = some (some (.ref c7))) (q:Pg K P [c1,c2,c3,c4,c5,c6,c7]=true) (nd:[P,c1,c2,c3,c4,c5,c6,c7].Nodup) (fi2:PySem.W.findIn K (.ref c3) "__init__" = some (some (.ref f2))) (l2:K.lookup f2=some ⟨oc2,od2,.func (PySem.W.fnOf "__init__" "Broken.__init__" (Eg (E8 (top 4) 0)) (B9 (E8 (top 4) 0)) (Ao (E8 (top 4) 0)) .none kV2 dc2 pm2 an2 cd2 ct2),sl2⟩) (ii2:MR K c3 f2=true) (hf2:PySem.W.isFn K (.ref f2)=true) (hs2:PySem.W.findIn K (.ref c3) "__setattr__" = some (some (.builtin "object.__setattr__"))) (cc2:PySem.W.codeIn K cd2 "Broken.__init__" = true) (k2:PySem.W.keepIn K (.ref f2)=true) (n1:JH K c1=true) (n2:JH K c2=true):∃(P:Addr) (ca:Str->Addr),XM K mg P ca/\XF2 K (ca "Broken") P "Broken.__init__" (E8 (top 4) 0)/\∀n∈(["NoValue", "Short"]:List Str),XN0 K (ca n):=by
 have x:=XS X G p a1 a2 a3 a4 a5 a6 a7 q nd
 refine ⟨P,_,x,WC (C:=c3) (st:=(E8 (top 4) 0)) ⟨x.cl "Broken" (by decide),x.kp "Broken" (by decide),x.gt "Broken" (by decide),x.gc "Broken" (by decide),x.na "Broken" (by decide),x.nd "Broken" (by decide)⟩ ii2 hf2 hs2 l2 cc2 k2 (λ_ _ _ _ _ _ us hl=>by match us,hl with | [_,_,_],_=>rfl),?_⟩
 intro n hn
 simp only [List.mem_cons,List.not_mem_nil,or_false] at hn
 rcases hn with rfl | rfl
 ·exact QS n1
 ·exact QS n2
theorem fin_mk {K:PySem.W.Frag} {h:Heap} {mg:Str->Option Value} {fa:Addr} (X:K.In h) (G:h.Ns mainGlobals mg) (hmg:mg "law" = some (.ref fa)) (H:∀x:Fx,∃p:Addr×FuncData,At K x p.1 p.2) (z_ValueError:PySem.W.nsIn K mainGlobals "ValueError" = some none) (z_bool:PySem.W.nsIn K mainGlobals "bool" = some none) (z_dict:PySem.W.nsIn K mainGlobals "dict" = some none) (z_int:PySem.W.nsIn K mainGlobals "int" = some none) (z_isinstance:PySem.W.nsIn K mainGlobals "isinstance" = some none) (z_len:PySem.W.nsIn K mainGlobals "len" = some none) (z_list:PySem.W.nsIn K mainGlobals "list" = some none) (z_max:PySem.W.nsIn K mainGlobals "max" = some none) (z_min:PySem.W.nsIn K mainGlobals "min" = some none) (z_ord:PySem.W.nsIn K mainGlobals "ord" = some none) (z_range:PySem.W.nsIn K mainGlobals "range" = some none) (z_str:PySem.W.nsIn K mainGlobals "str" = some none) (z_tuple:PySem.W.nsIn K mainGlobals "tuple" = some none) {tk_FIRST_SIGN:Tok} (g_FIRST_SIGN:PySem.W.nsIn K mainGlobals "FIRST_SIGN" = some (some (.int 32 tk_FIRST_SIGN))) {tk_LAST_SIGN:Tok} (g_LAST_SIGN:PySem.W.nsIn K mainGlobals "LAST_SIGN" = some (some (.int 126 tk_LAST_SIGN))) {tk_PERCENT_SIGN:Tok} (g_PERCENT_SIGN:PySem.W.nsIn K mainGlobals "PERCENT_SIGN" = some (some (.int 37 tk_PERCENT_SIGN))) {tk_SIGNS:Tok} (g_SIGNS:PySem.W.nsIn K mainGlobals "SIGNS" = some (some (.str " !\"#$ &'()*+,-./0123456789:;<=>?@ABCDEFGHIJKLMNOPQRSTUVWXYZ[\\]^_`abcdefghijklmnopqrstuvwxyz{|}~" tk_SIGNS))) (xm:∃(P:Addr) (ca:Str->Addr),XM K mg P ca/\XF2 K (ca "Broken") P "Broken.__init__" (E8 (top 4) 0)/\∀n∈(["NoValue", "Short"]:List Str),XN0 K (ca n)):∃(A:Fx->Addr) (fd:Fx->FuncData),Md K mg A fd/\A .law_=fa/\∀(s:Shared) (u:Value),BindsTo s (fd .law_) ⟨[u],[]⟩ [("script",u)]:=by
 obtain ⟨F,hF⟩:=Classical.axiomOfChoice H
 refine ⟨λx=>(F x).1,λx=>(F x).2,{ fn:=λx=>(hF x).fn,mgs:=λx=>PySem.W.mg_of X G (hF x).a,bd:=λx=>(hF x).bd,xm:=xm,z_ValueError:=PySem.W.mg_none_of X G z_ValueError,z_bool:=PySem.W.mg_none_of X G z_bool,z_dict:=PySem.W.mg_none_of X G z_dict,z_int:=PySem.W.mg_none_of X G z_int,z_isinstance:=PySem.W.mg_none_of X G z_isinstance,z_len:=PySem.W.mg_none_of X G z_len,z_list:=PySem.W.mg_none_of X G z_list,z_max:=PySem.W.mg_none_of X G z_max,z_min:=PySem.W.mg_none_of X G z_min,z_ord:=PySem.W.mg_none_of X G z_ord,z_range:=PySem.W.mg_none_of X G z_range,z_str:=PySem.W.mg_none_of X G z_str,z_tuple:=PySem.W.mg_none_of X G z_tuple,g_FIRST_SIGN:=⟨tk_FIRST_SIGN,PySem.W.mg_of X G g_FIRST_SIGN⟩,g_LAST_SIGN:=⟨tk_LAST_SIGN,PySem.W.mg_of X G g_LAST_SIGN⟩,g_PERCENT_SIGN:=⟨tk_PERCENT_SIGN,PySem.W.mg_of X G g_PERCENT_SIGN⟩,g_SIGNS:=⟨tk_SIGNS,PySem.W.mg_of X G g_SIGNS⟩ },?_,λs u=>?_⟩
 ·have e:=hmg.symm.trans (PySem.W.mg_of X G (hF .law_).a)
  cases e
  rfl
 ·obtain ⟨_,_,_,_,_,_,e⟩:=(hF .law_).eq
  show BindsTo s (F .law_).2 _ _
  rw [e]
  exact .of_eq rfl
theorem walk {l:PySem.W.OpenLaw} {q:Program} {loose:List Str} {XP:(Str->Option Value)->Heap->Prop} {YP:World->Heap->Prop} {d:DefRec} {K:Params->PySem.W.Frag} (m:Nat) (hm:Room (m + 2) callerA) (hn:l.most=some 63) (hdf:d.params.defaults=[])
 (hY:∀(w:World) (h:Heap),YP w h->(K w.params).In h) (lt:∀ns:List Int,ns.length<=63->∃S',run m .law_ [.scr ns] []=some (.bl true,S'))
 (F:∀(w:World) (mg:Str->Option Value) (fa:Addr) (h:Heap),(K w.params).In h->h.Ns mainGlobals mg->mg d.name=some (.ref fa)->
   ∃(A:Fx->Addr) (fd:Fx->FuncData),Md (K w.params) mg A fd/\A .law_=fa/\∀(s:Shared) (u:Value),BindsTo s (fd .law_) ⟨[u],[]⟩ [("script",u)]) :
 PySem.W.WalkO q loose XP YP l.row.toRowW d [] (λf vs=>PySem.call f vs):=
 L2.UR (n:=63) (k:=m + 2) (x:="script") (CX:=λ_=>CX0) (sp:=λw=>spF (K w.params) (run m .law_)) hn (by decide) hdf hm hY
  (λw mg fa h KX G hmg=>by obtain ⟨A,fd,M,e,b⟩:=F w mg fa h KX G hmg;subst e;exact ⟨fd .law_,b,λbase _ _=>all_ok M m .law_⟩)
  (λw H a ns hl hO hS=>by obtain ⟨S',e⟩:=lt ns hl;exact P4 hO hS e) λ_ _ _ _ _ z=>z
theorem TW (k:Nat):NP (run (k + 1) .Bp):=λd h=>MT h
theorem Kg (k:Nat):GB (run (k + 2) .Ay):=QR (TW k)
theorem Nn (k:Nat):Jg (run (k + 1) .Bj):=ON
theorem Sc (k:Nat):L8 (run (k + 2) .Bo):=ML (Nn k)
theorem MI:∀(n k:Nat),2 * n + 3<=k->Ge (run k .Br) n
 | 0,k,_=>λs hs=>absurd s.depth_pos (by lia)
 | n + 1,k,h=>by
   obtain ⟨j,rfl⟩:∃j,k=j + 4:=⟨k - 4,by lia⟩
   have ih:=MI n (j + 2) (by lia)
   exact Tp (Kt ih (Kg j)) (MK ih) (MJ ih) (Sc (j + 1)) (Kg (j + 1))
theorem MU (k:Nat):G9 (run (k + 1) .Bk):=TF
theorem Rv (k:Nat):LX (run (k + 2) .A1):=TY (MU k)
theorem Ol (k:Nat):Jh (run (k + 1) .AO):=Sk
theorem MH:∀(n k:Nat),n + 3<=k->HC (run k .Av) n
 | 0,k,_=>λs hs=>absurd s.depth_pos (by lia)
 | n + 1,k,h=>by
   obtain ⟨j,rfl⟩:∃j,k=j + 3:=⟨k - 3,by lia⟩
   exact To (MH n (j + 2) (by lia)) (Ol (j + 1)) (Rv j)
theorem Mc (k:Nat):BX (run (k + 1) .A8):=WG
theorem Wp (k:Nat):UX (run (k + 2) .AH):=Xb (Mc k)
theorem Wi (k:Nat):SX (run (k + 2) .BG):=W1 (Nn k) (Mc k)
theorem IS:∀(n k:Nat),2 * n + 4<=k->HG (run k .Aw) n
 | 0,k,_=>λs hs=>absurd s.depth_pos (by lia)
 | n + 1,k,h=>by
   obtain ⟨j,rfl⟩:∃j,k=j + 5:=⟨k - 5,by lia⟩
   exact Qy rfl rfl rfl rfl rfl (Wp (j + 1)) (Wi (j + 1)) (MU (j + 2)) (Mc (j + 2)) (Ol (j + 2)) (IS n (j + 3) (by lia))
theorem TL (k:Nat):QU (run (k + 11) .A3):=Vn (IS 3 (k + 10) (by lia))
theorem O1 (k:Nat):L6 (run (k + 12) .BF):=O0 (TL k)
theorem O9 (k:Nat):L7 (run (k + 13) .BH):=O8 (O1 k)
theorem Rt (k:Nat):QT (run (k + 11) .AR):=TK (IS 3 (k + 10) (by lia))
theorem Qa (k:Nat):Oq (run (k + 12) .Bn):=Ru (Rt k)
theorem P9 (k:Nat):Op (run (k + 14) .Bm):=Rr (O9 k)
theorem P5:On (run 99 .AX):=Rm (P9 84) (Qa 86)
theorem UH:VBF (run 98 .Bb):=Wq (MH 3 97 (by decide)) (MI 3 97 (by decide))
theorem QD:LT (run 99 .Bg):=P7 UH
theorem QQ:LV (run 99 .AG):=Qb
theorem Mr (k:Nat):HD (run (k + 1) .AZ):=RC
theorem M9 (k:Nat):HE (run (k + 2) .AF):=RQ (Mr k)
theorem G1 (k:Nat):PTakeOk (run (k + 1) .Ae):=RY
theorem Qs (k:Nat) (F:List (Nat×Ob)):L3 F (run (k + 2) .AF):=VJ (Mr k)
theorem QK (k:Nat) (F:List (Nat×Ob)):PTakeF F (run (k + 1) .Ae):=VP
theorem Lg:∀(n k:Nat),n + 1<=k->PShapeOk (run k .AA) n
 | 0,k,_=>λd a b S h=>absurd h (by lia)
 | n + 1,k,h=>by
   obtain ⟨j,rfl⟩:∃j,k=j + 2:=⟨k - 2,by lia⟩
   exact Qv (G1 j) (.inr (Lg n (j + 1) (by lia)))
theorem Oi:∀(n k:Nat),n + 1<=k->PValOk (run k .AB) n
 | 0,k,_=>λs a b S h=>absurd s.depth_pos (by lia)
 | n + 1,k,h=>by
   obtain ⟨j,rfl⟩:∃j,k=j + 2:=⟨k - 2,by lia⟩
   exact Uk (G1 j) (.inr (Oi n (j + 1) (by lia)))
theorem QF:LU (run 99 .Ba):=P8 (QK 97)
theorem Rg:Kh (run 99 .A0):=RL (G1 97) (Lg 3 98 (by decide)) (M9 96)
theorem Sb:Ip (run 99 .Bl):=Qw (Oi 3 98 (by decide)) (G1 97) (M9 96)
theorem law_true (ns:List Int) (h:ns.length<=63):∃S',run 100 .law_ [.scr ns] []=some (.bl true,S'):=by
 obtain ⟨r,S',e,p⟩:=Vh P5 (Qs 97) QF QD QQ Sb Rg (ns:=ns)
 subst p
 exact ⟨S',e⟩
end K27
namespace PySem.W.Fast
def tw10130034387766953674:=0
def tw10140405388795902161:=0
def tw10171337975840890279:=0
def tw10280422763022836334:=0
def tw10303938275911086590:=0
def tw1047135200451595533:=0
def tw10499339178169818517:=0
def tw10540727564517969290:=0
def tw10669430205505189090:=0
def tw10787892328549447823:=0
def tw10904452212441712109:=0
def tw10964509929490139236:=0
def tw11099276929554206688:=0
def tw11221358756283709830:=0
def tw11256680754579805817:=0
def tw1125899525133026067:=0
def tw11304886843128315416:=0
def tw11361177012849561768:=0
def tw11457616528312556262:=0
def tw11557515520007290888:=0
def tw11577712380497921646:=0
def tw11626754575278186858:=0
def tw11706809605078098302:=0
def tw11742555938611480782:=0
def tw11789225077772624569:=0
def tw11794290982513944582:=0
def tw11893009761115607710:=0
def tw11900684239064473712:=0
def tw11977702958194767393:=0
def tw12184714436479966183:=0
def tw12190615356756524644:=0
def tw12191598960079209250:=0
def tw12224323484183473500:=0
def tw12283594280839402128:=0
def tw12380179563910767580:=0
def tw12392040451845735566:=0
def tw12445051329213188439:=0
def tw12468102408961462871:=0
def tw12472465063121106379:=0
def tw12478140337985299576:=0
def tw12502948447927917252:=0
def tw12509288869931411331:=0
def tw12559266814021323027:=0
def tw12681155726784684284:=0
def tw12703680360527750529:=0
def tw12705164170180355707:=0
def tw12719424482602496510:=0
def tw12747466556983695247:=0
def tw12875145988553635025:=0
def tw1287540409266520363:=0
def tw12905528327697373776:=0
def tw1292474684125148949:=0
def tw1297864653922410432:=0
def tw12993022066242888494:=0
def tw13007178967822838800:=0
def tw13104585548239668001:=0
def tw13124529759096876112:=0
def tw13133452287132861775:=0
def tw13201468532832842069:=0
def tw13233512303855219564:=0
def tw13240508763165152763:=0
def tw13249997573557560142:=0
def tw13255737247443104177:=0
def tw13256619489174514063:=0
def tw13322215032557593996:=0
def tw1334225446344018817:=0
def tw13353510072964992065:=0
def tw13367586732050759948:=0
def tw13465532460713214139:=0
def tw13495218446442347243:=0
def tw13528453433026977649:=0
def tw13562452480511137503:=0
def tw13579740355542504876:=0
def tw13634297283191936966:=0
def tw13652264732541065731:=0
def tw13693471010434303098:=0
def tw137305455751834746:=0
def tw13737540693503332925:=0
def tw13743139739900578326:=0
def tw13831237898465306837:=0
def tw13869736121970543330:=0
def tw13892756405212496819:=0
def tw13912182138454891829:=0
def tw13992721516787937784:=0
def tw14035649268891503193:=0
def tw14052080305501776031:=0
def tw14140590870259004696:=0
def tw14174147106495246188:=0
def tw14254004107145287796:=0
def tw14329104434527386517:=0
def tw14339868385544537596:=0
def tw14443104517335442519:=0
def tw14558763580998106275:=0
def tw14582161257555995609:=0
def tw14587731796405457531:=0
def tw14604203638044771749:=0
def tw1461642928518098735:=0
def tw14641300325253951670:=0
def tw14764266091067467478:=0
def tw14778976331949203135:=0
def tw1478807198667029638:=0
def tw1479704527749356575:=0
def tw14797990065946412867:=0
def tw14862315801434848276:=0
def tw14880076464605884004:=0
def tw14902270691026668545:=0
def tw14931356219981519529:=0
def tw14981929552678196286:=0
def tw14995680259739624926:=0
def tw15003958998879222461:=0
def tw15023466165769287721:=0
def tw15144071153276934452:=0
def tw15153252694844950583:=0
def tw15227872077192464414:=0
def tw15301132954117353362:=0
def tw15346427697891160086:=0
def tw15355202311421907270:=0
def tw15473371531163126608:=0
def tw15537056897640410474:=0
def tw1561702504460271863:=0
def tw15704060035966192935:=0
def tw15800141033723000388:=0
def tw15804681822892411199:=0
def tw15825218211945348685:=0
def tw15872523852208735864:=0
def tw15890042686471125202:=0
def tw15930283663555287511:=0
def tw16212275577510027273:=0
def tw16258128234771176758:=0
def tw16293952971177723550:=0
def tw16304167042614365244:=0
def tw16322548464724956446:=0
def tw16326155284713767883:=0
def tw16404012973999058399:=0
def tw16513558045746271549:=0
def tw16534656764831630314:=0
def tw16578773999036563294:=0
def tw16629746802753873918:=0
def tw16635807783683063798:=0
def tw16639398626758098075:=0
def tw16688439291754971858:=0
def tw16729662676491025168:=0
def tw16768880242514036640:=0
def tw16848286772732217935:=0
def tw16871917015161285977:=0
def tw1689812601352252375:=0
def tw170576199326283458:=0
def tw17063597651600051104:=0
def tw1708407772342917260:=0
def tw17093784663322518012:=0
def tw17109180046200203820:=0
def tw17110544233291723368:=0
def tw17114262866042747024:=0
def tw17136440603893822864:=0
def tw17151990911251402103:=0
def tw17155641038413902954:=0
def tw17322799382006208490:=0
def tw17387583350200966645:=0
def tw1744426286274050773:=0
def tw17482051806381314602:=0
def tw17485637646827807195:=0
def tw17496956768516211830:=0
def tw17523678906027779422:=0
def tw17534793130981283640:=0
def tw17571059877375172993:=0
def tw17613276073635146627:=0
def tw17635942288235592949:=0
def tw17674254165565779693:=0
def tw17706710999455064938:=0
def tw17729023420903515052:=0
def tw17729431126549133539:=0
def tw17798914015406817699:=0
def tw17805180544325236659:=0
def tw17886048281349745333:=0
def tw17919913875600375667:=0
def tw17937482767209083855:=0
def tw17943274850614864614:=0
def tw17944225680400612219:=0
def tw1799836139566087962:=0
def tw18002753033611099831:=0
def tw1804826425173418752:=0
def tw18117141726255612065:=0
def tw18128426310564953651:=0
def tw18187834880203323686:=0
def tw18251313643339662917:=0
def tw18255303890779952212:=0
def tw1826543391317973401:=0
def tw1838693617288573146:=0
def tw2021765411089706587:=0
def tw2045777000107228851:=0
def tw224251575508407061:=0
def tw2355488755776843411:=0
def tw236663216185292180:=0
def tw2486837141322877596:=0
def tw2540817254710514092:=0
def tw2552540327313586579:=0
def tw2666888386414391225:=0
def tw2712993616541273252:=0
def tw2729104724583487537:=0
def tw2743018960990928900:=0
def tw2771322391363283542:=0
def tw2777192871942772860:=0
def tw281051544776275310:=0
def tw2862208356491126613:=0
def tw2902223300297413494:=0
def tw3048963860110926400:=0
def tw3056811425537349980:=0
def tw3089223815537931346:=0
def tw3094535710863217774:=0
def tw3171275689621923870:=0
def tw323749307301740478:=0
def tw3281865771137624249:=0
def tw328867001649861743:=0
def tw3289160239053838813:=0
def tw3293898725902857463:=0
def tw3327957536659002687:=0
def tw3368678969981278175:=0
def tw3451804821763315185:=0
def tw3513193946791363871:=0
def tw3654642729570277919:=0
def tw3826629579108837903:=0
def tw387864150097709540:=0
def tw3892971807677897735:=0
def tw3944338473095957567:=0
def tw4040729471368169601:=0
def tw407685357290241961:=0
def tw41026185774013420:=0
def tw4156336747520753555:=0
def tw4264218636297822411:=0
def tw4296593225810499759:=0
def tw4307030100409727687:=0
def tw4311294995110755185:=0
def tw4361178956809870846:=0
def tw436416175800946055:=0
def tw4406742687828205079:=0
def tw4431376923580248729:=0
def tw4536764405047164990:=0
def tw4578740669035897389:=0
def tw4686110114135073551:=0
def tw4703891606072774286:=0
def tw4725242233957187011:=0
def tw4750581373224187235:=0
def tw4824852419700482873:=0
def tw4838523314557963373:=0
def tw4842908428136653558:=0
def tw4844089882224526077:=0
def tw4861290656188078705:=0
def tw4901628298637993442:=0
def tw4911416974904368749:=0
def tw4914625204365596908:=0
def tw4991743299575238014:=0
def tw4994761925405979179:=0
def tw4996589229514560823:=0
def tw5029260004807700805:=0
def tw5042284878639254424:=0
def tw5093328874672870483:=0
def tw5105878707658319254:=0
def tw5126272207283317543:=0
def tw5183048578001470096:=0
def tw5218291910017935701:=0
def tw5223666996014627397:=0
def tw5319709680878687128:=0
def tw5374077356658885512:=0
def tw538778540380126557:=0
def tw538879145875599574:=0
def tw5424249885070178384:=0
def tw5452194935420728206:=0
def tw549793523280296424:=0
def tw5536894554387038858:=0
def tw5563640140097828101:=0
def tw5617120063485661176:=0
def tw5619059489573135657:=0
def tw5775030830182533726:=0
def tw5819012093697297096:=0
def tw5867431052855174190:=0
def tw5917868600901277472:=0
def tw5940033441040869729:=0
def tw5952800828677217893:=0
def tw6029060285222995472:=0
def tw6095885219664546227:=0
def tw6169285088395070851:=0
def tw6173201221595425883:=0
def tw6184200221916500261:=0
def tw6195746989514722787:=0
def tw6195847676550117847:=0
def tw6240969575183287511:=0
def tw6275607363141376934:=0
def tw6401417975942497744:=0
def tw6415740671953925248:=0
def tw6455712451330899341:=0
def tw651598903487310983:=0
def tw6522808958412761483:=0
def tw6615258459760417466:=0
def tw6623478576821445045:=0
def tw6654964832789492798:=0
def tw6736444200203832628:=0
def tw6751728018647547531:=0
def tw6818670376577833334:=0
def tw6934325771642449483:=0
def tw7018206890238780699:=0
def tw7019257606204853720:=0
def tw7025786331915712650:=0
def tw7042035615892623868:=0
def tw7062050452549225590:=0
def tw7065768027977331398:=0
def tw7137971530655568144:=0
def tw7161706722707424106:=0
def tw7203307205799744490:=0
def tw7236340603000399937:=0
def tw7282118381819983625:=0
def tw739734015478080471:=0
def tw7412333239345758521:=0
def tw7435757267244024979:=0
def tw7464575522398165370:=0
def tw7467498092328467376:=0
def tw7482371873268827238:=0
def tw7509471587491743850:=0
def tw7558656324923040946:=0
def tw7559814021956283535:=0
def tw7579390671035880281:=0
def tw7647396268801783085:=0
def tw7665765380873593504:=0
def tw7705982584558530774:=0
def tw7814476290802723530:=0
def tw7879308240408523978:=0
def tw7882712303329642678:=0
def tw7902250974253672780:=0
def tw7935719734946087656:=0
def tw7959519702136833384:=0
def tw7985381137088106745:=0
def tw7994820095322797129:=0
def tw7995548724695859992:=0
def tw8018304002933398645:=0
def tw8047583930707863902:=0
def tw8080642593788606078:=0
def tw8100257207410188703:=0
def tw8104737185987324207:=0
def tw8109488956797395571:=0
def tw8299677429956007876:=0
def tw8310096251314445777:=0
def tw8391158501632376711:=0
def tw8418092553255866618:=0
def tw8539625719054666865:=0
def tw8543933997852637483:=0
def tw8572169336017376786:=0
def tw8579240202190834637:=0
def tw8622879139104067494:=0
def tw8628868972703923504:=0
def tw8731900206431602732:=0
def tw8750596187470828995:=0
def tw8765990599142031093:=0
def tw8871415335350921575:=0
def tw8873523744912886303:=0
def tw8967823170223786451:=0
def tw9017451906933469026:=0
def tw9046301140855953447:=0
def tw9101816705851316948:=0
def tw9110100702910396728:=0
def tw9145920626769939147:=0
def tw9217383989804558462:=0
def tw9223060532889894525:=0
def tw9232713093741957871:=0
def tw9259329478725059359:=0
def tw93069475435597144:=0
def tw9331279173543919923:=0
def tw9351533969005697957:=0
def tw9377049587562179357:=0
def tw9412043277076142909:=0
def tw9528799681382907071:=0
def tw9561291127079392034:=0
def tw9575646143384599799:=0
def tw96724363331498964:=0
def tw9686194374556378689:=0
def tw9712426179443260887:=0
def tw9844632666558432816:=0
def tw9858876189013766620:=0
def tw9908247307476210752:=0
def tw9948434306864528836:=0
def tw9980677148716572622:=0
def tw9998209672808897779:=0
end PySem.W.Fast
open PySem PySem.W PyProof.Rows
set_option maxRecDepth 100000 in
set_option maxHeartbeats 0 in
theorem PySem.Challenge.cw_wireparley_k27_broken_wires_holds : PySem.Challenge.rw_wireparley_k27_broken_wires.Holds := by
 w_on;o_law;k_head;(case hw=>w_witness2)
 k_fill
 refine K27.walk (l:=PySem.Challenge.rw_wireparley_k27_broken_wires) 100 ⟨rfl,by decide,by decide⟩ rfl rfl (λw h Y=>PySem.W.kIn_of Y) K27.law_true ?F
 case F=>
  intro w mg fa h KX G hmg
  refine' K27.fin_mk KX G hmg ?H ?z_ValueError ?z_bool ?z_dict ?z_int ?z_isinstance ?z_len ?z_list ?z_max ?z_min ?z_ord ?z_range ?z_str ?z_tuple ?g_FIRST_SIGN ?g_LAST_SIGN ?g_PERCENT_SIGN ?g_SIGNS ?xm
  (case H=>intro x;cases x <;> (refine' K27.at_mk ?a ?l ?c ?k;(case a=>k_is);(case l=>k_is);(case c=>k_is);(case k=>k_is)))
  (case z_ValueError=>k_is)
  (case z_bool=>k_is)
  (case z_dict=>k_is)
  (case z_int=>k_is)
  (case z_isinstance=>k_is)
  (case z_len=>k_is)
  (case z_list=>k_is)
  (case z_max=>k_is)
  (case z_min=>k_is)
  (case z_ord=>k_is)
  (case z_range=>k_is)
  (case z_str=>k_is)
  (case z_tuple=>k_is)
  (case g_FIRST_SIGN=>k_is)
  (case g_LAST_SIGN=>k_is)
  (case g_PERCENT_SIGN=>k_is)
  (case g_SIGNS=>k_is)
  (case xm=>refine' K27.xm_all KX G ?x_p ?x_a1 ?x_a2 ?x_a3 ?x_a4 ?x_a5 ?x_a6 ?x_a7 ?x_q ?x_nd ?y_fi ?y_l ?y_ii ?y_hf ?y_hs ?y_cc ?y_k ?x_n1 ?x_n2;(case x_p=>k_is);(case x_a1=>k_is);(case x_a2=>k_is);(case x_a3=>k_is);(case x_a4=>k_is);(case x_a5=>k_is);(case x_a6=>k_is);(case x_a7=>k_is);(case x_q=>kernel_rfl);(case x_nd=>decide);(case y_fi=>k_is);(case y_l=>k_is);(case y_ii=>kernel_rfl);(case y_hf=>k_is);(case y_hs=>k_is);(case y_cc=>k_is);(case y_k=>k_is);(case x_n1=>kernel_rfl);(case x_n2=>kernel_rfl))
