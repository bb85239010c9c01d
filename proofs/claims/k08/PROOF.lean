import PyProof.Rows.All
import Wide.All
import OpenK.AllK
import Wide.FinOn
import Lean
import PyProof.EqAt
import PyProof.EqKinds
import PyProof.TupleCall
import PyProof.NeKinds
import PyProof.ListMulRoad
import PyProof.MaxThree
import PyProof.Rows.StrJoinMade
import PyProof.ListStr
import PyProof.Rows.MinMaxN
import PyProof.Rows.Range3
import PyProof.ListRange
import PyProof.Rows.SetFrom
import PyProof.Rows.StrCase
import PyProof.SumAny
import PyProof.AutoIntG2
import PyProof.AutoListH
import PyProof.EnumStmt
import PyProof.EnumFor
import PyProof.EnumMake
import PyProof.Rows.EnumRows
import PyProof.ConsumeS
import PyProof.Rows.SortWalk
import KE.KDictSum
import PyProof.ZipIter
import KE.KEqDict
import PyProof.ExcClass2
import PyProof.RaisesMany
import PyProof.ExcBaseAll.ValueError
import PyProof.RulesDel
import PyProof.RulesAs
import PyProof.ExcArgs
import KE.KDictOf
import PyProof.AttrMissHeap
import PySem.Challenge.RW_wireparley_k08_values_read
noncomputable section

set_option Elab.async false
set_option linter.all false
set_option maxRecDepth 100000
namespace L2
open PySem PySem.Spec PyProof.Rows
abbrev Key:=Sum Int Str
noncomputable def Pn:Key->Value->Bool
 | .inl k,v=>Value.isInt k v
 | .inr x,v=>Value.isStrOf x v
noncomputable def UT (w:World):Key->Int
 | .inl k=>hashInt k
 | .inr x=>hashStr w x
theorem BS:∀{k:Key} {v:Value},Pn k v=true->(∃i t,k=Sum.inl i/\v=Value.int i t)\/(∃x t,k=Sum.inr x/\v=Value.str x t)
 | .inl i,v,h=>by
   obtain ⟨t,e⟩:=Value.isInt_shape (k:=i) (v:=v) h;exact .inl ⟨i,t,rfl,e⟩
 | .inr x,v,h=>by
   obtain ⟨t,e⟩:=Value.isStrOf_shape (x:=x) (v:=v) h;exact .inr ⟨x,t,rfl,e⟩
theorem RD (a b:Int):decide ((Sum.inl a:Key)=Sum.inl b)=(a == b):=by
 by_cases e:a=b
 ·subst e;simp
 ·have h:¬(Sum.inl a:Key)=Sum.inl b:=λq=>e (Sum.inl.inj q);rw [decide_eq_false h];exact (beq_eq_false_iff_ne.mpr e).symm
theorem RL (a b:Str):decide ((Sum.inr a:Key)=Sum.inr b)=decide (a=b):=by
 by_cases e:a=b
 ·subst e;simp
 ·have h:¬(Sum.inr a:Key)=Sum.inr b:=λq=>e (Sum.inr.inj q);rw [decide_eq_false h,decide_eq_false e]
theorem RJ (a:Int)(b:Str):decide ((Sum.inl a:Key)=Sum.inr b)=false:=decide_eq_false (λq=>nomatch q)
theorem RK (a:Str)(b:Int):decide ((Sum.inr a:Key)=Sum.inl b)=false:=decide_eq_false (λq=>nomatch q)
def Ia (prog:Program)(w:World):PySem.KeyKind prog w Key where
 is:=Pn
 hash:=UT w
 inj:=λv a b ha hb=>by
  rcases BS ha with ⟨i,t,rfl,rfl⟩ | ⟨x,t,rfl,rfl⟩
  ·rcases BS hb with ⟨j,u,rfl,e⟩ | ⟨y,u,rfl,e⟩
   ·injection e with e1 _;rw [e1]
   ·exact nomatch e
  ·rcases BS hb with ⟨j,u,rfl,e⟩ | ⟨y,u,rfl,e⟩
   ·exact nomatch e
   ·injection e with e1 _;rw [e1]
 byValue:=λk v h=>by
  rcases BS h with ⟨i,t,rfl,rfl⟩ | ⟨x,t,rfl,rfl⟩ <;> rfl
 pyHash:=λhv h=>by
  rcases BS hv with ⟨i,t,rfl,rfl⟩ | ⟨x,t,rfl,rfl⟩
  ·exact wpAny_pyHash_int h
  ·exact wpAny_pyHash_str h
 eqBool:=λhu hv h=>by
  rcases BS hu with ⟨i,t,rfl,rfl⟩ | ⟨x,t,rfl,rfl⟩
  ·rcases BS hv with ⟨j,u,rfl,rfl⟩ | ⟨y,u,rfl,rfl⟩
   ·rw [RD] at h;exact wpAny_eqBool_int h
   ·rw [RJ] at h;exact SeqAt.EqAt.int_str i t y u _ _ _ _ h
  ·rcases BS hv with ⟨j,u,rfl,rfl⟩ | ⟨y,u,rfl,rfl⟩
   ·rw [RK] at h;exact SeqAt.EqAt.str_int x t j u _ _ _ _ h
   ·rw [RL] at h;exact wpAny_eqBool_str h
 «strs»:=λk x t v h=>by
  rcases BS h with ⟨i,u,rfl,e⟩ | ⟨y,u,rfl,e⟩
  ·exact nomatch e
  ·injection e with e1 _
   subst e1
   cases v <;> rfl
inductive V where
 | non | bl (b:Bool) | int (i:Int) | str (x:Str) | byt (b:Array UInt8) | flt (b:UInt64) | ref (a:Addr) | ty (n:String)
 deriving DecidableEq
noncomputable def RelV:V->Value->Prop
 | .non,u=>u=Value.none
 | .bl b,u=>u=Value.bool b
 | .int i,u=>∃t,u=Value.int i t
 | .str x,u=>∃t,u=Value.str x t
 | .byt b,u=>∃t,u=Value.bytes b t
 | .flt b,u=>∃t,u=Value.float b t
 | .ref a,u=>u=Value.ref a
 | .ty n,u=>u=Value.type n
abbrev Vals:List V->List Value->Prop:=Paired RelV
theorem Vals.length {xs:List V}{us:List Value}(r:Vals xs us):xs.length=us.length:=Paired.length r
theorem Vals.get:∀{xs:List V} {us:List Value} {i:Nat} {x:V},Vals xs us->xs[i]?=some x->∃u,us[i]?=some u/\RelV x u
 | _,_,_,_,.nil,e=>by simp at e
 | _,_,0,_,.cons r _,e=>by simp at e;subst e;exact ⟨_,rfl,r⟩
 | _,_,i + 1,x,.cons _ t,e=>by
   obtain ⟨u,h1,h2⟩:=Vals.get (i:=i) (x:=x) t (by simpa using e);exact ⟨u,by simpa using h1,h2⟩
theorem Vals.set {x:V}{u:Value}(r:RelV x u):∀{xs:List V} {us:List Value} (i:Nat),Vals xs us->Vals (xs.set i x) (us.set i u)
 | _,_,_,.nil=>.nil
 | _,_,0,.cons _ t=>.cons r t
 | _,_,i + 1,.cons q t=>.cons q (Vals.set r i t)
theorem Vals.append {xs ys:List V}{us ws:List Value}(r:Vals xs us)(s:Vals ys ws):Vals (xs++ys) (us++ws):=by
 cases r with
 | nil=>exact s
 | cons r t=>exact .cons r (Vals.append t s)
theorem Vals.take:∀{xs:List V} {us:List Value} (n:Nat),Vals xs us->Vals (xs.take n) (us.take n)
 | _,_,0,_=>.nil
 | _,_,_ + 1,.nil=>.nil
 | _,_,n + 1,.cons r t=>.cons r (Vals.take n t)
theorem Vals.drop:∀{xs:List V} {us:List Value} (n:Nat),Vals xs us->Vals (xs.drop n) (us.drop n)
 | _,_,0,r=>r
 | _,_,_ + 1,.nil=>.nil
 | _,_,n + 1,.cons _ t=>Vals.drop n t
def RelO:Option V->Option Value->Prop
 | some v,some u=>RelV v u
 | none,none=>True
 | _,_=>False
def KV {κ:Type}:List (κ×V)->List (κ×Value)->Prop:=Paired λ(p:κ×V) (q:κ×Value)=>p.1=q.1/\RelV p.2 q.2
noncomputable def kV:Key->V
 | .inl i=>.int i
 | .inr x=>.str x
inductive HO where
 /-- a list -/
 | lst (xs:List V)
 /-- a tuple (never changes) -/
 | tup (xs:List V)
 /-- a dict whose keys are ints and texts;one whose keys are tuples of ints and texts (the empty one is both) -/
 | dK (kvs:List (Key×V)) | dT (kvs:List (List Key×V))
 /-- a set of ints: its members,its size -/
 | set (S:Int->Bool) (n:Nat)
 /-- an instance of the class at C,its dict at dx,its attributes -/
 | ins (C dx:Addr) (fs:List (Str×V))
 /-- the dict of the instance at x -/
 | own (x:Addr)
 /-- the dict of an exception -/
 | xd (fs:List (Str×V))
 /-- a bound method,f of x -/
 | met (f x:Addr)
 /-- a range object lo,lo + 1,.. below hi -/
 | rng (lo hi:Int)
 /-- a thing that is known to the object (the script;a dict while a loop walks it): read,never written while it is so -/
 | frz (o:Obj) (u:HO)
 /-- a code object's table -/
 | tbl (ps:Array Value)
 /-- any other thing,by what is true of its one object (a def of one's own: SetO a S n:=HO.ext λh=>..) -/
 | ext (φ:Heap->Prop)
abbrev Hp:=Addr->Option HO
noncomputable def upd (H:Hp)(a:Addr)(o:HO):Hp:=λb=>if b=a then some o else H b
variable {H:Hp}{a:Addr}{o:HO}
theorem AF:upd H a o a=some o:=by unfold upd;rw [if_pos rfl]
variable {b:Addr}
theorem Ap (h:b≠a):upd H a o b=H b:=by unfold upd;rw [if_neg h]
theorem QU {u:HO}:upd (upd H a o) a u=upd H a u:=by
 funext b;unfold upd;split <;> rfl
theorem A1 (h:H a=some o)(h':H b=none):a≠b:=by
 intro e;subst e;rw [h] at h';cases h'
section
variable (P:Program)(w:World)
def ObjOk (H:Hp)(h:Heap)(a:Addr):HO->Prop
 | .lst xs=>xs.length<=sizeLine/\∃(its:List Value) (n:Nat),Vals xs its/\h.get? a=some { cls:=.type "list",data:=.seq its.toArray n }
 | .tup xs=>xs.length<=sizeLine/\∃its:List Value,Vals xs its/\IsTup h a its.toArray
 | .dK kvs=>kvs.length<=sizeLine/\(a == sysModules)=false/\∃vs,KV kvs vs/\h.DictOf (Ia P w) a vs
 | .dT kvs=>kvs.length<=sizeLine/\(a == sysModules)=false/\∃xs:List (List Key×Addr×Value),
    Paired (λ(p:List Key×V) (q:List Key×Addr×Value)=>p.1=q.1/\H q.2.1=some (.tup (p.1.map kV))/\RelV p.2 q.2.2) kvs xs/\
    ∃o es ep,h.get? a=some o/\o.ExactDict/\o.data = .dict es ep/\es.toList=xs.map (entryOfKey (tupleKind (Ia P w)))/\(xs.map (·.1)).Nodup
 | .set S n=>h.SetOf (intKind P w) a S n
 | .ins C dx fs=>H dx=some (.own a)/\fs.length<=1000/\dx≠a/\h.get? a=some (PySem.W.instObj C dx)/\
    ∃mA,h.Ns1 dx mA/\(∀f,RelO (fs.lookup f) (mA f))/\PySem.Within mA (fs.map (·.1))
 | .own _=>∃o,h.get? a=some o
 | .xd fs=>∃mA,h.Ns1 a mA/\∀f,RelO (fs.lookup f) (mA f)
 | .rng lo hi=>∃t u v,h.get? a=some { cls:=.type "range",data:=.fields #[.int lo t,.int hi u,.int 1 v] }
 | .frz o u=>h.get? a=some o/\ObjOk H h a u
 | .tbl ps=>h.get? a=some { cls:=.none,data:=.fields ps }
 | .met f x=>h.get? a=some (PySem.W.methodObj (.ref f) (.ref x))
 | .ext φ=>φ h/\(∃o,h.get? a=some o)/\∀h1 h2:Heap,φ h1->(∀o,h1.get? a=some o->h2.get? a=some o)->φ h2
def HOk (H:Hp)(h:Heap):Prop:=∀a o,H a=some o->ObjOk P w H h a o
end
section
variable {P:Program}{w:World}{H H':Hp}{h h':Heap}{a:Addr}{o:HO}
theorem ObjOk.lt (x:ObjOk P w H h a o):a < h.objs.size:=by
 cases o with
 | lst xs=>obtain ⟨_,_,_,_,e⟩:=x;exact Heap.lt_size e
 | tup xs=>obtain ⟨_,_,_,p⟩:=x;exact p.lt
 | dK kvs=>obtain ⟨_,_,_,_,o,_,_,e,_⟩:=x;exact Heap.lt_size e
 | dT kvs=>obtain ⟨_,_,_,_,o,_,_,e,_⟩:=x;exact Heap.lt_size e
 | set S n=>obtain ⟨o,_,_,_,e,_⟩:=x;exact Heap.lt_size e
 | ins C dx fs=>obtain ⟨_,_,_,e,_⟩:=x;exact Heap.lt_size e
 | own y=>obtain ⟨_,e⟩:=x;exact Heap.lt_size e
 | xd fs=>obtain ⟨_,⟨_,_,_,e,_⟩,_⟩:=x;exact Heap.lt_size e
 | rng lo hi=>obtain ⟨_,_,_,e⟩:=x;exact Heap.lt_size e
 | frz ob u=>obtain ⟨e,_⟩:=x;exact Heap.lt_size e
 | tbl ps=>exact Heap.lt_size (show h.get? a=some _ from x)
 | met f y=>exact Heap.lt_size (show h.get? a=some _ from x)
 | ext φ=>obtain ⟨_,⟨_,e⟩,_⟩:=x;exact Heap.lt_size e
theorem Paired.mapP {α β:Type}{F G:α->β->Prop}:∀{l₁:List α} {l₂:List β},Paired F l₁ l₂->(∀a b,F a b->G a b)->Paired G l₁ l₂
 | _,_,.nil,_=>.nil
 | _,_,.cons r t,f=>.cons (f _ _ r) (Paired.mapP t f)
theorem ObjOk.stay (x:ObjOk P w H h a o)(k:∀b u,(b=a\/H b=some (.own a))->h.get? b=some u->h'.get? b=some u)
 (ho:∀b,H b=some (.own a)->H' b=some (.own a)) (ht:∀b xs,H b=some (.tup xs)->H' b=some (.tup xs)):ObjOk P w H' h' a o:=by
 induction o with
 | lst xs=>obtain ⟨z,its,n,r,e⟩:=x;exact ⟨z,its,n,r,k _ _ (.inl rfl) e⟩
 | tup xs=>obtain ⟨z,its,r,ob,e,c⟩:=x;exact ⟨z,its,r,ob,k _ _ (.inl rfl) e,c⟩
 | dK kvs=>obtain ⟨z,y,vs,r,ob,es,ep,e,c⟩:=x;exact ⟨z,y,vs,r,ob,es,ep,k _ _ (.inl rfl) e,c⟩
 | dT kvs=>
   obtain ⟨z,y,xs,r,ob,es,ep,e,c⟩:=x;exact ⟨z,y,xs,Paired.mapP r λp q z=>⟨z.1,ht _ _ z.2.1,z.2.2⟩,ob,es,ep,k _ _ (.inl rfl) e,c⟩
 | set S n=>obtain ⟨ob,es,ep,t,e,c⟩:=x;exact ⟨ob,es,ep,t,k _ _ (.inl rfl) e,c⟩
 | ins C dx fs=>
   obtain ⟨d,z,ne,e,mA,⟨od,es,ep,e2,c⟩,r⟩:=x;exact ⟨ho _ d,z,ne,k _ _ (.inl rfl) e,mA,⟨od,es,ep,k _ _ (.inr d) e2,c⟩,r⟩
 | own y=>obtain ⟨ob,e⟩:=x;exact ⟨ob,k _ _ (.inl rfl) e⟩
 | xd fs=>obtain ⟨mA,⟨od,es,ep,e,c⟩,r⟩:=x;exact ⟨mA,⟨od,es,ep,k _ _ (.inl rfl) e,c⟩,r⟩
 | rng lo hi=>obtain ⟨t,u,v,e⟩:=x;exact ⟨t,u,v,k _ _ (.inl rfl) e⟩
 | frz ob u ih=>obtain ⟨e,q⟩:=x;exact ⟨k _ _ (.inl rfl) e,ih q⟩
 | tbl ps=>
   have e:h.get? a=some { cls:=.none,data:=.fields ps }:=x;show h'.get? a=some { cls:=.none,data:=.fields ps };exact k a _ (.inl rfl) e
 | met f y=>
   have e:h.get? a=some (PySem.W.methodObj (.ref f) (.ref y)):=x;show h'.get? a=some (PySem.W.methodObj (.ref f) (.ref y));exact k a _ (.inl rfl) e
 | ext φ=>obtain ⟨p,⟨o,e⟩,st⟩:=x;exact ⟨st _ _ p λo q=>k _ _ (.inl rfl) q,⟨o,k _ _ (.inl rfl) e⟩,st⟩
theorem HOk.lt (x:HOk P w H h)(e:H a=some o):a < h.objs.size:=(x a o e).lt
theorem HOk.fresh (x:HOk P w H h)(e:h.objs.size<=a):H a=none:=by
 cases q:H a with
 | none=>rfl
 | some u=>exact absurd (Nat.lt_of_lt_of_le (x.lt q) e) (Nat.lt_irrefl _)
theorem HOk.kept (x:HOk P w H h)(k:∀b u,h.get? b=some u->h'.get? b=some u):HOk P w H h':=λa o e=>
 (x a o e).stay (λb u _ q=>k b u q) (λ_ q=>q) λ_ _ q=>q
theorem HOk.laid (x:HOk P w H h)(k:∀b u,h.get? b=some u->h'.get? b=some u)(hp:h.objs.size<=a)(new:ObjOk P w (upd H a o) h' a o):HOk P w (upd H a o) h':=λb u e=>by
 have hn:=x.fresh hp
 by_cases hb:b=a
 ·subst hb;rw [AF] at e;cases e;exact new
 ·rw [Ap hb] at e;exact (x b u e).stay (λc v _ q=>k c v q) (λc q=>by rw [Ap (A1 q hn)];exact q) λc xs q=>by rw [Ap (A1 q hn)];exact q
end
def Rd (H:Hp)(a:Addr)(u:HO):Prop:=H a=some u\/∃o,H a=some (.frz o u)
variable {P:Program}{w:World}{h:Heap}
theorem Rd.ok {u:HO}(r:Rd H a u)(x:HOk P w H h):ObjOk P w H h a u:=by
 rcases r with r | ⟨o,r⟩
 ·exact x a u r
 ·obtain ⟨_,q⟩:=x a _ r;exact q
def Mut:Option HO->Prop
 | some (.lst _)=>True
 | some (.dK _)=>True
 | some (.dT _)=>True
 | some (.set _ _)=>True
 | some (.ins _ _ _)=>True
 | some (.ext _)=>True
 | _=>False
section
variable {P:Program}{w:World}{H:Hp}{h h':Heap}{x e:Addr}{o':HO}
theorem HOk.write (ok:HOk P w H h)(mu:Mut (H x))(he:e=x\/H e=some (.own x))(k:∀b u,b≠e->h.get? b=some u->h'.get? b=some u)(heo:∃u,h'.get? e=some u)
 (new:ObjOk P w (upd H x o') h' x o'):HOk P w (upd H x o') h':=λb u q=>by
 have nown:∀c y,H c=some (.own y)->c≠x:=λc y r z=>by subst z;rw [r] at mu;exact mu
 have ntup:∀c xs,H c=some (.tup xs)->c≠x:=λc xs r z=>by subst z;rw [r] at mu;exact mu
 by_cases hb:b=x
 ·subst hb;rw [AF] at q;cases q;exact new
 ·rw [Ap hb] at q
  by_cases hbe:b=e
  ·have q':H b=some (.own x):=by
    rcases he with z | z
    ·exact absurd (hbe.trans z) hb
    ·rw [hbe];exact z
   rw [q] at q';cases q'
   obtain ⟨v,hv⟩:=heo;exact ⟨v,by rw [hbe];exact hv⟩
  ·refine (ok b u q).stay (λc v hc r=>k c v ?_ r) (λc r=>by rw [Ap (nown c b r)];exact r) λc xs r=>by rw [Ap (ntup c xs r)];exact r
   rcases hc with rfl | hc
   ·exact hbe
   ·rintro rfl;rcases he with z | z
    ·exact nown c b hc z
    ·rw [hc] at z;cases z;exact hb rfl
end
structure Un (fs ex:List Addr)(H H':Hp)(h h':Heap):Prop where
 keep:∀b o,h.get? b=some o->H b=none->b∉fs->b∉ex->h'.get? b=some o
 slot:∀b o,h.get? b=some o->H b=none->b∈fs->b∉ex->∃sl,h'.get? b=some { o with slots:=sl }
 free:∀b o,h.get? b=some o->H b=none->b∉ex->H' b=none
 there:∀b o,h.get? b=some o->b∉ex->∃o',h'.get? b=some o'
 tups:∀b xs,H b=some (.tup xs)->H' b=some (.tup xs)
 frzs:∀b o u,H b=some (.frz o u)->H' b=some (.frz o u)
 tbls:∀b ps,H b=some (.tbl ps)->∃more,H' b=some (.tbl (ps++more))
section
variable {fs fs' ex ex':List Addr}{H H1 H2:Hp}{h h1 h2 h':Heap}{a x e:Addr}{o:HO}
theorem Un.any (u:Un fs ex H H1 h h1){b:Addr}{ob:Obj}(q:h.get? b=some ob)(n:H b=none)(hx:b∉ex):∃sl,h1.get? b=some { ob with slots:=sl }:=by
 by_cases hb:b∈fs
 ·exact u.slot b ob q n hb hx
 ·exact ⟨ob.slots,u.keep b ob q n hb hx⟩
theorem Un.kept (k:∀b u,h.get? b=some u->h'.get? b=some u):Un fs ex H H h h':=
 ⟨λb ob q _ _ _=>k b ob q,λb ob q _ _ _=>⟨ob.slots,k b ob q⟩,λ_ _ _ n _=>n,λb ob q _=>⟨ob,k b ob q⟩,λ_ _ q=>q,λ_ _ _ q=>q,λ_ ps q=>⟨#[],by rw [q];simp⟩⟩
theorem Un.refl:Un fs ex H H h h:=Un.kept λ_ _ q=>q
theorem Un.laid (k:∀b u,h.get? b=some u->h'.get? b=some u)(hp:h.objs.size<=a)(hn:H a=none):Un fs ex H (upd H a o) h h' where
 keep:=λb u q _ _ _=>k b u q
 slot:=λb u q _ _ _=>⟨u.slots,k b u q⟩
 free:=λb u q n _=>by rw [Ap (Nat.ne_of_lt (Nat.lt_of_lt_of_le (Heap.lt_size q) hp))];exact n
 there:=λb u q _=>⟨u,k b u q⟩
 tups:=λb xs q=>by rw [Ap (A1 q hn)];exact q
 frzs:=λb u xs q=>by rw [Ap (A1 q hn)];exact q
 tbls:=λb ps q=>⟨#[],by rw [Ap (A1 q hn),q];simp⟩
theorem Un.write (mu:Mut (H x))(he:e=x\/H e=some (.own x))(k:∀b u,b≠e->h.get? b=some u->h'.get? b=some u)(heo:∃u,h'.get? e=some u):Un fs ex H (upd H x o) h h':=by
 have hx:∀b,H b=none->b≠x:=λb n z=>by subst z;rw [n] at mu;exact mu
 have hb:∀b,H b=none->b≠e:=λb n z=>by
  subst z;rcases he with r | r
  ·exact hx b n r
  ·rw [n] at r;cases r
 have hm:∀b u,H b=some u->¬Mut (some u)->b≠x:=λb u q nm z=>by subst z;rw [q] at mu;exact nm mu
 refine ⟨λb u q n _ _=>k b u (hb b n) q,λb u q n _ _=>⟨u.slots,k b u (hb b n) q⟩,λb u q n _=>by rw [Ap (hx b n)];exact n,λb u q _=>?_,
  λb xs q=>by rw [Ap (hm b _ q λz=>z)];exact q,λb u xs q=>by rw [Ap (hm b _ q λz=>z)];exact q,λb ps q=>⟨#[],by rw [Ap (hm b _ q λz=>z),q];simp⟩⟩
 by_cases hbe:b=e
 ·subst hbe;exact heo
 ·exact ⟨u,k b u hbe q⟩
end
noncomputable def trk (h:Heap)(H:Hp):List Addr:=(List.range h.objs.size).filter λa=>(H a).isSome
def Ft (h:Heap)(H:Hp):Heap:=PySem.W.hideAll h (trk h H)
theorem Nj (h:Heap)(H:Hp):(Ft h H).objs.size=h.objs.size:=PySem.W.hideAll_size _ _
theorem Oh {o:Obj}(e:h.get? b=some o)(n:H b=none):(Ft h H).get? b=some o:=
 PySem.W.hideAll_get _ e λhm=>by
  have q:(H b).isSome=true:=(List.mem_filter.mp hm).2;rw [n] at q;simp at q
theorem Ql {o:Obj}(e:(Ft h H).get? b=some o):h.get? b=some o/\H b=none:=by
 have e':h.get? b=some o:=PySem.W.of_hideAll (trk h H) e;refine ⟨e',?_⟩
 cases q:H b with
 | none=>rfl
 | some x=>
   have hm:b∈trk h H:=List.mem_filter.mpr ⟨List.mem_range.mpr (Heap.lt_size e'),by simp [q]⟩;have z:(Ft h H).get? b=none:=PySem.W.hideAll_none (trk h H) hm;rw [z] at e;cases e
noncomputable def PL (g h:Heap)(L:Addr):List (Addr×Obj):=(List.range h.objs.size).filterMap λa=>if a=L\/(g.get? a).isSome=true then none else (h.get? a).map λo=>(a,o)
def rest (g h:Heap)(L d:Addr):List (Addr×Obj):=(PL g h L).filter λp=>decide (p.1≠d)
structure Mod (K:PySem.W.Frag)(mg:Str->Option Value)(base:Heap):Prop where
 kin:K.In base
 glob:base.Ns mainGlobals mg
 blt:∃mb,base.Ns builtinsNs mb/\∀x:Str,x≠"__name__"->mb x=bootBuiltins x
 nolimit:base.NoLimit
structure Cx where
 prog:Program
 w:World
 K:PySem.W.Frag
 mg:Str->Option Value
 base:Heap
 A:Around
 N:List Str
 s₀:Shared
 H₀:Hp
 env:Env
 outer:List Env
 stack:List Env
 ex:List Addr
 fn:Str->Bool
 calm:Bool
 pn:List (Addr×Obj)
 xe:Value->Shared->Prop
noncomputable def frs (l:List Env):List Addr:=l.filterMap (·.frame)
abbrev Cx.fs (X:Cx):List Addr:=frs X.outer
def Vis (sc:Scope)(x:Str):Prop:=sc.names.lookup x=some .local\/sc.names.lookup x=some .cell\/sc.names.lookup x=some .free
def Loc (sc:Scope)(x:Str):Prop:=sc.names.lookup x=some .local\/sc.names.lookup x=some .cell
def Ux (env:Env)(h:Heap)(m:Str->Option Value)(x:Str)(u:Value):Prop:=
 (env.kindOf x=some .local/\m x=some u)\/((env.kindOf x=some .cell\/env.kindOf x=some .free)/\∃c,env.cells.lookup x=some c/\h.IsCell c (some u))
structure Cx.Ok (X:Cx):Prop where
 mod:Mod X.K X.mg X.base
 kind:X.env.scope.kind = .function
 glob:X.env.globals=mainGlobals
 blt:X.env.builtins=builtinsNs
 above:X.s₀.heap.objs.size<=X.env.locals
 inj:∀x y c,X.env.cells.lookup x=some c->X.env.cells.lookup y=some c->x=y
 has:∀x,(X.env.kindOf x=some .cell\/X.env.kindOf x=some .free)->∃c,X.env.cells.lookup x=some c
 cab:∀x c,X.fn x=true->X.env.cells.lookup x=some c->X.s₀.heap.objs.size<=c
 hd:X.calm=true->X.A.handled=none
 frames:X.A.frames=some X.stack
 stk:X.stack=X.outer\/(X.stack=X.env :: X.outer/\X.env.frame=some X.env.locals)
 exf:∀b∈X.ex,b≠X.env.locals/\∀x c,X.env.cells.lookup x=some c->c≠b
 bs:∀b o,X.base.get? b=some o->X.s₀.heap.get? b=some o/\X.H₀ b=none
 bsz:X.base.objs.size<=X.s₀.heap.objs.size
 noex:∀b o,X.base.get? b=some o->b∉X.ex
 exfs:∀b∈X.ex,b∉X.fs
 funs:X.s₀.heap.FunFrames X.base X.outer
 frf:∀b∈X.fs,X.H₀ b=none
structure Inv (X:Cx)(pins:List (Addr×Obj))(Z:List (Option V))(H:Hp)(s:Shared):Prop where
 ok:X.Ok
 os:s.os=X.s₀.os
 bare:AllBare s.gens
 base:Un X.fs X.ex X.H₀ H X.s₀.heap s.heap
 loc:∃m,s.heap.Ns X.env.locals m/\∀(i:Nat) (x:Str) (v:V),X.N[i]?=some x->Z[i]?=some (some v)->Vis X.env.scope x->∃u,RelV v u/\Ux X.env s.heap m x u
 cell:∀x c,X.env.cells.lookup x=some c->∃v,s.heap.IsCell c v
 free:H X.env.locals=none
 freeC:∀x c,X.env.cells.lookup x=some c->H c=none
 pin:∀p∈X.pn++pins,s.heap.get? p.1=some p.2/\H p.1=none/\p.1≠X.env.locals/\p.1∉X.fs/\∀v,p.2.data≠.cell v
 hok:HOk X.prog X.w H s.heap
 len:Z.length=X.N.length
variable {t' i:Nat}{ch:List Addr}{E:Value->Shared->Prop}{x:Str}{v:V}{u:Value}{Q:Unit->Shared->Prop}
section
variable {X:Cx}{pins:List (Addr×Obj)}{Z:List (Option V)}{H H':Hp}{s:Shared}{h':Heap}
theorem Cx.Ok.nofr (ok:X.Ok){b:Addr}{o:Obj}(e:X.base.get? b=some o):b∉X.fs:=λhb=>by
 have:=(ok.funs.mem hb).1;rw [e] at this;cases this
theorem Inv.bs (I:Inv X pins Z H s):∀b o,X.base.get? b=some o->s.heap.get? b=some o/\H b=none:=λb o e=>
 ⟨I.base.keep b o (I.ok.bs b o e).1 (I.ok.bs b o e).2 (I.ok.nofr e) (I.ok.noex b o e),I.base.free b o (I.ok.bs b o e).1 (I.ok.bs b o e).2 (I.ok.noex b o e)⟩
theorem Inv.bk (I:Inv X pins Z H s):∀b o,X.base.get? b=some o->s.heap.get? b=some o:=λb o e=>(I.bs b o e).1
theorem Inv.mod (I:Inv X pins Z H s):Mod X.K X.mg X.base:=I.ok.mod
theorem Inv.kIn (I:Inv X pins Z H s):X.K.In s.heap:=I.ok.mod.kin.keeps I.bk
theorem Inv.lt (I:Inv X pins Z H s):X.env.locals < s.heap.objs.size:=let ⟨_,hn,_⟩:=I.loc;hn.lt
theorem Inv.sz (I:Inv X pins Z H s):X.s₀.heap.objs.size<=s.heap.objs.size:=Nat.le_trans I.ok.above (Nat.le_of_lt I.lt)
theorem Inv.nofs (I:Inv X pins Z H s){a:Addr}(h:s.heap.objs.size<=a):a∉X.fs:=λhb=>by
 obtain ⟨_,o,ho,_⟩:=I.ok.funs.mem hb;exact absurd (Nat.lt_of_lt_of_le (Heap.lt_size ho) (Nat.le_trans I.sz h)) (Nat.lt_irrefl _)
theorem Inv.cne (I:Inv X pins Z H s):∀x c,X.env.cells.lookup x=some c->c≠X.env.locals:=λx c e z=>by
 obtain ⟨v,o,ho,hd⟩:=I.cell x c e;obtain ⟨m,⟨o',es,ep,ho',hd',_⟩,_⟩:=I.loc;rw [z,ho'] at ho;cases ho;rw [hd'] at hd;cases hd
theorem Inv.funs (I:Inv X pins Z H s):s.heap.FunFrames X.base X.outer:=by
 have all:∀(l:List Env),(∀b∈frs l,b∈X.fs)->X.s₀.heap.FunFrames X.base l->s.heap.FunFrames X.base l:=by
  intro l
  induction l with
  | nil=>intro _ _;trivial
  | cons env r ih=>
    intro hs hl;obtain ⟨hk,⟨L,o,hf,hn,ho,hd⟩,hr⟩:=hl;have hL:L∈X.fs:=hs L (by unfold frs;rw [List.filterMap_cons,hf];exact List.mem_cons_self);obtain ⟨sl,e⟩:=I.base.slot L o ho (I.ok.frf L hL) hL λz=>I.ok.exfs L z hL;exact ⟨hk,⟨L,_,hf,hn,e,hd⟩,ih (λb hb=>hs b (by unfold frs;rw [List.filterMap_cons,hf];exact List.mem_cons_of_mem _ hb)) hr⟩
 exact all X.outer (λ_ hb=>hb) I.ok.funs
theorem Inv.stack (I:Inv X pins Z H s):s.heap.FunFrames X.base X.stack:=by
 rcases I.ok.stk with e | ⟨e,hf⟩
 ·rw [e];exact I.funs
 ·rw [e];obtain ⟨m,hn,_⟩:=I.loc;refine .cons (by rw [I.ok.kind];decide) hf hn ?_ I.funs;exact Heap.get?_none_of_le (Nat.le_trans I.ok.bsz I.ok.above)
theorem Inv.stkSub (I:Inv X pins Z H s):∀b∈frs X.stack,b∈X.env.locals :: X.fs:=λb hb=>by
 rcases I.ok.stk with e | ⟨e,hf⟩
 ·rw [e] at hb;exact List.mem_cons_of_mem _ hb
 ·rw [e] at hb;unfold frs at hb;rw [List.filterMap_cons,hf] at hb;exact hb
theorem Inv.stkFree (I:Inv X pins Z H s):∀b∈frs X.stack,H b=none:=λb hb=>by
 rcases List.mem_cons.mp (I.stkSub b hb) with e | hb
 ·rw [e];exact I.free
 ·obtain ⟨_,o,ho,_⟩:=I.ok.funs.mem hb;exact I.base.free b o ho (I.ok.frf b hb) λz=>I.ok.exfs b z hb
theorem Inv.step {g':Array GenState}{d':Drawn}(I:Inv X pins Z H s)
 (hch:∀b∈ch,(b∈X.ex\/X.s₀.heap.objs.size<=b)/\b≠X.env.locals/\(∀x c,X.env.cells.lookup x=some c->c≠b)/\∀p∈X.pn++pins,p.1≠b)
 (keep:∀b o,b≠X.env.locals->b∉X.fs->b∉ch->s.heap.get? b=some o->H b=none->h'.get? b=some o)
 (slot:∀b o,b≠X.env.locals->b∈X.fs->b∉ch->s.heap.get? b=some o->H b=none->∃sl,h'.get? b=some { o with slots:=sl }) (free:∀b o,b∉ch->s.heap.get? b=some o->H b=none->H' b=none)
 (there:∀b o,b∉ch->s.heap.get? b=some o->∃o',h'.get? b=some o')
 (tups:∀b xs,H b=some (.tup xs)->H' b=some (.tup xs)) (frzs:∀b o u,H b=some (.frz o u)->H' b=some (.frz o u)) (tbls:∀b ps,H b=some (.tbl ps)->∃more,H' b=some (.tbl (ps++more)))
 (ns:∀m,s.heap.Ns X.env.locals m->h'.Ns X.env.locals m) (hok:HOk X.prog X.w H' h') (hg:AllBare g') :
 Inv X pins Z H' { s with heap:=h',gens:=g',drawn:=d',toks:=t' }:=by
 have neL:∀b o,X.s₀.heap.get? b=some o->b≠X.env.locals:=λb o e=>Nat.ne_of_lt (Nat.lt_of_lt_of_le (Heap.lt_size e) I.ok.above);have neC:∀b o,X.s₀.heap.get? b=some o->b∉X.ex->b∉ch:=λb o e hx hb=>by
  rcases (hch b hb).1 with z | z
  ·exact hx z
  ·exact absurd (Nat.lt_of_lt_of_le (Heap.lt_size e) z) (Nat.lt_irrefl _)
 have cellK:∀x c,X.env.cells.lookup x=some c->∀v,s.heap.IsCell c v->h'.IsCell c v:=λx c e v z9=>by
  obtain ⟨o,ho,hd⟩:=z9;have nch:c∉ch:=λz=>(hch c z).2.2.1 x c e rfl
  by_cases hc:c∈X.fs
  ·obtain ⟨sl,q⟩:=slot c o (I.cne x c e) hc nch ho (I.freeC x c e);exact ⟨_,q,hd⟩
  ·exact ⟨o,keep c o (I.cne x c e) hc nch ho (I.freeC x c e),hd⟩
 refine ⟨I.ok,I.os,hg,⟨λb o e n hb hx=>?_,λb o e n hb hx=>?_,λb o e n hx=>?_,λb o e hx=>?_,λb xs e=>tups b xs (I.base.tups b xs e),λb o xs e=>frzs b o xs (I.base.frzs b o xs e),λb ps e=>?_⟩,?_,λx c e=>?_,?_,λx c e=>?_,λp hp=>?_,hok,I.len⟩
 ·exact keep b o (neL b o e) hb (neC b o e hx) (I.base.keep b o e n hb hx) (I.base.free b o e n hx)
 ·obtain ⟨sl,e1⟩:=I.base.slot b o e n hb hx;obtain ⟨sl',e2⟩:=slot b _ (neL b o e) hb (neC b o e hx) e1 (I.base.free b o e n hx);exact ⟨sl',e2⟩
 ·obtain ⟨o',e1⟩:=I.base.there b o e hx;exact free b o' (neC b o e hx) e1 (I.base.free b o e n hx)
 ·obtain ⟨o',e1⟩:=I.base.there b o e hx;exact there b o' (neC b o e hx) e1
 ·obtain ⟨m1,e1⟩:=I.base.tbls b ps e;obtain ⟨m2,e2⟩:=tbls b _ e1;exact ⟨m1++m2,by rw [e2,Array.append_assoc]⟩
 ·obtain ⟨m,hn,hl⟩:=I.loc;refine ⟨m,ns m hn,λi x v e1 e2 e3=>?_⟩;obtain ⟨u,r,l⟩:=hl i x v e1 e2 e3;refine ⟨u,r,?_⟩;rcases l with l | ⟨k,c,e,z⟩
  ·exact .inl l
  ·exact .inr ⟨k,c,e,cellK x c e _ z⟩
 ·obtain ⟨v,z⟩:=I.cell x c e;exact ⟨v,cellK x c e v z⟩
 ·obtain ⟨m,⟨o,_,_,ho,_⟩,_⟩:=I.loc;exact free _ o (λz=>(hch _ z).2.1 rfl) ho I.free
 ·obtain ⟨v,o,ho,hd⟩:=I.cell x c e;exact free c o (λz=>(hch c z).2.2.1 x c e rfl) ho (I.freeC x c e)
 ·obtain ⟨e,n,ne,nf,d⟩:=I.pin p hp;have nch:p.1∉ch:=λz=>(hch p.1 z).2.2.2 p hp rfl;exact ⟨keep p.1 p.2 ne nf nch e n,free p.1 p.2 nch e n,ne,nf,d⟩
theorem Inv.un (I:Inv X pins Z H s)(u:Un X.fs [] H H' s.heap h')(hok:HOk X.prog X.w H' h'):Inv X pins Z H' { s with heap:=h',toks:=t' }:=by
 obtain ⟨m,⟨o,es,ep,ho,r⟩,_⟩:=id I.loc;obtain ⟨sl,hL⟩:=u.any ho I.free (by simp);exact I.step (g':=s.gens) (d':=s.drawn) (ch:=[]) (λ_ z=>nomatch z) (λb o _ hb _ e n=>u.keep b o e n hb (by simp)) (λb o _ hb _ e n=>u.slot b o e n hb (by simp)) (λb o _ e n=>u.free b o e n (by simp)) (λb o _ e=>u.there b o e (by simp)) u.tups u.frzs u.tbls (λm' hm=>by
  obtain ⟨o',es',ep',ho',r'⟩:=hm;rw [ho] at ho';cases ho'
  exact ⟨_,es',ep',hL,r'⟩) hok I.bare
theorem Inv.call {g':Array GenState}{d':Drawn}(I:Inv X pins Z H s)(u:Un (frs X.stack) ch H H' s.heap h')(hok:HOk X.prog X.w H' h')(hg:AllBare g')
 (hch:∀b∈ch,(b∈X.ex\/X.s₀.heap.objs.size<=b)/\b≠X.env.locals/\(∀x c,X.env.cells.lookup x=some c->c≠b)/\∀p∈X.pn++pins,p.1≠b) :
 Inv X pins Z H' { s with heap:=h',gens:=g',drawn:=d',toks:=t' }:=by
 obtain ⟨m,⟨o,es,ep,ho,r⟩,_⟩:=id I.loc;obtain ⟨sl,hL⟩:=u.any ho I.free λz=>(hch _ z).2.1 rfl;exact I.step (ch:=ch) hch (λb o hL hb hc e n=>u.keep b o e n (λz=>(List.mem_cons.mp (I.stkSub b z)).elim hL hb) hc) (λb o _ _ hc e n=>u.any e n hc) (λb o hc e n=>u.free b o e n hc) (λb o hc e=>u.there b o e hc) u.tups u.frzs u.tbls (λm' hm=>by
  obtain ⟨o',es',ep',ho',r'⟩:=hm;rw [ho] at ho';cases ho'
  exact ⟨_,es',ep',hL,r'⟩) hok hg
theorem Inv.turned {it:Addr}(I:Inv X pins Z H s)(k:∀b o,b≠it->s.heap.get? b=some o->h'.get? b=some o)(hn:H it=none)(hL:it≠X.env.locals)
 (h1:it∈X.ex\/X.s₀.heap.objs.size<=it) (h2:∀x c,X.env.cells.lookup x=some c->c≠it) (h3:∀p∈X.pn++pins,p.1≠it):Inv X pins Z H { s with heap:=h',toks:=t' }:=by
 have nit:∀b u,H b=some u->b≠it:=λb u e z=>by rw [z,hn] at e;cases e
 refine I.step (g':=s.gens) (d':=s.drawn) (ch:=[it]) (λb hb=>?_) (λb o _ _ hc e _=>k b o (λz=>hc (by simp [z])) e) (λb o _ _ hc e _=>⟨o.slots,k b o (λz=>hc (by simp [z])) e⟩) (λ_ _ _ _ n=>n)
  (λb o hc e=>⟨o,k b o (λz=>hc (by simp [z])) e⟩) (λ_ _ e=>e) (λ_ _ _ e=>e) (λb ps e=>⟨#[],by rw [e];simp⟩) (λm hm=>?_) (λb u e=>?_) I.bare
 ·have e:b=it:=by simpa using hb
  subst e;exact ⟨h1,hL,h2,h3⟩
 ·obtain ⟨o,es,ep,ho,r⟩:=hm;exact ⟨o,es,ep,k _ o (Ne.symm hL) ho,r⟩
 ·refine (I.hok b u e).stay (λc v hc q=>k c v ?_ q) (λ_ q=>q) λ_ _ q=>q;rcases hc with z | z
  ·rw [z];exact nit b u e
  ·exact nit c _ z
theorem Inv.tok (I:Inv X pins Z H s)(t:Nat):Inv X pins Z H { s with toks:=t }:=I.un (h':=s.heap) (t':=t) Un.refl I.hok
theorem Inv.kept {t':Nat}(I:Inv X pins Z H s)(k:∀b u,s.heap.get? b=some u->h'.get? b=some u):Inv X pins Z H { s with heap:=h',toks:=t' }:=I.un (Un.kept k) (I.hok.kept k)
theorem Inv.laid {a:Addr}{o:HO}{t':Nat}(I:Inv X pins Z H s)(k:∀b u,s.heap.get? b=some u->h'.get? b=some u)(hp:s.heap.objs.size<=a)(new:ObjOk X.prog X.w (upd H a o) h' a o) :
 Inv X pins Z (upd H a o) { s with heap:=h',toks:=t' }:=I.un (Un.laid k hp (I.hok.fresh hp)) (I.hok.laid k hp new)
theorem Inv.write {x e:Addr}{o:HO}{t':Nat}(I:Inv X pins Z H s)(mu:Mut (H x))(he:e=x\/H e=some (.own x))(k:∀b u,b≠e->s.heap.get? b=some u->h'.get? b=some u)(heo:∃u,h'.get? e=some u)
 (new:ObjOk X.prog X.w (upd H x o) h' x o):Inv X pins Z (upd H x o) { s with heap:=h',toks:=t' }:=I.un (Un.write mu he k heo) (I.hok.write mu he k heo new)
theorem Inv.pins_of {pins':List (Addr×Obj)}(I:Inv X pins Z H s)(h:∀p∈pins',s.heap.get? p.1=some p.2/\H p.1=none/\p.1≠X.env.locals/\p.1∉X.fs/\∀v,p.2.data≠.cell v):Inv X pins' Z H s:=
 ⟨I.ok,I.os,I.bare,I.base,I.loc,I.cell,I.free,I.freeC,λp hp=>(List.mem_append.mp hp).elim (λz=>I.pin p (List.mem_append_left _ z)) (h p),I.hok,I.len⟩
theorem GW {N:List Str}(hN:N.Nodup){i j:Nat}{x:Str}(a:N[i]?=some x)(b:N[j]?=some x):i=j:=by
 obtain ⟨h1,e1⟩:=List.getElem?_eq_some_iff.mp a;obtain ⟨h2,e2⟩:=List.getElem?_eq_some_iff.mp b;exact (List.getElem_inj hN).mp (e1.trans e2.symm)
theorem Ji {M:Model}{A:Around}(I:Inv X pins Z H s)(hN:X.N.Nodup)(hi:X.N[i]?=some x)(hx:Loc X.env.scope x)(r:RelV v u)
 (h:∀s',Inv X pins (Z.set i (some v)) H s'->(∃a,Heap.SameBut a s.heap s'.heap/\(a=X.env.locals\/X.env.cells.lookup x=some a))->Q () s') (hf:X.fn x=true\/X.env.scope.names.lookup x=some .local:=by first | exact .inl rfl | exact .inr rfl | assumption):wpAny M A (storeName X.env x u) Q E s:=by
 obtain ⟨m,hn,hl⟩:=id I.loc;have hcls:(X.env.scope.kind == .class || (X.env.scope.kind == .module && X.env.locals != X.env.globals))=false:=by rw [I.ok.kind];rfl
 have hiZ:i < Z.length:=by rw [I.len];exact (List.getElem?_eq_some_iff.mp hi).1
 have cne:=I.cne;have tracked:∀{a:Addr} {h':Heap},(∃o,s.heap.get? a=some o/\H a=none)->Heap.SameBut a s.heap h'->HOk X.prog X.w H h':=λ{a h'} ha hs b ob e=>by
  obtain ⟨_,_,hfree⟩:=ha;refine (I.hok b ob e).stay (λc w' hc q=>(hs.2 c ?_).trans q) (λ_ q=>q) λ_ _ q=>q;rintro rfl;rcases hc with rfl | hc
  ·rw [hfree] at e;cases e
  ·rw [hfree] at hc;cases hc
 rcases hx with hk | hk
 ·refine wpAny_storeName_local hk hn (λh' hn' hs=>?_) hcls;obtain ⟨oL,_,_,hoL,_⟩:=id hn;refine h _ ⟨I.ok,I.os,I.bare,⟨λb o e n hb hx=>?_,λb o e n hb hx=>?_,I.base.free,λb o e hx=>?_,I.base.tups,I.base.frzs,I.base.tbls⟩,⟨_,hn',λj y v' e1 e2 e3=>?_⟩,λy c e=>?_,I.free,I.freeC,λp hp=>?_,tracked ⟨oL,hoL,I.free⟩ hs,by simpa using I.len⟩ ⟨_,hs,.inl rfl⟩
  ·exact (hs.2 b (Nat.ne_of_lt (Nat.lt_of_lt_of_le (Heap.lt_size e) I.ok.above))).trans (I.base.keep b o e n hb hx)
  ·obtain ⟨sl,e1⟩:=I.base.slot b o e n hb hx;exact ⟨sl,(hs.2 b (Nat.ne_of_lt (Nat.lt_of_lt_of_le (Heap.lt_size e) I.ok.above))).trans e1⟩
  ·obtain ⟨o',e1⟩:=I.base.there b o e hx;exact ⟨o',(hs.2 b (Nat.ne_of_lt (Nat.lt_of_lt_of_le (Heap.lt_size e) I.ok.above))).trans e1⟩
  ·by_cases hj:j=i
   ·subst hj;rw [hi] at e1;cases e1
    rw [List.getElem?_set_self hiZ] at e2
    cases e2
    exact ⟨u,r,.inl ⟨hk,by simp⟩⟩
   ·rw [List.getElem?_set_ne (Ne.symm hj)] at e2;obtain ⟨u',r',q⟩:=hl j y v' e1 e2 e3;refine ⟨u',r',?_⟩;rcases q with ⟨k,e⟩ | ⟨k,c,e,z⟩
    ·refine .inl ⟨k,?_⟩;have:y≠x:=λe=>hj (GW hN e1 (e ▸ hi));simp [this,e]
    ·exact .inr ⟨k,c,e,z.sameBut hs (cne y c e)⟩
  ·obtain ⟨w',z⟩:=I.cell y c e;exact ⟨w',z.sameBut hs (cne y c e)⟩
  ·obtain ⟨e,n,ne,nf,d⟩:=I.pin p hp;exact ⟨(hs.2 p.1 ne).trans e,n,ne,nf,d⟩
 ·have hfn:X.fn x=true:=by
   rcases hf with z | z
   ·exact z
   ·rw [z] at hk;cases hk
  obtain ⟨c,hc⟩:=I.ok.has x (.inl hk);obtain ⟨w',z⟩:=I.cell x c hc;refine wpAny_storeName_cell I.ok.kind hk hc z (λh' hc' hs=>?_);obtain ⟨oc,hoc,hocd⟩:=id z;refine h { s with heap:=h' } ⟨I.ok,I.os,I.bare,⟨λb o e n hb hx=>?_,λb o e n hb hx=>?_,I.base.free,λb o e hx=>?_,I.base.tups,I.base.frzs,I.base.tbls⟩,⟨m,hn.sameBut hs (Ne.symm (cne x c hc)),λj y v' e1 e2 e3=>?_⟩,λy c' e=>?_,I.free,I.freeC,λp hp=>?_,tracked ⟨oc,hoc,I.freeC x c hc⟩ hs,by simpa using I.len⟩ ⟨c,hs,.inr hc⟩
  ·exact (hs.2 b (Nat.ne_of_lt (Nat.lt_of_lt_of_le (Heap.lt_size e) (I.ok.cab x c hfn hc)))).trans (I.base.keep b o e n hb hx)
  ·obtain ⟨sl,e1⟩:=I.base.slot b o e n hb hx;exact ⟨sl,(hs.2 b (Nat.ne_of_lt (Nat.lt_of_lt_of_le (Heap.lt_size e) (I.ok.cab x c hfn hc)))).trans e1⟩
  ·obtain ⟨o',e1⟩:=I.base.there b o e hx;exact ⟨o',(hs.2 b (Nat.ne_of_lt (Nat.lt_of_lt_of_le (Heap.lt_size e) (I.ok.cab x c hfn hc)))).trans e1⟩
  ·by_cases hj:j=i
   ·subst hj;rw [hi] at e1;cases e1
    rw [List.getElem?_set_self hiZ] at e2
    cases e2
    exact ⟨u,r,.inr ⟨.inl hk,c,hc,hc'⟩⟩
   ·rw [List.getElem?_set_ne (Ne.symm hj)] at e2;obtain ⟨u',r',q⟩:=hl j y v' e1 e2 e3;refine ⟨u',r',?_⟩;rcases q with q | ⟨k,c',e,z'⟩
    ·exact .inl q
    ·refine .inr ⟨k,c',e,z'.sameBut hs ?_⟩;rintro rfl;exact hj (GW hN e1 (I.ok.inj _ _ _ e hc ▸ hi))
  ·by_cases hcc:c'=c
   ·subst hcc;exact ⟨_,hc'⟩
   ·obtain ⟨w2,z2⟩:=I.cell y c' e;exact ⟨w2,z2.sameBut hs hcc⟩
  ·obtain ⟨e,n,ne,nf,d⟩:=I.pin p hp;refine ⟨(hs.2 p.1 ?_).trans e,n,ne,nf,d⟩;intro q;rw [q,hoc] at e;have q':oc=p.2:=Option.some.inj e;exact d w' (by rw [<-q'];exact hocd)
theorem FC {M:Model}{A:Around}(I:Inv X pins Z H s)(hN:X.N.Nodup)(hi:X.N[i]?=some x)(hx:Loc X.env.scope x)(r:RelV v u)
 (h:∀s',Inv X pins (Z.set i (some v)) H s'->Q () s') (hf:X.fn x=true\/X.env.scope.names.lookup x=some .local:=by first | exact .inl rfl | exact .inr rfl | assumption):wpAny M A (storeName X.env x u) Q E s:=
 Ji I hN hi hx r (λs' I' _=>h s' I') hf
theorem Inv.call' {s':Shared}(I:Inv X pins Z H s)(ho:s'.os=s.os)(u:Un (frs X.stack) ch H H' s.heap s'.heap)(hok:HOk X.prog X.w H' s'.heap)(hg:AllBare s'.gens)
 (hch:∀b∈ch,(b∈X.ex\/X.s₀.heap.objs.size<=b)/\b≠X.env.locals/\(∀x c,X.env.cells.lookup x=some c->c≠b)/\∀p∈X.pn++pins,p.1≠b):Inv X pins Z H' s':=by
 obtain ⟨h',g',d',t',o'⟩:=s';have e:o'=s.os:=ho;subst e;exact I.call (g':=g') (t':=t') (d':=d') u hok hg hch
end
abbrev XK:=Value->Option Addr->Hp->Prop
abbrev St:=List (Option V)
abbrev VK:=V->Hp->Prop
abbrev TE:=St->Hp->VK->Prop
abbrev TT:=St->Hp->(Bool->Hp->Prop)->Prop
abbrev TA:=St->Hp->(List V->Hp->Prop)->Prop
structure Ends where
 nx:St->Hp->Prop
 rt:VK
 bk:St->Hp->Prop:=λ_ _=>False
 ct:St->Hp->Prop:=λ_ _=>False
abbrev TS:=Ends->St->Hp->Prop
def EP (X:Cx)(pins:List (Addr×Obj))(Z:St)(Q:VK)(u:Value)(s':Shared):Prop:=∃v H',Inv X pins Z H' s'/\RelV v u/\Q v H'
def TP (X:Cx)(pins:List (Addr×Obj))(Z:St)(Q:Bool->Hp->Prop)(b:Bool)(s':Shared):Prop:=∃H',Inv X pins Z H' s'/\Q b H'
def AP (X:Cx)(pins:List (Addr×Obj))(Z:St)(Q:List V->Hp->Prop)(us:List Value)(s':Shared):Prop:=∃vs H',Inv X pins Z H' s'/\Vals vs us/\Q vs H'
def SP (X:Cx)(pins:List (Addr×Obj))(D:Ends)(f:Flow)(s':Shared):Prop:=
 match f with
 | .next=>∃Z' H',Inv X pins Z' H' s'/\D.nx Z' H'
 | .brk=>∃Z' H',Inv X pins Z' H' s'/\D.bk Z' H'
 | .cont=>∃Z' H',Inv X pins Z' H' s'/\D.ct Z' H'
 | .ret u=>∃v Z' H',Inv X pins Z' H' s'/\RelV v u/\D.rt v H'
def PE (X:Cx)(e:Expr)(t:TE):Prop:=
 ∀(pins:List (Addr×Obj)) (s:Shared) (Z:St) (H:Hp) (Q:VK),Inv X pins Z H s->t Z H Q->wpAny (model X.prog X.w) X.A (eval e X.env) (EP X pins Z Q) X.xe s
def PT (X:Cx)(e:Expr)(t:TT):Prop:=
 ∀(pins:List (Addr×Obj)) (s:Shared) (Z:St) (H:Hp) (Q:Bool->Hp->Prop),Inv X pins Z H s->t Z H Q->wpAny (model X.prog X.w) X.A (isTrue e X.env (eval e X.env)) (TP X pins Z Q) X.xe s
def PW (X:Cx)(e:Expr)(t:TT):Prop:=
 ∀(whole:Sem Value) (pins:List (Addr×Obj)) (s:Shared) (Z:St) (H:Hp) (Q:Bool->Hp->Prop),Inv X pins Z H s->t Z H Q->wpAny (model X.prog X.w) X.A (isTrue e X.env whole) (TP X pins Z Q) X.xe s
variable {X:Cx}{e:Expr}
theorem PW.pt {t:TT}(h:PW X e t):PT X e t:=h _
def PA (X:Cx)(es:List Expr)(t:TA):Prop:=
 ∀(pos:Pos) (pins:List (Addr×Obj)) (s:Shared) (Z:St) (H:Hp) (Q:List V->Hp->Prop),Inv X pins Z H s->t Z H Q->wpAny (model X.prog X.w) X.A (spliced (backTo pos (starEach es X.env))) (AP X pins Z Q) X.xe s
def PS (X:Cx)(st:Stmt)(t:TS):Prop:=
 ∀(pins:List (Addr×Obj)) (s:Shared) (Z:St) (H:Hp) (D:Ends),Inv X pins Z H s->t D Z H->wpAny (model X.prog X.w) X.A (exec st X.env) (SP X pins D) X.xe s
def PSs (X:Cx)(st:List Stmt)(t:TS):Prop:=
 ∀(pins:List (Addr×Obj)) (s:Shared) (Z:St) (H:Hp) (D:Ends),Inv X pins Z H s->t D Z H->wpAny (model X.prog X.w) X.A (execs st X.env) (SP X pins D) X.xe s
variable {s:Shared}
theorem thn {α:Type}{t:Sem α}{Q Q':α->Shared->Prop}{M:Model}{A:Around}(h:wpAny M A t Q E s)(hQ:∀a s,Q a s->Q' a s):wpAny M A t Q' E s:=wpAny_mono h hQ λ_ _ x=>x
variable {pins:List (Addr×Obj)}{Z:St}
section
variable {X:Cx}
def SQ (i:Nat):TE:=λZ H Q=>∃v,Z[i]?=some (some v)/\Q v H
def tC (v:V):TE:=λ_ H Q=>Q v H
theorem Fd {pos:Pos}(hN:X.N[i]?=some x)(hv:Vis X.env.scope x)(hd:(x == ("__debug__" : Str))=false:=by decide)(hcd:(x == ("__classdict__" : Str))=false:=by decide):PE X (.Name x pos) (SQ i):=by
 intro pins s Z H Q I h;obtain ⟨v,e,h⟩:=h;obtain ⟨m,hn,hl⟩:=I.loc;obtain ⟨u,r,l⟩:=hl i x v hN e hv;have fin:EP X pins Z Q u s:=⟨v,H,I,r,h⟩;rcases l with ⟨hk,hm⟩ | ⟨hk,c,hc,hcell⟩
 ·exact wpAny_Name (wpAny_loadName_local I.ok.kind hk hn hm fin) hd
 ·rcases hk with hk | hk
  ·exact wpAny_Name (wpAny_loadName_cell I.ok.kind hk hc hcell fin) hd
  ·exact wpAny_Name (wpAny_loadName_free I.ok.kind hk hc hcell fin hcd) hd
theorem R0 {i j pos}:PE X (.Constant (.int i) j pos) (tC (.int i)):=λ_ _ _ H _ I h=>wpAny_Constant_int ⟨.int i,H,I.tok _,⟨_,rfl⟩,h⟩
theorem Tt {b j pos}:PE X (.Constant (.bool b) j pos) (tC (.bl b)):=λ_ _ _ H _ I h=>Constant_bool ⟨.bl b,H,I,rfl,h⟩
theorem R3 {j pos}:PE X (.Constant .none j pos) (tC .non):=λ_ _ _ H _ I h=>Constant_none ⟨.non,H,I,rfl,h⟩
theorem R6 {x j pos}:PE X (.Constant (.str x) j pos) (tC (.str x)):=λ_ _ _ H _ I h=>Calls.Constant_str ⟨.str x,H,I.tok _,⟨_,rfl⟩,h⟩
def Gl (X:Cx)(x:Str):Prop:=X.env.kindOf x=some .globalImplicit
theorem Et {pos:Pos}{Q:Value->Shared->Prop}(I:Inv X pins Z H s)(hg:Gl X x)(hm:X.mg x=some u)(h:Q u s)
 (hd:(x == ("__debug__" : Str))=false:=by decide):wpAny (model X.prog X.w) X.A (eval (.Name x pos) X.env) Q E s:=
 Calls.Name_function_global I.ok.kind hg (Calls.loadGlobal_global (by rw [I.ok.glob];exact I.mod.glob.keeps I.bk) hm h) hd
theorem FW {pos:Pos}{Q:Value->Shared->Prop}(I:Inv X pins Z H s)(hg:Gl X x)(hm:X.mg x=none)(hv:bootBuiltins x=some u)(h:Q u s)
 (hn:x≠"__name__":=by decide) (hd:(x == ("__debug__" : Str))=false:=by decide):wpAny (model X.prog X.w) X.A (eval (.Name x pos) X.env) Q E s:=by
 obtain ⟨mb,h1,h2⟩:=I.mod.blt;exact Calls.Name_function_global I.ok.kind hg (Calls.loadGlobal_builtin (by rw [I.ok.glob];exact I.mod.glob.keeps I.bk) hm (by rw [I.ok.blt];exact h1.keeps I.bk) ((h2 x hn).trans hv) h) hd
theorem Gp {pos:Pos}(hg:Gl X x)(hm:X.mg x=some u)(r:RelV v u)(hd:(x == ("__debug__" : Str))=false:=by decide):PE X (.Name x pos) (tC v):=
 λ_ _ _ H _ I h=>Et I hg hm ⟨v,H,I,r,h⟩ hd
theorem LP {pos:Pos}(hg:Gl X x)(hm:X.mg x=none)(hv:bootBuiltins x=some u)(r:RelV v u)(hn:x≠"__name__":=by decide)(hd:(x == ("__debug__" : Str))=false:=by decide):PE X (.Name x pos) (tC v):=
 λ_ _ _ H _ I h=>FW I hg hm hv ⟨v,H,I,r,h⟩ hn hd
variable {a b:Expr}{ta tb:TE}{pos:Pos}
def tB (t:TE):TT:=λZ H Q=>t Z H λx H1=>∃c,x = .bl c/\Q c H1
theorem Sf {t:TE}(h:PE X e t)(he:∀whole,isTrue e X.env whole=(do let v <-whole;standAt e.pos;holding [v] (truthy v)):=by intro _;rfl):PT X e (tB t):=by
 intro pins s Z H Q I hw;refine isTrue_plain (thn (h pins s Z H _ I hw) λv s1 z9=>?_) (he _);obtain ⟨x,H1,I1,r1,q1⟩:=z9;obtain ⟨d,rfl,q⟩:=q1
 cases r1
 exact wpAny_truthy_bool ⟨H1,I1,q⟩
variable {tA tB':TT}{rest:List Expr}
def UW (t u:TT):TT:=λZ H Q=>t Z H λc H1=>if c=true then u Z H1 Q else Q false H1
def tOr (t u:TT):TT:=λZ H Q=>t Z H λc H1=>if c=true then Q true H1 else u Z H1 Q
def U1 (t:TT):TT:=λZ H Q=>t Z H λc H1=>Q (!c) H1
theorem QE (ha:PT X a tA):PW X (.BoolOp .And [a] pos) tA:=by
 intro wh pins s Z H Q I h;refine isTrue_and (thn (ha pins s Z H Q I h) λc s1 e=>?_)
 cases c with
 | true=>exact isTrue_and_nil e
 | false=>exact e
theorem Sj (ha:PT X a tA):PW X (.BoolOp .Or [a] pos) tA:=by
 intro wh pins s Z H Q I h;refine isTrue_or (thn (ha pins s Z H Q I h) λc s1 e=>?_)
 cases c with
 | false=>exact isTrue_or_nil e
 | true=>exact e
theorem Si (ha:PT X a tA)(hb:PW X (.BoolOp .And (b :: rest) pos) tB'):PW X (.BoolOp .And (a :: b :: rest) pos) (UW tA tB'):=by
 intro wh pins s Z H Q I h;refine isTrue_and (thn (ha pins s Z H _ I h) λc s1 z9=>?_);obtain ⟨H1,I1,q1⟩:=z9
 cases c with
 | true=>exact hb wh pins s1 Z H1 Q I1 q1
 | false=>exact ⟨H1,I1,q1⟩
theorem TB (ha:PT X a tA)(hb:PW X (.BoolOp .Or (b :: rest) pos) tB'):PW X (.BoolOp .Or (a :: b :: rest) pos) (tOr tA tB'):=by
 intro wh pins s Z H Q I h;refine isTrue_or (thn (ha pins s Z H _ I h) λc s1 z9=>?_);obtain ⟨H1,I1,q1⟩:=z9
 cases c with
 | true=>exact ⟨H1,I1,q1⟩
 | false=>exact hb wh pins s1 Z H1 Q I1 q1
theorem Se (ha:PT X a tA):PT X (.UnaryOp .Not a pos) (U1 tA):=by
 intro pins s Z H Q I h;exact isTrue_not (ha pins s Z H (λc H1=>Q (!c) H1) I h)
def TJ (ta tb:TE):TE:=λZ H Q=>ta Z H λx H1=>∃c,x = .bl c/\if c=true then tb Z H1 Q else Q (.bl false) H1
def TM (ta:TE):TE:=λZ H Q=>ta Z H λx H1=>∃c,x = .bl c/\Q (.bl (!c)) H1
theorem R5 {op}{t:TE}(h:PE X a t):PE X (.BoolOp op [a] pos) t:=λpins s Z H Q I hw=>BoolOp_one (h pins s Z H Q I hw)
theorem RZ (ha:PE X a ta)(hb:PE X (.BoolOp .And (b :: rest) pos) tb):PE X (.BoolOp .And (a :: b :: rest) pos) (TJ ta tb):=by
 intro pins s Z H Q I h;refine BoolOp_and (thn (ha pins s Z H _ I h) λv s1 z9=>?_);obtain ⟨x,H1,I1,r1,q1⟩:=z9;obtain ⟨c,rfl,q1⟩:=q1
 cases r1
 refine wpAny_truthy_bool ?_
 cases c with
 | true=>exact hb pins s1 Z H1 Q I1 q1
 | false=>exact ⟨.bl false,H1,I1,rfl,q1⟩
theorem R4 (ha:PE X a ta):PE X (.UnaryOp .Not a pos) (TM ta):=by
 intro pins s Z H Q I h;refine UnaryOp_ (thn (ha pins s Z H _ I h) λv s1 z9=>?_);obtain ⟨x,H1,I1,r1,q1⟩:=z9;obtain ⟨c,rfl,q1⟩:=q1
 cases r1
 exact not_of (wpAny_truthy_bool ⟨.bl (!c),H1,I1,rfl,q1⟩)
end
def SqL (K:PySem.W.Frag)(H:Hp)(a:Addr)(xs:List V):Prop:=
 Rd H a (.lst xs)\/
  ∃(o:Obj) (its:Array Value) (n:Nat),K.lookup a=some o/\o.cls = .type "list"/\o.dict=none/\o.data = .seq its n/\its.size<=sizeLine/\Vals xs its.toList
def SqT (K:PySem.W.Frag)(H:Hp)(a:Addr)(xs:List V):Prop:=
 Rd H a (.tup xs)\/
  ∃(o:Obj) (its:Array Value) (n:Nat),K.lookup a=some o/\o.cls = .type "tuple"/\o.data = .seq its n/\its.size<=sizeLine/\Vals xs its.toList
noncomputable def UE:Value->Option V
 | .none=>some .non
 | .bool b=>some (.bl b)
 | .int i _=>some (.int i)
 | .str x _=>some (.str x)
 | .bytes b _=>some (.byt b)
 | .float b _=>some (.flt b)
 | .ref a=>some (.ref a)
 | .type n=>some (.ty n)
 | _=>none
theorem RelV.abs {x:V}(r:RelV x u):UE u=some x:=by
 cases x with
 | non=>cases r;rfl
 | bl _=>cases r;rfl
 | int _=>obtain ⟨t,rfl⟩:=r;rfl
 | str _=>obtain ⟨t,rfl⟩:=r;rfl
 | byt _=>obtain ⟨t,rfl⟩:=r;rfl
 | flt _=>obtain ⟨t,rfl⟩:=r;rfl
 | ref _=>cases r;rfl
 | ty _=>cases r;rfl
theorem RelV.inj {x y:V}{u:Value}(r:RelV x u)(q:RelV y u):x=y:=Option.some.inj (r.abs.symm.trans q.abs)
theorem Vals.inj {xs ys:List V}{us:List Value}(a:Vals xs us)(b:Vals ys us):xs=ys:=by
 cases a with
 | nil=>
   cases b
   rfl
 | cons r t=>
   cases b with
   | cons r' t'=>rw [r.inj r',Vals.inj t t']
variable {K:PySem.W.Frag}
section
variable {X:Cx}{pins:List (Addr×Obj)}{Z:St}{H:Hp}{s:Shared}{a:Addr}{xs ys:List V}
theorem SqL.of (h:H a=some (.lst xs)):SqL K H a xs:=.inl (.inl h)
theorem SqT.of (h:H a=some (.tup xs)):SqT K H a xs:=.inl (.inl h)
theorem Inv.list (I:Inv X pins Z H s)(h:SqL X.K H a xs):∃its:List Value,Vals xs its/\PlainL s.heap a its.toArray/\xs.length<=sizeLine:=by
 rcases h with h | ⟨o,its,n,hk,hc,hd,hs,hz,r⟩
 ·obtain ⟨z,its,n,r,e⟩:=h.ok I.hok;exact ⟨its,r,⟨_,n,e,rfl,rfl,rfl⟩,z⟩
 ·refine ⟨its.toList,r,⟨o,n,I.kIn a o hk,hc,hd,by simpa using hs⟩,?_⟩;have e:=r.length;simp only [Array.length_toList] at e;lia
theorem Inv.tuple (I:Inv X pins Z H s)(h:SqT X.K H a xs):∃its:List Value,Vals xs its/\IsTup s.heap a its.toArray/\xs.length<=sizeLine:=by
 rcases h with h | ⟨o,its,n,hk,hc,hs,hz,r⟩
 ·obtain ⟨z,its,r,p⟩:=h.ok I.hok;exact ⟨its,r,p,z⟩
 ·refine ⟨its.toList,r,⟨o,I.kIn a o hk,hc,n,by simpa using hs⟩,?_⟩;have e:=r.length;simp only [Array.length_toList] at e;lia
theorem Inv.list_inj (I:Inv X pins Z H s)(h:SqL X.K H a xs)(h':SqL X.K H a ys):xs=ys:=by
 obtain ⟨its,r,⟨o,n,e,_,_,d⟩,_⟩:=I.list h;obtain ⟨its',r',⟨o',n',e',_,_,d'⟩,_⟩:=I.list h';rw [e] at e';cases e'
 rw [d] at d';injection d' with d1 _
 have:its=its':=by simpa using congrArg Array.toList d1
 subst this;exact r.inj r'
theorem Inv.tuple_inj (I:Inv X pins Z H s)(h:SqT X.K H a xs)(h':SqT X.K H a ys):xs=ys:=by
 obtain ⟨its,r,⟨o,e,_,n,d⟩,_⟩:=I.tuple h;obtain ⟨its',r',⟨o',e',_,n',d'⟩,_⟩:=I.tuple h';rw [e] at e';cases e'
 rw [d] at d';injection d' with d1 _
 have:its=its':=by simpa using congrArg Array.toList d1
 subst this;exact r.inj r'
end
abbrev Cx.wish (X:Cx)(E:Value->Shared->Prop):Cx:={ X with xe:=E }
abbrev Cx.nox (X:Cx):Cx:=X.wish λ_ _=>False
theorem Cx.Ok.wish {X:Cx}(ok:X.Ok)(E:Value->Shared->Prop):(X.wish E).Ok:=
 ⟨ok.mod,ok.kind,ok.glob,ok.blt,ok.above,ok.inj,ok.has,ok.cab,ok.hd,ok.frames,ok.stk,ok.exf,ok.bs,ok.bsz,ok.noex,ok.exfs,ok.funs,ok.frf⟩
theorem Cx.Ok.unwish (ok:(X.wish E).Ok):X.Ok:=
 ⟨ok.mod,ok.kind,ok.glob,ok.blt,ok.above,ok.inj,ok.has,ok.cab,ok.hd,ok.frames,ok.stk,ok.exf,ok.bs,ok.bsz,ok.noex,ok.exfs,ok.funs,ok.frf⟩
section
variable {X:Cx}{pins:List (Addr×Obj)}{Z:St}{H:Hp}{s:Shared}{E:Value->Shared->Prop}
theorem Inv.wish (I:Inv X pins Z H s)(E:Value->Shared->Prop):Inv (X.wish E) pins Z H s:=⟨I.ok.wish E,I.os,I.bare,I.base,I.loc,I.cell,I.free,I.freeC,I.pin,I.hok,I.len⟩
theorem Inv.unwish (I:Inv (X.wish E) pins Z H s):Inv X pins Z H s:=⟨I.ok.unwish,I.os,I.bare,I.base,I.loc,I.cell,I.free,I.freeC,I.pin,I.hok,I.len⟩
theorem SP.unwish {D:Ends}{f:Flow}{s':Shared}(h:SP (X.wish E) pins D f s'):SP X pins D f s':=by
 cases f with
 | next=>obtain ⟨Z',H',I,q⟩:=h;exact ⟨Z',H',I.unwish,q⟩
 | brk=>obtain ⟨Z',H',I,q⟩:=h;exact ⟨Z',H',I.unwish,q⟩
 | cont=>obtain ⟨Z',H',I,q⟩:=h;exact ⟨Z',H',I.unwish,q⟩
 | ret u=>obtain ⟨v,Z',H',I,r,q⟩:=h;exact ⟨v,Z',H',I.unwish,r,q⟩
theorem PSs.nox {st:List Stmt}{t:TS}(h:PSs X.nox st t):PSs X st t:=λpins s Z H D I hw=>
 wpAny_mono (h pins s Z H D (I.wish _) hw) (λ_ _ q=>q.unwish) λ_ _ z=>False.elim z
end
section
variable {X:Cx}{st:Stmt}{rest:List Stmt}{t u:TS}{e:Expr}{te:TE}{pos:Pos}
def TL:TS:=λD Z H=>D.nx Z H
def U3 (t u:TS):TS:=λD Z H=>t { D with nx:=u D } Z H
theorem QC:PSs X [] TL:=λ_ _ Z H _ I h=>wpAny_execs_nil ⟨Z,H,I,h⟩
theorem KM (h1:PS X st t)(h2:PSs X rest u):PSs X (st :: rest) (U3 t u):=by
 intro pins s Z H D I h;refine wpAny_execs_cons (thn (h1 pins s Z H { D with nx:=u D } I h) λf s1 q=>?_)
 cases f with
 | next=>
   obtain ⟨Z',H',I',q⟩:=q;exact h2 pins s1 Z' H' D I' q
 | ret v=>exact q
 | brk=>exact q
 | cont=>exact q
theorem Il (h1:PS X st t):PSs X [st] t:=by
 intro pins s Z H D I h;refine wpAny_execs_cons (thn (h1 pins s Z H D I h) λf s1 q=>?_)
 cases f with
 | next=>exact wpAny_execs_nil q
 | ret v=>exact q
 | brk=>exact q
 | cont=>exact q
theorem Inv.quiet (I:Inv X pins Z H s):interactive X.env=false:=by simp [interactive,I.ok.kind]
def Py (te:TE):TS:=λD Z H=>te Z H λ_ H1=>D.nx Z H1
theorem LR (he:PE X e te)(hs:swapsWith e none pos.line X.env=pure false:=by rfl):PS X (.Expr e pos) (Py te):=by
 intro pins s Z H D I h;exact wpAny_Expr_any (thn (he pins s Z H _ I h) λv s1 z9=>by obtain ⟨x,H1,I1,r1,q1⟩:=z9;exact ⟨Z,H1,I1,q1⟩) I.quiet hs
def U2 (te:TE):TS:=λD Z H=>te Z H D.rt
theorem KK (he:PE X e te):PS X (.Return (some e) pos) (U2 te):=by
 intro pins s Z H D I h;exact wpAny_Return_some (thn (he pins s Z H _ I h) λv s1 z9=>by obtain ⟨x,H1,I1,r1,q1⟩:=z9;exact ⟨x,Z,H1,I1,r1,q1⟩)
def UZ (c:TT)(t u:TS):TS:=λD Z H=>c Z H λb H1=>if b=true then t D Z H1 else u D Z H1
theorem Ty {c:Expr}{a b:List Stmt}{tc:TT}(hc:PT X c tc)(ha:PSs X a t)(hb:PSs X b u):PS X (.If c a b pos) (UZ tc t u):=by
 intro pins s Z H D I h;refine wpAny_If (thn (hc pins s Z H _ I h) λd s1 z9=>?_);obtain ⟨H1,I1,q1⟩:=z9
 cases d with
 | true=>exact ha pins s1 Z H1 D I1 q1
 | false=>exact hb pins s1 Z H1 D I1 q1
end
abbrev TG:=V->St->Hp->(St->Hp->Prop)->Prop
abbrev TGs:=List V->St->Hp->(St->Hp->Prop)->Prop
def PG (X:Cx)(target:Expr)(t:TG):Prop:=
 ∀(pins:List (Addr×Obj)) (s:Shared) (Z:St) (H:Hp) (v:V) (u:Value) (Q:St->Hp->Prop),Inv X pins Z H s->RelV v u->t v Z H Q->
  wpAny (model X.prog X.w) X.A (assign target X.env u) (λ_ s'=>∃Z' H',Inv X pins Z' H' s'/\Q Z' H') X.xe s
def PGs (X:Cx)(ts:List Expr)(t:TGs):Prop:=
 ∀(pins:List (Addr×Obj)) (s:Shared) (Z:St) (H:Hp) (vs:List V) (us:List Value) (Q:St->Hp->Prop),Inv X pins Z H s->Vals vs us->t vs Z H Q->
  wpAny (model X.prog X.w) X.A (assignInOrder ((assignEach ts X.env).map (·.2)) us) (λ_ s'=>∃Z' H',Inv X pins Z' H' s'/\Q Z' H') X.xe s
abbrev NZ:=V->V->V->Hp->(Hp->Prop)->Prop
def Rb (X:Cx)(t:NZ):Prop:=
 ∀(pins:List (Addr×Obj)) (s:Shared) (Z:St) (H:Hp) (o i v:V) (ov iv u:Value) (Q:Hp->Prop),Inv X pins Z H s->RelV o ov->RelV i iv->RelV v u->t o i v H Q->
  wpAny (model X.prog X.w) X.A (setItem ov iv u) (λ_ s'=>∃H',Inv X pins Z H' s'/\Q H') X.xe s
variable {k:Nat}{tg:Expr}
section
variable {X:Cx}{pos:Pos}
def Hi (i:Nat):TG:=λv Z H Q=>Q (Z.set i (some v)) H
theorem Qu (hN:X.N.Nodup)(hi:X.N[i]?=some x)(hx:Loc X.env.scope x)(hf:X.fn x=true\/X.env.scope.names.lookup x=some .local:=by first | exact .inl rfl | exact .inr rfl | assumption):PG X (.Name x pos) (Hi i):=by
 intro pins s Z H v u Q I r h;exact wpAny_assign_Name (FC I hN hi hx r (λs' I'=>⟨_,H,I',h⟩) hf)
def UO:TGs:=λvs Z H Q=>vs=[]/\Q Z H
def Pm (t:TG)(u:TGs):TGs:=λvs Z H Q=>∃v r,vs=v :: r/\t v Z H λZ' H'=>u r Z' H' Q
theorem Qv:PGs X [] UO:=by
 intro pins s Z H vs us Q I r h;obtain ⟨e,h⟩:=h;subst e
 cases r
 exact assignInOrder_nil ⟨Z,H,I,h⟩
theorem OC {es:List Expr}{t:TG}{u:TGs}(h1:PG X e t)(h2:PGs X es u)
 (hs:(assignEach (e :: es) X.env).map (·.2)=assign e X.env :: (assignEach es X.env).map (·.2):=by rfl):PGs X (e :: es) (Pm t u):=by
 intro pins s Z H vs us Q I r h;obtain ⟨v,vr,e1,h⟩:=h;subst e1
 cases r with
 | cons r rr=>
   rw [hs];refine assignInOrder_cons (thn (h1 pins s Z H _ _ _ I r h) λ_ s1 z9=>?_);obtain ⟨Z1,H1,I1,q1⟩:=z9;exact h2 pins s1 Z1 H1 _ _ Q I1 rr q1
def UQ (K:PySem.W.Frag)(n:Nat)(t:TGs):TG:=λv Z H Q=>∃a xs,v = .ref a/\SqT K H a xs/\xs.length=n/\t xs Z H Q
theorem R8 {es:List Expr}{t:TGs}{n:Nat}(hc:X.calm=true)(h:PGs X es t)
 (hn:(assignEach es X.env).length=n:=by rfl) (hst:(assignEach es X.env).findIdx? (·.1)=none:=by rfl):PG X (.Tuple es k pos) (UQ X.K n t):=by
 intro pins s Z H v u Q I r hw;obtain ⟨a,xs,e1,hq,hl,hw⟩:=hw;subst e1
 cases r
 obtain ⟨its,rv,ht,hz⟩:=I.tuple hq;refine assign_Tuple_tuple (I.ok.hd hc) ht (by simp [hn,<-hl,rv.length]) hst λh' hx=>?_;have I1:Inv X pins Z H { s with heap:=h' }:=I.kept (t':=s.toks) λb o e=>hx b o (Nat.ne_of_lt (Heap.lt_size e)) e;exact h pins _ Z H xs _ Q I1 (by simpa using rv) hw
def UP (to ti:TE)(t:NZ):TG:=λv Z H Q=>to Z H λo H1=>ti Z H1 λi H2=>t o i v H2 λH3=>Q Z H3
theorem R7 {o i:Expr}{to ti:TE}{t:NZ}(ho:PE X o to)(hi:PE X i ti)(hs:Rb X t)
 (ha:∀v,assign (.Subscript o i pos) X.env v=(do
   let ov <-holding [v] (eval o X.env)
   let iv <-holding [v,ov] (eval i X.env)
   standAt pos
   holding [v,ov,iv] (setItem ov iv v)
   release [v,ov,iv] []):=by intro _;rfl):PG X (.Subscript o i pos) (UP to ti t):=by
 intro pins s Z H v u Q I r h;rw [ha];refine wpAny_bind (wpAny_holding (thn (ho pins s Z H _ I h) λov s1 z9=>?_));obtain ⟨x,H1,I1,r1,q1⟩:=z9;refine wpAny_bind (wpAny_holding (thn (hi pins s1 Z H1 _ I1 q1) λiv s2 z9=>?_));obtain ⟨y,H2,I2,r2,q2⟩:=z9;refine wpAny_bind (wpAny_standAt (wpAny_bind (wpAny_holding (thn (hs pins s2 Z H2 x y v ov iv u _ I2 r1 r2 r q2) λ_ s3 z9=>?_))));obtain ⟨H3,I3,q3⟩:=z9;exact wpAny_release ⟨Z,H3,I3,q3⟩
def K6 (te:TE)(g:TG):TS:=λD Z H=>te Z H λx H1=>g x Z H1 D.nx
theorem ND {te:TE}{g:TG}(he:PE X e te)(hg:PG X tg g)(hs:swapsWithSole [tg] e pos.line X.env=pure false:=by rfl)(hw:swappedStores [tg] e X.env=pure none:=by rfl)
 (h1:(assignEach [tg] X.env).map (·.2)=[assign tg X.env]:=by rfl):PS X (.Assign [tg] e pos) (K6 te g):=by
 intro pins s Z H D I h;refine wpAny_Assign_stores (thn (he pins s Z H _ I h) λv s1 z9=>?_) hs hw;obtain ⟨x,H1,I1,r1,q1⟩:=z9;rw [h1];exact thn (hg pins s1 Z H1 x v _ I1 r1 q1) λ_ s2 q=>q
theorem KL {te:TE}{pos':Pos}(hN:X.N.Nodup)(hi:X.N[i]?=some x)(hx:Loc X.env.scope x)(he:PE X e te)(hs:swapsWith e (some (.Name x pos')) pos.line X.env=pure false:=by rfl)(hf:X.fn x=true\/X.env.scope.names.lookup x=some .local:=by first | exact .inl rfl | exact .inr rfl | assumption) :
 PS X (.Assign [.Name x pos'] e pos) (K6 te (Hi i)):=by
 intro pins s Z H D I h;refine wpAny_Assign_Name (thn (he pins s Z H _ I h) λv s1 z9=>?_) hs;obtain ⟨y,H1,I1,r1,q1⟩:=z9;exact FC I1 hN hi hx r1 (λs2 I2=>⟨_,H1,I2,q1⟩) hf
end
section
variable {X:Cx}{pos:Pos}
def NN (c:TT)(tb:TS):TS:=λD Z H=>∃W:Nat->St->Hp->Prop,(∃m,W m Z H)/\∀m Z H,W m Z H->
 c Z H λb H1=>if b=true then ∃N:St->Hp->Prop,(∀Z' H',N Z' H'->∃m',m' < m/\W m' Z' H')/\tb { D with nx:=N,ct:=N,bk:=D.nx } Z H1 else D.nx Z H1
theorem OF {c:Expr}{body:List Stmt}{tc:TT}{tb:TS}(hp:PassesOwn (model X.prog X.w) X.A X.env X.xe)(hc:PT X c tc)(hb:PSs X body tb):PS X (.While c body [] pos) (NN tc tb):=by
 intro pins s Z H D I h;obtain ⟨W,⟨m0,w0⟩,turn⟩:=h;refine wpAny_While (codeAny_whileLoop (λn s'=>∃Z' H',Inv X pins Z' H' s'/\W n Z' H') ?_ m0 ⟨Z,H,I,w0⟩);rintro n s1 ⟨Z1,H1,I1,w1⟩;refine wpAny_passesOwn hp (thn (hc pins s1 Z1 H1 _ I1 (turn n Z1 H1 w1)) λb s2 z9=>?_);obtain ⟨H2,I2,q2⟩:=z9
 cases b with
 | true=>
   obtain ⟨N,hN,q2⟩:=q2;rw [if_pos rfl];refine wpAny_passesOwn hp (thn (hb pins s2 Z1 H2 _ I2 q2) λf s3 q3=>?_)
   cases f with
   | next=>
     obtain ⟨Z3,H3,I3,n3⟩:=q3;obtain ⟨m',hm,w3⟩:=hN Z3 H3 n3;exact ⟨m',hm,Z3,H3,I3,w3⟩
   | cont=>
     obtain ⟨Z3,H3,I3,n3⟩:=q3;obtain ⟨m',hm,w3⟩:=hN Z3 H3 n3;exact ⟨m',hm,Z3,H3,I3,w3⟩
   | brk=>exact q3
   | ret v=>exact q3
 | false=>
   rw [if_neg Bool.false_ne_true];exact wpAny_execs_nil ⟨Z1,H2,I2,q2⟩
end
structure It where
 go:Nat->Hp->Prop
 yld:Nat->Hp->V->Hp->Prop
 stop:Nat->Hp->Prop
def FpOk (X:Cx)(pins:List (Addr×Obj))(H:Hp)(b:Addr):Prop:=
 H b=none/\b≠X.env.locals/\b∉X.fs/\(b∈X.ex\/X.s₀.heap.objs.size<=b)/\(∀x c,X.env.cells.lookup x=some c->c≠b)/\∀p∈X.pn++pins,p.1≠b
theorem Inv.fpOk {H':Hp}(I:Inv X pins Z H s)(hb:s.heap.objs.size<=b)(hn:H' b=none):FpOk X pins H' b:=by
 refine ⟨hn,Nat.ne_of_gt (Nat.lt_of_lt_of_le I.lt hb),I.nofs hb,.inr (Nat.le_trans I.sz hb),λx c e z=>?_,λp hp z=>?_⟩
 ·obtain ⟨v,q⟩:=I.cell x c e;exact absurd (Nat.lt_of_lt_of_le q.lt (by rw [z];exact hb)) (Nat.lt_irrefl _)
 ·exact absurd (Nat.lt_of_lt_of_le (Heap.lt_size (I.pin p hp).1) (by rw [z];exact hb)) (Nat.lt_irrefl _)
structure Turn (P:Program)(w:World)(K:PySem.W.Frag)(tg:Expr)(J:It)(fp:List Addr)(it:Addr)(tn:Nat->Heap->Prop):Prop where
 mem:it∈fp
 obj:∀i h,tn i h->∀b∈fp,∃o,h.get? b=some o/\∀v,o.data≠.cell v
 keep:∀i h h',tn i h->(∀b∈fp,∀o,h.get? b=some o->h'.get? b=some o)->tn i h'
 item:∀(X:Cx),X.prog=P->X.w=w->X.K=K->X.calm=true->∀(i:Nat) (pins:List (Addr×Obj)) (s:Shared) (Z:St) (H:Hp) (E:Value->Shared->Prop),Inv X pins Z H s->(∀b∈fp,FpOk X pins H b)->tn i s.heap->J.go i H->
  wpAny (model P w) X.A (pyNext (.ref it)) (λr s1=>∃u,r=some u/\
   wpAny (model P w) X.A (letOwnedTupleGo tg (.ref it) u) (λ_ s2=>∃x H',Inv X pins Z H' s2/\RelV x u/\J.yld i H x H'/\tn (i + 1) s2.heap/\∀b∈fp,H' b=none) E s1) E s
 done:∀(X:Cx),X.prog=P->X.w=w->X.K=K->X.calm=true->∀(i:Nat) (pins:List (Addr×Obj)) (s:Shared) (Z:St) (H:Hp) (E:Value->Shared->Prop),Inv X pins Z H s->(∀b∈fp,FpOk X pins H b)->tn i s.heap->J.stop i H->
  wpAny (model P w) X.A (pyNext (.ref it)) (λr s1=>r=none/\Inv X pins Z H s1) E s
 self:∀(A:Around) (i:Nat) (s:Shared) (Q:Value->Shared->Prop) (E:Value->Shared->Prop),tn i s.heap->Q (.ref it) s->wpAny (model P w) A (pyIter (.ref it)) Q E s
abbrev TI:=St->Hp->(It->Hp->Prop)->Prop
def PIE (X:Cx)(pins:List (Addr×Obj))(Z:St)(tg:Expr)(R:It->Hp->Prop)(itv:Value)(s2:Shared):Prop:=
 ∃(it:Addr) (fp:List Addr) (tn:Nat->Heap->Prop) (J:It) (H':Hp),itv = .ref it/\Inv X pins Z H' s2/\Turn X.prog X.w X.K tg J fp it tn/\tn 0 s2.heap/\(∀b∈fp,FpOk X pins H' b)/\R J H'
def PI (X:Cx)(tg iter:Expr)(wi:TI):Prop:=
 ∀(pins:List (Addr×Obj)) (s:Shared) (Z:St) (H:Hp) (R:It->Hp->Prop),Inv X pins Z H s->wi Z H R->
  wpAny (model X.prog X.w) X.A (eval iter X.env) (λv s1=>wpAny (model X.prog X.w) X.A (pyIter v) (PIE X pins Z tg R) X.xe s1) X.xe s
theorem JJ {M:Model}{A:Around}{it:Addr}{o:Obj}{n:String}{vs:Array Value}(ho:s.heap.get? it=some o)(hc:o.cls = .type n)(hd:o.data = .fields vs)
 (hn:["enumerate", "zip", "dict_itemiterator", "dict_reverseitemiterator", "odict_iterator", "itertools.zip_longest", "itertools.pairwise"].contains n=false) (hQ:Q () s):wpAny M A (letOwnedTupleGo tg (.ref it) u) Q E s:=by
 unfold letOwnedTupleGo
 cases tg <;> first
  | exact wpAny_pure hQ
  | (cases u <;> first
      | exact wpAny_pure hQ
      | (refine wpAny_bind (wpAny_load ho ?_)
         rw [hc,hd];show wpAny M A (if (["enumerate", "zip", "dict_itemiterator", "dict_reverseitemiterator", "odict_iterator", "itertools.zip_longest", "itertools.pairwise"].contains n && vs[0]? == some (rawInt _))=true then _ else _) Q E s;rw [if_neg (by intro h;rw [hn,Bool.false_and] at h;cases h)]
         exact wpAny_pure hQ))
def Itl (K:PySem.W.Frag)(a:Addr):It:=
 ⟨λi H=>∃xs x,SqL K H a xs/\xs[i]?=some x,λi H x H'=>H'=H/\∀xs,SqL K H a xs->xs[i]?=some x,λi H=>∃xs,SqL K H a xs/\xs.length<=i⟩
def Itt (K:PySem.W.Frag)(a:Addr):It:=
 ⟨λi H=>∃xs x,SqT K H a xs/\xs[i]?=some x,λi H x H'=>H'=H/\∀xs,SqT K H a xs->xs[i]?=some x,λi H=>∃xs,SqT K H a xs/\xs.length<=i⟩
noncomputable def Itr (lo:Int)(n:Nat):It:=⟨λi _=>i < n,λi H x H'=>H'=H/\x = .int (lo + i),λi _=>n<=i⟩
theorem NQ (a it:Addr):Turn P w K tg (Itl K a) [it] it (λi h=>h.IsListIter it a i) where
 mem:=by simp
 obj:=λi h st b hb=>by
  have e:b=it:=by simpa using hb
  subst e;obtain ⟨o,e,c,d⟩:=st;exact ⟨o,e,λv z=>by rw [d] at z;cases z⟩
 keep:=λi h h' st k=>st.at λo e=>k it (by simp) o e
 item:=by
  intro X hP hw hK hc i pins s Z H E I hf st hg;subst hP hw hK;obtain ⟨xs,x,hq,hx⟩:=hg;obtain ⟨its,rv,p,hz⟩:=I.list hq;obtain ⟨u,hu,ru⟩:=rv.get hx;obtain ⟨f0,f1,f2,f3,f4,f5⟩:=hf it (by simp);refine wpAny_pyNext_list_item st p.isList (x:=u) (by simpa using hu) λh' st' sb=>?_;have I1:Inv X pins Z H { s with heap:=h' }:=I.turned (t':=s.toks) (λb o hb e=>(sb.2 b hb).trans e) f0 f1 f3 f4 f5;obtain ⟨o,e,c,d⟩:=id st';exact ⟨u,rfl,JJ (s:={ s with heap:=h' }) e c d (by decide) ⟨x,H,I1,ru,⟨rfl,λys hy=>by rw [I.list_inj hy hq];exact hx⟩,st',λb hb=>(hf b hb).1⟩⟩
 done:=by
  intro X hP hw hK hc i pins s Z H E I hf st hg;subst hP hw hK;obtain ⟨xs,hq,hx⟩:=hg;obtain ⟨its,rv,p,hz⟩:=I.list hq;obtain ⟨f0,f1,f2,f3,f4,f5⟩:=hf it (by simp);have hl:=rv.length;exact wpAny_pyNext_list_end (I.ok.hd hc) st p.isList (by simp;lia) λh' eb=>⟨rfl,I.turned (t':=s.toks) (λb o hb e=>eb b o hb e) f0 f1 f3 f4 f5⟩
 self:=λ_ _ _ _ _ st h=>wpAny_pyIter_listiter st h
theorem MM (a it:Addr):Turn P w K tg (Itt K a) [it] it (λi h=>h.IsTupleIter it a i) where
 mem:=by simp
 obj:=λi h st b hb=>by
  have e:b=it:=by simpa using hb
  subst e;obtain ⟨o,e,c,d⟩:=st;exact ⟨o,e,λv z=>by rw [d] at z;cases z⟩
 keep:=λi h h' st k=>st.at λo e=>k it (by simp) o e
 item:=by
  intro X hP hw hK hc i pins s Z H E I hf st hg;subst hP hw hK;obtain ⟨xs,x,hq,hx⟩:=hg;obtain ⟨its,rv,p,hz⟩:=I.tuple hq;obtain ⟨u,hu,ru⟩:=rv.get hx;obtain ⟨f0,f1,f2,f3,f4,f5⟩:=hf it (by simp);refine wpAny_pyNext_tuple_item st (show s.heap.IsTuple a its.toArray from p) (x:=u) (by simpa using hu) λh' st' sb=>?_;have I1:Inv X pins Z H { s with heap:=h' }:=I.turned (t':=s.toks) (λb o hb e=>(sb.2 b hb).trans e) f0 f1 f3 f4 f5;obtain ⟨o,e,c,d⟩:=id st';exact ⟨u,rfl,JJ (s:={ s with heap:=h' }) e c d (by decide) ⟨x,H,I1,ru,⟨rfl,λys hy=>by rw [I.tuple_inj hy hq];exact hx⟩,st',λb hb=>(hf b hb).1⟩⟩
 done:=by
  intro X hP hw hK hc i pins s Z H E I hf st hg;subst hP hw hK;obtain ⟨xs,hq,hx⟩:=hg;obtain ⟨its,rv,p,hz⟩:=I.tuple hq;obtain ⟨f0,f1,f2,f3,f4,f5⟩:=hf it (by simp);have hl:=rv.length;exact wpAny_pyNext_tuple_end (I.ok.hd hc) st (show s.heap.IsTuple a its.toArray from p) (by simp;lia) λh' eb=>⟨rfl,I.turned (t':=s.toks) (λb o hb e=>eb b o hb e) f0 f1 f3 f4 f5⟩
 self:=λ_ _ _ _ _ st h=>wpAny_pyIter_tupleiter st h
theorem ML (it:Addr)(lo:Int)(n:Nat):Turn P w K tg (Itr lo n) [it] it (λi h=>IsRangeIter h it (lo + (i:Nat) * 1) ((n:Int) - (i:Nat)) 1) where
 mem:=by simp
 obj:=λi h st b hb=>by
  have e:b=it:=by simpa using hb
  subst e;exact ⟨_,st,λv z=>by
   have z':Data.fields _=Data.cell v:=z
   cases z'⟩
 keep:=λi h h' st k=>k it (by simp) _ st
 item:=by
  intro X hP hw hK hc i pins s Z H E I hf st hg;subst hP hw hK;obtain ⟨f0,f1,f2,f3,f4,f5⟩:=hf it (by simp);have W:=Walks.range (prog:=X.prog) (w:=X.w) (I.ok.hd hc) it lo 1 n;refine W.item i s _ _ hg st λv h' tk hv st' kk=>?_;obtain ⟨t,rfl⟩:=hv;have I1:Inv X pins Z H { s with heap:=h',toks:=tk }:=I.turned (λb o hb e=>kk b o (by simpa using hb) e) f0 f1 f3 f4 f5;refine ⟨_,rfl,JJ (s:={ s with heap:=h',toks:=tk }) (n:="range_iterator") st' rfl rfl (by decide) ⟨.int (lo + i),H,I1,⟨t,?_⟩,⟨rfl,rfl⟩,st',λb hb=>(hf b hb).1⟩⟩;rw [Int.mul_one]
 done:=by
  intro X hP hw hK hc i pins s Z H E I hf st hg;subst hP hw hK;obtain ⟨f0,f1,f2,f3,f4,f5⟩:=hf it (by simp);exact wpAny_pyNext_range_end (I.ok.hd hc) st (by have:n<=i:=hg;lia) λh' eb=>⟨rfl,I.turned (t':=s.toks) (λb o hb e=>eb b o hb e) f0 f1 f3 f4 f5⟩
 self:=λ_ _ _ _ _ st h=>wpAny_pyIter_rangeiter st h
variable {fp:List Addr}
section
variable {X:Cx}{tg:Expr}
theorem OM {R:It->Hp->Prop}{lo hi:Int}{t u v:Tok}{tk:Nat}(I:Inv X pins Z H s)(h1 : -(2 ^ 62)<=lo)(h2:lo < 2 ^ 62)(h3 : -(2 ^ 62)<=hi)(h4:hi < 2 ^ 62)
 (q:R (Itr lo (hi - lo).toNat) H):wpAny (model X.prog X.w) X.A (pyIter (.ref s.heap.objs.size)) (PIE X pins Z tg R) E { s with heap:=s.heap.push { cls:=.type "range",data:=.fields #[.int lo t,.int hi u,.int 1 v] },toks:=tk }:=by
 refine wpAny_pyIter_range (IsRange.new ..) (small_one h1 h2 h3 h4) ?_;have I1:Inv X pins Z H { s with heap:=s.heap.push { cls:=.type "range",data:=.fields #[.int lo t,.int hi u,.int 1 v] },toks:=tk }:=I.kept λb o e=>Heap.get?_push_of_some _ e;refine ⟨(s.heap.push { cls:=.type "range",data:=.fields #[.int lo t,.int hi u,.int 1 v] }).objs.size,[(s.heap.push { cls:=.type "range",data:=.fields #[.int lo t,.int hi u,.int 1 v] }).objs.size],_,_,H,rfl,
  I1.kept (t':=tk) λb o e=>Heap.get?_push_of_some _ e,ML _ lo (hi - lo).toNat,?_,λb hb=>?_,q⟩
 ·have e1:lo + ((0:Nat):Int) * 1=lo:=by simp
  have e2:(((hi - lo).toNat:Nat):Int) - ((0:Nat):Int)=Builtin.Range.rangeSize lo hi 1:=by rw [rangeSize_one];split <;> lia
  show IsRangeIter _ _ (lo + ((0:Nat):Int) * 1) ((((hi - lo).toNat:Nat):Int) - ((0:Nat):Int)) 1;rw [e1,e2];exact Heap.get?_push_size _ rfl
 ·have e:b=(s.heap.push { cls:=.type "range",data:=.fields #[.int lo t,.int hi u,.int 1 v] }).objs.size:=by simpa using hb
  subst e;exact I1.fpOk (Nat.le_refl _) (I1.hok.fresh (Nat.le_refl _))
def To (ta:TA):TI:=λZ H R=>ta Z H λvs H1=>∃j:Int,vs=[.int j]/\-(2 ^ 62)<=j/\j < 2 ^ 62/\R (Itr 0 j.toNat) H1
theorem NB {a:Expr}{ta:TA}{p pos:Pos}(hg:Gl X "range")(hm:X.mg "range" = none)(ha:PA X [a] ta)(hs:starEach [a] X.env=[(false,eval a X.env)]:=by rfl):PI X tg (.Call (.Name "range" p) [a] [] pos) (To ta):=by
 intro pins s Z H R I h;refine Call_ (FW I hg hm boot_range (PyProof.Rows.callWith_type1 (thn (ha pos pins s Z H _ I h) λus s1 z9=>?_) hs rfl));obtain ⟨vs,H1,I1,r1,q1⟩:=z9;obtain ⟨j,e,q1,q2,q⟩:=q1;subst e
 cases r1 with
 | cons r rr=>
   cases rr
   obtain ⟨t,rfl⟩:=r;exact call_range_1 (OM I1 (by lia) (by lia) q1 q2 (by simpa using q))
def SN (wi:TI)(g:TG)(tb:TS):TS:=λD Z H=>wi Z H λJ H1=>∃W:Nat->Nat->St->Hp->Prop,(∃m,W 0 m Z H1)/\∀i m Z H,W i m Z H->
 (J.stop i H/\D.nx Z H)\/(J.go i H/\∃N:St->Hp->Prop,(∀Z' H',N Z' H'->∃m',m' < m/\W (i + 1) m' Z' H')/\∀x H',J.yld i H x H'->g x Z H' λZ2 H2=>tb { D with nx:=N,ct:=N,bk:=D.nx } Z2 H2)
noncomputable def F6 (fp:List Addr)(h:Heap):List (Addr×Obj):=fp.filterMap λb=>(h.get? b).map λo=>(b,o)
theorem Em {o:Obj}(hb:b∈fp)(e:h.get? b=some o):(b,o)∈F6 fp h:=List.mem_filterMap.mpr ⟨b,hb,by rw [e];rfl⟩
theorem Nx {p:Addr×Obj}(hp:p∈F6 fp h):p.1∈fp/\h.get? p.1=some p.2:=by
 obtain ⟨b,hb,e⟩:=List.mem_filterMap.mp hp
 cases q:h.get? b with
 | none=>rw [q] at e;cases e
 | some o=>
   rw [q] at e;have e':(b,o)=p:=Option.some.inj e;subst e';exact ⟨hb,q⟩
theorem Inv.pinned (I:Inv X pins Z H s)(hf:∀b∈fp,FpOk X pins H b)(ho:∀b∈fp,∃o,s.heap.get? b=some o/\∀v,o.data≠.cell v):Inv X (pins++F6 fp s.heap) Z H s:=
 I.pins_of λp hp=>(List.mem_append.mp hp).elim (λz=>I.pin p (List.mem_append_right _ z)) λz=>by
  obtain ⟨hb,e⟩:=Nx z;obtain ⟨f0,f1,f2,_⟩:=hf p.1 hb;obtain ⟨o,e',d⟩:=ho p.1 hb;rw [e] at e';cases e'
  exact ⟨e,f0,f1,f2,d⟩
theorem Inv.unpinned {pl:List (Addr×Obj)}(I:Inv X (pins++pl) Z H s):Inv X pins Z H s:=I.pins_of λp hp=>I.pin p (List.mem_append_right _ (List.mem_append_left _ hp))
theorem Sb {iter:Expr}{body:List Stmt}{wi:TI}{g:TG}{tb:TS}{pos:Pos}(hp:PassesOwn (model X.prog X.w) X.A X.env X.xe)(hc:X.calm=true)(hi:PI X tg iter wi)(hg:PG X tg g)(hb:PSs X body tb)
 (hs:∀x,foldedSetIterable iter X.env x=pure x:=by intro _;rfl):PS X (.For tg iter body [] pos) (SN wi g tb):=by
 intro pins s Z H D I h;refine wpAny_For (thn (hi pins s Z H _ I h) λv s1 h1=>thn h1 λitv s2 h2=>?_) hs;obtain ⟨it,fp,tn,J,H2,e,I2,T,st2,f2,W,⟨m0,w0⟩,turn⟩:=h2;subst e
 -- what stays true of the iterator's objects through the loop
 have stat:∀{H':Hp},(∀b∈fp,H' b=none)->∀b∈fp,FpOk X pins H' b:=λhn b hb=>⟨hn b hb,(f2 b hb).2⟩;refine codeAny_forLoop_any (λn s'=>∃i Z' H',Inv X pins Z' H' s'/\tn i s'.heap/\(∀b∈fp,H' b=none)/\W i n Z' H') ?_ m0 ⟨0,Z,H2,I2,st2,λb hb=>(f2 b hb).1,w0⟩;rintro n s3 ⟨i,Z3,H3,I3,st3,fr3,w3⟩;rcases turn i n Z3 H3 w3 with ⟨stop,qn⟩ | ⟨go,N,hN,step⟩
 ·refine wpAny_passesOwn hp (thn (T.done X rfl rfl rfl hc i pins s3 Z3 H3 X.xe I3 (stat fr3) st3 stop) λr s4 z9=>?_);obtain ⟨hr,I4⟩:=z9;subst hr;exact wpAny_execs_nil ⟨Z3,H3,I4,qn⟩
 ·refine wpAny_passesOwn hp (thn (T.item X rfl rfl rfl hc i pins s3 Z3 H3 X.xe I3 (stat fr3) st3 go) λr s4 z9=>?_);obtain ⟨u,hr,h4⟩:=z9;subst hr;refine wpAny_passesOwn hp (thn h4 λ_ s5 z9=>?_);obtain ⟨x,H5,I5,r5,y5,st5,fr5⟩:=z9;have I5':=I5.pinned (stat fr5) (T.obj _ _ st5);refine wpAny_passesOwn hp (thn (hg _ s5 Z3 H5 x u _ I5' r5 (step x H5 y5)) λ_ s6 z9=>?_);obtain ⟨Z6,H6,I6,q6⟩:=z9;refine wpAny_passesOwn hp (thn (hb _ s6 Z6 H6 _ I6 q6) λf s7 q7=>?_);have again:∀{Z7:St} {H7:Hp},Inv X (pins++F6 fp s5.heap) Z7 H7 s7->N Z7 H7->∃m,m < n/\∃i Z' H',Inv X pins Z' H' s7/\tn i s7.heap/\(∀b∈fp,H' b=none)/\W i m Z' H':=λ{Z7 H7} I7 n7=>by
   obtain ⟨m',hm,w7⟩:=hN Z7 H7 n7;refine ⟨m',hm,i + 1,Z7,H7,I7.unpinned,T.keep _ _ _ st5 λb hb o e=>(I7.pin (b,o) (List.mem_append_right _ (List.mem_append_right _ (Em hb e)))).1,λb hb=>?_,w7⟩;obtain ⟨o,e,d⟩:=T.obj _ _ st5 b hb;exact (I7.pin (b,o) (List.mem_append_right _ (List.mem_append_right _ (Em hb e)))).2.1
  cases f with
  | next=>obtain ⟨Z7,H7,I7,n7⟩:=q7;exact again I7 n7
  | cont=>obtain ⟨Z7,H7,I7,n7⟩:=q7;exact again I7 n7
  | brk=>obtain ⟨Z7,H7,I7,q7⟩:=q7;exact ⟨Z7,H7,I7.unpinned,q7⟩
  | ret v=>obtain ⟨x7,Z7,H7,I7,r7,q7⟩:=q7;exact ⟨x7,Z7,H7,I7.unpinned,r7,q7⟩
end
abbrev R2:=V->V->Hp->VK->Prop
def OpR (X:Cx)(f:Value->Value->Sem Value)(r:R2):Prop:=
 ∀(pins:List (Addr×Obj)) (s:Shared) (Z:St) (H:Hp) (x y:V) (v u:Value) (Q:VK),Inv X pins Z H s->RelV x v->RelV y u->r x y H Q->
  wpAny (model X.prog X.w) X.A (f v u) (EP X pins Z Q) X.xe s
def UnR (X:Cx)(f:Value->Sem Value)(r:V->Hp->VK->Prop):Prop:=
 ∀(pins:List (Addr×Obj)) (s:Shared) (Z:St) (H:Hp) (x:V) (v:Value) (Q:VK),Inv X pins Z H s->RelV x v->r x H Q->
  wpAny (model X.prog X.w) X.A (f v) (EP X pins Z Q) X.xe s
def BR (X:Cx)(f:Value)(r:List V->Hp->VK->Prop):Prop:=
 ∀(pins:List (Addr×Obj)) (s:Shared) (Z:St) (H:Hp) (xs:List V) (us:List Value) (Q:VK),Inv X pins Z H s->Vals xs us->r xs H Q->
  wpAny (model X.prog X.w) X.A (call f us) (EP X pins Z Q) X.xe s
def tOp (r:R2)(ta tb:TE):TE:=λZ H Q=>ta Z H λx H1=>tb Z H1 λy H2=>r x y H2 Q
def tUn (r:V->Hp->VK->Prop)(ta:TE):TE:=λZ H Q=>ta Z H λx H1=>r x H1 Q
def rI (C:Int->Int->Prop)(g:Int->Int->V):R2:=λx y H Q=>∃i j,x = .int i/\y = .int j/\C i j/\Q (g i j) H
def rI0 (g:Int->Int->V):R2:=λx y H Q=>∃i j,x = .int i/\y = .int j/\Q (g i j) H
def rU (g:Int->V):V->Hp->VK->Prop:=λx H Q=>∃i,x = .int i/\Q (g i) H
variable {r:R2}{f:Value->Value->Sem Value}
section
variable {X:Cx}{a b c:Expr}{ta tb tc:TE}{pos:Pos}
theorem N2 (ha:PE X a ta)(hb:PE X b tb){pins:List (Addr×Obj)}{s:Shared}{Z:St}{H:Hp}{R:V->V->Hp->Prop}(I:Inv X pins Z H s)
 (h:ta Z H λx H1=>tb Z H1 λy H2=>R x y H2) {Q:Value->Shared->Prop} {f:Value->Value->Sem Value}
 (hf:∀v u s2 x y H2,Inv X pins Z H2 s2->RelV x v->RelV y u->R x y H2->wpAny (model X.prog X.w) X.A (f v u) Q X.xe s2) :
 wpAny (model X.prog X.w) X.A (eval a X.env) (λv s₁=>wpAny (model X.prog X.w) X.A (eval b X.env) (λu s₂=>wpAny (model X.prog X.w) X.A (f v u) Q X.xe s₂) X.xe s₁) X.xe s:=by
 refine thn (ha pins s Z H _ I h) λv s1 z9=>?_;obtain ⟨x,H1,I1,r1,q1⟩:=z9;refine thn (hb pins s1 Z H1 _ I1 q1) λu s2 z9=>?_;obtain ⟨y,H2,I2,r2,q2⟩:=z9;exact hf v u s2 x y H2 I2 r1 r2 q2
theorem MA {op:Operator}(ho:OpR X (binaryOp op) r)(ha:PE X a ta)(hb:PE X b tb):PE X (.BinOp a op b pos) (tOp r ta tb):=by
 intro pins s Z H Q I h;exact wpAny_BinOp (N2 ha hb I h λv u s2 x y H2 I2 rx ry q=>ho pins s2 Z H2 x y v u Q I2 rx ry q)
theorem Tv {op:UnaryOp}{r:V->Hp->VK->Prop}(ho:UnR X (unaryOp op) r)(ha:PE X a ta):PE X (.UnaryOp op a pos) (tUn r ta):=by
 intro pins s Z H Q I h;exact UnaryOp_ (thn (ha pins s Z H _ I h) λv s1 z9=>by obtain ⟨x,H1,I1,r1,q1⟩:=z9;exact ho pins s1 Z H1 x v Q I1 r1 q1)
theorem opI {C:Int->Int->Prop}{g:Int->Int->Int}
 (rule:∀(i j:Int) (t u:Tok) (s:Shared) (Q:Value->Shared->Prop) (E:Value->Shared->Prop),C i j->Q (.int (g i j) s.toks) { s with toks:=s.toks + 1 }->wpAny (model X.prog X.w) X.A (f (.int i t) (.int j u)) Q E s) :
 OpR X f (rI C λi j=>.int (g i j)):=by
 intro pins s Z H x y v u Q I rx ry h;obtain ⟨i,j,rfl,rfl,hc,q⟩:=h;obtain ⟨t,rfl⟩:=rx;obtain ⟨t',rfl⟩:=ry;exact rule i j t t' s _ _ hc ⟨.int (g i j),H,I.tok _,⟨_,rfl⟩,q⟩
theorem RU {g:Int->Int->Int}
 (rule:∀(i j:Int) (t u:Tok) (s:Shared) (Q:Value->Shared->Prop) (E:Value->Shared->Prop),Q (.int (g i j) s.toks) { s with toks:=s.toks + 1 }->wpAny (model X.prog X.w) X.A (f (.int i t) (.int j u)) Q E s) :
 OpR X f (rI0 λi j=>.int (g i j)):=by
 intro pins s Z H x y v u Q I rx ry h;obtain ⟨i,j,rfl,rfl,q⟩:=h;obtain ⟨t,rfl⟩:=rx;obtain ⟨t',rfl⟩:=ry;exact rule i j t t' s _ _ ⟨.int (g i j),H,I.tok _,⟨_,rfl⟩,q⟩
theorem My {g:Int->Int->Bool}
 (rule:∀(i j:Int) (t u:Tok) (s:Shared) (Q:Value->Shared->Prop) (E:Value->Shared->Prop),Q (.bool (g i j)) s->wpAny (model X.prog X.w) X.A (f (.int i t) (.int j u)) Q E s) :
 OpR X f (rI0 λi j=>.bl (g i j)):=by
 intro pins s Z H x y v u Q I rx ry h;obtain ⟨i,j,rfl,rfl,q⟩:=h;obtain ⟨t,rfl⟩:=rx;obtain ⟨t',rfl⟩:=ry;exact rule i j t t' s _ _ ⟨.bl (g i j),H,I,rfl,q⟩
def Q8 (i j:Int):Prop:=0 < j/\j < 1073741824
def Q9 (i j:Int):Prop:=0<=j/\j<=1000000/\i.natAbs < 2 ^ 64
def CMul (i j:Int):Prop:=(-(2 ^ 64) < i/\i < 2 ^ 64)\/(-(2 ^ 64) < j/\j < 2 ^ 64)
theorem CMul.ok {i j:Int}(h:CMul i j):IntMulOk i j:=by
 rcases h with ⟨h1,h2⟩ | ⟨h1,h2⟩
 ·exact .of_left (intBits_le_64 h1 h2)
 ·exact .of_right (intBits_le_64 h1 h2)
theorem two_pow_nn (k:Nat):(0:Int)<=2 ^ k:=by
 rw [two_pow_cast];exact Int.natCast_nonneg _
theorem op_add:OpR X (binaryOp .Add) (rI0 λi j=>.int (i + j)):=RU λ_ _ _ _ _ _ _ q=>add_int q
theorem BE:OpR X (binaryOp .Sub) (rI0 λi j=>.int (i - j)):=RU λ_ _ _ _ _ _ _ q=>sub_int q
theorem op_mul:OpR X (binaryOp .Mult) (rI CMul λi j=>.int (i * j)):=opI λ_ _ _ _ _ _ _ hc q=>mul_int q hc.ok
theorem C9:OpR X (binaryOp .FloorDiv) (rI Q8 λi j=>.int (i / j)):=opI λi j _ _ _ _ _ hc q=>by
 have h1:(0:Int) < j:=hc.1;have h2:j < 1073741824:=hc.2;exact floordiv_int (by lia) (by rw [Int.fdiv_eq_ediv_of_nonneg i (by lia)];exact q) (.inl (PyProof.noPylong_small (by lia)))
theorem C4:OpR X (binaryOp .Mod) (rI (λ_ j=>0 < j) λi j=>.int (i % j)):=opI λi j _ _ _ _ _ hc q=>by
 have h1:(0:Int) < j:=hc;exact mod_int' (by lia) (by rw [Int.fmod_eq_emod_of_nonneg i (by lia)];exact q)
theorem Cw:OpR X (binaryOp .Pow) (rI Q9 λi j=>.int (i ^ j.toNat)):=opI λ_ _ _ _ _ _ _ hc q=>pow_int_small hc.1 hc.2.1 hc.2.2 q
theorem RY:OpR X (binaryOp .RShift) (rI (λ_ j=>0<=j) λi j=>.int (i / 2 ^ j.toNat)):=opI λi j _ _ _ _ _ hc q=>
 rshift_int hc (by rw [Int.fdiv_eq_ediv_of_nonneg i (two_pow_nn _)];exact q)
theorem unI {f:Value->Sem Value}{g:Int->Int}
 (rule:∀(i:Int) (t:Tok) (s:Shared) (Q:Value->Shared->Prop) (E:Value->Shared->Prop),Q (.int (g i) s.toks) { s with toks:=s.toks + 1 }->wpAny (model X.prog X.w) X.A (f (.int i t)) Q E s) :
 UnR X f (rU λi=>.int (g i)):=by
 intro pins s Z H x v Q I rx h;obtain ⟨i,rfl,q⟩:=h;obtain ⟨t,rfl⟩:=rx;exact rule i t s _ _ ⟨.int (g i),H,I.tok _,⟨_,rfl⟩,q⟩
theorem SS:UnR X (unaryOp .USub) (rU λi=>.int (-i)):=unI λ_ _ _ _ _ q=>neg_int q
end
variable {r':R2}{op:CmpOp}{us:List Value}
section
variable {X:Cx}{a b c:Expr}{ta tb tc:TE}{pos:Pos}
theorem op_lt:OpR X (compareOp .Lt) (rI0 λi j=>.bl (decide (i < j))):=My λ_ _ _ _ _ _ _ q=>lt_int q
theorem op_le:OpR X (compareOp .LtE) (rI0 λi j=>.bl (decide (i<=j))):=My λ_ _ _ _ _ _ _ q=>le_int q
theorem op_gt:OpR X (compareOp .Gt) (rI0 λi j=>.bl (decide (j < i))):=My λ_ _ _ _ _ _ _ q=>gt_int q
theorem op_ge:OpR X (compareOp .GtE) (rI0 λi j=>.bl (decide (j<=i))):=My λ_ _ _ _ _ _ _ q=>ge_int q
theorem OpR.or (h:OpR X f r)(h':OpR X f r'):OpR X f (λx y H Q=>r x y H Q\/r' x y H Q):=by
 intro pins s Z H x y v u Q I rx ry q;rcases q with q | q
 ·exact h pins s Z H x y v u Q I rx ry q
 ·exact h' pins s Z H x y v u Q I rx ry q
theorem AV (b:Expr){op:CmpOp}(h:op≠.In:=by decide)(h2:op≠.NotIn:=by decide):behindInMarks op b=false:=by
 have e1:(op == CmpOp.In)=false:=by cases op <;> first | rfl | exact absurd rfl h
 have e2:(op == CmpOp.NotIn)=false:=by cases op <;> first | rfl | exact absurd rfl h2
 cases b <;> simp [behindInMarks,e1,e2]
theorem Qt (ho:OpR X (compareOp op) r)(ha:PE X a ta)(hb:PE X b tb)(hm:behindInMarks op b=false):PE X (.Compare a [op] [b] pos) (tOp r ta tb):=by
 intro pins s Z H Q I h;exact wpAny_Compare1 (N2 ha hb I h λv u s2 x y H2 I2 rx ry q=>ho pins s2 Z H2 x y v u Q I2 rx ry q) hm
def Pz (t:TE):TT:=λZ H Q=>t Z H λx H'=>∃k,x = .bl k/\Q k H'
theorem QD (ho:OpR X (compareOp op) r)(ha:PE X a ta)(hb:PE X b tb)(hm:behindInMarks op b=false):PT X (.Compare a [op] [b] pos) (Pz (tOp r ta tb)):=by
 intro pins s Z H Q I h;refine wpAny_isTrue_Compare1 (thn (ha pins s Z H _ I h) λv s1 ⟨x,H1,I1,r1,q1⟩=>thn (hb pins s1 Z H1 _ I1 q1) λu s2 ⟨y,H2,I2,r2,q2⟩=>
  thn (ho pins s2 Z H2 x y v u _ I2 r1 r2 q2) λc s3 ⟨z,H3,I3,r3,k,e,q3⟩=>?_) hm
 subst e
 cases r3
 exact wpAny_truthy_bool ⟨H3,I3,q3⟩
def K7 (r r':R2)(ta tb tc:TE):TE:=λZ H Q=>ta Z H λx H1=>tb Z H1 λy H2=>r x y H2 λz H3=>∃k,z = .bl k/\
 (if k=true then tc Z H3 λw' H4=>r' y w' H4 Q else Q (.bl false) H3)
theorem OA {op':CmpOp}(ho:OpR X (compareOp op) r)(ho':OpR X (compareOp op') r')(ha:PE X a ta)(hb:PE X b tb)(hc:PE X c tc)
 (hm:lastMarks [op,op'] [b,c]=false:=by with_unfolding_all rfl):PE X (.Compare a [op,op'] [b,c] pos) (K7 r r' ta tb tc):=by
 intro pins s Z H Q I h;refine Compare_chain (thn (ha pins s Z H _ I h) λv s1 ⟨x,H1,I1,r1,q1⟩=>chain_link (thn (hb pins s1 Z H1 _ I1 q1) λu s2 ⟨y,H2,I2,r2,q2⟩=>
  thn (ho pins s2 Z H2 x y v u _ I2 r1 r2 q2) λd s3 ⟨z,H3,I3,r3,k,e,q3⟩=>?_)) hm
 subst e
 cases r3
 refine wpAny_truthy_bool ?_
 cases k with
 | false=>exact ite_ff ⟨.bl false,H3,I3,rfl,q3⟩
 | true=>exact ite_tt (chain_last (thn (hc pins s3 Z H3 _ I3 q3) λw' s4 z9=>by obtain ⟨z',H4,I4,r4,q4⟩:=z9;exact ho' pins s4 Z H4 y z' u w' Q I4 r2 r4 q4))
theorem OG {op':CmpOp}(ho:OpR X (compareOp op) r)(ho':OpR X (compareOp op') r')(ha:PE X a ta)(hb:PE X b tb)(hc:PE X c tc)
 (hm:lastMarks [op,op'] [b,c]=false:=by with_unfolding_all rfl):PT X (.Compare a [op,op'] [b,c] pos) (Pz (K7 r r' ta tb tc)):=by
 intro pins s Z H Q I h;refine isTrue_chain (thn (ha pins s Z H _ I h) λv s1 ⟨x,H1,I1,r1,q1⟩=>test_link (thn (hb pins s1 Z H1 _ I1 q1) λu s2 ⟨y,H2,I2,r2,q2⟩=>
  thn (ho pins s2 Z H2 x y v u _ I2 r1 r2 q2) λd s3 ⟨z,H3,I3,r3,k,e,q3⟩=>?_)) hm
 subst e
 cases r3
 refine wpAny_truthy_bool ?_
 cases k with
 | false=>
   obtain ⟨k',e',q'⟩:=q3
   cases e'
   exact ite_ff ⟨H3,I3,q'⟩
 | true=>
   refine ite_tt (test_last (thn (hc pins s3 Z H3 _ I3 q3) λw' s4 ⟨z',H4,I4,r4,q4⟩=>thn (ho' pins s4 Z H4 y z' u w' _ I4 r2 r4 q4) λd' s5 z9=>?_));obtain ⟨z2,H5,I5,r5,k2,e2,q5⟩:=z9;subst e2
   cases r5
   exact wpAny_truthy_bool ⟨H5,I5,q5⟩
theorem FZ:(sizeLine:Nat) < 2 ^ 63:=by rw [sizeLine_eq];decide
theorem op_add_str:OpR X (binaryOp .Add) (λx y H Q=>∃i j,x = .str i/\y = .str j/\i.length + j.length<=sizeLine/\Q (.str (i++j)) H):=by
 intro pins s Z H x y v u Q I rx ry h;obtain ⟨i,j,rfl,rfl,hz,q⟩:=h;obtain ⟨t,rfl⟩:=rx;obtain ⟨t',rfl⟩:=ry;exact add_str (λt' tk=>⟨.str (i++j),H,I.tok _,⟨_,rfl⟩,q⟩) hz
theorem Eo {x:V}(r:Vals [x] us):∃u,us=[u]/\RelV x u:=by
 cases r with
 | cons r1 r2=>cases r2;exact ⟨_,rfl,r1⟩
theorem GA {x y:V}(r:Vals [x,y] us):∃u w',us=[u,w']/\RelV x u/\RelV y w':=by
 cases r with
 | cons r1 r2=>
   cases r2 with
   | cons r3 r4=>cases r4;exact ⟨_,_,rfl,r1,r3⟩
theorem J8:BR X (.builtin "abs") (λxs H Q=>∃i,xs=[.int i]/\Q (.int (if i < 0 then -i else i)) H):=by
 intro pins s Z H xs us Q I r h;obtain ⟨i,rfl,q⟩:=h;obtain ⟨u,rfl,t,rfl⟩:=Eo r;exact call_abs_int λu tk=>⟨.int (if i < 0 then -i else i),H,I.tok _,⟨_,rfl⟩,q⟩
theorem ER (hc:X.calm=true):BR X (.builtin "max") (λxs H Q=>∃i j,xs=[.int i,.int j]/\Q (.int (if j > i then j else i)) H):=by
 intro pins s Z H xs us Q I r h;obtain ⟨i,j,rfl,q⟩:=h;obtain ⟨u,w',rfl,⟨t,rfl⟩,⟨t',rfl⟩⟩:=GA r;refine max_two_ints (I.ok.hd hc) λh' tk k=>⟨_,H,I.kept k,?_,q⟩
 by_cases hj:j > i
 ·rw [if_pos hj,if_pos hj];exact ⟨_,rfl⟩
 ·rw [if_neg hj,if_neg hj];exact ⟨_,rfl⟩
theorem IR (hc:X.calm=true):BR X (.builtin "min") (λxs H Q=>∃i j,xs=[.int i,.int j]/\Q (.int (if j < i then j else i)) H):=by
 intro pins s Z H xs us Q I r h;obtain ⟨i,j,rfl,q⟩:=h;obtain ⟨u,w',rfl,⟨t,rfl⟩,⟨t',rfl⟩⟩:=GA r;refine min_two_ints (I.ok.hd hc) λh' tk k=>⟨_,H,I.kept k,?_,q⟩
 by_cases hj:j < i
 ·rw [if_pos hj,if_pos hj];exact ⟨_,rfl⟩
 ·rw [if_neg hj,if_neg hj];exact ⟨_,rfl⟩
theorem IP:BR X (.type "int") (λxs H Q=>(∃i,xs=[.int i]/\Q (.int i) H)\/∃k,xs=[.bl k]/\Q (.int (if k then 1 else 0)) H):=by
 intro pins s Z H xs us Q I r h;rcases h with ⟨i,rfl,q⟩ | ⟨k,rfl,q⟩
 ·obtain ⟨u,rfl,t,rfl⟩:=Eo r;exact call_int_int ⟨.int i,H,I,⟨_,rfl⟩,q⟩
 ·obtain ⟨u,rfl,r1⟩:=Eo r
  cases r1
  exact call_int_bool ⟨.int (if k then 1 else 0),H,I.tok _,⟨_,rfl⟩,q⟩
theorem N4:BR X (.builtin "ord") (λxs H Q=>∃x,xs=[.str x]/\x.length=1/\Q (.int (x.cps.getD 0 0:Nat)) H):=by
 intro pins s Z H xs us Q I r h;obtain ⟨x,rfl,hz,q⟩:=h;obtain ⟨u,rfl,t,rfl⟩:=Eo r;exact ord_of_one hz ⟨.int _,H,I.tok _,⟨_,rfl⟩,q⟩
def Ra (K:PySem.W.Frag)(x:V)(H:Hp)(n:Nat):Prop:=
 match x with
 | .str y=>y.length<=sizeLine/\n=y.length
 | .byt y=>y.size<=sizeLine/\n=y.size
 | .ref p=>(∃xs,SqL K H p xs/\n=xs.length)\/∃xs,SqT K H p xs/\n=xs.length
 | _=>False
theorem Bk:BR X (.builtin "len") (λxs H Q=>∃x n,xs=[x]/\Ra X.K x H n/\Q (.int n) H):=by
 intro pins s Z H xs us Q I r h;obtain ⟨x,n,rfl,e,q⟩:=h;obtain ⟨u,rfl,rx⟩:=Eo r;have hl:=FZ;have hs:sizeLine=16777216:=sizeLine_eq
 cases x with
 | str y=>
   obtain ⟨t,rfl⟩:=rx;obtain ⟨hy,e'⟩:y.length<=sizeLine/\n=y.length:=e;subst e';exact len_str (by lia) ⟨.int _,H,I.tok _,⟨_,rfl⟩,q⟩
 | byt y=>
   obtain ⟨t,rfl⟩:=rx;obtain ⟨hy,e'⟩:y.size<=sizeLine/\n=y.size:=e;subst e';exact PySem.W.len_bytes (by lia) ⟨.int _,H,I.tok _,⟨_,rfl⟩,q⟩
 | ref p=>
   cases rx
   have e':(∃xs,SqL X.K H p xs/\n=xs.length)\/∃xs,SqT X.K H p xs/\n=xs.length:=e;rcases e' with ⟨xs,hx,e'⟩ | ⟨xs,hx,e'⟩
   ·subst e';obtain ⟨its,r',pl,hz⟩:=I.list hx;have hlen:=r'.length;exact Calls.call_len_list pl.isList (by simp only [List.size_toArray];lia) ⟨.int xs.length,H,I.tok _,⟨_,by simp only [List.size_toArray];rw [hlen]⟩,q⟩
   ·subst e';obtain ⟨its,r',pl,hz⟩:=I.tuple hx;have hlen:=r'.length;exact len_tuple pl (by simp only [List.size_toArray];lia) ⟨.int xs.length,H,I.tok _,⟨_,by simp only [List.size_toArray];rw [hlen]⟩,q⟩
 | _=>exact (show False from e).elim
end
structure ObjM (h:Heap)(x dx C:Addr)(mA:Str->Option Value):Prop where
 obj:h.get? x=some (PySem.W.instObj C dx)
 ns:h.Ns1 dx mA
 ne:dx≠x
theorem ET {dx:Addr}{mA:Str->Option Value}(n:h.Ns1 dx mA):∃od,h.get? dx=some od/\∀name,PySem.W.lookIn name od=some (mA name):=by
 obtain ⟨o,es,ep,ho,hd,hk,_,hm⟩:=n;refine ⟨o,ho,λname=>?_⟩;have e:=hm name;unfold nsFind findBy at e;rw [<-Array.find?_toList] at e;unfold PySem.W.lookIn;rw [hd];dsimp only
 split
 ·rename_i y q;rw [q] at e;exact congrArg some e
 ·rename_i q;rw [q] at e;have a:es.toList.any (·.refKey)=false:=by
   rw [List.any_eq_false];intro y hy;obtain ⟨z,t,hkey⟩:=hk y (Array.mem_toList_iff.mp hy);simp [DictEntry.refKey,hkey]
  have a':¬es.toList.any (·.refKey)=true:=by rw [a];exact Bool.false_ne_true
  rw [if_neg a'];exact congrArg some e
variable {C:Addr}
theorem ObjM.look {x dx:Addr}{mA:Str->Option Value}(I:ObjM h x dx C mA):∃od,PySem.W.InstAt h x (PySem.W.instObj C dx) C (some od)/\∀name,PySem.W.lookIn name od=some (mA name):=
 let ⟨od,ho,hl⟩:=ET I.ns
 ⟨od,⟨I.obj,rfl,rfl,ho⟩,hl⟩
section
variable {prog:Program}{w:World}{A:Around}{E:Value->Shared->Prop}{s:Shared}{K:PySem.W.Frag}{x dx C f:Addr}{mA:Str->Option Value}{name:Str}{v:Value}
end
theorem RelO.some_of {o:Option Value}(r:RelO (some v) o):∃u,o=some u/\RelV v u:=by
 cases o with
 | none=>exact (show False from r).elim
 | some u=>exact ⟨u,rfl,r⟩
theorem Ni (r:RelV v u):PySem.W.handedIn u=true:=by
 cases v with
 | non=>cases (show u=Value.none from r);rfl
 | bl b=>cases (show u=Value.bool b from r);rfl
 | int i=>obtain ⟨t,e⟩:=(show ∃t,u=Value.int i t from r);cases e;rfl
 | str x=>obtain ⟨t,e⟩:=(show ∃t,u=Value.str x t from r);cases e;rfl
 | byt b=>obtain ⟨t,e⟩:=(show ∃t,u=Value.bytes b t from r);cases e;rfl
 | flt b=>obtain ⟨t,e⟩:=(show ∃t,u=Value.float b t from r);cases e;rfl
 | ref a=>cases (show u=Value.ref a from r);rfl
 | ty n=>cases (show u=Value.type n from r);rfl
section
variable {P:Program}{w:World}{H H':Hp}{h h':Heap}{a C dx:Addr}{fs fs':List (Str×V)}
theorem Qa (hok:HOk P w H h)(e:H a=some (.ins C dx fs)):∃mA,ObjM h a dx C mA/\(∀f,RelO (fs.lookup f) (mA f))/\PySem.Within mA (fs.map (·.1))/\fs.length<=1000/\H dx=some (.own a):=by
 obtain ⟨d,z,ne,ob,mA,n,r,q⟩:=(show ObjOk P w H h a (.ins C dx fs) from hok a _ e);exact ⟨mA,⟨ob,n,ne⟩,r,q,z,d⟩
end
structure Cls (K:PySem.W.Frag)(C:Addr):Prop where
 pg:PySem.W.plainGet K C Str.empty=true
 hd:PySem.W.hasDictIn K C=true
 po:PySem.W.plainOver K C=true
 sa:PySem.W.findIn K (.ref C) "__setattr__" = some (some (.builtin "object.__setattr__"))
theorem Cls.get (c:Cls K C)(f:Str):PySem.W.plainGet K C f=true:=c.pg
structure Con (K:PySem.W.Frag)(C:Addr)(f:Str)(v:V)(u:Value):Prop where
 at_:PySem.W.findIn K (.ref C) f=some (some u)
 rel:RelV v u
 get:PySem.W.specialIn K u "__get__" = some none
 cp:PySem.W.copiedNames.contains f=false
structure Meth (K:PySem.W.Frag)(C:Addr)(m:Str)(f:Addr):Prop where
 at_:PySem.W.findIn K (.ref C) m=some (some (.ref f))
 fn:PySem.W.isFn K (.ref f)=true
 kp:PySem.W.keepIn K (.ref f)=true
section
variable {X:Cx}{pins:List (Addr×Obj)}{Z:St}{H:Hp}{s:Shared}{a C dx:Addr}{fs:List (Str×V)}{f:Str}{v:V}{A:Around}{E:Value->Shared->Prop}
theorem PP {prog:Program}{env:Env}{f:Str}{pos:Pos}{s:Shared}{Q:Value->Shared->Prop}(hb:attributeBase e f env (eval e env)=eval e env)
 (h:wpAny (model prog w) A (eval e env) (λo s₁=>wpAny (model prog w) A (getAttr o f true) Q E s₁) E s):wpAny (model prog w) A (eval (.Attribute e f pos) env) Q E s:=
 Attribute_any_ h (by rw [arm_eval_Attribute,hb])
end
section
variable {X:Cx}{o e value:Expr}{f:Str}{pos pos' tpos:Pos}{ta tv:TE}
end
section
variable {X:Cx}{pins:List (Addr×Obj)}{Z:St}{H:Hp}{s:Shared}{A:Around}{E:Value->Shared->Prop}{Q:Value->Shared->Prop}{c:Value}{b:Bool}
inductive TyOf (K:PySem.W.Frag)(H:Hp):V->Value->Prop where
 | non:TyOf K H .non (.type "NoneType")
 | bl (x:Bool):TyOf K H (.bl x) (.type "bool")
 | int (i:Int):TyOf K H (.int i) (.type "int")
 | str (x:Str):TyOf K H (.str x) (.type "str")
 | flt (x:UInt64):TyOf K H (.flt x) (.type "float")
 | lst {a:Addr} {xs:List V} (e:H a=some (.lst xs)):TyOf K H (.ref a) (.type "list")
 | frz {a:Addr} {o:Obj} {xs:List V} (e:H a=some (.frz o (.lst xs))):TyOf K H (.ref a) (.type "list")
 | tup {a:Addr} {xs:List V} (e:H a=some (.tup xs)):TyOf K H (.ref a) (.type "tuple")
 | dK {a:Addr} {kvs:List (Key×V)} (e:H a=some (.dK kvs)):TyOf K H (.ref a) (.type "dict")
 | dT {a:Addr} {kvs:List (List Key×V)} (e:H a=some (.dT kvs)):TyOf K H (.ref a) (.type "dict")
 | ins {a C dx:Addr} {fs:List (Str×V)} (e:H a=some (.ins C dx fs)) (cl:Cls K C) (ha:PySem.W.findIn K (.ref C) "__class__" = some (some (.builtin "object.__class__")))
    (hn:PySem.W.specialIn K (.builtin "object.__class__") "__get__" = some (some (.builtin "getset_descriptor.__get__"))) (htk:PySem.W.takesIn K (.builtin "object.__class__")=some true)
    (hm:PySem.W.mroIn K C (.type "object")=some true):TyOf K H (.ref a) (.ref C)
theorem Ja {x:V}{t:Value}(I:Inv X pins Z H s)(rx:RelV x u)(ty:TyOf X.K H x t)(e:PySem.W.kitOne X.K t c=some b)(h:∀tk,Q (.bool b) { s with toks:=tk }) :
 wpAny (model X.prog X.w) A (call (.builtin "isinstance") [u,c]) Q E s:=by
 cases ty with
 | non=>cases (show u=Value.none from rx);exact PySem.W.kia_one PySem.W.kitx_none I.kIn True.intro e (λz=>nomatch z) h
 | bl y=>cases (show u=Value.bool y from rx);exact PySem.W.kia_one PySem.W.kitx_bool I.kIn True.intro e (λz=>nomatch z) h
 | int i=>obtain ⟨t,q⟩:=(show ∃t,u=Value.int i t from rx);cases q;exact PySem.W.kia_one PySem.W.kitx_int I.kIn True.intro e (λz=>nomatch z) h
 | str y=>obtain ⟨t,q⟩:=(show ∃t,u=Value.str y t from rx);cases q;exact PySem.W.kia_one PySem.W.kitx_str I.kIn True.intro e (λz=>nomatch z) h
 | flt y=>obtain ⟨t,q⟩:=(show ∃t,u=Value.float y t from rx);cases q;exact PySem.W.kia_one PySem.W.kitx_float I.kIn True.intro e (λz=>nomatch z) h
 | @lst a xs ea=>
   cases (show u=Value.ref a from rx)
   obtain ⟨_,_,n,_,h1⟩:=(show ObjOk X.prog X.w H s.heap a (.lst xs) from I.hok a _ ea);exact PySem.W.kia_one PySem.W.kitx_list I.kIn ⟨_,h1,rfl⟩ e (λz=>nomatch z) h
 | @frz a ob xs ea=>
   cases (show u=Value.ref a from rx)
   obtain ⟨_,_,_,n,_,h1⟩:=(show ObjOk X.prog X.w H s.heap a (.frz ob (.lst xs)) from I.hok a _ ea);exact PySem.W.kia_one PySem.W.kitx_list I.kIn ⟨_,h1,rfl⟩ e (λz=>nomatch z) h
 | @tup a xs ea=>
   cases (show u=Value.ref a from rx)
   obtain ⟨_,_,_,p⟩:=(show ObjOk X.prog X.w H s.heap a (.tup xs) from I.hok a _ ea);obtain ⟨o,h1,h2,_⟩:=p;exact PySem.W.kia_one PySem.W.kitx_tuple I.kIn ⟨o,h1,h2⟩ e (λz=>nomatch z) h
 | @dK a kvs ea=>
   cases (show u=Value.ref a from rx)
   obtain ⟨_,_,vs,_,p⟩:=(show ObjOk X.prog X.w H s.heap a (.dK kvs) from I.hok a _ ea);obtain ⟨o,es,ep,h1,h2,_⟩:=p;exact PySem.W.kia_one PySem.W.kitx_dict I.kIn ⟨o,h1,h2.1⟩ e (λz=>nomatch z) h
 | @dT a kvs ea=>
   cases (show u=Value.ref a from rx)
   obtain ⟨_,_,xs,_,o,es,ep,h1,h2,_⟩:=(show ObjOk X.prog X.w H s.heap a (.dT kvs) from I.hok a _ ea);exact PySem.W.kia_one PySem.W.kitx_dict I.kIn ⟨o,h1,h2.1⟩ e (λz=>nomatch z) h
 | @ins a C dx fs ea cl ha hn htk hm=>
   cases (show u=Value.ref a from rx)
   obtain ⟨mA,O,_⟩:=Qa I.hok ea;obtain ⟨od,J,_⟩:=O.look;exact PySem.W.kia_one (PySem.W.kitx_own (cl.get _) cl.hd ha hn htk hm) I.kIn J e (λz=>nomatch z) h
end
structure Room (k:Nat)(A:Around):Prop where
 hd:A.handled=none
 dp:A.depth + 3 * k + 5 < recursionLimit
 un:A.units + 16 * k + 200 < cLine
theorem Room.mono {j:Nat}{A:Around}(r:Room k A)(h:j<=k):Room j A:=⟨r.hd,by have:=r.dp;lia,by have:=r.un;lia⟩
theorem Room.deeper {k:Nat}{A:Around}(r:Room (k + 1) A)(env:Env):Room k (A.deeper env):=
 ⟨r.hd,by have:=r.dp;show A.depth + 1 + 3 * k + 5 < _;lia,by have:=r.un;show A.units + 3 + 16 * k + 200 < _;lia⟩
theorem Mq {A:Around}{kw:List (Str×Value)}:(A.under (.builtin "type.__call__" ⟨.ref C :: us,kw⟩)).depth=A.depth + 1:=by
 first | rfl | simp [Around.under,Code.weight,Code.isCreation,Code.isGuard,Code.isCaller,Code.frames,Code.isFrame,guardIds]
theorem Mr {A:Around}{kw:List (Str×Value)}:(A.under (.builtin "type.__call__" ⟨.ref C :: us,kw⟩)).units=A.units + 1:=by
 first | rfl | simp [Around.under,Code.cUnits,Code.frames,Code.isFrame]
theorem Room.make {A:Around}(r:Room (k + 1) A)(C:Addr)(us:List Value)(kw:List (Str×Value)):Room k (A.under (.builtin "type.__call__" ⟨.ref C :: us,kw⟩)):=
 ⟨r.hd,by have:=r.dp;rw [Mq];lia,by have:=r.un;rw [Mr];lia⟩
theorem Room.depth {k:Nat}{A:Around}(r:Room k A):A.depth < recursionLimit:=by have:=r.dp;lia
theorem Room.units {k:Nat}{A:Around}(r:Room k A):A.units + 64 < cLine:=by have:=r.un;lia
def SO:TA:=λ_ H Q=>Q [] H
def MK (ta:TE)(tr:TA):TA:=λZ H Q=>ta Z H λx H1=>tr Z H1 λxs H2=>Q (x :: xs) H2
section
variable {X:Cx}{e:Expr}{es:List Expr}{te:TE}{t:TA}{pos:Pos}
theorem F4:PA X [] SO:=λ_ _ _ _ H Q I h=>Calls.spliced_nil ⟨[],H,I,.nil,h⟩
theorem DB (ha:PE X e te)(hr:PA X es t)(hs:starEach (e :: es) X.env=(false,eval e X.env) :: starEach es X.env:=by rfl):PA X (e :: es) (MK te t):=by
 intro pos pins s Z H Q I h;rw [hs];show wpAny _ _ (spliced ((false,eval e X.env) :: backTo pos (starEach es X.env))) _ _ s;refine Calls.spliced_cons (thn (ha pins s Z H _ I h) λu s1 z9=>?_);obtain ⟨x,H1,I1,r1,q1⟩:=z9;exact thn (hr pos pins s1 Z H1 _ I1 q1) λus s2 ⟨xs,H2,I2,r2,q2⟩=>⟨x :: xs,H2,I2,.cons r1 r2,q2⟩
def U4 (t:TA):TE:=λZ H Q=>t Z H λxs H1=>xs.length<=sizeLine/\∀p,H1 p=none->Q (.ref p) (upd H1 p (.tup xs))
def U0 (t:TA):TE:=λZ H Q=>t Z H λxs H1=>xs.length<=sizeLine/\∀p,H1 p=none->Q (.ref p) (upd H1 p (.lst xs))
theorem NA {x1}(h:PA X es t):PE X (.Tuple es x1 pos) (U4 t):=by
 intro pins s Z H Q I hq;refine wpAny_Tuple_spliced (thn (h pos pins s Z H _ I hq) λus s1 z9=>?_);obtain ⟨xs,H1,I1,r,z,q⟩:=z9;refine ⟨by rw [<-r.length];exact z,?_⟩;have hf:H1 s1.heap.objs.size=none:=I1.hok.fresh (Nat.le_refl _);refine ⟨.ref s1.heap.objs.size,upd H1 s1.heap.objs.size (.tup xs),I1.laid (t':=s1.toks) (λb u e=>Heap.get?_push_of_some _ e) (Nat.le_refl _) ?_,rfl,q _ hf⟩;exact ⟨z,us,r,⟨_,Heap.get?_push_size _ rfl,rfl,_,rfl⟩⟩
theorem R1 (h:PA X es t):PE X (.List es pos) (U0 t):=by
 intro pins s Z H Q I hq;refine wpAny_List_spliced (thn (h pos pins s Z H _ I hq) λus s1 z9=>?_);obtain ⟨xs,H1,I1,r,z,q⟩:=z9;refine ⟨by rw [<-r.length];exact z,?_⟩;have hf:H1 s1.heap.objs.size=none:=I1.hok.fresh (Nat.le_refl _);refine ⟨.ref s1.heap.objs.size,upd H1 s1.heap.objs.size (.lst xs),I1.laid (t':=s1.toks) (λb u e=>Heap.get?_push_of_some _ e) (Nat.le_refl _) ?_,rfl,q _ hf⟩;exact ⟨z,us,0,r,Heap.get?_push_size _ rfl⟩
end
abbrev Sp:=List V->Hp->VK->XK->Prop
abbrev CXT:=List Env->Hp->Shared->XK->Value->Shared->Prop
structure Env0 (P:Program)(w:World)(K:PySem.W.Frag)(mg:Str->Option Value)(base:Heap)(A:Around)(outer:List Env)(s:Shared)(H:Hp):Prop where
 frames:A.frames=some outer
 mod:Mod K mg base
 bs:∀b o,base.get? b=some o->s.heap.get? b=some o/\H b=none
 bsz:base.objs.size<=s.heap.objs.size
 funs:s.heap.FunFrames base outer
 frf:∀b∈frs outer,H b=none
 hok:HOk P w H s.heap
 bare:AllBare s.gens
def CE (outer:List Env)(P:Program)(w:World)(H:Hp)(s:Shared)(Q:VK)(u:Value)(s':Shared):Prop:=
 ∃v H',s'.os=s.os/\AllBare s'.gens/\Un (frs outer) [] H H' s.heap s'.heap/\HOk P w H' s'.heap/\RelV v u/\Q v H'
def CR (CX:CXT)(outer:List Env)(P:Program)(w:World)(H:Hp)(s:Shared)(Q:VK)(E:XK)(r:Result)(s':Shared):Prop:=
 match r with
 | .ok (.ret u)=>CE outer P w H s Q u s'
 | .ok _=>False
 | .error e=>CX outer H s E e s'
structure FnOk (P:Program)(w:World)(K:PySem.W.Frag)(mg:Str->Option Value)(base:Heap)(CX:CXT)(k:Nat)(f:Addr)(fd:FuncData)(ps:List Str)(sp:Sp):Prop where
 len:∀vs H Q E,sp vs H Q E->vs.length=ps.length
 run:∀(A:Around) (outer:List Env) (s:Shared) (H:Hp) (args:Args) (us:List Value) (vs:List V) (Q:VK) (E:XK),Room k A->Env0 P w K mg base A outer s H->BindsTo s fd args (ps.zip us)->Vals vs us->sp vs H Q E->
  codeAny (model P w) A (.call (.ref f) args) (CR CX outer P w H s Q E) s
variable {mg:Str->Option Value}{base:Heap}
theorem Env0.make {A:Around}{outer:List Env}(e:Env0 P w K mg base A outer s H)(C:Addr)(us:List Value)(kw:List (Str×Value)) :
 Env0 P w K mg base (A.under (.builtin "type.__call__" ⟨.ref C :: us,kw⟩)) outer s H:=⟨by first | exact e.frames | (simpa [Around.under,Code.envs,Code.isFrame,pushEnvs] using e.frames),e.mod,e.bs,e.bsz,e.funs,e.frf,e.hok,e.bare⟩
section
variable {X:Cx}{pins:List (Addr×Obj)}{Z:St}{H:Hp}{s s':Shared}
theorem Inv.env0 (I:Inv X pins Z H s):Env0 X.prog X.w X.K X.mg X.base X.A X.stack s H:=
 ⟨I.ok.frames,I.ok.mod,I.bs,Nat.le_trans I.ok.bsz I.sz,I.stack,I.stkFree,I.hok,I.bare⟩
theorem Inv.after {Q:VK}(I:Inv X pins Z H s)(h:CE X.stack X.prog X.w H s Q u s'):EP X pins Z Q u s':=by
 obtain ⟨v,H',os,bare,un,hok,r,q⟩:=h;obtain ⟨hh,g,d,t,os'⟩:=s';obtain rfl:os'=s.os:=os;exact ⟨v,H',I.call (h':=hh) (g':=g) (d':=d) (t':=t) (ch:=[]) un hok bare (λb z=>absurd z (by simp)),r,q⟩
end
def TK (sp:Sp)(dvs:List V)(E:XK)(t:TA):TE:=λZ H Q=>t Z H λvs H1=>sp (vs++dvs) H1 Q E
def Binds (K:PySem.W.Frag)(fd:FuncData)(ps:List Str)(ds:List Value):Prop:=
 ∀(s:Shared) (us:List Value),K.In s.heap->(us++ds).length=ps.length->BindsTo s fd ⟨us,[]⟩ (ps.zip (us++ds))
theorem Binds.all {fd:FuncData}{ps:List Str}(h:∀us:List Value,us.length=ps.length->bindArgs fd ⟨us,[]⟩=pure (ps.zip us)):Binds K fd ps []:=λs us _ hl=>by
 rw [List.append_nil] at hl ⊢;exact .of_eq (h us hl)
def JP (CX:CXT)(X:Cx)(E:XK):Prop:=∀(pins:List (Addr×Obj)) (Z:St) (H:Hp) (s:Shared) (e:Value) (s':Shared),Inv X pins Z H s->CX X.stack H s E e s'->X.xe e s'
section
variable {X:Cx}{CX:CXT}{k:Nat}{f C:Addr}{fd:FuncData}{ps:List Str}{sp:Sp}{dvs:List V}{ds:List Value}{E:XK}{x m:Str}{p pos apos:Pos}{e o:Expr}{es:List Expr}{ta:TE}{t:TA}
theorem Sz {Q:VK}{vs:List V}(F:FnOk X.prog X.w X.K X.mg X.base CX k f fd ps sp)(hr:Room k X.A)(hb:Binds X.K fd ps ds)(hd:Vals dvs ds)(hx:JP CX X E)
 (I:Inv X pins Z H s) (r:Vals vs us) (h:sp (vs++dvs) H Q E):wpAny (model X.prog X.w) X.A (call (.ref f) us) (EP X pins Z Q) X.xe s:=by
 have r2:Vals (vs++dvs) (us++ds):=r.append hd;have hl:(us++ds).length=ps.length:=by rw [<-r2.length];exact F.len _ _ _ _ h
 refine wpAny_call (codeAny_mono (F.run X.A X.stack s H ⟨us,[]⟩ (us++ds) (vs++dvs) Q E hr I.env0 (hb s us I.kIn hl) r2 h) λr s' hq=>?_)
 cases r with
 | error e=>exact hx pins Z H s e s' I hq
 | ok fl=>
   cases fl with
   | ret u=>exact I.after hq
   | next=>exact False.elim hq
   | brk=>exact False.elim hq
   | cont=>exact False.elim hq
theorem Qs (F:FnOk X.prog X.w X.K X.mg X.base CX k f fd ps sp)(hr:Room k X.A)(hg:Gl X x)(hm:X.mg x=some (.ref f))(hk:PySem.W.keepIn X.K (.ref f)=true)(hb:Binds X.K fd ps ds)(hd:Vals dvs ds)(hx:JP CX X E)
 (ha:PA X (e :: es) t) (hdb:(x == ("__debug__" : Str))=false:=by decide) (he:starEach (e :: es) X.env=(false,eval e X.env) :: starEach es X.env:=by rfl) (hpl:(backTo pos (starEach es X.env)).any (·.1)=false:=by rfl) :
 PE X (.Call (.Name x p) (e :: es) [] pos) (TK sp dvs E t):=by
 intro pins s Z H Q I h;refine wpAny_Call_Name_kw (Et I hg hm ?_ hdb);refine PySem.W.callWith_K (h₀:=X.base) I.ok.mod.kin hk (thn (ha pos pins s Z H _ I h) λus s1 z9=>?_) he hpl;obtain ⟨vs,H1,I1,r,q⟩:=z9;refine ⟨I1.kIn,?_⟩;exact Sz F hr hb hd hx I1 r q
structure Mk (K:PySem.W.Frag)(C f:Addr):Prop where
 makes:PySem.W.makesIn K C=true
 init:PySem.W.findIn K (.ref C) "__init__" = some (some (.ref f))
 fn:PySem.W.isFn K (.ref f)=true
 kp:PySem.W.keepIn K (.ref C)=true
end
section
variable {X:Cx}{CX:CXT}{k:Nat}{f C:Addr}{fd:FuncData}{ps ks:List Str}{sp:Sp}{E:XK}{x m:Str}{p pos apos kpos:Pos}{e o:Expr}{es:List Expr}{kws:List Keyword}{te ta:TE}{t tk:TA}{nm:Option Str}
structure KBinds (K:PySem.W.Frag)(fd:FuncData)(ps ks:List Str)(g:List Value->List Value->List Value)(gV:List V->List V->List V):Prop where
 to:∀(s:Shared) (us ws:List Value),K.In s.heap->(g us ws).length=ps.length->BindsTo s fd ⟨us,ks.zip ws⟩ (ps.zip (g us ws))
 rel:∀{vs:List V} {us:List Value} {zs:List V} {ws:List Value},Vals vs us->Vals zs ws->Vals (gV vs zs) (g us ws)
variable {g:List Value->List Value->List Value}{gV:List V->List V->List V}
end
structure FnScope (N P:List Str)(sc:Scope):Prop where
 kind:sc.kind = .function
 co:sc.isCoroutine=false
 gen:sc.isGenerator=false
 nd:N.Nodup
 pre:N.take P.length=P
 par:∀x∈P,sc.names.lookup x=some .local\/sc.names.lookup x=some .cell
 nofree:∀y∈sc.names,y.2≠.free
theorem IN {kindOf:Str->Option NameKind}{x:Str}:∀{binds:List (Str×Value)} {m:Str->Option Value},(∀v,(x,v)∉binds)->bindL kindOf binds m x=m x
 | [],_,_=>rfl
 | (n,v) :: r,m,h=>by
   unfold bindL;rw [IN λw hw=>h w (List.mem_cons_of_mem _ hw)]
   split
   ·have:x≠n:=by rintro rfl;exact h v List.mem_cons_self
    simp [this]
   ·rfl
theorem IL {kindOf:Str->Option NameKind}{x:Str}:∀{binds:List (Str×Value)} {m:Str->Option Value},(∀v,(x,v)∉binds)->bindC kindOf binds m x=m x
 | [],_,_=>rfl
 | (n,v) :: r,m,h=>by
   unfold bindC;rw [IL λw hw=>h w (List.mem_cons_of_mem _ hw)]
   split
   ·rfl
   ·have:x≠n:=by rintro rfl;exact h v List.mem_cons_self
    simp [this]
theorem IM {kindOf:Str->Option NameKind}{x:Str}{v:Value}:∀{P:List Str} {vs:List Value} {i:Nat} {m:Str->Option Value},P.Nodup->P[i]?=some x->vs[i]?=some v->kindOf x=some .local->
 bindL kindOf (P.zip vs) m x=some v
 | [],_,_,_,_,h,_,_=>by simp at h
 | _ :: _,[],_,_,_,_,h,_=>by simp at h
 | p :: P,w :: vs,0,m,nd,h1,h2,hk=>by
   simp at h1 h2;subst h1;subst h2;show bindL kindOf ((p,w) :: P.zip vs) m p=_;unfold bindL;rw [IN λv hv=>(List.nodup_cons.mp nd).1 (List.of_mem_zip hv).1,if_pos hk];simp
 | p :: P,w :: vs,i + 1,m,nd,h1,h2,hk=>by
   show bindL kindOf ((p,w) :: P.zip vs) m x=_;unfold bindL;exact IM (i:=i) (List.nodup_cons.mp nd).2 (by simpa using h1) (by simpa using h2) hk
theorem IK {kindOf:Str->Option NameKind}{x:Str}{v:Value}:∀{P:List Str} {vs:List Value} {i:Nat} {m:Str->Option Value},P.Nodup->P[i]?=some x->vs[i]?=some v->kindOf x≠some .local->
 bindC kindOf (P.zip vs) m x=some v
 | [],_,_,_,_,h,_,_=>by simp at h
 | _ :: _,[],_,_,_,_,h,_=>by simp at h
 | p :: P,w :: vs,0,m,nd,h1,h2,hk=>by
   simp at h1 h2;subst h1;subst h2;show bindC kindOf ((p,w) :: P.zip vs) m p=_;unfold bindC;rw [IL λv hv=>(List.nodup_cons.mp nd).1 (List.of_mem_zip hv).1,if_neg hk];simp
 | p :: P,w :: vs,i + 1,m,nd,h1,h2,hk=>by
   show bindC kindOf ((p,w) :: P.zip vs) m x=_;unfold bindC;exact IK (i:=i) (List.nodup_cons.mp nd).2 (by simpa using h1) (by simpa using h2) hk
noncomputable def Dq (N:List Str)(vs:List V):St:=vs.map some++List.replicate (N.length - vs.length) none
noncomputable def Ee (CX:CXT)(P:Program)(w:World)(K:PySem.W.Frag)(mg:Str->Option Value)(base:Heap)(N:List Str)(qual:Str)(scope:Scope)(f:Addr)(cd:Value)(A:Around)(outer:List Env)(s:Shared)(H:Hp)(E:XK):Cx where
 prog:=P
 w:=w
 K:=K
 mg:=mg
 base:=base
 A:=A.deeper (envOfC qual scope s.heap.objs.size f cd)
 N:=N
 s₀:=s
 H₀:=H
 env:=envOfC qual scope s.heap.objs.size f cd
 outer:=outer
 stack:=envOfC qual scope s.heap.objs.size f cd :: outer
 ex:=[]
 calm:=true
 fn:=λ_=>true
 pn:=[]
 xe:=λe s'=>wpAny (model P w) (A.deeper (envOfC qual scope s.heap.objs.size f cd)) (leaving (envOfC qual scope s.heap.objs.size f cd) e) (λ_ s''=>CX outer H s E e s'') (λe' s''=>CX outer H s E e' s'') s'
theorem Ka {sc:Scope}{n:Nat}(h:sc.names.lookup x=some .cell):∃c,(cellsFrom n sc.names []).lookup x=some c:=by
 have q:=PySem.W.cellsFrom_some sc.names n [] (.inl h);exact Option.isSome_iff_exists.mp q
theorem Nl {CX:CXT}{N ps:List Str}{qual:Str}{scope:Scope}{f:Addr}{cd:Value}{A:Around}{outer:List Env}{s1:Shared}{E:XK}{vs:List V}
 (S:FnScope N ps scope) (hd:A.handled=none) (e0:Env0 P w K mg base A outer s H) (hl:vs.length=ps.length) (r:Vals vs us)
 (x:InCallC s s.heap.objs.size (bindL (envOfC qual scope s.heap.objs.size f cd).kindOf (ps.zip us) λ_=>none) (cellsFrom (s.heap.objs.size + 1) scope.names []) (bindC (envOfC qual scope s.heap.objs.size f cd).kindOf (ps.zip us) λ_=>none) s1) :
 Inv (Ee CX P w K mg base N qual scope f cd A outer s H E) [] (Dq N vs) H s1:=by
 have hpl:ps.length<=N.length:=by have:=congrArg List.length S.pre;rw [List.length_take] at this;lia
 obtain ⟨h1,tk,rfl,hk⟩:=x.done;have noA:∀b:Addr,b∉(Ee CX P w K mg base N qual scope f cd A outer s H E).ex:=λb z=>absurd (show b∈([]:List Addr) from z) (by simp);refine ⟨⟨e0.mod,S.kind,rfl,rfl,Nat.le_refl _,λy z c h1 h2=>?_,λy hy=>?_,λy c _ h=>?_,λ_=>hd,Around.frames_deeper e0.frames,.inr ⟨rfl,rfl⟩,λb z=>absurd z (noA b),e0.bs,e0.bsz,λb _ _=>noA b,λb z=>absurd z (noA b),e0.funs,e0.frf⟩,
  rfl,e0.bare,Un.kept hk,⟨_,x.toInCall.ns,λi y v h1 h2 h3=>?_⟩,λy c h=>⟨_,x.cell y c h⟩,e0.hok.fresh (Nat.le_refl _),λy c h=>?_,λp hp=>absurd (show p∈([]:List (Addr×Obj)) from hp) (by simp),e0.hok.kept hk,?_⟩
 ·exact name_of_addr x.apart (PySem.mem_of_lookup h1) (PySem.mem_of_lookup h2)
 ·have hy:scope.names.lookup y=some .cell\/scope.names.lookup y=some .free:=hy;rcases hy with hy | hy
  ·exact Ka hy
  ·exact absurd rfl (S.nofree _ (PySem.mem_of_lookup hy))
 ·exact Nat.le_of_lt (x.above y c (PySem.mem_of_lookup h))
 ·have hi:i < vs.length:=by
   unfold Dq at h2
   by_cases hi:i < vs.length
   ·exact hi
   ·rw [List.getElem?_append_right (by simpa using hi)] at h2;rw [List.getElem?_replicate] at h2
    split at h2 <;> cases h2
  have ha:vs[i]?=some v:=by
   unfold Dq at h2;rw [List.getElem?_append_left (by simpa using hi),List.getElem?_map] at h2
   cases e:vs[i]? with
   | none=>rw [e] at h2;cases h2
   | some a=>rw [e] at h2;cases h2;rfl
  obtain ⟨u,hu,rv⟩:=r.get ha;have hp:ps[i]?=some y:=by
   rw [<-S.pre,List.getElem?_take_of_lt (by lia)];exact h1
  have ndP:ps.Nodup:=by rw [<-S.pre];exact S.nd.sublist (List.take_sublist _ _)
  refine ⟨u,rv,?_⟩;rcases S.par y (List.mem_of_getElem? hp) with k | k
  ·exact .inl ⟨k,IM ndP hp hu k⟩
  ·obtain ⟨c,e⟩:=Ka (n:=s.heap.objs.size + 1) k;refine .inr ⟨.inl k,c,e,?_⟩;have q:=x.cell y c e;rw [IK ndP hp hu (by show scope.names.lookup y≠_;rw [k];decide)] at q;exact q
 ·exact e0.hok.fresh (Nat.le_of_lt (x.above y c (PySem.mem_of_lookup h)))
 ·unfold Dq;show _=N.length;rw [List.length_append,List.length_map,List.length_replicate];lia
theorem Pk {CX:CXT}{f:Addr}{name qual:Str}{params:Arguments}{body:List Stmt}{scope:Scope}{dV kV doc pm cdv ct oc:Value}{an od:Option Addr}
 {osl:Array (Option Value)} {N ps:List Str} {sp:Sp} (lk:K.lookup f=some ⟨oc,od,.func (PySem.W.fnOf name qual params body scope dV kV doc pm an cdv ct),osl⟩) (hcd:PySem.W.codeIn K cdv qual=true) (S:FnScope N ps scope)
 (len:∀vs H Q E,sp vs H Q E->vs.length=ps.length)
 (hbody:∀(A:Around) (outer:List Env) (s:Shared) (H:Hp) (vs:List V) (Q:VK) (E:XK),Room k (A.deeper (envOfC qual scope s.heap.objs.size f cdv))->sp vs H Q E->
   ∃t,PSs (Ee CX P w K mg base N qual scope f cdv A outer s H E) body t/\t { nx:=λ_ H'=>Q .non H',rt:=Q } (Dq N vs) H) :
 FnOk P w K mg base CX (k + 1) f (PySem.W.fnOf name qual params body scope dV kV doc pm an cdv ct) ps sp:=by
 refine ⟨len,λA outer s H args us vs Q E hr e0 hb r hsp=>?_⟩;have hl:=len _ _ _ _ hsp;have KX:K.In s.heap:=e0.mod.kin.keeps λb o e=>(e0.bs b o e).1;have lim:s.heap.NoLimit:=e0.mod.nolimit.keeps λb o e=>(e0.bs b o e).1;have hkind:∀y∈ps.zip us,scope.names.lookup y.1=some .local\/(scope.names.lookup y.1=some .cell/\((cellsFrom (s.heap.objs.size + 1) scope.names []).lookup y.1).isSome=true):=λz9 hy=>by
  obtain ⟨n,v⟩:=z9;rcases S.par n (List.of_mem_zip hy).1 with q | q
  ·exact .inl q
  ·exact .inr ⟨q,PySem.W.cellsFrom_some _ _ _ (.inl q)⟩
 refine codeAny_call_function hr.depth (KX _ _ lk) rfl S.co S.gen rfl (PySem.W.codeRec_of KX hcd) (hb _ _ _ _ ?_);refine wpAny_newFunctionEnv_cells S.kind hkind λenv he s1 x=>?_;subst he;refine ⟨lim.keeps x.toInCall.keep,codeAny_func ?_⟩;obtain ⟨t,ht,hq⟩:=hbody A outer s H vs Q E (hr.deeper _) hsp;have I:Inv (Ee CX P w K mg base N qual scope f cdv A outer s H E) [] (Dq N vs) H s1:=Nl S hr.hd e0 hl r x;refine wpAny_mono (ht [] s1 (Dq N vs) H _ I hq) (λfl s' hs=>?_) λe s' hs=>hs;have fin:∀{Z':St} {H':Hp} {v:V} {u:Value},Inv (Ee CX P w K mg base N qual scope f cdv A outer s H E) [] Z' H' s'->RelV v u->Q v H'->CE outer P w H s Q u s':=
  λ{Z' H' v u} J rv q=>⟨v,H',J.os,J.bare,J.base,J.hok,rv,q⟩
 cases fl with
 | ret u=>
   obtain ⟨v,Z',H',J,rv,q⟩:=hs;exact fin J rv q
 | next=>
   obtain ⟨Z',H',J,q⟩:=hs;exact fin (v:=V.non) (u:=Value.none) J rfl q
 | brk=>
   obtain ⟨_,_,_,q⟩:=hs;exact False.elim q
 | cont=>
   obtain ⟨_,_,_,q⟩:=hs;exact False.elim q
section
variable {X:Cx}{x:Str}{p pos:Pos}{e:Expr}{es:List Expr}{t:TA}{id T:String}{r:List V->Hp->VK->Prop}
def tCB (r:List V->Hp->VK->Prop)(t:TA):TE:=λZ H Q=>t Z H λvs H1=>r vs H1 Q
theorem Fz (hc:BR X (.builtin id) r)(hg:Gl X x)(hm:X.mg x=none)(hv:bootBuiltins x=some (.builtin id))(ha:PA X (e :: es) t)(hn:x≠"__name__":=by decide)(hdb:(x == ("__debug__" : Str))=false:=by decide)
 (he:starEach (e :: es) X.env=(false,eval e X.env) :: starEach es X.env:=by rfl) (hpl:(backTo pos (starEach es X.env)).any (·.1)=false:=by rfl):PE X (.Call (.Name x p) (e :: es) [] pos) (tCB r t):=by
 intro pins s Z H Q I h;refine wpAny_Call_Name_kw (FW I hg hm hv ?_ hn hdb);exact PyProof.Rows.callWith_builtin1 (thn (ha pos pins s Z H _ I h) λus s1 z9=>by obtain ⟨vs,H1,I1,r1,q1⟩:=z9;exact hc pins s1 Z H1 vs us Q I1 r1 q1) he hpl
theorem Jc (hc:BR X (.type T) r)(hg:Gl X x)(hm:X.mg x=none)(hv:bootBuiltins x=some (.type T))(ha:PA X (e :: es) t)(hn:x≠"__name__":=by decide)(hdb:(x == ("__debug__" : Str))=false:=by decide)
 (he:starEach (e :: es) X.env=(false,eval e X.env) :: starEach es X.env:=by rfl) (hpl:(backTo pos (starEach es X.env)).any (·.1)=false:=by rfl):PE X (.Call (.Name x p) (e :: es) [] pos) (tCB r t):=by
 intro pins s Z H Q I h;refine wpAny_Call_Name_kw (FW I hg hm hv ?_ hn hdb);exact PyProof.Rows.callWith_type1 (thn (ha pos pins s Z H _ I h) λus s1 z9=>by obtain ⟨vs,H1,I1,r1,q1⟩:=z9;exact hc pins s1 Z H1 vs us Q I1 r1 q1) he hpl
end
end L2
namespace HT
open PySem PyProof.Rows
section
open PySem.SeqAt
open PySem.AutoSeq1 (wpAny_loadPart')
open PySem.MeetsSeq PySem.MeetsSeq2 PySem.MeetsSeq3
end
section
variable {prog:Program}{w:World}{A:Around}{E:Value->Shared->Prop}{s:Shared}
theorem PR {t b:Addr}{vs ws:List Value}{Q:Value->Shared->Prop}(ht:IsTup s.heap t vs.toArray)(hb:IsTup s.heap b ws.toArray)(hv:vs≠[])
 (h1:ws=[]->Q (.ref t) s) (h2:ws≠[]->Q (.ref s.heap.objs.size) { s with heap:=s.heap.push { cls:=.type "tuple",data:=.seq (vs++ws).toArray } })
 (hsz:vs.length + ws.length<=sizeLine):wpAny (model prog w) A (binaryOp .Add (.ref t) (.ref b)) Q E s:=by
 obtain ⟨⟨cls,dd,data,sl⟩,ho,hc,n,hd⟩:=id ht;obtain ⟨⟨cls2,dd2,data2,sl2⟩,ho2,hc2,n2,hd2⟩:=id hb;simp only at hc hd hc2 hd2;subst hc hd hc2 hd2;have e:vs.toArray++ws.toArray=(vs++ws).toArray:=by simp
 by_cases hw:ws=[]
 ·exact concat_meets ⟨_,ho,rfl⟩ ⟨_,ho2,rfl⟩ noFill_tuple_add seq_tuple_add PySem.F.slot_tuple_add PySem.F.entry_tuple_add (PySem.F.args_tuple_add_2 _ _)
   (tuple_addW1 t b vs.toArray ws.toArray n n2 dd dd2 sl sl2 (by simpa using hv) (by simp [hw])) ⟨ho,ho2,h1 hw⟩
 ·refine concat_meets ⟨_,ho,rfl⟩ ⟨_,ho2,rfl⟩ noFill_tuple_add seq_tuple_add PySem.F.slot_tuple_add PySem.F.entry_tuple_add (PySem.F.args_tuple_add_2 _ _)
   (tuple_addW2 t b vs.toArray ws.toArray n n2 dd dd2 sl sl2 (by simpa using hv) (by simpa using hw) (by rw [List.size_toArray,List.size_toArray];exact hsz)) ⟨ho,ho2,?_⟩
  rw [e];exact h2 hw
noncomputable def sIx (n d:Nat):Option Int->Nat
 | none=>d
 | some v=>if v < 0 then (v + (n:Int)).toNat else min v.toNat n
theorem SA (n d:Nat)(hd:d<=n)(o:Option Int):sIx n d o<=n:=by
 cases o with
 | none=>exact hd
 | some v=>
   show (if v < 0 then (v + (n:Int)).toNat else min v.toNat n)<=n
   by_cases hv:v < 0
   ·rw [if_pos hv];lia
   ·rw [if_neg hv];exact Nat.min_le_right _ _
theorem Lx (v:Int)(n d:Nat):(if v < 0 then max (v + (n:Int)) 0 else min v (n:Int))=((sIx n d (some v):Nat):Int):=by
 show (if v < 0 then max (v + (n:Int)) 0 else min v (n:Int))=(((if v < 0 then (v + (n:Int)).toNat else min v.toNat n):Nat):Int)
 by_cases hv:v < 0
 ·simp only [if_pos hv];lia
 ·simp only [if_neg hv];lia
theorem Mb (lo hi:Option Int)(n:Nat):Builtin.Slice.sliceAdjust lo hi 1 (n:Int)=(((sIx n 0 lo:Nat):Int),((sIx n n hi:Nat):Int)):=by
 have h1:¬((1:Int) < 0):=by lia
 unfold Builtin.Slice.sliceAdjust;simp only [h1,if_false];refine Prod.ext ?_ ?_
 ·cases lo with
  | none=>rfl
  | some v=>exact Lx v n 0
 ·cases hi with
  | none=>rfl
  | some v=>exact Lx v n n
theorem MB (i j:Nat):Builtin.Slice.slicePlaces (i:Int) (j:Int) 1=j - i:=by
 unfold Builtin.Slice.slicePlaces;have h1:(1:Int) > 0:=by lia
 simp only [h1,if_true,Int.ediv_one]
 split <;> lia
theorem HB {v:Value}{o:Option Int}{Q:Option Int->Shared->Prop}(p:IsPart v o)(h:Q o s):wpAny (model prog w) A (Builtin.Slice.slicePartIndex v) Q E s:=by
 cases p with
 | none=>exact slicePart_none h
 | int i t=>exact slicePart_int h
theorem EK {sl:Addr}{vl vu:Value}{lo hi:Option Int}{n:Nat}{Q:Int×Int×Nat->Shared->Prop}(hs:s.heap.IsSliceOf sl vl vu .none)(pl:IsPart vl lo)(pu:IsPart vu hi)
 (h:Q (((sIx n 0 lo:Nat):Int),1,sIx n n hi - sIx n 0 lo) s):wpAny (model prog w) A (Builtin.Slice.sliceApplied (.ref sl) (pure (n:Int))) Q E s:=by
 obtain ⟨os,hos,hcs,hds⟩:=id hs;unfold Builtin.Slice.sliceApplied Builtin.Slice.sliceFields;refine wpAny_bind (wpAny_bind (wpAny_field hos hds (x:=vl) rfl (wpAny_bind (wpAny_field hos hds (x:=vu) rfl (wpAny_bind (wpAny_field hos hds (x:=.none) rfl (wpAny_pure ?_)))))));refine wpAny_bind (slicePart_none ?_);show wpAny _ _ (if ((1:Int) == 0)=true then _ else _) _ _ s;rw [if_neg (by decide)];refine wpAny_bind (HB pl (wpAny_bind (HB pu (wpAny_bind (wpAny_pure ?_)))));show wpAny _ _ (match Builtin.Slice.sliceAdjust lo hi 1 (n:Int) with | (lo,hi)=>pure (lo,(1:Int),Builtin.Slice.slicePlaces lo hi 1)) _ _ s;rw [Mb lo hi n];show wpAny _ _ (pure (((sIx n 0 lo:Nat):Int),(1:Int),Builtin.Slice.slicePlaces ((sIx n 0 lo:Nat):Int) ((sIx n n hi:Nat):Int) 1)) _ _ s;rw [MB];exact wpAny_pure h
theorem OD (xs:Array Value)(i k:Nat):((List.range k).filterMap λ(m:Nat)=>xs[((i:Int) + (m:Int) * 1).toNat]?).toArray=((xs.toList.drop i).take k).toArray:=by
 have e:(λ(m:Nat)=>xs[((i:Int) + (m:Int) * 1).toNat]?)=λm=>xs[i + m]?:=by
  funext m
  have:((i:Int) + (m:Int) * 1).toNat=i + m:=by lia
  rw [this]
 rw [e];have:=pick_run xs i k;rw [List.filterMap_map] at this;have e2:((λx=>xs[x]?) ∘ λx=>i + x)=λm=>xs[i + m]?:=rfl;rw [e2] at this;rw [this]
theorem GC {t sl:Addr}{items:Array Value}{vl vu:Value}{lo hi:Option Int}{Q:Value->Shared->Prop}(ht:IsTup s.heap t items)(hs:s.heap.IsSliceOf sl vl vu .none)(pl:IsPart vl lo)(pu:IsPart vu hi)
 (hw:¬(sIx items.size 0 lo=0/\sIx items.size items.size hi=items.size))
 (h:Q (.ref s.heap.objs.size) { s with heap:=s.heap.push { cls:=.type "tuple",data:=.seq ((items.toList.drop (sIx items.size 0 lo)).take (sIx items.size items.size hi - sIx items.size 0 lo)).toArray } })
 (hsz:items.size<=sizeLine):wpAny (model prog w) A (getItem (.ref t) (.ref sl)) Q E s:=by
 have htake:sizeOk (.seq ((items.toList.drop (sIx items.size 0 lo)).take (sIx items.size items.size hi - sIx items.size 0 lo)).toArray):=by
  show ((items.toList.drop (sIx items.size 0 lo)).take (sIx items.size items.size hi - sIx items.size 0 lo)).toArray.size<=sizeLine;rw [List.size_toArray,List.length_take,List.length_drop,Array.length_toList];lia
 have hj:sIx items.size items.size hi<=items.size:=SA _ _ (Nat.le_refl _) hi;obtain ⟨os,hos,hcs,hds⟩:=id hs;have hTs:s.TypeIs (.ref sl) "slice":=⟨os,hos,hcs⟩;unfold getItem
 try with_reducible refine wpAny_holding ?_
 first | refine wpAny_bind (wpAny_pure ?_) | skip
 refine wpAny_bind (wpAny_sequenceKey ht.typeIs (by decide) ?_);refine wpAny_bind (wpAny_callSpecial?_slot (name:=Str.ofString "__getitem__") ht.typeIs PyProof.Rows.slot_tuple_getitem
  (wpAny_call_entry PyProof.Rows.slot_tuple_getitem ht.typeIs entry_tuple_getitem ?_ (args_tuple_getitem _ _)))
 show wpAny _ _ (Builtin.Tuple.tupleItemsOf (.ref t) >>= _) _ _ s;refine wpAny_bind (tupleItemsOf_ ht ?_);refine wpAny_bind (wpAny_typeOf hTs ?_);rw [if_pos (by decide)];refine wpAny_bind (EK hs pl pu ?_);have hno:¬((((sIx items.size 0 lo:Nat):Int) == 0 && (1:Int) == 1 && (sIx items.size items.size hi - sIx items.size 0 lo) == items.size)=true):=by
  intro q;rw [Bool.and_eq_true,Bool.and_eq_true] at q;have q1:((sIx items.size 0 lo:Nat):Int)=0:=eq_of_beq q.1.1;have q2:sIx items.size items.size hi - sIx items.size 0 lo=items.size:=eq_of_beq q.2;exact hw ⟨by lia,by lia⟩
 show wpAny _ _ (if (((sIx items.size 0 lo:Nat):Int) == 0 && (1:Int) == 1 && (sIx items.size items.size hi - sIx items.size 0 lo) == items.size)=true then _ else _) _ _ s;rw [if_neg hno,OD]
 first
  | exact wpAny_bind (m:=Builtin.Tuple.tupleExact _) (wpAny_newObj_type (wpAny_pure ⟨_,rfl,wpAny_pure h⟩) htake)
  | exact wpAny_bind (m:=Builtin.Tuple.tupleExact _) (wpAny_newObj_type (wpAny_bind (wpAny_pure (wpAny_pure ⟨_,rfl,wpAny_pure h⟩))) htake)
  | exact wpAny_bind (wpAny_bind (m:=Builtin.Tuple.tupleExact _) (wpAny_newObj_type (wpAny_pure (wpAny_pure ⟨_,rfl,wpAny_pure h⟩)) htake))
  | exact wpAny_bind (wpAny_bind (m:=Builtin.Tuple.tupleExact _) (wpAny_newObj_type (wpAny_pure ⟨_,rfl,wpAny_pure h⟩) htake))
end
end HT
namespace L2
open PySem PySem.Spec PyProof.Rows
abbrev TO:=St->Hp->(Option Int->Hp->Prop)->Prop
def PO (X:Cx)(e:Option Expr)(t:TO):Prop:=
 ∀(pins:List (Addr×Obj)) (s:Shared) (Z:St) (H:Hp) (Q:Option Int->Hp->Prop),Inv X pins Z H s->t Z H Q->
  wpAny (model X.prog X.w) X.A (evalPart e X.env) (λu s'=>∃o H',Inv X pins Z H' s'/\IsPart u o/\Q o H') X.xe s
def QS:TO:=λ_ H Q=>Q none H
def TN (t:TE):TO:=λZ H Q=>t Z H λx H1=>∃i,x = .int i/\Q (some i) H1
theorem Mm {ns:List Int}:∀{us:List Value},Vals (ns.map V.int) us->IntsAre us ns:=by
 induction ns with
 | nil=>intro us r;rw [List.map_nil] at r;cases r;exact .nil
 | cons n ns ih=>
   intro us r;rw [List.map_cons] at r
   cases r with
   | cons r1 r2=>
     obtain ⟨t,e⟩:=r1;subst e;exact .cons n t (ih r2)
section
variable {X:Cx}{e:Expr}{te:TE}{lo hi:Option Expr}{tl th:TO}{pos p2:Pos}
theorem Qz:PO X none QS:=by
 intro pins s Z H Q I h;rw [evalPart_none];exact wpAny_pure ⟨none,H,I,.none,h⟩
theorem QA (h:PE X e te):PO X (some e) (TN te):=by
 intro pins s Z H Q I hw;rw [evalPart_some];refine thn (h pins s Z H _ I hw) λu s1 z9=>?_;obtain ⟨x,H1,I1,r1,q1⟩:=z9;obtain ⟨i,rfl,q⟩:=q1;obtain ⟨t,rfl⟩:=r1;exact ⟨some i,H1,I1,.int i t,q⟩
def SlR (X:Cx)(r:V->Option Int->Option Int->Hp->VK->Prop):Prop:=
 ∀(pins:List (Addr×Obj)) (s:Shared) (Z:St) (H:Hp) (x:V) (v vl vu:Value) (lo hi:Option Int) (sl:Addr) (Q:VK),Inv X pins Z H s->RelV x v->s.heap.IsSliceOf sl vl vu .none->IsPart vl lo->IsPart vu hi->r x lo hi H Q->
  ∃T id,typeLookup (.type T) "__getitem__" = pure (some (.builtin id))/\s.TypeIs v T/\wpAny (model X.prog X.w) X.A (getItem v (.ref sl)) (EP X pins Z Q) X.xe s
theorem SlR.or {r r':V->Option Int->Option Int->Hp->VK->Prop}(h:SlR X r)(h':SlR X r'):SlR X (λx lo hi H Q=>r x lo hi H Q\/r' x lo hi H Q):=by
 intro pins s Z H x v vl vu lo hi sl Q I rx hs pl pu q;rcases q with q | q
 ·exact h pins s Z H x v vl vu lo hi sl Q I rx hs pl pu q
 ·exact h' pins s Z H x v vl vu lo hi sl Q I rx hs pl pu q
def tSl (r:V->Option Int->Option Int->Hp->VK->Prop)(te:TE)(tl th:TO):TE:=λZ H Q=>te Z H λx H1=>tl Z H1 λl H2=>th Z H2 λu H3=>r x l u H3 Q
theorem OB {r:V->Option Int->Option Int->Hp->VK->Prop}(hr:SlR X r)(he:PE X e te)(hl:PO X lo tl)(hu:PO X hi th):PE X (.Subscript e (.Slice lo hi none p2) pos) (tSl r te tl th):=by
 intro pins s Z H Q I h;refine Subscript_ (thn (he pins s Z H _ I h) λv s1 z9=>?_);obtain ⟨x,H1,I1,r1,q1⟩:=z9;refine wpAny_Slice (thn (hl pins s1 Z H1 _ I1 q1) λvl s2 ⟨l,H2,I2,pl,q2⟩=>thn (hu pins s2 Z H2 _ I2 q2) λvu s3 z9=>?_);obtain ⟨u,H3,I3,pu,q3⟩:=z9;rw [evalPart_none];refine wpAny_pure ?_;have I4:Inv X pins Z H3 { s3 with heap:=s3.heap.push { cls:=.type "slice",data:=.fields #[vl,vu,.none] } }:=I3.kept (t':=s3.toks) λb ob q=>Heap.get?_push_of_some _ q;obtain ⟨T,id,hT,ht,hg⟩:=hr pins { s3 with heap:=s3.heap.push { cls:=.type "slice",data:=.fields #[vl,vu,.none] } } Z H3 x v vl vu l u s3.heap.objs.size Q I4 r1 (Heap.IsSliceOf.new ..) pl pu q3;show wpAny (model X.prog X.w) X.A (subscriptTail e (.Slice lo hi none p2) v (.ref s3.heap.objs.size)) (EP X pins Z Q) X.xe { s3 with heap:=s3.heap.push { cls:=.type "slice",data:=.fields #[vl,vu,.none] } };exact tail_any (ops:=[.ref s3.heap.objs.size,v]) ht hT hg (by with_unfolding_all rfl)
def Fm (xs:List V)(lo hi:Option Int):List V:=(xs.drop (HT.sIx xs.length 0 lo)).take (HT.sIx xs.length xs.length hi - HT.sIx xs.length 0 lo)
theorem GE (xs:List V)(lo hi:Option Int):(Fm xs lo hi).length<=xs.length:=by
 unfold Fm;rw [List.length_take,List.length_drop];lia
def Su (K:PySem.W.Frag):V->Option Int->Option Int->Hp->VK->Prop:=λx lo hi H Q=>∃a xs,x = .ref a/\SqT K H a xs/\
 ¬(HT.sIx xs.length 0 lo=0/\HT.sIx xs.length xs.length hi=xs.length)/\∀p,H p=none->Q (.ref p) (upd H p (.tup (Fm xs lo hi)))
theorem SG:SlR X (Su X.K):=by
 intro pins s Z H x v vl vu lo hi sl Q I rx hs pl pu h;obtain ⟨a,xs,rfl,hx,hw,q⟩:=h
 cases rx
 obtain ⟨its,r,ht,hz⟩:=I.tuple hx;have hlen:its.toArray.size=xs.length:=by rw [List.size_toArray];exact r.length.symm
 refine ⟨"tuple",_,PyProof.Rows.slot_tuple_getitem.lookup,ht.typeIs,?_⟩;refine HT.GC ht hs pl pu (by rw [hlen];exact hw) ?_ (by rw [hlen];exact hz);rw [hlen];refine ⟨.ref s.heap.objs.size,_,I.laid (t':=s.toks) (o:=.tup (Fm xs lo hi)) (λb ob q=>Heap.get?_push_of_some _ q) (Nat.le_refl _) ?_,rfl,q _ (I.hok.fresh (Nat.le_refl _))⟩;exact ⟨Nat.le_trans (GE xs lo hi) hz,_,(r.drop (HT.sIx xs.length 0 lo)).take (HT.sIx xs.length xs.length hi - HT.sIx xs.length 0 lo),IsTup.new _ _⟩
def Pq (K:PySem.W.Frag):R2:=λx y H Q=>∃a b xs ys,x = .ref a/\y = .ref b/\SqT K H a xs/\SqT K H b ys/\xs≠[]/\xs.length + ys.length<=sizeLine/\
 (ys=[]->Q (.ref a) H)/\(ys≠[]->∀p,H p=none->Q (.ref p) (upd H p (.tup (xs++ys))))
theorem Vals.nil_iff {xs:List V}{us:List Value}(r:Vals xs us):us=[]↔xs=[]:=by
 cases r with
 | nil=>simp
 | cons _ _=>simp
theorem Qo:OpR X (binaryOp .Add) (Pq X.K):=by
 intro pins s Z H x y v u Q I rx ry h;obtain ⟨a,b,xs,ys,rfl,rfl,ha,hb,hx,hz,q1,q2⟩:=h
 cases rx
 cases ry
 obtain ⟨its,r1,p1,_⟩:=I.tuple ha;obtain ⟨its2,r2,p2,_⟩:=I.tuple hb;refine HT.PR p1 p2 (λz=>hx (r1.nil_iff.mp z)) (λz=>⟨.ref a,H,I,rfl,q1 (r2.nil_iff.mp z)⟩) (λz=>?_) (by rw [<-r1.length,<-r2.length];exact hz);refine ⟨.ref s.heap.objs.size,_,I.laid (t':=s.toks) (o:=.tup (xs++ys)) (λb ob q=>Heap.get?_push_of_some _ q) (Nat.le_refl _) ?_,rfl,q2 (λw=>z (r2.nil_iff.mpr w)) _ (I.hok.fresh (Nat.le_refl _))⟩;exact ⟨by rw [List.length_append];exact hz,_,r1.append r2,IsTup.new _ _⟩
end
noncomputable def ixN (n:Nat)(i:Int):Option Nat:=if 0<=i then (if i < n then some i.toNat else none) else if -(n:Int)<=i then some (i + n).toNat else none
def atI {α:Type}(xs:List α)(i:Int):Option α:=(ixN xs.length i).bind λj=>xs[j]?
variable {n:Nat}
theorem LJ {i:Int}{j:Nat}(h:ixN n i=some j):seqIndex? i n=some j/\j < n/\-(n:Int)<=i/\i < n:=by
 unfold ixN at h
 by_cases h0:0<=i
 ·rw [if_pos h0] at h
  by_cases h1:i < n
  ·rw [if_pos h1] at h;have e:i.toNat=j:=Option.some.inj h;exact ⟨by rw [seqIndex_of h0 h1,e],by lia,by lia,h1⟩
  ·rw [if_neg h1] at h;cases h
 ·rw [if_neg h0] at h
  by_cases h1 : -(n:Int)<=i
  ·rw [if_pos h1] at h;have e:(i + n).toNat=j:=Option.some.inj h;exact ⟨by rw [seqIndex_neg (by lia) h1,e],by lia,h1,by lia⟩
  ·rw [if_neg h1] at h;cases h
variable {α:Type}
theorem HH {xs:List α}{i:Int}{v:α}(h:atI xs i=some v):∃j,seqIndex? i xs.length=some j/\xs[j]?=some v/\j < xs.length/\-(xs.length:Int)<=i/\i < xs.length:=by
 unfold atI at h
 cases e:ixN xs.length i with
 | none=>rw [e] at h;cases h
 | some j=>
   rw [e] at h;obtain ⟨h1,h2,h3,h4⟩:=LJ e;exact ⟨j,h1,h,h2,h3,h4⟩
theorem HI {xs:List α}{j:Nat}{v:α}(h:xs[j]?=some v):atI xs (j:Int)=some v:=by
 have hj:j < xs.length:=(List.getElem?_eq_some_iff.mp h).1;have e:ixN xs.length (j:Int)=some j:=by
  unfold ixN;rw [if_pos (by lia),if_pos (by lia)];simp
 unfold atI;rw [e];exact h
def Lv (b:Expr):Prop:=∀o i,subscripted b false o i=operate [o,i] (getItem o i)
def IxR (X:Cx)(r:R2):Prop:=
 ∀(value slice:Expr) (pins:List (Addr×Obj)) (s:Shared) (Z:St) (H:Hp) (x y:V) (v u:Value) (Q:VK),Inv X pins Z H s->RelV x v->RelV y u->r x y H Q->
  subscripted slice false v u=operate [v,u] (getItem v u)->wpAny (model X.prog X.w) X.A (subscriptTail value slice v u) (EP X pins Z Q) X.xe s
def MtR (X:Cx)(id:String)(r:V->List V->Hp->VK->Prop):Prop:=
 ∀(pins:List (Addr×Obj)) (s:Shared) (Z:St) (H:Hp) (x:V) (xs:List V) (v:Value) (us:List Value) (Q:VK),Inv X pins Z H s->RelV x v->Vals xs us->r x xs H Q->
  wpAny (model X.prog X.w) X.A (call (.builtin id) (v :: us)) (EP X pins Z Q) X.xe s
variable {s:Shared}{its:List Value}{x:V}
section
variable {X:Cx}{a b:Expr}{ta tb:TE}{pos:Pos}
theorem IxR.or {r r':R2}(h:IxR X r)(h':IxR X r'):IxR X (λx y H Q=>r x y H Q\/r' x y H Q):=by
 intro value slice pins s Z H x y v u Q I rx ry q hs;rcases q with q | q
 ·exact h value slice pins s Z H x y v u Q I rx ry q hs
 ·exact h' value slice pins s Z H x y v u Q I rx ry q hs
theorem Tu {r:R2}(hr:IxR X r)(ha:PE X a ta)(hb:PE X b tb)(hs:Lv b):PE X (.Subscript a b pos) (tOp r ta tb):=by
 intro pins s Z H Q I h;exact Subscript_ (N2 ha hb I h λv u s2 x y H2 I2 rx ry q=>hr a b pins s2 Z H2 x y v u Q I2 rx ry q (hs _ _))
def Sk (K:PySem.W.Frag):R2:=λx y H Q=>∃p xs i v,x = .ref p/\y = .int i/\SqL K H p xs/\atI xs i=some v/\Q v H
def Sn (K:PySem.W.Frag):R2:=λx y H Q=>∃p xs i v,x = .ref p/\y = .int i/\SqT K H p xs/\atI xs i=some v/\Q v H
def Sm:R2:=λx y H Q=>∃z i c,x = .str z/\y = .int i/\z.length<=sizeLine/\atI z.cps.toList i=some c/\Q (.str ⟨#[c]⟩) H
theorem ix_list:IxR X (Sk X.K):=by
 intro value slice pins s Z H x y v u Q I rx ry h hs;obtain ⟨p,xs,i,z,rfl,rfl,hq,he,q⟩:=h
 cases rx
 obtain ⟨t,rfl⟩:=ry;obtain ⟨its,r,pl,hz⟩:=I.list hq;obtain ⟨j,h1,h2,h3,h4,h5⟩:=HH he;obtain ⟨w,ew,rw'⟩:=r.get h2;have hl:=r.length;have hn:=FZ;have fin:EP X pins Z Q w s:=⟨z,H,I,rw',q⟩
 by_cases h0:0<=i
 ·have hj:i.toNat=j:=by
   rw [seqIndex_of h0 h5] at h1;exact Option.some.inj h1
  exact item_listR pl.isList h0 (by lia) (by rw [hj];simpa using ew) fin hs
 ·have hj:(i + (its.toArray.size:Int)).toNat=j:=by
   rw [seqIndex_neg (by lia) h4] at h1;rw [List.size_toArray,<-hl];exact Option.some.inj h1
  exact subscriptTail_builtinR (x:=w) pl.isList.typeIs slot_list_getitem.lookup
   (wpAny_getItem_list_neg (Q:=λr s'=>r=w/\EP X pins Z Q r s') pl.isList (by lia) (by rw [List.size_toArray] <;> lia) (by lia) (by rw [hj];simpa using ew) ⟨rfl,fin⟩) hs
theorem ix_tup:IxR X (Sn X.K):=by
 intro value slice pins s Z H x y v u Q I rx ry h hs;obtain ⟨p,xs,i,z,rfl,rfl,hq,he,q⟩:=h
 cases rx
 obtain ⟨t,rfl⟩:=ry;obtain ⟨its,r,pl,hz⟩:=I.tuple hq;obtain ⟨j,h1,h2,h3,h4,h5⟩:=HH he;obtain ⟨w,ew,rw'⟩:=r.get h2;have hl:=r.length;have hn:=FZ;have fin:EP X pins Z Q w s:=⟨z,H,I,rw',q⟩;exact subscriptTail_builtinR (x:=w) pl.typeIs slot_tuple_getitem.lookup
  (getItem_tuple (j:=j) (Q:=λr s'=>r=w/\EP X pins Z Q r s') pl (by lia) (by lia) (by rw [List.size_toArray,<-hl];exact h1) (by simpa using ew) ⟨rfl,fin⟩) hs
theorem RB:IxR X Sm:=by
 intro value slice pins s Z H x y v u Q I rx ry h hs;obtain ⟨z,i,c,rfl,rfl,hz,he,q⟩:=h;obtain ⟨t,rfl⟩:=rx;obtain ⟨t',rfl⟩:=ry;obtain ⟨j,h1,h2,h3,h4,h5⟩:=HH he;have hl:z.cps.toList.length=z.length:=by simp [Str.length]
 rw [hl] at h1 h4 h5;have hn:=FZ;exact tail_any (typeIs_str s z t) slot_str_getitem.lookup (getItem_str (c:=c) (by
  have e1:decide (i < -(2 ^ 63:Int))=false:=decide_eq_false (by lia);have e2:decide (i ≥ 2 ^ 63)=false:=decide_eq_false (by lia);rw [e1,e2,Bool.or_false]) (by rw [h1];simpa using h2) ⟨.str ⟨#[c]⟩,H,I.tok _,⟨_,rfl⟩,q⟩) hs
def rIx (K:PySem.W.Frag):R2:=λx y H Q=>Sk K x y H Q\/Sn K x y H Q\/Sm x y H Q
theorem Am:IxR X (rIx X.K):=ix_list.or (ix_tup.or RB)
theorem Ms (its:List Value)(n j:Nat)(u:Value):Obj.mapSeq (·.setIfInBounds j u) { cls:=.type "list",data:=.seq its.toArray n } = { cls:=.type "list",data:=.seq (its.set j u).toArray n }:=by
 simp [Obj.mapSeq]
theorem Inv.lst {pins:List (Addr×Obj)}{Z:St}{H:Hp}{s:Shared}{p:Addr}{xs:List V}(I:Inv X pins Z H s)(h:H p=some (.lst xs)) :
 ∃(its:List Value) (n:Nat),Vals xs its/\s.heap.get? p=some { cls:=.type "list",data:=.seq its.toArray n }/\xs.length<=sizeLine:=by
 obtain ⟨z,its,n,r,e⟩:=I.hok p _ h;exact ⟨its,n,r,e,z⟩
theorem Inv.lstUpd {pins:List (Addr×Obj)}{Z:St}{H:Hp}{p:Addr}{xs ys:List V}{its':List Value}{n':Nat}{f:Obj->Obj}(I:Inv X pins Z H s)(h:H p=some (.lst xs))
 (ho:s.heap.get? p=some { cls:=.type "list",data:=.seq its.toArray n }) (hf:f { cls:=.type "list",data:=.seq its.toArray n } = { cls:=.type "list",data:=.seq its'.toArray n' }) (r:Vals ys its') (hz:ys.length<=sizeLine) (t:Nat) :
 Inv X pins Z (upd H p (.lst ys)) { s with heap:=s.heap.update p f,toks:=t }:=by
 have e:(s.heap.update p f).get? p=some { cls:=.type "list",data:=.seq its'.toArray n' }:=by
  rw [Heap.get?_update_self f ho (by rw [hf] <;> rfl),hf]
 refine I.write (x:=p) (e:=p) (by rw [h];trivial) (.inl rfl) (λb u hb q=>(Heap.get?_update_other _ _ (Ne.symm hb)).trans q) ⟨_,e⟩ ?_;exact ⟨hz,its',n',r,e⟩
def TC:V->V->V->Hp->(Hp->Prop)->Prop:=λo i v H Q=>∃p xs k j,o = .ref p/\i = .int k/\H p=some (.lst xs)/\ixN xs.length k=some j/\Q (upd H p (.lst (xs.set j v)))
theorem OX:Rb X TC:=by
 intro pins s Z H o i v ov iv u Q I ro ri rv h;obtain ⟨p,xs,k,j,rfl,rfl,hp,hj,q⟩:=h
 cases ro
 obtain ⟨t,rfl⟩:=ri;obtain ⟨its,n,r,ho,hz⟩:=I.lst hp;obtain ⟨h1,h2,h3,h4⟩:=LJ hj;have hl:=r.length;have hn:=FZ;have I':Inv X pins Z (upd H p (.lst (xs.set j v))) { s with heap:=s.heap.update p (Obj.mapSeq (·.setIfInBounds j u)) }:=
  I.lstUpd hp ho (Ms its n j u) (r.set rv j) (by rw [List.length_set];exact hz) s.toks
 by_cases h0:0<=k
 ·have hk:k.toNat=j:=by
   rw [seqIndex_of h0 h4] at h1;exact Option.some.inj h1
  exact PySem.W.ki_setAt ho h0 (by lia) (by rw [List.size_toArray,<-hl];exact h4) (by rw [hk];exact ⟨_,I',q⟩)
 ·have hk:(k + (its.toArray.size:Int)).toNat=j:=by
   rw [seqIndex_neg (by lia) h3] at h1;rw [List.size_toArray,<-hl];exact Option.some.inj h1
  exact PySem.W.ki_setBack ho (by lia) (by rw [List.size_toArray,<-hl];exact h3) (by lia) (by rw [hk];exact ⟨_,I',q⟩)
theorem K4 (lo hi:Option Int)(n:Nat):(sliceBounds lo hi none n).1=((HT.sIx n 0 lo:Nat):Int)/\(sliceBounds lo hi none n).2.1=((HT.sIx n n hi:Nat):Int)/\(sliceBounds lo hi none n).2.2=1:=by
 refine ⟨?_,?_,rfl⟩
 ·cases lo with
  | none=>simp [sliceBounds,HT.sIx]
  | some i=>
    simp only [sliceBounds,HT.sIx,Option.getD_none,show (1:Int) > 0 by decide,if_true]
    by_cases h:i < 0
    ·simp only [h,if_true] <;> lia
    ·simp only [h,if_false] <;> lia
 ·cases hi with
  | none=>simp [sliceBounds,HT.sIx]
  | some i=>
    simp only [sliceBounds,HT.sIx,Option.getD_none,show (1:Int) > 0 by decide,if_true]
    by_cases h:i < 0
    ·simp only [h,if_true] <;> lia
    ·simp only [h,if_false] <;> lia
theorem JA (its:List Value)(lo hi:Option Int):slicePick its.toArray lo hi none=((its.drop (HT.sIx its.length 0 lo)).take (HT.sIx its.length its.length hi - HT.sIx its.length 0 lo)).toArray:=by
 obtain ⟨h1,h2,h3⟩:=K4 lo hi its.toArray.size;unfold slicePick;rw [h1,h2,h3];simp only [sliceRange_one,pick_run,List.size_toArray] <;> rfl
def Sr (K:PySem.W.Frag):V->Option Int->Option Int->Hp->VK->Prop:=λx lo hi H Q=>∃a xs,x = .ref a/\SqL K H a xs/\∀p,H p=none->Q (.ref p) (upd H p (.lst (Fm xs lo hi)))
theorem sl_list:SlR X (Sr X.K):=by
 intro pins s Z H x v vl vu lo hi sl Q I rx hs pl pu h;obtain ⟨a,xs,rfl,hx,q⟩:=h
 cases rx
 obtain ⟨its,r,ht,hz⟩:=I.list hx;have hlen:=r.length;refine ⟨"list",_,slot_list_getitem.lookup,ht.isList.typeIs,?_⟩;refine wpAny_getItem_list_slice ht.isList hs pl pu .none (by simp) ?_ (by rw [List.size_toArray] <;> lia);rw [JA,<-hlen];refine ⟨.ref s.heap.objs.size,_,I.laid (t':=s.toks) (o:=.lst (Fm xs lo hi)) (λb ob q=>Heap.get?_push_of_some _ q) (Nat.le_refl _) ?_,rfl,q _ (I.hok.fresh (Nat.le_refl _))⟩;exact ⟨Nat.le_trans (GE xs lo hi) hz,_,0,(r.drop (HT.sIx xs.length 0 lo)).take (HT.sIx xs.length xs.length hi - HT.sIx xs.length 0 lo),Heap.get?_push_size _ rfl⟩
noncomputable def El:V->Bool
 | .non=>true
 | .bl _=>true
 | .int _=>true
 | .str _=>true
 | _=>false
noncomputable def eqV:V->V->Bool
 | .non,.non=>true
 | .bl a,.bl b=>a == b
 | .bl a,.int b=>(if a then 1 else 0) == b
 | .int a,.bl b=>a == (if b then 1 else 0)
 | .int a,.int b=>a == b
 | .str a,.str b=>a == b
 | _,_=>false
theorem Rn {A:Around}{y:V}{u v:Value}(ry:RelV y u)(rx:RelV x v)(fy:El y=true)(fx:El x=true):SeqAt.EqAt A s u v (eqV y x):=by
 cases y with
 | non=>
   cases ry
   cases x with
   | non=>cases rx;exact SeqAt.EqAt.same _
   | bl b=>cases rx;exact SeqAt.EqAt.none_bool b
   | int b=>obtain ⟨t,rfl⟩:=rx;exact SeqAt.EqAt.none_int b t
   | str b=>obtain ⟨t,rfl⟩:=rx;exact SeqAt.EqAt.none_str b t
   | _=>exact absurd (show false=true from fx) Bool.false_ne_true
 | bl a=>
   cases ry
   cases x with
   | non=>cases rx;exact SeqAt.EqAt.bool_none a
   | bl b=>cases rx;exact SeqAt.EqAt.bool_bool a b
   | int b=>obtain ⟨t,rfl⟩:=rx;exact SeqAt.EqAt.bool_int a b t
   | str b=>obtain ⟨t,rfl⟩:=rx;exact SeqAt.EqAt.bool_str a b t
   | _=>exact absurd (show false=true from fx) Bool.false_ne_true
 | int a=>
   obtain ⟨t',rfl⟩:=ry
   cases x with
   | non=>cases rx;exact SeqAt.EqAt.int_none a t'
   | bl b=>cases rx;exact SeqAt.EqAt.int_bool a t' b
   | int b=>obtain ⟨t,rfl⟩:=rx;exact SeqAt.EqAt.int_int a t' b t
   | str b=>obtain ⟨t,rfl⟩:=rx;exact SeqAt.EqAt.int_str a t' b t
   | _=>exact absurd (show false=true from fx) Bool.false_ne_true
 | str a=>
   obtain ⟨t',rfl⟩:=ry
   cases x with
   | non=>cases rx;exact SeqAt.EqAt.str_none a t'
   | bl b=>cases rx;exact SeqAt.EqAt.str_bool a t' b
   | int b=>obtain ⟨t,rfl⟩:=rx;exact SeqAt.EqAt.str_int a t' b t
   | str b=>obtain ⟨t,rfl⟩:=rx;exact SeqAt.EqAt.str_str a t' b t
   | _=>exact absurd (show false=true from fx) Bool.false_ne_true
 | _=>exact absurd (show false=true from fy) Bool.false_ne_true
def eqU (x:V)(u:Value):Bool:=match u with
 | .none=>eqV .non x
 | .bool b=>eqV (.bl b) x
 | .int i _=>eqV (.int i) x
 | .str z _=>eqV (.str z) x
 | _=>false
theorem Na {y:V}{u:Value}(r:RelV y u)(f:El y=true):eqU x u=eqV y x:=by
 cases y with
 | non=>cases r;rfl
 | bl b=>cases r;rfl
 | int i=>obtain ⟨t,rfl⟩:=r;rfl
 | str z=>obtain ⟨t,rfl⟩:=r;rfl
 | _=>exact absurd (show false=true from f) Bool.false_ne_true
theorem HG {x:V}:∀{xs:List V} {us:List Value},Vals xs us->xs.all El=true->us.any (eqU x)=xs.any λy=>eqV y x
 | _,_,.nil,_=>rfl
 | y :: xs,u :: us,.cons r t,f=>by
   rw [List.all_cons,Bool.and_eq_true] at f;rw [List.any_cons,List.any_cons,Na r f.1,HG t f.2]
theorem GT {A:Around}{s:Shared}{x:V}{v:Value}(rx:RelV x v)(fx:El x=true):∀{xs:List V} {us:List Value},Vals xs us->xs.all El=true->∀u∈us,SeqAt.EqAt A s u v (eqU x u)
 | _,_,.nil,_=>λu hu=>by cases hu
 | y :: xs,u :: us,.cons r t,f=>λu' hu=>by
   rw [List.all_cons,Bool.and_eq_true] at f;rcases List.mem_cons.mp hu with rfl | hu
   ·rw [Na r f.1];exact Rn r rx f.1 fx
   ·exact GT rx fx t f.2 u' hu
def inV (x:V)(xs:List V):Bool:=xs.any λy=>eqV y x
def rIn (K:PySem.W.Frag)(neg:Bool):R2:=λx y H Q=>∃p xs,y = .ref p/\(SqL K H p xs\/SqT K H p xs)/\El x=true/\xs.all El=true/\Q (.bl (if neg then !inV x xs else inV x xs)) H
theorem F1:OpR X (compareOp .NotIn) (rIn X.K true):=by
 intro pins s Z H x y v u Q I rx ry h;obtain ⟨p,xs,rfl,hq,fx,fs,q⟩:=h
 cases ry
 rcases hq with hq | hq
 ·obtain ⟨its,r,pl,hz⟩:=I.list hq;refine SeqAt.notIn_listAt (eqU x) pl.isList (λw hw=>GT rx fx r fs w (by simpa using hw)) ⟨.bl _,H,I,rfl,?_⟩;rw [show its.toArray.any (eqU x)=its.any (eqU x) by simp,HG r fs];exact q
 ·obtain ⟨its,r,pl,hz⟩:=I.tuple hq;refine SeqAt.notIn_tupleAt (eqU x) pl (λw hw=>GT rx fx r fs w (by simpa using hw)) ⟨.bl _,H,I,rfl,?_⟩;rw [show its.toArray.any (eqU x)=its.any (eqU x) by simp,HG r fs];exact q
theorem DF:BR X (.type "list") (λxs H Q=>∃p ys,xs=[.ref p]/\(SqL X.K H p ys\/SqT X.K H p ys)/\∀l,H l=none->Q (.ref l) (upd H l (.lst ys))):=by
 intro pins s Z H xs us Q I r h;obtain ⟨p,ys,rfl,hq,q⟩:=h;obtain ⟨u,rfl,rx⟩:=Eo r
 cases rx
 have fin:∀(its:List Value),Vals ys its->ys.length<=sizeLine->∀(h':Heap) (c':Nat),(∀b o',s.heap.get? b=some o'->h'.get? b=some o')->
  h'.get? s.heap.objs.size=some { cls:=.type "list",dict:=none,data:=.seq its.toArray c',slots:=#[] }->EP X pins Z Q (.ref s.heap.objs.size) { s with heap:=h' }:=λits r' hz h' c' kp e=>
  ⟨.ref s.heap.objs.size,_,I.laid (t':=s.toks) kp (Nat.le_refl _) (show ObjOk X.prog X.w _ h' _ (.lst ys) from ⟨hz,its,c',r',e⟩),rfl,q _ (I.hok.fresh (Nat.le_refl _))⟩
 rcases hq with hq | hq
 ·obtain ⟨its,r',pl,hz⟩:=I.list hq;have hlen:=r'.length;obtain ⟨o,ho,hc,n,hd⟩:=pl.isList;exact call_list_seq p (.inl rfl) ho hc hd (λh' c' kp e=>fin its r' hz h' c' kp e) (by simp only [List.size_toArray] <;> lia)
 ·obtain ⟨its,r',pl,hz⟩:=I.tuple hq;have hlen:=r'.length;obtain ⟨o,ho,hc,n,hd⟩:=pl;exact call_list_seq p (.inr rfl) ho hc hd (λh' c' kp e=>fin its r' hz h' c' kp e) (by simp only [List.size_toArray] <;> lia)
theorem Jn:BR X (.type "tuple") (λxs H Q=>∃p ys,xs=[.ref p]/\((SqL X.K H p ys/\∀l,H l=none->Q (.ref l) (upd H l (.tup ys)))\/(SqT X.K H p ys/\Q (.ref p) H))):=by
 intro pins s Z H xs us Q I r h;obtain ⟨p,ys,rfl,h⟩:=h;obtain ⟨u,rfl,rx⟩:=Eo r
 cases rx
 rcases h with ⟨hq,q⟩ | ⟨hq,q⟩
 ·obtain ⟨its,r',pl,hz⟩:=I.list hq;have hlen:=r'.length;refine call_tuple_list pl.isList (λh' kp=>?_) (by simp only [List.size_toArray] <;> lia);have I1:Inv X pins Z H { s with heap:=h' }:=I.kept (t':=s.toks) kp;have I2:Inv X pins Z (upd H h'.objs.size (.tup ys)) { s with heap:=h'.push { cls:=.type "tuple",data:=.seq its.toArray } }:=
   I1.laid (t':=s.toks) (λb o e=>Heap.get?_push_of_some _ e) (Nat.le_refl _) (show ObjOk X.prog X.w _ _ _ (.tup ys) from ⟨hz,its,r',IsTup.new _ _⟩)
  exact ⟨.ref h'.objs.size,_,I2,rfl,q _ (I1.hok.fresh (Nat.le_refl _))⟩
 ·obtain ⟨its,r',pl,hz⟩:=I.tuple hq;exact call_tuple_same pl ⟨.ref p,H,I,rfl,q⟩
def tyV (K:PySem.W.Frag)(T:String)(x:V)(H:Hp):Prop:=match x with
 | .str _=>T = "str"
 | .int _=>T = "int"
 | .ref p=>(T = "list"/\∃xs,SqL K H p xs)\/(T = "tuple"/\∃o,K.lookup p=some o/\o.cls = .type "tuple"/\o.dict=none)\/
    (T = "dict"/\((∃kvs,H p=some (.dK kvs))\/∃kvs,H p=some (.dT kvs)))\/(T = "set"/\∃S n,H p=some (.set S n))
 | _=>False
theorem SR {pins:List (Addr×Obj)}{Z:St}{H:Hp}{T:String}{v:Value}(I:Inv X pins Z H s)(r:RelV x v)(ty:tyV X.K T x H) :
 s.TypeIs v T/\∀a,v = .ref a->∃ob,s.heap.get? a=some ob/\ob.dict=none:=by
 cases x with
 | str z=>
   obtain ⟨t,rfl⟩:=r
   cases (show T = "str" from ty)
   exact ⟨typeIs_str s z t,λ_ e=>nomatch e⟩
 | int i=>
   obtain ⟨t,rfl⟩:=r
   cases (show T = "int" from ty)
   exact ⟨typeIs_int s i t,λ_ e=>nomatch e⟩
 | ref p=>
   cases r
   rcases ty with ⟨rfl,xs,hq⟩ | ⟨rfl,o,hk,hc,hd⟩ | ⟨rfl,hk⟩ | ⟨rfl,S,n,hk⟩
   ·obtain ⟨its,_,pl,_⟩:=I.list hq;refine ⟨pl.isList.typeIs,λa e=>?_⟩
    cases e
    obtain ⟨o,n,e,c,hd,_⟩:=pl;exact ⟨o,e,hd⟩
   ·refine ⟨⟨o,I.kIn p o hk,hc⟩,λa e=>?_⟩
    cases e
    exact ⟨o,I.kIn _ o hk,hd⟩
   ·have z:∃o,s.heap.get? p=some o/\o.ExactDict:=by
     rcases hk with ⟨kvs,hk⟩ | ⟨kvs,hk⟩
     ·obtain ⟨_,_,_,_,o,_,_,e,ex,_⟩:=I.hok p _ hk;exact ⟨o,e,ex⟩
     ·obtain ⟨_,_,_,_,o,_,_,e,ex,_⟩:=I.hok p _ hk;exact ⟨o,e,ex⟩
    obtain ⟨o,e,ex⟩:=z;refine ⟨⟨o,e,ex.1⟩,λa e2=>?_⟩
    cases e2
    exact ⟨o,e,ex.2.1⟩
   ·obtain ⟨o,_,_,_,e,ex,_⟩:=I.hok p _ hk;refine ⟨⟨o,e,ex.1⟩,λa e2=>?_⟩
    cases e2
    exact ⟨o,e,ex.2.1⟩
 | _=>exact False.elim ty
def tBM (K:PySem.W.Frag)(T:String)(r:V->List V->Hp->VK->Prop)(to:TE)(t:TA):TE:=λZ H Q=>to Z H λx H1=>tyV K T x H1/\t Z H1 λxs H2=>r x xs H2 Q
variable {o e:Expr}{es:List Expr}{to:TE}{t:TA}{name:Str}{apos cpos:Pos}{T id:String}{r:V->List V->Hp->VK->Prop}
theorem Mz (pa:PlainAttrs T)(slot:Slot T name id)(hty:typeOf (.builtin id)=pure (.type "method_descriptor"))(hm:MtR X id r)(ho:PE X o to)(ha:PA X (e :: es) t)
 (hbase:attributeBase o name X.env (eval o X.env)=eval o X.env:=by rfl)
 (hfew:((backTo cpos (starEach (e :: es) X.env)).all (λx=>!x.1) && (backToKw cpos (keywordEach [] X.env)).all (λx=>x.1.isSome)
   && decide ((e :: es).length + ([]:List Keyword).length + (if ([]:List Keyword).isEmpty then 0 else 1) < 30))=true:=by rfl)
 (hline:(apos.endLine == cpos.line)=true:=by rfl) (hs:starEach (e :: es) X.env=(false,eval e X.env) :: starEach es X.env:=by rfl) (hplain:(backTo cpos (starEach es X.env)).any (·.1)=false:=by rfl) :
 PE X (.Call (.Attribute o name apos) (e :: es) [] cpos) (tBM X.K T r to t):=by
 intro pins s Z H Q I h;refine wpAny_Call_method_late hbase hfew hline rfl (thn (ho pins s Z H _ I h) λv s1 z9=>?_);obtain ⟨x,H1,I1,r1,ty,q1⟩:=z9;obtain ⟨h1,h2⟩:=SR I1 r1 ty;refine ⟨T,id,pa,slot,hty,h1,h2,?_⟩;have hA:=ha cpos pins s1 Z H1 _ I1 q1;rw [hs] at hA ⊢;refine Calls.callWith_builtin (by show (false || (backTo cpos (starEach es X.env)).any (·.1))=false;rw [hplain] <;> rfl) (Calls.evalArgs_plain ?_);exact thn hA λus s2 ⟨vs,H2,I2,r2,q2⟩=>hm pins s2 Z H2 x vs v us Q I2 r1 r2 q2
/- xs.append(e),list.index on a module's tuple .. are MtR facts of 06m -/
end
def MtM (X:Cx)(id:String)(r:V->List V->Hp->VK->Prop):Prop:=
 ∀(pins:List (Addr×Obj)) (s:Shared) (Z:St) (H:Hp) (x:V) (xs:List V) (v:Value) (us:List Value) (Q:VK),Inv X pins Z H s->RelV x v->Vals xs us->r x xs H Q->
  wpAny (model X.prog X.w) X.A (call (.builtin id) (v :: us)) (EP X pins Z Q) X.xe s
theorem Vals.one {us:List Value}(h:Vals [x] us):∃u,us=[u]/\RelV x u:=by
 cases h with
 | cons r t=>
   cases t
   exact ⟨_,rfl,r⟩
theorem Vals.rep {xs:List V}{us:List Value}(h:Vals xs us):∀k:Nat,Vals (List.replicate k xs).flatten (List.replicate k us).flatten
 | 0=>.nil
 | k + 1=>by
   rw [List.replicate_succ,List.replicate_succ,List.flatten_cons,List.flatten_cons];exact Vals.append h (Vals.rep h k)
theorem FR (its:List Value):∀(k:Nat) (acc:List Value),
 List.foldl (λx1 x2=>x1++x2) acc.toArray (List.replicate k its.toArray)=(acc++(List.replicate k its).flatten).toArray
 | 0,acc=>by simp
 | k + 1,acc=>by
   have e:acc.toArray++its.toArray=(acc++its).toArray:=by simp
   have e2:(acc++its)++(List.replicate k its).flatten=acc++(List.replicate (k + 1) its).flatten:=by
    rw [List.replicate_succ,List.flatten_cons,List.append_assoc]
   rw [<-e2,<-FR its k (acc++its),<-e,List.replicate_succ,List.foldl_cons]
section
variable {X:Cx}{pins:List (Addr×Obj)}{Z:St}{H:Hp}{s:Shared}{l b:Addr}{xs ys zs:List V}
theorem Inv.lset {its':List Value}{f:Array Value->Array Value}{t':Nat}(I:Inv X pins Z H s)(hH:H l=some (.lst xs))
 (e:s.heap.get? l=some { cls:=.type "list",data:=.seq its.toArray n }) (hf:f its.toArray=its'.toArray) (hv:Vals ys its') (hz:ys.length<=sizeLine) :
 Inv X pins Z (upd H l (.lst ys)) { s with heap:=s.heap.update l (Obj.mapSeq f),toks:=t' }:=by
 have q:=PySem.IsL.update e f;rw [hf] at q;refine I.write (x:=l) (e:=l) (by rw [hH];exact trivial) (.inl rfl) (λb' u hb hu=>(Heap.get?_update_other s.heap (Obj.mapSeq f) (Ne.symm hb)).trans hu) ⟨_,q⟩ ?_;exact ⟨hz,its',_,hv,q⟩
theorem Inv.lnew {t':Nat}(I:Inv X pins Z H s)(hv:Vals ys its)(hz:ys.length<=sizeLine) :
 Inv X pins Z (upd H s.heap.objs.size (.lst ys)) { s with heap:=s.heap.push { cls:=.type "list",data:=.seq its.toArray },toks:=t' }:=
 I.laid (λ_ _ q=>Heap.get?_push_of_some _ q) (Nat.le_refl _) ⟨hz,its,0,hv,Heap.get?_push_size _ rfl⟩
theorem Inv.fresh (I:Inv X pins Z H s):H s.heap.objs.size=none:=I.hok.fresh (Nat.le_refl _)
theorem Inv.lstM (I:Inv X pins Z H s)(hH:H l=some (.lst xs)):xs.length<=sizeLine/\∃(its:List Value) (n:Nat),Vals xs its/\xs.length=its.length/\s.heap.get? l=some { cls:=.type "list",data:=.seq its.toArray n }:=by
 obtain ⟨z,its,n,r,e⟩:=I.hok l _ hH;exact ⟨z,its,n,r,r.length,e⟩
theorem Ou (h:n<=sizeLine):Builtin.List.listTooLong n=false:=by
 unfold Builtin.List.listTooLong;exact decide_eq_false (by lia)
end
section
variable {X:Cx}
def LS:V->List V->Hp->VK->Prop:=λx vs H Q=>∃l xs y,x = .ref l/\vs=[y]/\H l=some (.lst xs)/\xs.length < sizeLine/\Q .non (upd H l (.lst (xs++[y])))
theorem Nu:MtM X "list.append" LS:=by
 intro pins s Z H x vs v us Q I rx rv h;obtain ⟨l,xs,y,rfl,rfl,hH,hz,q⟩:=h
 cases rx
 obtain ⟨u,rfl,ru⟩:=rv.one;obtain ⟨z,its,n,r,hl,e⟩:=I.lstM hH;refine call_meets F.slot_list_append ⟨_,e,rfl⟩ F.entry_list_append (F.args_list_append_2 _ _) (PySem.list_append l its.toArray n u (by rw [List.size_toArray];lia)) ⟨e,?_⟩;refine ⟨.non,_,I.lset (its':=its++[u]) hH e (by simp) (r.append (.cons ru .nil)) ?_,rfl,q⟩;rw [List.length_append,List.length_singleton];lia
def OH:R2:=λx y H Q=>∃l b xs zs,x = .ref l/\y = .ref b/\H l=some (.lst xs)/\H b=some (.lst zs)/\xs.length + zs.length<=sizeLine/\∀p,H p=none->Q (.ref p) (upd H p (.lst (xs++zs)))
theorem op_cat:OpR X (binaryOp .Add) OH:=by
 intro pins s Z H x y v u Q I rx ry h;obtain ⟨l,b,xs,zs,rfl,rfl,hH,hB,hz,q⟩:=h
 cases rx
 cases ry
 obtain ⟨z,its,n,r,hl,e⟩:=I.lstM hH;obtain ⟨z2,its2,n2,r2,hl2,e2⟩:=I.lstM hB;refine PySem.P.add_list e e2 ?_ (by rw [List.size_toArray,List.size_toArray];lia);have ea:its.toArray++its2.toArray=(its++its2).toArray:=by simp
 rw [ea];exact ⟨.ref _,_,I.lnew (t':=s.toks) (r.append r2) (by rw [List.length_append];lia),rfl,q _ I.fresh⟩
def So:R2:=λx y H Q=>∃l k xs,x = .ref l/\y = .int k/\H l=some (.lst xs)/\-(2 ^ 63)<=k/\k < 2 ^ 63/\xs.length * k.toNat<=sizeLine/\
 ∀p,H p=none->Q (.ref p) (upd H p (.lst (List.replicate k.toNat xs).flatten))
theorem HY (xs:List α)(k:Nat):(List.replicate k xs).flatten.length=k * xs.length:=by
 induction k with
 | zero=>simp
 | succ k ih=>rw [List.replicate_succ,List.flatten_cons,List.length_append,ih,Nat.succ_mul,Nat.add_comm]
theorem RW:OpR X (binaryOp .Mult) So:=by
 intro pins s Z H x y v u Q I rx ry h;obtain ⟨l,k,xs,rfl,rfl,hH,h1,h2,hz,q⟩:=h
 cases rx
 obtain ⟨t,rfl⟩:=ry;obtain ⟨z,its,n,r,hl,e⟩:=I.lstM hH;have hlen:its.toArray.size * k.toNat<=sizeLine:=by rw [List.size_toArray,<-hl];exact hz
 have hcap:¬its.toArray.size * k.toNat > (2 ^ 63 - 1) / 8:=by
  have:(sizeLine:Nat)<=(2 ^ 63 - 1) / 8:=by decide
  lia
 have hfit:¬(!Builtin.List.listFitsIndex k)=true:=by
  rw [fitsIndex_both h1 h2];exact Bool.false_ne_true
 have hlong:¬Builtin.List.listTooLong (its.toArray.size * k.toNat)=true:=by
  rw [Ou hlen];exact Bool.false_ne_true
 have hnew:List.foldl (λx1 x2=>x1++x2) #[] (List.replicate (if its.toArray.isEmpty=true then 0 else k.toNat) its.toArray)=(List.replicate k.toNat its).flatten.toArray:=by
  have f0:∀m:Nat,List.foldl (λx1 x2=>x1++x2) #[] (List.replicate m its.toArray)=(List.replicate m its).flatten.toArray:=λm=>by
   have:=FR its m [];rw [List.nil_append] at this;exact this
  rw [f0]
  cases its with
  | nil=>simp
  | cons a r'=>rw [if_neg (by simp)]
 refine wpAny_binaryOp_repeat_ref (T:="list") (U:="int") (by decide) ⟨_,e,rfl⟩ (λs'=>typeIs_int s' k t) noFill_list_mul F.fills_int_mul F.slot_int_rmul repeat_list F.slot_int_index.lookup
  (call_meets F.slot_int_rmul (typeIs_int s k t) F.entry_int_rmul (F.args_int_rmul_2 _ _) (int___rmul___int_list k t l its.toArray n)
    ⟨e,rfl,⟨_,e,rfl⟩,call_meets F.slot_list_mul ⟨_,e,rfl⟩ F.entry_list_mul (F.args_list_mul_2 _ _) (AutoListH.list___mul___list_int_3 l its.toArray n k t hfit hcap hlong) ⟨e,?_⟩⟩)
 rw [hnew];exact ⟨.ref _,_,I.lnew (t':=s.toks) (r.rep k.toNat) (by rw [HY,Nat.mul_comm];exact hz),rfl,q _ I.fresh⟩
end
section
variable {prog:Program}{w:World}{A:Around}{E:Value->Shared->Prop}{s:Shared}
end
section
variable {X:Cx}
end
end L2
namespace Att
open PySem PySem.W PySem.Calls PyProof.Rows
theorem Hl {P:Params}{h:Heap}:∀(ns:List Int) (vs:List Value),WellAll P h vs (ns.map WData.int)->IntsAre vs ns:=by
 intro ns
 induction ns with
 | nil=>
   intro vs w;rw [List.map_nil] at w
   cases w
   exact .nil
 | cons n ns ih=>
   intro vs w;rw [List.map_cons] at w
   cases w with
   | cons a b=>
     cases a
     exact .cons _ _ (ih _ b)
theorem NH {l:OpenLaw}{n:Nat}(hn:l.most=some n){P:Params}{h:Heap}{args:List WData}{vals:List Value}
 (hpre:l.row.toRowW.claim.pre args=true) (hwl:WellAll P h vals args) :
 ∃a vs ns,vals=[Value.ref a]/\args=[WData.list (ns.map WData.int)]/\h.get? a=some { cls:=.type "list",data:=.seq vs.toArray }/\IntsAre vs ns/\ns.length<=n:=by
 have hsh:WShape.hasAll [] args [.list .int]=true:=(pre_splitW hpre).1;have hc:l.pre.holds [] { args:=args }=true:=(pre_splitW hpre).2;obtain ⟨d,r,rfl,h1,h2⟩:=hasAllW_cons hsh;obtain rfl:=hasAllW_nil h2;obtain ⟨xs,rfl,h3⟩:=hasW_list h1;obtain ⟨ns,rfl⟩:=items_int h3;have hlen:ns.length<=n:=by
  unfold OpenLaw.pre at hc;have h4:(WTm.not (.lt (.lit (.int (n:Int))) (.len (.arg 0)))).holds [] { args:=[.list (ns.map .int)] }=true:=by
   have h4:=(holds_andW hc).1;rw [hn] at h4;exact h4
  have h5:=condW_of h4 (w_not (w_lt w_lit (w_len_list (w_arg rfl))));rw [List.length_map] at h5;refine Nat.le_of_not_lt λq=>?_;have q':(n:Int) < ((ns.length:Nat):Int):=by lia
  first
   | (rw [decide_eq_true q'] at h5;exact absurd h5 (by decide))
   | (simp at h5;lia)
 cases hwl with
 | cons w1 w2=>
   cases w2
   cases w1 with
   | list ho hall=>exact ⟨_,_,ns,rfl,rfl,ho,Hl ns _ hall,hlen⟩
theorem NC (l:OpenLaw)(args:List WData):l.row.toRowW.claim.post args (.bool true) args=true:=
 postW_of (r:=l.row.toRowW) (X:=(true == true))
  (show WShape.has [] (.bool true) .bool=true by first | rfl | decide | simp [WShape.has,WShape.arms,WShape.armsAll])
  (show (WTm.eq .res (.lit (.bool true))).value [] { args:=args,res:=some (.bool true),after:=args }=some (.bool (true == true)) from w_eq_bool (w_res rfl) w_lit) rfl
theorem attach_call {l:OpenLaw}{n:Nat}{q:Program}{loose:List Str}{XP:(Str->Option Value)->Heap->Prop}{YP:World->Heap->Prop}{d:DefRec}
 (hn:l.most=some n) (hdf:d.params.defaults=[])
 (call:∀(w:World) (s₀ s₁:Shared) (mg mb:Str->Option Value) (fa:Addr) (o:Obj) (pm cd doc:Value) (a:Addr) (vs:List Value) (ns:List Int),
   Ground q loose [] XP w s₀ mg mb s₁.heap->YP w s₁.heap->
   s₁.heap.get? fa=some o->o.data = .func (docDef d.name d.params d.body d.scope pm cd doc)->s₁.heap.CodeRec cd d.name->mg d.name=some (.ref fa)->
   s₁.heap.get? a=some { cls:=.type "list",data:=.seq vs.toArray }->IntsAre vs ns->ns.length<=n->s₁.gens=#[]->
   codeAny (model l.prog w) callerA (.call (.ref fa) ⟨[.ref a],[]⟩) (λr s'=>r = .ok (.ret (.bool true))/\OldK s₁.heap s'.heap/\s'.os=s₁.os/\AllBare s'.gens) s₁) :
 WalkO q loose XP YP l.row.toRowW d [] (λf vs=>PySem.call f vs):=by
 intro w s₀ s₁ mg mb G Y fa o pm cd doc dV kV ho hd hcd hD hmg hg args vals as hpre hlay hrd hwl hlo;obtain rfl:dV = .none:=Dflts.none hD hdf;obtain rfl:kV = .none:=Dflts.noKw hD;obtain ⟨a,vs,ns,rfl,rfl,hobj,hints,hlen⟩:=NH hn hpre hwl;refine enter_call (codeAny_mono (call w s₀ s₁ mg mb fa o pm cd doc a vs ns G Y ho (fd_plain hd) hcd hmg hobj hints hlen hg) λr s' hq=>?_);obtain ⟨rfl,h2,h3,h4⟩:=hq;exact ⟨.inl ⟨.bool true,.bool true,[],rfl,λ_=>rfl,.bool true,NC l _,λ_=>⟨List.Pairwise.nil,λ_ hm=>(nomatch hm)⟩⟩,h2,h3,h4⟩
section
variable {prog:Program}{w:World}{A:Around}{E:Value->Shared->Prop}{s:Shared}{K:Frag}
noncomputable def VJ (h:Heap)(L d:Addr):List (Addr×Obj):=(List.range h.objs.size).filterMap λa=>if a=L\/a=d then none else (h.get? a).map λo=>(a,o)
end
end Att
namespace L2
open PySem PySem.Spec PyProof.Rows
theorem Jj:∀{vs:List Value} {ns:List Int},IntsAre vs ns->Vals (ns.map V.int) vs
 | _,_,.nil=>.nil
 | _,_,.cons n t h=>.cons ⟨t,rfl⟩ (Jj h)
def L7 (H:Hp):Prop:=∀b,H b=none\/∃o xs,H b=some (.frz o (.lst xs))
variable {k:Nat}{fd:FuncData}{x:Str}
theorem Oi {P:Program}{w:World}{K:PySem.W.Frag}{mg mb:Str->Option Value}{CX:CXT}{fa a:Addr}{sp:Sp}{s₁:Shared}{vs:List Value}{ns:List Int}
 (KX:K.In s₁.heap) (hns:s₁.heap.Ns mainGlobals mg) (hb:s₁.heap.Ns builtinsNs mb) (hbb:∀x:Str,x≠"__name__"->mb x=bootBuiltins x) (hlim:s₁.heap.NoLimit) (hg:s₁.gens=#[])
 (ha:s₁.heap.get? a=some { cls:=.type "list",data:=.seq vs.toArray }) (hi:IntsAre vs ns) (hl:ns.length<=sizeLine) (hr:Room k callerA)
 (F:∀base:Heap,K.In base->base.Ns mainGlobals mg->FnOk P w K mg base CX k fa fd [x] sp) (hbind:∀(s:Shared) (u:Value),BindsTo s fd ⟨[u],[]⟩ [(x,u)])
 (hsp:∀H:Hp,L7 H->SqL K H a (ns.map V.int)->sp [.ref a] H (λv _=>v = .bl true) λ_ _ _=>False)
 (hCX:∀H e s',CX [] H s₁ (λ_ _ _=>False) e s'->False) :
 codeAny (model P w) callerA (.call (.ref fa) ⟨[.ref a],[]⟩) (λr s'=>r = .ok (.ret (.bool true))/\OldK s₁.heap s'.heap/\s'.os=s₁.os/\AllBare s'.gens) s₁:=by
 have rv:=Jj hi;have lenV:=hi.length
 -- from an abstract heap in which nothing but the script may be tracked
 have core:∀H:Hp,L7 H->SqL K H a (ns.map V.int)->HOk P w H s₁.heap->(∀b,H b≠none->b=a)->(H a≠none->K.lookup a=none)->
  codeAny (model P w) callerA (.call (.ref fa) ⟨[.ref a],[]⟩) (λr s'=>r = .ok (.ret (.bool true))/\OldK s₁.heap s'.heap/\s'.os=s₁.os/\AllBare s'.gens) s₁:=by
  intro H hO hS hok hA hK;have base_of:∀{b:Addr} {o:Obj},s₁.heap.get? b=some o->H b=none->(Ft s₁.heap H).get? b=some o:=λe n=>Oh e n;have noA:∀{b:Addr} {o:Obj} {es:Array DictEntry} {ep:Nat},s₁.heap.get? b=some o->o.data = .dict es ep->H b=none:=λ{b o es ep} e d=>by
   cases q:H b with
   | none=>rfl
   | some u=>
     have e':b=a:=hA b (by rw [q];simp);subst e';rw [ha] at e;cases e
     have d':Data.seq vs.toArray _=Data.dict es ep:=d
     cases d'
  have nsK:∀{b:Addr} {m:Str->Option Value},s₁.heap.Ns b m->(Ft s₁.heap H).Ns b m:=λ{b m} ⟨o,es,ep,e,d,r⟩=>⟨o,es,ep,base_of e (noA e d),d,r⟩;have hKb:K.In (Ft s₁.heap H):=λb o e=>base_of (KX b o e) (by
   cases q:H b with
   | none=>rfl
   | some u=>
     have e':b=a:=hA b (by rw [q];simp);subst e';rw [hK (by rw [q];simp)] at e;cases e)
  have hM:Mod K mg (Ft s₁.heap H):=⟨hKb,nsK hns,⟨mb,nsK hb,hbb⟩,let ⟨mc,h1,h2⟩:=hlim;⟨mc,nsK h1,h2⟩⟩;have e0:Env0 P w K mg (Ft s₁.heap H) callerA [] s₁ H:=⟨rfl,hM,λb o e=>Ql e,Nat.le_of_eq (Nj _ _),trivial,λb hb=>absurd (show b∈([]:List Addr) from hb) (by simp),hok,.of_eq hg⟩;refine codeAny_mono ((F _ hKb (nsK hns)).run callerA [] s₁ H ⟨[.ref a],[]⟩ [.ref a] [.ref a] _ _ hr e0 (hbind s₁ (.ref a)) (.cons rfl .nil) (hsp H hO hS)) λr s' h=>?_
  cases r with
  | error e=>exact (hCX H e s' h).elim
  | ok fl=>
    cases fl with
    | next=>exact False.elim h
    | brk=>exact False.elim h
    | cont=>exact False.elim h
    | ret u=>
      obtain ⟨v,H',os,bare,un,hok',r',q⟩:=h;have q':v = .bl true:=q;subst q';obtain rfl:u=Value.bool true:=r';refine ⟨rfl,OldK.of_keep λb o e=>?_,os,bare⟩
      cases q:H b with
      | none=>exact un.keep b o e q (by intro z;exact absurd (show b∈([]:List Addr) from z) (by simp)) (by simp)
      | some u=>
        rcases hO b with z | ⟨ob,xs,z⟩
        ·rw [q] at z;cases z
        ·have z2:=un.frzs b ob _ z;obtain ⟨e1,_⟩:=hok b _ z;obtain ⟨e2,_⟩:=hok' b _ z2;rw [e] at e1;cases e1
         exact e2
 cases hk:K.lookup a with
 | some o=>
   -- the script is one of the module's own objects
   have e:=KX a o hk;rw [ha] at e
   cases e
   refine core (λ_=>none) (λ_=>.inl rfl) (.inr ⟨_,vs.toArray,_,hk,rfl,rfl,rfl,by rw [List.size_toArray,lenV];exact hl,by simpa using rv⟩) (λb u z=>by have z':(none:Option HO)=some u:=z;cases z') (λb z=>absurd rfl z) λz=>absurd rfl z
 | none=>
   refine core (λb=>if b=a then some (.frz { cls:=.type "list",data:=.seq vs.toArray } (.lst (ns.map V.int))) else none) (λb=>?_) (.inl (.inr ⟨{ cls:=.type "list",data:=.seq vs.toArray },if_pos rfl⟩)) (λb u z=>?_) (λb z=>?_) λ_=>hk
   ·by_cases hb:b=a
    ·exact .inr ⟨_,_,if_pos hb⟩
    ·exact .inl (if_neg hb)
   ·by_cases hb:b=a
    ·have z':=(if_pos hb).symm.trans z
     cases z'
     subst hb;exact ⟨ha,by rw [List.length_map];exact hl,vs,_,rv,ha⟩
    ·have z':=(if_neg hb).symm.trans z
     cases z'
   ·by_cases hb:b=a
    ·exact hb
    ·exact absurd (if_neg hb) z
theorem Q3 {l:PySem.W.OpenLaw}{n:Nat}{q:Program}{loose:List Str}{XP:(Str->Option Value)->Heap->Prop}{YP:World->Heap->Prop}{d:DefRec}{K:Params->PySem.W.Frag}{CX:World->CXT}{sp:World->Sp}
 (hn:l.most=some n) (hn2:n<=sizeLine) (hdf:d.params.defaults=[]) (hr:Room k callerA)
 (hY:∀(w:World) (h:Heap),YP w h->(K w.params).In h)
 (F:∀(w:World) (mg:Str->Option Value) (fa:Addr) (h:Heap),(K w.params).In h->h.Ns mainGlobals mg->mg d.name=some (.ref fa)->
   ∃fd:FuncData,(∀(s:Shared) (u:Value),BindsTo s fd ⟨[u],[]⟩ [(x,u)])/\
    ∀base:Heap,(K w.params).In base->base.Ns mainGlobals mg->FnOk l.prog w (K w.params) mg base (CX w) k fa fd [x] (sp w))
 (hsp:∀(w:World) (H:Hp) (a:Addr) (ns:List Int),ns.length<=n->L7 H->SqL (K w.params) H a (ns.map V.int)->sp w [.ref a] H (λv _=>v = .bl true) λ_ _ _=>False)
 (hCX:∀(w:World) (H:Hp) (s:Shared) (e:Value) (s':Shared),CX w [] H s (λ_ _ _=>False) e s'->False) :
 PySem.W.WalkO q loose XP YP l.row.toRowW d [] (λf vs=>PySem.call f vs):=by
 refine Att.attach_call hn hdf λw s₀ s₁ mg mb fa o pm cd doc a vs ns G Y ho hd hcd hmg hobj hints hlen hg=>?_;have KX:=hY w _ Y;obtain ⟨fd,hb,hF⟩:=F w mg fa _ KX G.T.g hmg;exact Oi KX G.T.g G.T.b G.T.builtins G.T.nolimit hg hobj hints (Nat.le_trans hlen hn2) hr hF hb (λH hO hS=>hsp w H a ns hlen hO hS) λH e s'=>hCX w H s₁ e s'
noncomputable def Dz (s:Stmt):Arguments:=match s with
 | .FunctionDef _ a _ _ _ _ _ _ _ _=>a
 | _=>{ posonlyargs:=[],args:=[],vararg:=none,kwonlyargs:=[],kw_defaults:=[],kwarg:=none,defaults:=[] }
noncomputable def BV (s:Stmt):List Stmt:=match s with
 | .FunctionDef _ _ b _ _ _ _ _ _ _=>b
 | _=>[]
noncomputable def Av (s:Stmt):Scope:=match s with
 | .FunctionDef _ _ _ _ _ _ sc _ _ _=>sc
 | _=>{ kind:=.function,names:=[],isGenerator:=false,isCoroutine:=false }
abbrev CX0:CXT:=λ_ _ _ _ _ _=>False
abbrev E0:XK:=λ_ _ _=>False
theorem Ts {X:Cx}:JP CX0 X E0:=λ_ _ _ _ _ _ _ h=>h.elim
structure Fun (K:PySem.W.Frag)(x qual:Str)(st:Stmt)(f:Addr)(fd:FuncData):Prop where
 ex:∃(oc:Value) (od:Option Addr) (kV doc pm:Value) (an:Option Addr) (cdv ct:Value) (osl:Array (Option Value)),
  fd=PySem.W.fnOf x qual (Dz st) (BV st) (Av st) .none kV doc pm an cdv ct/\K.lookup f=some ⟨oc,od,.func fd,osl⟩/\PySem.W.codeIn K cdv qual=true
 kp:PySem.W.keepIn K (.ref f)=true
variable {qual:Str}{f:Addr}
section
variable {P:Program}{w:World}{K:PySem.W.Frag}{mg:Str->Option Value}{base:Heap}
theorem Fun.ok {st:Stmt}{N ps:List Str}{sp:Sp}(F:Fun K x qual st f fd)(S:FnScope N ps (Av st))(len:∀vs H Q E,sp vs H Q E->vs.length=ps.length)
 (hbody:∀(cdv:Value) (A:Around) (outer:List Env) (s:Shared) (H:Hp) (vs:List V) (Q:VK) (E:XK),Room k (A.deeper (envOfC qual (Av st) s.heap.objs.size f cdv))->sp vs H Q E->
   ∃t,PSs (Ee CX0 P w K mg base N qual (Av st) f cdv A outer s H E).nox (BV st) t/\t { nx:=λ_ H'=>Q .non H',rt:=Q } (Dq N vs) H):FnOk P w K mg base CX0 (k + 1) f fd ps sp:=by
 obtain ⟨oc,od,kV,doc,pm,an,cdv,ct,osl,rfl,lk,hcd⟩:=F.ex;refine Pk lk hcd S len λA outer s H vs Q E hr hsp=>?_;obtain ⟨t,h,q⟩:=hbody cdv A outer s H vs Q E hr hsp;exact ⟨t,h.nox,q⟩
theorem Fun.binds {st:Stmt}{ps:List Str}(F:Fun K x qual st f fd)
 (h:∀(kV doc pm:Value) (an:Option Addr) (cdv ct:Value) (us:List Value),us.length=ps.length->bindArgs (PySem.W.fnOf x qual (Dz st) (BV st) (Av st) .none kV doc pm an cdv ct) ⟨us,[]⟩=pure (ps.zip us)):Binds K fd ps []:=by
 obtain ⟨oc,od,kV,doc,pm,an,cdv,ct,osl,rfl,lk,hcd⟩:=F.ex;exact .all (h kV doc pm an cdv ct)
theorem Hh {st:Stmt}{oc:Value}{od an:Option Addr}{osl:Array (Option Value)}{kV doc pm cdv ct:Value}(l:K.lookup f=some ⟨oc,od,.func (PySem.W.fnOf x qual (Dz st) (BV st) (Av st) .none kV doc pm an cdv ct),osl⟩)
 (c:PySem.W.codeIn K cdv qual=true) (k:PySem.W.keepIn K (.ref f)=true):Fun K x qual st f (PySem.W.fnOf x qual (Dz st) (BV st) (Av st) .none kV doc pm an cdv ct):=⟨⟨oc,od,kV,doc,pm,an,cdv,ct,osl,rfl,l,c⟩,k⟩
end
section
variable {X:Cx}
end
def VS (H H':Hp):Prop:=∀b o,H b=some o->H' b=some o
section
variable {κ:Type}[DecidableEq κ]
noncomputable def O5 (kvs:List (κ×V))(k:κ):Option V:=(kvs.find? λkv=>decide (kv.1=k)).map (·.2)
noncomputable def Sg (kvs:List (κ×V))(k:κ)(v:V):List (κ×V):=
 if (kvs.any λkv=>decide (kv.1=k))=true then kvs.map (λkv=>if kv.1=k then (kv.1,v) else kv) else kvs++[(k,v)]
end
abbrev KT (H:Hp):List (List Key×V)->List (List Key×Addr×Value)->Prop:=Paired λp q=>p.1=q.1/\H q.2.1=some (.tup (p.1.map kV))/\RelV p.2 q.2.2
section
variable {P:Program}{w:World}{H:Hp}{h:Heap}{a:Addr}
end
def VQ (H:Hp)(a:Addr)(y:V)(r:Option V):Prop:=
 (∃kvs k,Rd H a (.dK kvs)/\y=kV k/\r=O5 kvs k)\/∃kvs k b,Rd H a (.dT kvs)/\y = .ref b/\H b=some (.tup (k.map kV))/\r=O5 kvs k
def VR (H:Hp)(a:Addr)(y v:V)(H':Hp):Prop:=
 (∃kvs k,H a=some (.dK kvs)/\y=kV k/\kvs.length < sizeLine/\H'=upd H a (.dK (Sg kvs k v)))\/
 ∃kvs k b,H a=some (.dT kvs)/\y = .ref b/\H b=some (.tup (k.map kV))/\kvs.length < sizeLine/\H'=upd H a (.dT (Sg kvs k v))
section
variable {X:Cx}{pins:List (Addr×Obj)}{Z:St}{H:Hp}{s:Shared}{a:Addr}{y v:V}{u r:Value}{o:Option V}{A:Around}{E:Value->Shared->Prop}
end
section
variable {X:Cx}{pins:List (Addr×Obj)}{Z:St}{H:Hp}{s:Shared}{a:Addr}{kvs:List (Key×V)}{k:Key}{u:Value}{A:Around}{E:Value->Shared->Prop}
end
section
variable {X:Cx}{o i e value:Expr}{pos pos' tpos:Pos}{td ty tv:TE}
end
section
variable {X:Cx}{pos:Pos}
end
theorem EA {env:Env}:∀(l:List (Str×NameKind)) (cs:List (Str×Addr)),(∀x c,cs.lookup x=some c->env.cells.lookup x=some c)->(∀y∈l,y.2 = .free->∃c,env.cells.lookup y.1=some c)->
 ∃cl,(forIn l cs λ(x:Str×NameKind) r=>(match x with | (name,kind)=>if (kind == NameKind.free)=true then do let c <-cellOf env name;pure (ForInStep.yield ((name,c) :: r)) else pure (ForInStep.yield r):Sem (ForInStep (List (Str×Addr)))))=pure cl/\
  (∀x c,cl.lookup x=some c->env.cells.lookup x=some c)/\(∀x c,cs.lookup x=some c->∃c',cl.lookup x=some c')/\∀y∈l,y.2 = .free->∃c,cl.lookup y.1=some c
 | [],cs,h,_=>⟨cs,rfl,h,λ_ c e=>⟨c,e⟩,λ_ z=>nomatch z⟩
 | (n,k) :: l,cs,h,hf=>by
   by_cases hk:k = .free
   ·subst hk;obtain ⟨c,hc⟩:=hf (n,.free) List.mem_cons_self rfl;have hc':env.cells.lookup n=some c:=hc;have e:cellOf env n=pure c:=by unfold cellOf;rw [hc']
    obtain ⟨cl,e1,e2,e3,e4⟩:=EA l ((n,c) :: cs) (λx c' q=>by
     rw [List.lookup_cons] at q
     by_cases hx:(x == n)=true
     ·rw [hx] at q;cases q;rw [eq_of_beq hx];exact hc'
     ·rw [Bool.eq_false_iff.mpr hx] at q;exact h x c' q) (λy hy=>hf y (List.mem_cons_of_mem _ hy))
    have self:((n,c) :: cs).lookup n=some c:=by rw [List.lookup_cons,beq_self_eq_true]
    refine ⟨cl,?_,e2,λx c' q=>?_,λy hy hyf=>?_⟩
    ·rw [List.forIn_cons];simp only [beq_self_eq_true,if_true,e];exact e1
    ·by_cases hx:(x == n)=true
     ·rw [eq_of_beq hx];exact e3 n c self
     ·exact e3 x c' (by rw [List.lookup_cons,Bool.eq_false_iff.mpr hx];exact q)
    ·rcases List.mem_cons.mp hy with z | z
     ·subst z;exact e3 n c self
     ·exact e4 y z hyf
   ·have hb:(k == NameKind.free)=false:=by simpa using hk
    obtain ⟨cl,e1,e2,e3,e4⟩:=EA l cs h (λy hy=>hf y (List.mem_cons_of_mem _ hy));refine ⟨cl,?_,e2,e3,λy hy hyf=>?_⟩
    ·rw [List.forIn_cons];simp only [hb,Bool.false_eq_true,if_false];exact e1
    ·rcases List.mem_cons.mp hy with z | z
     ·subst z;exact absurd hyf hk
     ·exact e4 y z hyf
theorem Ha {scope:Scope}{env:Env}(h:∀y∈scope.names,y.2 = .free->∃c,env.cells.lookup y.1=some c) :
 ∃cl,closureFor scope env=pure cl/\(∀x c,cl.lookup x=some c->env.cells.lookup x=some c)/\∀y∈scope.names,y.2 = .free->∃c,cl.lookup y.1=some c:=by
 obtain ⟨cl,e1,e2,_,e4⟩:=EA (env:=env) scope.names [] (λ_ _ q=>nomatch q) h;refine ⟨cl,?_,e2,e4⟩;simp only [closureFor]
 first | (rw [e1];rfl) | (simp only [e1];rfl) | (trace_state;exact e1)
theorem Kf {prog:Program}{w:World}{A:Around}{R:Result->Shared->Prop}{s:Shared}{elt target iter:Expr}{ifs:List Expr}{scope:Scope}{pos:Pos}{it acc:Value}{env:Env}(I:Nat->Shared->Prop)
 (turn:∀n s,I n s->wpAny (model prog w) A (pyNext it) (λr s₁=>match r with
   | none=>R (.ok .next) s₁
   | some v=>wpAny (model prog w) A (letOwnedTupleGo target it v) (λ_ s₁'=>wpAny (model prog w) A (assign target env v) (λ_ s₂=>
      wpAny (model prog w) A (forIn ifs true λc r=>if r=true then do let ok <-isTrue c env (eval c env);pure (ForInStep.yield ok) else pure (ForInStep.yield r)) (λok s₃=>
       if ok=true then wpAny (model prog w) A (eval elt env) (λx s₄=>
        wpAny (model prog w) A (call (.builtin "list.append") [acc,x]) (λ_ s₅=>∃m,m < n/\I m s₅) (λ_ _=>False) s₄) (λ_ _=>False) s₃
       else ∃m,m < n/\I m s₃) (λ_ _=>False) s₂) (λ_ _=>False) s₁') (λ_ _=>False) s₁) (λ_ _=>False) s)
 (n:Nat) (h:I n s) :
 codeAny (model prog w) A (.compLoop (.ListComp elt [⟨target,iter,ifs,0⟩] scope pos) 0 it acc env) R s:=by
 refine codeAny_loop rfl I (λn s hI=>?_) n h;show wpAny _ A ((compTurn (.ListComp elt [⟨target,iter,ifs,0⟩] scope pos) 0 it acc env).onRaise (λx=>do noteFrame x env;theTreesLotGoes x)) _ _ s;refine wpAny_noted ?_;rw [compTurn_list];refine wpAny_bind (wpAny_standAt (wpAny_bind (wpAny_mono (turn n s hI) (λr s₁ h₁=>?_) λ_ _ h'=>h'.elim)))
 cases r with
 | none=>exact wpAny_pure h₁
 | some v=>
   refine wpAny_bind (wpAny_mono h₁ (λ_ s₁' h₁'=>?_) λ_ _ h'=>h'.elim);refine wpAny_bind (wpAny_mono h₁' (λ_ s₂ h₂=>wpAny_bind (wpAny_mono h₂ (λok s₃ h₃=>?_) λ_ _ h'=>h'.elim)) λ_ _ h'=>h'.elim)
   cases ok with
   | false=>exact wpAny_pure ⟨rfl,h₃⟩
   | true=>
     exact wpAny_bind (wpAny_bind (wpAny_mono h₃ (λx s₄ h₄=>wpAny_bind (wpAny_mono h₄ (λ_ s₅ h₅=>wpAny_pure (wpAny_pure ⟨rfl,h₅⟩)) λ_ _ h'=>h'.elim)) λ_ _ h'=>h'.elim))
end L2
set_option maxHeartbeats 2000000
namespace L2
open PySem PySem.Spec PyProof.Rows
noncomputable def B0 (X:Cx)(N':List Str)(scope:Scope)(cl:List (Str×Addr))(C:Addr)(s2:Shared)(H2:Hp)(fp:List Addr):Cx where
 prog:=X.prog
 w:=X.w
 K:=X.K
 mg:=X.mg
 base:=X.base
 A:=X.A
 N:=N'
 s₀:=s2
 H₀:=H2
 env:=compEnvC scope cl C X.env
 outer:=X.stack
 stack:=X.stack
 ex:=fp
 fn:=λ_=>false
 calm:=X.calm
 pn:=[]
 xe:=λ_ _=>False
theorem GF (h:Str->NameKind->NameKind)(x:Str):∀l:List (Str×NameKind),(l.map λp=>(p.1,h p.1 p.2)).lookup x=(l.lookup x).map (h x)
 | []=>rfl
 | (n,k) :: l=>by
   show List.lookup x ((n,h n k) :: _)=_;rw [List.lookup_cons,List.lookup_cons]
   by_cases hx:(x == n)=true
   ·rw [hx,eq_of_beq hx];rfl
   ·rw [Bool.eq_false_iff.mpr hx];exact GF h x l
theorem Ff (scope:Scope)(env:Env)(x:Str):(relabel scope env).names.lookup x=(scope.names.lookup x).map λk=>if (k == .free && env.scope.kind == .function && env.kindOf x == some .cell)=true then .cell else k:=by
 rw [<-GF (λn k=>if (k == NameKind.free && env.scope.kind == .function && env.kindOf n == some .cell)=true then .cell else k) x scope.names];unfold relabel;dsimp only
 congr 1
 apply List.map_congr_left;intro p _;obtain ⟨n,k⟩:=p;dsimp only
 split <;> rfl
theorem Cu {x:Str}{k:NameKind}:∀{l:List (Str×NameKind)},l.lookup x=some k->(x,k)∈l
 | (n,k') :: l,h=>by
   rw [List.lookup_cons] at h
   by_cases hx:(x == n)=true
   ·rw [hx] at h;cases h;rw [eq_of_beq hx];exact List.mem_cons_self
   ·rw [Bool.eq_false_iff.mpr hx] at h;exact List.mem_cons_of_mem _ (Cu h)
theorem KO {scope:Scope}{env:Env}{x:Str}(hcell:∀y∈scope.names,y.2≠.cell)(h:(relabel scope env).names.lookup x=some .cell\/(relabel scope env).names.lookup x=some .free):scope.names.lookup x=some .free:=by
 rw [Ff] at h
 cases e:scope.names.lookup x with
 | none=>rw [e] at h;rcases h with h | h <;> cases h
 | some k=>
   by_cases hk:k = .free
   ·rw [hk]
   ·have hb:(k == NameKind.free)=false:=by simpa using hk
    rw [e] at h;simp only [Option.map_some,hb,Bool.false_and,Bool.false_eq_true,if_false] at h;rcases h with h | h
    ·cases h;exact absurd rfl (hcell _ (Cu e))
    ·cases h;exact absurd rfl hk
def PIf (X:Cx)(ifs:List Expr)(t:TT):Prop:=
 ∀(pins:List (Addr×Obj)) (s:Shared) (Z:St) (H:Hp) (Q:Bool->Hp->Prop),Inv X pins Z H s->t Z H Q->
  wpAny (model X.prog X.w) X.A (forIn ifs true λc r=>if r=true then do let ok <-isTrue c X.env (eval c X.env);pure (ForInStep.yield ok) else pure (ForInStep.yield r)) (TP X pins Z Q) X.xe s
def TQ:TT:=λ_ H Q=>Q true H
theorem Qx {X:Cx}:PIf X [] TQ:=λ_ _ _ H _ I h=>wpAny_tests_nil ⟨H,I,h⟩
def NM (J:It)(g:TG)(tt:TT)(te:TE)(Z₀:St)(H1:Hp)(Fin:List V->Hp->Prop):Prop:=
 ∃W:Nat->Nat->List V->St->Hp->Prop,(∃m,W 0 m [] Z₀ H1)/\∀i m acc Z' H',W i m acc Z' H'->acc.length<=sizeLine/\
  ((J.stop i H'/\Fin acc H')\/
    (J.go i H'/\∀x H2,J.yld i H' x H2->g x Z' H2 λZ3 H3=>tt Z3 H3 λb H4=>if b=true then te Z3 H4 λv H5=>∃m',m' < m/\W (i + 1) m' (acc++[v]) Z3 H5 else ∃m',m' < m/\W (i + 1) m' acc Z3 H4))
def JL (wi:TI)(g:TG)(tt:TT)(te:TE)(Zf:St->St):TE:=λZ H Q=>wi Z H λJ H1=>NM J g tt te (Zf Z) H1 λacc H'=>∀p,H' p=none->acc.length<=sizeLine->Q (.ref p) (upd H' p (.lst acc))
structure CmpOk (X:Cx)(scope:Scope)(N':List Str)(Zf:St->St):Prop where
 kind:scope.kind = .function
 cell:∀y∈scope.names,y.2≠.cell
 loc:∀y∈scope.names,y.2 = .local->scope.names.lookup y.1=some .local
 free:∀y∈scope.names,y.2 = .free->X.env.kindOf y.1=some .cell\/X.env.kindOf y.1=some .free
 len:∀Z:St,Z.length=X.N.length->(Zf Z).length=N'.length
 vals:∀(Z:St) (j:Nat) (x:Str) (v:V),N'[j]?=some x->(Zf Z)[j]?=some (some v)->∃i:Nat,X.N[i]?=some x/\Z[i]?=some (some v)/\scope.names.lookup x=some .free
variable {pins:List (Addr×Obj)}{Z:St}{H2:Hp}{s2:Shared}{cl:List (Str×Addr)}{fp:List Addr}
section
variable {X:Cx}{tg elt iter:Expr}{ifs:List Expr}{scope:Scope}{pos:Pos}{N':List Str}{wi:TI}{g:TG}{tt:TT}{te:TE}{Zf:St->St}
theorem Rj {C:Addr}(O:CmpOk X scope N' Zf)(I2:Inv X pins Z H2 s2)(f2:∀b∈fp,FpOk X pins H2 b)(hC:s2.heap.objs.size<=C)
 (hlt:∀b∈fp,b < s2.heap.objs.size) (e2:∀x c,cl.lookup x=some c->X.env.cells.lookup x=some c) (e4:∀y∈scope.names,y.2 = .free->∃c,cl.lookup y.1=some c):(B0 X N' scope cl C s2 H2 fp).Ok where
 mod:=I2.ok.mod
 kind:=O.kind
 glob:=I2.ok.glob
 blt:=I2.ok.blt
 above:=hC
 inj:=λx y c h1 h2=>I2.ok.inj x y c (e2 x c h1) (e2 y c h2)
 has:=λx h=>by
  have q:=KO (env:=X.env) (x:=x) O.cell h;exact e4 _ (Cu q) rfl
 cab:=λx c h _=>nomatch h
 hd:=I2.ok.hd
 frames:=I2.ok.frames
 stk:=.inl rfl
 exf:=λb hb=>⟨Nat.ne_of_lt (Nat.lt_of_lt_of_le (hlt b hb) hC),λx c e=>(f2 b hb).2.2.2.2.1 x c (e2 x c e)⟩
 bs:=I2.bs
 bsz:=Nat.le_trans I2.ok.bsz I2.sz
 noex:=λb o e hb=>by
  rcases (f2 b hb).2.2.2.1 with z | z
  ·exact I2.ok.noex b o e z
  ·exact absurd (Nat.lt_of_lt_of_le (Heap.lt_size (I2.ok.bs b o e).1) z) (Nat.lt_irrefl _)
 exfs:=λb hb z=>by
  rcases List.mem_cons.mp (I2.stkSub b z) with q | q
  ·exact (f2 b hb).2.1 q
  ·exact (f2 b hb).2.2.1 q
 funs:=I2.stack
 frf:=I2.stkFree
theorem SK (I2:Inv X pins Z H2 s2){a:Addr}(h:s2.heap.objs.size<=a):a∉frs X.stack:=λhb=>by
 rcases List.mem_cons.mp (I2.stkSub a hb) with q | q
 ·exact absurd (Nat.lt_of_lt_of_le I2.lt h) (by rw [q];exact Nat.lt_irrefl _)
 ·exact I2.nofs h q
theorem JV {it:Addr}{tn:Nat->Heap->Prop}{J:It}{Fin:List V->Hp->Prop}{RR:Value->Addr->Result->Shared->Prop}{E:Value->Shared->Prop}(O:CmpOk X scope N' Zf)(hc:X.calm=true)
 (I2:Inv X pins Z H2 s2) (T:Turn X.prog X.w X.K tg J fp it tn) (st2:tn 0 s2.heap) (f2:∀b∈fp,FpOk X pins H2 b)
 (e2:∀x c,cl.lookup x=some c->X.env.cells.lookup x=some c) (e4:∀y∈scope.names,y.2 = .free->∃c,cl.lookup y.1=some c)
 (hg:∀C,PG (B0 X N' scope cl C s2 H2 fp) tg g) (ht:∀C,PIf (B0 X N' scope cl C s2 H2 fp) ifs tt) (he:∀C,PE (B0 X N' scope cl C s2 H2 fp) elt te)
 (B:NM J g tt te (Zf Z) H2 Fin)
 (fin:∀C s' Z' H' acc m,s2.heap.objs.size<=C->C≠s2.heap.objs.size->Inv (B0 X N' scope cl C s2 H2 fp) [] Z' H' s'->H' s2.heap.objs.size=none->acc.length<=sizeLine->(∃its n,Vals acc its/\s'.heap.get? s2.heap.objs.size=some { cls:=.type "list",data:=.seq its.toArray n })->Fin acc H'->s'.heap.Ns C m->
   RR (.ref s2.heap.objs.size) C (.ok .next) s') :
 wpAny (model X.prog X.w) X.A (newList []) (λacc s₃=>wpAny (model X.prog X.w) X.A (newFunctionEnv scope X.env.globals cl [] X.env.qual none .none (some X.env)) (λcenv s₄=>
  codeAny (model X.prog X.w) X.A (.compStart (.ListComp elt [⟨tg,iter,ifs,0⟩] scope pos) 0 (.ref it) acc { cenv with scope:=relabel scope X.env }) (RR acc cenv.locals) s₄) E s₃) E s2:=by
 refine wpAny_newObj_type (wpAny_newFunctionEnv O.cell (by intro y hy;simp at hy) (λh₁ hns₁ hsb₁=>?_) O.kind);dsimp only at hns₁ hsb₁ ⊢;generalize hH2:s2.heap.push { cls:=.type "list",dict:=none,data:=.seq ([]:List Value).toArray }=HP at hns₁ hsb₁ ⊢;have hC:HP.objs.size=s2.heap.objs.size + 1:=by rw [<-hH2,Heap.size_push]
 generalize hDD:s2.heap.objs.size=DD at *;generalize hCC:HP.objs.size=CC at *;have hDC:DD≠CC:=by rw [hC];exact Nat.ne_of_lt (Nat.lt_succ_self _)
 have hCle:s2.heap.objs.size<=CC:=by rw [hC,hDD];exact Nat.le_succ _
 have hlt:∀b∈fp,b < s2.heap.objs.size:=λb hb=>by obtain ⟨o,e,_⟩:=T.obj _ _ st2 b hb;exact Heap.lt_size e
 have hlt':∀b∈fp,b < DD:=λb hb=>by rw [<-hDD];exact hlt b hb
 have below:∀b,b < DD->b≠CC/\b≠DD:=λb hb=>⟨by rw [hC];exact Nat.ne_of_lt (Nat.lt_succ_of_lt hb),Nat.ne_of_lt hb⟩;have old:∀b o,s2.heap.get? b=some o->h₁.get? b=some o:=λb o e=>hsb₁.extBut b o (below b (by rw [<-hDD];exact Heap.lt_size e)).1 (Heap.get?_push_of_some _ (hH2 ▸ Heap.get?_push_of_some _ e));have hacc:h₁.get? DD=some { cls:=.type "list",data:=.seq ([]:List Value).toArray }:=by
  refine hsb₁.extBut _ _ hDC (Heap.get?_push_of_some _ ?_);rw [<-hH2,<-hDD];exact Heap.get?_push_size _ rfl
 have ok:=Rj (cl:=cl) (C:=CC) O I2 f2 hCle hlt e2 e4;have hfs:DD∉frs X.stack:=SK I2 (by rw [hDD];exact Nat.le_refl _);obtain ⟨W,⟨m0,w0⟩,turn⟩:=B
 let X':Cx:=B0 X N' scope cl CC s2 H2 fp
 have I0:Inv X' [] (Zf Z) H2 { s2 with heap:=h₁,toks:=s2.toks + ([]:List (Str×Value)).length }:=by
  refine ⟨ok,rfl,I2.bare,Un.kept old,⟨_,hns₁,λj x v q1 q2 q3=>?_⟩,λx c e=>?_,I2.hok.fresh hCle,λx c e=>I2.freeC x c (e2 x c e),(λp hp=>nomatch hp),I2.hok.kept old,O.len Z I2.len⟩
  ·obtain ⟨i,n1,n2,n3⟩:=O.vals Z j x v q1 q2;obtain ⟨m,_,hl⟩:=I2.loc;have hfr:=O.free _ (Cu n3) rfl;obtain ⟨u,r,l⟩:=hl i x v n1 n2 (.inr hfr);refine ⟨u,r,?_⟩;rcases l with ⟨k,_⟩ | ⟨_,c,ec,hcell⟩
   ·rcases hfr with z | z <;> (have z':=k.symm.trans z;cases z')
   ·obtain ⟨c',ec'⟩:=e4 _ (Cu n3) rfl;have z:=e2 _ _ ec';have ez:X.env.cells.lookup x=some c':=z;rw [ec] at ez
    cases ez
    refine .inr ⟨?_,c,ec',?_⟩
    ·show (relabel scope X.env).names.lookup x=some .cell\/(relabel scope X.env).names.lookup x=some .free;rw [Ff,n3];simp only [Option.map_some]
     split
     ·exact .inl rfl
     ·exact .inr rfl
    ·obtain ⟨o,ho,hd⟩:=hcell;exact ⟨o,old _ _ ho,hd⟩
  ·obtain ⟨v,o,ho,hd⟩:=I2.cell x c (e2 x c e);exact ⟨v,o,old _ _ ho,hd⟩
 have loop:∀s₃:Shared,s₃ = { s2 with heap:=h₁,toks:=s2.toks + ([]:List (Str×Value)).length }->
  codeAny (model X.prog X.w) X.A (.compLoop (.ListComp elt [⟨tg,iter,ifs,0⟩] scope pos) 0 (.ref it) (.ref DD) (compEnvC scope cl CC X.env)) (RR (.ref DD) CC) s₃:=by
  rintro s₃ rfl;refine Kf (λn s'=>∃i acc its nn Z' H',Inv X' [] Z' H' s'/\tn i s'.heap/\(∀b∈fp,H' b=none)/\Vals acc its/\s'.heap.get? DD=some { cls:=.type "list",data:=.seq its.toArray nn }/\H' DD=none/\W i n acc Z' H') ?_ m0
   ⟨0,[],[],0,Zf Z,H2,I0,T.keep _ _ _ st2 (λb _ o e=>old b o e),λb hb=>(f2 b hb).1,.nil,hacc,I2.hok.fresh (by rw [hDD];exact Nat.le_refl _),w0⟩
  rintro n s' ⟨i,acc,its,nn,Z3,H3,I3,st3,fr3,hv,hD,hDn,w3⟩;have I3p:Inv X' [(DD,({ cls:=.type "list",data:=.seq its.toArray nn }:Obj))] Z3 H3 s':=I3.pins_of λp hp=>by
   have e:p=(DD,({ cls:=.type "list",data:=.seq its.toArray nn }:Obj)):=by simpa using hp
   subst e;exact ⟨hD,hDn,hDC,hfs,λv z=>nomatch z⟩
  have stat:∀{pins':List (Addr×Obj)} {H':Hp},(∀p∈pins',p.1=DD)->(∀b∈fp,H' b=none)->∀b∈fp,FpOk X' pins' H' b:=λ{pins' H'} hp hn b hb=>
   ⟨hn b hb,(ok.exf b hb).1,ok.exfs b hb,.inl hb,(ok.exf b hb).2,λp hp' z=>by
    have e:p.1=DD:=hp p (by simpa [X',B0] using hp');exact absurd (hlt' b hb) (by rw [<-z,e];exact Nat.lt_irrefl _)⟩
  have one:∀p∈[(DD,({ cls:=.type "list",data:=.seq its.toArray nn }:Obj))],p.1=DD:=λp hp=>by
   have e:p=(DD,({ cls:=.type "list",data:=.seq its.toArray nn }:Obj)):=by simpa using hp
   rw [e]
  obtain ⟨hz,tr⟩:=turn i n acc Z3 H3 w3;rcases tr with ⟨stop,qf⟩ | ⟨go,step⟩
  ·refine thn (T.done X' rfl rfl rfl hc i _ s' Z3 H3 (λ_ _=>False) I3p (stat one fr3) st3 stop) λr s4 z9=>?_;obtain ⟨hr,I4⟩:=z9;subst hr;obtain ⟨m4,hm4,_⟩:=I4.loc;have pD:=(I4.pin (DD,({ cls:=.type "list",data:=.seq its.toArray nn }:Obj)) (by simp [X',B0])).1;have I4':Inv X' [] Z3 H3 s4:=I4.pins_of λp hp=>nomatch hp;exact fin CC s4 Z3 H3 acc m4 (by rw [hDD] at hCle;exact hCle) (Ne.symm hDC) I4' hDn hz ⟨its,nn,hv,pD⟩ qf hm4
  ·refine thn (T.item X' rfl rfl rfl hc i _ s' Z3 H3 (λ_ _=>False) I3p (stat one fr3) st3 go) λr s4 z9=>?_;obtain ⟨u,hr,h4⟩:=z9;subst hr;refine thn h4 λ_ s5 z9=>?_;obtain ⟨x,H5,I5,r5,y5,st5,fr5⟩:=z9;have I5':=I5.pinned (stat one fr5) (T.obj _ _ st5);refine thn (hg CC _ s5 Z3 H5 x u _ I5' r5 (step x H5 y5)) λ_ s6 z9=>?_;obtain ⟨Z6,H6,I6,q6⟩:=z9;refine thn (ht CC _ s6 Z6 H6 _ I6 q6) λb s7 z9=>?_;obtain ⟨H7,I7,q7⟩:=z9;have back:∀{H8:Hp} {s8:Shared},Inv X' ([(DD,({ cls:=.type "list",data:=.seq its.toArray nn }:Obj))]++F6 fp s5.heap) Z6 H8 s8->
    s8.heap.get? DD=some { cls:=.type "list",data:=.seq its.toArray nn }/\H8 DD=none/\tn (i + 1) s8.heap/\(∀b∈fp,H8 b=none)/\Inv X' [] Z6 H8 s8:=λ{H8 s8} I8=>by
    have p1:=I8.pin (DD,({ cls:=.type "list",data:=.seq its.toArray nn }:Obj)) (by simp [X',B0]);refine ⟨p1.1,p1.2.1,T.keep _ _ _ st5 λb hb o e=>(I8.pin (b,o) (List.mem_append_right _ (List.mem_append_right _ (Em hb e)))).1,λb hb=>?_,I8.pins_of λp hp=>nomatch hp⟩;obtain ⟨o,e,_⟩:=T.obj _ _ st5 b hb;exact (I8.pin (b,o) (List.mem_append_right _ (List.mem_append_right _ (Em hb e)))).2.1
   cases b with
   | false=>
     rw [if_neg Bool.false_ne_true] at q7 ⊢;obtain ⟨m',hm,w7⟩:=q7;obtain ⟨a1,a2,a3,a4,a5⟩:=back I7;exact ⟨m',hm,i + 1,acc,its,nn,Z6,H7,a5,a3,a4,hv,a1,a2,w7⟩
   | true=>
     rw [if_pos rfl] at q7 ⊢;refine thn (he CC _ s7 Z6 H7 _ I7 q7) λy s8 z9=>?_;obtain ⟨v8,H8,I8,r8,m',hm,w8⟩:=z9;obtain ⟨a1,a2,a3,a4,a5⟩:=back I8;have hsz:its.toArray.size<=sizeLine:=by
      have e:=hv.length;simpa [e] using hz
     refine wpAny_list_append_plain (hsz:=hsz) ⟨nn,a1⟩ λh9 hl9 hs9=>?_;obtain ⟨n9,e9⟩:=hl9;have e9':h9.get? DD=some { cls:=.type "list",data:=.seq (its++[y]).toArray n9 }:=by simpa using e9
     refine ⟨m',hm,i + 1,acc++[v8],its++[y],n9,Z6,H8,a5.turned (t':=s8.toks) (h':=h9) (it:=DD) (λb o hb e=>hs9.extBut b o hb e) a2 hDC (.inr (show s2.heap.objs.size<=DD by rw [hDD];exact Nat.le_refl _)) (λx' c e z=>?_) (λp hp=>nomatch hp),T.keep _ _ _ a3 λb hb o e=>hs9.extBut b o (Nat.ne_of_lt (hlt' b hb)) e,a4,hv.append (.cons r8 .nil),e9',a2,w8⟩;obtain ⟨v,o,ho,hd⟩:=I2.cell x' c (e2 x' c e);have:=Heap.lt_size ho;rw [hDD,z] at this;exact Nat.lt_irrefl _ this
 exact codeAny_compStart_list (loop _ rfl) (T.self _ 0 _ _ _ (T.keep _ _ _ st2 λb _ o e=>old b o e) (loop _ rfl))
end
section
variable {X:Cx}{tg elt iter:Expr}{ifs:List Expr}{scope:Scope}{pos:Pos}{N':List Str}{wi:TI}{g:TG}{tt:TT}{te:TE}{Zf:St->St}
theorem IU {Z':St}{H':Hp}{s':Shared}{C:Addr}{acc:List V}{its:List Value}{n:Nat}{h':Heap}(I2:Inv X pins Z H2 s2)(f2:∀b∈fp,FpOk X pins H2 b)
 (hC:s2.heap.objs.size<=C) (hCD:C≠s2.heap.objs.size) (I':Inv (B0 X N' scope cl C s2 H2 fp) [] Z' H' s') (hDn:H' s2.heap.objs.size=none) (hz:acc.length<=sizeLine) (hv:Vals acc its)
 (hD:s'.heap.get? s2.heap.objs.size=some { cls:=.type "list",data:=.seq its.toArray n }) (hs:Heap.SameBut C s'.heap h') :
 Inv X pins Z (upd H' s2.heap.objs.size (.lst acc)) { s' with heap:=h' }:=by
 have U:=I'.base;have lt:∀b o,s2.heap.get? b=some o->b≠C/\b≠s2.heap.objs.size:=λb o e=>⟨Nat.ne_of_lt (Nat.lt_of_lt_of_le (Heap.lt_size e) hC),Nat.ne_of_lt (Heap.lt_size e)⟩;have neD:∀b u,H' b=some u->b≠s2.heap.objs.size:=λb u e=>A1 e hDn;have neC:∀b u,H' b=some u->b≠C:=λb u e=>A1 e I'.free;refine I2.call' (s':={ s' with heap:=h' }) (ch:=fp) I'.os ⟨λb o e n hb hx=>?_,λb o e n hb hx=>?_,λb o e n hx=>?_,λb o e hx=>?_,λb xs e=>?_,λb o u e=>?_,λb ps e=>?_⟩ ?_ I'.bare λb hb=>⟨(f2 b hb).2.2.2.1,(f2 b hb).2.1,(f2 b hb).2.2.2.2.1,(f2 b hb).2.2.2.2.2⟩
 ·exact hs.extBut b o (lt b o e).1 (U.keep b o e n hb hx)
 ·obtain ⟨sl,q⟩:=U.slot b o e n hb hx;exact ⟨sl,hs.extBut b _ (lt b o e).1 q⟩
 ·rw [Ap (lt b o e).2];exact U.free b o e n hx
 ·obtain ⟨o',q⟩:=U.there b o e hx;exact ⟨o',hs.extBut b _ (lt b o e).1 q⟩
 ·have q:=U.tups b xs e;rw [Ap (neD b _ q)];exact q
 ·have q:=U.frzs b o u e;rw [Ap (neD b _ q)];exact q
 ·obtain ⟨m,q⟩:=U.tbls b ps e;exact ⟨m,by rw [Ap (neD b _ q)];exact q⟩
 ·intro b u e
  by_cases hb:b=s2.heap.objs.size
  ·subst hb;rw [AF] at e
   cases e
   exact ⟨hz,its,n,hv,hs.extBut _ _ (Ne.symm hCD) hD⟩
  ·rw [Ap hb] at e;refine (I'.hok b u e).stay (λc v hc q=>hs.extBut c v ?_ q) (λc q=>by rw [Ap (neD c _ q)];exact q) λc xs q=>by rw [Ap (neD c _ q)];exact q
   rcases hc with z | z
   ·rw [z];exact neC b u e
   ·exact neC c _ z
theorem LQ (O:CmpOk X scope N' Zf)(hc:X.calm=true)(hi:PI X tg iter wi)
 (hg:∀cl C s2 H2 fp,PG (B0 X N' scope cl C s2 H2 fp) tg g) (ht:∀cl C s2 H2 fp,PIf (B0 X N' scope cl C s2 H2 fp) ifs tt) (he:∀cl C s2 H2 fp,PE (B0 X N' scope cl C s2 H2 fp) elt te)
 (hs:∀x,foldedSetIterable iter X.env x=pure x:=by intro _;rfl):PE X (.ListComp elt [⟨tg,iter,ifs,0⟩] scope pos) (JL wi g tt te Zf):=by
 intro pins s Z H Q I h;obtain ⟨cl,e1,e2,e4⟩:=Ha (scope:=scope) (env:=X.env) λy hy hf=>I.ok.has y.1 (O.free y hy hf);rw [eval_ListComp];refine wpAny_comprehension_free (use:=none) rfl hs e1 O.kind O.loc (thn (hi pins s Z H _ I h) λv s1 h1=>thn h1 λitv s2 h2=>?_);obtain ⟨it,fp,tn,J,H2,rfl,I2,T,st2,f2,B⟩:=h2;refine JV (RR:=λacc C=>compPost (model X.prog X.w) X.A X.xe none (EP X pins Z Q) acc C) O hc I2 T st2 f2 e2 e4 (λC=>hg cl C s2 H2 fp) (λC=>ht cl C s2 H2 fp) (λC=>he cl C s2 H2 fp) B ?_;intro C s' Z' H' acc m hC hCD I' hDn hz hL fin hn;obtain ⟨its,n,hv,hD⟩:=hL;refine ⟨m,hn,λh' hs'=>?_⟩;exact ⟨.ref s2.heap.objs.size,upd H' _ (.lst acc),IU I2 f2 hC hCD I' hDn hz hv hD hs',rfl,fin _ hDn hz⟩
theorem QB {i:Nat}{y:Str}{py spos:Pos}(O:CmpOk X scope N' Zf)(hc:X.calm=true)(hN:X.N.Nodup)(hiN:X.N[i]?=some y)(hx:X.env.scope.names.lookup y=some .local)(hi:PI X tg iter wi)
 (hg:∀cl C s2 H2 fp,PG (B0 X N' scope cl C s2 H2 fp) tg g) (ht:∀cl C s2 H2 fp,PIf (B0 X N' scope cl C s2 H2 fp) ifs tt) (he:∀cl C s2 H2 fp,PE (B0 X N' scope cl C s2 H2 fp) elt te)
 (hsw:swapsWith (.ListComp elt [⟨tg,iter,ifs,0⟩] scope pos) (some (.Name y py)) spos.line X.env=pure true:=by rfl)
 (hs:∀x,foldedSetIterable iter X.env x=pure x:=by intro _;rfl):PS X (.Assign [.Name y py] (.ListComp elt [⟨tg,iter,ifs,0⟩] scope pos) spos) (K6 (JL wi g tt te Zf) (Hi i)):=by
 intro pins s Z H D I h;obtain ⟨cl,e1,e2,e4⟩:=Ha (scope:=scope) (env:=X.env) λy hy hf=>I.ok.has y.1 (O.free y hy hf);rw [exec_Assign_Name_used _ _ _ _ hsw];refine wpAny_bind (wpAny_standAt (wpAny_bind ?_));show wpAny _ X.A (do let _ <-comprehension (.ListComp elt [⟨tg,iter,ifs,0⟩] scope pos) scope X.env _ (newList []) false (eval iter X.env) (some (assign (.Name y py) X.env))) _ _ s;refine wpAny_bind (thn (wpAny_comprehension_free (use:=some (assign (.Name y py) X.env)) (Q:=λ_ s'=>SP X pins D .next s') rfl hs e1 O.kind O.loc (thn (hi pins s Z H _ I h) λv s1 h1=>thn h1 λitv s2 h2=>?_)) (λ_ s' hq=>wpAny_pure (wpAny_pure hq)));obtain ⟨it,fp,tn,J,H2,rfl,I2,T,st2,f2,B⟩:=h2;refine JV (RR:=λacc C=>compPost (model X.prog X.w) X.A X.xe (some (assign (.Name y py) X.env)) (λ_ s'=>SP X pins D .next s') acc C) O hc I2 T st2 f2 e2 e4 (λC=>hg cl C s2 H2 fp) (λC=>ht cl C s2 H2 fp) (λC=>he cl C s2 H2 fp) B ?_;intro C s' Z' H' acc m hC hCD I' hDn hz hL fin hn;obtain ⟨its,n,hv,hD⟩:=hL;show wpAny _ X.A (assign (.Name y py) X.env (.ref s2.heap.objs.size)) _ _ _;have I3:=IU I2 f2 hC hCD I' hDn hz hv hD (Heap.SameBut.refl ..);refine wpAny_assign_Name (Ji I3 hN hiN (.inl hx) (v:=.ref s2.heap.objs.size) rfl (λs4 I4 z9=>?_) (.inr hx));obtain ⟨a,hsb,ha⟩:=z9;have hCL:C≠X.env.locals:=Nat.ne_of_gt (Nat.lt_of_lt_of_le I2.lt hC);have hCc:∀x c,X.env.cells.lookup x=some c->c≠C:=λx c e z=>by
  obtain ⟨v,q⟩:=I2.cell x c e;exact absurd (Nat.lt_of_lt_of_le q.lt (by rw [z];exact hC)) (Nat.lt_irrefl _)
 have hCa:C≠a:=by
  rcases ha with z | z
  ·rw [z];exact hCL
  ·exact λq=>hCc _ _ z q.symm
 refine ⟨m,hn.sameBut hsb hCa,λh' hs'=>?_⟩;have hnC:(upd H' s2.heap.objs.size (.lst acc)) C=none:=by rw [Ap hCD];exact I'.free
 refine ⟨_,_,I4.turned (t':=s4.toks) (h':=h') (it:=C) (λb o hb e=>hs'.extBut b o hb e) hnC hCL (.inr (Nat.le_trans I2.sz hC)) hCc (λp hp z=>?_),fin _ hDn hz⟩;exact absurd (Nat.lt_of_lt_of_le (Heap.lt_size (I2.pin p hp).1) (by rw [z];exact hC)) (Nat.lt_irrefl _)
end
end L2
set_option autoImplicit false
namespace F2
open PySem L2 PySem.Spec
inductive D where
 | non | bl (b:Bool) | int (i:Int) | str (x:Str) | tup (xs:List D) | lst (xs:List D) | scr (ns:List Int) | dic | obj (k:Nat) | ty (n:String) | exc (n:Str) (xs:List D)
structure Cf where
 ι:List Addr
 O:Addr->Prop
def Cf.A (c:Cf)(a:Addr):Prop:=a∈c.ι\/c.O a
def Scr (K:PySem.W.Frag)(c:Cf)(H:Hp)(a:Addr)(vs:List V):Prop:=
 ((∃o,H a=some (.frz o (.lst vs)))/\¬c.A a)\/
   ∃(o:Obj) (its:Array Value) (n:Nat),K.lookup a=some o/\o.cls = .type "list"/\o.dict=none/\o.data = .seq its n/\its.size<=sizeLine/\Vals vs its.toList
def XIs (qx:Bool)(x C:Addr)(dx:Option Addr)(h:Heap):Prop:=∃(o:Obj) (vs:Array Value),h.get? x=some o/\o.cls = .ref C/\o.dict=dx/\o.data = .fields vs/\(qx=true->vs[2]?=some .none/\4 < vs.size)
noncomputable def GO (n:Str):List Str:=if n = "NoTalk" then ["at"] else if n = "Broken" then ["at", "side"] else []
def XFld (c:Cf)(H:Hp)(dx:Option Addr)(ns:List Str)(vs:List V):Prop:=match dx with
 | none=>vs=[]
 | some d=>H d=some (.xd (ns.zip vs))/\¬c.A d
mutual
inductive Rep (K:PySem.W.Frag)(c:Cf)(H:Hp):V->D->Prop where
 | non:Rep K c H .non .non
 | bl (b:Bool):Rep K c H (.bl b) (.bl b)
 | int (i:Int):Rep K c H (.int i) (.int i)
 | str (x:Str):Rep K c H (.str x) (.str x)
 | ty (n:String):Rep K c H (.ty n) (.ty n)
 | tup {a:Addr} {vs:List V} {ds:List D}:H a=some (.tup vs)->¬c.A a->Reps K c H vs ds->Rep K c H (.ref a) (.tup ds)
 | lst {a:Addr} {vs:List V} {ds:List D}:H a=some (.lst vs)->¬c.A a->Reps K c H vs ds->Rep K c H (.ref a) (.lst ds)
 | scr {a:Addr} {ns:List Int}:Scr K c H a (ns.map V.int)->Rep K c H (.ref a) (.scr ns)
 | dic {a:Addr}:H a=some (.dK [])->¬c.A a->Rep K c H (.ref a) .dic
 | obj {a:Addr} {k:Nat}:c.ι[k]?=some a->Rep K c H (.ref a) (.obj k)
 | exc {qx:Bool} {x C:Addr} {dx:Option Addr} {n:Str} {vs:List V} {ds:List D}:PySem.W.nsIn K mainGlobals n=some (some (.ref C))->H x=some (.ext (XIs qx x C dx))->¬c.A x->XFld c H dx (GO n) vs->Reps K c H vs ds->Rep K c H (.ref x) (.exc n ds)
inductive Reps (K:PySem.W.Frag)(c:Cf)(H:Hp):List V->List D->Prop where
 | nil:Reps K c H [] []
 | cons {v:V} {d:D} {vs:List V} {ds:List D}:Rep K c H v d->Reps K c H vs ds->Reps K c H (v :: vs) (d :: ds)
end
structure Ext (c:Cf)(H:Hp)(c':Cf)(H':Hp):Prop where
 keep:∀b o,H b=some o->¬c.A b->H' b=some o
 av:∀b o,H b=some o->c'.A b->c.A b
 io:∀(k:Nat) (a:Addr),c.ι[k]?=some a->c'.ι[k]?=some a
variable {c:Cf}{H:Hp}
theorem Ext.refl:Ext c H c H:=⟨λ_ _ h _=>h,λ_ _ _ h=>h,λ_ _ h=>h⟩
theorem Ext.trans {c1 c2:Cf}{H1 H2:Hp}(a:Ext c H c1 H1)(b:Ext c1 H1 c2 H2):Ext c H c2 H2:=by
 refine ⟨λx o h n=>?_,λx o h n=>?_,λk x h=>b.io k x (a.io k x h)⟩
 ·exact b.keep x o (a.keep x o h n) λz=>n (a.av x o h z)
 ·by_cases q:c.A x
  ·exact q
  ·exact a.av x o h (b.av x o (a.keep x o h q) n)
variable {K:PySem.W.Frag}{a:Addr}{vs:List V}
theorem Scr.mono {c':Cf}{H':Hp}(e:Ext c H c' H')(h:Scr K c H a vs):Scr K c' H' a vs:=by
 rcases h with ⟨⟨o,h⟩,n⟩ | h
 ·exact .inl ⟨⟨o,e.keep _ _ h n⟩,λz=>n (e.av _ _ h z)⟩
 ·exact .inr h
theorem Scr.sq (h:Scr K c H a vs):SqL K H a vs:=by
 rcases h with ⟨h,_⟩ | h
 ·exact .inl (.inr h)
 ·exact .inr h
theorem XFld.mono {c':Cf}{H':Hp}{dx:Option Addr}{ns:List Str}(e:Ext c H c' H')(h:XFld c H dx ns vs):XFld c' H' dx ns vs:=by
 cases dx with
 | none=>exact h
 | some d=>exact ⟨e.keep _ _ h.1 h.2,λz=>h.2 (e.av _ _ h.1 z)⟩
mutual
theorem Rep.mono {K:PySem.W.Frag}{c c':Cf}{H H':Hp}(e:Ext c H c' H'){v:V}{d:D}(r:Rep K c H v d):Rep K c' H' v d:=by
 cases r with
 | non=>exact .non
 | bl b=>exact .bl b
 | int i=>exact .int i
 | str x=>exact .str x
 | ty n=>exact .ty n
 | tup h n r=>exact .tup (e.keep _ _ h n) (λz=>n (e.av _ _ h z)) (Reps.mono e r)
 | lst h n r=>exact .lst (e.keep _ _ h n) (λz=>n (e.av _ _ h z)) (Reps.mono e r)
 | scr h=>exact .scr (h.mono e)
 | dic h n=>exact .dic (e.keep _ _ h n) (λz=>n (e.av _ _ h z))
 | obj h=>exact .obj (e.io _ _ h)
 | exc g h n f r=>exact .exc g (e.keep _ _ h n) (λz=>n (e.av _ _ h z)) (f.mono e) (Reps.mono e r)
theorem Reps.mono {K:PySem.W.Frag}{c c':Cf}{H H':Hp}(e:Ext c H c' H'){vs:List V}{ds:List D}(r:Reps K c H vs ds):Reps K c' H' vs ds:=by
 cases r with
 | nil=>exact .nil
 | cons h t=>exact .cons (Rep.mono e h) (Reps.mono e t)
end
section
variable {K:PySem.W.Frag}{c:Cf}{H:Hp}
theorem Reps.length:∀{vs:List V} {ds:List D},Reps K c H vs ds->vs.length=ds.length
 | _,_,.nil=>rfl
 | _,_,.cons _ t=>by simp [Reps.length t]
theorem Reps.get:∀{vs:List V} {ds:List D} {i:Nat} {v:V} {d:D},Reps K c H vs ds->vs[i]?=some v->ds[i]?=some d->Rep K c H v d
 | _,_,_,_,_,.nil,e,_=>by simp at e
 | _,_,0,_,_,.cons r _,e,e'=>by simp at e e';subst e e';exact r
 | _,_,i + 1,_,_,.cons _ t,e,e'=>Reps.get (i:=i) t (by simpa using e) (by simpa using e')
theorem Reps.at:∀{vs:List V} {ds:List D} {i:Nat} {d:D},Reps K c H vs ds->ds[i]?=some d->∃v,vs[i]?=some v/\Rep K c H v d
 | _,_,_,_,.nil,e=>by simp at e
 | _,_,0,_,.cons r _,e=>by simp at e;subst e;exact ⟨_,rfl,r⟩
 | _,_,i + 1,_,.cons _ t,e=>by
   obtain ⟨v,h1,h2⟩:=Reps.at (i:=i) t (by simpa using e);exact ⟨v,by simpa using h1,h2⟩
theorem Reps.append {vs ws:List V}{ds es:List D}(r:Reps K c H vs ds)(s:Reps K c H ws es):Reps K c H (vs++ws) (ds++es):=by
 cases r with
 | nil=>exact s
 | cons r t=>exact .cons r (Reps.append t s)
theorem Reps.take:∀{vs:List V} {ds:List D} (n:Nat),Reps K c H vs ds->Reps K c H (vs.take n) (ds.take n)
 | _,_,0,_=>.nil
 | _,_,_ + 1,.nil=>.nil
 | _,_,n + 1,.cons r t=>.cons r (Reps.take n t)
theorem Reps.drop:∀{vs:List V} {ds:List D} (n:Nat),Reps K c H vs ds->Reps K c H (vs.drop n) (ds.drop n)
 | _,_,0,r=>r
 | _,_,_ + 1,.nil=>.nil
 | _,_,n + 1,.cons _ t=>Reps.drop n t
theorem Reps.set {v:V}{d:D}(r:Rep K c H v d):∀{vs:List V} {ds:List D} (i:Nat),Reps K c H vs ds->Reps K c H (vs.set i v) (ds.set i d)
 | _,_,_,.nil=>.nil
 | _,_,0,.cons _ t=>.cons r t
 | _,_,i + 1,.cons q t=>.cons q (Reps.set r i t)
theorem Reps.ints:∀ns:List Int,Reps K c H (ns.map V.int) (ns.map D.int)
 | []=>.nil
 | n :: r=>.cons (.int n) (Reps.ints r)
theorem Reps.rep {vs:List V}{ds:List D}(h:Reps K c H vs ds):∀k:Nat,Reps K c H (List.replicate k vs).flatten (List.replicate k ds).flatten
 | 0=>.nil
 | k + 1=>by
   rw [List.replicate_succ,List.replicate_succ,List.flatten_cons,List.flatten_cons];exact h.append (Reps.rep h k)
end
inductive Ob where
 | lst (xs:List D)
 | dct (kvs:List (Key×D))
inductive Sl where
 | val (d:D)
 | own (xs:List D)
structure T where
 env:List (Option Sl)
 S:List Ob
def KVR (K:PySem.W.Frag)(c:Cf)(H:Hp):List (Key×V)->List (Key×D)->Prop:=Paired λp q=>p.1=q.1/\Rep K c H p.2 q.2
def ObR (K:PySem.W.Frag)(c:Cf)(H:Hp)(a:Addr):Ob->Prop
 | .lst ds=>∃vs,H a=some (.lst vs)/\Reps K c H vs ds
 | .dct kvs=>∃us,H a=some (.dK us)/\KVR K c H us kvs
theorem ObR.mono {K:PySem.W.Frag}{c c':Cf}{H H':Hp}{a:Addr}{o:Ob}(e:Ext c H c' H')(h:ObR K c H a o)(ha:H' a=H a):ObR K c' H' a o:=by
 cases o with
 | lst ds=>obtain ⟨vs,h1,h2⟩:=h;exact ⟨vs,ha.trans h1,h2.mono e⟩
 | dct kvs=>obtain ⟨us,h1,h2⟩:=h;exact ⟨us,ha.trans h1,Paired.mapP h2 λ_ _ z=>⟨z.1,z.2.mono e⟩⟩
theorem ObR.some {o:Ob}(h:ObR K c H a o):∃u,H a=some u:=by
 cases o with
 | lst ds=>obtain ⟨vs,h1,_⟩:=h;exact ⟨_,h1⟩
 | dct kvs=>obtain ⟨us,h1,_⟩:=h;exact ⟨_,h1⟩
structure SInv (K:PySem.W.Frag)(c:Cf)(S:List Ob)(H:Hp):Prop where
 len:c.ι.length=S.length
 nd:c.ι.Nodup
 obs:∀(k:Nat) (a:Addr) (o:Ob),c.ι[k]?=some a->S[k]?=some o->ObR K c H a o
 trk:∀b,c.O b->∃o,H b=some o
 dis:∀b,c.O b->b∉c.ι
variable {S:List Ob}
theorem SInv.trkA (s:SInv K c S H){b:Addr}(h:c.A b):∃o,H b=some o:=by
 rcases h with h | h
 ·obtain ⟨k,hk,e⟩:=List.mem_iff_getElem.mp h;have e1:c.ι[k]?=some b:=by rw [List.getElem?_eq_getElem hk,e]
  have hk':k < S.length:=by rw [<-s.len];exact hk
  exact (s.obs k b _ e1 (List.getElem?_eq_getElem hk')).some
 ·exact s.trk b h
theorem SInv.free (s:SInv K c S H){b:Addr}(h:H b=none):¬c.A b:=λz=>by
 obtain ⟨o,e⟩:=s.trkA z;rw [h] at e;cases e
structure FInv (K:PySem.W.Frag)(Oo:Addr->Prop)(c:Cf)(t:T)(Z:St)(H:Hp):Prop where
 s:SInv K c t.S H
 len:t.env.length=Z.length
 sub:∀b,Oo b->c.O b
 val:∀(i:Nat) (d:D),t.env[i]?=some (some (.val d))->∃v,Z[i]?=some (some v)/\Rep K c H v d
 own:∀(i:Nat) (ds:List D),t.env[i]?=some (some (.own ds))->∃a vs,Z[i]?=some (some (.ref a))/\c.O a/\¬Oo a/\H a=some (.lst vs)/\Reps K c H vs ds
 inj:∀(i j:Nat) (ds es:List D) (a:Addr),t.env[i]?=some (some (.own ds))->t.env[j]?=some (some (.own es))->Z[i]?=some (some (.ref a))->Z[j]?=some (some (.ref a))->i=j
structure Stp (Oo:Addr->Prop)(c:Cf)(H:Hp)(c':Cf)(H':Hp):Prop where
 ext:Ext c H c' H'
 oo:∀b,Oo b->H' b=H b
theorem Stp.refl {Oo:Addr->Prop}{c:Cf}{H:Hp}:Stp Oo c H c H:=⟨.refl,λ_ _=>rfl⟩
theorem Stp.trans {Oo:Addr->Prop}{c c1 c2:Cf}{H H1 H2:Hp}(a:Stp Oo c H c1 H1)(b:Stp Oo c1 H1 c2 H2):Stp Oo c H c2 H2:=
 ⟨a.ext.trans b.ext,λx h=>(b.oo x h).trans (a.oo x h)⟩
section
variable {K:PySem.W.Frag}{Oo:Addr->Prop}{c:Cf}{t:T}{Z:St}{H:Hp}
theorem Ext.laid (s:SInv K c S H){p:Addr}{o:HO}(h:H p=none):Ext c H c (upd H p o):=
 ⟨λb u e _=>by rw [Ap (A1 e h)];exact e,λ_ _ _ z=>z,λ_ _ e=>e⟩
theorem SInv.laid {S:List Ob}(s:SInv K c S H){p:Addr}{o:HO}(h:H p=none):SInv K c S (upd H p o):=
 ⟨s.len,s.nd,λk a u e1 e2=>by
  have q:=s.obs k a u e1 e2;obtain ⟨w,hw⟩:=q.some;exact q.mono (Ext.laid s h) (Ap (A1 hw h)),
  λb z=>by obtain ⟨u,e⟩:=s.trk b z;exact ⟨u,by rw [Ap (A1 e h)];exact e⟩,s.dis⟩
theorem FInv.laid (f:FInv K Oo c t Z H){p:Addr}{o:HO}(h:H p=none):FInv K Oo c t Z (upd H p o):=by
 have e:=Ext.laid (o:=o) f.s h;refine ⟨f.s.laid h,f.len,f.sub,λi d q=>?_,λi ds q=>?_,f.inj⟩
 ·obtain ⟨v,h1,h2⟩:=f.val i d q;exact ⟨v,h1,h2.mono e⟩
 ·obtain ⟨a,vs,h1,h2,h3,h4,h5⟩:=f.own i ds q;exact ⟨a,vs,h1,h2,h3,by rw [Ap (A1 h4 h)];exact h4,h5.mono e⟩
theorem FInv.stp_laid (f:FInv K Oo c t Z H){p:Addr}{o:HO}(h:H p=none):Stp Oo c H c (upd H p o):=
 ⟨Ext.laid f.s h,λb z=>by obtain ⟨u,e⟩:=f.s.trk b (f.sub b z);exact Ap (A1 e h)⟩
theorem FInv.set (f:FInv K Oo c t Z H){i:Nat}{v:V}{d:D}(r:Rep K c H v d):FInv K Oo c { t with env:=t.env.set i (some (.val d)) } (Z.set i (some v)) H:=by
 have neq:∀{j:Nat} {x:Sl},(t.env.set i (some (.val d)))[j]?=some (some x)->(j=i/\x = .val d/\j < t.env.length)\/(j≠i/\t.env[j]?=some (some x)):=λ{j x} q=>by
  by_cases h:j=i
  ·subst h;rw [List.getElem?_set] at q
   split at q
   ·split at q
    ·next h1=>injection q with q;injection q with q;exact .inl ⟨rfl,q.symm,h1⟩
    ·cases q
   ·next h1=>exact absurd rfl h1
  ·rw [List.getElem?_set_ne (Ne.symm h)] at q;exact .inr ⟨h,q⟩
 refine ⟨f.s,by simp [f.len],f.sub,λj e q=>?_,λj ds q=>?_,λj k ds es a q1 q2 q3 q4=>?_⟩
 ·rcases neq q with ⟨rfl,z,hl⟩ | ⟨h,q⟩
  ·cases z
   exact ⟨v,by rw [List.getElem?_set_self (by rw [<-f.len];exact hl)],r⟩
  ·obtain ⟨u,h1,h2⟩:=f.val j e q;exact ⟨u,by rw [List.getElem?_set_ne (Ne.symm h)];exact h1,h2⟩
 ·rcases neq q with ⟨rfl,z,_⟩ | ⟨h,q⟩
  ·cases z
  ·obtain ⟨a,vs,h1,h2⟩:=f.own j ds q;exact ⟨a,vs,by rw [List.getElem?_set_ne (Ne.symm h)];exact h1,h2⟩
 ·rcases neq q1 with ⟨_,z,_⟩ | ⟨h,q1⟩
  ·cases z
  rcases neq q2 with ⟨_,z,_⟩ | ⟨h',q2⟩
  ·cases z
  rw [List.getElem?_set_ne (Ne.symm h)] at q3;rw [List.getElem?_set_ne (Ne.symm h')] at q4;exact f.inj j k ds es a q1 q2 q3 q4
theorem FInv.setOwn (f:FInv K Oo c t Z H){i:Nat}{p:Addr}{vs:List V}{ds:List D}(h:H p=none)(r:Reps K c H vs ds) :
 ∃c',FInv K Oo c' { t with env:=t.env.set i (some (.own ds)) } (Z.set i (some (.ref p))) (upd H p (.lst vs))/\Stp Oo c H c' (upd H p (.lst vs)):=by
 let c':Cf:=⟨c.ι,λb=>c.O b\/b=p⟩
 have nA:¬c.A p:=f.s.free h;have ext:Ext c H c' (upd H p (.lst vs)):=by
  refine ⟨λb u e _=>by rw [Ap (A1 e h)];exact e,λb u e z=>?_,λ_ _ e=>e⟩;rcases z with z | z | z
  ·exact .inl z
  ·exact .inr z
  ·subst z;rw [h] at e;cases e
 have stp:Stp Oo c H c' (upd H p (.lst vs)):=⟨ext,λb z=>by obtain ⟨u,e⟩:=f.s.trk b (f.sub b z);exact Ap (A1 e h)⟩;have sinv:SInv K c' t.S (upd H p (.lst vs)):=by
  refine ⟨f.s.len,f.s.nd,λk a u e1 e2=>?_,λb z=>?_,λb z hb=>?_⟩
  ·have q:=f.s.obs k a u e1 e2;obtain ⟨w,hw⟩:=q.some;exact q.mono ext (Ap (A1 hw h))
  ·rcases z with z | z
   ·obtain ⟨u,e⟩:=f.s.trk b z;exact ⟨u,by rw [Ap (A1 e h)];exact e⟩
   ·subst z;exact ⟨_,AF⟩
  ·rcases z with z | z
   ·exact f.s.dis b z hb
   ·subst z;exact nA (.inl hb)
 have neq:∀{j:Nat} {x:Sl},(t.env.set i (some (.own ds)))[j]?=some (some x)->(j=i/\x = .own ds/\j < t.env.length)\/(j≠i/\t.env[j]?=some (some x)):=λ{j x} q=>by
  by_cases h:j=i
  ·subst h;rw [List.getElem?_set] at q
   split at q
   ·split at q
    ·next h1=>injection q with q;injection q with q;exact .inl ⟨rfl,q.symm,h1⟩
    ·cases q
   ·next h1=>exact absurd rfl h1
  ·rw [List.getElem?_set_ne (Ne.symm h)] at q;exact .inr ⟨h,q⟩
 have fresh:∀(j:Nat) (es:List D),t.env[j]?=some (some (.own es))->Z[j]?≠some (some (.ref p)):=λj es q z=>by
  obtain ⟨a,vs',h1,_,_,h4,_⟩:=f.own j es q;rw [h1] at z;injection z with z;injection z with z;injection z with z;subst z;rw [h] at h4;cases h4
 refine ⟨c',⟨sinv,by simp [f.len],λb z=>.inl (f.sub b z),λj e q=>?_,λj es q=>?_,λj k ds' es a q1 q2 q3 q4=>?_⟩,stp⟩
 ·rcases neq q with ⟨_,z,_⟩ | ⟨hn,q⟩
  ·cases z
  ·obtain ⟨u,h1,h2⟩:=f.val j e q;exact ⟨u,by rw [List.getElem?_set_ne (Ne.symm hn)];exact h1,h2.mono ext⟩
 ·rcases neq q with ⟨rfl,z,hl⟩ | ⟨hn,q⟩
  ·cases z
   refine ⟨p,vs,by rw [List.getElem?_set_self (by rw [<-f.len];exact hl)],.inr rfl,λz=>?_,AF,r.mono ext⟩;obtain ⟨u,e⟩:=f.s.trk p (f.sub p z);rw [h] at e;cases e
  ·obtain ⟨a,ws,h1,h2,h3,h4,h5⟩:=f.own j es q;exact ⟨a,ws,by rw [List.getElem?_set_ne (Ne.symm hn)];exact h1,.inl h2,h3,by rw [Ap (A1 h4 h)];exact h4,h5.mono ext⟩
 ·rcases neq q1 with ⟨z1,z2,l1⟩ | ⟨n1,r1⟩
  ·rcases neq q2 with ⟨y1,_,_⟩ | ⟨n2,r2⟩
   ·rw [z1,y1]
   ·subst z1;rw [List.getElem?_set_self (by rw [<-f.len];exact l1)] at q3;injection q3 with q3;injection q3 with q3;injection q3 with q3;subst q3
    rw [List.getElem?_set_ne (Ne.symm n2)] at q4;exact absurd q4 (fresh k es r2)
  ·rcases neq q2 with ⟨y1,y2,l2⟩ | ⟨n2,r2⟩
   ·subst y1;rw [List.getElem?_set_self (by rw [<-f.len];exact l2)] at q4;injection q4 with q4;injection q4 with q4;injection q4 with q4;subst q4
    rw [List.getElem?_set_ne (Ne.symm n1)] at q3;exact absurd q3 (fresh j ds' r1)
   ·rw [List.getElem?_set_ne (Ne.symm n1)] at q3;rw [List.getElem?_set_ne (Ne.symm n2)] at q4;exact f.inj j k ds' es a r1 r2 q3 q4
theorem FInv.frz (f:FInv K Oo c t Z H){i:Nat}{ds:List D}(q:t.env[i]?=some (some (.own ds))) :
 ∃c' v,FInv K Oo c' { t with env:=t.env.set i (some (.val (.lst ds))) } Z H/\Stp Oo c H c' H/\Z[i]?=some (some v)/\Rep K c' H v (.lst ds):=by
 obtain ⟨a,vs,h1,h2,h3,h4,h5⟩:=f.own i ds q
 let c':Cf:=⟨c.ι,λb=>c.O b/\b≠a⟩
 have ext:Ext c H c' H:=⟨λ_ _ e _=>e,λb u e z=>z.elim .inl λw=>.inr w.1,λ_ _ e=>e⟩;have sinv:SInv K c' t.S H:=⟨f.s.len,f.s.nd,λk b u e1 e2=>(f.s.obs k b u e1 e2).mono ext rfl,λb z=>f.s.trk b z.1,λb z=>f.s.dis b z.1⟩;have nA:¬c'.A a:=λz=>z.elim (λw=>f.s.dis a h2 w) λw=>w.2 rfl;have hZ:Z.set i (some (.ref a))=Z:=by
  apply List.ext_getElem?;intro j
  by_cases hj:j=i
  ·subst hj;rw [List.getElem?_set_self (by have:=(List.getElem?_eq_some_iff.mp h1).1;exact this),h1]
  ·rw [List.getElem?_set_ne (Ne.symm hj)]
 have r:Rep K c' H (.ref a) (.lst ds):=.lst h4 nA (h5.mono ext);have f0:FInv K Oo c' { t with env:=t.env.set i (some (.val (.lst ds))) } Z H:=by
  have neq:∀{j:Nat} {x:Sl},(t.env.set i (some (.val (.lst ds))))[j]?=some (some x)->(j=i/\x = .val (.lst ds))\/(j≠i/\t.env[j]?=some (some x)):=λ{j x} q=>by
   by_cases h:j=i
   ·subst h;rw [List.getElem?_set] at q
    split at q
    ·split at q
     ·injection q with q;injection q with q;exact .inl ⟨rfl,q.symm⟩
     ·cases q
    ·next h1=>exact absurd rfl h1
   ·rw [List.getElem?_set_ne (Ne.symm h)] at q;exact .inr ⟨h,q⟩
  refine ⟨sinv,by simp [f.len],λb z=>⟨f.sub b z,λw=>h3 (w ▸ z)⟩,λj e q'=>?_,λj es q'=>?_,λj k ds' es b q1 q2 q3 q4=>?_⟩
  ·rcases neq q' with ⟨rfl,z⟩ | ⟨hn,q'⟩
   ·cases z;exact ⟨_,h1,r⟩
   ·obtain ⟨u,w1,w2⟩:=f.val j e q';exact ⟨u,w1,w2.mono ext⟩
  ·rcases neq q' with ⟨_,z⟩ | ⟨hn,q'⟩
   ·cases z
   ·obtain ⟨b,ws,w1,w2,w3,w4,w5⟩:=f.own j es q';refine ⟨b,ws,w1,⟨w2,λz=>?_⟩,w3,w4,w5.mono ext⟩;subst z;exact hn (f.inj j i es ds b q' q w1 h1)
  ·rcases neq q1 with ⟨_,z⟩ | ⟨_,q1⟩
   ·cases z
   rcases neq q2 with ⟨_,z⟩ | ⟨_,q2⟩
   ·cases z
   exact f.inj j k ds' es b q1 q2 q3 q4
 exact ⟨c',_,f0,⟨ext,λ_ _=>rfl⟩,h1,r⟩
theorem FInv.wrOwn (f:FInv K Oo c t Z H){i:Nat}{ds ds':List D}{vs':List V}{a:Addr}(q:t.env[i]?=some (some (.own ds)))(h1:Z[i]?=some (some (.ref a)))(r:Reps K c H vs' ds') :
 FInv K Oo c { t with env:=t.env.set i (some (.own ds')) } Z (upd H a (.lst vs'))/\Stp Oo c H c (upd H a (.lst vs')):=by
 obtain ⟨a',vs,g1,h2,h3,h4,h5⟩:=f.own i ds q;rw [h1] at g1;injection g1 with g1;injection g1 with g1;injection g1 with g1;subst g1
 have ext:Ext c H c (upd H a (.lst vs')):=⟨λb u e n=>by rw [Ap (λ(z:b=a)=>n (.inr (by rw [z];exact h2)))];exact e,λ_ _ _ z=>z,λ_ _ e=>e⟩;have stp:Stp Oo c H c (upd H a (.lst vs')):=⟨ext,λb z=>Ap λw=>h3 (w ▸ z)⟩;have sinv:SInv K c t.S (upd H a (.lst vs')):=by
  refine ⟨f.s.len,f.s.nd,λk b u e1 e2=>(f.s.obs k b u e1 e2).mono ext (Ap λz=>f.s.dis a h2 (z ▸ List.mem_of_getElem? e1)),λb z=>?_,f.s.dis⟩
  by_cases hb:b=a
  ·subst hb;exact ⟨_,AF⟩
  ·obtain ⟨u,e⟩:=f.s.trk b z;exact ⟨u,by rw [Ap hb];exact e⟩
 have neq:∀{j:Nat} {x:Sl},(t.env.set i (some (.own ds')))[j]?=some (some x)->(j=i/\x = .own ds')\/(j≠i/\t.env[j]?=some (some x)):=λ{j x} q=>by
  by_cases h:j=i
  ·subst h;rw [List.getElem?_set] at q
   split at q
   ·split at q
    ·injection q with q;injection q with q;exact .inl ⟨rfl,q.symm⟩
    ·cases q
   ·next h1=>exact absurd rfl h1
  ·rw [List.getElem?_set_ne (Ne.symm h)] at q;exact .inr ⟨h,q⟩
 refine ⟨⟨sinv,by simp [f.len],f.sub,λj e q'=>?_,λj es q'=>?_,λj k es es' b q1 q2 q3 q4=>?_⟩,stp⟩
 ·rcases neq q' with ⟨_,z⟩ | ⟨_,q'⟩
  ·cases z
  ·obtain ⟨u,w1,w2⟩:=f.val j e q';exact ⟨u,w1,w2.mono ext⟩
 ·rcases neq q' with ⟨rfl,z⟩ | ⟨hn,q'⟩
  ·cases z;exact ⟨a,vs',h1,h2,h3,AF,r.mono ext⟩
  ·obtain ⟨b,ws,w1,w2,w3,w4,w5⟩:=f.own j es q';have hb:b≠a:=λz=>by subst z;exact hn (f.inj j i es ds b q' q w1 h1)
   exact ⟨b,ws,w1,w2,w3,by rw [Ap hb];exact w4,w5.mono ext⟩
 ·have old:∀{j:Nat} {x:List D},(t.env.set i (some (.own ds')))[j]?=some (some (.own x))->∃y,t.env[j]?=some (some (.own y)):=λ{j x} q'=>by
   rcases neq q' with ⟨rfl,_⟩ | ⟨_,q'⟩
   ·exact ⟨ds,q⟩
   ·exact ⟨x,q'⟩
  obtain ⟨y1,z1⟩:=old q1;obtain ⟨y2,z2⟩:=old q2;exact f.inj j k y1 y2 b z1 z2 q3 q4
theorem FInv.wrObj (f:FInv K Oo c t Z H){k:Nat}{a:Addr}{o:Ob}{u:HO}(e:c.ι[k]?=some a)(r:∀c' H',Ext c H c' H'->H' a=some u->ObR K c' H' a o) :
 FInv K Oo c { t with S:=t.S.set k o } Z (upd H a u)/\Stp Oo c H c (upd H a u):=by
 have hA:a∈c.ι:=List.mem_of_getElem? e;have ext:Ext c H c (upd H a u):=⟨λb w h n=>by rw [Ap (λ(z:b=a)=>n (.inl (by rw [z];exact hA)))];exact h,λ_ _ _ z=>z,λ_ _ e=>e⟩;have neO:∀b,c.O b->b≠a:=λb z w=>f.s.dis b z (w ▸ hA);have stp:Stp Oo c H c (upd H a u):=⟨ext,λb z=>Ap (neO b (f.sub b z))⟩;have sinv:SInv K c (t.S.set k o) (upd H a u):=by
  refine ⟨by simp [f.s.len],f.s.nd,λj b o' e1 e2=>?_,λb z=>?_,f.s.dis⟩
  ·by_cases hj:j=k
   ·subst hj;rw [e] at e1;cases e1
    have hl:j < t.S.length:=by rw [<-f.s.len];exact (List.getElem?_eq_some_iff.mp e).1
    rw [List.getElem?_set_self hl] at e2;cases e2
    exact r c _ ext AF
   ·rw [List.getElem?_set_ne (Ne.symm hj)] at e2;refine (f.s.obs j b o' e1 e2).mono ext (Ap λz=>?_);subst z;obtain ⟨l1,g1⟩:=List.getElem?_eq_some_iff.mp e1;obtain ⟨l2,g2⟩:=List.getElem?_eq_some_iff.mp e;exact hj ((List.getElem_inj f.s.nd).mp (g1.trans g2.symm))
  ·obtain ⟨w,h⟩:=f.s.trk b z;exact ⟨w,by rw [Ap (neO b z)];exact h⟩
 refine ⟨⟨sinv,f.len,f.sub,λi d q=>?_,λi ds q=>?_,f.inj⟩,stp⟩
 ·obtain ⟨v,h1,h2⟩:=f.val i d q;exact ⟨v,h1,h2.mono ext⟩
 ·obtain ⟨b,vs,h1,h2,h3,h4,h5⟩:=f.own i ds q;exact ⟨b,vs,h1,h2,h3,by rw [Ap (neO b h2)];exact h4,h5.mono ext⟩
theorem FInv.newObj (f:FInv K Oo c t Z H){p:Addr}{o:Ob}{u:HO}(h:H p=none)(r:∀c' H',Ext c H c' H'->H' p=some u->ObR K c' H' p o) :
 ∃c',FInv K Oo c' { t with S:=t.S++[o] } Z (upd H p u)/\Stp Oo c H c' (upd H p u)/\c'.ι[t.S.length]?=some p:=by
 let c':Cf:=⟨c.ι++[p],c.O⟩
 have nA:¬c.A p:=f.s.free h;have ext:Ext c H c' (upd H p u):=by
  refine ⟨λb w e _=>by rw [Ap (A1 e h)];exact e,λb w e z=>?_,λk a e=>?_⟩
  ·rcases z with z | z
   ·rcases List.mem_append.mp z with z | z
    ·exact .inl z
    ·rw [List.mem_singleton] at z;subst z;rw [h] at e;cases e
   ·exact .inr z
  ·show (c.ι++[p])[k]?=some a;rw [List.getElem?_append_left (List.getElem?_eq_some_iff.mp e).1];exact e
 have stp:Stp Oo c H c' (upd H p u):=⟨ext,λb z=>by obtain ⟨w,e⟩:=f.s.trk b (f.sub b z);exact Ap (A1 e h)⟩;have at_:(c.ι++[p])[t.S.length]?=some p:=by rw [<-f.s.len,List.getElem?_append_right (Nat.le_refl _)];simp
 have sinv:SInv K c' (t.S++[o]) (upd H p u):=by
  refine ⟨by simp [c',f.s.len],?_,λj b o' e1 e2=>?_,λb z=>?_,λb z hb=>?_⟩
  ·show (c.ι++[p]).Nodup;exact List.nodup_append.mpr ⟨f.s.nd,by simp,λx hx y hy z=>by rw [List.mem_singleton] at hy;subst z;subst hy;exact nA (.inl hx)⟩
  ·have hlt:j < (t.S++[o]).length:=(List.getElem?_eq_some_iff.mp e2).1
   by_cases hj:j < t.S.length
   ·have e1':c.ι[j]?=some b:=by
     have q:(c.ι++[p])[j]?=some b:=e1;rw [List.getElem?_append_left (by rw [f.s.len];exact hj)] at q;exact q
    rw [List.getElem?_append_left hj] at e2;have q:=f.s.obs j b o' e1' e2;obtain ⟨w,hw⟩:=q.some;exact q.mono ext (Ap (A1 hw h))
   ·have hj':j=t.S.length:=by simp at hlt;lia
    subst hj';rw [at_] at e1;cases e1
    rw [List.getElem?_append_right (Nat.le_refl _)] at e2;simp at e2;subst e2;exact r c' _ ext AF
  ·obtain ⟨w,e⟩:=f.s.trk b z;exact ⟨w,by rw [Ap (A1 e h)];exact e⟩
  ·rcases List.mem_append.mp hb with w | w
   ·exact f.s.dis b z w
   ·rw [List.mem_singleton] at w;subst w;exact nA (.inr z)
 refine ⟨c',⟨sinv,f.len,f.sub,λi d q=>?_,λi ds q=>?_,f.inj⟩,stp,at_⟩
 ·obtain ⟨v,h1,h2⟩:=f.val i d q;exact ⟨v,h1,h2.mono ext⟩
 ·obtain ⟨b,vs,h1,h2,h3,h4,h5⟩:=f.own i ds q;exact ⟨b,vs,h1,h2,h3,by rw [Ap (A1 h4 h)];exact h4,h5.mono ext⟩
theorem FInv.after (f:FInv K Oo c t Z H){c':Cf}{S':List Ob}{H':Hp}(s:SInv K c' S' H')(st:Stp c.O c H c' H')(ho:∀b,c'.O b↔c.O b):FInv K Oo c' { t with S:=S' } Z H'/\Stp Oo c H c' H':=by
 refine ⟨⟨s,f.len,λb z=>(ho b).mpr (f.sub b z),λi d q=>?_,λi ds q=>?_,f.inj⟩,st.ext,λb z=>st.oo b (f.sub b z)⟩
 ·obtain ⟨v,h1,h2⟩:=f.val i d q;exact ⟨v,h1,h2.mono st.ext⟩
 ·obtain ⟨b,vs,h1,h2,h3,h4,h5⟩:=f.own i ds q;exact ⟨b,vs,h1,(ho b).mpr h2,h3,(st.oo b h2).trans h4,h5.mono st.ext⟩
end
abbrev M (α:Type):=T->Option (α×T)
inductive Out where
 | next | brk | cont | ret (d:D)
noncomputable def ret {α:Type}(a:α):M α:=λt=>some (a,t)
noncomputable def fail {α:Type}:M α:=λ_=>none
noncomputable def bnd {α β:Type}(f:M α)(g:α->M β):M β:=λt=>match f t with
 | some (a,t1)=>g a t1
 | none=>none
variable {t:T}
theorem Ak {α β:Type}{f:M α}{g:α->M β}{z:β×T}(h:bnd f g t=some z):∃a t1,f t=some (a,t1)/\g a t1=some z:=by
 unfold bnd at h
 cases e:f t with
 | none=>rw [e] at h;cases h
 | some p=>obtain ⟨a,t1⟩:=p;rw [e] at h;exact ⟨a,t1,rfl,h⟩
noncomputable def LIM:Nat:=100000
theorem B5:LIM<=sizeLine:=by unfold LIM;decide
section
variable (K:PySem.W.Frag)
def RE (f:M D):TE:=λZ H Q=>∃Oo c t,FInv K Oo c t Z H/\∃r t',f t=some (r,t')/\∀v H' c',FInv K Oo c' t' Z H'->Stp Oo c H c' H'->Rep K c' H' v r->Q v H'
def RT (f:M Bool):TT:=λZ H Q=>∃Oo c t,FInv K Oo c t Z H/\∃r t',f t=some (r,t')/\∀H' c',FInv K Oo c' t' Z H'->Stp Oo c H c' H'->Q r H'
def RA (f:M (List D)):TA:=λZ H Q=>∃Oo c t,FInv K Oo c t Z H/\∃r t',f t=some (r,t')/\∀vs H' c',FInv K Oo c' t' Z H'->Stp Oo c H c' H'->Reps K c' H' vs r->Q vs H'
def RF (f:M (List D)):TE:=λZ H Q=>∃Oo c t,FInv K Oo c t Z H/\∃ds t',f t=some (ds,t')/\∀p vs H' c',FInv K Oo c' t' Z H'->Stp Oo c H c' H'->Reps K c' H' vs ds->H' p=none->Q (.ref p) (upd H' p (.lst vs))
def RSg (μ:Cf->Hp->D->(V->Hp->Prop)->Prop)(f:M Out):TS:=λE Z H=>∃Oo c t,FInv K Oo c t Z H/\∃o t',f t=some (o,t')/\∀Z' H' c',FInv K Oo c' t' Z' H'->Stp Oo c H c' H'->
 match o with
 | .next=>E.nx Z' H'
 | .brk=>E.bk Z' H'
 | .cont=>E.ct Z' H'
 | .ret r=>μ c' H' r E.rt
def μR:Cf->Hp->D->(V->Hp->Prop)->Prop:=λc H r rt=>∀v,Rep K c H v r->rt v H
abbrev RS (f:M Out):TS:=RSg K (μR K) f
def RG (f:D->M Unit):TG:=λv Z H Q=>∃Oo c t d,FInv K Oo c t Z H/\Rep K c H v d/\∃t',f d t=some ((),t')/\∀Z' H' c',FInv K Oo c' t' Z' H'->Stp Oo c H c' H'->Q Z' H'
structure ItOk (J:It)(c:Cf)(H:Hp)(ds:List D):Prop where
 go:∀c' H' (i:Nat),Ext c H c' H'->i < ds.length->J.go i H'
 yld:∀c' H' (i:Nat) x H'' d,Ext c H c' H'->ds[i]?=some d->J.yld i H' x H''->H''=H'/\Rep K c' H' x d
 stop:∀c' H',Ext c H c' H'->J.stop ds.length H'
def RI (f:M (List D)):TI:=λZ H R=>∃Oo c t,FInv K Oo c t Z H/\∃ds t',f t=some (ds,t')/\∀J H' c',FInv K Oo c' t' Z H'->Stp Oo c H c' H'->ItOk K J c' H' ds->R J H'
def Rc (R:V->Hp->VK->Prop)(h:D->M D):Prop:=∀{Oo:Addr->Prop} {c:Cf} {t:T} {Z:L2.St} {H:Hp} {x:V} {dx r:D} {t':T} {Q:VK},FInv K Oo c t Z H->Rep K c H x dx->h dx t=some (r,t')->
 (∀v H' c',FInv K Oo c' t' Z H'->Stp Oo c H c' H'->Rep K c' H' v r->Q v H')->R x H Q
def BD (R:R2)(h:D->D->M D):Prop:=∀{Oo:Addr->Prop} {c:Cf} {t:T} {Z:L2.St} {H:Hp} {x y:V} {dx dy r:D} {t':T} {Q:VK},FInv K Oo c t Z H->Rep K c H x dx->Rep K c H y dy->h dx dy t=some (r,t')->
 (∀v H' c',FInv K Oo c' t' Z H'->Stp Oo c H c' H'->Rep K c' H' v r->Q v H')->R x y H Q
def Dc (R:List V->Hp->VK->Prop)(h:List D->M D):Prop:=∀{Oo:Addr->Prop} {c:Cf} {t:T} {Z:L2.St} {H:Hp} {xs:List V} {ds:List D} {r:D} {t':T} {Q:VK},FInv K Oo c t Z H->Reps K c H xs ds->h ds t=some (r,t')->
 (∀v H' c',FInv K Oo c' t' Z H'->Stp Oo c H c' H'->Rep K c' H' v r->Q v H')->R xs H Q
def L8 (R:R2)(h:D->D->M (List D)):Prop:=∀{Oo:Addr->Prop} {c:Cf} {t:T} {Z:L2.St} {H:Hp} {x y:V} {dx dy:D} {r:List D} {t':T} {Q:VK},FInv K Oo c t Z H->Rep K c H x dx->Rep K c H y dy->h dx dy t=some (r,t')->
 (∀p vs H' c',FInv K Oo c' t' Z H'->Stp Oo c H c' H'->Reps K c' H' vs r->H' p=none->Q (.ref p) (upd H' p (.lst vs)))->R x y H Q
def JD (R:List V->Hp->VK->Prop)(h:List D->M (List D)):Prop:=∀{Oo:Addr->Prop} {c:Cf} {t:T} {Z:L2.St} {H:Hp} {xs:List V} {ds r:List D} {t':T} {Q:VK},FInv K Oo c t Z H->Reps K c H xs ds->h ds t=some (r,t')->
 (∀p vs H' c',FInv K Oo c' t' Z H'->Stp Oo c H c' H'->Reps K c' H' vs r->H' p=none->Q (.ref p) (upd H' p (.lst vs)))->R xs H Q
end
variable {tg:Expr}{i:Int}{j:Nat}{x:Str}{f g w:M D}{h h':D->D->M D}{R R':R2}{Z:L2.St}
section
variable {X:Cx}{e a b:Expr}{pos:Pos}
theorem Bs {t t':TE}(h:PE X e t)(i:∀Z H Q,t' Z H Q->t Z H Q):PE X e t':=λpins s Z H Q I q=>h pins s Z H Q I (i Z H Q q)
theorem G5 {t t':TT}(h:PT X e t)(i:∀Z H Q,t' Z H Q->t Z H Q):PT X e t':=λpins s Z H Q I q=>h pins s Z H Q I (i Z H Q q)
theorem MX {t t':TT}(h:PW X e t)(i:∀Z H Q,t' Z H Q->t Z H Q):PW X e t':=λw pins s Z H Q I q=>h w pins s Z H Q I (i Z H Q q)
theorem MV {es:List Expr}{t t':TA}(h:PA X es t)(i:∀Z H Q,t' Z H Q->t Z H Q):PA X es t':=λpos pins s Z H Q I q=>h pos pins s Z H Q I (i Z H Q q)
theorem BT {st:Stmt}{t t':TS}(h:PS X st t)(i:∀E Z H,t' E Z H->t E Z H):PS X st t':=λpins s Z H E I q=>h pins s Z H E I (i E Z H q)
theorem Lu {st:List Stmt}{t t':TS}(h:PSs X st t)(i:∀E Z H,t' E Z H->t E Z H):PSs X st t':=λpins s Z H E I q=>h pins s Z H E I (i E Z H q)
theorem JN {t t':TG}(h:PG X e t)(i:∀v Z H Q,t' v Z H Q->t v Z H Q):PG X e t':=λpins s Z H v u Q I r q=>h pins s Z H v u Q I r (i v Z H Q q)
theorem JO {t t':TI}(h:PI X tg e t)(i:∀Z H R,t' Z H R->t Z H R):PI X tg e t':=λpins s Z H R I q=>h pins s Z H R I (i Z H R q)
def fC (d:D):M D:=ret d
theorem GN {v:V}{d:D}(h:PE X e (tC v))(r:∀c H,Rep X.K c H v d):PE X e (RE X.K (fC d)):=
 Bs h λZ H Q z9=>by
  obtain ⟨Oo,c,t,f,r',t',eq,k⟩:=z9
  cases eq
  exact k v H c f .refl (r c H)
theorem Af:PE X (.Constant (.int i) j pos) (RE X.K (fC (.int i))):=GN R0 λ_ _=>.int i
theorem Dj {i:Bool}:PE X (.Constant (.bool i) j pos) (RE X.K (fC (.bl i))):=GN Tt λ_ _=>.bl i
theorem AY {i:Str}:PE X (.Constant (.str i) j pos) (RE X.K (fC (.str i))):=GN R6 λ_ _=>.str i
theorem C1:PE X (.Constant .none j pos) (RE X.K (fC .non)):=GN R3 λ_ _=>.non
theorem Gm {tk:Tok}(hg:Gl X x)(hm:X.mg x=some (.int i tk))(hd:(x == ("__debug__" : Str))=false:=by decide):PE X (.Name x pos) (RE X.K (fC (.int i))):=
 GN (Gp hg hm (v:=.int i) ⟨tk,rfl⟩ hd) λ_ _=>.int i
theorem Oc {y:Str}{tk:Tok}(hg:Gl X x)(hm:X.mg x=some (.str y tk))(hd:(x == ("__debug__" : Str))=false:=by decide):PE X (.Name x pos) (RE X.K (fC (.str y))):=
 GN (Gp hg hm (v:=.str y) ⟨tk,rfl⟩ hd) λ_ _=>.str y
theorem Cn {n:String}(hg:Gl X x)(hm:X.mg x=none)(hv:bootBuiltins x=some (.type n))(hn:x≠"__name__":=by decide)(hd:(x == ("__debug__" : Str))=false:=by decide):PE X (.Name x pos) (RE X.K (fC (.ty n))):=
 GN (LP hg hm hv (v:=.ty n) rfl hn hd) λ_ _=>.ty n
noncomputable def Ad (i:Nat):M D:=λt=>match t.env[i]? with
 | some (some (.val d))=>some (d,t)
 | some (some (.own ds))=>some (.lst ds,{ t with env:=t.env.set i (some (.val (.lst ds))) })
 | _=>none
theorem Mi {i:Nat}{t':T}{r:D}(h:Ad i t=some (r,t')):(t.env[i]?=some (some (.val r))/\t'=t)\/∃ds,t.env[i]?=some (some (.own ds))/\r = .lst ds/\t' = { t with env:=t.env.set i (some (.val (.lst ds))) }:=by
 unfold Ad at h
 cases e:t.env[i]? with
 | none=>rw [e] at h;cases h
 | some o=>
   cases o with
   | none=>rw [e] at h;cases h
   | some sl=>
     cases sl with
     | val d=>rw [e] at h;cases h;exact .inl ⟨rfl,rfl⟩
     | own ds=>rw [e] at h;cases h;exact .inr ⟨ds,rfl,rfl,rfl⟩
theorem Ac (i:Nat){x:Str}(hN:X.N[i]?=some x:=by rfl)(hv:Vis X.env.scope x:=by first | exact Or.inl rfl | exact Or.inr (Or.inl rfl) | exact Or.inr (Or.inr rfl))(hd:(x == ("__debug__" : Str))=false:=by decide)
 (hcd:(x == ("__classdict__" : Str))=false:=by decide):PE X (.Name x pos) (RE X.K (Ad i)):=
 Bs (Fd hN hv hd hcd) λZ H Q z9=>by
  obtain ⟨Oo,c,t,f,r,t',eq,k⟩:=z9;rcases Mi eq with ⟨q,rfl⟩ | ⟨ds,q,rfl,rfl⟩
  ·obtain ⟨v,h1,h2⟩:=f.val i r q;exact ⟨v,h1,k v H c f .refl h2⟩
  ·obtain ⟨c',v,f',st,h1,h2⟩:=f.frz q;exact ⟨v,h1,k v H c' f' st h2⟩
def Ah (f g:M D)(h:D->D->M D):M D:=bnd f λx=>bnd g λy=>h x y
theorem RE.two (s:BD K R h){Z:L2.St}{H:Hp}{Q:VK}(q:RE K (Ah f g h) Z H Q):tOp R (RE K f) (RE K g) Z H Q:=by
 obtain ⟨Oo,c,t,fi,r,t',eq,k⟩:=q;obtain ⟨dx,t1,e1,eq⟩:=Ak eq;obtain ⟨dy,t2,e2,eq⟩:=Ak eq;exact ⟨Oo,c,t,fi,dx,t1,e1,λx H1 c1 f1 s1 rx=>⟨Oo,c1,t1,f1,dy,t2,e2,λy H2 c2 f2 s2 ry=>s f2 (rx.mono s2.ext) ry eq λv H' c' f' s' rv=>k v H' c' f' ((s1.trans s2).trans s') rv⟩⟩
theorem Ar {op:Operator}{R:R2}{f g:M D}{h:D->D->M D}(ho:OpR X (binaryOp op) R)(s:BD X.K R h)(ha:PE X a (RE X.K f))(hb:PE X b (RE X.K g)):PE X (.BinOp a op b pos) (RE X.K (Ah f g h)):=
 Bs (MA ho ha hb) λ_ _ _ q=>RE.two s q
theorem E6 {op:CmpOp}{R:R2}{f g:M D}{h:D->D->M D}(ho:OpR X (compareOp op) R)(s:BD X.K R h)(ha:PE X a (RE X.K f))(hb:PE X b (RE X.K g))(hm:behindInMarks op b=false):PE X (.Compare a [op] [b] pos) (RE X.K (Ah f g h)):=
 Bs (Qt ho ha hb hm) λ_ _ _ q=>RE.two s q
theorem Au {R:R2}{f g:M D}{h:D->D->M D}(hr:IxR X R)(s:BD X.K R h)(ha:PE X a (RE X.K f))(hb:PE X b (RE X.K g))(hs:Lv b):PE X (.Subscript a b pos) (RE X.K (Ah f g h)):=
 Bs (Tu hr ha hb hs) λ_ _ _ q=>RE.two s q
def fUn (f:M D)(h:D->M D):M D:=bnd f h
theorem Tk {op:UnaryOp}{R:V->Hp->VK->Prop}{h:D->M D}(ho:UnR X (unaryOp op) R)(s:Rc X.K R h)(ha:PE X a (RE X.K f)):PE X (.UnaryOp op a pos) (RE X.K (fUn f h)):=
 Bs (Tv ho ha) λZ H Q z9=>by
  obtain ⟨Oo,c,t,fi,r,t',eq,k⟩:=z9;obtain ⟨dx,t1,e1,eq⟩:=Ak eq;exact ⟨Oo,c,t,fi,dx,t1,e1,λx H1 c1 f1 s1 rx=>s f1 rx eq λv H' c' f' s' rv=>k v H' c' f' (s1.trans s') rv⟩
def toB:D->M Bool
 | .bl b=>ret b
 | _=>fail
def AM (f:M D):M Bool:=bnd f toB
theorem G2 {d:D}{z:Bool×T}(h:toB d t=some z):∃b,d = .bl b/\z=(b,t):=by
 cases d with
 | bl b=>cases h;exact ⟨b,rfl,rfl⟩
 | _=>cases h
theorem RT.val {Q:Bool->Hp->Prop}(q:RT K (AM f) Z H Q):RE K f Z H λx H1=>∃k,x = .bl k/\Q k H1:=by
 obtain ⟨Oo,c,t,fi,r,t',eq,k⟩:=q;obtain ⟨d,t1,e1,eq⟩:=Ak eq;obtain ⟨b,rfl,z⟩:=G2 eq
 cases z
 refine ⟨Oo,c,t,fi,_,t',e1,λv H1 c1 f1 s1 rv=>?_⟩
 cases rv
 exact ⟨r,rfl,k H1 c1 f1 s1⟩
theorem BL {f:M D}(h:PE X e (RE X.K f))(he:∀whole,isTrue e X.env whole=(do let v <-whole;standAt e.pos;holding [v] (truthy v)):=by intro _;rfl):PT X e (RT X.K (AM f)):=
 G5 (Sf h he) λ_ _ _ q=>RT.val q
theorem A5 {op:CmpOp}{R:R2}{f g:M D}{h:D->D->M D}(ho:OpR X (compareOp op) R)(s:BD X.K R h)(ha:PE X a (RE X.K f))(hb:PE X b (RE X.K g))(hm:behindInMarks op b=false):PT X (.Compare a [op] [b] pos) (RT X.K (AM (Ah f g h))):=
 G5 (QD ho ha hb hm) λZ H Q q=>RE.two s (RT.val q)
def D8 (f g w:M D)(h h':D->D->M D):M D:=bnd f λx=>bnd g λy=>bnd (AM (h x y)) λk=>if k=true then bnd w λz=>h' y z else ret (.bl false)
theorem RE.chain (s:BD K R h)(s':BD K R' h'){Z:L2.St}{H:Hp}{Q:VK}(q:RE K (D8 f g w h h') Z H Q):K7 R R' (RE K f) (RE K g) (RE K w) Z H Q:=by
 obtain ⟨Oo,c,t,fi,r,t',eq,k⟩:=q;obtain ⟨dx,t1,e1,eq⟩:=Ak eq;obtain ⟨dy,t2,e2,eq⟩:=Ak eq;obtain ⟨kb,t3,e3,eq⟩:=Ak eq;obtain ⟨d3,t3',e3',e3⟩:=Ak e3;obtain ⟨b3,rfl,z⟩:=G2 e3
 cases z
 refine ⟨Oo,c,t,fi,dx,t1,e1,λx H1 c1 f1 s1 rx=>⟨Oo,c1,t1,f1,dy,t2,e2,λy H2 c2 f2 s2 ry=>s f2 (rx.mono s2.ext) ry e3' λv H3 c3 f3 s3 rv=>?_⟩⟩
 cases rv
 refine ⟨kb,rfl,?_⟩
 cases kb with
 | false=>
   rw [if_neg Bool.false_ne_true] at eq ⊢
   cases eq
   exact k _ H3 c3 f3 ((s1.trans s2).trans s3) (.bl false)
 | true=>
   rw [if_pos rfl] at eq ⊢;obtain ⟨dz,t4,e4,eq⟩:=Ak eq;exact ⟨Oo,c3,t3,f3,dz,t4,e4,λw' H4 c4 f4 s4 rw'=>s' f4 (ry.mono (s3.trans s4).ext) rw' eq λv H' c' f' s' rv=>k v H' c' f' ((((s1.trans s2).trans s3).trans s4).trans s') rv⟩
theorem Oa {d:Expr}{op op':CmpOp}(ho:OpR X (compareOp op) R)(ho':OpR X (compareOp op') R')(s:BD X.K R h)(s':BD X.K R' h')(ha:PE X a (RE X.K f))(hb:PE X b (RE X.K g))(hd:PE X d (RE X.K w))
 (hm:lastMarks [op,op'] [b,d]=false:=by with_unfolding_all rfl):PE X (.Compare a [op,op'] [b,d] pos) (RE X.K (D8 f g w h h')):=
 Bs (OA ho ho' ha hb hd hm) λ_ _ _ q=>RE.chain s s' q
theorem Of {d:Expr}{op op':CmpOp}(ho:OpR X (compareOp op) R)(ho':OpR X (compareOp op') R')(s:BD X.K R h)(s':BD X.K R' h')(ha:PE X a (RE X.K f))(hb:PE X b (RE X.K g))(hd:PE X d (RE X.K w))
 (hm:lastMarks [op,op'] [b,d]=false:=by with_unfolding_all rfl):PT X (.Compare a [op,op'] [b,d] pos) (RT X.K (AM (D8 f g w h h'))):=
 G5 (OG ho ho' ha hb hd hm) λZ H Q q=>RE.chain s s' (RT.val q)
def HR (f g:M Bool):M Bool:=bnd f λk=>if k=true then g else ret false
def fOr (f g:M Bool):M Bool:=bnd f λk=>if k=true then ret true else g
def Ef (f:M Bool):M Bool:=bnd f λk=>ret (!k)
def Fo (f g:M D):M D:=bnd (AM f) λk=>if k=true then g else ret (.bl false)
def Rq (f g:M D):M D:=bnd (AM f) λk=>if k=true then ret (.bl true) else g
def Hd (f:M D):M D:=bnd (AM f) λk=>ret (.bl (!k))
def fIf (f:M Bool)(g h:M D):M D:=bnd f λk=>if k=true then g else h
variable {f g:M Bool}{u v w:M D}{rest:List Expr}
theorem Dk (h:PW X e (RT X.K f)):PT X e (RT X.K f):=h.pt
theorem LF (ha:PT X a (RT X.K f)):PW X (.BoolOp .And [a] pos) (RT X.K f):=QE ha
theorem Dh (ha:PT X a (RT X.K f)):PW X (.BoolOp .Or [a] pos) (RT X.K f):=Sj ha
theorem Nh (ha:PT X a (RT X.K f))(hb:PW X (.BoolOp .And (b :: rest) pos) (RT X.K g)):PW X (.BoolOp .And (a :: b :: rest) pos) (RT X.K (HR f g)):=
 MX (Si ha hb) λZ H Q z9=>by
  obtain ⟨Oo,c,t,fi,r,t',eq,k⟩:=z9;obtain ⟨kb,t1,e1,eq⟩:=Ak eq;refine ⟨Oo,c,t,fi,kb,t1,e1,λH1 c1 f1 s1=>?_⟩
  cases kb with
  | false=>rw [if_neg Bool.false_ne_true] at eq ⊢;cases eq;exact k H1 c1 f1 s1
  | true=>rw [if_pos rfl] at eq ⊢;exact ⟨Oo,c1,t1,f1,r,t',eq,λH2 c2 f2 s2=>k H2 c2 f2 (s1.trans s2)⟩
theorem DH (ha:PT X a (RT X.K f))(hb:PW X (.BoolOp .Or (b :: rest) pos) (RT X.K g)):PW X (.BoolOp .Or (a :: b :: rest) pos) (RT X.K (fOr f g)):=
 MX (TB ha hb) λZ H Q z9=>by
  obtain ⟨Oo,c,t,fi,r,t',eq,k⟩:=z9;obtain ⟨kb,t1,e1,eq⟩:=Ak eq;refine ⟨Oo,c,t,fi,kb,t1,e1,λH1 c1 f1 s1=>?_⟩
  cases kb with
  | true=>rw [if_pos rfl] at eq ⊢;cases eq;exact k H1 c1 f1 s1
  | false=>rw [if_neg Bool.false_ne_true] at eq ⊢;exact ⟨Oo,c1,t1,f1,r,t',eq,λH2 c2 f2 s2=>k H2 c2 f2 (s1.trans s2)⟩
theorem Ea (ha:PT X a (RT X.K f)):PT X (.UnaryOp .Not a pos) (RT X.K (Ef f)):=
 G5 (Se ha) λZ H Q z9=>by
  obtain ⟨Oo,c,t,fi,r,t',eq,k⟩:=z9;obtain ⟨kb,t1,e1,eq⟩:=Ak eq
  cases eq
  exact ⟨Oo,c,t,fi,kb,_,e1,λH1 c1 f1 s1=>k H1 c1 f1 s1⟩
theorem K8 {f:M D}{kb:Bool}{t1:T}(h:AM f t=some (kb,t1)):f t=some (.bl kb,t1):=by
 obtain ⟨d,t2,e1,e2⟩:=Ak h;obtain ⟨b,rfl,z⟩:=G2 e2
 cases z
 exact e1
theorem Nd {op:PySem.BoolOp}(h:PE X a (RE X.K u)):PE X (.BoolOp op [a] pos) (RE X.K u):=R5 h
theorem Kh (ha:PE X a (RE X.K u))(hb:PE X (.BoolOp .And (b :: rest) pos) (RE X.K v)):PE X (.BoolOp .And (a :: b :: rest) pos) (RE X.K (Fo u v)):=
 Bs (RZ ha hb) λZ H Q z9=>by
  obtain ⟨Oo,c,t,fi,r,t',eq,k⟩:=z9;obtain ⟨kb,t1,e1,eq⟩:=Ak eq;refine ⟨Oo,c,t,fi,_,t1,K8 e1,λx H1 c1 f1 s1 rx=>?_⟩
  cases rx
  refine ⟨kb,rfl,?_⟩
  cases kb with
  | false=>rw [if_neg Bool.false_ne_true] at eq ⊢;cases eq;exact k _ H1 c1 f1 s1 (.bl false)
  | true=>rw [if_pos rfl] at eq ⊢;exact ⟨Oo,c1,t1,f1,r,t',eq,λy H2 c2 f2 s2 ry=>k y H2 c2 f2 (s1.trans s2) ry⟩
theorem Rs (ha:PE X a (RE X.K u)):PE X (.UnaryOp .Not a pos) (RE X.K (Hd u)):=
 Bs (R4 ha) λZ H Q z9=>by
  obtain ⟨Oo,c,t,fi,r,t',eq,k⟩:=z9;obtain ⟨kb,t1,e1,eq⟩:=Ak eq
  cases eq
  refine ⟨Oo,c,t,fi,_,_,K8 e1,λx H1 c1 f1 s1 rx=>?_⟩
  cases rx
  exact ⟨kb,rfl,k _ H1 c1 f1 s1 (.bl (!kb))⟩
end
variable {n:Nat}
section
variable {X:Cx}{e a b:Expr}{es:List Expr}{pos:Pos}
def Ai:M (List D):=ret []
def Ab (f:M D)(g:M (List D)):M (List D):=bnd f λd=>bnd g λds=>ret (d :: ds)
theorem Ag:PA X [] (RA X.K Ai):=MV F4 λZ H Q z9=>by
 obtain ⟨Oo,c,t,fi,r,t',eq,k⟩:=z9
 cases eq
 exact k [] H c fi .refl .nil
theorem PZ {g:M (List D)}(ha:PE X e (RE X.K f))(hr:PA X es (RA X.K g))(hs:starEach (e :: es) X.env=(false,eval e X.env) :: starEach es X.env:=by rfl):PA X (e :: es) (RA X.K (Ab f g)):=
 MV (DB ha hr hs) λZ H Q z9=>by
  obtain ⟨Oo,c,t,fi,r,t',eq,k⟩:=z9;obtain ⟨d,t1,e1,eq⟩:=Ak eq;obtain ⟨ds,t2,e2,eq⟩:=Ak eq
  cases eq
  exact ⟨Oo,c,t,fi,d,t1,e1,λx H1 c1 f1 s1 rx=>⟨Oo,c1,t1,f1,ds,_,e2,λxs H2 c2 f2 s2 rxs=>k _ H2 c2 f2 (s1.trans s2) (.cons (rx.mono s2.ext) rxs)⟩⟩
def lim {α:Type}(n:Nat)(a:α):M α:=λt=>if n<=LIM then some (a,t) else none
theorem Dt {α:Type}{a:α}{z:α×T}(h:lim n a t=some z):n<=LIM/\z=(a,t):=by
 unfold lim at h
 split at h
 ·next h1=>cases h;exact ⟨h1,rfl⟩
 ·cases h
def Ca (f:M (List D)):M D:=bnd f λds=>lim ds.length (.tup ds)
theorem BP {x1:Nat}{f:M (List D)}(h:PA X es (RA X.K f)):PE X (.Tuple es x1 pos) (RE X.K (Ca f)):=
 Bs (NA h) λZ H Q z9=>by
  obtain ⟨Oo,c,t,fi,r,t',eq,k⟩:=z9;obtain ⟨ds,t1,e1,eq⟩:=Ak eq;obtain ⟨hl,z⟩:=Dt eq
  cases z
  refine ⟨Oo,c,t,fi,ds,_,e1,λxs H1 c1 f1 s1 rxs=>⟨by rw [rxs.length];exact Nat.le_trans hl B5,λp hp=>?_⟩⟩;exact k _ _ c1 (f1.laid hp) (s1.trans (f1.stp_laid hp)) (.tup AF (f1.s.free hp) (rxs.mono (Ext.laid f1.s hp)))
def Bu (f:M (List D)):M (List D):=bnd f λds=>lim ds.length ds
theorem Be {f:M (List D)}(h:PA X es (RA X.K f)):PE X (.List es pos) (RF X.K (Bu f)):=
 Bs (R1 h) λZ H Q z9=>by
  obtain ⟨Oo,c,t,fi,r,t',eq,k⟩:=z9;obtain ⟨ds,t1,e1,eq⟩:=Ak eq;obtain ⟨hl,z⟩:=Dt eq
  cases z
  exact ⟨Oo,c,t,fi,_,_,e1,λxs H1 c1 f1 s1 rxs=>⟨by rw [rxs.length];exact Nat.le_trans hl B5,λp hp=>k p xs H1 c1 f1 s1 rxs hp⟩⟩
def A6 (f:M (List D)):M D:=bnd f λds=>ret (.lst ds)
theorem AU {f:M (List D)}(h:PE X e (RF X.K f)):PE X e (RE X.K (A6 f)):=
 Bs h λZ H Q z9=>by
  obtain ⟨Oo,c,t,fi,r,t',eq,k⟩:=z9;obtain ⟨ds,t1,e1,eq⟩:=Ak eq
  cases eq
  exact ⟨Oo,c,t,fi,ds,_,e1,λp xs H1 c1 f1 s1 rxs hp=>k _ _ c1 (f1.laid hp) (s1.trans (f1.stp_laid hp)) (.lst AF (f1.s.free hp) (rxs.mono (Ext.laid f1.s hp)))⟩
noncomputable def Mu (o:Ob):M D:=λt=>some (.obj t.S.length,{ t with S:=t.S++[o] })
def Eg (f:M (List D)):M D:=bnd f λds=>Mu (.lst ds)
theorem E7 {f:M (List D)}(h:PE X e (RF X.K f)):PE X e (RE X.K (Eg f)):=
 Bs h λZ H Q z9=>by
  obtain ⟨Oo,c,t,fi,r,t',eq,k⟩:=z9;obtain ⟨ds,t1,e1,eq⟩:=Ak eq
  cases eq
  refine ⟨Oo,c,t,fi,ds,_,e1,λp xs H1 c1 f1 s1 rxs hp=>?_⟩;obtain ⟨c2,f2,s2,e2⟩:=f1.newObj (o:=.lst ds) (u:=.lst xs) hp λc' H' ex hu=>⟨xs,hu,rxs.mono ex⟩;exact k _ _ c2 f2 (s1.trans s2) (.obj e2)
abbrev Fn:=List D->List Ob->Option (D×List Ob)
def spF (K:PySem.W.Frag)(f:Fn):Sp:=λvs H Q _=>∃c ds S,SInv K c S H/\Reps K c H vs ds/\∃r S',f ds S=some (r,S')/\
 ∀v H' c',SInv K c' S' H'->Stp c.O c H c' H'->(∀b,c'.O b↔c.O b)->Rep K c' H' v r->Q v H'
def Aq (g:Fn)(f:M (List D)):M D:=bnd f λds t=>match g ds t.S with
 | some (r,S')=>some (r,{ t with S:=S' })
 | none=>none
theorem IT {g:Fn}{ds:List D}{r:D}{t':T}(h:(match g ds t.S with | some (r,S')=>some (r,{ t with S:=S' }) | none=>none:Option (D×T))=some (r,t')):∃S',g ds t.S=some (r,S')/\t' = { t with S:=S' }:=by
 cases e:g ds t.S with
 | none=>rw [e] at h;cases h
 | some p=>obtain ⟨r',S'⟩:=p;rw [e] at h;cases h;exact ⟨S',rfl,rfl⟩
theorem P3 {k:Nat}{fa:Addr}{fd:FuncData}{ps:List Str}{g:Fn}{f:M (List D)}{p:Pos}(F:FnOk X.prog X.w X.K X.mg X.base CX0 k fa fd ps (spF X.K g))(hr:Room k X.A)(hg:Gl X x)(hm:X.mg x=some (.ref fa))(hk:PySem.W.keepIn X.K (.ref fa)=true)(hb:Binds X.K fd ps [])
 (ha:PA X (e :: es) (RA X.K f)) (hdb:(x == ("__debug__" : Str))=false:=by decide) (he:starEach (e :: es) X.env=(false,eval e X.env) :: starEach es X.env:=by rfl) (hpl:(backTo pos (starEach es X.env)).any (·.1)=false:=by rfl) :
 PE X (.Call (.Name x p) (e :: es) [] pos) (RE X.K (Aq g f)):=
 Bs (Qs F hr hg hm hk hb .nil Ts ha hdb he hpl) λZ H Q z9=>by
  obtain ⟨Oo,c,t,fi,r,t',eq,kk⟩:=z9;obtain ⟨ds,t1,e1,eq⟩:=Ak eq;obtain ⟨S',e2,rfl⟩:=IT eq;refine ⟨Oo,c,t,fi,ds,t1,e1,λvs H1 c1 f1 s1 rvs=>?_⟩;show spF X.K g (vs++[]) H1 Q E0;rw [List.append_nil];refine ⟨c1,ds,t1.S,f1.s,rvs,r,S',e2,λv H' c' si st ho rv=>?_⟩;obtain ⟨f2,s2⟩:=f1.after si st ho;exact kk v H' c' f2 (s1.trans s2) rv
def fB (f:M (List D))(h:List D->M D):M D:=bnd f h
theorem RE.callB {f:M (List D)}{h:List D->M D}{R:List V->Hp->VK->Prop}(s:Dc K R h){Z:L2.St}{H:Hp}{Q:VK}(q:RE K (fB f h) Z H Q):tCB R (RA K f) Z H Q:=by
 obtain ⟨Oo,c,t,fi,r,t',eq,k⟩:=q;obtain ⟨ds,t1,e1,eq⟩:=Ak eq;exact ⟨Oo,c,t,fi,ds,t1,e1,λxs H1 c1 f1 s1 rxs=>s f1 rxs eq λv H' c' f' s' rv=>k v H' c' f' (s1.trans s') rv⟩
def fBF (f:M (List D))(h:List D->M (List D)):M (List D):=bnd f h
theorem RF.callB {f:M (List D)}{h:List D->M (List D)}{R:List V->Hp->VK->Prop}(s:JD K R h){Z:L2.St}{H:Hp}{Q:VK}(q:RF K (fBF f h) Z H Q):tCB R (RA K f) Z H Q:=by
 obtain ⟨Oo,c,t,fi,r,t',eq,k⟩:=q;obtain ⟨ds,t1,e1,eq⟩:=Ak eq;exact ⟨Oo,c,t,fi,ds,t1,e1,λxs H1 c1 f1 s1 rxs=>s f1 rxs eq λp vs H' c' f' s' rv hp=>k p vs H' c' f' (s1.trans s') rv hp⟩
theorem RF.two {h:D->D->M (List D)}(s:L8 K R h){Z:L2.St}{H:Hp}{Q:VK}(q:RF K (bnd f λx=>bnd g λy=>h x y) Z H Q):tOp R (RE K f) (RE K g) Z H Q:=by
 obtain ⟨Oo,c,t,fi,r,t',eq,k⟩:=q;obtain ⟨dx,t1,e1,eq⟩:=Ak eq;obtain ⟨dy,t2,e2,eq⟩:=Ak eq;exact ⟨Oo,c,t,fi,dx,t1,e1,λx H1 c1 f1 s1 rx=>⟨Oo,c1,t1,f1,dy,t2,e2,λy H2 c2 f2 s2 ry=>s f2 (rx.mono s2.ext) ry eq λp vs H' c' f' s' rv hp=>k p vs H' c' f' ((s1.trans s2).trans s') rv hp⟩⟩
end
variable {μ:Cf->Hp->D->(V->Hp->Prop)->Prop}
section
variable {X:Cx}{e a b:Expr}{pos:Pos}{st:Stmt}{sts:List Stmt}
noncomputable def As (f g:M Out):M Out:=λt=>match f t with
 | some (.next,t1)=>g t1
 | z=>z
def A3:M Out:=ret .next
theorem AG:PSs X [] (RSg X.K μ A3):=Lu QC λE Z H z9=>by
 obtain ⟨Oo,c,t,fi,o,t',eq,k⟩:=z9
 cases eq
 exact k Z H c fi .refl
theorem Aj {μ:Cf->Hp->D->(V->Hp->Prop)->Prop}{f g:M Out}(h1:PS X st (RSg X.K μ f))(h2:PSs X sts (RSg X.K μ g)):PSs X (st :: sts) (RSg X.K μ (As f g)):=
 Lu (KM h1 h2) λE Z H z9=>by
  obtain ⟨Oo,c,t,fi,o,t',eq,k⟩:=z9;unfold As at eq
  cases e1:f t with
  | none=>rw [e1] at eq;cases eq
  | some p=>
    obtain ⟨o1,t1⟩:=p;rw [e1] at eq;refine ⟨Oo,c,t,fi,o1,t1,e1,λZ1 H1 c1 f1 s1=>?_⟩
    cases o1 with
    | next=>exact ⟨Oo,c1,t1,f1,o,t',eq,λZ2 H2 c2 f2 s2=>k Z2 H2 c2 f2 (s1.trans s2)⟩
    | brk=>cases eq;exact k Z1 H1 c1 f1 s1
    | cont=>cases eq;exact k Z1 H1 c1 f1 s1
    | ret d=>cases eq;exact k Z1 H1 c1 f1 s1
theorem Ao {μ:Cf->Hp->D->(V->Hp->Prop)->Prop}{f:M Out}(h1:PS X st (RSg X.K μ f)):PSs X [st] (RSg X.K μ f):=Il h1
def AN (f:M D):M Out:=bnd f λd=>ret (.ret d)
theorem AJ {f:M D}(h:PE X e (RE X.K f)):PS X (.Return (some e) pos) (RS X.K (AN f)):=
 BT (KK h) λE Z H z9=>by
  obtain ⟨Oo,c,t,fi,o,t',eq,k⟩:=z9;obtain ⟨d,t1,e1,eq⟩:=Ak eq
  cases eq
  exact ⟨Oo,c,t,fi,d,_,e1,λv H1 c1 f1 s1 rv=>k Z H1 c1 f1 s1 v rv⟩
def Ek (f:M D):M Out:=bnd f λ_=>ret .next
theorem Gn (h:PE X e (RE X.K f))(hs:swapsWith e none pos.line X.env=pure false:=by rfl):PS X (.Expr e pos) (RSg X.K μ (Ek f)):=
 BT (LR h hs) λE Z H z9=>by
  obtain ⟨Oo,c,t,fi,o,t',eq,k⟩:=z9;obtain ⟨d,t1,e1,eq⟩:=Ak eq
  cases eq
  exact ⟨Oo,c,t,fi,d,_,e1,λv H1 c1 f1 s1 rv=>k Z H1 c1 f1 s1⟩
def ifS (f:M Bool)(g h:M Out):M Out:=bnd f λk=>if k=true then g else h
theorem A7 {μ:Cf->Hp->D->(V->Hp->Prop)->Prop}{f:M Bool}{g h:M Out}{sa sb:List Stmt}(hc:PT X e (RT X.K f))(ha:PSs X sa (RSg X.K μ g))(hb:PSs X sb (RSg X.K μ h)):PS X (.If e sa sb pos) (RSg X.K μ (ifS f g h)):=
 BT (Ty hc ha hb) λE Z H z9=>by
  obtain ⟨Oo,c,t,fi,o,t',eq,k⟩:=z9;obtain ⟨kb,t1,e1,eq⟩:=Ak eq;refine ⟨Oo,c,t,fi,kb,t1,e1,λH1 c1 f1 s1=>?_⟩
  cases kb with
  | true=>rw [if_pos rfl] at eq ⊢;exact ⟨Oo,c1,t1,f1,o,t',eq,λZ2 H2 c2 f2 s2=>k Z2 H2 c2 f2 (s1.trans s2)⟩
  | false=>rw [if_neg Bool.false_ne_true] at eq ⊢;exact ⟨Oo,c1,t1,f1,o,t',eq,λZ2 H2 c2 f2 s2=>k Z2 H2 c2 f2 (s1.trans s2)⟩
noncomputable def BI (i:Nat)(d:D):M Unit:=λt=>some ((),{ t with env:=t.env.set i (some (.val d)) })
def A8 (i:Nat)(f:M D):M Out:=bnd f λd=>bnd (BI i d) λ_=>ret .next
theorem RS.set {μ:Cf->Hp->D->(V->Hp->Prop)->Prop}{K:PySem.W.Frag}{i:Nat}{f:M D}{E:Ends}{Z:L2.St}{H:Hp}(q:RSg K μ (A8 i f) E Z H):K6 (RE K f) (Hi i) E Z H:=by
 obtain ⟨Oo,c,t,fi,o,t',eq,k⟩:=q;obtain ⟨d,t1,e1,eq⟩:=Ak eq
 cases eq
 exact ⟨Oo,c,t,fi,d,t1,e1,λv H1 c1 f1 s1 rv=>k _ H1 c1 (f1.set rv) s1⟩
theorem AO {μ:Cf->Hp->D->(V->Hp->Prop)->Prop}{i:Nat}{x:Str}{f:M D}{pos':Pos}(hN:X.N.Nodup)(hi:X.N[i]?=some x)(hx:Loc X.env.scope x)(he:PE X e (RE X.K f))(hs:swapsWith e (some (.Name x pos')) pos.line X.env=pure false:=by rfl)(hf:X.fn x=true\/X.env.scope.names.lookup x=some .local:=by first | exact .inl rfl | exact .inr rfl | assumption) :
 PS X (.Assign [.Name x pos'] e pos) (RSg X.K μ (A8 i f)):=BT (KL hN hi hx he hs hf) λ_ _ _ q=>RS.set q
def F3 (i:Nat)(f:M (List D)):M Out:=bnd f λds t=>some (.next,{ t with env:=t.env.set i (some (.own ds)) })
theorem RS.own {i:Nat}{f:M (List D)}{E:Ends}(q:RSg K μ (F3 i f) E Z H):K6 (RF K f) (Hi i) E Z H:=by
 obtain ⟨Oo,c,t,fi,o,t',eq,k⟩:=q;obtain ⟨ds,t1,e1,eq⟩:=Ak eq
 cases eq
 refine ⟨Oo,c,t,fi,ds,t1,e1,λp vs H1 c1 f1 s1 rv hp=>?_⟩;obtain ⟨c2,f2,s2⟩:=f1.setOwn (i:=i) hp rv;exact k _ _ c2 f2 (s1.trans s2)
theorem Km {μ:Cf->Hp->D->(V->Hp->Prop)->Prop}{i:Nat}{x:Str}{f:M (List D)}{pos':Pos}(hN:X.N.Nodup)(hi:X.N[i]?=some x)(hx:Loc X.env.scope x)(he:PE X e (RF X.K f))(hs:swapsWith e (some (.Name x pos')) pos.line X.env=pure false:=by rfl)(hf:X.fn x=true\/X.env.scope.names.lookup x=some .local:=by first | exact .inl rfl | exact .inr rfl | assumption) :
 PS X (.Assign [.Name x pos'] e pos) (RSg X.K μ (F3 i f)):=BT (KL hN hi hx he hs hf) λ_ _ _ q=>RS.own q
theorem BC {i:Nat}(hN:X.N.Nodup)(hi:X.N[i]?=some x)(hx:Loc X.env.scope x)(hf:X.fn x=true\/X.env.scope.names.lookup x=some .local:=by first | exact .inl rfl | exact .inr rfl | assumption):PG X (.Name x pos) (RG X.K (BI i)):=
 JN (Qu hN hi hx hf) λv Z H Q z9=>by
  obtain ⟨Oo,c,t,d,fi,rv,t',eq,k⟩:=z9
  cases eq
  exact k _ H c (fi.set rv) .refl
def Ey (f:M D)(g:D->M Unit):M Out:=bnd f λd=>bnd (g d) λ_=>ret .next
theorem EE {g:D->M Unit}(he:PE X e (RE X.K f))(hg:PG X tg (RG X.K g))(hs:swapsWithSole [tg] e pos.line X.env=pure false:=by rfl)(hw:swappedStores [tg] e X.env=pure none:=by rfl)(hp:(assignEach [tg] X.env).map (·.2)=[assign tg X.env]:=by rfl) :
 PS X (.Assign [tg] e pos) (RSg X.K μ (Ey f g)):=
 BT (by first | exact ND he hg hs hw | exact ND he hg hs hw hp) λE Z H z9=>by
  obtain ⟨Oo,c,t,fi,o,t',eq,k⟩:=z9;obtain ⟨d,t1,e1,eq⟩:=Ak eq;obtain ⟨u,t2,e2,eq⟩:=Ak eq
  cases eq
  exact ⟨Oo,c,t,fi,d,t1,e1,λv H1 c1 f1 s1 rv=>⟨Oo,c1,t1,d,f1,rv,_,e2,λZ2 H2 c2 f2 s2=>k Z2 H2 c2 f2 (s1.trans s2)⟩⟩
def RGs (K:PySem.W.Frag)(f:List D->M Unit):TGs:=λvs Z H Q=>∃Oo c t ds,FInv K Oo c t Z H/\Reps K c H vs ds/\∃t',f ds t=some ((),t')/\∀Z' H' c',FInv K Oo c' t' Z' H'->Stp Oo c H c' H'->Q Z' H'
theorem Ls {ts:List Expr}{t t':TGs}(h:PGs X ts t)(i:∀v Z H Q,t' v Z H Q->t v Z H Q):PGs X ts t':=λpins s Z H vs us Q I r q=>h pins s Z H vs us Q I r (i vs Z H Q q)
def Fe:List D->M Unit
 | []=>ret ()
 | _=>fail
def Cy (f:D->M Unit)(g:List D->M Unit):List D->M Unit
 | d :: ds=>bnd (f d) λ_=>g ds
 | []=>fail
theorem LB:PGs X [] (RGs X.K Fe):=Ls Qv λvs Z H Q z9=>by
 obtain ⟨Oo,c,t,ds,fi,rv,t',eq,k⟩:=z9
 cases rv with
 | nil=>cases eq;exact ⟨rfl,k Z H c fi .refl⟩
 | cons _ _=>cases eq
theorem RGs.cons {K:PySem.W.Frag}{f:D->M Unit}{g:List D->M Unit}{vs:List V}{Z:L2.St}{H:Hp}{Q:L2.St->Hp->Prop}(q:RGs K (Cy f g) vs Z H Q):Pm (RG K f) (RGs K g) vs Z H Q:=by
 obtain ⟨Oo,c,t,ds,fi,rv,t',eq,k⟩:=q
 cases rv with
 | nil=>cases eq
 | cons r rs=>
   obtain ⟨u,t1,e1,eq⟩:=Ak eq;exact ⟨_,_,rfl,Oo,c,t,_,fi,r,t1,e1,λZ1 H1 c1 f1 s1=>⟨Oo,c1,t1,_,f1,rs.mono s1.ext,t',eq,λZ2 H2 c2 f2 s2=>k Z2 H2 c2 f2 (s1.trans s2)⟩⟩
def unT (n:Nat)(g:List D->M Unit):D->M Unit
 | .tup ds=>if ds.length=n then g ds else fail
 | _=>fail
def CF (st:D->M Unit)(b:M Out):List D->M Out
 | []=>ret .next
 | d :: r=>λt=>match st d t with
   | none=>none
   | some (_,t1)=>match b t1 with
     | some (.next,t2)=>CF st b r t2
     | some (.cont,t2)=>CF st b r t2
     | some (.brk,t2)=>some (.next,t2)
     | some (.ret x,t2)=>some (.ret x,t2)
     | none=>none
def DV (f:M (List D))(st:D->M Unit)(b:M Out):M Out:=bnd f λds=>CF st b ds
theorem RS.for {f:M (List D)}{g:D->M Unit}{b:M Out}{E:Ends}(q:RSg K μ (DV f g b) E Z H):SN (RI K f) (RG K g) (RSg K μ b) E Z H:=by
 obtain ⟨Oo,c,t,fi,o,t',eq,k⟩:=q;obtain ⟨ds,t1,e1,eq⟩:=Ak eq;refine ⟨Oo,c,t,fi,ds,t1,e1,λJ H1 c1 f1 s1 it=>?_⟩;refine ⟨λi m Z' H'=>m=ds.length - i/\i<=ds.length/\∃c' t2,FInv K Oo c' t2 Z' H'/\Stp Oo c1 H1 c' H'/\CF g b (ds.drop i) t2=some (o,t'),⟨_,rfl,Nat.zero_le _,c1,t1,f1,.refl,by rw [List.drop_zero];exact eq⟩,?_⟩;rintro i m Z' H' ⟨rfl,hi,c',t2,f2,s2,e2⟩
 by_cases hlt:i < ds.length
 ·refine .inr ⟨it.go c' H' i s2.ext hlt,λZ3 H3=>∃c3 t3,FInv K Oo c3 t3 Z3 H3/\Stp Oo c1 H1 c3 H3/\CF g b (ds.drop (i + 1)) t3=some (o,t'),λZ3 H3 h=>⟨ds.length - (i + 1),by lia,rfl,hlt,h⟩,λx H'' hy=>?_⟩;obtain ⟨rfl,rx⟩:=it.yld c' H' i x H'' _ s2.ext (List.getElem?_eq_getElem hlt) hy;rw [List.drop_eq_getElem_cons hlt] at e2;unfold CF at e2
  cases e3:g ds[i] t2 with
  | none=>rw [e3] at e2;cases e2
  | some p=>
    obtain ⟨u,t3⟩:=p;rw [e3] at e2
    try dsimp only at e2
    refine ⟨Oo,c',t2,_,f2,rx,t3,e3,λZ3 H3 c3 f3 s3=>?_⟩
    cases e4:b t3 with
    | none=>rw [e4] at e2;cases e2
    | some p=>
      obtain ⟨o4,t4⟩:=p;rw [e4] at e2
      try dsimp only at e2
      refine ⟨Oo,c3,t3,f3,o4,t4,e4,λZ5 H5 c5 f5 s5=>?_⟩;have s':=(s2.trans s3).trans s5
      cases o4 with
      | next=>exact ⟨c5,t4,f5,s',e2⟩
      | cont=>exact ⟨c5,t4,f5,s',e2⟩
      | brk=>cases e2;exact k Z5 H5 c5 f5 (s1.trans s')
      | ret r=>cases e2;exact k Z5 H5 c5 f5 (s1.trans s')
 ·have hi':i=ds.length:=by lia
  subst hi';rw [List.drop_length] at e2
  cases e2
  exact .inl ⟨it.stop c' H' s2.ext,k Z' H' c' f2 (s1.trans s2)⟩
theorem D9 {μ:Cf->Hp->D->(V->Hp->Prop)->Prop}{tg iter:Expr}{body:List Stmt}{f:M (List D)}{g:D->M Unit}{b:M Out}(hp:PassesOwn (model X.prog X.w) X.A X.env X.xe)(hc:X.calm=true)(hi:PI X tg iter (RI X.K f))(hg:PG X tg (RG X.K g))(hb:PSs X body (RSg X.K μ b))
 (hs:∀x,foldedSetIterable iter X.env x=pure x:=by intro _;rfl):PS X (.For tg iter body [] pos) (RSg X.K μ (DV f g b)):=
 BT (Sb hp hc hi hg hb hs) λ_ _ _ q=>RS.for q
theorem ItOk.lst {K:PySem.W.Frag}{c:Cf}{H:Hp}{p:Addr}{ds:List D}(r:∀c' H',Ext c H c' H'->∃vs,SqL K H' p vs/\Reps K c' H' vs ds):ItOk K (Itl K p) c H ds:=by
 refine ⟨λc' H' i ex hi=>?_,λc' H' i x H'' d ex hd hy=>?_,λc' H' ex=>?_⟩
 ·obtain ⟨vs,h1,h2⟩:=r c' H' ex;obtain ⟨v,e,_⟩:=h2.at (List.getElem?_eq_getElem hi);exact ⟨vs,v,h1,e⟩
 ·obtain ⟨vs,h1,h2⟩:=r c' H' ex;obtain ⟨rfl,h⟩:=hy;exact ⟨rfl,h2.get (h vs h1) hd⟩
 ·obtain ⟨vs,h1,h2⟩:=r c' H' ex;exact ⟨vs,h1,by rw [h2.length];exact Nat.le_refl _⟩
theorem ItOk.tup {K:PySem.W.Frag}{c:Cf}{H:Hp}{p:Addr}{ds:List D}(r:∀c' H',Ext c H c' H'->∃vs,SqT K H' p vs/\Reps K c' H' vs ds):ItOk K (Itt K p) c H ds:=by
 refine ⟨λc' H' i ex hi=>?_,λc' H' i x H'' d ex hd hy=>?_,λc' H' ex=>?_⟩
 ·obtain ⟨vs,h1,h2⟩:=r c' H' ex;obtain ⟨v,e,_⟩:=h2.at (List.getElem?_eq_getElem hi);exact ⟨vs,v,h1,e⟩
 ·obtain ⟨vs,h1,h2⟩:=r c' H' ex;obtain ⟨rfl,h⟩:=hy;exact ⟨rfl,h2.get (h vs h1) hd⟩
 ·obtain ⟨vs,h1,h2⟩:=r c' H' ex;exact ⟨vs,h1,by rw [h2.length];exact Nat.le_refl _⟩
end
theorem FInv.leave {Oo:Addr->Prop}(f:FInv K Oo c t Z H):SInv K ⟨c.ι,Oo⟩ t.S H/\Ext c H ⟨c.ι,Oo⟩ H:=by
 have ext:Ext c H ⟨c.ι,Oo⟩ H:=⟨λ_ _ e _=>e,λb o _ z=>z.elim .inl λw=>.inr (f.sub b w),λ_ _ e=>e⟩;exact ⟨⟨f.s.len,f.s.nd,λk a o e1 e2=>(f.s.obs k a o e1 e2).mono ext rfl,λb z=>f.s.trk b (f.sub b z),λb z=>f.s.dis b (f.sub b z)⟩,ext⟩
noncomputable def env0 (m:Nat)(ds:List D):List (Option Sl):=ds.map (λd=>some (.val d))++List.replicate (m - ds.length) none
def fnOf (n m:Nat)(g:M Out):Fn:=λds S=>if ds.length=n then (match g ⟨env0 m ds,S⟩ with
 | some (.ret r,t)=>some (r,t.S)
 | some (.next,t)=>some (.non,t.S)
 | _=>none) else none
theorem Hf {ds:List D}{N:List Str}(s:SInv K c S H)(r:Reps K c H vs ds):FInv K c.O c ⟨env0 N.length ds,S⟩ (L2.Dq N vs) H:=by
 have hlen:vs.length=ds.length:=r.length;have none_:∀{i:Nat} {x:Sl},(env0 N.length ds)[i]?=some (some x)->∃d,ds[i]?=some d/\x = .val d:=λ{i x} q=>by
  unfold env0 at q
  by_cases hi:i < ds.length
  ·rw [List.getElem?_append_left (by simpa using hi),List.getElem?_map,List.getElem?_eq_getElem hi] at q;simp at q;exact ⟨ds[i],List.getElem?_eq_getElem hi,q.symm⟩
  ·rw [List.getElem?_append_right (by simpa using hi),List.getElem?_replicate] at q
   split at q <;> simp at q
 refine ⟨s,by simp [env0,L2.Dq,hlen],λ_ z=>z,λi d q=>?_,λi es q=>?_,λi j es _ a q _ _ _=>?_⟩
 ·obtain ⟨d',h1,h2⟩:=none_ q
  cases h2
  obtain ⟨v,h3,h4⟩:=r.at h1;refine ⟨v,?_,h4⟩;unfold L2.Dq;have hi:=(List.getElem?_eq_some_iff.mp h3).1;rw [List.getElem?_append_left (by simpa using hi),List.getElem?_map,h3];rfl
 ·obtain ⟨_,_,h2⟩:=none_ q;cases h2
 ·obtain ⟨_,_,h2⟩:=none_ q;cases h2
theorem Tn {P:Program}{w:World}{mg:Str->Option Value}{base:Heap}{qual:Str}{st:Stmt}{fa:Addr}{fd:FuncData}{N ps:List Str}{k:Nat}{g:M Out}(F:Fun K x qual st fa fd)(S:FnScope N ps (Av st))
 (hb:∀(cdv:Value) (A:Around) (outer:List Env) (s:Shared) (H:Hp) (E:XK),Room k (A.deeper (PyProof.Rows.envOfC qual (Av st) s.heap.objs.size fa cdv))->
   PSs (Ee CX0 P w K mg base N qual (Av st) fa cdv A outer s H E).nox (BV st) (RS K g)):FnOk P w K mg base CX0 (k + 1) fa fd ps (spF K (fnOf ps.length N.length g)):=by
 have hlen:∀{ds:List D} {S:List Ob} {z:D×List Ob},fnOf ps.length N.length g ds S=some z->ds.length=ps.length:=λ{ds S z} h=>by
  unfold fnOf at h
  split at h
  ·next h1=>exact h1
  ·cases h
 refine F.ok S (λvs H Q E h=>?_) (λcdv A outer s H vs Q E hr h=>?_)
 ·obtain ⟨c,ds,S,si,rs,r,S',e,_⟩:=h;rw [rs.length];exact hlen e
 obtain ⟨c,ds,S0,si,rs,r,S',e,kk⟩:=h;refine ⟨RS K g,hb cdv A outer s H E hr,?_⟩;have hl:=hlen e;unfold fnOf at e;rw [if_pos hl] at e
 cases eg:g ⟨env0 N.length ds,S0⟩ with
 | none=>rw [eg] at e;cases e
 | some p=>
   obtain ⟨o,t⟩:=p;rw [eg] at e;refine ⟨c.O,c,_,Hf si rs,o,t,eg,λZ' H' c' f' s'=>?_⟩;obtain ⟨si',ext'⟩:=f'.leave;have st':Stp c.O c H ⟨c'.ι,c.O⟩ H':=⟨s'.ext.trans ext',s'.oo⟩
   cases o with
   | next=>cases e;exact kk .non H' _ si' st' (λ_=>Iff.rfl) .non
   | ret d=>cases e;exact λv rv=>kk v H' _ si' st' (λ_=>Iff.rfl) (rv.mono ext')
   | brk=>cases e
   | cont=>cases e
variable {fr:List Nat}
section
variable {X:Cx}{e a b:Expr}{pos:Pos}
def items:D->M (List D)
 | .lst ds=>ret ds
 | .tup ds=>ret ds
 | .scr ns=>ret (ns.map .int)
 | _=>fail
noncomputable def B1 (lo:Int)(n:Nat):List D:=(List.range n).map λi=>.int (lo + (i:Nat))
theorem ItOk.rng {lo:Int}:ItOk K (Itr lo n) c H (B1 lo n):=by
 refine ⟨λc' H' i ex hi=>?_,λc' H' i x H'' d ex hd hy=>?_,λc' H' ex=>?_⟩
 ·have:i < n:=by simpa [B1] using hi
  exact this
 ·obtain ⟨rfl,rfl⟩:=hy;refine ⟨rfl,?_⟩;have hi:i < n:=by
   have:=(List.getElem?_eq_some_iff.mp hd).1;simpa [B1] using this
  have:d = .int (lo + (i:Nat)):=by
   rw [B1,List.getElem?_map,List.getElem?_range hi] at hd;simpa using hd.symm
  rw [this];exact .int _
 ·show n<=(B1 lo n).length;simp [B1]
noncomputable def CK (i:Int):Bool:=decide (-(2 ^ 62)<=i) && decide (i < 2 ^ 62)
def Iq:List D->M (List D)
 | [.int j]=>λt=>if CK j=true then some (B1 0 j.toNat,t) else none
 | _=>fail
def OO:List D->M (List D)
 | [.int i,.int j]=>λt=>if (CK i && CK j)=true then some (B1 i (j - i).toNat,t) else none
 | _=>fail
def Cm (f:M (List D)):M (List D):=bnd f Iq
def Pi (f:M (List D)):M (List D):=bnd f OO
theorem EX (h:CK i=true) : -(2 ^ 62)<=i/\i < 2 ^ 62:=by
 unfold CK at h;rw [Bool.and_eq_true] at h;exact ⟨of_decide_eq_true h.1,of_decide_eq_true h.2⟩
theorem Nf {f:M (List D)}{p:Pos}(hg:Gl X "range")(hm:X.mg "range" = none)(ha:PA X [a] (RA X.K f))(hs:starEach [a] X.env=[(false,eval a X.env)]:=by rfl):PI X tg (.Call (.Name "range" p) [a] [] pos) (RI X.K (Cm f)):=
 JO (NB hg hm ha hs) λZ H R z9=>by
  obtain ⟨Oo,c,t,fi,ds,t',eq,k⟩:=z9;obtain ⟨xs,t1,e1,eq⟩:=Ak eq;refine ⟨Oo,c,t,fi,xs,t1,e1,λvs H1 c1 f1 s1 rv=>?_⟩;unfold Iq at eq
  split at eq
  ·next j=>
   split at eq
   ·next hs=>
    cases eq
    cases rv with
    | cons r rs=>
      cases rs
      cases r
      obtain ⟨h1,h2⟩:=EX hs;exact ⟨j,rfl,h1,h2,k _ H1 c1 f1 s1 ItOk.rng⟩
   ·cases eq
  ·cases eq
def Cj (st:D->M Unit)(tst:M Bool)(elt:M D):List D->M (List D)
 | []=>ret []
 | d :: r=>bnd (st d) λ_=>bnd tst λk=>if k=true then bnd elt λx=>bnd (Cj st tst elt r) λxs=>ret (x :: xs) else Cj st tst elt r
noncomputable def TU:Option (Option Sl)->Option Sl
 | some (some (.val d))=>some (.val d)
 | _=>none
def cenv (n:Nat)(fr:List Nat)(env:List (Option Sl)):List (Option Sl):=List.replicate n none++fr.map λi=>TU env[i]?
noncomputable def EB (n:Nat)(fr:List Nat)(Z:L2.St):L2.St:=List.replicate n none++fr.map λi=>(Z[i]?).join
def CS (n:Nat)(fr:List Nat)(f:M (List D))(st:D->M Unit)(tst:M Bool)(elt:M D):M (List D):=bnd f λds t=>match Cj st tst elt ds ⟨cenv n fr t.env,t.S⟩ with
 | some (xs,t')=>if xs.length<=LIM then some (xs,{ t with S:=t'.S }) else none
 | none=>none
theorem GL {env:List (Option Sl)}{x:Sl}(h:(cenv n fr env)[j]?=some (some x)):∃i d,n<=j/\fr[j - n]?=some i/\env[i]?=some (some (.val d))/\x = .val d:=by
 unfold cenv at h
 by_cases hj:j < n
 ·rw [List.getElem?_append_left (by simpa using hj),List.getElem?_replicate] at h
  split at h <;> simp at h
 ·rw [List.getElem?_append_right (by simpa using hj),List.length_replicate,List.getElem?_map] at h
  cases e:fr[j - n]? with
  | none=>rw [e] at h;simp at h
  | some i=>
    rw [e] at h;simp only [Option.map_some,Option.some.injEq] at h
    cases e2:env[i]? with
    | none=>rw [e2] at h;cases h
    | some o=>
      cases o with
      | none=>rw [e2] at h;cases h
      | some sl=>
        cases sl with
        | own _=>rw [e2] at h;cases h
        | val d=>rw [e2] at h;cases h;exact ⟨i,d,by lia,rfl,e2,rfl⟩
theorem He {Oo:Addr->Prop}(f:FInv K Oo c t Z H):FInv K c.O c ⟨cenv n fr t.env,t.S⟩ (EB n fr Z) H:=by
 refine ⟨f.s,by simp [cenv,EB],λ_ z=>z,λj d q=>?_,λj es q=>?_,λj _ es _ _ q _ _ _=>?_⟩
 ·obtain ⟨i,d',h0,h1,h2,h3⟩:=GL q
  cases h3
  obtain ⟨v,h4,h5⟩:=f.val i d h2;refine ⟨v,?_,h5⟩;unfold EB;rw [List.getElem?_append_right (by simpa using h0),List.length_replicate,List.getElem?_map,h1];simp [h4]
 ·obtain ⟨_,_,_,_,_,h⟩:=GL q;cases h
 ·obtain ⟨_,_,_,_,_,h⟩:=GL q;cases h
theorem RF.comp {f:M (List D)}{st:D->M Unit}{tst:M Bool}{elt:M D}{Q:VK}(q:RF K (CS n fr f st tst elt) Z H Q):JL (RI K f) (RG K st) (RT K tst) (RE K elt) (EB n fr) Z H Q:=by
 obtain ⟨Oo,c,t,fi,xs,t',eq,k⟩:=q;obtain ⟨ds,t1,e1,eq⟩:=Ak eq;refine ⟨Oo,c,t,fi,ds,t1,e1,λJ H1 c1 f1 s1 it=>?_⟩
 cases e3:Cj st tst elt ds ⟨cenv n fr t1.env,t1.S⟩ with
 | none=>rw [e3] at eq;cases eq
 | some p=>
   obtain ⟨ys,t3⟩:=p;rw [e3] at eq;dsimp only at eq
   split at eq
   case isFalse=>cases eq
   next hl=>
   cases eq
   refine ⟨λi m acc Z' H'=>m=ds.length - i/\i<=ds.length/\∃c' t2 zs rest,FInv K c1.O c' t2 Z' H'/\Stp c1.O c1 H1 c' H'/\Reps K c' H' acc zs/\Cj st tst elt (ds.drop i) t2=some (rest,t3)/\xs=zs++rest,
    ⟨_,rfl,Nat.zero_le _,c1,_,[],xs,He f1,.refl,.nil,by rw [List.drop_zero];exact e3,rfl⟩,?_⟩
   rintro i m acc Z' H' ⟨rfl,hi,c',t2,zs,rest,f2,s2,ra,e2,ez⟩;have hacc:acc.length<=sizeLine:=by
    have:zs.length<=xs.length:=by rw [ez,List.length_append];exact Nat.le_add_right _ _
    rw [ra.length];exact Nat.le_trans this (Nat.le_trans hl B5)
   refine ⟨hacc,?_⟩
   by_cases hlt:i < ds.length
   ·refine .inr ⟨it.go c' H' i s2.ext hlt,λx H'' hy=>?_⟩;obtain ⟨rfl,rx⟩:=it.yld c' H' i x H'' _ s2.ext (List.getElem?_eq_getElem hlt) hy;rw [List.drop_eq_getElem_cons hlt] at e2;unfold Cj at e2;obtain ⟨u,t4,e4,e2⟩:=Ak e2;obtain ⟨kb,t5,e5,e2⟩:=Ak e2;refine ⟨c1.O,c',t2,_,f2,rx,t4,e4,λZ3 H3 c3 f3 s3=>⟨c1.O,c3,t4,f3,kb,t5,e5,λH4 c4 f4 s4=>?_⟩⟩
    cases kb with
    | false=>
      rw [if_neg Bool.false_ne_true] at e2 ⊢;exact ⟨ds.length - (i + 1),by lia,rfl,hlt,c4,t5,zs,rest,f4,(s2.trans s3).trans s4,ra.mono (s3.trans s4).ext,e2,ez⟩
    | true=>
      rw [if_pos rfl] at e2 ⊢;obtain ⟨x6,t6,e6,e2⟩:=Ak e2;obtain ⟨r7,t7,e7,e2⟩:=Ak e2
      cases e2
      refine ⟨c1.O,c4,t5,f4,x6,t6,e6,λv H5 c5 f5 s5 rv=>?_⟩;exact ⟨ds.length - (i + 1),by lia,rfl,hlt,c5,t6,zs++[x6],r7,f5,((s2.trans s3).trans s4).trans s5,(ra.mono ((s3.trans s4).trans s5).ext).append (.cons rv .nil),e7,by rw [ez,List.append_assoc];rfl⟩
   ·have hi':i=ds.length:=by lia
    subst hi';rw [List.drop_length] at e2
    cases e2
    refine .inl ⟨it.stop c' H' s2.ext,λp hp _=>?_⟩;obtain ⟨si,ext⟩:=f2.leave;obtain ⟨f6,s6⟩:=f1.after si ⟨s2.ext.trans ext,s2.oo⟩ (λ_=>Iff.rfl);rw [List.append_nil] at ez;subst ez;exact k p acc H' _ f6 (s1.trans s6) (ra.mono ext) hp
end
end F2
namespace F2
open PySem L2 PySem.Spec PySem.SeqAt
noncomputable def eq0:D->D->Option Bool
 | .int a,.int b=>some (a == b)
 | .str a,.str b=>some (a == b)
 | .bl a,.bl b=>some (a == b)
 | .non,.non=>some true
 | .int _,.str _=>some false
 | .str _,.int _=>some false
 | _,_=>none
noncomputable def CY (f:D->D->Option Bool):List D->List D->Option Bool
 | x :: xs,y :: ys=>match f x y,CY f xs ys with
   | some a,some b=>some (a && b)
   | _,_=>none
 | _,_=>some true
def eqN:Nat->D->D->Option Bool
 | 0,x,y=>eq0 x y
 | n + 1,.tup xs,.tup ys=>(CY (eqN n) xs ys).map λb=>b && xs.length == ys.length
 | n + 1,.lst xs,.lst ys=>if xs.length=ys.length then CY (eqN n) xs ys else some false
 | _ + 1,x,y=>eq0 x y
noncomputable def ej (f:D->D->Option Bool)(xs ys:List D)(j:Nat):Bool:=match xs[j]?,ys[j]? with
 | some d,some e=>(f d e).getD true
 | _,_=>true
theorem CZ {f:D->D->Option Bool}:∀{xs ys:List D} {b:Bool},CY f xs ys=some b->b=(List.range (min xs.length ys.length)).all (ej f xs ys)/\∀(j:Nat) d e,xs[j]?=some d->ys[j]?=some e->∃k,f d e=some k
 | [],ys,b,h=>by
   have h:some true=some b:=by simpa [CY] using h
   cases h
   refine ⟨by simp,λj d e q _=>by simp at q⟩
 | x :: xs,[],b,h=>by
   have h:some true=some b:=by simpa [CY] using h
   cases h
   refine ⟨by simp,λj d e _ q=>by simp at q⟩
 | x :: xs,y :: ys,b,h=>by
   unfold CY at h
   cases e1:f x y with
   | none=>rw [e1] at h;cases h
   | some a=>
     cases e2:CY f xs ys with
     | none=>rw [e1,e2] at h;cases h
     | some c=>
       rw [e1,e2] at h
       cases h
       obtain ⟨h1,h2⟩:=CZ e2;refine ⟨?_,λj d e q1 q2=>?_⟩
       ·have hm:min (x :: xs).length (y :: ys).length=min xs.length ys.length + 1:=by simp [Nat.succ_min_succ]
        rw [hm,List.range_succ_eq_map,List.all_cons,List.all_map,h1];have:ej f (x :: xs) (y :: ys) 0=a:=by simp [ej,e1]
        rw [this];rfl
       ·cases j with
        | zero=>simp at q1 q2;subst q1 q2;exact ⟨a,e1⟩
        | succ j=>exact h2 j d e (by simpa using q1) (by simpa using q2)
variable {P:Program}{w:World}{H:Hp}{vs:List V}
theorem Fu {h:Heap}{a:Addr}(o:HOk P w H h)(e:H a=some (.lst vs)):∃its:List Value,Vals vs its/\h.IsList a its.toArray:=by
 obtain ⟨_,its,n,r,q⟩:=o a _ e;exact ⟨its,r,_,q,rfl,n,rfl⟩
theorem Go {h:Heap}{a:Addr}(o:HOk P w H h)(e:H a=some (.tup vs)):∃its:List Value,Vals vs its/\h.IsTuple a its.toArray:=by
 obtain ⟨_,its,r,q⟩:=o a _ e;exact ⟨its,r,q⟩
theorem HD {its:List Value}{j:Nat}(r:Vals vs its)(h:j < its.toArray.size):∃v,vs[j]?=some v/\RelV v its.toArray[j]:=by
 have h':j < its.length:=by simpa using h
 have hl:j < vs.length:=by rw [r.length];exact h'
 obtain ⟨u,e1,e2⟩:=r.get (List.getElem?_eq_getElem hl);refine ⟨vs[j],List.getElem?_eq_getElem hl,?_⟩;rw [List.getElem?_eq_getElem h'] at e1
 cases e1
 simpa using e2
variable {b:Bool}
theorem M9 {f:D->D->Option Bool}{xs ys:List D}(h:CY f xs ys=some b)(ht:∀(j:Nat) d e k,xs[j]?=some d->ys[j]?=some e->f d e=some k->k=true):b=true:=by
 obtain ⟨h1,h2⟩:=CZ h;rw [h1,List.all_eq_true];intro j hj;have hj':=List.mem_range.mp hj;have l1:j < xs.length:=by lia
 have l2:j < ys.length:=by lia
 obtain ⟨k,ek⟩:=h2 j _ _ (List.getElem?_eq_getElem l1) (List.getElem?_eq_getElem l2);have:=ht j _ _ k (List.getElem?_eq_getElem l1) (List.getElem?_eq_getElem l2) ek;unfold ej;rw [List.getElem?_eq_getElem l1,List.getElem?_eq_getElem l2];simp [ek,this]
theorem FN {x y:D}(e:eq0 x y=some b):(∃i j,x = .int i/\y = .int j/\(i == j)=b)\/(∃i j,x = .str i/\y = .str j/\(i == j)=b)\/(∃i j,x = .bl i/\y = .bl j/\(i == j)=b)\/(x = .non/\y = .non/\true=b)\/(∃i j,x = .int i/\y = .str j/\false=b)\/(∃i j,x = .str i/\y = .int j/\false=b):=by
 unfold eq0 at e
 split at e
 ·cases e;exact .inl ⟨_,_,rfl,rfl,rfl⟩
 ·cases e;exact .inr (.inl ⟨_,_,rfl,rfl,rfl⟩)
 ·cases e;exact .inr (.inr (.inl ⟨_,_,rfl,rfl,rfl⟩))
 ·cases e;exact .inr (.inr (.inr (.inl ⟨rfl,rfl,rfl⟩)))
 ·cases e;exact .inr (.inr (.inr (.inr (.inl ⟨_,_,rfl,rfl,rfl⟩))))
 ·cases e;exact .inr (.inr (.inr (.inr (.inr ⟨_,_,rfl,rfl,rfl⟩))))
 ·cases e
theorem FO {n:Nat}{x y:D}(e:eqN n x y=some b):eq0 x y=some b\/(∃m xs ys,n=m + 1/\x = .lst xs/\y = .lst ys/\(if xs.length=ys.length then CY (eqN m) xs ys else some false)=some b)\/∃m xs ys b',n=m + 1/\x = .tup xs/\y = .tup ys/\CY (eqN m) xs ys=some b'/\(b' && xs.length == ys.length)=b:=by
 unfold eqN at e
 split at e
 ·exact .inl e
 ·obtain ⟨b',e1,e2⟩:=Option.map_eq_some_iff.mp e;exact .inr (.inr ⟨_,_,_,b',rfl,rfl,rfl,e1,e2⟩)
 ·exact .inr (.inl ⟨_,_,_,rfl,rfl,rfl,e⟩)
 ·exact .inl e
variable {K:PySem.W.Frag}{c:Cf}
theorem Lz:∀(n:Nat) {v:V} {d e:D} {b:Bool},Rep K c H v d->Rep K c H v e->eqN n d e=some b->b=true
 :=by
  intro n
  induction n using Nat.strongRecOn with
  | ind n ih=>
  intro v d e b rd re q;have items:∀{m:Nat} {vs:List V} {ds es:List D} {b':Bool},n=m + 1->Reps K c H vs ds->Reps K c H vs es->CY (eqN m) ds es=some b'->b'=true:=λ{m vs ds es b'} hm r1 r2 e'=>
   M9 e' λj d e k q1 q2 ek=>by
    obtain ⟨v,g1,g2⟩:=r1.at q1;exact ih m (by lia) g2 (r2.get g1 q2) ek
  rcases FO q with q0 | ⟨m,ds,es,hm,rfl,rfl,q0⟩ | ⟨m,ds,es,b',hm,rfl,rfl,q1,q2⟩
  ·rcases FN q0 with ⟨i,j,rfl,rfl,rfl⟩ | ⟨i,j,rfl,rfl,rfl⟩ | ⟨i,j,rfl,rfl,rfl⟩ | ⟨rfl,rfl,rfl⟩ | ⟨i,j,rfl,rfl,rfl⟩ | ⟨i,j,rfl,rfl,rfl⟩
   ·cases rd;cases re;simp
   ·cases rd;cases re;simp
   ·cases rd;cases re;simp
   ·cases rd;cases re;rfl
   ·cases rd;cases re
   ·cases rd;cases re
  ·cases rd with
   | lst h1 h2 h3=>
     cases re with
     | lst g1 g2 g3=>
       rw [h1] at g1;cases g1
       rw [if_pos (h3.length.symm.trans g3.length)] at q0;exact items hm h3 g3 q0
  ·cases rd with
   | tup h1 h2 h3=>
     cases re with
     | tup g1 g2 g3=>
       rw [h1] at g1;cases g1
       rw [<-q2,items hm h3 g3 q1,h3.length.symm.trans g3.length];simp
theorem Ly {s:Shared}(hok:HOk P w H s.heap):∀(n:Nat) {A:Around} {x y:V} {u v:Value} {dx dy:D} {b:Bool},RelV x u->RelV y v->Rep K c H x dx->Rep K c H y dy->eqN n dx dy=some b->A.units + n < cLine->
 RcAt A s u v b/\(EqAt A s u v b)
 :=by
  intro n
  induction n using Nat.strongRecOn with
  | ind n ih=>
  intro A x y u v dx dy b ru rv rx ry e hu;have items:∀{m:Nat} {vs ws:List V} {is js:List Value} {ds es:List D} {b':Bool},n=m + 1->Vals vs is->Vals ws js->Reps K c H vs ds->Reps K c H ws es->CY (eqN m) ds es=some b'->
   ∀j (h1:j < is.toArray.size) (h2:j < js.toArray.size),EqAt A.in1 s is.toArray[j] js.toArray[j] (ej (eqN m) ds es j):=λ{m vs ws is js ds es b'} hm r1 r2 q1 q2 e' j h1 h2=>by
   obtain ⟨v1,a1,a2⟩:=HD r1 h1;obtain ⟨v2,b1,b2⟩:=HD r2 h2;obtain ⟨l1,g1⟩:=List.getElem?_eq_some_iff.mp a1;obtain ⟨l2,g2⟩:=List.getElem?_eq_some_iff.mp b1;have k1:ds[j]?=some (ds[j]'(by rw [<-q1.length];exact l1)):=List.getElem?_eq_getElem _;have k2:es[j]?=some (es[j]'(by rw [<-q2.length];exact l2)):=List.getElem?_eq_getElem _;obtain ⟨kk,ek⟩:=(CZ e').2 j _ _ k1 k2;have:ej (eqN m) ds es j=kk:=by unfold ej;rw [k1,k2];simp [ek]
   rw [this];have hu':A.in1.units + m < cLine:=by
    have:A.in1.units=A.units + 1:=by first | rfl | exact Around.units_in1 _ | simp [Around.in1,Around.units]
    lia
   exact (ih m (by lia) a2 b2 (q1.get a1 k1) (q2.get b1 k2) ek hu').2
  have hu0:A.units < cLine:=by lia
  have conc:∀{p q:Addr} {k:Bool},p≠q->RcAt A s (.ref p) (.ref q) k->RcAt A s (.ref p) (.ref q) k/\EqAt A s (.ref p) (.ref q) k:=λhn h=>⟨h,EqAt.of_refs hn h⟩;rcases FO e with e0 | ⟨m,ds,es,hm,rfl,rfl,e0⟩ | ⟨m,ds,es,b',hm,rfl,rfl,e1,e2⟩
  ·rcases FN e0 with ⟨i,j,rfl,rfl,rfl⟩ | ⟨i,j,rfl,rfl,rfl⟩ | ⟨i,j,rfl,rfl,rfl⟩ | ⟨rfl,rfl,rfl⟩ | ⟨i,j,rfl,rfl,rfl⟩ | ⟨i,j,rfl,rfl,rfl⟩
   ·cases rx;cases ry;obtain ⟨t',rfl⟩:=ru;obtain ⟨t,rfl⟩:=rv;exact ⟨RcAt.int_int _ _ _ _,EqAt.int_int _ _ _ _⟩
   ·cases rx;cases ry;obtain ⟨t',rfl⟩:=ru;obtain ⟨t,rfl⟩:=rv;exact ⟨RcAt.str_str _ _ _ _,EqAt.str_str _ _ _ _⟩
   ·cases rx;cases ry;cases ru;cases rv;exact ⟨RcAt.bool_bool _ _,EqAt.bool_bool _ _⟩
   ·cases rx;cases ry;cases ru;cases rv;exact ⟨RcAt.none_none,EqAt.same _⟩
   ·cases rx;cases ry;obtain ⟨t',rfl⟩:=ru;obtain ⟨t,rfl⟩:=rv;exact ⟨RcAt.int_str _ _ _ _,EqAt.int_str _ _ _ _⟩
   ·cases rx;cases ry;obtain ⟨t',rfl⟩:=ru;obtain ⟨t,rfl⟩:=rv;exact ⟨RcAt.str_int _ _ _ _,EqAt.str_int _ _ _ _⟩
  ·cases rx with
   | @lst p vs _ g1 g2 g3=>
   cases ry with
   | @lst q ws _ h1 h2 h3=>
     cases ru
     cases rv
     obtain ⟨is,r1,l1⟩:=Fu hok g1;obtain ⟨js,r2,l2⟩:=Fu hok h1;have hs1:is.toArray.size=ds.length:=by rw [<-g3.length,r1.length];simp
     have hs2:js.toArray.size=es.length:=by rw [<-h3.length,r2.length];simp
     by_cases hl:ds.length=es.length
     ·rw [if_pos hl] at e0;have hsz:is.toArray.size=js.toArray.size:=by rw [hs1,hs2,hl]
      have rc:=RcAt.lists l1 l2 hsz hu0 (items hm r1 r2 g3 h3 e0);have eb:(List.range is.toArray.size).all (ej (eqN m) ds es)=b:=by rw [(CZ e0).1,hs1,<-hl,Nat.min_self]
      rw [eb] at rc
      by_cases hpq:p=q
      ·refine ⟨rc,?_⟩;subst hpq;rw [Lz n (Rep.lst g1 g2 g3) (Rep.lst h1 h2 h3) e];exact EqAt.same _
      ·exact conc hpq rc
     ·rw [if_neg hl] at e0
      cases e0
      have hsz:(is.toArray.size != js.toArray.size)=true:=by rw [hs1,hs2];simpa using hl
      refine conc (λz=>hl ?_) (RcAt.lists_lengths l1 l2 hsz hu0);subst z;rw [g1] at h1;cases h1
      rw [<-g3.length,<-h3.length]
  ·cases rx with
   | @tup p vs _ g1 g2 g3=>
   cases ry with
   | @tup q ws _ h1 h2 h3=>
     cases ru
     cases rv
     obtain ⟨is,r1,l1⟩:=Go hok g1;obtain ⟨js,r2,l2⟩:=Go hok h1;have hs1:is.toArray.size=ds.length:=by rw [<-g3.length,r1.length];simp
     have hs2:js.toArray.size=es.length:=by rw [<-h3.length,r2.length];simp
     have rc:=RcAt.tuples l1 l2 hu0 (items hm r1 r2 g3 h3 e1);have eb:((List.range (min is.toArray.size js.toArray.size)).all (ej (eqN m) ds es) && is.toArray.size == js.toArray.size)=b:=by rw [hs1,hs2,<-(CZ e1).1];exact e2
     rw [eb] at rc
     by_cases hpq:p=q
     ·refine ⟨rc,?_⟩;subst hpq;rw [Lz n (Rep.tup g1 g2 g3) (Rep.tup h1 h2 h3) e];exact EqAt.same _
     ·exact conc hpq rc
theorem Qj {s:Shared}(hok:HOk P w H s.heap)(n:Nat){A:Around}{x y:V}{u v:Value}{dx dy:D}{b:Bool}(ru:RelV x u)(rv:RelV y v)(rx:Rep K c H x dx)(ry:Rep K c H y dy)(e:eqN n dx dy=some b)(hu:A.units + n < cLine) :
 RcNeAt A s u v (!b):=by
 have items:∀{m:Nat} {vs ws:List V} {is js:List Value} {ds es:List D} {b':Bool},n=m + 1->Vals vs is->Vals ws js->Reps K c H vs ds->Reps K c H ws es->CY (eqN m) ds es=some b'->
  ∀j (h1:j < is.toArray.size) (h2:j < js.toArray.size),EqAt A.in1 s is.toArray[j] js.toArray[j] (ej (eqN m) ds es j):=λ{m vs ws is js ds es b'} hm r1 r2 q1 q2 e' j h1 h2=>by
  obtain ⟨v1,a1,a2⟩:=HD r1 h1;obtain ⟨v2,b1,b2⟩:=HD r2 h2;obtain ⟨l1,g1⟩:=List.getElem?_eq_some_iff.mp a1;obtain ⟨l2,g2⟩:=List.getElem?_eq_some_iff.mp b1;have k1:ds[j]?=some (ds[j]'(by rw [<-q1.length];exact l1)):=List.getElem?_eq_getElem _;have k2:es[j]?=some (es[j]'(by rw [<-q2.length];exact l2)):=List.getElem?_eq_getElem _;obtain ⟨kk,ek⟩:=(CZ e').2 j _ _ k1 k2;have:ej (eqN m) ds es j=kk:=by unfold ej;rw [k1,k2];simp [ek]
  rw [this];have hu':A.in1.units + m < cLine:=by
   have:A.in1.units=A.units + 1:=rfl;lia
  exact (Ly hok m a2 b2 (q1.get a1 k1) (q2.get b1 k2) ek hu').2
 have hu0:A.units < cLine:=by lia
 rcases FO e with e0 | ⟨m,ds,es,hm,rfl,rfl,e0⟩ | ⟨m,ds,es,b',hm,rfl,rfl,e1,e2⟩
 ·rcases FN e0 with ⟨i,j,rfl,rfl,rfl⟩ | ⟨i,j,rfl,rfl,rfl⟩ | ⟨i,j,rfl,rfl,rfl⟩ | ⟨rfl,rfl,rfl⟩ | ⟨i,j,rfl,rfl,rfl⟩ | ⟨i,j,rfl,rfl,rfl⟩
  ·cases rx;cases ry;obtain ⟨t',rfl⟩:=ru;obtain ⟨t,rfl⟩:=rv;exact RcNeAt.int_int _ _ _ _
  ·cases rx;cases ry;obtain ⟨t',rfl⟩:=ru;obtain ⟨t,rfl⟩:=rv;exact RcNeAt.str_str _ _ _ _
  ·cases rx;cases ry;cases ru;cases rv;exact RcNeAt.bool_bool _ _
  ·cases rx;cases ry;cases ru;cases rv;exact RcNeAt.none_none
  ·cases rx;cases ry;obtain ⟨t',rfl⟩:=ru;obtain ⟨t,rfl⟩:=rv;exact RcNeAt.int_str _ _ _ _
  ·cases rx;cases ry;obtain ⟨t',rfl⟩:=ru;obtain ⟨t,rfl⟩:=rv;exact RcNeAt.str_int _ _ _ _
 ·cases rx with
  | @lst p vs _ g1 g2 g3=>
  cases ry with
  | @lst q ws _ h1 h2 h3=>
    cases ru
    cases rv
    obtain ⟨is,r1,l1⟩:=Fu hok g1;obtain ⟨js,r2,l2⟩:=Fu hok h1;have hs1:is.toArray.size=ds.length:=by rw [<-g3.length,r1.length];simp
    have hs2:js.toArray.size=es.length:=by rw [<-h3.length,r2.length];simp
    by_cases hl:ds.length=es.length
    ·rw [if_pos hl] at e0;have hsz:is.toArray.size=js.toArray.size:=by rw [hs1,hs2,hl]
     have rc:=RcNeAt.lists l1 l2 hsz hu0 (items hm r1 r2 g3 h3 e0);rw [show (List.range is.toArray.size).all (ej (eqN m) ds es)=b by rw [(CZ e0).1,hs1,<-hl,Nat.min_self]] at rc;exact rc
    ·rw [if_neg hl] at e0
     cases e0
     exact RcNeAt.lists_lengths l1 l2 (by rw [hs1,hs2];simpa using hl) hu0
 ·cases rx with
  | @tup p vs _ g1 g2 g3=>
  cases ry with
  | @tup q ws _ h1 h2 h3=>
    cases ru
    cases rv
    obtain ⟨is,r1,l1⟩:=Go hok g1;obtain ⟨js,r2,l2⟩:=Go hok h1;have hs1:is.toArray.size=ds.length:=by rw [<-g3.length,r1.length];simp
    have hs2:js.toArray.size=es.length:=by rw [<-h3.length,r2.length];simp
    have rc:=RcNeAt.tuples l1 l2 hu0 (items hm r1 r2 g3 h3 e1);have eb:((List.range (min is.toArray.size js.toArray.size)).all (ej (eqN m) ds es) && is.toArray.size == js.toArray.size)=b:=by rw [hs1,hs2,<-(CZ e1).1];exact e2
    rw [eb] at rc;exact rc
def EQD:Nat:=40
def neD (x y:D):M D:=λt=>(eqN EQD x y).map λb=>(.bl (!b),t)
def OI (K:PySem.W.Frag)(g:Bool->Bool):R2:=λx y H Q=>∃c dx dy b,Rep K c H x dx/\Rep K c H y dy/\eqN EQD dx dy=some b/\Q (.bl (g b)) H
theorem BB {X:Cx}(hu:X.A.units + 64 < cLine):OpR X (compareOp .Eq) (OI X.K id):=by
 intro pins s Z H x y v u Q I rx ry h;obtain ⟨c,dx,dy,b,q1,q2,e,q⟩:=h;have hu':X.A.units + EQD < cLine:=by unfold EQD;lia
 exact (Ly I.hok EQD rx ry q1 q2 e hu').1 X.prog X.w _ _ ⟨.bl b,H,I,rfl,q⟩
theorem Eb {X:Cx}(hu:X.A.units + 64 < cLine):OpR X (compareOp .NotEq) (OI X.K (!·)):=by
 intro pins s Z H x y v u Q I rx ry h;obtain ⟨c,dx,dy,b,q1,q2,e,q⟩:=h;have hu':X.A.units + EQD < cLine:=by unfold EQD;lia
 exact Qj I.hok EQD rx ry q1 q2 e hu' X.prog X.w _ _ ⟨.bl (!b),H,I,rfl,q⟩
end F2
set_option maxHeartbeats 4000000
namespace F2
open PySem L2 PySem.Spec
variable {g:Int->Int->D}{t:T}{z:D×T}{X:Cx}{c:Cf}{H:Hp}
section
variable {K:PySem.W.Frag}
def i2 (g:Int->Int->D):D->D->M D
 | .int i,.int j=>ret (g i j)
 | _,_=>fail
theorem Rx {x y:D}(h:i2 g x y t=some z):∃i j,x = .int i/\y = .int j/\z=(g i j,t):=by
 cases x with
 | int i=>cases y with
   | int j=>cases h;exact ⟨i,j,rfl,rfl,rfl⟩
   | _=>cases h
 | _=>cases h
theorem SC {gV:Int->Int->V}(hr:∀i j c H,Rep K c H (gV i j) (g i j)):BD K (rI0 gV) (i2 g):=λ{Oo c t Z H x y dx dy r t' Q} f rx ry eq k=>by
 obtain ⟨i,j,rfl,rfl,z⟩:=Rx eq
 cases z
 cases rx
 cases ry
 exact ⟨i,j,rfl,rfl,k _ H c f .refl (hr i j c H)⟩
def i2C (C:Int->Int->Bool)(g:Int->Int->D):D->D->M D
 | .int i,.int j=>λt=>if C i j=true then some (g i j,t) else none
 | _,_=>fail
theorem P9 {C:Int->Int->Bool}{x y:D}(h:i2C C g x y t=some z):∃i j,x = .int i/\y = .int j/\C i j=true/\z=(g i j,t):=by
 cases x with
 | int i=>cases y with
   | int j=>
     unfold i2C at h;dsimp only at h
     by_cases hc:C i j=true
     ·rw [if_pos hc] at h;cases h;exact ⟨i,j,rfl,rfl,hc,rfl⟩
     ·rw [if_neg hc] at h;cases h
   | _=>cases h
 | _=>cases h
theorem Gs {P:Int->Int->Prop}{C:Int->Int->Bool}{gV:Int->Int->V}(hP:∀i j,C i j=true->P i j)(hr:∀i j c H,Rep K c H (gV i j) (g i j)):BD K (rI P gV) (i2C C g):=λ{Oo c t Z H x y dx dy r t' Q} f rx ry eq k=>by
 obtain ⟨i,j,rfl,rfl,hc,z⟩:=P9 eq
 cases z
 cases rx
 cases ry
 exact ⟨i,j,rfl,rfl,hP i j hc,k _ H c f .refl (hr i j c H)⟩
def B2:=i2 λi j=>.int (i - j)
noncomputable def JG (_ j:Int):Bool:=decide (0 < j) && decide (j < 1073741824)
def C5:=i2C JG λi j=>.int (i / j)
def Dd:=i2C (λ_ j=>decide (0 < j)) λi j=>.int (i % j)
noncomputable def JK (i j:Int):Bool:=decide (0<=j) && decide (j<=1000000) && decide (i.natAbs < 2 ^ 64)
def De:=i2C JK λi j=>.int (i ^ j.toNat)
noncomputable def En (i j:Int):Bool:=(decide (-(2 ^ 64) < i) && decide (i < 2 ^ 64)) || (decide (-(2 ^ 64) < j) && decide (j < 2 ^ 64))
def MI:=i2C (λ_ j=>decide (0<=j)) λi j=>.int (i / 2 ^ j.toNat)
theorem By:BD K (rI0 λi j=>.int (i - j)) B2:=SC λi j _ _=>.int _
theorem CJ:BD K (rI Q8 λi j=>.int (i / j)) C5:=Gs (λi j h=>by
 unfold JG at h;rw [Bool.and_eq_true] at h;exact ⟨of_decide_eq_true h.1,of_decide_eq_true h.2⟩) λi j _ _=>.int _
theorem Cz:BD K (rI (λ_ j=>0 < j) λi j=>.int (i % j)) Dd:=Gs (λi j h=>of_decide_eq_true h) λi j _ _=>.int _
theorem B4:BD K (rI Q9 λi j=>.int (i ^ j.toNat)) De:=Gs (λi j h=>by
 unfold JK at h;rw [Bool.and_eq_true,Bool.and_eq_true] at h;exact ⟨of_decide_eq_true h.1.1,of_decide_eq_true h.1.2,of_decide_eq_true h.2⟩) λi j _ _=>.int _
theorem QM:BD K (rI (λ_ j=>0<=j) λi j=>.int (i / 2 ^ j.toNat)) MI:=Gs (λi j h=>of_decide_eq_true h) λi j _ _=>.int _
theorem Nv {i j:Int}(h:En i j=true):CMul i j:=by
 unfold En at h;rw [Bool.or_eq_true,Bool.and_eq_true,Bool.and_eq_true] at h;rcases h with h | h
 ·exact .inl ⟨of_decide_eq_true h.1,of_decide_eq_true h.2⟩
 ·exact .inr ⟨of_decide_eq_true h.1,of_decide_eq_true h.2⟩
def Mt:D->M D
 | .int i=>ret (.int (-i))
 | _=>fail
theorem QK:Rc K (rU λi=>.int (-i)) Mt:=λ{Oo c t Z H x dx r t' Q} f rx eq k=>by
 cases rx with
 | int i=>cases eq;exact ⟨i,rfl,k _ H c f .refl (.int _)⟩
 | _=>cases eq
def N1:D->D->M D
 | .int i,.int j=>ret (.int (i + j))
 | .str x,.str y=>lim (x.length + y.length) (.str (x++y))
 | .lst xs,.lst ys=>lim (xs.length + ys.length) (.lst (xs++ys))
 | .tup xs,.tup ys=>λt=>if xs.isEmpty=false/\xs.length + ys.length<=LIM then some (.tup (xs++ys),t) else none
 | _,_=>fail
def QF:R2:=λx y H Q=>∃i j,x = .str i/\y = .str j/\i.length + j.length<=sizeLine/\Q (.str (i++j)) H
def MC (K:PySem.W.Frag):R2:=λx y H Q=>rI0 (λi j=>.int (i + j)) x y H Q\/(QF x y H Q\/(OH x y H Q\/Pq K x y H Q))
theorem op_add4:OpR X (binaryOp .Add) (MC X.K):=op_add.or (op_add_str.or (op_cat.or Qo))
theorem QG:BD K (MC K) N1:=λ{Oo c t Z H x y dx dy r t' Q} f rx ry eq k=>by
 cases rx with
 | int i=>
   cases ry with
   | int j=>cases eq;exact .inl ⟨i,j,rfl,rfl,k _ H c f .refl (.int _)⟩
   | _=>cases eq
 | str i=>
   cases ry with
   | str j=>
     obtain ⟨h,z⟩:=Dt eq
     cases z
     exact .inr (.inl ⟨i,j,rfl,rfl,Nat.le_trans h B5,k _ H c f .refl (.str _)⟩)
   | _=>cases eq
 | @lst a vs ds h1 h2 h3=>
   cases ry with
   | @lst b ws es g1 g2 g3=>
     obtain ⟨h,z⟩:=Dt eq
     cases z
     refine .inr (.inr (.inl ⟨a,b,vs,ws,rfl,rfl,h1,g1,?_,λp hp=>?_⟩))
     ·rw [h3.length,g3.length];exact Nat.le_trans h B5
     ·exact k _ _ c (f.laid hp) (f.stp_laid hp) (.lst AF (f.s.free hp) ((h3.append g3).mono (Ext.laid f.s hp)))
   | _=>cases eq
 | @tup a vs ds h1 h2 h3=>
   cases ry with
   | @tup b ws es g1 g2 g3=>
     unfold N1 at eq;dsimp only at eq
     split at eq
     ·next h=>
      cases eq
      have hne:vs≠[]:=λz=>by
       have:=h3.length;rw [z] at this;have h0:ds.length=0:=this.symm;have:ds=[]:=List.length_eq_zero_iff.mp h0;rw [this] at h;simp at h
      refine .inr (.inr (.inr ⟨a,b,vs,ws,rfl,rfl,SqT.of h1,SqT.of g1,hne,?_,λz=>?_,λz p hp=>?_⟩))
      ·rw [h3.length,g3.length];exact Nat.le_trans h.2 B5
      ·subst z;have:es=[]:=List.length_eq_zero_iff.mp g3.length.symm;subst this;rw [List.append_nil] at k;exact k _ H c f .refl (.tup h1 h2 h3)
      ·exact k _ _ c (f.laid hp) (f.stp_laid hp) (.tup AF (f.s.free hp) ((h3.append g3).mono (Ext.laid f.s hp)))
     ·cases eq
   | _=>cases eq
 | _=>cases eq
def J9:D->D->M (List D)
 | .lst xs,.lst ys=>lim (xs.length + ys.length) (xs++ys)
 | _,_=>fail
theorem OR:L8 K OH J9:=λ{Oo c t Z H x y dx dy r t' Q} f rx ry eq k=>by
 cases rx with
 | @lst a vs ds h1 h2 h3=>
   cases ry with
   | @lst b ws es g1 g2 g3=>
     obtain ⟨h,z⟩:=Dt eq
     cases z
     refine ⟨a,b,vs,ws,rfl,rfl,h1,g1,?_,λp hp=>k p _ H c f .refl (h3.append g3) hp⟩;rw [h3.length,g3.length];exact Nat.le_trans h B5
   | _=>cases eq
 | _=>cases eq
def isC:D->D->M D
 | x,.non=>λt=>some (.bl (match x with | .non=>true | _=>false),t)
 | x,.bl b=>λt=>some (.bl (match x with | .bl c=>c == b | _=>false),t)
 | _,_=>fail
def FT (x y:D):M D:=bnd (isC x y) λd=>match d with | .bl b=>ret (.bl (!b)) | _=>fail
def rIs (g:Bool->Bool):R2:=λx y H Q=>(y = .non\/∃b,y = .bl b)/\Q (.bl (g (decide (x=y)))) H
theorem Lw {x y:V}{v u:Value}(rx:RelV x v)(ry:RelV y u)(hy:y = .non\/∃b,y = .bl b):plainIs v u=true/\(v == u)=decide (x=y):=by
 rcases hy with rfl | ⟨b,rfl⟩
 ·cases ry
  cases x with
  | non=>cases rx;exact ⟨rfl,by simp⟩
  | bl _=>cases rx;exact ⟨rfl,by simp⟩
  | int _=>obtain ⟨t,rfl⟩:=rx;exact ⟨rfl,by simp⟩
  | str _=>obtain ⟨t,rfl⟩:=rx;exact ⟨rfl,by simp⟩
  | byt _=>obtain ⟨t,rfl⟩:=rx;exact ⟨rfl,by simp⟩
  | flt _=>obtain ⟨t,rfl⟩:=rx;exact ⟨rfl,by simp⟩
  | ref _=>cases rx;exact ⟨rfl,by simp⟩
  | ty _=>cases rx;exact ⟨rfl,by simp⟩
 ·cases ry
  cases x with
  | non=>cases rx;exact ⟨rfl,by simp⟩
  | bl c=>cases rx;exact ⟨rfl,by simp;cases c <;> cases b <;> rfl⟩
  | int _=>obtain ⟨t,rfl⟩:=rx;exact ⟨rfl,by simp⟩
  | str _=>obtain ⟨t,rfl⟩:=rx;exact ⟨rfl,by simp⟩
  | byt _=>obtain ⟨t,rfl⟩:=rx;exact ⟨rfl,by simp⟩
  | flt _=>obtain ⟨t,rfl⟩:=rx;exact ⟨rfl,by simp⟩
  | ref _=>cases rx;exact ⟨rfl,by simp⟩
  | ty _=>cases rx;exact ⟨rfl,by simp⟩
theorem Ny:OpR X (compareOp .Is) (rIs id):=by
 intro pins s Z H x y v u Q I rx ry h;obtain ⟨hy,q⟩:=h;obtain ⟨h1,h2⟩:=Lw rx ry hy;exact wpAny_is_plain h1 ⟨.bl _,H,I,by rw [h2];rfl,q⟩
theorem Nz:OpR X (compareOp .IsNot) (rIs (!·)):=by
 intro pins s Z H x y v u Q I rx ry h;obtain ⟨hy,q⟩:=h;obtain ⟨h1,h2⟩:=Lw rx ry hy;exact wpAny_isNot_plain h1 ⟨.bl _,H,I,by rw [h2];rfl,q⟩
theorem LH {x y:V}{dx dy:D}(rx:Rep K c H x dx)(ry:Rep K c H y dy)(eq:isC dx dy t=some z):(y = .non\/∃b,y = .bl b)/\z=(.bl (decide (x=y)),t):=by
 cases ry with
 | non=>
   refine ⟨.inl rfl,?_⟩
   cases rx <;> (cases eq;first | rfl | simp)
 | bl b=>
   refine ⟨.inr ⟨b,rfl⟩,?_⟩
   cases rx <;> (cases eq;first | rfl | simp)
   next a=>cases a <;> cases b <;> rfl
 | _=>cases eq
theorem NJ:BD K (rIs id) isC:=λ{Oo c t Z H x y dx dy r t' Q} f rx ry eq k=>by
 obtain ⟨h,z⟩:=LH rx ry eq
 cases z
 exact ⟨h,k _ H c f .refl (.bl _)⟩
theorem NK:BD K (rIs (!·)) FT:=λ{Oo c t Z H x y dx dy r t' Q} f rx ry eq k=>by
 obtain ⟨d,t1,e1,eq⟩:=Ak eq;obtain ⟨h,z⟩:=LH rx ry e1
 cases z
 cases eq
 exact ⟨h,k _ H c f .refl (.bl _)⟩
noncomputable def Fr:D->Bool
 | .non=>true | .bl _=>true | .int _=>true | .str _=>true | _=>false
def MH:D->Option (List D)
 | .lst ds=>some ds
 | .tup ds=>some ds
 | _=>none
noncomputable def toV:D->V
 | .bl b=>.bl b | .int i=>.int i | .str x=>.str x | _=>.non
theorem Fh {v:V}{d:D}(r:Rep K c H v d)(h:Fr d=true):v=toV d:=by cases r <;> first | rfl | cases h
theorem EH {c:Cf}{H:Hp}:∀{vs:List V} {ds:List D},Reps K c H vs ds->ds.all Fr=true->vs=ds.map toV
 | _,_,.nil,_=>rfl
 | _,_,.cons r t,h=>by
   rw [List.all_cons,Bool.and_eq_true] at h;rw [List.map_cons,Fh r h.1,EH t h.2]
theorem Fs:∀d:D,El (toV d)=true:=λd=>by cases d <;> rfl
def inD (neg:Bool)(x y:D):M D:=λt=>match MH y with
 | some ds=>if Fr x=true/\ds.all Fr=true then some (.bl (if neg then !inV (toV x) (ds.map toV) else inV (toV x) (ds.map toV)),t) else none
 | none=>none
theorem NI {neg:Bool}:BD K (rIn K neg) (inD neg):=λ{Oo c t Z H x y dx dy r t' Q} f rx ry eq k=>by
 unfold inD at eq
 cases ry with
 | @lst a vs ds h1 h2 h3=>
   dsimp only [MH] at eq
   split at eq
   ·next h=>
    cases eq
    refine ⟨a,vs,rfl,.inl (SqL.of h1),?_,?_,?_⟩
    ·rw [Fh rx h.1];exact Fs _
    ·rw [EH h3 h.2,List.all_map,List.all_eq_true];exact λd _=>Fs d
    ·rw [Fh rx h.1,EH h3 h.2];exact k _ H c f .refl (.bl _)
   ·cases eq
 | @tup a vs ds h1 h2 h3=>
   dsimp only [MH] at eq
   split at eq
   ·next h=>
    cases eq
    refine ⟨a,vs,rfl,.inr (SqT.of h1),?_,?_,?_⟩
    ·rw [Fh rx h.1];exact Fs _
    ·rw [EH h3 h.2,List.all_map,List.all_eq_true];exact λd _=>Fs d
    ·rw [Fh rx h.1,EH h3 h.2];exact k _ H c f .refl (.bl _)
   ·cases eq
 | _=>cases eq
def ixD:D->D->M D
 | .lst ds,.int i=>λt=>(atI ds i).map λd=>(d,t)
 | .tup ds,.int i=>λt=>(atI ds i).map λd=>(d,t)
 | .scr ns,.int i=>λt=>(atI ns i).map λn=>(.int n,t)
 | .str x,.int i=>λt=>if x.length<=LIM then (atI x.cps.toList i).map λn=>(.str ⟨#[n]⟩,t) else none
 | .obj k,.int i=>λt=>match t.S[k]? with
   | some (.lst ds)=>(atI ds i).map λd=>(d,t)
   | _=>none
 | _,_=>fail
theorem GK {vs:List V}{ds:List D}{i:Int}{d:D}(r:Reps K c H vs ds)(h:atI ds i=some d):∃v,atI vs i=some v/\Rep K c H v d:=by
 unfold atI at h ⊢;obtain ⟨j,h1,h2⟩:=Option.bind_eq_some_iff.mp h;obtain ⟨v,h3,h4⟩:=r.at h2;exact ⟨v,by rw [r.length,h1];exact h3,h4⟩
theorem PN {α β:Type}(g:α->β)(xs:List α)(i:Int):atI (xs.map g) i=(atI xs i).map g:=by
 unfold atI;rw [List.length_map]
 cases ixN xs.length i with
 | none=>rfl
 | some j=>simp
theorem Rz {dx dy r:D}{t':T}(eq:ixD dx dy t=some (r,t')):∃i,dy = .int i/\((∃ds,dx = .lst ds)\/(∃ds,dx = .tup ds)\/(∃ns,dx = .scr ns)\/(∃z,dx = .str z)\/∃k,dx = .obj k):=by
 unfold ixD at eq
 split at eq
 ·exact ⟨_,rfl,.inl ⟨_,rfl⟩⟩
 ·exact ⟨_,rfl,.inr (.inl ⟨_,rfl⟩)⟩
 ·exact ⟨_,rfl,.inr (.inr (.inl ⟨_,rfl⟩))⟩
 ·exact ⟨_,rfl,.inr (.inr (.inr (.inl ⟨_,rfl⟩)))⟩
 ·exact ⟨_,rfl,.inr (.inr (.inr (.inr ⟨_,rfl⟩)))⟩
 ·cases eq
theorem An:BD K (rIx K) ixD:=λ{Oo c t Z H x y dx dy r t' Q} f rx ry eq k=>by
 obtain ⟨i,rfl,hd⟩:=Rz eq
 cases ry
 rcases hd with ⟨ds,rfl⟩ | ⟨ds,rfl⟩ | ⟨ns,rfl⟩ | ⟨z,rfl⟩ | ⟨kk,rfl⟩
 ·cases rx with
  | @lst a vs _ h1 h2 h3=>
    obtain ⟨d,e1,e2⟩:=Option.map_eq_some_iff.mp eq
    cases e2
    obtain ⟨v,e3,e4⟩:=GK h3 e1;exact .inl ⟨a,vs,i,v,rfl,rfl,SqL.of h1,e3,k _ H c f .refl e4⟩
 ·cases rx with
  | @tup a vs _ h1 h2 h3=>
    obtain ⟨d,e1,e2⟩:=Option.map_eq_some_iff.mp eq
    cases e2
    obtain ⟨v,e3,e4⟩:=GK h3 e1;exact .inr (.inl ⟨a,vs,i,v,rfl,rfl,SqT.of h1,e3,k _ H c f .refl e4⟩)
 ·cases rx with
  | @scr a _ h1=>
    obtain ⟨n,e1,e2⟩:=Option.map_eq_some_iff.mp eq
    cases e2
    exact .inl ⟨a,_,i,.int n,rfl,rfl,h1.sq,by rw [PN,e1];rfl,k _ H c f .refl (.int n)⟩
 ·cases rx
  unfold ixD at eq;dsimp only at eq
  split at eq
  ·next hl=>
   obtain ⟨n,e1,e2⟩:=Option.map_eq_some_iff.mp eq
   cases e2
   exact .inr (.inr ⟨z,i,n,rfl,rfl,Nat.le_trans hl B5,e1,k _ H c f .refl (.str _)⟩)
  ·cases eq
 ·cases rx with
  | @obj a _ h1=>
    unfold ixD at eq;dsimp only at eq
    cases es:t.S[kk]? with
    | none=>rw [es] at eq;cases eq
    | some o=>
      rw [es] at eq
      cases o with
      | dct _=>cases eq
      | lst ds=>
        obtain ⟨d,e1,e2⟩:=Option.map_eq_some_iff.mp eq
        cases e2
        obtain ⟨vs,g1,g2⟩:=f.s.obs kk a _ h1 es;obtain ⟨v,e3,e4⟩:=GK g2 e1;exact .inl ⟨a,vs,i,v,rfl,rfl,SqL.of g1,e3,k _ H c f .refl e4⟩
end
variable {id:String}{R:List V->Hp->VK->Prop}{f:M (List D)}{x:Str}{p:Pos}
section
variable {X:Cx}{e a b:Expr}{es:List Expr}{pos:Pos}
def RO (K:PySem.W.Frag)(f:M (Option Int)):TO:=λZ H Q=>∃Oo c t,FInv K Oo c t Z H/\∃r t',f t=some (r,t')/\∀H' c',FInv K Oo c' t' Z H'->Stp Oo c H c' H'->Q r H'
theorem MW {oe:Option Expr}{t t':TO}(h:PO X oe t)(i:∀Z H Q,t' Z H Q->t Z H Q):PO X oe t':=λpins s Z H Q I q=>h pins s Z H Q I (i Z H Q q)
def fNo:M (Option Int):=ret none
def asI:D->M (Option Int)
 | .int i=>ret (some i)
 | _=>fail
def Gk (f:M D):M (Option Int):=bnd f asI
theorem LD:PO X none (RO X.K fNo):=MW Qz λZ H Q z9=>by
 obtain ⟨Oo,c,t,fi,r,t',eq,k⟩:=z9
 cases eq
 exact k H c fi .refl
theorem LE {f:M D}(h:PE X e (RE X.K f)):PO X (some e) (RO X.K (Gk f)):=MW (QA h) λZ H Q z9=>by
 obtain ⟨Oo,c,t,fi,r,t',eq,k⟩:=z9;obtain ⟨d,t1,e1,eq⟩:=Ak eq;refine ⟨Oo,c,t,fi,d,t1,e1,λv H1 c1 f1 s1 rv=>?_⟩
 cases rv with
 | int i=>cases eq;exact ⟨i,rfl,k H1 c1 f1 s1⟩
 | _=>cases eq
def NY (K:PySem.W.Frag)(R:V->Option Int->Option Int->Hp->VK->Prop)(h:D->Option Int->Option Int->M D):Prop:=∀{Oo:Addr->Prop} {c:Cf} {t:T} {Z:L2.St} {H:Hp} {x:V} {dx r:D} {lo hi:Option Int} {t':T} {Q:VK},FInv K Oo c t Z H->Rep K c H x dx->h dx lo hi t=some (r,t')->
 (∀v H' c',FInv K Oo c' t' Z H'->Stp Oo c H c' H'->Rep K c' H' v r->Q v H')->R x lo hi H Q
def fSl (f:M D)(l u:M (Option Int))(h:D->Option Int->Option Int->M D):M D:=bnd f λx=>bnd l λlo=>bnd u λhi=>h x lo hi
theorem Ki {R:V->Option Int->Option Int->Hp->VK->Prop}{h:D->Option Int->Option Int->M D}{f:M D}{l u:M (Option Int)}{lo hi:Option Expr}{p2:Pos}(hr:SlR X R)(s:NY X.K R h)(he:PE X e (RE X.K f))(hl:PO X lo (RO X.K l))(hu:PO X hi (RO X.K u)):PE X (.Subscript e (.Slice lo hi none p2) pos) (RE X.K (fSl f l u h)):=
 Bs (OB hr he hl hu) λZ H Q z9=>by
  obtain ⟨Oo,c,t,fi,r,t',eq,k⟩:=z9;obtain ⟨d,t1,e1,eq⟩:=Ak eq;obtain ⟨ol,t2,e2,eq⟩:=Ak eq;obtain ⟨oh,t3,e3,eq⟩:=Ak eq;exact ⟨Oo,c,t,fi,d,t1,e1,λv H1 c1 f1 s1 rv=>⟨Oo,c1,t1,f1,ol,t2,e2,λH2 c2 f2 s2=>⟨Oo,c2,t2,f2,oh,t3,e3,λH3 c3 f3 s3=>
   s f3 (rv.mono (s2.trans s3).ext) eq λv H' c' f' s' rv'=>k v H' c' f' (((s1.trans s2).trans s3).trans s') rv'⟩⟩⟩
def BU {α:Type}(xs:List α)(lo hi:Option Int):List α:=(xs.drop (HT.sIx xs.length 0 lo)).take (HT.sIx xs.length xs.length hi - HT.sIx xs.length 0 lo)
def slD:D->Option Int->Option Int->M D
 | .lst ds,lo,hi=>ret (.lst (BU ds lo hi))
 | .scr ns,lo,hi=>ret (.lst ((BU ns lo hi).map .int))
 | .tup ds,lo,hi=>λt=>if HT.sIx ds.length 0 lo=0/\HT.sIx ds.length ds.length hi=ds.length then none else some (.tup (BU ds lo hi),t)
 | _,_,_=>fail
theorem GY {K:PySem.W.Frag}{vs:List V}{ds:List D}(r:Reps K c H vs ds)(lo hi:Option Int):Reps K c H (Fm vs lo hi) (BU ds lo hi):=by
 unfold Fm BU;rw [r.length];exact (r.drop _).take _
theorem N6 {α β:Type}(g:α->β)(xs:List α)(lo hi:Option Int):BU (xs.map g) lo hi=(BU xs lo hi).map g:=by
 unfold BU;rw [List.length_map,List.map_take,List.map_drop]
theorem M8 (ns:List Int)(lo hi:Option Int):Fm (ns.map V.int) lo hi=(BU ns lo hi).map V.int:=N6 V.int ns lo hi
def OK (K:PySem.W.Frag):V->Option Int->Option Int->Hp->VK->Prop:=λx lo hi H Q=>Sr K x lo hi H Q\/Su K x lo hi H Q
theorem sl2:SlR X (OK X.K):=sl_list.or SG
theorem SD {K:PySem.W.Frag}:NY K (OK K) slD:=λ{Oo c t Z H x dx r lo hi t' Q} f rx eq k=>by
 cases rx with
 | @lst p vs ds h1 h2 h3=>
   cases eq
   exact .inl ⟨p,vs,rfl,SqL.of h1,λq hq=>k _ _ c (f.laid hq) (f.stp_laid hq) (.lst AF (f.s.free hq) ((GY h3 lo hi).mono (Ext.laid f.s hq)))⟩
 | @scr p ns h1=>
   cases eq
   refine .inl ⟨p,_,rfl,h1.sq,λq hq=>k _ _ c (f.laid hq) (f.stp_laid hq) (.lst AF (f.s.free hq) ?_)⟩;rw [M8];exact Reps.ints _
 | @tup p vs ds h1 h2 h3=>
   unfold slD at eq;dsimp only at eq
   split at eq
   ·cases eq
   ·next hn=>
    cases eq
    exact .inr ⟨p,vs,rfl,SqT.of h1,by rw [h3.length];exact hn,λq hq=>k _ _ c (f.laid hq) (f.stp_laid hq) (.tup AF (f.s.free hq) ((GY h3 lo hi).mono (Ext.laid f.s hq)))⟩
 | _=>cases eq
theorem UL {h:List D->M D}(hc:BR X (.builtin id) R)(s:Dc X.K R h)(hg:Gl X x)(hm:X.mg x=none)(hv:bootBuiltins x=some (.builtin id))(ha:PA X (e :: es) (RA X.K f))(hn:x≠"__name__":=by decide)(hdb:(x == ("__debug__" : Str))=false:=by decide)
 (he:starEach (e :: es) X.env=(false,eval e X.env) :: starEach es X.env:=by rfl) (hpl:(backTo pos (starEach es X.env)).any (·.1)=false:=by rfl):PE X (.Call (.Name x p) (e :: es) [] pos) (RE X.K (fB f h)):=
 Bs (Fz hc hg hm hv ha hn hdb he hpl) λ_ _ _ q=>RE.callB s q
theorem UM {h:List D->M D}(hc:BR X (.type id) R)(s:Dc X.K R h)(hg:Gl X x)(hm:X.mg x=none)(hv:bootBuiltins x=some (.type id))(ha:PA X (e :: es) (RA X.K f))(hn:x≠"__name__":=by decide)(hdb:(x == ("__debug__" : Str))=false:=by decide)
 (he:starEach (e :: es) X.env=(false,eval e X.env) :: starEach es X.env:=by rfl) (hpl:(backTo pos (starEach es X.env)).any (·.1)=false:=by rfl):PE X (.Call (.Name x p) (e :: es) [] pos) (RE X.K (fB f h)):=
 Bs (Jc hc hg hm hv ha hn hdb he hpl) λ_ _ _ q=>RE.callB s q
theorem UN {h:List D->M (List D)}(hc:BR X (.type id) R)(s:JD X.K R h)(hg:Gl X x)(hm:X.mg x=none)(hv:bootBuiltins x=some (.type id))(ha:PA X (e :: es) (RA X.K f))(hn:x≠"__name__":=by decide)(hdb:(x == ("__debug__" : Str))=false:=by decide)
 (he:starEach (e :: es) X.env=(false,eval e X.env) :: starEach es X.env:=by rfl) (hpl:(backTo pos (starEach es X.env)).any (·.1)=false:=by rfl):PE X (.Call (.Name x p) (e :: es) [] pos) (RF X.K (fBF f h)):=
 Bs (Jc hc hg hm hv ha hn hdb he hpl) λ_ _ _ q=>RF.callB s q
theorem Tl {op:Operator}{R:R2}{f g:M D}{h:D->D->M (List D)}(ho:OpR X (binaryOp op) R)(s:L8 X.K R h)(ha:PE X a (RE X.K f))(hb:PE X b (RE X.K g)):PE X (.BinOp a op b pos) (RF X.K (bnd f λx=>bnd g λy=>h x y)):=
 Bs (MA ho ha hb) λ_ _ _ q=>RF.two s q
end
section
variable {K:PySem.W.Frag}
theorem DS {xs:List V}{d:D}(r:Reps K c H xs [d]):∃v,xs=[v]/\Rep K c H v d:=by
 cases r with
 | cons r rs=>cases rs;exact ⟨_,rfl,r⟩
theorem Hz {xs:List V}{d e:D}(r:Reps K c H xs [d,e]):∃v u,xs=[v,u]/\Rep K c H v d/\Rep K c H u e:=by
 cases r with
 | cons r rs=>
   obtain ⟨u,rfl,q⟩:=DS rs;exact ⟨_,u,rfl,r,q⟩
def Bt:List D->M D
 | [.lst ds]=>ret (.int ds.length)
 | [.tup ds]=>ret (.int ds.length)
 | [.scr ns]=>ret (.int ns.length)
 | [.str x]=>lim x.length (.int x.length)
 | [.obj k]=>λt=>match t.S[k]? with
   | some (.lst ds)=>some (.int ds.length,t)
   | _=>none
 | _=>fail
theorem Bo:Dc K (λxs H Q=>∃x n,xs=[x]/\Ra K x H n/\Q (.int n) H) Bt:=λ{Oo c t Z H xs ds r t' Q} f rx eq k=>by
 match ds,rx,eq with
 | [],_,eq=>cases eq
 | d0 :: _ :: _,_,eq=>cases d0 <;> cases eq
 | [d],rx,eq=>
   obtain ⟨v,rfl,rv⟩:=DS rx
   cases rv with
   | @lst a vs ds h1 h2 h3=>cases eq;exact ⟨_,ds.length,rfl,.inl ⟨vs,SqL.of h1,h3.length.symm⟩,k _ H c f .refl (.int _)⟩
   | @tup a vs ds h1 h2 h3=>cases eq;exact ⟨_,ds.length,rfl,.inr ⟨vs,SqT.of h1,h3.length.symm⟩,k _ H c f .refl (.int _)⟩
   | @scr a ns h1=>cases eq;exact ⟨_,ns.length,rfl,.inl ⟨_,h1.sq,by simp⟩,k _ H c f .refl (.int _)⟩
   | str x=>
     obtain ⟨hl,z⟩:=Dt eq
     cases z
     exact ⟨_,x.length,rfl,⟨Nat.le_trans hl B5,rfl⟩,k _ H c f .refl (.int _)⟩
   | @obj a kk h1=>
     unfold Bt at eq;dsimp only at eq
     cases es:t.S[kk]? with
     | none=>rw [es] at eq;cases eq
     | some o=>
       rw [es] at eq
       cases o with
       | dct _=>cases eq
       | lst ds=>
         cases eq
         obtain ⟨vs,g1,g2⟩:=f.s.obs kk a _ h1 es;exact ⟨_,ds.length,rfl,.inl ⟨vs,SqL.of g1,g2.length.symm⟩,k _ H c f .refl (.int _)⟩
   | _=>cases eq
noncomputable def tyD:D->Option String
 | .non=>some "NoneType"
 | .bl _=>some "bool"
 | .int _=>some "int"
 | .str _=>some "str"
 | .lst _=>some "list"
 | .tup _=>some "tuple"
 | .dic=>some "dict"
 | _=>none
noncomputable def FU (n m:String):Option Bool:=match m with
 | "int"=>some (n == "int" || n == "bool")
 | "bool"=>some (n == "bool")
 | "str"=>some (n == "str")
 | "list"=>some (n == "list")
 | "tuple"=>some (n == "tuple")
 | "dict"=>some (n == "dict")
 | _=>none
def CQ:List D->M D
 | [d,.ty m]=>λt=>match tyD d with
   | some n=>(FU n m).map λb=>(.bl b,t)
   | none=>none
 | _=>fail
theorem LM {d:D}{n m:String}{b:Bool}(h1:tyD d=some n)(h2:FU n m=some b):PySem.W.kitOne K (.type n) (.type m)=some b:=by
 have hm:m = "int"\/m = "bool"\/m = "str"\/m = "list"\/m = "tuple"\/m = "dict":=by
  unfold FU at h2
  split at h2 <;> simp_all
 have hn:n = "NoneType"\/n = "bool"\/n = "int"\/n = "str"\/n = "list"\/n = "tuple"\/n = "dict":=by
  cases d <;> simp [tyD] at h1 <;> simp [<-h1]
 rcases hm with rfl | rfl | rfl | rfl | rfl | rfl <;> rcases hn with rfl | rfl | rfl | rfl | rfl | rfl | rfl <;> (cases h2;rfl)
def OJ (K:PySem.W.Frag):List V->Hp->VK->Prop:=λxs H Q=>∃x n t b,xs=[x,.ty n]/\TyOf K H x t/\PySem.W.kitOne K t (.type n)=some b/\Q (.bl b) H
theorem BF:BR X (.builtin "isinstance") (OJ X.K):=by
 intro pins s Z H xs us Q I r h;obtain ⟨x,n,t,b,rfl,ty,e,q⟩:=h;obtain ⟨u,w',rfl,rx,rt⟩:=GA r
 cases rt
 exact Ja I rx ty e λtk=>⟨.bl b,H,I.tok tk,rfl,q⟩
theorem CP:Dc K (OJ K) CQ:=λ{Oo c t Z H xs ds r t' Q} f rx eq k=>by
 unfold CQ at eq
 split at eq
 ·next d m=>
  obtain ⟨v,u,rfl,rv,ru⟩:=Hz rx
  cases ru
  cases et:tyD d with
  | none=>rw [et] at eq;cases eq
  | some n=>
    rw [et] at eq;obtain ⟨b,e1,e2⟩:=Option.map_eq_some_iff.mp eq
    cases e2
    refine ⟨v,m,.type n,b,rfl,?_,LM et e1,k _ H c f .refl (.bl b)⟩
    cases rv <;> first | (cases et;first | exact .non | exact .bl _ | exact .int _ | exact .str _ | exact .lst ‹_› | exact .tup ‹_› | exact .dK ‹_›) | cases et
 ·cases eq
def K9:List D->M D
 | [.lst ds]=>ret (.tup ds)
 | [.tup ds]=>ret (.tup ds)
 | [.obj k]=>λt=>match t.S[k]? with
   | some (.lst ds)=>some (.tup ds,t)
   | _=>none
 | _=>fail
theorem QN:Dc K (λxs H Q=>∃p ys,xs=[.ref p]/\((SqL K H p ys/\∀l,H l=none->Q (.ref l) (upd H l (.tup ys)))\/(SqT K H p ys/\Q (.ref p) H))) K9:=λ{Oo c t Z H xs ds r t' Q} f rx eq k=>by
 match ds,rx,eq with
 | [],_,eq=>cases eq
 | d0 :: _ :: _,_,eq=>cases d0 <;> cases eq
 | [d],rx,eq=>
   obtain ⟨v,rfl,rv⟩:=DS rx
   cases rv with
   | @lst a vs ds h1 h2 h3=>cases eq;exact ⟨a,vs,rfl,.inl ⟨SqL.of h1,λq hq=>k _ _ c (f.laid hq) (f.stp_laid hq) (.tup AF (f.s.free hq) (h3.mono (Ext.laid f.s hq)))⟩⟩
   | @tup a vs ds h1 h2 h3=>cases eq;exact ⟨a,vs,rfl,.inr ⟨SqT.of h1,k _ H c f .refl (.tup h1 h2 h3)⟩⟩
   | @obj a kk h1=>
     unfold K9 at eq;dsimp only at eq
     cases es:t.S[kk]? with
     | none=>rw [es] at eq;cases eq
     | some o=>
       rw [es] at eq
       cases o with
       | dct _=>cases eq
       | lst ds=>
         cases eq
         obtain ⟨vs,g1,g2⟩:=f.s.obs kk a _ h1 es;exact ⟨a,vs,rfl,.inl ⟨SqL.of g1,λq hq=>k _ _ c (f.laid hq) (f.stp_laid hq) (.tup AF (f.s.free hq) (g2.mono (Ext.laid f.s hq)))⟩⟩
   | _=>cases eq
def Ei:List D->M (List D)
 | [.lst ds]=>ret ds
 | [.tup ds]=>ret ds
 | [.scr ns]=>ret (ns.map .int)
 | [.obj k]=>λt=>match t.S[k]? with
   | some (.lst ds)=>some (ds,t)
   | _=>none
 | _=>fail
theorem Gu:JD K (λxs H Q=>∃p ys,xs=[.ref p]/\(SqL K H p ys\/SqT K H p ys)/\∀l,H l=none->Q (.ref l) (upd H l (.lst ys))) Ei:=λ{Oo c t Z H xs ds r t' Q} f rx eq k=>by
 match ds,rx,eq with
 | [],_,eq=>cases eq
 | d0 :: _ :: _,_,eq=>cases d0 <;> cases eq
 | [d],rx,eq=>
   obtain ⟨v,rfl,rv⟩:=DS rx
   cases rv with
   | @lst a vs ds h1 h2 h3=>cases eq;exact ⟨a,vs,rfl,.inl (SqL.of h1),λq hq=>k q vs H c f .refl h3 hq⟩
   | @tup a vs ds h1 h2 h3=>cases eq;exact ⟨a,vs,rfl,.inr (SqT.of h1),λq hq=>k q vs H c f .refl h3 hq⟩
   | @scr a ns h1=>cases eq;exact ⟨a,_,rfl,.inl h1.sq,λq hq=>k q _ H c f .refl (Reps.ints ns) hq⟩
   | @obj a kk h1=>
     unfold Ei at eq;dsimp only at eq
     cases es:t.S[kk]? with
     | none=>rw [es] at eq;cases eq
     | some o=>
       rw [es] at eq
       cases o with
       | dct _=>cases eq
       | lst ds=>
         cases eq
         obtain ⟨vs,g1,g2⟩:=f.s.obs kk a _ h1 es;exact ⟨a,vs,rfl,.inl (SqL.of g1),λq hq=>k q vs H c f .refl g2 hq⟩
   | _=>cases eq
def HW:List D->M D
 | [.int i]=>ret (.int i)
 | [.bl b]=>ret (.int (if b then 1 else 0))
 | _=>fail
theorem LU:Dc K (λxs H Q=>(∃i,xs=[.int i]/\Q (.int i) H)\/∃k,xs=[.bl k]/\Q (.int (if k then 1 else 0)) H) HW:=λ{Oo c t Z H xs ds r t' Q} f rx eq k=>by
 match ds,rx,eq with
 | [],_,eq=>cases eq
 | d0 :: _ :: _,_,eq=>cases d0 <;> cases eq
 | [d],rx,eq=>
   obtain ⟨v,rfl,rv⟩:=DS rx
   cases rv with
   | int i=>cases eq;exact .inl ⟨i,rfl,k _ H c f .refl (.int _)⟩
   | bl b=>cases eq;exact .inr ⟨b,rfl,k _ H c f .refl (.int _)⟩
   | _=>cases eq
def JT:List D->M D
 | [.int i]=>ret (.int (if i < 0 then -i else i))
 | _=>fail
theorem LT:Dc K (λxs H Q=>∃i,xs=[.int i]/\Q (.int (if i < 0 then -i else i)) H) JT:=λ{Oo c t Z H xs ds r t' Q} f rx eq k=>by
 match ds,rx,eq with
 | [],_,eq=>cases eq
 | d0 :: _ :: _,_,eq=>cases d0 <;> cases eq
 | [d],rx,eq=>
   obtain ⟨v,rfl,rv⟩:=DS rx
   cases rv with
   | int i=>cases eq;exact ⟨i,rfl,k _ H c f .refl (.int _)⟩
   | _=>cases eq
def H9:List D->M D
 | [.int i,.int j]=>ret (.int (if j < i then j else i))
 | _=>fail
def F0:List D->M D
 | [.int i,.int j]=>ret (.int (if j > i then j else i))
 | _=>fail
theorem LV:Dc K (λxs H Q=>∃i j,xs=[.int i,.int j]/\Q (.int (if j < i then j else i)) H) H9:=λ{Oo c t Z H xs ds r t' Q} f rx eq k=>by
 unfold H9 at eq
 split at eq
 ·next i j=>
  obtain ⟨v,u,rfl,rv,ru⟩:=Hz rx
  cases rv;cases ru;cases eq
  exact ⟨i,j,rfl,k _ H c f .refl (.int _)⟩
 ·cases eq
theorem Gv:Dc K (λxs H Q=>∃i j,xs=[.int i,.int j]/\Q (.int (if j > i then j else i)) H) F0:=λ{Oo c t Z H xs ds r t' Q} f rx eq k=>by
 unfold F0 at eq
 split at eq
 ·next i j=>
  obtain ⟨v,u,rfl,rv,ru⟩:=Hz rx
  cases rv;cases ru;cases eq
  exact ⟨i,j,rfl,k _ H c f .refl (.int _)⟩
 ·cases eq
def KH:List D->M D
 | [.str x]=>λt=>if x.length=1 then some (.int (x.cps.getD 0 0:Nat),t) else none
 | _=>fail
theorem QL:Dc K (λxs H Q=>∃x,xs=[.str x]/\x.length=1/\Q (.int (x.cps.getD 0 0:Nat)) H) KH:=λ{Oo c t Z H xs ds r t' Q} f rx eq k=>by
 match ds,rx,eq with
 | [],_,eq=>cases eq
 | d0 :: _ :: _,_,eq=>cases d0 <;> cases eq
 | [d],rx,eq=>
   obtain ⟨v,rfl,rv⟩:=DS rx
   cases rv with
   | str x=>
     unfold KH at eq;dsimp only at eq
     split at eq
     ·next h=>cases eq;exact ⟨x,rfl,h,k _ H c f .refl (.int _)⟩
     ·cases eq
   | _=>cases eq
end
end F2
namespace L2
open PySem PySem.Spec PyProof.Rows
open AutoSeq1 (wpAny_loadPart')
def Pp (K:PySem.W.Frag):R2:=λx y H Q=>∃a b ys,x = .ref a/\y = .ref b/\SqT K H a []/\SqT K H b ys/\Q (.ref b) H
theorem Qn {X:Cx}:OpR X (binaryOp .Add) (Pp X.K):=by
 intro pins s Z H x y v u Q I rx ry h;obtain ⟨a,b,ys,rfl,rfl,h1,h2,q⟩:=h
 cases rx
 cases ry
 obtain ⟨its,r,⟨⟨cls,dd,data,sl⟩,ho,hc,n,hd⟩,z⟩:=I.tuple h1;obtain ⟨its2,r2,⟨⟨cls2,dd2,data2,sl2⟩,ho2,hc2,n2,hd2⟩,z2⟩:=I.tuple h2;simp only at hc hd hc2 hd2;subst hc hd hc2 hd2
 cases r
 exact concat_meets ⟨_,ho,rfl⟩ ⟨_,ho2,rfl⟩ noFill_tuple_add seq_tuple_add PySem.F.slot_tuple_add PySem.F.entry_tuple_add (PySem.F.args_tuple_add_2 _ _)
  (tuple_addW0 a b #[] its2.toArray n n2 dd dd2 sl sl2 rfl) ⟨ho,ho2,.ref b,H,I,rfl,q⟩
theorem GV:fillsNumberSlot (.type "tuple") "mul" = pure false:=
 PySem.fillsNumberSlot_seq (id:="tuple.__mul__") (r:=some (.builtin "tuple.__rmul__")) F.slot_tuple_mul.lookup (by decide +kernel) F.slot_tuple_rmul.lookup (by decide +kernel)
theorem KQ:seqRepeat? (.type "tuple")=pure (some (.builtin "tuple.__mul__")):=by
 unfold seqRepeat?;rw [PySem.seqSlot_of (T:="tuple") (name:="__mul__") (id:="tuple.__mul__") F.slot_tuple_mul.lookup (by decide +kernel),PySem.seqSlot_of (T:="tuple") (name:="__rmul__") (id:="tuple.__rmul__") F.slot_tuple_rmul.lookup (by decide +kernel)];rfl
theorem Ip (a:Int)(t:Tok)(l:Addr)(items:Array Value)(n:Nat)(dd:Option Addr)(sl:Array (Option Value)) :
 Meets (Builtin.«int.__rmul__» ⟨[.int a t,.ref l],[]⟩) (λ_ R s=>s.heap.get? l=some { cls:=.type "tuple",dict:=dd,data:=.seq items n,slots:=sl }/\R (.ok (.ret Value.notImplemented)) s):=
 .of_wp λprog w A R s h=>by obtain ⟨hp,g,d,tk,os⟩:=s;obtain ⟨hl,h⟩:=h;wp_walk;exact ⟨_,rfl,h⟩
theorem Lp (l:Addr)(items:Array Value)(n:Nat)(dd:Option Addr)(sl:Array (Option Value))(x:Int)(u:Tok)(hc0:(decide (x < -(2 ^ 63)) || decide (x ≥ 2 ^ 63))=false)(hc1:(items.isEmpty || x == 1)=true) :
 Meets (Builtin.«tuple.__mul__» ⟨[.ref l,.int x u],[]⟩) (λ_ R s=>s.heap.get? l=some { cls:=.type "tuple",dict:=dd,data:=.seq items n,slots:=sl }/\R (.ok (.ret (Value.ref l))) s):=
 .of_wp λprog w A R s h=>by
  obtain ⟨hp,g,d,tk,os⟩:=s;obtain ⟨hl,h⟩:=h;have f1:=AutoSeq1.idx_int;have f2:=AutoSeq1.sub_tuple_tuple;have f3:=AutoSeq1.sub_list_list;have f4:=AutoSeq1.sub_tuple_list;have f5:=AutoSeq1.sub_list_tuple
  wp_walk using wpAny_loadPart' hl
  refine wpAny_ite_split (λz=>absurd z (by rw [hc0];decide)) λ_=>?_
  wp_walk using wpAny_loadPart' hl
  exact ⟨_,rfl,h⟩
theorem Lq (l:Addr)(items:Array Value)(n:Nat)(dd:Option Addr)(sl:Array (Option Value))(x:Int)(u:Tok)(hc0:(decide (x < -(2 ^ 63)) || decide (x ≥ 2 ^ 63))=false)(hc1:(items.isEmpty || x == 1)=false)(hc2:(decide (x<=0) || items.isEmpty)=true) :
 Meets (Builtin.«tuple.__mul__» ⟨[.ref l,.int x u],[]⟩) (λ_ R s=>s.heap.get? l=some { cls:=.type "tuple",dict:=dd,data:=.seq items n,slots:=sl }/\R (.ok (.ret (Value.ref s.heap.objs.size))) { s with heap:=s.heap.push { cls:=Value.type "tuple",data:=Data.seq #[] },toks:=s.toks }):=
 .of_wp λprog w A R s h=>by
  obtain ⟨hp,g,d,tk,os⟩:=s;obtain ⟨hl,h⟩:=h;have f1:=AutoSeq1.idx_int;have f2:=AutoSeq1.sub_tuple_tuple;have f3:=AutoSeq1.sub_list_list;have f4:=AutoSeq1.sub_tuple_list;have f5:=AutoSeq1.sub_list_tuple
  wp_walk using wpAny_loadPart' hl
  refine wpAny_ite_split (λz=>absurd z (by rw [hc0];decide)) λ_=>?_
  wp_walk using wpAny_loadPart' hl
  exact ⟨_,rfl,h⟩
theorem Lr (l:Addr)(items:Array Value)(n:Nat)(dd:Option Addr)(sl:Array (Option Value))(x:Int)(u:Tok)(hc0:(decide (x < -(2 ^ 63)) || decide (x ≥ 2 ^ 63))=false)(hc1:(items.isEmpty || x == 1)=false)(hc2:(decide (x<=0) || items.isEmpty)=false)
 (hc3:¬(items.size:Int) * x > (2 ^ 63 - 1) / 8) (hc4:Builtin.Tuple.tupleTooMany ((items.size:Int) * x)=false) (hsz:(List.foldl (λx1 x2=>x1++x2) #[] (List.replicate x.toNat items)).size<=sizeLine) :
 Meets (Builtin.«tuple.__mul__» ⟨[.ref l,.int x u],[]⟩) (λ_ R s=>s.heap.get? l=some { cls:=.type "tuple",dict:=dd,data:=.seq items n,slots:=sl }/\R (.ok (.ret (Value.ref s.heap.objs.size))) { s with heap:=s.heap.push { cls:=Value.type "tuple",data:=Data.seq (List.foldl (λx1 x2=>x1++x2) #[] (List.replicate x.toNat items)) },toks:=s.toks }):=
 .of_wp λprog w A R s h=>by
  obtain ⟨hp,g,d,tk,os⟩:=s;obtain ⟨hl,h⟩:=h;have f1:=AutoSeq1.idx_int;have f2:=AutoSeq1.sub_tuple_tuple;have f3:=AutoSeq1.sub_list_list;have f4:=AutoSeq1.sub_tuple_list;have f5:=AutoSeq1.sub_list_tuple
  wp_walk using wpAny_loadPart' hl
  refine wpAny_ite_split (λz=>absurd z (by rw [hc0];decide)) λ_=>?_
  wp_walk using wpAny_loadPart' hl
  refine wpAny_ite_split (λz=>absurd z hc3) λ_=>?_
  wp_walk using wpAny_loadPart' hl
  exact ⟨_,rfl,h⟩
end L2
namespace L2
open PySem PySem.Spec PyProof.Rows
open AutoSeq1 (wpAny_loadPart')
def Px (K:PySem.W.Frag):R2:=λx y H Q=>∃a k xs,x = .ref a/\y = .int k/\SqT K H a xs/\-(2 ^ 62)<=k/\k < 2 ^ 62/\xs.length * k.toNat<=sizeLine/\
 ((xs=[]\/k=1)->Q (.ref a) H)/\(¬(xs=[]\/k=1)->∀p,H p=none->Q (.ref p) (upd H p (.tup (List.replicate k.toNat xs).flatten)))
theorem Inv.tnew {X:Cx}{pins:List (Addr×Obj)}{Z:L2.St}{H:Hp}{s:Shared}{ys:List V}{its:List Value}{t':Nat}(I:Inv X pins Z H s)(hv:Vals ys its)(hz:ys.length<=sizeLine) :
 Inv X pins Z (upd H s.heap.objs.size (.tup ys)) { s with heap:=s.heap.push { cls:=.type "tuple",data:=.seq its.toArray },toks:=t' }:=
 I.laid (λb u e=>Heap.get?_push_of_some _ e) (Nat.le_refl _) ⟨hz,its,hv,⟨_,Heap.get?_push_size _ rfl,rfl,_,rfl⟩⟩
theorem op_mulT {X:Cx}:OpR X (binaryOp .Mult) (Px X.K):=by
 intro pins s Z H x y v u Q I rx ry h;obtain ⟨a,k,xs,rfl,rfl,hq,h1,h2,hz,q1,q2⟩:=h
 cases rx
 obtain ⟨t,rfl⟩:=ry;obtain ⟨its,r,⟨⟨cls,dd,data,sl⟩,ho,hc,n,hd⟩,z⟩:=I.tuple hq;simp only at hc hd;subst hc hd;have hl:=r.length;have hc0:(decide (k < -(2 ^ 63)) || decide (k ≥ 2 ^ 63))=false:=by
  rw [Bool.or_eq_false_iff];exact ⟨decide_eq_false (by lia),decide_eq_false (by lia)⟩
 refine wpAny_binaryOp_repeat_ref (T:="tuple") (U:="int") (by decide) ⟨_,ho,rfl⟩ (λs'=>typeIs_int s' k t) GV F.fills_int_mul F.slot_int_rmul KQ F.slot_int_index.lookup
  (call_meets F.slot_int_rmul (typeIs_int s k t) F.entry_int_rmul (F.args_int_rmul_2 _ _) (Ip k t a its.toArray n dd sl) ⟨ho,rfl,⟨_,ho,rfl⟩,?_⟩)
 by_cases hs:xs=[]\/k=1
 ·have hc1:(its.toArray.isEmpty || k == 1)=true:=by
   rw [Bool.or_eq_true];rcases hs with z | z
   ·subst z;cases r;exact .inl rfl
   ·exact .inr (by simp [z])
  exact call_meets F.slot_tuple_mul ⟨_,ho,rfl⟩ F.entry_tuple_mul (F.args_tuple_mul_2 _ _) (Lp a its.toArray n dd sl k t hc0 hc1) ⟨ho,.ref a,H,I,rfl,q1 hs⟩
 ·have hne:its≠[]:=λz=>hs (.inl (by subst z;cases r;rfl))
  have hk1:k≠1:=λz=>hs (.inr z);have hem:its.toArray.isEmpty=false:=by cases its with | nil=>exact absurd rfl hne | cons _ _=>rfl
  have hc1:(its.toArray.isEmpty || k == 1)=false:=by rw [hem];simpa using hk1
  by_cases hk:k<=0
  ·have hc2:(decide (k<=0) || its.toArray.isEmpty)=true:=by rw [decide_eq_true hk];rfl
   refine call_meets F.slot_tuple_mul ⟨_,ho,rfl⟩ F.entry_tuple_mul (F.args_tuple_mul_2 _ _) (Lq a its.toArray n dd sl k t hc0 hc1 hc2) ⟨ho,?_⟩;have hk0:k.toNat=0:=by lia
   refine ⟨.ref _,_,I.tnew (t':=s.toks) (ys:=[]) (its:=[]) .nil (Nat.zero_le _),rfl,?_⟩;have:=q2 hs _ I.fresh;rw [hk0] at this;exact this
  ·have hc2:(decide (k<=0) || its.toArray.isEmpty)=false:=by rw [decide_eq_false hk,hem];rfl
   have hsz:its.length * k.toNat<=sizeLine:=by rw [<-hl];exact hz
   have hmul:((its.toArray.size:Nat):Int) * k=((its.length * k.toNat:Nat):Int):=by
    rw [List.size_toArray,Int.natCast_mul,Int.toNat_of_nonneg (by lia)]
   have hline:(sizeLine:Nat)<=(2 ^ 63 - 1) / 8:=by decide
   have hc3:¬(its.toArray.size:Int) * k > (2 ^ 63 - 1) / 8:=by rw [hmul];lia
   have hc4:Builtin.Tuple.tupleTooMany ((its.toArray.size:Int) * k)=false:=by
    unfold Builtin.Tuple.tupleTooMany;rw [hmul];exact decide_eq_false (by lia)
   have f0:List.foldl (λx1 x2=>x1++x2) #[] (List.replicate k.toNat its.toArray)=(List.replicate k.toNat its).flatten.toArray:=by
    have:=FR its k.toNat [];rw [List.nil_append] at this;exact this
   have hfz:(List.foldl (λx1 x2=>x1++x2) #[] (List.replicate k.toNat its.toArray)).size<=sizeLine:=by
    rw [f0,List.size_toArray,HY,Nat.mul_comm];exact hsz
   refine call_meets F.slot_tuple_mul ⟨_,ho,rfl⟩ F.entry_tuple_mul (F.args_tuple_mul_2 _ _) (Lr a its.toArray n dd sl k t hc0 hc1 hc2 hc3 hc4 hfz) ⟨ho,?_⟩;rw [f0];exact ⟨.ref _,_,I.tnew (t':=s.toks) (r.rep k.toNat) (by rw [HY,Nat.mul_comm];exact hz),rfl,q2 hs _ I.fresh⟩
section
variable {X:Cx}{a b c d:Expr}{ta tb tc td:TE}{pos:Pos}
end
end L2
namespace F2
open PySem L2 PySem.Spec
section
variable {K:PySem.W.Frag}
def Bf (x y:D):M D:=match x,y with
 | .tup [],.tup ys=>ret (.tup ys)
 | x,y=>N1 x y
def Po (K:PySem.W.Frag):R2:=λx y H Q=>MC K x y H Q\/Pp K x y H Q
theorem AR {X:Cx}:OpR X (binaryOp .Add) (Po X.K):=op_add4.or Qn
theorem AH:BD K (Po K) Bf:=λ{Oo c t Z H x y dx dy r t' Q} f rx ry eq k=>by
 unfold Bf at eq
 split at eq
 ·next ys=>
  cases eq
  cases rx with
  | tup h1 h2 h3=>
    cases h3
    cases ry with
    | tup g1 g2 g3=>exact .inr ⟨_,_,_,rfl,rfl,SqT.of h1,SqT.of g1,k _ H c f .refl (.tup g1 g2 g3)⟩
 ·exact .inl (QG f rx ry eq k)
def GU:D->D->M D
 | .int i,.int j=>λt=>if En i j=true then some (.int (i * j),t) else none
 | .tup xs,.int k=>λt=>if CK k=true/\xs.length * k.toNat<=LIM then some (.tup (List.replicate k.toNat xs).flatten,t) else none
 | .lst xs,.int k=>λt=>if CK k=true/\xs.length * k.toNat<=LIM then some (.lst (List.replicate k.toNat xs).flatten,t) else none
 | _,_=>fail
def ME (K:PySem.W.Frag):R2:=λx y H Q=>rI CMul (λi j=>.int (i * j)) x y H Q\/(Px K x y H Q\/So x y H Q)
theorem op_mul3 {X:Cx}:OpR X (binaryOp .Mult) (ME X.K):=op_mul.or (op_mulT.or RW)
theorem Qi {dx dy r:D}{t t':T}(eq:GU dx dy t=some (r,t')):∃j,dy = .int j/\((∃i,dx = .int i)\/(∃ds,dx = .tup ds)\/∃ds,dx = .lst ds):=by
 unfold GU at eq
 split at eq
 ·exact ⟨_,rfl,.inl ⟨_,rfl⟩⟩
 ·exact ⟨_,rfl,.inr (.inl ⟨_,rfl⟩)⟩
 ·exact ⟨_,rfl,.inr (.inr ⟨_,rfl⟩)⟩
 ·cases eq
theorem QJ:BD K (ME K) GU:=λ{Oo c t Z H x y dx dy r t' Q} f rx ry eq k=>by
 obtain ⟨j,rfl,hd⟩:=Qi eq
 cases ry
 rcases hd with ⟨i,rfl⟩ | ⟨ds,rfl⟩ | ⟨ds,rfl⟩
 ·cases rx
  unfold GU at eq;dsimp only at eq
  split at eq
  ·next h=>cases eq;exact .inl ⟨i,j,rfl,rfl,Nv h,k _ H c f .refl (.int _)⟩
  ·cases eq
 ·cases rx with
  | @tup a vs _ h1 h2 h3=>
    unfold GU at eq;dsimp only at eq
    split at eq
    ·next h=>
     cases eq
     obtain ⟨g1,g2⟩:=EX h.1;refine .inr (.inl ⟨a,j,vs,rfl,rfl,SqT.of h1,g1,g2,by rw [h3.length];exact Nat.le_trans h.2 B5,λhs=>?_,λhs p hp=>?_⟩)
     ·rcases hs with z | z
      ·subst z;have:ds=[]:=List.length_eq_zero_iff.mp h3.length.symm;subst this;have e:(List.replicate j.toNat ([]:List D)).flatten=[]:=by simp
       rw [e] at k;exact k _ H c f .refl (.tup h1 h2 h3)
      ·subst z;have e:(List.replicate (1:Int).toNat ds).flatten=ds:=by simp
       rw [e] at k;exact k _ H c f .refl (.tup h1 h2 h3)
     ·exact k _ _ c (f.laid hp) (f.stp_laid hp) (.tup AF (f.s.free hp) ((h3.rep j.toNat).mono (Ext.laid f.s hp)))
    ·cases eq
 ·cases rx with
  | @lst a vs _ h1 h2 h3=>
    unfold GU at eq;dsimp only at eq
    split at eq
    ·next h=>
     cases eq
     obtain ⟨g1,g2⟩:=EX h.1;refine .inr (.inr ⟨a,j,vs,rfl,rfl,h1,by lia,by lia,by rw [h3.length];exact Nat.le_trans h.2 B5,λp hp=>?_⟩);exact k _ _ c (f.laid hp) (f.stp_laid hp) (.lst AF (f.s.free hp) ((h3.rep j.toNat).mono (Ext.laid f.s hp)))
    ·cases eq
end
variable {K:PySem.W.Frag}
section
variable {X:Cx}{e a b:Expr}{pos:Pos}
def GJ (xs:List D):List D->Option (List D)
 | [d]=>if xs.length < LIM then some (xs++[d]) else none
 | _=>none
def ownM (i:Nat)(h:List D->List D->Option (List D))(g:M (List D)):M Out:=λt=>match t.env[i]? with
 | some (some (.own _))=>bnd g (λds t1=>match t1.env[i]? with
   | some (some (.own xs))=>(h xs ds).map λys=>(.next,{ t1 with env:=t1.env.set i (some (.own ys)) })
   | _=>none) t
 | _=>none
def L9 (K:PySem.W.Frag)(R:V->List V->Hp->VK->Prop)(h:List D->List D->Option (List D)):Prop:=∀{c:Cf} {S:List Ob} {H:Hp} {a:Addr} {vs us:List V} {xs ds ys:List D} {Q:VK},SInv K c S H->H a=some (.lst vs)->Reps K c H vs xs->Reps K c H us ds->h xs ds=some ys->
 (∀ws,Reps K c H ws ys->Q .non (upd H a (.lst ws)))->R (.ref a) us H Q
theorem QH:L9 K LS GJ:=λ{c S H a vs us xs ds ys Q} s h r rs e k=>by
 unfold GJ at e
 split at e
 ·next d=>
  split at e
  ·next hl=>
   cases e
   obtain ⟨v,rfl,rv⟩:=DS rs;exact ⟨a,vs,v,rfl,rfl,h,by rw [r.length];exact Nat.lt_of_lt_of_le hl B5,k _ (r.append (.cons rv .nil))⟩
  ·cases e
 ·cases e
theorem RS.ownM {μ:Cf->Hp->D->(V->Hp->Prop)->Prop}{K:PySem.W.Frag}{i:Nat}{h:List D->List D->Option (List D)}{g:M (List D)}{R:V->List V->Hp->VK->Prop}(s:L9 K R h){E:Ends}{Z:L2.St}{H:Hp}(q:RSg K μ (F2.ownM i h g) E Z H):Py (tBM K "list" R (SQ i) (RA K g)) E Z H:=by
 obtain ⟨Oo,c,t,fi,o,t',eq,k⟩:=q;unfold F2.ownM at eq
 split at eq
 ·next xs0 e0=>
  obtain ⟨ds,t1,e1,eq⟩:=Ak eq;obtain ⟨a,vs0,h1,h2,h3,h4,h5⟩:=fi.own i xs0 e0;refine ⟨.ref a,h1,.inl ⟨rfl,vs0,SqL.of h4⟩,Oo,c,t,fi,ds,t1,e1,λus H1 c1 f1 s1 rus=>?_⟩
  split at eq
  ·next xs ex=>
   obtain ⟨ys,ey,ez⟩:=Option.map_eq_some_iff.mp eq
   cases ez
   obtain ⟨a',vs,g1,g2,g3,g4,g5⟩:=f1.own i xs ex;rw [h1] at g1;injection g1 with g1;injection g1 with g1;injection g1 with g1;subst g1
   refine s f1.s g4 g5 rus ey λws rws=>?_;obtain ⟨f2,s2⟩:=f1.wrOwn ex h1 rws;exact k Z _ c1 f2 (s1.trans s2)
  ·cases eq
 ·cases eq
def objM (h:List D->List D->Option (List D))(f:M D)(g:M (List D)):M D:=bnd f λo=>match o with
 | .obj k=>λt=>match t.S[k]? with
   | some (.lst _)=>bnd g (λds t1=>match t1.S[k]? with
     | some (.lst xs)=>(h xs ds).map λys=>(.non,{ t1 with S:=t1.S.set k (.lst ys) })
     | _=>none) t
   | _=>none
 | _=>fail
theorem RE.objM {K:PySem.W.Frag}{h:List D->List D->Option (List D)}{f:M D}{g:M (List D)}{R:V->List V->Hp->VK->Prop}(s:L9 K R h){Z:L2.St}{H:Hp}{Q:VK}(q:RE K (F2.objM h f g) Z H Q):tBM K "list" R (RE K f) (RA K g) Z H Q:=by
 obtain ⟨Oo,c,t,fi,r,t',eq,k⟩:=q;obtain ⟨o,t0,e0,eq⟩:=Ak eq;refine ⟨Oo,c,t,fi,o,t0,e0,λx H0 c0 f0 s0 rx=>?_⟩
 cases rx with
 | @obj a kk hk=>
   dsimp only at eq
   split at eq
   ·next xs0 ex0=>
    obtain ⟨ds,t1,e1,eq⟩:=Ak eq;obtain ⟨vs0,g0,g0'⟩:=f0.s.obs kk a _ hk ex0;refine ⟨.inl ⟨rfl,vs0,SqL.of g0⟩,Oo,c0,t0,f0,ds,t1,e1,λus H1 c1 f1 s1 rus=>?_⟩
    split at eq
    ·next xs ex=>
     obtain ⟨ys,ey,ez⟩:=Option.map_eq_some_iff.mp eq
     cases ez
     have hk1:=s1.ext.io _ _ hk;obtain ⟨vs,g1,g2⟩:=f1.s.obs kk a _ hk1 ex;refine s f1.s g1 g2 rus ey λws rws=>?_;obtain ⟨f2,s2⟩:=f1.wrObj (o:=.lst ys) (u:=.lst ws) hk1 λc' H' ext hu=>⟨ws,hu,rws.mono ext⟩;exact k _ _ c1 f2 ((s0.trans s1).trans s2) .non
    ·cases eq
   ·cases eq
 | _=>cases eq
theorem I9 {o:Expr}{es:List Expr}{f:M D}{g:M (List D)}{apos cpos:Pos}(ho:PE X o (RE X.K f))(ha:PA X (e :: es) (RA X.K g))
 (hbase:attributeBase o "append" X.env (eval o X.env)=eval o X.env:=by rfl)
 (hfew:((backTo cpos (starEach (e :: es) X.env)).all (λx=>!x.1) && (backToKw cpos (keywordEach [] X.env)).all (λx=>x.1.isSome) && decide ((e :: es).length + ([]:List Keyword).length + (if ([]:List Keyword).isEmpty then 0 else 1) < 30))=true:=by rfl)
 (hline:(apos.endLine == cpos.line)=true:=by rfl) (hs:starEach (e :: es) X.env=(false,eval e X.env) :: starEach es X.env:=by rfl) (hplain:(backTo cpos (starEach es X.env)).any (·.1)=false:=by rfl) :
 PE X (.Call (.Attribute o "append" apos) (e :: es) [] cpos) (RE X.K (objM GJ f g)):=
 Bs (Mz PySem.F.plainAttrs_list PySem.F.slot_list_append PySem.F.type_list_append Nu ho ha hbase hfew hline hs hplain) λ_ _ _ q=>RE.objM QH q
def E2 (o i d:D):M Unit:=match o,i with
 | .obj k,.int j=>λt=>match t.S[k]? with
   | some (.lst xs)=>(ixN xs.length j).map λn=>((),{ t with S:=t.S.set k (.lst (xs.set n d)) })
   | _=>none
 | _,_=>fail
def stD (f g:M D)(d:D):M Unit:=bnd f λo=>bnd g λi=>E2 o i d
theorem ED {o i:Expr}{f g:M D}(ho:PE X o (RE X.K f))(hi:PE X i (RE X.K g))
 (ha:∀v,assign (.Subscript o i pos) X.env v=(do
   let ov <-holding [v] (eval o X.env)
   let iv <-holding [v,ov] (eval i X.env)
   standAt pos
   holding [v,ov,iv] (setItem ov iv v)
   release [v,ov,iv] []):=by intro _;rfl):PG X (.Subscript o i pos) (RG X.K (stD f g)):=
 JN (R7 ho hi OX ha) λv Z H Q z9=>by
  obtain ⟨Oo,c,t,d,fi,rv,t',eq,k⟩:=z9;obtain ⟨d0,t1,e1,eq⟩:=Ak eq;obtain ⟨di,t2,e2,eq⟩:=Ak eq;refine ⟨Oo,c,t,fi,_,t1,e1,λx H1 c1 f1 s1 rx=>⟨Oo,c1,t1,f1,di,t2,e2,λy H2 c2 f2 s2 ry=>?_⟩⟩;unfold E2 at eq
  split at eq
  ·cases ry with
   | int j=>
   cases rx with
   | @obj a kk hk=>
     split at eq
     ·next xs ex=>
      obtain ⟨n,en,ez⟩:=Option.map_eq_some_iff.mp eq
      cases ez
      have hk2:=s2.ext.io _ _ hk;obtain ⟨vs,g1,g2⟩:=f2.s.obs _ a _ hk2 ex;refine ⟨a,vs,_,n,rfl,rfl,g1,by rw [g2.length];exact en,?_⟩;have rv2:=rv.mono (s1.trans s2).ext;obtain ⟨f3,s3⟩:=f2.wrObj (o:=.lst (xs.set n d)) (u:=.lst (vs.set n v)) hk2 λc' H' ext hu=>⟨_,hu,(Reps.set rv2 n g2).mono ext⟩;exact k Z _ c2 f3 ((s1.trans s2).trans s3)
     ·cases eq
  ·cases eq
end
variable {H:Hp}
section
variable {X:Cx}{e a b tg iter elt:Expr}{ifs:List Expr}{pos:Pos}{scope:Scope}{N':List Str}{n:Nat}{fr:List Nat}{f:M (List D)}{st:D->M Unit}{tst:M Bool}{el:M D}
def Df:M Bool:=ret true
theorem CO:PIf X [] (RT X.K Df):=λpins s Z H Q I z9=>by
 obtain ⟨Oo,c,t,fi,r,t',eq,k⟩:=z9;exact Qx pins s Z H Q I (by cases eq;exact k H c fi .refl)
theorem E8 (O:CmpOk X scope N' (EB n fr))(hc:X.calm=true)(hi:PI X tg iter (RI X.K f))
 (hg:∀cl C s2 H2 fp,PG (B0 X N' scope cl C s2 H2 fp) tg (RG X.K st)) (ht:∀cl C s2 H2 fp,PIf (B0 X N' scope cl C s2 H2 fp) ifs (RT X.K tst)) (he:∀cl C s2 H2 fp,PE (B0 X N' scope cl C s2 H2 fp) elt (RE X.K el))
 (hs:∀x,foldedSetIterable iter X.env x=pure x:=by intro _;rfl):PE X (.ListComp elt [⟨tg,iter,ifs,0⟩] scope pos) (RF X.K (CS n fr f st tst el)):=
 Bs (LQ O hc hi hg ht he hs) λ_ _ _ q=>RF.comp q
theorem RF.ofPure {f:M (List D)}{Z:L2.St}{Q:VK}(q:RE K (A6 f) Z H Q):RF K f Z H Q:=by
 obtain ⟨Oo,c,t,fi,r,t',eq,k⟩:=q;obtain ⟨ds,t1,e1,eq⟩:=Ak eq
 cases eq
 exact ⟨Oo,c,t,fi,ds,_,e1,λp xs H1 c1 f1 s1 rxs hp=>k _ _ c1 (f1.laid hp) (s1.trans (f1.stp_laid hp)) (.lst AF (f1.s.free hp) (rxs.mono (Ext.laid f1.s hp)))⟩
theorem HU {μ:Cf->Hp->D->(V->Hp->Prop)->Prop}{i:Nat}{y:Str}{py spos:Pos}(O:CmpOk X scope N' (EB n fr))(hc:X.calm=true)(hN:X.N.Nodup)(hiN:X.N[i]?=some y)(hx:X.env.scope.names.lookup y=some .local)(hi:PI X tg iter (RI X.K f))
 (hg:∀cl C s2 H2 fp,PG (B0 X N' scope cl C s2 H2 fp) tg (RG X.K st)) (ht:∀cl C s2 H2 fp,PIf (B0 X N' scope cl C s2 H2 fp) ifs (RT X.K tst)) (he:∀cl C s2 H2 fp,PE (B0 X N' scope cl C s2 H2 fp) elt (RE X.K el))
 (hsw:swapsWith (.ListComp elt [⟨tg,iter,ifs,0⟩] scope pos) (some (.Name y py)) spos.line X.env=pure true:=by rfl)
 (hs:∀x,foldedSetIterable iter X.env x=pure x:=by intro _;rfl):PS X (.Assign [.Name y py] (.ListComp elt [⟨tg,iter,ifs,0⟩] scope pos) spos) (RSg X.K μ (A8 i (A6 (CS n fr f st tst el)))):=
 BT (QB O hc hN hiN hx hi hg ht he hsw hs) λE Z H q=>RF.comp (RF.ofPure (RS.set q))
theorem Dg (tgs:List Str)(frn:List (Nat×Str))(hk:scope.kind = .function)(hcell:(scope.names.all λy=>y.2 != .cell)=true)(hloc:(scope.names.all λy=>y.2 != .local || scope.names.lookup y.1 == some .local)=true)
 (hfree:(scope.names.all λy=>y.2 != .free || X.env.kindOf y.1 == some .cell || X.env.kindOf y.1 == some .free)=true)
 (hf:(frn.all λp=>X.N[p.1]? == some p.2 && scope.names.lookup p.2 == some .free)=true):CmpOk X scope (tgs++frn.map (·.2)) (EB tgs.length (frn.map (·.1))):=by
 rw [List.all_eq_true] at hcell hloc hfree hf;refine ⟨hk,λy hy=>by simpa using hcell y hy,λy hy hl=>?_,λy hy hl=>?_,λZ _=>by simp [EB],λZ j x v h1 h2=>?_⟩
 ·have:=hloc y hy;simpa [hl] using this
 ·have:=hfree y hy;simpa [hl] using this
 ·unfold EB at h2
  by_cases hj:j < tgs.length
  ·rw [List.getElem?_append_left (by simpa using hj),List.getElem?_replicate] at h2
   split at h2 <;> simp at h2
  ·rw [List.getElem?_append_right (by simpa using hj),List.length_replicate,List.getElem?_map,List.getElem?_map] at h2;rw [List.getElem?_append_right (by simpa using hj),List.getElem?_map] at h1
   cases e:frn[j - tgs.length]? with
   | none=>rw [e] at h1;cases h1
   | some p=>
     rw [e] at h1 h2;simp only [Option.map_some,Option.some.injEq] at h1 h2;have hp:=hf p (List.mem_of_getElem? e);rw [Bool.and_eq_true] at hp;refine ⟨p.1,by rw [<-h1];simpa using hp.1,?_,by rw [<-h1];simpa using hp.2⟩
     cases e2:Z[p.1]? with
     | none=>rw [e2] at h2;cases h2
     | some o=>rw [e2] at h2;simpa using h2
end
mutual
noncomputable def CI:D->Bool
 | .tup xs=>F8 xs
 | .lst xs=>F8 xs
 | .obj _=>false
 | .scr _=>false
 | .exc _ _=>false
 | _=>true
noncomputable def F8:List D->Bool
 | []=>true
 | d :: r=>CI d && F8 r
end
def c0:Cf:=⟨[],λ_=>False⟩
theorem JY (a:Addr):¬c0.A a:=λh=>h.elim (λz=>nomatch z) λz=>z
mutual
theorem Fg {K:PySem.W.Frag}{c:Cf}{H:Hp}{v:V}{d:D}(r:Rep K c H v d)(p:CI d=true):Rep K c0 H v d:=by
 cases r with
 | non=>exact .non
 | bl b=>exact .bl b
 | int i=>exact .int i
 | str x=>exact .str x
 | ty n=>exact .ty n
 | tup h n r=>exact .tup h (JY _) (Gq r (by simpa [CI] using p))
 | lst h n r=>exact .lst h (JY _) (Gq r (by simpa [CI] using p))
 | scr h=>simp [CI] at p
 | dic h n=>exact .dic h (JY _)
 | obj h=>simp [CI] at p
 | exc _ _ _ _ _=>simp [CI] at p
theorem Gq {K:PySem.W.Frag}{c:Cf}{H:Hp}{vs:List V}{ds:List D}(r:Reps K c H vs ds)(p:F8 ds=true):Reps K c0 H vs ds:=by
 cases r with
 | nil=>exact .nil
 | cons h t=>
   simp only [F8,Bool.and_eq_true] at p;exact .cons (Fg h p.1) (Gq t p.2)
end
noncomputable def DT (S:List Ob):D->D
 | .obj k=>match S[k]? with
   | some (.lst ds)=>.lst ds
   | _=>.obj k
 | d=>d
noncomputable def Kr:D->Bool
 | .obj _=>true
 | _=>false
def eqS (g:Bool->Bool)(x y:D):M D:=λt=>
 if (Kr x || Kr y)=true then (if (CI (DT t.S x) && CI (DT t.S y))=true then (eqN EQD (DT t.S x) (DT t.S y)).map λb=>(.bl (g b),t) else none)
 else (eqN EQD x y).map λb=>(.bl (g b),t)
theorem KP {c:Cf}{S:List Ob}{v:V}{d:D}(s:SInv K c S H)(r:Rep K c H v d)(p:CI (DT S d)=true):Rep K c0 H v (DT S d):=by
 cases r with
 | @obj a k hk=>
   unfold DT at p ⊢;dsimp only at p ⊢
   split
   ·next ds e=>
    rw [e] at p;obtain ⟨vs,h1,h2⟩:=s.obs k a _ hk e;exact .lst h1 (JY _) (Gq h2 (by simpa [CI] using p))
   ·next h=>
    split at p
    ·next ds e=>exact absurd e (h ds)
    ·simp [CI] at p
 | non=>exact .non
 | bl b=>exact .bl b
 | int b=>exact .int b
 | str b=>exact .str b
 | ty b=>exact .ty b
 | tup h n q=>exact Fg (.tup h n q) p
 | lst h n q=>exact Fg (.lst h n q) p
 | scr h=>exact Fg (c:=c) (.scr h) p
 | dic h n=>exact Fg (.dic h n) p
 | exc a b n f q=>exact Fg (.exc a b n f q) p
theorem A9 {g:Bool->Bool}:BD K (OI K g) (eqS g):=λ{Oo c t Z H x y dx dy r t' Q} f rx ry eq k=>by
 unfold eqS at eq
 split at eq
 ·split at eq
  ·next hp=>
   rw [Bool.and_eq_true] at hp;obtain ⟨b,e1,e2⟩:=Option.map_eq_some_iff.mp eq
   cases e2
   exact ⟨c0,_,_,b,KP f.s rx hp.1,KP f.s ry hp.2,e1,k _ H c f .refl (.bl (g b))⟩
  ·cases eq
 ·obtain ⟨b,e1,e2⟩:=Option.map_eq_some_iff.mp eq
  cases e2
  exact ⟨c,dx,dy,b,rx,ry,e1,k _ H c f .refl (.bl (g b))⟩
theorem Nn {a:Addr}{ns:List Int}{f:Fn}{S':List Ob}(hO:L7 H)(hS:SqL K H a (ns.map V.int))(e:f [.scr ns] []=some (.bl true,S')):spF K f [.ref a] H (λv _=>v = .bl true) λ_ _ _=>False:=by
 refine ⟨c0,[.scr ns],[],⟨rfl,List.Pairwise.nil,λk a o h=>by simp [c0] at h,λb z=>z.elim,λb z=>z.elim⟩,.cons (.scr ?_) .nil,.bl true,S',e,λv H' c' _ _ _ rv=>by cases rv;rfl⟩;rcases hS with (h | h) | h
 ·rcases hO a with z | ⟨o,xs,z⟩
  ·rw [z] at h;cases h
  ·rw [z] at h;cases h
 ·exact .inl ⟨h,JY _⟩
 ·exact .inr h
end F2
namespace L2
open PySem PySem.Spec PyProof.Rows
section
variable {prog:Program}{w:World}{A:Around}{E:Value->Shared->Prop}{s:Shared}
theorem Hb {it l:Addr}{items:Array Value}(hne:l≠it):∀(n i:Nat) (s:Shared) (Q:List Value->Shared->Prop),s.heap.IsListIter it l i->s.heap.IsList l items->i + n<=items.size->
 (∀h',h'.IsListIter it l (i + n)->Heap.SameBut it s.heap h'->Q ((items.toList.drop i).take n) { s with heap:=h' })->wpAny (model prog w) A (draw (.ref it) n) Q E s
 | 0,i,s,Q,hit,_,_,hQ=>wpAny_pure (by simpa using hQ s.heap hit (Heap.SameBut.refl ..))
 | n + 1,i,s,Q,hit,ht,hle,hQ=>by
   have hlt:i < items.size:=by lia
   refine wpAny_bind (wpAny_pyNext_list_item hit ht (x:=items[i]) (by simp [hlt]) λh1 hit1 hs1=>?_);refine wpAny_bind (wpAny_holding (Hb hne n (i + 1) _ _ hit1 (ht.extBut hs1.extBut hne) (by lia) λh2 hit2 hs2=>wpAny_pure ?_));have hd:items.toList.drop i=items[i] :: items.toList.drop (i + 1):=by simp [List.drop_eq_getElem_cons,hlt]
   have:=hQ h2 (by rw [show i + (n + 1)=i + 1 + n by lia];exact hit2) (hs1.trans hs2);rw [hd,List.take_succ_cons] at this;exact this
theorem Lb {l:Addr}{items:Array Value}{targets:List (Bool×(Value->Sem Unit))}{Q:Unit->Shared->Prop}(hh:A.handled=none)(ht:s.heap.IsList l items)(hn:targets.length=items.size)(hstar:targets.findIdx? (·.1)=none)
 (h:∀h',Heap.ExtBut s.heap.objs.size s.heap h'->wpAny (model prog w) A (assignInOrder (targets.map (·.2)) items.toList) Q E { s with heap:=h' }):wpAny (model prog w) A (unpack (.ref l) targets) Q E s:=by
 have hlt:l≠s.heap.objs.size:=by obtain ⟨o,ho,_⟩:=ht;exact Nat.ne_of_lt (Heap.lt_size ho)
 unfold unpack;rw [hn,hstar];refine wpAny_bind (wpAny_holding ?_);unfold unpackItems;refine wpAny_bind ?_;unfold notIterableAtAll;refine wpAny_bind (wpAny_specialOf ht.typeIs PySem.F.slot_list_iter.lookup ?_);refine wpAny_pure ?_;simp only [Bool.false_eq_true,if_false];refine wpAny_bind (wpAny_holding (wpAny_pyIter_list ht ?_));have hp:Heap.IsList (s.heap.push { cls:=.type "list_iterator",data:=.fields #[.ref l,.int 0 0] }) l items:=by
  obtain ⟨o,ho,r⟩:=ht;exact ⟨o,Heap.get?_push_of_some _ ho,r⟩
 refine wpAny_bind (wpAny_holding (Hb hlt items.size 0 _ _ ⟨_,Heap.get?_push_size _ rfl,rfl,rfl⟩ hp (by lia) λh1 hit1 hs1=>?_));have hall:List.take items.size (List.drop 0 items.toList)=items.toList:=by
  rw [List.drop_zero];exact List.take_of_length_le (by simp)
 rw [hall];rw [if_neg (by simp)];have ht1:Heap.IsList h1 l items:=hp.extBut hs1.extBut hlt;refine wpAny_bind (wpAny_holding (wpAny_pyNext_list_end hh hit1 ht1 (by simp) λh2 he2=>?_));simp only [Option.isSome_none,Bool.false_eq_true,if_false];exact wpAny_pure (h h2 λb o hb e=>he2 b o hb (hs1.extBut b o hb (Heap.get?_push_of_some _ e)))
end
section
variable {X:Cx}{pos:Pos}
def gUn (K:PySem.W.Frag)(n:Nat)(t:TGs):TG:=λv Z H Q=>∃a xs,v = .ref a/\(SqT K H a xs\/SqL K H a xs)/\xs.length=n/\t xs Z H Q
theorem Tw {es:List Expr}{k:Nat}{t:TGs}{n:Nat}(hc:X.calm=true)(h:PGs X es t)
 (hn:(assignEach es X.env).length=n:=by rfl) (hst:(assignEach es X.env).findIdx? (·.1)=none:=by rfl):PG X (.Tuple es k pos) (gUn X.K n t):=by
 intro pins s Z H v u Q I r hw;obtain ⟨a,xs,e1,hq | hq,hl,hw⟩:=hw
 ·exact R8 hc h hn hst pins s Z H v u Q I r ⟨a,xs,e1,hq,hl,hw⟩
 ·subst e1
  cases r
  obtain ⟨its,rv,ht,hz⟩:=I.list hq;rw [assign_Tuple];refine wpAny_bind (wpAny_standAt (Lb (I.ok.hd hc) ht.isList (by simp [hn,<-hl,rv.length]) hst λh' hx=>?_));have I1:Inv X pins Z H { s with heap:=h' }:=I.kept (t':=s.toks) λb o e=>hx b o (Nat.ne_of_lt (Heap.lt_size e)) e;exact h pins _ Z H xs _ Q I1 (by simpa using rv) hw
end
section
open HT
variable {prog:Program}{w:World}{A:Around}{E:Value->Shared->Prop}{s:Shared}
theorem FI {t sl:Addr}{items:Array Value}{vl vu:Value}{lo hi:Option Int}{Q:Value->Shared->Prop}(ht:IsTup s.heap t items)(hs:s.heap.IsSliceOf sl vl vu .none)(pl:IsPart vl lo)(pu:IsPart vu hi)
 (hw:sIx items.size 0 lo=0/\sIx items.size items.size hi=items.size) (h:Q (.ref t) s):wpAny (model prog w) A (getItem (.ref t) (.ref sl)) Q E s:=by
 obtain ⟨os,hos,hcs,hds⟩:=id hs;have hTs:s.TypeIs (.ref sl) "slice":=⟨os,hos,hcs⟩;unfold getItem
 try with_reducible refine wpAny_holding ?_
 first | refine wpAny_bind (wpAny_pure ?_) | skip
 refine wpAny_bind (wpAny_sequenceKey ht.typeIs (by decide) ?_);refine wpAny_bind (wpAny_callSpecial?_slot (name:=Str.ofString "__getitem__") ht.typeIs PyProof.Rows.slot_tuple_getitem
  (wpAny_call_entry PyProof.Rows.slot_tuple_getitem ht.typeIs entry_tuple_getitem ?_ (args_tuple_getitem _ _)))
 show wpAny _ _ (Builtin.Tuple.tupleItemsOf (.ref t) >>= _) _ _ s;refine wpAny_bind (tupleItemsOf_ ht ?_);refine wpAny_bind (wpAny_typeOf hTs ?_);rw [if_pos (by decide)];refine wpAny_bind (EK hs pl pu ?_);have hyes:(((sIx items.size 0 lo:Nat):Int) == 0 && (1:Int) == 1 && (sIx items.size items.size hi - sIx items.size 0 lo) == items.size)=true:=by
  rw [hw.1,hw.2];simp
 show wpAny _ _ (if (((sIx items.size 0 lo:Nat):Int) == 0 && (1:Int) == 1 && (sIx items.size items.size hi - sIx items.size 0 lo) == items.size)=true then _ else _) _ _ s;rw [if_pos hyes];refine wpAny_bind (m:=Builtin.Tuple.tupleIsExact _) ?_;unfold Builtin.Tuple.tupleIsExact;refine wpAny_bind (wpAny_typeOf ht.typeIs (wpAny_pure ?_));rw [if_pos (by decide)]
 first
  | exact wpAny_bind (wpAny_rule (wpAny_pure ⟨_,rfl,wpAny_pure h⟩))
  | exact wpAny_bind (wpAny_rule (wpAny_bind (wpAny_pure (wpAny_pure ⟨_,rfl,wpAny_pure h⟩))))
end
section
variable {X:Cx}
def Sv (K:PySem.W.Frag):V->Option Int->Option Int->Hp->VK->Prop:=λx lo hi H Q=>∃a xs,x = .ref a/\SqT K H a xs/\(HT.sIx xs.length 0 lo=0/\HT.sIx xs.length xs.length hi=xs.length)/\Q (.ref a) H
theorem QQ:SlR X (Sv X.K):=by
 intro pins s Z H x v vl vu lo hi sl Q I rx hs pl pu h;obtain ⟨a,xs,rfl,hx,hw,q⟩:=h
 cases rx
 obtain ⟨its,r,ht,hz⟩:=I.tuple hx;have hlen:its.toArray.size=xs.length:=by rw [List.size_toArray];exact r.length.symm
 exact ⟨"tuple",_,PyProof.Rows.slot_tuple_getitem.lookup,ht.typeIs,FI ht hs pl pu (by rw [hlen];exact hw) ⟨.ref a,H,I,rfl,q⟩⟩
end
noncomputable def Its (z:Str):It:=⟨λi _=>i < z.cps.size,λi H x H'=>H'=H/\∃c,z.cps[i]?=some c/\x = .str ⟨#[c]⟩,λi _=>i=z.cps.size⟩
theorem La {P:Program}{w:World}{K:PySem.W.Frag}{tg:Expr}{T:String}{x:Str}{t:Tok}(it:Addr)(hT:["enumerate", "zip", "dict_itemiterator", "dict_reverseitemiterator", "odict_iterator", "itertools.zip_longest", "itertools.pairwise"].contains T=false)
 (W:∀A:Around,A.handled=none->Walks P w A it [it] [it] x.cps.size (SignAt x) (λi h=>h.IsStrIter it T x t i))
 (self:∀(A:Around) (i:Nat) (s:Shared) (Q:Value->Shared->Prop) (E:Value->Shared->Prop),s.heap.IsStrIter it T x t i->Q (.ref it) s->wpAny (model P w) A (pyIter (.ref it)) Q E s) :
 Turn P w K tg (Its x) [it] it (λi h=>h.IsStrIter it T x t i) where
 mem:=by simp
 obj:=λi h st b hb=>by
  have e:b=it:=by simpa using hb
  subst e;obtain ⟨o,e,c,d⟩:=st;exact ⟨o,e,λv z=>by rw [d] at z;cases z⟩
 keep:=λi h h' st k=>by
  obtain ⟨o,e,r⟩:=st;exact ⟨o,k it (by simp) o e,r⟩
 item:=by
  intro X hP hw hK hc i pins s Z H E I hf st hg;subst hP hw hK;obtain ⟨f0,f1,f2,f3,f4,f5⟩:=hf it (by simp);refine (W X.A (I.ok.hd hc)).item i s _ _ hg st λv h' tk hv st' kk=>?_;obtain ⟨c,u,hcc,rfl⟩:=hv;have I1:Inv X pins Z H { s with heap:=h',toks:=tk }:=I.turned (λb o hb e=>kk b o (by simpa using hb) e) f0 f1 f3 f4 f5;obtain ⟨o,e,ec,ed⟩:=id st';exact ⟨_,rfl,JJ (s:={ s with heap:=h',toks:=tk }) e ec ed hT ⟨.str ⟨#[c]⟩,H,I1,⟨u,rfl⟩,⟨rfl,c,hcc,rfl⟩,st',λb hb=>(hf b hb).1⟩⟩
 done:=by
  intro X hP hw hK hc i pins s Z H E I hf st hg;subst hP hw hK;obtain ⟨f0,f1,f2,f3,f4,f5⟩:=hf it (by simp);have hg':i=x.cps.size:=hg;subst hg';exact (W X.A (I.ok.hd hc)).done s _ _ st λh' tk kk=>⟨rfl,I.turned (λb o hb e=>kk b o (by simpa using hb) e) f0 f1 f3 f4 f5⟩
 self:=λA i s Q E st h=>self A i s Q E st h
section
variable {X:Cx}{tg:Expr}{pos:Pos}
def UR (K:PySem.W.Frag)(tl:TE):TI:=λZ H R=>tl Z H λx H1=>(∃a,x = .ref a/\(∃xs,SqL K H1 a xs)/\R (Itl K a) H1)\/(∃a,x = .ref a/\(∃xs,SqT K H1 a xs)/\R (Itt K a) H1)\/∃z,x = .str z/\R (Its z) H1
theorem R9 {l:Expr}{tl:TE}(hl:PE X l tl):PI X tg l (UR X.K tl):=by
 intro pins s Z H R I h;refine thn (hl pins s Z H _ I h) λv s1 z9=>?_;obtain ⟨x,H1,I1,r1,q1⟩:=z9;have fp:∀b∈[s1.heap.objs.size],FpOk X pins H1 b:=λb hb=>by
  have e:b=s1.heap.objs.size:=by simpa using hb
  subst e;exact I1.fpOk (Nat.le_refl _) (I1.hok.fresh (Nat.le_refl _))
 rcases q1 with ⟨a,rfl,⟨xs,hq⟩,q⟩ | ⟨a,rfl,⟨xs,hq⟩,q⟩ | ⟨z,rfl,q⟩
 ·cases r1
  obtain ⟨its,rv,p,hz⟩:=I1.list hq;refine wpAny_pyIter_list p.isList ?_;exact ⟨s1.heap.objs.size,[s1.heap.objs.size],_,_,H1,rfl,I1.kept (t':=s1.toks) λb o e=>Heap.get?_push_of_some _ e,NQ a _,⟨_,Heap.get?_push_size _ rfl,rfl,rfl⟩,fp,q⟩
 ·cases r1
  obtain ⟨its,rv,p,hz⟩:=I1.tuple hq;refine wpAny_pyIter_tuple (show s1.heap.IsTuple a its.toArray from p) ?_;exact ⟨s1.heap.objs.size,[s1.heap.objs.size],_,_,H1,rfl,I1.kept (t':=s1.toks) λb o e=>Heap.get?_push_of_some _ e,MM a _,⟨_,Heap.get?_push_size _ rfl,rfl,rfl⟩,fp,q⟩
 ·obtain ⟨t,rfl⟩:=r1
  cases ha:z.cps.all (· < 128)
  ·refine wpAny_pyIter_wide ha ?_;exact ⟨s1.heap.objs.size,[s1.heap.objs.size],_,_,H1,rfl,I1.kept (t':=s1.toks) λb o e=>Heap.get?_push_of_some _ e,La (T:="str_iterator") (x:=z) (t:=t) _ (by decide) (λA hA=>Walks.strWide hA _ z t) (λ_ _ _ _ _ st h=>wpAny_pyIter_striter_wide st h),⟨_,Heap.get?_push_size _ rfl,rfl,rfl⟩,fp,q⟩
  ·refine wpAny_pyIter_ascii ha ?_;exact ⟨s1.heap.objs.size,[s1.heap.objs.size],_,_,H1,rfl,I1.kept (t':=s1.toks) λb o e=>Heap.get?_push_of_some _ e,La (T:="str_ascii_iterator") (x:=z) (t:=t) _ (by decide) (λA hA=>Walks.strAscii hA _ z t) (λ_ _ _ _ _ st h=>wpAny_pyIter_striter_ascii st h),⟨_,Heap.get?_push_size _ rfl,rfl,rfl⟩,fp,q⟩
def Pw:R2:=λx y H Q=>∃z k,x = .str z/\y = .int k/\MulOk z k/\Q (.str (Txt.mul z k)) H
theorem Qp:OpR X (binaryOp .Mult) Pw:=by
 intro pins s Z H x y v u Q I rx ry h;obtain ⟨z,k,rfl,rfl,hk,q⟩:=h;obtain ⟨t,rfl⟩:=rx;obtain ⟨t',rfl⟩:=ry;exact SB.mul hk λt2 tk=>⟨.str _,H,I.tok tk,⟨t2,rfl⟩,q⟩
def Ss:V->Option Int->Option Int->Hp->VK->Prop:=λx lo hi H Q=>∃z,x = .str z/\z.length<=sizeLine/\Q (.str (Txt.slice z lo hi)) H
theorem sl_str:SlR X Ss:=by
 intro pins s Z H x v vl vu lo hi sl Q I rx hs pl pu h;obtain ⟨z,rfl,hz,q⟩:=h;obtain ⟨t,rfl⟩:=rx;refine ⟨"str",_,PySem.F.slot_str_getitem.lookup,typeIs_str _ _ _,?_⟩;have part:∀{v:Value} {o:Option Int},IsPart v o->∃l:Option (Int×Tok),v=partValue l/\l.map (·.1)=o:=λ{v o} p=>by
  cases p with
  | none=>exact ⟨none,rfl,rfl⟩
  | int i t=>exact ⟨some (i,t),rfl,rfl⟩
 obtain ⟨l,rfl,el⟩:=part pl;obtain ⟨u,rfl,eu⟩:=part pu;refine wpAny_getItem_str_slice (l:=l) (u:=u) (st:=none) (by obtain ⟨o,h1,h2,h3⟩:=hs;exact ⟨o,h1,h2,h3⟩) rfl ?_;unfold sliceMade slicePicked;rw [el,eu];show (if ((1:Int) == 1 && (Builtin.Str.strSliceIndices lo hi 1 z.length).length == z.length)=true then Made.val (.str z t) else Made.str ⟨((Builtin.Str.strSliceIndices lo hi 1 z.length).filterMap (z.cps[·]?)).toArray⟩).post _ s;have hle:=Txt.slice_le z lo hi;unfold Txt.slice at q hle
 by_cases hc:((1:Int) == 1 && (Builtin.Str.strSliceIndices lo hi 1 z.length).length == z.length)=true
 ·rw [if_pos hc] at q ⊢;exact ⟨.str z,H,I,⟨t,rfl⟩,q⟩
 ·rw [if_neg hc] at q hle ⊢;exact ⟨Nat.le_trans hle hz,.str _,H,I.tok _,⟨_,rfl⟩,q⟩
def FB (g:Int->Int->Bool)(h:List Nat->List Nat->Bool):R2:=λx y H Q=>(∃i j,x = .int i/\y = .int j/\Q (.bl (g i j)) H)\/∃i j,x = .str i/\y = .str j/\Q (.bl (h i.cps.toList j.cps.toList)) H
theorem EF:OpR X (compareOp .Lt) (FB (λi j=>decide (i < j)) λi j=>decide (i < j)):=op_lt.or λpins s Z H x y v u Q I rx ry h=>by
 obtain ⟨i,j,rfl,rfl,q⟩:=h;obtain ⟨t,rfl⟩:=rx;obtain ⟨t',rfl⟩:=ry;exact P.lt_str ⟨.bl _,H,I,rfl,q⟩
theorem KG:OpR X (compareOp .LtE) (FB (λi j=>decide (i<=j)) λi j=>!(decide (j < i))):=op_le.or λpins s Z H x y v u Q I rx ry h=>by
 obtain ⟨i,j,rfl,rfl,q⟩:=h;obtain ⟨t,rfl⟩:=rx;obtain ⟨t',rfl⟩:=ry;exact P.le_str ⟨.bl _,H,I,rfl,q⟩
theorem KF:OpR X (compareOp .Gt) (FB (λi j=>decide (j < i)) λi j=>decide (j < i)):=op_gt.or λpins s Z H x y v u Q I rx ry h=>by
 obtain ⟨i,j,rfl,rfl,q⟩:=h;obtain ⟨t,rfl⟩:=rx;obtain ⟨t',rfl⟩:=ry;exact P.gt_str ⟨.bl _,H,I,rfl,q⟩
theorem RV:OpR X (compareOp .GtE) (FB (λi j=>decide (j<=i)) λi j=>!(decide (i < j))):=op_ge.or λpins s Z H x y v u Q I rx ry h=>by
 obtain ⟨i,j,rfl,rfl,q⟩:=h;obtain ⟨t,rfl⟩:=rx;obtain ⟨t',rfl⟩:=ry;exact P.ge_str ⟨.bl _,H,I,rfl,q⟩
end
end L2
namespace F2
open PySem L2 PySem.Spec
def Di:D->M (List D)
 | .lst ds=>ret ds
 | .scr ns=>ret (ns.map .int)
 | .tup ds=>ret ds
 | .str x=>ret (x.cps.toList.map λc=>.str ⟨#[c]⟩)
 | _=>fail
def Fp (f:M D):M (List D):=bnd f Di
def Du:D->D->M D
 | .str x,.int k=>λt=>if CK k=true/\x.length * k.toNat<=LIM/\k<=LIM/\x.length<=LIM then some (.str (Txt.mul x k),t) else none
 | x,y=>GU x y
def EJ:D->Option Int->Option Int->M D
 | .str x,lo,hi=>lim x.length (.str (Txt.slice x lo hi))
 | .tup ds,lo,hi=>ret (.tup (BU ds lo hi))
 | x,lo,hi=>slD x lo hi
def Kc (g:Int->Int->Bool)(h:List Nat->List Nat->Bool):D->D->M D
 | .int i,.int j=>ret (.bl (g i j))
 | .str x,.str y=>ret (.bl (h x.cps.toList y.cps.toList))
 | _,_=>fail
def ltA:=Kc (λi j=>decide (i < j)) (λi j=>decide (i < j))
def leA:=Kc (λi j=>decide (i<=j)) (λi j=>!(decide (j < i)))
def gtA:=Kc (λi j=>decide (j < i)) (λi j=>decide (j < i))
def geA:=Kc (λi j=>decide (j<=i)) (λi j=>!(decide (i < j)))
def unS (n:Nat)(g:List D->M Unit):D->M Unit
 | .tup ds=>if ds.length=n then g ds else fail
 | .lst ds=>if ds.length=n then g ds else fail
 | _=>fail
def UK:M D:=fC .dic
variable {K:PySem.W.Frag}{n k:Nat}{g:List D->M Unit}{es:List Expr}
section
variable {X:Cx}{e a b:Expr}{pos:Pos}{st:Stmt}
theorem ItOk.str {K:PySem.W.Frag}{c:Cf}{H:Hp}{x:Str}:ItOk K (Its x) c H (x.cps.toList.map λc=>.str ⟨#[c]⟩):=by
 refine ⟨λc' H' i ex hi=>?_,λc' H' i y H'' d ex hd hy=>?_,λc' H' ex=>?_⟩
 ·show i < x.cps.size;simpa using hi
 ·obtain ⟨rfl,n,hn,rfl⟩:=hy;refine ⟨rfl,?_⟩;have:d = .str ⟨#[n]⟩:=by
   rw [List.getElem?_map] at hd;have hn':x.cps.toList[i]?=some n:=by simpa using hn
   rw [hn'] at hd;simpa using hd.symm
  rw [this];exact .str _
 ·show _=x.cps.size;simp
theorem FQ {tg:Expr}{f:M D}(h:PE X e (RE X.K f)):PI X tg e (RI X.K (Fp f)):=
 JO (R9 h) λZ H R z9=>by
  obtain ⟨Oo,c,t,fi,ds,t',eq,k⟩:=z9;obtain ⟨d,t1,e1,eq⟩:=Ak eq;refine ⟨Oo,c,t,fi,d,t1,e1,λv H1 c1 f1 s1 rv=>?_⟩
  cases rv with
  | @lst p vs ds' h1 h2 h3=>
    cases eq
    exact .inl ⟨p,rfl,⟨vs,SqL.of h1⟩,k _ H1 c1 f1 s1 (ItOk.lst λc' H' ex=>⟨vs,SqL.of (ex.keep _ _ h1 h2),h3.mono ex⟩)⟩
  | @scr p ns h1=>
    cases eq
    exact .inl ⟨p,rfl,⟨_,h1.sq⟩,k _ H1 c1 f1 s1 (ItOk.lst λc' H' ex=>⟨_,(h1.mono ex).sq,Reps.ints ns⟩)⟩
  | @tup p vs ds' h1 h2 h3=>
    cases eq
    exact .inr (.inl ⟨p,rfl,⟨vs,SqT.of h1⟩,k _ H1 c1 f1 s1 (ItOk.tup λc' H' ex=>⟨vs,SqT.of (ex.keep _ _ h1 h2),h3.mono ex⟩)⟩)
  | str x=>
    cases eq
    exact .inr (.inr ⟨x,rfl,k _ H1 c1 f1 s1 ItOk.str⟩)
  | _=>cases eq
theorem RG.un {v:V}{Z:L2.St}{H:Hp}{Q:L2.St->Hp->Prop}(q:RG K (unS n g) v Z H Q):gUn K n (RGs K g) v Z H Q:=by
 obtain ⟨Oo,c,t,d,fi,rv,t',eq,k⟩:=q
 cases rv with
 | @tup a vs ds h1 h2 h3=>
   unfold unS at eq
   by_cases hn:ds.length=n
   ·dsimp only at eq;rw [if_pos hn] at eq;exact ⟨a,vs,rfl,.inl (SqT.of h1),by rw [h3.length];exact hn,Oo,c,t,ds,fi,h3,t',eq,k⟩
   ·dsimp only at eq;rw [if_neg hn] at eq;cases eq
 | @lst a vs ds h1 h2 h3=>
   unfold unS at eq
   by_cases hn:ds.length=n
   ·dsimp only at eq;rw [if_pos hn] at eq;exact ⟨a,vs,rfl,.inr (SqL.of h1),by rw [h3.length];exact hn,Oo,c,t,ds,fi,h3,t',eq,k⟩
   ·dsimp only at eq;rw [if_neg hn] at eq;cases eq
 | _=>cases eq
theorem Pj (hc:X.calm=true)(h:PGs X es (RGs X.K g))(hn:(assignEach es X.env).length=n:=by rfl)(hst:(assignEach es X.env).findIdx? (·.1)=none:=by rfl):PG X (.Tuple es k pos) (RG X.K (unS n g)):=
 JN (Tw hc h hn hst) λ_ _ _ _ q=>RG.un q
theorem Fq {f:D->M Unit}(h1:PG X e (RG X.K f))(h2:PGs X es (RGs X.K g))(hs:(assignEach (e :: es) X.env).map (·.2)=assign e X.env :: (assignEach es X.env).map (·.2):=by rfl):PGs X (e :: es) (RGs X.K (Cy f g)):=
 Ls (OC h1 h2 hs) λ_ _ _ _ q=>RGs.cons q
end
section
variable {K:PySem.W.Frag}
def Pv (K:PySem.W.Frag):R2:=λx y H Q=>ME K x y H Q\/Pw x y H Q
theorem Cv {X:Cx}:OpR X (binaryOp .Mult) (Pv X.K):=op_mul3.or Qp
theorem Lh {x:Str}{k:Int}(h:CK k=true/\x.length * k.toNat<=LIM/\k<=LIM/\x.length<=LIM):MulOk x k:=by
 obtain ⟨g1,g2⟩:=EX h.1;have hL:LIM=100000:=rfl;refine ⟨?_,λh1 _=>?_,λh1 _=>?_⟩
 ·rw [Bool.or_eq_false_iff];exact ⟨decide_eq_false (by lia),decide_eq_false (by lia)⟩
 ·have h2:k<=100000:=by have:=h.2.2.1;rw [hL] at this;exact this
  have h3:x.length<=100000:=by have:=h.2.2.2;rw [hL] at this;exact this
  have h4:(92233720368547:Int)<=(2 ^ 63 - 1) / k:=by
   rw [Int.le_ediv_iff_mul_le (by lia)];lia
  lia
 ·have h5:=h.2.1;rw [hL] at h5;unfold Builtin.Str.tooLong
  first | exact decide_eq_false (by unfold sizeLine;lia) | (unfold sizeLine;exact decide_eq_false (by lia))
theorem B8:BD K (Pv K) Du:=λ{Oo c t Z H x y dx dy r t' Q} f rx ry eq k=>by
 unfold Du at eq
 split at eq
 ·next z kk=>
  split at eq
  ·next h=>
   cases eq
   cases rx
   cases ry
   exact .inr ⟨z,kk,rfl,rfl,Lh h,k _ H c f .refl (.str _)⟩
  ·cases eq
 ·exact .inl (QJ f rx ry eq k)
def Sq (K:PySem.W.Frag):V->Option Int->Option Int->Hp->VK->Prop:=λx lo hi H Q=>OK K x lo hi H Q\/(Ss x lo hi H Q\/Sv K x lo hi H Q)
theorem sl3 {X:Cx}:SlR X (Sq X.K):=sl2.or (sl_str.or QQ)
theorem Mh {α:Type}{xs:List α}{lo hi:Option Int}(h:HT.sIx xs.length 0 lo=0/\HT.sIx xs.length xs.length hi=xs.length):BU xs lo hi=xs:=by
 unfold BU;rw [h.1,h.2];simp
theorem LX:NY K (Sq K) EJ:=λ{Oo c t Z H x dx r lo hi t' Q} f rx eq k=>by
 unfold EJ at eq
 split at eq
 ·next z=>
  obtain ⟨h,e⟩:=Dt eq
  cases e
  cases rx
  exact .inr (.inl ⟨z,rfl,Nat.le_trans h B5,k _ H c f .refl (.str _)⟩)
 ·next ds=>
  cases eq
  cases rx with
  | @tup p vs ds h1 h2 h3=>
    by_cases hw:HT.sIx ds.length 0 lo=0/\HT.sIx ds.length ds.length hi=ds.length
    ·rw [Mh hw] at k;exact .inr (.inr ⟨p,vs,rfl,SqT.of h1,by rw [h3.length];exact hw,k _ H c f .refl (.tup h1 h2 h3)⟩)
    ·exact .inl (.inr ⟨p,vs,rfl,SqT.of h1,by rw [h3.length];exact hw,λq hq=>k _ _ c (f.laid hq) (f.stp_laid hq) (.tup AF (f.s.free hq) ((GY h3 lo hi).mono (Ext.laid f.s hq)))⟩)
 ·exact .inl (SD f rx eq k)
theorem Gr {g:Int->Int->Bool}{h:List Nat->List Nat->Bool}:BD K (FB g h) (Kc g h):=λ{Oo c t Z H x y dx dy r t' Q} f rx ry eq k=>by
 cases rx with
 | int i=>cases ry with
   | int j=>cases eq;exact .inl ⟨i,j,rfl,rfl,k _ H c f .refl (.bl _)⟩
   | _=>cases eq
 | str i=>cases ry with
   | str j=>cases eq;exact .inr ⟨i,j,rfl,rfl,k _ H c f .refl (.bl _)⟩
   | _=>cases eq
 | _=>cases eq
theorem DZ:BD K (FB (λi j=>decide (i < j)) λi j=>decide (i < j)) ltA:=Gr
theorem Iw:BD K (FB (λi j=>decide (i<=j)) λi j=>!(decide (j < i))) leA:=Gr
theorem Iv:BD K (FB (λi j=>decide (j < i)) λi j=>decide (j < i)) gtA:=Gr
theorem QI:BD K (FB (λi j=>decide (j<=i)) λi j=>!(decide (i < j))) geA:=Gr
end
theorem BK {P:Program}{w:World}{mg:Str->Option Value}{base:Heap}{x qual:Str}{st:Stmt}{fa:Addr}{fd:FuncData}{N ps:List Str}{m:Nat}{g:M Out}(e1:ps.length=n)(e2:N.length=m)(F:Fun K x qual st fa fd)(S:FnScope N ps (Av st))
 (hb:∀(cdv:Value) (A:Around) (outer:List Env) (s:Shared) (H:Hp) (E:XK),Room k (A.deeper (PyProof.Rows.envOfC qual (Av st) s.heap.objs.size fa cdv))->
   PSs (Ee CX0 P w K mg base N qual (Av st) fa cdv A outer s H E).nox (BV st) (RS K g)):FnOk P w K mg base CX0 (k + 1) fa fd ps (spF K (fnOf n m g)):=by
 subst e1 e2;exact Tn F S hb
theorem BN {P:Program}{w:World}{mg:Str->Option Value}{base:Heap}{fa:Addr}{fd:FuncData}{ps:List Str}{f g:Fn}(e:f=g)(h:FnOk P w K mg base CX0 k fa fd ps (spF K g)):FnOk P w K mg base CX0 k fa fd ps (spF K f):=by rw [e];exact h
theorem Bx:bootBuiltins "len" = some (.builtin "len"):=by decide +kernel
theorem AS:bootBuiltins "isinstance" = some (.builtin "isinstance"):=by decide +kernel
theorem Rh:bootBuiltins "ord" = some (.builtin "ord"):=by decide +kernel
theorem G8:bootBuiltins "min" = some (.builtin "min"):=by decide +kernel
theorem FL:bootBuiltins "max" = some (.builtin "max"):=by decide +kernel
theorem M1:bootBuiltins "abs" = some (.builtin "abs"):=by decide +kernel
theorem JW:bootBuiltins "int" = some (.type "int"):=by decide +kernel
theorem Ri:bootBuiltins "str" = some (.type "str"):=by decide +kernel
theorem PQ:bootBuiltins "bool" = some (.type "bool"):=by decide +kernel
theorem Cp:bootBuiltins "list" = some (.type "list"):=by decide +kernel
theorem Ds:bootBuiltins "tuple" = some (.type "tuple"):=by decide +kernel
noncomputable def BM:Expr->Bool
 | .Starred _ _=>true
 | _=>false
theorem Bv {e:Expr}{env:Env}(h:BM e=false):starEach (e :: es) env=(false,eval e env) :: starEach es env:=by
 cases e <;> first | rfl | cases h
def B3 (es:List Expr):Bool:=es.all λe=>!BM e
theorem Bz:∀{es:List Expr} {env:Env} {p:Pos},B3 es=true->(backTo p (starEach es env)).any (·.1)=false/\(backTo p (starEach es env)).all (λx=>!x.1)=true
 | [],env,p,_=>⟨rfl,rfl⟩
 | e :: es,env,p,h=>by
   have h':BM e=false/\B3 es=true:=by
    rw [B3,List.all_cons,Bool.and_eq_true] at h;exact ⟨by simpa using h.1,h.2⟩
   obtain ⟨h1,h2⟩:=Bz (es:=es) (env:=env) (p:=p) h'.2;rw [Bv h'.1];refine ⟨?_,?_⟩
   ·show (false || (backTo p (starEach es env)).any (·.1))=false;rw [h1];rfl
   ·show (!false && (backTo p (starEach es env)).all (λx=>!x.1))=true;rw [h2];rfl
section
variable {X:Cx}{e a b:Expr}{es:List Expr}{pos:Pos}
theorem Aa {f:M D}{g:M (List D)}(ha:PE X e (RE X.K f))(hr:PA X es (RA X.K g))(hs:BM e=false:=by rfl):PA X (e :: es) (RA X.K (Ab f g)):=PZ ha hr (Bv hs)
theorem Al {k:Nat}{fa:Addr}{fd:FuncData}{ps:List Str}{g:Fn}{f:M (List D)}{x:Str}{p:Pos}(F:FnOk X.prog X.w X.K X.mg X.base CX0 k fa fd ps (spF X.K g))(hr:Room k X.A)(hg:Gl X x)(hm:X.mg x=some (.ref fa))(hk:PySem.W.keepIn X.K (.ref fa)=true)(hb:Binds X.K fd ps [])
 (ha:PA X (e :: es) (RA X.K f)) (hdb:(x == ("__debug__" : Str))=false:=by decide) (h1:BM e=false:=by rfl) (h2:B3 es=true:=by rfl) :
 PE X (.Call (.Name x p) (e :: es) [] pos) (RE X.K (Aq g f)):=P3 F hr hg hm hk hb ha hdb (Bv h1) (Bz h2).1
theorem AX {id:String}{R:List V->Hp->VK->Prop}{h:List D->M D}{f:M (List D)}{x:Str}{p:Pos}(hc:BR X (.builtin id) R)(s:Dc X.K R h)(hg:Gl X x)(hm:X.mg x=none)(hv:bootBuiltins x=some (.builtin id))(ha:PA X (e :: es) (RA X.K f))(hn:x≠"__name__":=by decide)(hdb:(x == ("__debug__" : Str))=false:=by decide)
 (h1:BM e=false:=by rfl) (h2:B3 es=true:=by rfl):PE X (.Call (.Name x p) (e :: es) [] pos) (RE X.K (fB f h)):=UL hc s hg hm hv ha hn hdb (Bv h1) (Bz h2).1
theorem Mj {id:String}{R:List V->Hp->VK->Prop}{h:List D->M D}{f:M (List D)}{x:Str}{p:Pos}(hc:BR X (.type id) R)(s:Dc X.K R h)(hg:Gl X x)(hm:X.mg x=none)(hv:bootBuiltins x=some (.type id))(ha:PA X (e :: es) (RA X.K f))(hn:x≠"__name__":=by decide)(hdb:(x == ("__debug__" : Str))=false:=by decide)
 (h1:BM e=false:=by rfl) (h2:B3 es=true:=by rfl):PE X (.Call (.Name x p) (e :: es) [] pos) (RE X.K (fB f h)):=UM hc s hg hm hv ha hn hdb (Bv h1) (Bz h2).1
theorem JI {id:String}{R:List V->Hp->VK->Prop}{h:List D->M (List D)}{f:M (List D)}{x:Str}{p:Pos}(hc:BR X (.type id) R)(s:JD X.K R h)(hg:Gl X x)(hm:X.mg x=none)(hv:bootBuiltins x=some (.type id))(ha:PA X (e :: es) (RA X.K f))(hn:x≠"__name__":=by decide)(hdb:(x == ("__debug__" : Str))=false:=by decide)
 (h1:BM e=false:=by rfl) (h2:B3 es=true:=by rfl):PE X (.Call (.Name x p) (e :: es) [] pos) (RF X.K (fBF f h)):=UN hc s hg hm hv ha hn hdb (Bv h1) (Bz h2).1
theorem BJ {tg:Expr}{f:M (List D)}{p:Pos}(hg:Gl X "range")(hm:X.mg "range" = none)(ha:PA X [a] (RA X.K f))(h1:BM a=false:=by rfl):PI X tg (.Call (.Name "range" p) [a] [] pos) (RI X.K (Cm f)):=Nf hg hm ha (Bv h1)
theorem Rt {cpos:Pos}(h1:BM e=false)(h2:B3 es=true)(h3:es.length < 20):((backTo cpos (starEach (e :: es) X.env)).all (λx=>!x.1) && (backToKw cpos (keywordEach [] X.env)).all (λx=>x.1.isSome) && decide ((e :: es).length + ([]:List Keyword).length + (if ([]:List Keyword).isEmpty then 0 else 1) < 30))=true:=by
 rw [(Bz (es:=e :: es) (env:=X.env) (p:=cpos) (by rw [B3,List.all_cons,h1];exact h2)).2];show (true && true && decide (es.length + 1 + 0 + 0 < 30))=true;simp;lia
end
end F2
namespace HT
open PySem PySem.Spec L2 PyProof.Rows
section
variable {prog:Program}{w:World}{A:Around}{E:Value->Shared->Prop}{s:Shared}
end
end HT
namespace L2
open PySem PySem.Spec PyProof.Rows
section
variable {X:Cx}{e ek:Expr}{p2 pos:Pos}{te:TE}{tk:TO}
end
section
variable {X:Cx}
theorem FM:∀{ys:List Str} {us:List Value},Vals (ys.map V.str) us->CarriedAll us (ys.map PyData.str)
 | [],_,r=>by cases r;exact .nil
 | _ :: _,_,r=>by
   cases r with
   | cons r1 r2=>obtain ⟨t,rfl⟩:=r1;exact .cons (.str _ _) (FM r2)
def Pu (K:PySem.W.Frag):V->List V->Hp->VK->Prop:=λx xs H Q=>∃z a ys,x = .str z/\xs=[.ref a]/\SqL K H a (ys.map V.str)/\(∀y∈ys,y.length<=8)/\z.length<=8/\ys.length<=1048576/\Q (.str (Txt.join z ys)) H
theorem Qh:MtR X "str.join" (Pu X.K):=by
 intro pins s Z H x xs v us Q I rx rs h;obtain ⟨z,a,ys,rfl,rfl,ha,h1,h2,h3,q⟩:=h;obtain ⟨t,rfl⟩:=rx;obtain ⟨u,rfl,ru⟩:=Eo rs
 cases ru
 obtain ⟨its,r,pl,_⟩:=I.list ha;refine join_madeW (l:=ys) (g:=id) 8 pl.isList (by rw [List.map_id];exact FM r) h1 h3 (by lia) λt' k=>?_;rw [List.map_id];exact ⟨.str _,H,I.tok _,⟨_,rfl⟩,q⟩
end
section
variable {X:Cx}
end
section
variable {X:Cx}
theorem RN {ns:List Int}{M N:Int}(h1:M∈ns)(h2:∀a,a∈ns->a<=M)(h:ns.max?=some N):M=N:=by
 have:=List.max?_eq_some_iff.mp h;exact Int.le_antisymm (this.2 M h1) (h2 N this.1)
theorem M3 (hc:X.calm=true):BR X (.builtin "max") (λxs H Q=>∃(a:Addr) (ns:List Int) (M:Int),xs=[.ref a]/\SqL X.K H a (ns.map V.int)/\ns.max?=some M/\Q (.int M) H):=by
 intro pins s Z H xs us Q I r h;obtain ⟨a,ns,N,rfl,ha,hN,q⟩:=h;obtain ⟨u,rfl,ru⟩:=Eo r
 cases ru
 obtain ⟨its,r',pl,_⟩:=I.list ha;have hi:IntsAre its ns:=Mm r';have hne:0 < ns.length:=List.length_pos_iff.mpr λe=>by subst e;cases hN
 have hl:=pl.isList;obtain ⟨xs,e⟩:=hi.allInts.items;have hns:ns=xs.toList.map (·.1):=by
  rw [<-hi.numsOf,<-nums_intItems,<-e]
 have hsz:0 < xs.size:=by
  have h3:=hne;rw [hns,List.length_map,Array.length_toList] at h3;exact h3
 rw [e] at hl;refine max_intList (I.ok.hd hc) hl hsz λv h' tk hv hk=>?_;obtain ⟨t,rfl⟩:=intItems_at hv;obtain ⟨h1,h2⟩:=argBest_gt (numAt xs) (xs.size - 1);have m1:numAt xs (argBest (λi j=>decide (numAt xs i > numAt xs j)) (xs.size - 1))∈ns:=by
  rw [hns,numAt_eq];exact getD_mem (by rw [List.length_map,Array.length_toList];lia)
 have m2:∀a,a∈ns->a<=numAt xs (argBest (λi j=>decide (numAt xs i > numAt xs j)) (xs.size - 1)):=λa ha=>by
  rw [hns] at ha;obtain ⟨j,hj,rfl⟩:=mem_getD ha;rw [List.length_map,Array.length_toList] at hj;rw [<-numAt_eq];exact h2 j (by lia)
 have em:=RN m1 m2 hN;refine ⟨.int N,H,I.kept hk,⟨t,?_⟩,q⟩;rw [<-em]
end
end L2
namespace F2
open PySem L2 PySem.Spec
section
variable {X:Cx}{K:PySem.W.Frag}
theorem TV {x y z:V}{us:List Value}(r:Vals [x,y,z] us):∃u v w',us=[u,v,w']/\RelV x u/\RelV y v/\RelV z w':=by
 cases r with
 | cons r1 r2=>obtain ⟨v,w',rfl,h1,h2⟩:=GA r2;exact ⟨_,_,_,rfl,r1,h1,h2⟩
def min3I (a b c:Int):Int:=if b < a then (if c < b then c else b) else (if c < a then c else a)
theorem IS (hc:X.calm=true):BR X (.builtin "min") (λxs H Q=>∃i j l,xs=[.int i,.int j,.int l]/\Q (.int (min3I i j l)) H):=by
 intro pins s Z H xs us Q I r h;obtain ⟨i,j,l,rfl,q⟩:=h;obtain ⟨u,v,w',rfl,⟨t,rfl⟩,⟨t',rfl⟩,⟨t'',rfl⟩⟩:=TV r;refine min_three_ints (I.ok.hd hc) λh' tk k=>⟨_,H,I.kept k,?_,q⟩;unfold min3I
 by_cases h1:j < i
 ·by_cases h2:l < j
  ·simp only [if_pos h1,if_pos h2];exact ⟨_,rfl⟩
  ·simp only [if_pos h1,if_neg h2];exact ⟨_,rfl⟩
 ·by_cases h2:l < i
  ·simp only [if_neg h1,if_pos h2];exact ⟨_,rfl⟩
  ·simp only [if_neg h1,if_neg h2];exact ⟨_,rfl⟩
theorem TD {c:Cf}{H:Hp}{xs:List V}{d e f:D}(r:Reps K c H xs [d,e,f]):∃v u w,xs=[v,u,w]/\Rep K c H v d/\Rep K c H u e/\Rep K c H w f:=by
 cases r with
 | cons r1 r2=>obtain ⟨u,w,rfl,h1,h2⟩:=Hz r2;exact ⟨_,_,_,rfl,r1,h1,h2⟩
def Hs:List D->M D
 | [.int i,.int j,.int l]=>ret (.int (min3I i j l))
 | _=>fail
theorem KY:Dc K (λxs H Q=>∃i j l,xs=[.int i,.int j,.int l]/\Q (.int (min3I i j l)) H) Hs:=λ{Oo c t Z H xs ds r t' Q} f rx eq k=>by
 unfold Hs at eq
 split at eq
 ·next i j l=>
  obtain ⟨v,u,w,rfl,rv,ru,rw'⟩:=TD rx
  cases rv;cases ru;cases rw';cases eq
  exact ⟨i,j,l,rfl,k _ H c f .refl (.int _)⟩
 ·cases eq
noncomputable def EL:List D->Option (List Str)
 | []=>some []
 | .str x :: r=>if x.length<=8 then (EL r).map (x :: ·) else none
 | _=>none
def joinM (f:M D)(g:M (List D)):M D:=bnd f λo=>bnd g λas=>match o,as with
 | .str z,[.lst ds]=>λt=>match EL ds with
   | some ys=>if z.length<=8/\ys.length<=1048576 then some (.str (Txt.join z ys),t) else none
   | none=>none
 | _,_=>fail
theorem K5 {c:Cf}{H:Hp}:∀{ds:List D} {vs:List V} {ys:List Str},Reps K c H vs ds->EL ds=some ys->vs=ys.map V.str/\∀y∈ys,y.length<=8
 | [],_,ys,r,e=>by
   cases r
   cases e
   exact ⟨rfl,λ_ h=>nomatch h⟩
 | d :: ds,_,ys,r,e=>by
   cases r with
   | cons r1 r2=>
     cases r1 with
     | str x=>
       unfold EL at e
       split at e
       ·next hx=>
        obtain ⟨zs,e1,rfl⟩:=Option.map_eq_some_iff.mp e;obtain ⟨h1,h2⟩:=K5 r2 e1;refine ⟨by rw [h1];rfl,λy hy=>?_⟩;rcases List.mem_cons.mp hy with rfl | hy
        ·exact hx
        ·exact h2 y hy
       ·cases e
     | _=>cases e
theorem RE.joinM {f:M D}{g:M (List D)}{Z:L2.St}{H:Hp}{Q:VK}(q:RE K (F2.joinM f g) Z H Q):tBM K "str" (Pu K) (RE K f) (RA K g) Z H Q:=by
 obtain ⟨Oo,c,t,fi,r,t',eq,k⟩:=q;obtain ⟨d,t1,e1,eq⟩:=Ak eq;obtain ⟨as,t2,e2,eq⟩:=Ak eq;refine ⟨Oo,c,t,fi,d,t1,e1,λv H1 c1 f1 s1 rv=>?_⟩
 split at eq
 ·next z ds=>
  cases rv
  refine ⟨rfl,Oo,c1,t1,f1,_,t2,e2,λus H2 c2 f2 s2 rus=>?_⟩;obtain ⟨w,rfl,rw'⟩:=DS rus
  split at eq
  ·next ys ey=>
   split at eq
   ·next hz=>
    cases eq
    cases rw' with
    | @lst p vs ds h1 h2 h3=>
      obtain ⟨h4,h5⟩:=K5 h3 ey;subst h4;exact ⟨_,p,ys,rfl,rfl,SqL.of h1,h5,hz.1,hz.2,k _ _ c2 f2 (s1.trans s2) (.str _)⟩
   ·cases eq
  ·cases eq
 ·cases eq
theorem P6 {o e:Expr}{es:List Expr}{f:M D}{g:M (List D)}{apos cpos:Pos}(ho:PE X o (RE X.K f))(ha:PA X (e :: es) (RA X.K g))
 (hbase:attributeBase o "join" X.env (eval o X.env)=eval o X.env:=by rfl)
 (hfew:((backTo cpos (starEach (e :: es) X.env)).all (λx=>!x.1) && (backToKw cpos (keywordEach [] X.env)).all (λx=>x.1.isSome) && decide ((e :: es).length + ([]:List Keyword).length + (if ([]:List Keyword).isEmpty then 0 else 1) < 30))=true:=by rfl)
 (hline:(apos.endLine == cpos.line)=true:=by rfl) (hs:starEach (e :: es) X.env=(false,eval e X.env) :: starEach es X.env:=by rfl) (hplain:(backTo cpos (starEach es X.env)).any (·.1)=false:=by rfl) :
 PE X (.Call (.Attribute o "join" apos) (e :: es) [] cpos) (RE X.K (joinM f g)):=
 Bs (Mz PySem.F.plainAttrs_str PySem.F.slot_str_join PySem.F.type_str_join Qh ho ha hbase hfew hline hs hplain) λ_ _ _ q=>RE.joinM q
def Fb:List D->Option (List Int)
 | []=>some []
 | .int i :: r=>(Fb r).map (i :: ·)
 | _=>none
def Hr:List D->M D
 | [.lst ds]=>λt=>match Fb ds with
   | some ns=>match ns.max? with
     | some m=>some (.int m,t)
     | none=>none
   | none=>none
 | _=>fail
theorem Kq {c:Cf}{H:Hp}:∀{ds:List D} {vs:List V} {ns:List Int},Reps K c H vs ds->Fb ds=some ns->vs=ns.map V.int
 | [],_,ns,r,e=>by
   cases r
   cases e
   rfl
 | d :: ds,_,ns,r,e=>by
   cases r with
   | cons r1 r2=>
     cases r1 with
     | int i=>
       obtain ⟨zs,e1,rfl⟩:=Option.map_eq_some_iff.mp e;rw [Kq r2 e1];rfl
     | _=>cases e
theorem OT:Dc K (λxs H Q=>∃(a:Addr) (ns:List Int) (M:Int),xs=[.ref a]/\SqL K H a (ns.map V.int)/\ns.max?=some M/\Q (.int M) H) Hr:=λ{Oo c t Z H xs ds r t' Q} f rx eq k=>by
 unfold Hr at eq
 split at eq
 ·next ds=>
  obtain ⟨v,rfl,rv⟩:=DS rx
  split at eq
  ·next ns en=>
   split at eq
   ·next m em=>
    cases eq
    cases rv with
    | @lst p vs ds h1 h2 h3=>
      have h4:=Kq h3 en;subst h4;exact ⟨p,ns,m,rfl,SqL.of h1,em,k _ H c f .refl (.int _)⟩
   ·cases eq
  ·cases eq
 ·cases eq
end
end F2
namespace L2
open PySem PySem.Spec PyProof.Rows
section
variable {X:Cx}
end
end L2
namespace F2
open PySem L2 PySem.Spec
noncomputable def Tr (kvs:List (Key×D))(k:Key):Option D:=(kvs.find? λkv=>decide (kv.1=k)).map (·.2)
section
variable {K:PySem.W.Frag}{c:Cf}{H:Hp}
end
section
variable {X:Cx}{pos:Pos}{e:Expr}
end
end F2
namespace L2
open PySem PySem.Spec PyProof.Rows
section
variable {X:Cx}
end
end L2
namespace F2
open PySem L2 PySem.Spec
section
variable {X:Cx}{pos:Pos}{e:Expr}{es:List Expr}
end
end F2
namespace L2
open PySem PySem.Spec PyProof.Rows
section
variable {prog:Program}{w:World}{A:Around}{I:Addr}{fp wr:List Addr}{G:Array GenState->Array GenState->Prop}{n:Nat}{P:Nat->Value->Prop}{St:Nat->Shared->Prop}
end
section
variable {X:Cx}
end
end L2
namespace F2
open PySem L2 PySem.Spec PyProof.Rows
section
variable {X:Cx}{pos:Pos}{e:Expr}
end
end F2
namespace F2
open PySem L2 PySem.Spec
noncomputable def CN (f:M Bool)(b:M Out):Nat->M Out
 | 0=>λ_=>none
 | n + 1=>λt=>match f t with
   | none=>none
   | some (false,t1)=>some (.next,t1)
   | some (true,t1)=>match b t1 with
     | some (.next,t2)=>CN f b n t2
     | some (.cont,t2)=>CN f b n t2
     | some (.brk,t2)=>some (.next,t2)
     | some (.ret x,t2)=>some (.ret x,t2)
     | none=>none
def JE:Nat:=1000000
def Le (f:M Bool)(b:M Out):M Out:=CN f b JE
theorem RS.while {μ:Cf->Hp->D->(V->Hp->Prop)->Prop}{K:PySem.W.Frag}{f:M Bool}{b:M Out}{E:Ends}{Z:L2.St}{H:Hp}(q:RSg K μ (Le f b) E Z H):NN (RT K f) (RSg K μ b) E Z H:=by
 obtain ⟨Oo,c,t,fi,o,t',eq,k⟩:=q;refine ⟨λm Z' H'=>∃c' t2,FInv K Oo c' t2 Z' H'/\Stp Oo c H c' H'/\CN f b m t2=some (o,t'),⟨JE,c,t,fi,.refl,eq⟩,?_⟩;rintro m Z' H' ⟨c',t2,f2,s2,e2⟩
 cases m with
 | zero=>cases e2
 | succ m=>
 rw [CN] at e2;dsimp only at e2
 cases ef:f t2 with
 | none=>rw [ef] at e2;cases e2
 | some p=>
 obtain ⟨r,t3⟩:=p;rw [ef] at e2;refine ⟨Oo,c',t2,f2,r,t3,ef,λH3 c3 f3 s3=>?_⟩
 cases r with
 | false=>
   cases e2
   exact k Z' H3 c3 f3 (s2.trans s3)
 | true=>
   rw [if_pos rfl];dsimp only at e2;refine ⟨λZ4 H4=>∃c4 t4,FInv K Oo c4 t4 Z4 H4/\Stp Oo c H c4 H4/\CN f b m t4=some (o,t'),λZ4 H4 h=>⟨m,Nat.lt_succ_self m,h⟩,?_⟩
   cases eb:b t3 with
   | none=>rw [eb] at e2;cases e2
   | some p=>
   obtain ⟨ob,t4⟩:=p;rw [eb] at e2;refine ⟨Oo,c3,t3,f3,ob,t4,eb,λZ4 H4 c4 f4 s4=>?_⟩
   cases ob with
   | next=>exact ⟨c4,t4,f4,(s2.trans s3).trans s4,e2⟩
   | cont=>exact ⟨c4,t4,f4,(s2.trans s3).trans s4,e2⟩
   | brk=>
     cases e2
     exact k Z4 H4 c4 f4 ((s2.trans s3).trans s4)
   | ret x=>
     cases e2
     exact k Z4 H4 c4 f4 ((s2.trans s3).trans s4)
section
variable {X:Cx}{pos:Pos}
theorem Od {μ:Cf->Hp->D->(V->Hp->Prop)->Prop}{e:Expr}{body:List Stmt}{f:M Bool}{b:M Out}(hp:PassesOwn (model X.prog X.w) X.A X.env X.xe)(hc:PT X e (RT X.K f))(hb:PSs X body (RSg X.K μ b)):PS X (.While e body [] pos) (RSg X.K μ (Le f b)):=
 BT (OF hp hc hb) λ_ _ _ q=>RS.while q
end
end F2
namespace L2
open PySem PySem.Spec PyProof.Rows
end L2
namespace F2
open PySem L2 PySem.Spec
end F2
namespace L2
open PySem PySem.Spec PyProof.Rows
section
variable {X:Cx}{tg:Expr}
end
end L2
namespace F2
open PySem L2 PySem.Spec
section
variable {X:Cx}{pos:Pos}{e:Expr}{es:List Expr}
end
section
variable {K:PySem.W.Frag}{Oo:Addr->Prop}{c:Cf}{t:T}{Z:L2.St}{H:Hp}
end
section
variable {X:Cx}{pos:Pos}{e:Expr}{es:List Expr}
def UV (K:PySem.W.Frag)(f:Fn):Sp:=λvs H Q _=>∃c ds S,SInv K c S H/\Reps K c H vs ds/\∃rs S',f ds S=some (.lst rs,S')/\
 ∀p us H' c',SInv K c' S' H'->Stp c.O c H c' H'->(∀b,c'.O b↔c.O b)->Reps K c' H' us rs->H' p=none->Q (.ref p) (upd H' p (.lst us))
end
end F2
namespace L2
open PySem PySem.Spec PyProof.Rows
section
variable {X:Cx}
theorem Qr {o:Expr}{to:TE}{apos cpos:Pos}(ho:PE X o to)(hbase:attributeBase o "bit_length" X.env (eval o X.env)=eval o X.env:=by rfl)(hline:(apos.endLine == cpos.line)=true:=by rfl) :
 PE X (.Call (.Attribute o "bit_length" apos) [] [] cpos) (λZ H Q=>to Z H λv H1=>∃i,v = .int i/\Q (.int (Builtin.Int.intBits i:Nat)) H1):=by
 intro pins s Z H Q I h;refine Call_method0 hbase hline (thn (ho pins s Z H _ I h) λu s1 z9=>?_);obtain ⟨v,H1,I1,rv,i,ex,q⟩:=z9;subst ex;obtain ⟨t,rfl⟩:=rv;exact ⟨"int", "int.bit_length",PySem.F.plainAttrs_int,PySem.F.slot_int_bit_length,PySem.F.type_int_bit_length,typeIs_int _ _ _,(λ_ e=>nomatch e),
  method0_gives PySem.F.slot_int_bit_length PySem.F.entry_int_bit_length (typeIs_int _ _ _) (PySem.F.args_int_bit_length_1 _) (PySem.AutoIntG2.int_bit_length_int_0 i t) ⟨.int (Builtin.Int.intBits i:Nat),H1,I1.tok _,⟨_,rfl⟩,q⟩⟩
def Ps:V->List V->Hp->VK->Prop:=λx vs H Q=>∃l xs y,x = .ref l/\vs=[.int 0,y]/\H l=some (.lst xs)/\xs.length < sizeLine/\Q .non (upd H l (.lst (y :: xs)))
theorem Qg:MtM X "list.insert" Ps:=by
 intro pins s Z H x vs v us Q I rx rv h;obtain ⟨l,xs,y,rfl,rfl,hH,hz,q⟩:=h
 cases rx
 cases rv with
 | cons r0 rv=>
 cases rv with
 | cons ru rv=>
 rename_i u _
 cases rv
 obtain ⟨t,rfl⟩:=r0;obtain ⟨z,its,n,r,hl,e⟩:=I.lstM hH;refine call_meets PySem.F.slot_list_insert ⟨_,e,rfl⟩ PySem.F.entry_list_insert (PySem.F.args_list_insert_3 _ _ _) (PySem.AutoListH.list_insert_list_int_val_1 l its.toArray n 0 t u (by decide) (by rw [List.size_toArray];lia)) ⟨e,?_⟩;refine ⟨.non,_,I.lset (its':=u :: its) hH e (by simp) (.cons ru r) ?_,rfl,q⟩;rw [List.length_cons];lia
end
end L2
namespace F2
open PySem L2 PySem.Spec
def JF:D->M D
 | .int i=>ret (.int (Builtin.Int.intBits i:Nat))
 | _=>fail
def HV (xs:List D):List D->Option (List D)
 | [.int i,d]=>if i=0/\xs.length < LIM then some (d :: xs) else none
 | _=>none
theorem OS {K:PySem.W.Frag}:L9 K Ps HV:=λ{c S H a vs us xs ds ys Q} s h r rs e k=>by
 unfold HV at e
 split at e
 ·next i d=>
  split at e
  ·next hl=>
   obtain ⟨rfl,hl⟩:=hl
   cases e
   cases rs with
   | cons r1 rs=>
   cases r1
   obtain ⟨v,rfl,rv⟩:=DS rs;exact ⟨a,vs,v,rfl,rfl,h,by rw [r.length];exact Nat.lt_of_lt_of_le hl B5,k _ (.cons rv r)⟩
  ·cases e
 ·cases e
section
variable {X:Cx}{pos:Pos}{e:Expr}{es:List Expr}
theorem Nc {o:Expr}{f:M D}{apos cpos:Pos}(ho:PE X o (RE X.K f))(hbase:attributeBase o "bit_length" X.env (eval o X.env)=eval o X.env:=by rfl)(hline:(apos.endLine == cpos.line)=true:=by rfl) :
 PE X (.Call (.Attribute o "bit_length" apos) [] [] cpos) (RE X.K (fUn f JF)):=
 Bs (Qr ho hbase hline) λZ H Q z9=>by
  obtain ⟨Oo,c,t,fi,r,t',eq,k⟩:=z9;obtain ⟨d,t1,e1,eq⟩:=Ak eq;refine ⟨Oo,c,t,fi,d,t1,e1,λx H1 c1 f1 s1 rx=>?_⟩;unfold JF at eq
  split at eq
  ·next i=>
   cases eq
   cases rx
   exact ⟨i,rfl,k _ H1 c1 f1 s1 (.int _)⟩
  ·cases eq
theorem Ml {μ:Cf->Hp->D->(V->Hp->Prop)->Prop}(i:Nat){x:Str}{g:M (List D)}{px apos cpos:Pos}(ha:PA X (e :: es) (RA X.K g))(hN:X.N[i]?=some x:=by rfl)(hv:Vis X.env.scope x:=by first | exact Or.inl rfl | exact Or.inr (Or.inl rfl) | exact Or.inr (Or.inr rfl))(hd:(x == ("__debug__" : Str))=false:=by decide)
 (hcd:(x == ("__classdict__" : Str))=false:=by decide) (hline:(apos.endLine == cpos.line)=true:=by rfl) (h1:BM e=false:=by rfl) (h2:B3 es=true:=by rfl) (h3:es.length < 20:=by decide)
 (hbase:attributeBase (.Name x px) "insert" X.env (eval (.Name x px) X.env)=eval (.Name x px) X.env:=by rfl) :
 PS X (.Expr (.Call (.Attribute (.Name x px) "insert" apos) (e :: es) [] cpos) pos) (RSg X.K μ (ownM i HV g)):=
 BT (LR (Mz PySem.F.plainAttrs_list PySem.F.slot_list_insert PySem.F.type_list_insert Qg (Fd hN hv hd hcd) ha hbase (Rt h1 h2 h3) hline (Bv h1) (Bz h2).1)) λ_ _ _ q=>RS.ownM OS q
end
section
variable {X:Cx}{b elt:Expr}{pos:Pos}
end
end F2
namespace L2
open PySem PySem.Spec PyProof.Rows
theorem Inv.turnedL {X:Cx}{pins:List (Addr×Obj)}{Z:St}{H:Hp}{s:Shared}{h':Heap}{t':Nat}(fp:List Addr)(I:Inv X pins Z H s)(hf:∀b∈fp,FpOk X pins H b)(k:∀b o,b∉fp->s.heap.get? b=some o->h'.get? b=some o):Inv X pins Z H { s with heap:=h',toks:=t' }:=by
 have nit:∀b u,H b=some u->b∉fp:=λb u e z=>by rw [(hf b z).1] at e;cases e
 refine I.step (g':=s.gens) (d':=s.drawn) (ch:=fp) (λb hb=>?_) (λb o _ _ hc e _=>k b o hc e) (λb o _ _ hc e _=>⟨o.slots,k b o hc e⟩) (λ_ _ _ _ n=>n)
  (λb o hc e=>⟨o,k b o hc e⟩) (λ_ _ e=>e) (λ_ _ _ e=>e) (λb ps e=>⟨#[],by rw [e];simp⟩) (λm hm=>?_) (λb u e=>?_) I.bare
 ·obtain ⟨_,h1,_,h3,h4,h5⟩:=hf b hb;exact ⟨h3,h1,h4,h5⟩
 ·obtain ⟨o,es,ep,ho,r⟩:=hm;exact ⟨o,es,ep,k _ o (λz=>(hf _ z).2.1 rfl) ho,r⟩
 ·refine (I.hok b u e).stay (λc v hc q=>k c v ?_ q) (λ_ q=>q) λ_ _ q=>q;rcases hc with z | z
  ·rw [z];exact nit b u e
  ·exact nit c _ z
end L2
namespace F2
open PySem L2 PySem.Spec
structure ItOk2 (K:PySem.W.Frag)(J:It)(c:Cf)(H:Hp)(ds:List D):Prop where
 go:∀c' H' (i:Nat),Ext c H c' H'->i < ds.length->J.go i H'
 yld:∀c' H' (i:Nat) x H'' d,Ext c H c' H'->ds[i]?=some d->J.yld i H' x H''->∃p vs es,x = .ref p/\H' p=none/\H''=upd H' p (.tup vs)/\d = .tup es/\Reps K c' H' vs es
 stop:∀c' H',Ext c H c' H'->J.stop ds.length H'
section
variable {X:Cx}{pos:Pos}{e:Expr}
end
end F2
namespace L2
open PySem PySem.Spec PyProof.Rows
section
variable {X:Cx}
end
end L2
namespace F2
open PySem L2 PySem.Spec
section
variable {X:Cx}{pos:Pos}{e:Expr}{es:List Expr}
end
end F2
namespace L2
open PySem PySem.Spec PyProof.Rows
section
variable {X:Cx}{e ek:Expr}{p2 pos:Pos}{te:TE}{tk:TO}
end
end L2
namespace F2
open PySem L2 PySem.Spec
section
variable {X:Cx}
end
end F2
namespace L2
open PySem PySem.Spec PyProof.Rows
section
variable {X:Cx}
end
end L2
namespace F2
open PySem L2 PySem.Spec
section
variable {X:Cx}{pos:Pos}
end
end F2
namespace L2
open PySem PySem.Spec PyProof.Rows
section
variable {X:Cx}
end
end L2
namespace F2
open PySem L2 PySem.Spec
end F2
namespace L2
open PySem PySem.Spec PyProof.Rows
section
variable {X:Cx}
end
section
variable {X:Cx}
end
section
variable {X:Cx}
end
end L2
namespace F2
open PySem L2 PySem.Spec
section
variable {X:Cx}{pos:Pos}{e:Expr}{es:List Expr}
end
end F2
namespace L2
open PySem PySem.Spec PyProof.Rows
section
variable {X:Cx}
end
end L2
namespace F2
open PySem L2 PySem.Spec
noncomputable def Mp:List (Key×D)->Option (List Int)
 | []=>some []
 | (.inl k,_) :: r=>(Mp r).map (k :: ·)
 | _=>none
section
variable {K:PySem.W.Frag}{c:Cf}{H:Hp}
end
section
variable {X:Cx}{pos:Pos}{e b:Expr}
end
end F2
namespace L2
open PySem PySem.Spec PyProof.Rows
noncomputable def tb (led:Bool)(pl:List Nat):SetTable:={ mask:=7,place:=pl.toArray,dummies:=#[],finger:=0,led:=led,moves:=0,plain:=true }
noncomputable def pls:Nat->List (List Nat)
 | 0=>[[]]
 | k + 1=>(pls k).flatMap λl=>(List.range 8).filterMap λj=>if l.all (· < j) then some (l++[j]) else none
section
variable {P:Program}{w:World}{A:Around}{E:Value->Shared->Prop}{s:Shared}
end
section
variable {P:Program}{w:World}{A:Around}{I:Addr}{fp wr:List Addr}{G:Array GenState->Array GenState->Prop}{n:Nat}{Pr:Nat->Value->Prop}{St:Nat->Shared->Prop}
end
section
variable {P:Program}{w:World}{A:Around}{E:Value->Shared->Prop}{s:Shared}
end
section
variable {prog:Program}{w:World}{A:Around}
end
section
variable {X:Cx}
end
end L2
namespace F2
open PySem L2 PySem.Spec PyProof.Rows
section
variable {X:Cx}{pos:Pos}{e:Expr}
end
end F2
namespace L2
open PySem PySem.Spec PyProof.Rows
variable {n:Nat}{R:Value->Shared->Prop}{z i1 t1 t2:Addr}{xs ys:Array Value}{x y:Value}
section
variable {P:Program}{w:World}{A:Around}{E:Value->Shared->Prop}{s:Shared}
theorem Fw {j t:Addr}{its:Array Value}{v:Value}(a:s.heap.IsTupleIter j t n)(b:s.heap.IsTuple t its)(c:its[n]?=some v)
 (k:∀g,g.IsTupleIter j t (n + 1)->Heap.SameBut j s.heap g->R v { s with heap:=g }):wpAny (model P w) A (Builtin.SmallTypes.nextOf (.ref j)) R E s:=by
 obtain ⟨q,hq,hqc,hqd⟩:=id a;obtain ⟨ot,hot,_,nt,hod⟩:=b;unfold Builtin.SmallTypes.nextOf;refine wpAny_bind (wpAny_callSpecial?_slot (name:=Str.ofString "__next__") a.typeIs F.slot_tuple_iterator_next (wpAny_call_entry F.slot_tuple_iterator_next a.typeIs F.entry_tuple_iterator_next ?_ (F.args_tuple_iterator_next_1 _)))
 change wpAny _ _ (field (.ref j) 0 >>= _) _ _ s
 refine wpAny_bind (wpAny_field hq hqd (x:=.ref t) rfl ?_)
 change wpAny _ _ (if (Value.ref t == Value.none)=true then _ else _) _ _ s
 rw [if_neg (show ¬((Value.ref t == Value.none)=true) from λq=>Bool.noConfusion q)]
 change wpAny _ _ (field (.ref j) 1 >>= _) _ _ s
 refine wpAny_bind (wpAny_field hq hqd (x:=.int n 0) rfl ?_)
 change wpAny _ _ (seqItems? (.ref t) >>= _) _ _ s
 refine wpAny_bind (wpAny_seqItems hot hod ?_);simp only [Int.toNat_natCast,c];refine wpAny_bind (wpAny_setField hq hqd (by simp) (wpAny_pure ⟨v,rfl,wpAny_pure (k _ ?_ (Heap.SameBut.update ..))⟩));exact ⟨_,Heap.get?_update_self _ hq (Obj.isFreed_of_fields (Obj.data_mapFields hqd _)),(Obj.cls_mapFields ..).trans hqc,by rw [Obj.data_mapFields hqd];simp [rawInt]⟩
theorem GH {j t:Addr}{its:Array Value}(hA:A.handled=none)(a:s.heap.IsTupleIter j t n)(b:s.heap.IsTuple t its)(c:its[n]?=none)
 (k:∀g e,Heap.ExtBut j s.heap g->(∃o,g.get? e=some o/\o.cls = .type "StopIteration")->E (.ref e) { s with heap:=g }):wpAny (model P w) A (Builtin.SmallTypes.nextOf (.ref j)) R E s:=by
 obtain ⟨q,hq,hqc,hqd⟩:=id a;obtain ⟨ot,hot,_,nt,hod⟩:=b;unfold Builtin.SmallTypes.nextOf;refine wpAny_bind (wpAny_callSpecial?_slot (name:=Str.ofString "__next__") a.typeIs F.slot_tuple_iterator_next (wpAny_call_entry F.slot_tuple_iterator_next a.typeIs F.entry_tuple_iterator_next ?_ (F.args_tuple_iterator_next_1 _)))
 change wpAny _ _ (field (.ref j) 0 >>= _) _ _ s
 refine wpAny_bind (wpAny_field hq hqd (x:=.ref t) rfl ?_)
 change wpAny _ _ (if (Value.ref t == Value.none)=true then _ else _) _ _ s
 rw [if_neg (show ¬((Value.ref t == Value.none)=true) from λq=>Bool.noConfusion q)]
 change wpAny _ _ (field (.ref j) 1 >>= _) _ _ s
 refine wpAny_bind (wpAny_field hq hqd (x:=.int n 0) rfl ?_)
 change wpAny _ _ (seqItems? (.ref t) >>= _) _ _ s
 refine wpAny_bind (wpAny_seqItems hot hod ?_);simp only [Int.toNat_natCast,c];refine wpAny_bind (wpAny_rule (wpAny_bind (wpAny_setField hq hqd (by simp) ?_)))
 change wpAny _ _ (newExc (.type "StopIteration") [] >>= _) _ _ _
 refine wpAny_bind ?_;simp only [newExc,newTuple];refine wpAny_bind (wpAny_newObj_type ?_ (by size_fits));refine wpAny_bind (m:=firstArgMember _ _) (wpAny_of_eq (a:=Value.none) (by first | rfl | (unfold firstArgMember;rfl)) ?_);refine wpAny_newObj_type ?_ (by size_fits);simp only [raiseNew];refine wpAny_bind (wpAny_handled ?_);first | rw [show A.in1.handled=none from hA] | rw [hA]
 refine wpAny_bind (wpAny_pure (wpAny_throw ?_));exact k _ _ (((Heap.SameBut.update ..).extBut.push _).push _) ⟨_,Heap.get?_push_size _ rfl,rfl⟩
structure ZT (h:Heap)(z TI TO i1 i2 t1 t2:Addr)(n:Nat):Prop where
 zz:IsZip h z TI TO .none
 ti:IsPair h TI (.ref i1) (.ref i2)
 ot:∃a b,IsPair h TO a b
 p1:h.IsTupleIter i1 t1 n
 p2:h.IsTupleIter i2 t2 n
theorem Q6 {TI TO i2:Addr}(D:ZipApart z TI TO i1 i2 t1 t2)(st:ZT s.heap z TI TO i1 i2 t1 t2 n)
 (c1:s.heap.IsTuple t1 xs) (c2:s.heap.IsTuple t2 ys) (e1:xs[n]?=some x) (e2:ys[n]?=some y)
 (k:∀g,IsZip g z TI TO (rawInt s.heap.objs.size)->IsPair g TI (.ref i1) (.ref i2)->(∃a b,IsPair g TO a b)->g.IsTupleIter i1 t1 (n + 1)->g.IsTupleIter i2 t2 (n + 1)->IsPair g s.heap.objs.size x y->(∀c o,c≠z->c≠TO->c≠i1->c≠i2->s.heap.get? c=some o->g.get? c=some o)->R (.ref s.heap.objs.size) { s with heap:=g }) :
 wpAny (model P w) A (Builtin.«zip.__next__» ⟨[.ref z],[]⟩) (λfin s'=>∃v,fin = .done (.ret v)/\R v s') E s:=by
 obtain ⟨hz,hI,⟨a,b,hO⟩,q1,q2⟩:=st
 change wpAny _ _ (field (.ref z) 2 >>= _) _ _ _
 refine wpAny_bind (wpAny_field hz rfl (x:=.bool false) rfl ?_);change wpAny _ _ (field (.ref z) 3 >>= _) _ _ _;refine wpAny_bind (wpAny_field hz rfl (x:=.ref TI) rfl ?_);refine wpAny_bind (wpAny_seqItems hI rfl ?_)
 change wpAny _ _ (Builtin.SmallTypes.ownedTupleIsFree (.ref z) >>= _) _ _ _
 refine wpAny_bind ?_;unfold Builtin.SmallTypes.ownedTupleIsFree;refine wpAny_bind (wpAny_field hz rfl (x:=.none) rfl (wpAny_pure ?_));simp only [if_true];refine wpAny_bind (wpAny_rule (wpAny_bind (wpAny_field hz rfl (x:=.ref TO) rfl ?_)));refine wpAny_bind (wpAny_setField_rec hz (by simp) λg1 z1 s1=>?_);replace z1:IsZip g1 z TI TO .ellipsis:=z1;refine wpAny_bind ?_;simp only [List.zipIdx_cons,List.zipIdx_nil,List.forIn_cons,List.forIn_nil];refine wpAny_bind (wpAny_bind (wpAny_onRaise ?_))
 change wpAny _ _ (Builtin.SmallTypes.nextOf (.ref i1) >>= _) _ _ _
 refine wpAny_bind (Fw (q1.extBut s1.extBut D.i1z) (c1.extBut s1.extBut D.l1z) e1 λg2 r1 s2=>wpAny_pure ?_);have o2:IsPair g2 TO a b:=s2.extBut _ _ D.TOi1 (s1.extBut _ _ D.TOz hO);refine wpAny_bind (wpAny_seqItems o2 rfl ?_);refine wpAny_bind (wpAny_updateSeq_pair o2 λg3 o3 s3=>?_);replace o3:IsPair g3 TO x b:=o3;refine wpAny_bind (wpAny_letGo (wpAny_pure ?_));refine wpAny_bind (wpAny_bind (wpAny_onRaise ?_))
 change wpAny _ _ (Builtin.SmallTypes.nextOf (.ref i2) >>= _) _ _ _
 refine wpAny_bind (Fw (((q2.extBut s1.extBut D.i2z).extBut s2.extBut D.i12.symm).extBut s3.extBut D.TOi2.symm) (((c2.extBut s1.extBut D.l2z).extBut s2.extBut D.l2i1).extBut s3.extBut D.l2TO) e2 λg4 r2 s4=>wpAny_pure ?_);have o4:IsPair g4 TO x b:=s4.extBut _ _ D.TOi2 o3;refine wpAny_bind (wpAny_seqItems o4 rfl ?_);refine wpAny_bind (wpAny_updateSeq_pair o4 λg5 o5 s5=>?_);replace o5:IsPair g5 TO x y:=o5;refine wpAny_bind (wpAny_letGo (wpAny_pure (wpAny_pure ?_)));refine wpAny_bind (wpAny_seqItems o5 rfl (wpAny_bind (wpAny_newTuple ?_)));have sz:g5.objs.size=s.heap.objs.size:=by rw [s5.1,s4.1,s3.1,s2.1,s1.1]
 have keep:∀c o,c≠z->c≠TO->c≠i1->c≠i2->s.heap.get? c=some o->g5.get? c=some o:=λc o a1 a2 a3 a4 e=>s5.extBut _ _ a2 (s4.extBut _ _ a4 (s3.extBut _ _ a2 (s2.extBut _ _ a3 (s1.extBut _ _ a1 e))));have z5:IsZip g5 z TI TO .ellipsis:=s5.extBut _ _ D.TOz.symm (s4.extBut _ _ D.i2z.symm (s3.extBut _ _ D.TOz.symm (s2.extBut _ _ D.i1z.symm z1)));have w1:g5.IsTupleIter i1 t1 (n + 1):=((r1.extBut s3.extBut D.TOi1.symm).extBut s4.extBut D.i12).extBut s5.extBut D.TOi1.symm;have w2:g5.IsTupleIter i2 t2 (n + 1):=r2.extBut s5.extBut D.TOi2.symm;have zl:z < g5.objs.size:=Heap.lt_size z5
 change wpAny _ _ (Builtin.SmallTypes.ownedTupleHandOut (.ref z) (.ref g5.objs.size) >>= _) _ _ _
 refine wpAny_bind ?_;unfold Builtin.SmallTypes.ownedTupleHandOut;have z6:IsZip (g5.push { cls:=.type "tuple",data:=.seq #[x,y] }) z TI TO .ellipsis:=Heap.get?_push_of_some _ z5;refine wpAny_bind (wpAny_setField_rec z6 (by simp) λg7 z7 s7=>?_);replace z7:IsZip g7 z TI TO (rawInt g5.objs.size):=z7;refine wpAny_setField_rec z7 (by simp) λg8 z8 s8=>?_;replace z8:IsZip g8 z TI TO (rawInt g5.objs.size):=z8;have up:∀c o,c≠z->g5.get? c=some o->g8.get? c=some o:=λc o a1 e=>s8.extBut _ _ a1 (s7.extBut _ _ a1 (Heap.get?_push_of_some _ e));have t8:IsPair g8 g5.objs.size x y:=s8.extBut _ _ (Nat.ne_of_gt zl) (s7.extBut _ _ (Nat.ne_of_gt zl) (Heap.get?_push_size _ rfl));rw [sz] at z8 t8;refine wpAny_pure ⟨_,rfl,?_⟩;change R (.ref g5.objs.size) _;rw [sz];exact k g8 z8 (up _ _ D.TIz (keep _ _ D.TIz D.TITO D.TIi1 D.TIi2 hI)) ⟨_,_,up _ _ D.TOz o5⟩ (let ⟨o,ho,r⟩:=w1;⟨o,up _ o D.i1z ho,r⟩) (let ⟨o,ho,r⟩:=w2;⟨o,up _ o D.i2z ho,r⟩) t8 λc o a1 a2 a3 a4 e=>up c o a1 (keep c o a1 a2 a3 a4 e)
theorem Th {TI TO i2:Addr}{R:Fin->Shared->Prop}(hA:A.handled=none)(D:ZipApart z TI TO i1 i2 t1 t2)(st:ZT s.heap z TI TO i1 i2 t1 t2 n)
 (c1:s.heap.IsTuple t1 xs) (c2:s.heap.IsTuple t2 ys) (en:xs[n]?=none\/ys[n]?=none)
 (k:∀g e,(∀c o,c≠z->c≠TO->c≠i1->c≠i2->s.heap.get? c=some o->g.get? c=some o)->(∃o,g.get? e=some o/\o.cls = .type "StopIteration")->E (.ref e) { s with heap:=g }) :
 wpAny (model P w) A (Builtin.«zip.__next__» ⟨[.ref z],[]⟩) R E s:=by
 obtain ⟨hz,hI,⟨a,b,hO⟩,q1,q2⟩:=st
 change wpAny _ _ (field (.ref z) 2 >>= _) _ _ _
 refine wpAny_bind (wpAny_field hz rfl (x:=.bool false) rfl ?_);change wpAny _ _ (field (.ref z) 3 >>= _) _ _ _;refine wpAny_bind (wpAny_field hz rfl (x:=.ref TI) rfl ?_);refine wpAny_bind (wpAny_seqItems hI rfl ?_)
 change wpAny _ _ (Builtin.SmallTypes.ownedTupleIsFree (.ref z) >>= _) _ _ _
 refine wpAny_bind ?_;unfold Builtin.SmallTypes.ownedTupleIsFree;refine wpAny_bind (wpAny_field hz rfl (x:=.none) rfl (wpAny_pure ?_));simp only [if_true];refine wpAny_bind (wpAny_rule (wpAny_bind (wpAny_field hz rfl (x:=.ref TO) rfl ?_)));refine wpAny_bind (wpAny_setField_rec hz (by simp) λg1 z1 s1=>?_);replace z1:IsZip g1 z TI TO .ellipsis:=z1;refine wpAny_bind ?_;simp only [List.zipIdx_cons,List.zipIdx_nil,List.forIn_cons,List.forIn_nil];refine wpAny_bind (wpAny_bind (wpAny_onRaise ?_))
 change wpAny _ _ (Builtin.SmallTypes.nextOf (.ref i1) >>= _) _ _ _
 cases e1:xs[n]? with
 | none=>
   refine wpAny_bind (GH hA (q1.extBut s1.extBut D.i1z) (c1.extBut s1.extBut D.l1z) e1 λg2 e s2 z9=>?_);obtain ⟨oe,he,hc⟩:=z9;have z2:IsZip g2 z TI TO .ellipsis:=s2 _ _ D.i1z.symm z1;have ne:e≠z:=λq=>by subst q;rw [z2] at he;cases he;simp at hc
   exact wpAny_setField_rec z2 (by simp) λg3 _ s3=>k g3 e (λc o a1 _ a3 _ q=>s3.extBut _ _ a1 (s2 _ _ a3 (s1.extBut _ _ a1 q))) ⟨oe,s3.extBut _ _ ne he,hc⟩
 | some x=>
   have e2:ys[n]?=none:=by
    rcases en with h | h
    ·rw [e1] at h;cases h
    ·exact h
   refine wpAny_bind (Fw (q1.extBut s1.extBut D.i1z) (c1.extBut s1.extBut D.l1z) e1 λg2 r1 s2=>wpAny_pure ?_);have o2:IsPair g2 TO a b:=s2.extBut _ _ D.TOi1 (s1.extBut _ _ D.TOz hO);refine wpAny_bind (wpAny_seqItems o2 rfl ?_);refine wpAny_bind (wpAny_updateSeq_pair o2 λg3 o3 s3=>?_);refine wpAny_bind (wpAny_letGo (wpAny_pure ?_));refine wpAny_bind (wpAny_bind (wpAny_onRaise ?_))
   change wpAny _ _ (Builtin.SmallTypes.nextOf (.ref i2) >>= _) _ _ _
   refine wpAny_bind (GH hA (((q2.extBut s1.extBut D.i2z).extBut s2.extBut D.i12.symm).extBut s3.extBut D.TOi2.symm) (((c2.extBut s1.extBut D.l2z).extBut s2.extBut D.l2i1).extBut s3.extBut D.l2TO) e2 λg4 e s4 z9=>?_);obtain ⟨oe,he,hc⟩:=z9;have z4:IsZip g4 z TI TO .ellipsis:=s4 _ _ D.i2z.symm (s3.extBut _ _ D.TOz.symm (s2.extBut _ _ D.i1z.symm z1));have ne:e≠z:=λq=>by subst q;rw [z4] at he;cases he;simp at hc
   exact wpAny_setField_rec z4 (by simp) λg5 _ s5=>k g5 e (λc o a1 a2 a3 a4 q=>s5.extBut _ _ a1 (s4 _ _ a4 (s3.extBut _ _ a2 (s2.extBut _ _ a3 (s1.extBut _ _ a1 q))))) ⟨oe,s5.extBut _ _ ne he,hc⟩
theorem Qk {TI TO i2:Addr}{R:Option Value->Shared->Prop}(D:ZipApart z TI TO i1 i2 t1 t2)(st:ZT s.heap z TI TO i1 i2 t1 t2 n)
 (c1:s.heap.IsTuple t1 xs) (c2:s.heap.IsTuple t2 ys) (e1:xs[n]?=some x) (e2:ys[n]?=some y)
 (k:∀g,IsZip g z TI TO (rawInt s.heap.objs.size)->IsPair g TI (.ref i1) (.ref i2)->(∃a b,IsPair g TO a b)->g.IsTupleIter i1 t1 (n + 1)->g.IsTupleIter i2 t2 (n + 1)->IsPair g s.heap.objs.size x y->(∀c o,c≠z->c≠TO->c≠i1->c≠i2->s.heap.get? c=some o->g.get? c=some o)->R (some (.ref s.heap.objs.size)) { s with heap:=g }):wpAny (model P w) A (pyNext (.ref z)) R E s:=by
 have ty:s.TypeIs (.ref z) "zip":=⟨_,st.zz,rfl⟩;unfold pyNext;exact wpAny_bind (wpAny_attempt (wpAny_callSpecial?_slot (name:=Str.ofString "__next__") ty F.slot_zip_next (wpAny_call_entry F.slot_zip_next ty F.entry_zip_next (Q6 D st c1 c2 e1 e2 λg b1 b2 b3 b4 b5 b6 b7=>wpAny_pure (k g b1 b2 b3 b4 b5 b6 b7)) (F.args_zip_next_1 _))))
theorem Rm {TI TO i2:Addr}{R:Option Value->Shared->Prop}(hA:A.handled=none)(D:ZipApart z TI TO i1 i2 t1 t2)(st:ZT s.heap z TI TO i1 i2 t1 t2 n)
 (c1:s.heap.IsTuple t1 xs) (c2:s.heap.IsTuple t2 ys) (en:xs[n]?=none\/ys[n]?=none)
 (k:∀g,(∀c o,c≠z->c≠TO->c≠i1->c≠i2->s.heap.get? c=some o->g.get? c=some o)->R none { s with heap:=g }):wpAny (model P w) A (pyNext (.ref z)) R E s:=by
 have ty:s.TypeIs (.ref z) "zip":=⟨_,st.zz,rfl⟩;unfold pyNext;refine wpAny_bind (wpAny_attempt (wpAny_callSpecial?_slot (name:=Str.ofString "__next__") ty F.slot_zip_next (wpAny_call_entry F.slot_zip_next ty F.entry_zip_next (Th hA D st c1 c2 en λg e hk ⟨o,ho,hc⟩=>?_) (F.args_zip_next_1 _))));exact wpAny_bind (wpAny_isInstance (T:="StopIteration") (b:=true) ⟨o,ho,hc⟩ isSubtype_stop (wpAny_pure (k _ hk)))
end
theorem Kz (a b:Value):Builtin.SmallTypes.newClass "zip" { pos:=[Value.type "zip",a,b] }=pure (Value.type "zip",[a,b]):=rfl
theorem Lg {M:Model}{A:Around}{E:Value->Shared->Prop}{s:Shared}{Q:List Value->Shared->Prop}(h:wpAny M A (pyIter x) (λi1 s1=>wpAny M A (pyIter y) (λi2 s2=>Q [i1,i2] s2) E s1) E s):wpAny M A (Builtin.SmallTypes.iterAll [x,y]) Q E s:=by
 unfold Builtin.SmallTypes.iterAll;simp only [List.forIn_cons,List.forIn_nil];refine wpAny_bind (wpAny_bind (wpAny_bind (wpAny_holding (L2.thn h λi1 s1 h1=>?_))));refine wpAny_pure ?_;refine wpAny_bind (wpAny_bind (wpAny_holding (L2.thn h1 λi2 s2 h2=>?_)));refine wpAny_pure ?_;refine wpAny_pure ?_;exact wpAny_pure h2
theorem Mv {M:Model}{A:Around}{E:Value->Shared->Prop}{s:Shared}{T:String}{vs:List Value}{Q:Value->Shared->Prop}(hz:sizeOk (.fields vs.toArray))(h:Q (.ref s.heap.objs.size) { s with heap:=s.heap.push { cls:=.type T,data:=.fields vs.toArray } }):wpAny M A (Builtin.SmallTypes.newRecord (.type T) vs) Q E s:=
 wpAny_newObj_type h hz
def itO (t:Addr):Obj:={ cls:=.type "tuple_iterator",data:=.fields #[.ref t,.int 0 0] }
def DR (a b:Value):Obj:={ cls:=.type "tuple",data:=.seq #[a,b] }
def Vz (TI TO:Addr):Obj:={ cls:=.type "zip",data:=.fields #[.none,.bool false,.bool false,.ref TI,.ref TO] }
def IE (h:Heap)(t1 t2:Addr):Heap:=
 ((((h.push (itO t1)).push (itO t2)).push (DR (.ref h.objs.size) (.ref (h.push (itO t1)).objs.size))).push (DR .none .none)).push (Vz ((h.push (itO t1)).push (itO t2)).objs.size (((h.push (itO t1)).push (itO t2)).push (DR (.ref h.objs.size) (.ref (h.push (itO t1)).objs.size))).objs.size)
theorem HZ (t1 t2:Addr)(xs ys:Array Value):Meets (Builtin.«zip.__new__» { pos:=[Value.type "zip",Value.ref t1,Value.ref t2] }) λA R s=>s.heap.IsTuple t1 xs/\s.heap.IsTuple t2 ys/\∀z,z=((((s.heap.push (itO t1)).push (itO t2)).push (DR (.ref s.heap.objs.size) (.ref (s.heap.push (itO t1)).objs.size))).push (DR .none .none)).objs.size->R (Except.ok (Flow.ret (Value.ref z))) { s with heap:=IE s.heap t1 t2 }:=by
 intro prog w A R s ⟨h1,h2,hR⟩;unfold Builtin.«zip.__new__»;rw [Kz];refine wpAny_bind (wpAny_pure ?_);refine wpAny_bind (Lg ?_);refine wpAny_pyIter_tuple h1 ?_;refine wpAny_pyIter_tuple (items:=ys) ?_ ?_
 ·obtain ⟨o,e,r⟩:=h2;exact ⟨o,Heap.get?_push_of_some _ e,r⟩
 refine wpAny_bind (wpAny_newTuple ?_);refine wpAny_bind (wpAny_newTuple ?_);refine wpAny_bind (Mv (by first | trivial | exact Nat.le_of_ble_eq_true rfl) ?_);refine wpAny_pure ?_;exact hR _ rfl
section
variable {P:Program}{w:World}{A:Around}{E:Value->Shared->Prop}{s:Shared}
theorem M4 (c1:s.heap.IsTuple t1 xs)(c2:s.heap.IsTuple t2 ys)
 (k:∀g,ZT g (s.heap.objs.size + 4) (s.heap.objs.size + 2) (s.heap.objs.size + 3) s.heap.objs.size (s.heap.objs.size + 1) t1 t2 0->(∀c o,s.heap.get? c=some o->g.get? c=some o)->R (.ref (s.heap.objs.size + 4)) { s with heap:=g }) :
 wpAny (model P w) A (call (.type "zip") [.ref t1,.ref t2]) R E s:=by
 refine callType_new F.called_zip (by decide) (F.typeCall_zip_2 _ _) (F.newCall_zip_2 _ _) (λo=>F.args_object_init_3 o _ _) F.entry_zip_new (HZ t1 t2 xs ys) ⟨c1,c2,λz ez=>?_⟩;have l1:(s.heap.push (itO t1)).objs.size=s.heap.objs.size + 1:=Heap.size_push ..;have l2:((s.heap.push (itO t1)).push (itO t2)).objs.size=s.heap.objs.size + 2:=by rw [Heap.size_push,l1]
 have l3:(((s.heap.push (itO t1)).push (itO t2)).push (DR (.ref s.heap.objs.size) (.ref (s.heap.push (itO t1)).objs.size))).objs.size=s.heap.objs.size + 3:=by rw [Heap.size_push,l2]
 have l4:((((s.heap.push (itO t1)).push (itO t2)).push (DR (.ref s.heap.objs.size) (.ref (s.heap.push (itO t1)).objs.size))).push (DR .none .none)).objs.size=s.heap.objs.size + 4:=by rw [Heap.size_push,l3]
 have g5:(IE s.heap t1 t2).get? ((((s.heap.push (itO t1)).push (itO t2)).push (DR (.ref s.heap.objs.size) (.ref (s.heap.push (itO t1)).objs.size))).push (DR .none .none)).objs.size=some _:=Heap.get?_push_size _ rfl;have g4:(IE s.heap t1 t2).get? (((s.heap.push (itO t1)).push (itO t2)).push (DR (.ref s.heap.objs.size) (.ref (s.heap.push (itO t1)).objs.size))).objs.size=some _:=Heap.get?_push_of_some _ (Heap.get?_push_size _ rfl);have g3:(IE s.heap t1 t2).get? ((s.heap.push (itO t1)).push (itO t2)).objs.size=some _:=Heap.get?_push_of_some _ (Heap.get?_push_of_some _ (Heap.get?_push_size _ rfl));have g2:(IE s.heap t1 t2).get? (s.heap.push (itO t1)).objs.size=some _:=Heap.get?_push_of_some _ (Heap.get?_push_of_some _ (Heap.get?_push_of_some _ (Heap.get?_push_size _ rfl)));have g1:(IE s.heap t1 t2).get? s.heap.objs.size=some _:=Heap.get?_push_of_some _ (Heap.get?_push_of_some _ (Heap.get?_push_of_some _ (Heap.get?_push_of_some _ (Heap.get?_push_size _ rfl))));rw [l4,l3,l2] at g5;rw [l3] at g4;rw [l2,l1] at g3;rw [l1] at g2;rw [l4] at ez;subst ez;exact ⟨⟨_,g5,rfl⟩,k _ ⟨g5,g3,⟨_,_,g4⟩,⟨_,g1,rfl,rfl⟩,⟨_,g2,rfl,rfl⟩⟩ λc o x=>Heap.get?_push_of_some _ (Heap.get?_push_of_some _ (Heap.get?_push_of_some _ (Heap.get?_push_of_some _ (Heap.get?_push_of_some _ x))))⟩
end
def Itz (K:PySem.W.Frag)(a b:Addr):It:=
 ⟨λi H=>∃xs ys x y,SqT K H a xs/\SqT K H b ys/\xs[i]?=some x/\ys[i]?=some y,λi H v H'=>∃p x y,v = .ref p/\H p=none/\(∀xs,SqT K H a xs->xs[i]?=some x)/\(∀ys,SqT K H b ys->ys[i]?=some y)/\H'=upd H p (.tup [x,y]),λi H=>∃xs ys,SqT K H a xs/\SqT K H b ys/\(xs.length<=i\/ys.length<=i)⟩
theorem O3 {P:Program}{w:World}{K:PySem.W.Frag}{elts:List Expr}{pos:Pos}(a b z TI TO i1 i2:Addr)(D:ZipApart z TI TO i1 i2 a b):Turn P w K (.Tuple elts n pos) (Itz K a b) [z,TI,TO,i1,i2] z (λi h=>ZT h z TI TO i1 i2 a b i) where
 mem:=by simp
 obj:=λi h st c hc=>by
  obtain ⟨h1,h2,⟨x,y,h3⟩,⟨o4,e4,_,d4⟩,⟨o5,e5,_,d5⟩⟩:=st;simp only [List.mem_cons,List.not_mem_nil,or_false] at hc;rcases hc with rfl | rfl | rfl | rfl | rfl
  ·exact ⟨_,h1,λv q=>by have q':Data.fields _=Data.cell v:=q;cases q'⟩
  ·exact ⟨_,h2,λv q=>by have q':Data.seq _=Data.cell v:=q;cases q'⟩
  ·exact ⟨_,h3,λv q=>by have q':Data.seq _=Data.cell v:=q;cases q'⟩
  ·exact ⟨o4,e4,λv q=>by rw [d4] at q;cases q⟩
  ·exact ⟨o5,e5,λv q=>by rw [d5] at q;cases q⟩
 keep:=λi h h' st k=>by
  obtain ⟨h1,h2,⟨x,y,h3⟩,⟨o4,e4,r4⟩,⟨o5,e5,r5⟩⟩:=st;exact ⟨k z (by simp) _ h1,k TI (by simp) _ h2,⟨x,y,k TO (by simp) _ h3⟩,⟨o4,k i1 (by simp) _ e4,r4⟩,⟨o5,k i2 (by simp) _ e5,r5⟩⟩
 item:=by
  intro X hP hw hK hc i pins s Z H E I hf st hg;subst hP hw hK;obtain ⟨xs,ys,x,y,hq1,hq2,hx,hy⟩:=hg;obtain ⟨its,rv,⟨o1,p1,pc1,n1,pd1⟩,hz⟩:=I.tuple hq1;obtain ⟨jts,rv',⟨o2,p2,pc2,n2,pd2⟩,hz'⟩:=I.tuple hq2;obtain ⟨u,hu,ru⟩:=rv.get hx;obtain ⟨v,hv,ru'⟩:=rv'.get hy;have lz:z < s.heap.objs.size:=Heap.lt_size st.zz;have lTI:TI < s.heap.objs.size:=Heap.lt_size st.ti;have lTO:TO < s.heap.objs.size:=by obtain ⟨_,_,h⟩:=st.ot;exact Heap.lt_size h
  have l1:i1 < s.heap.objs.size:=by obtain ⟨_,h,_⟩:=st.p1;exact Heap.lt_size h
  have l2:i2 < s.heap.objs.size:=by obtain ⟨_,h,_⟩:=st.p2;exact Heap.lt_size h
  refine Qk D st (xs:=its.toArray) (ys:=jts.toArray) ⟨o1,p1,pc1,n1,pd1⟩ ⟨o2,p2,pc2,n2,pd2⟩ (x:=u) (y:=v) (by simpa using hu) (by simpa using hv) λg b1 b2 b3 b4 b5 b6 b7=>?_;refine ⟨_,rfl,?_⟩;refine wpAny_letOwnedTupleGo_zip b1 λg2 b1' sb=>?_;have hfr:H s.heap.objs.size=none:=I.hok.fresh (Nat.le_refl _);have nz:∀c,c∈[z,TI,TO,i1,i2]->c≠s.heap.objs.size:=λc hc=>by
   simp only [List.mem_cons,List.not_mem_nil,or_false] at hc;rcases hc with rfl | rfl | rfl | rfl | rfl <;> exact Nat.ne_of_lt (by assumption)
  have hT:g2.get? s.heap.objs.size=some { cls:=.type "tuple",data:=.seq #[u,v] }:=(sb.2 _ (Nat.ne_of_gt lz)).trans b6;have I1:Inv X pins Z (upd H s.heap.objs.size (.tup [x,y])) { s with heap:=s.heap.push { cls:=.type "tuple",data:=.seq #[u,v] },toks:=s.toks }:=
   I.laid (t':=s.toks) (λb u e=>Heap.get?_push_of_some _ e) (Nat.le_refl _) ⟨by show 2<=sizeLine;decide,[u,v],.cons ru (.cons ru' .nil),⟨_,Heap.get?_push_size _ rfl,rfl,_,rfl⟩⟩
  have fp':∀b∈[z,TI,TO,i1,i2],FpOk X pins (upd H s.heap.objs.size (.tup [x,y])) b:=λb hb=>by
   obtain ⟨g0,g1⟩:=hf b hb;exact ⟨by rw [Ap (nz b hb)];exact g0,g1⟩
  refine ⟨.ref s.heap.objs.size,upd H s.heap.objs.size (.tup [x,y]),?_,rfl,⟨_,x,y,rfl,hfr,λzs hs=>by rw [I.tuple_inj hs hq1];exact hx,λzs hs=>by rw [I.tuple_inj hs hq2];exact hy,rfl⟩,?_,λb hb=>(fp' b hb).1⟩
  ·have I2:=Inv.turnedL (h':=g2) (t':=s.toks) [z,TI,TO,i1,i2] I1 fp' λb o hb eb=>(by
    simp only [List.mem_cons,List.not_mem_nil,or_false,not_or] at hb;rcases Heap.get?_push_cases eb with ⟨rfl,rfl⟩ | eb'
    ·exact hT
    ·exact (sb.2 b hb.1).trans (b7 b o hb.1 hb.2.2.1 hb.2.2.2.1 hb.2.2.2.2 eb'))
   exact I2
  ·obtain ⟨x3,y3,b3⟩:=b3;exact ⟨b1',(sb.2 TI D.TIz).trans b2,⟨x3,y3,(sb.2 TO D.TOz).trans b3⟩,let ⟨o,e,r⟩:=b4;⟨o,(sb.2 i1 D.i1z).trans e,r⟩,let ⟨o,e,r⟩:=b5;⟨o,(sb.2 i2 D.i2z).trans e,r⟩⟩
 done:=by
  intro X hP hw hK hc i pins s Z H E I hf st hg;subst hP hw hK;obtain ⟨xs,ys,hq1,hq2,hl⟩:=hg;obtain ⟨its,rv,⟨o1,p1,pc1,n1,pd1⟩,hz⟩:=I.tuple hq1;obtain ⟨jts,rv',⟨o2,p2,pc2,n2,pd2⟩,hz'⟩:=I.tuple hq2;have e1:=rv.length;have e2:=rv'.length;refine Rm (I.ok.hd hc) D st (xs:=its.toArray) (ys:=jts.toArray) ⟨o1,p1,pc1,n1,pd1⟩ ⟨o2,p2,pc2,n2,pd2⟩ (by simp only [List.getElem?_toArray,List.getElem?_eq_none_iff];lia) λg hk=>⟨rfl,?_⟩;exact Inv.turnedL [z,TI,TO,i1,i2] (t':=s.toks) I hf λb o hb e=>(by
   simp only [List.mem_cons,List.not_mem_nil,or_false,not_or] at hb;exact hk b o hb.1 hb.2.2.1 hb.2.2.2.1 hb.2.2.2.2 e)
 self:=λ_ _ _ _ _ st h=>wpAny_pyIter_zip st.zz h
theorem IH {a b:Nat}(ha:a < n)(hb:b < n):ZipApart (n + 4) (n + 2) (n + 3) n (n + 1) a b:=by constructor <;> (show @Ne Nat _ _;lia)
end L2
namespace F2
open PySem L2 PySem.Spec
noncomputable def B9:List D->List D->List D
 | x :: xs,y :: ys=>.tup [x,y] :: B9 xs ys
 | _,_=>[]
theorem Dy:∀(xs ys:List D),(B9 xs ys).length=min xs.length ys.length
 | [],ys=>by simp [B9]
 | x :: xs,[]=>by simp [B9]
 | x :: xs,y :: ys=>by rw [B9,List.length_cons,Dy xs ys,List.length_cons,List.length_cons,Nat.succ_min_succ]
theorem FH:∀(xs ys:List D) (j:Nat) (d:D),(B9 xs ys)[j]?=some d->∃x y,xs[j]?=some x/\ys[j]?=some y/\d = .tup [x,y]
 | [],ys,j,d,h=>by simp [B9] at h
 | x :: xs,[],j,d,h=>by simp [B9] at h
 | x :: xs,y :: ys,0,d,h=>by rw [B9] at h;exact ⟨x,y,rfl,rfl,by simpa using h.symm⟩
 | x :: xs,y :: ys,j + 1,d,h=>by rw [B9] at h;simpa using FH xs ys j d (by simpa using h)
theorem ItOk2.zip {K:PySem.W.Frag}{c:Cf}{H:Hp}{p q:Addr}{ds es:List D}(r:∀c' H',Ext c H c' H'->∃vs,SqT K H' p vs/\Reps K c' H' vs ds)(r':∀c' H',Ext c H c' H'->∃vs,SqT K H' q vs/\Reps K c' H' vs es):ItOk2 K (Itz K p q) c H (B9 ds es):=by
 refine ⟨λc' H' i ex hi=>?_,λc' H' i x H'' d ex hd hy=>?_,λc' H' ex=>?_⟩
 ·obtain ⟨vs,h1,h2⟩:=r c' H' ex;obtain ⟨ws,h3,h4⟩:=r' c' H' ex;rw [Dy] at hi;obtain ⟨v,e,_⟩:=h2.at (List.getElem?_eq_getElem (Nat.lt_of_lt_of_le hi (Nat.min_le_left _ _)));obtain ⟨w,e',_⟩:=h4.at (List.getElem?_eq_getElem (Nat.lt_of_lt_of_le hi (Nat.min_le_right _ _)));exact ⟨vs,ws,v,w,h1,h3,e,e'⟩
 ·obtain ⟨vs,h1,h2⟩:=r c' H' ex;obtain ⟨ws,h3,h4⟩:=r' c' H' ex;obtain ⟨a,v,w,rfl,hq,hs,hs',rfl⟩:=hy;obtain ⟨d1,d2,e1,e2,rfl⟩:=FH _ _ _ _ hd;obtain ⟨v',g1,rv⟩:=h2.at e1;obtain ⟨w',g2,rw'⟩:=h4.at e2;rw [hs vs h1] at g1;rw [hs' ws h3] at g2
  cases g1
  cases g2
  exact ⟨a,_,_,rfl,hq,rfl,rfl,.cons rv (.cons rw' .nil)⟩
 ·obtain ⟨vs,h1,h2⟩:=r c' H' ex;obtain ⟨ws,h3,h4⟩:=r' c' H' ex;refine ⟨vs,ws,h1,h3,?_⟩;rw [Dy,h2.length,h4.length];lia
section
variable {X:Cx}{e a b tg iter elt:Expr}{ifs:List Expr}{pos:Pos}{scope:Scope}{N':List Str}{n:Nat}{fr:List Nat}{f:M (List D)}{st:D->M Unit}{tst:M Bool}{el:M D}
end
def Eh:List D->M D
 | [.obj k,.ty m]=>λt=>match t.S[k]? with
   | some (.lst _)=>(FU "list" m).map λb=>(.bl b,t)
   | _=>none
 | ds=>CQ ds
theorem Dv {K:PySem.W.Frag}:Dc K (OJ K) Eh:=λ{Oo c t Z H xs ds r t' Q} f rx eq k=>by
 unfold Eh at eq
 split at eq
 ·next n m=>
  obtain ⟨v,u,rfl,rv,ru⟩:=Hz rx
  cases ru
  cases rv with
  | @obj a kk hk=>
  split at eq
  ·next ds es=>
   obtain ⟨b,e1,e2⟩:=Option.map_eq_some_iff.mp eq
   cases e2
   obtain ⟨us,g1,g2⟩:=f.s.obs _ a _ hk es;exact ⟨.ref a,m,.type "list",b,rfl,.lst g1,LM (d:=.lst []) rfl e1,k _ H c f .refl (.bl b)⟩
  ·cases eq
 ·exact CP f rx eq k
section
variable {X:Cx}{elt:Expr}{pos:Pos}{e:Expr}{es:List Expr}
end
end F2
namespace L2
open PySem PySem.Spec PyProof.Rows
section
variable {X:Cx}{pins:List (Addr×Obj)}{Z:St}{H:Hp}{s:Shared}{a:Addr}{kvs:List (Key×V)}{o:Obj}
end
section
variable {X:Cx}
end
section
variable {X:Cx}
end
end L2
namespace F2
open PySem L2 PySem.Spec SeqAt
def MU (K:PySem.W.Frag)(H:Hp)(v w:V):Prop:=∃c dv dw,Rep K c H v dv/\Rep K c H w dw/\eqN EQD dv dw=some true
def Q7 (K:PySem.W.Frag)(H:Hp)(v w:V):Prop:=MU K H v w\/∃a b us ts,v = .ref a/\w = .ref b/\H a=some (.dK us)/\H b=some (.dK ts)/\us.length=ts.length/\(∀kv∈us,∃n:Int,kv.1=Sum.inl n)/\(∀kv∈ts,∃n:Int,kv.1=Sum.inl n)/\∀kv∈us,∃z,O5 ts kv.1=some z/\MU K H kv.2 z
def VV (K:PySem.W.Frag)(b:Bool):R2:=λx y H Q=>∃p q vs ws,x = .ref p/\y = .ref q/\H p=some (.lst vs)/\H q=some (.lst ws)/\vs.length=ws.length/\(∀(j:Nat) v w,vs[j]?=some v->ws[j]?=some w->Q7 K H v w)/\Q (.bl b) H
def JU (S:List Ob)(x y:D):Bool:=CI (DT S x) && CI (DT S y) && decide (eqN EQD (DT S x) (DT S y)=some true)
def VH (S:List Ob)(x y:D):Bool:=match x,y with
 | .obj m,.obj n=>match S[m]?,S[n]? with
   | some (.dct kvs),some (.dct lvs)=>kvs.length == lvs.length && (Mp kvs).isSome && (Mp lvs).isSome && kvs.all (λkv=>match Tr lvs kv.1 with | some e=>JU S kv.2 e | none=>false)
   | _,_=>JU S x y
 | _,_=>JU S x y
end F2
namespace F2
open PySem L2 PySem.Spec
section
variable {X:Cx}{pos:Pos}
end
end F2
namespace L2
open PySem PySem.Spec PyProof.Rows
structure ZL (h:Heap)(z TI TO i1 i2 t1 t2:Addr)(n:Nat):Prop where
 zz:IsZip h z TI TO .none
 ti:IsPair h TI (.ref i1) (.ref i2)
 ot:∃a b,IsPair h TO a b
 p1:h.IsListIter i1 t1 n
 p2:h.IsListIter i2 t2 n
def L5 (K:PySem.W.Frag)(a b:Addr):It:=
 ⟨λi H=>∃xs ys x y,SqL K H a xs/\SqL K H b ys/\xs[i]?=some x/\ys[i]?=some y,λi H v H'=>∃p x y,v = .ref p/\H p=none/\(∀xs,SqL K H a xs->xs[i]?=some x)/\(∀ys,SqL K H b ys->ys[i]?=some y)/\H'=upd H p (.tup [x,y]),λi H=>∃xs ys,SqL K H a xs/\SqL K H b ys/\(xs.length<=i\/ys.length<=i)⟩
theorem NR {P:Program}{w:World}{K:PySem.W.Frag}{elts:List Expr}{n:Nat}{pos:Pos}(a b z TI TO i1 i2:Addr)(D:ZipApart z TI TO i1 i2 a b):Turn P w K (.Tuple elts n pos) (L5 K a b) [z,TI,TO,i1,i2] z (λi h=>ZL h z TI TO i1 i2 a b i) where
 mem:=by simp
 obj:=λi h st c hc=>by
  obtain ⟨h1,h2,⟨x,y,h3⟩,⟨o4,e4,_,d4⟩,⟨o5,e5,_,d5⟩⟩:=st;simp only [List.mem_cons,List.not_mem_nil,or_false] at hc;rcases hc with rfl | rfl | rfl | rfl | rfl
  ·exact ⟨_,h1,λv q=>by have q':Data.fields _=Data.cell v:=q;cases q'⟩
  ·exact ⟨_,h2,λv q=>by have q':Data.seq _=Data.cell v:=q;cases q'⟩
  ·exact ⟨_,h3,λv q=>by have q':Data.seq _=Data.cell v:=q;cases q'⟩
  ·exact ⟨o4,e4,λv q=>by rw [d4] at q;cases q⟩
  ·exact ⟨o5,e5,λv q=>by rw [d5] at q;cases q⟩
 keep:=λi h h' st k=>by
  obtain ⟨h1,h2,⟨x,y,h3⟩,⟨o4,e4,r4⟩,⟨o5,e5,r5⟩⟩:=st;exact ⟨k z (by simp) _ h1,k TI (by simp) _ h2,⟨x,y,k TO (by simp) _ h3⟩,⟨o4,k i1 (by simp) _ e4,r4⟩,⟨o5,k i2 (by simp) _ e5,r5⟩⟩
 item:=by
  intro X hP hw hK hc i pins s Z H E I hf st hg;subst hP hw hK;obtain ⟨xs,ys,x,y,hq1,hq2,hx,hy⟩:=hg;obtain ⟨its,rv,P1,hz⟩:=I.list hq1;obtain ⟨jts,rv',P2,hz'⟩:=I.list hq2;obtain ⟨u,hu,ru⟩:=rv.get hx;obtain ⟨v,hv,ru'⟩:=rv'.get hy;have lz:z < s.heap.objs.size:=Heap.lt_size st.zz;have lTI:TI < s.heap.objs.size:=Heap.lt_size st.ti;have lTO:TO < s.heap.objs.size:=by obtain ⟨_,_,h⟩:=st.ot;exact Heap.lt_size h
  have l1:i1 < s.heap.objs.size:=by obtain ⟨_,h,_⟩:=st.p1;exact Heap.lt_size h
  have l2:i2 < s.heap.objs.size:=by obtain ⟨_,h,_⟩:=st.p2;exact Heap.lt_size h
  obtain ⟨xO,yO,hO⟩:=st.ot;refine wpAny_pyNext_zip_item D st.zz st.ti hO st.p1 st.p2 (xs:=its.toArray) (ys:=jts.toArray) P1.isList P2.isList (x:=u) (y:=v) (by simpa using hu) (by simpa using hv) λg b1 b3' b4 b5 b6 _ b7=>?_;have b2:IsPair g TI (.ref i1) (.ref i2):=b7 _ _ D.TIz D.TITO D.TIi1 D.TIi2 st.ti;have b3:∃a b,IsPair g TO a b:=⟨_,_,b3'⟩;refine ⟨_,rfl,?_⟩;refine wpAny_letOwnedTupleGo_zip b1 λg2 b1' sb=>?_;have hfr:H s.heap.objs.size=none:=I.hok.fresh (Nat.le_refl _);have nz:∀c,c∈[z,TI,TO,i1,i2]->c≠s.heap.objs.size:=λc hc=>by
   simp only [List.mem_cons,List.not_mem_nil,or_false] at hc;rcases hc with rfl | rfl | rfl | rfl | rfl <;> exact Nat.ne_of_lt (by assumption)
  have hT:g2.get? s.heap.objs.size=some { cls:=.type "tuple",data:=.seq #[u,v] }:=(sb.2 _ (Nat.ne_of_gt lz)).trans b6;have I1:Inv X pins Z (upd H s.heap.objs.size (.tup [x,y])) { s with heap:=s.heap.push { cls:=.type "tuple",data:=.seq #[u,v] },toks:=s.toks }:=
   I.laid (t':=s.toks) (λb u e=>Heap.get?_push_of_some _ e) (Nat.le_refl _) ⟨by show 2<=sizeLine;decide,[u,v],.cons ru (.cons ru' .nil),⟨_,Heap.get?_push_size _ rfl,rfl,_,rfl⟩⟩
  have fp':∀b∈[z,TI,TO,i1,i2],FpOk X pins (upd H s.heap.objs.size (.tup [x,y])) b:=λb hb=>by
   obtain ⟨g0,g1⟩:=hf b hb;exact ⟨by rw [Ap (nz b hb)];exact g0,g1⟩
  refine ⟨.ref s.heap.objs.size,upd H s.heap.objs.size (.tup [x,y]),?_,rfl,⟨_,x,y,rfl,hfr,λzs hs=>by rw [I.list_inj hs hq1];exact hx,λzs hs=>by rw [I.list_inj hs hq2];exact hy,rfl⟩,?_,λb hb=>(fp' b hb).1⟩
  ·have I2:=Inv.turnedL (h':=g2) (t':=s.toks) [z,TI,TO,i1,i2] I1 fp' λb o hb eb=>(by
    simp only [List.mem_cons,List.not_mem_nil,or_false,not_or] at hb;rcases Heap.get?_push_cases eb with ⟨rfl,rfl⟩ | eb'
    ·exact hT
    ·exact (sb.2 b hb.1).trans (b7 b o hb.1 hb.2.2.1 hb.2.2.2.1 hb.2.2.2.2 eb'))
   exact I2
  ·obtain ⟨x3,y3,b3⟩:=b3;exact ⟨b1',(sb.2 TI D.TIz).trans b2,⟨x3,y3,(sb.2 TO D.TOz).trans b3⟩,let ⟨o,e,r⟩:=b4;⟨o,(sb.2 i1 D.i1z).trans e,r⟩,let ⟨o,e,r⟩:=b5;⟨o,(sb.2 i2 D.i2z).trans e,r⟩⟩
 done:=by
  intro X hP hw hK hc i pins s Z H E I hf st hg;subst hP hw hK;obtain ⟨xs,ys,hq1,hq2,hl⟩:=hg;obtain ⟨its,rv,P1,hz⟩:=I.list hq1;obtain ⟨jts,rv',P2,hz'⟩:=I.list hq2;have e1:=rv.length;have e2:=rv'.length;obtain ⟨xO,yO,hO⟩:=st.ot;refine wpAny_pyNext_zip_end (I.ok.hd hc) D st.zz st.ti hO st.p1 st.p2 (xs:=its.toArray) (ys:=jts.toArray) P1.isList P2.isList (by simp only [List.getElem?_toArray,List.getElem?_eq_none_iff];lia) λg hk=>⟨rfl,?_⟩;exact Inv.turnedL [z,TI,TO,i1,i2] (t':=s.toks) I hf λb o hb e=>(by
   simp only [List.mem_cons,List.not_mem_nil,or_false,not_or] at hb;exact hk b o hb.1 hb.2.2.1 hb.2.2.2.1 hb.2.2.2.2 e)
 self:=λ_ _ _ _ _ st h=>wpAny_pyIter_zip st.zz h
end L2
namespace F2
open PySem L2 PySem.Spec
theorem ItOk2.zipl {K:PySem.W.Frag}{c:Cf}{H:Hp}{p q:Addr}{ds es:List D}(r:∀c' H',Ext c H c' H'->∃vs,SqL K H' p vs/\Reps K c' H' vs ds)(r':∀c' H',Ext c H c' H'->∃vs,SqL K H' q vs/\Reps K c' H' vs es):ItOk2 K (L5 K p q) c H (B9 ds es):=by
 refine ⟨λc' H' i ex hi=>?_,λc' H' i x H'' d ex hd hy=>?_,λc' H' ex=>?_⟩
 ·obtain ⟨vs,h1,h2⟩:=r c' H' ex;obtain ⟨ws,h3,h4⟩:=r' c' H' ex;rw [Dy] at hi;obtain ⟨v,e,_⟩:=h2.at (List.getElem?_eq_getElem (Nat.lt_of_lt_of_le hi (Nat.min_le_left _ _)));obtain ⟨w,e',_⟩:=h4.at (List.getElem?_eq_getElem (Nat.lt_of_lt_of_le hi (Nat.min_le_right _ _)));exact ⟨vs,ws,v,w,h1,h3,e,e'⟩
 ·obtain ⟨vs,h1,h2⟩:=r c' H' ex;obtain ⟨ws,h3,h4⟩:=r' c' H' ex;obtain ⟨a,v,w,rfl,hq,hs,hs',rfl⟩:=hy;obtain ⟨d1,d2,e1,e2,rfl⟩:=FH _ _ _ _ hd;obtain ⟨v',g1,rv⟩:=h2.at e1;obtain ⟨w',g2,rw'⟩:=h4.at e2;rw [hs vs h1] at g1;rw [hs' ws h3] at g2
  cases g1
  cases g2
  exact ⟨a,_,_,rfl,hq,rfl,rfl,.cons rv (.cons rw' .nil)⟩
 ·obtain ⟨vs,h1,h2⟩:=r c' H' ex;obtain ⟨ws,h3,h4⟩:=r' c' H' ex;refine ⟨vs,ws,h1,h3,?_⟩;rw [Dy,h2.length,h4.length];lia
section
variable {X:Cx}{a b:Expr}{pos:Pos}
end
end F2
namespace L2
open PySem PySem.Spec PyProof.Rows PySem.W
section
variable {prog:Program}{w:World}{A:Around}{h:Heap}{g:Array GenState}{d:Drawn}{t:Nat}{os:OsState}{R:Result->Shared->Prop}
variable {nm q:Str}{C N fI:Addr}{bs bm bmB:List Value}{hdct:Bool}{sn:List Str}{sub:List Value}{ab:Bool}{col:Option Bool}{dd:Option Addr}{k0 k1 k2 k3 k5:Option Value}{B newId initId:String}{mN:Str->Option Value}
abbrev excObj (C tp:Addr):Obj:={ cls:=.ref C,data:=.fields #[.ref tp,.none,.none,.none,.bool false,.none] }
abbrev DQ (h:Heap)(C:Addr)(us:List Value):Heap:=(h.push { cls:=.type "tuple",data:=.seq us.toArray }).push (excObj C h.objs.size)
theorem Os (F:ExcBaseFacts B newId initId bmB)(T:OwnTail h bmB bm){us:List Value}(hC:h.get? C=some (excClassObj nm q C N bs bm hdct sn sub ab col dd k0 k1 k2 k3 k5 newId))(hn:h.Ns N mN)(hni:mN "__init__" = some (.ref fI))
 (hb:Looks (model prog w) h (bindSpecial (.ref fI) (.ref (h.objs.size + 1))) (.ref fI,[.ref (h.objs.size + 1)])) (hus:us.length<=sizeLine)
 (hq:codeAny (model prog w) (A.under (.builtin "type.__call__" ⟨.ref C :: us,[]⟩)) (.call (.ref fI) ⟨.ref (h.objs.size + 1) :: us,[]⟩) (InitBack (h.objs.size + 1) R) ⟨DQ h C us,g,d,t,os⟩) :
 codeAny (model prog w) A (.call (.ref C) ⟨us,[]⟩) R ⟨h,g,d,t,os⟩:=by
 have c1:=tc_lookup;have c2:=tc_bind (.ref C);have ty:(⟨h,g,d,t,os⟩:Shared).TypeIs (.ref C) "type":=⟨_,hC,rfl⟩;refine codeAny_of_tree ?_;show wpAny _ _ (callAny (.ref C) _) _ _ _
 repeat (any_goals (first
  | assumption
  | with_reducible refine wpAny_loadPart_at hC ?_
  | wp_step))
 refine ⟨rfl,codeAny_call_builtin_at (Code.quiet_builtin _ (by decide +kernel)) entry_typeCall (wpAny_check_type_call_sub hC ?_)⟩
 repeat (first
  | with_reducible refine wpAny_loadPart_at hC ?_
  | with_reducible refine wpAny_madeBy_exc hC ?_
  | wp_step)
 refine codeAny_call_builtin_code (Code.quiet_builtin _ F.quiet) (wpAny_check_new_subT F T hC (codeAny_exc_new_subT F T hC ?_ hus))
 change wpAny _ _ _ _ _ (Shared.mk (DQ h C us) g d t os)
 have kp:∀b o,h.get? b=some o->(DQ h C us).get? b=some o:=λb o e=>Heap.get?_push_of_some _ (Heap.get?_push_of_some _ e);have he:(DQ h C us).get? (h.objs.size + 1)=some { cls:=.ref C,data:=.fields #[.ref h.objs.size,.none,.none,.none,.bool false,.none] }:=by heap_get
 have n1:(DQ h C us).Ns N mN:=hn.keeps kp;have cC:(Value.ref C :: bm).contains (.ref C)=true:=by simp
 unfold isInstance
 repeat (first
  | with_reducible refine wpAny_loadPart_at he ?_
  | (with_reducible refine wpAny_isSubtype_exc (kp _ _ hC) ?_;rw [cC])
  | wp_step)
 show wpAny _ _ (typeLookup (.ref C) _) _ _ _;refine wpAny_typeLookup_tail (kp _ _ hC) n1 (T.keeps kp) F.mroIs F.init.lookup ?_;rw [hni];refine wpAny_holding (wpAny_bind ((hb.keeps kp).at ?_));refine wpAny_bind (wpAny_call (codeAny_mono hq λr s' z=>?_))
 cases r with
 | error e=>exact z
 | ok f=>
   cases f with
   | ret v=>
     obtain ⟨rfl,z⟩:=z;exact wpAny_pure (wpAny_pure z)
   | _=>exact z.elim
end
end L2
namespace L2
open PySem PySem.Spec PyProof.Rows PySem.W PySem.Builtin PySem.Builtin.ObjectAttr
theorem NG (self:Value):refuseLoop self "__setattr__" [.type "ValueError",.type "Exception",.type "BaseException",.type "object"]=pure ():=by
 kernel_rfl
abbrev ES (C P:Addr):List Value:=[.ref C,.ref P,.type "ValueError",.type "Exception",.type "BaseException",.type "object"]
theorem Hy (self:Value)(C P:Addr):refuseLoop self "__setattr__" (ES C P)=pure ():=by
 rw [ES,refuseLoop_ref,refuseLoop_ref];exact NG self
section
variable {prog:Program}{w:World}{A:Around}{s:Shared}{K:PySem.W.Frag}{x C P tp:Addr}{R:Result->Shared->Prop}{name:Str}{v:Value}{tk:Tok}{cd:ClassData}
theorem Qq (X:K.In s.heap)(hx:s.heap.get? x=some (excObj C tp))(hc:clsIn K C=some cd)(hmr:cd.mro=ES C P)(ha:findIn K (.ref C) name=some none)
 (h:wpAny (model prog w) A.in1 (storeInOwnDict (.ref x) (.ref C) (.str name tk) name v false) (λfin s'=>match fin with | .done f=>R (.ok f) s' | .again c'=>c'.quiet=true/\codeAny (model prog w) A c' R s') (λe s'=>R (.error e) s') s) :
 codeAny (model prog w) A (.call (.builtin "object.__setattr__") ⟨[.ref x,.str name tk,v],[]⟩) R s:=by
 have SF:=PySem.F.store_object;have I:InstAt s.heap x (excObj C tp) C none:=⟨hx,rfl,rfl,trivial⟩;have ob:Looks (model prog w) s.heap (isInstance (.ref x) (.type "object")) true:=I.type.andThen (looks_mroIn X (by unfold mroIn;rw [hc,Option.bind_some,hmr];rfl));refine codeAny_call_builtin SF.slot.plain SF.entry (@check_slot (model prog w) _ _ s "object.__setattr__" "object" "__setattr__" (.ref x) [.str name tk,v] [] _ SF.kind SF.split ob (SF.args (.ref x) (.str name tk) v) ?_);have mr:Looks (model prog w) s.heap (mroOf (.ref C)) (ES C P):=by rw [<-hmr];exact (looks_clsIn X hc).andThen .now
 rw [osa_eq,refuse_eq];refine wpAny_bind (wpAny_bind (I.type.here (wpAny_bind (mr.here ?_))));rw [Hy];refine wpAny_pure (wpAny_bind (I.type.here (wpAny_bind ((looks_findIn X ha).here ?_))));exact wpAny_bind (wpAny_pure h)
theorem QO {E:Value->Shared->Prop}{Q:Unit->Shared->Prop}(X:K.In s.heap)(hx:s.heap.get? x=some (excObj C tp))(hs:findIn K (.ref C) "__setattr__" = some (some (.builtin "object.__setattr__")))(hc:clsIn K C=some cd)(hmr:cd.mro=ES C P)(hd:cd.hasDict=true)(ha:findIn K (.ref C) name=some none)
 (h:∀h',(∀b o,b≠x->s.heap.get? b=some o->h'.get? b=some o)->h'.get? x=some { excObj C tp with dict:=some s.heap.objs.size }->h'.Ns1 s.heap.objs.size (λy=>if y=name then some v else none)->Q () { s with heap:=h',toks:=s.toks + 2 }) :
 wpAny (model prog w) A (setAttr (.ref x) name v) Q E s:=by
 have I:InstAt s.heap x (excObj C tp) C none:=⟨hx,rfl,rfl,trivial⟩;refine set_plain X I hs (Qq (s:={ s with toks:=s.toks + 1 }) X hx hc hmr ha ?_);refine wpAny_bind (wpAny_pure (wpAny_bind (wpAny_bind (wpAny_loadPart (s:={ s with toks:=s.toks + 1 }) hx (wpAny_bind (Looks.here (s:={ s with toks:=s.toks + 1 }) (looks_clsIn X hc) ?_))))));rw [hd,if_neg (by decide)];show wpAny _ _ (alloc _ >>= λdx=>update x _ >>= λ_=>pure (some dx)) _ _ _;have hx1:(s.heap.push emptyDict).get? x=some (excObj C tp):=Heap.get?_push_of_some _ hx;have hne:s.heap.objs.size≠x:=Nat.ne_of_gt (Heap.lt_size hx);refine wpAny_bind (wpAny_alloc (s:={ s with toks:=s.toks + 1 }) (wpAny_bind (wpAny_update hx1 (wpAny_pure ?_))));have hx2:((s.heap.push emptyDict).update x λo=>{ o with dict:=some s.heap.objs.size }).get? x=some { excObj C tp with dict:=some s.heap.objs.size }:=Heap.get?_update_self _ hx1 rfl;have hk:∀b o,b≠x->s.heap.get? b=some o->((s.heap.push emptyDict).update x λo=>{ o with dict:=some s.heap.objs.size }).get? b=some o:=λb o hb e=>(Heap.get?_update_other _ _ (Ne.symm hb)).trans (Heap.get?_push_of_some _ e);have hdx:((s.heap.push emptyDict).update x λo=>{ o with dict:=some s.heap.objs.size }).get? s.heap.objs.size=some emptyDict:=(Heap.get?_update_other _ _ (Ne.symm hne)).trans (Heap.get?_push_size _ rfl);have n1:((s.heap.push emptyDict).update x λo=>{ o with dict:=some s.heap.objs.size }).Ns1 s.heap.objs.size λ_=>none:=⟨_,#[],_,hdx,rfl,(λe he=>by simp at he),(by simp [UniqKeys]),λ_=>rfl⟩;refine wpAny_bind (wpAny_pure (wpAny_bind ?_));refine wpAny_nsSet1 n1 λh' n2 sb=>?_;obtain ⟨oD,esD,epD,hoD,hdD,hcD⟩:=n2.count (PySem.Within.cons name v (ns:=[]) (λy u=>absurd rfl u));refine wpAny_bind (wpAny_lookBehind hoD (by rw [hdD];exact pastItsLine_dict (Nat.le_trans hcD (by show 1<=_;decide))) ?_);exact wpAny_pure (h h' (λb o hb e=>by
  by_cases hb2:b=s.heap.objs.size
  ·subst hb2;exact absurd (Heap.lt_size e) (Nat.lt_irrefl _)
  ·exact (sb.2 b hb2).trans (hk b o hb e)) ((sb.2 x (Ne.symm hne)).trans hx2) n2)
end
end L2
namespace L2
open PySem PySem.Spec PyProof.Rows PySem.W
variable {qx:Bool}
def XRec (qx:Bool)(h:Heap)(x C:Addr)(dx:Option Addr)(tb:Value):Prop:=∃(o:Obj) (vs:Array Value),h.get? x=some o/\o.cls = .ref C/\o.dict=dx/\o.data = .fields vs/\vs[1]?=some tb/\(qx=true->vs[2]?=some .none/\4 < vs.size)
theorem Rl {qx:Bool}{vs:Array Value}{v:Value}(h:qx=true->vs[2]?=some .none/\4 < vs.size):qx=true->(vs.setIfInBounds 1 v)[2]?=some .none/\4 < (vs.setIfInBounds 1 v).size:=λz=>by
 rw [Array.getElem?_setIfInBounds_ne (by decide),Array.size_setIfInBounds];exact h z
theorem XRec.to {qx:Bool}{h:Heap}{x C:Addr}{dx:Option Addr}{tb:Value}(r:XRec true h x C dx tb):XRec qx h x C dx tb:=by
 obtain ⟨o,vs,h1,h2,h3,h4,h5,h6⟩:=r;exact ⟨o,vs,h1,h2,h3,h4,h5,λ_=>h6 rfl⟩
def XTb (h:Heap)(T:Addr):Prop:=∃(o:Obj) (ts:Array Value),h.get? T=some o/\o.data = .fields ts/\ts[3]?=some .none
structure XKeep (fs ch:List Addr)(h h':Heap):Prop where
 keep:∀b o,b∉ch->b∉fs->h.get? b=some o->h'.get? b=some o
 slot:∀b o,b∉ch->h.get? b=some o->∃sl,h'.get? b=some { o with slots:=sl }
section
variable {M:Model}{A:Around}{E:Value->Shared->Prop}{s:Shared}{env:Env}{outer:List Env}{base:Heap}{L x C:Addr}{dx:Option Addr}{tb:Value}{Q:Unit->Shared->Prop}
theorem Ky {o:Obj}{vs:Array Value}(hd:o.data = .fields vs)(f:Array Value->Array Value):(o.mapFields f).data = .fields (f vs)/\(o.mapFields f).cls=o.cls/\(o.mapFields f).dict=o.dict:=by
 obtain ⟨c,d,dt,sl⟩:=o
 cases hd
 exact ⟨rfl,rfl,rfl⟩
end
end L2
namespace L2
open PySem PySem.Spec PyProof.Rows PySem.W
variable {qx:Bool}
abbrev VE:List Value:=[.type "ValueError",.type "Exception",.type "BaseException",.type "object"]
structure XCl (K:PySem.W.Frag)(C:Addr)(bm:List Value):Prop where
 ex:∃cd dd k0 k1 k2 k3 k5,K.lookup C=some { cls:=.type "type",dict:=dd,data:=.cls cd,slots:=#[k0,k1,k2,k3,some (.builtin "ValueError.__new__"),k5] }/\cd.mro = .ref C :: bm/\cd.hasDel=false/\cd.hasDict=true/\nsOkIn K cd.ns=true
 tl:tailIn K VE bm=true
noncomputable def JM (K:PySem.W.Frag)(C:Addr)(bm:List Value):Bool:=tailIn K VE bm && match K.lookup C with
 | some ⟨.type "type",_,.cls cd,sl⟩=>(match sl.toList with
   | [_,_,_,_,some (.builtin n),_]=>n == "ValueError.__new__" && cd.mro == .ref C :: bm && !cd.hasDel && cd.hasDict && nsOkIn K cd.ns
   | _=>false)
 | _=>false
variable {K:PySem.W.Frag}{C:Addr}{bm:List Value}
theorem XCl.of_in (q:JM K C bm=true):XCl K C bm:=by
 unfold JM at q;rw [Bool.and_eq_true] at q;refine ⟨?_,q.1⟩;have q:=q.2
 split at q
 ·rename_i dd cd sl ho
  split at q
  ·rename_i k0 k1 k2 k3 n k5 hs;simp only [Bool.and_eq_true,beq_iff_eq,Bool.not_eq_true'] at q;obtain ⟨⟨⟨⟨rfl,h1⟩,h2⟩,h3⟩,h4⟩:=q;have hsl:sl=#[k0,k1,k2,k3,some (.builtin "ValueError.__new__"),k5]:=by
    cases sl
    exact congrArg Array.mk hs
   exact ⟨cd,dd,k0,k1,k2,k3,k5,by rw [ho,hsl],h1,h2,h3,h4⟩
  ·cases q
 ·cases q
theorem XCl.obj {K:PySem.W.Frag}{C:Addr}{bm:List Value}{h:Heap}(c:XCl K C bm)(X:K.In h):∃nm q N bs sn sub ab col dd k0 k1 k2 k3 k5,h.get? C=some (excClassObj nm q C N bs bm true sn sub ab col dd k0 k1 k2 k3 k5 "ValueError.__new__")/\h.Ns N (h.nsMap N):=by
 obtain ⟨⟨nm,bs,mro,ns,qn,hd,sn,sub,ab,col,del⟩,dd,k0,k1,k2,k3,k5,h1,h2,h3,h4,h5⟩:=c.ex;dsimp only at h2 h3 h4 h5;subst h2 h3 h4;exact ⟨nm,qn,ns,bs,sn,sub,ab,col,dd,k0,k1,k2,k3,k5,X _ _ h1,.of_isNs (isNs_of_in X h5)⟩
variable {h:Heap}
theorem XCl.tail (c:XCl K C bm)(X:K.In h):OwnTail h VE bm:=tail_of_in X c.tl
theorem XCl.has (c:XCl K C bm)(X:K.In h):(Value.ref C :: bm).contains (.type "BaseException")=true:=by
 rw [List.contains_cons,(c.tail X).hasType (b:=true) (by decide +kernel),Bool.or_true]
section
variable {M:Model}{A:Around}{E:Value->Shared->Prop}{env:Env}{K:PySem.W.Frag}{C:Addr}{bm:List Value}{s:Shared}
theorem OL {t:Sem Value}{Q:Flow->Shared->Prop}(c:XCl K C bm)(hh:A.handled=none)
 (h:wpAny M A t (λv s1=>∃x dx,v = .ref x/\K.In s1.heap/\XRec qx s1.heap x C dx .none/\E v s1) E s):wpAny M A (raiseStmt env (some t) none) Q E s:=by
 unfold raiseStmt;refine wpAny_bind (wpAny_mono h (λv s1 q=>?_) λ_ _ z=>z);obtain ⟨x,dx,rfl,X,⟨o,vs,hx,hc,hd,hdt,h1,_⟩,hE⟩:=q;obtain ⟨nm,q,N,bs,sn,sub,ab,col,dd,k0,k1,k2,k3,k5,hC,_⟩:=c.obj X;have hb:=c.has X;obtain ⟨hp,g,d,tk,os⟩:=s1
 repeat (first
  | (with_reducible refine wpAny_loadPart_at hx ?_;rw [hc])
  | with_reducible refine wpAny_loadPart_at hC ?_
  | (with_reducible refine wpAny_isSubtype_exc hC ?_;rw [hb])
  | with_reducible refine wpAny_field hx hdt h1 ?_
  | wp_step)
 exact wpAny_raiseNew_none hh hE
end
def CX1 (qx:Bool)(P:Program)(w:World):CXT:=λouter H s E e s'=>∃(x C:Addr) (dx:Option Addr) (T:Addr) (H':Hp),e = .ref x/\s'.os=s.os/\AllBare s'.gens/\Un (frs outer) [] H H' s.heap s'.heap/\HOk P w H' s'.heap/\
 H' x=some (.ext (F2.XIs qx x C dx))/\s.heap.objs.size<=x/\s.heap.objs.size<=T/\T≠x/\H' T=none/\XRec qx s'.heap x C dx (.ref T)/\XTb s'.heap T/\E (.ref x) dx H'
variable {x:Addr}{dx:Option Addr}
theorem XRec.is {tb:Value}(r:XRec qx h x C dx tb):F2.XIs qx x C dx h:=by
 obtain ⟨o,vs,h1,h2,h3,h4,_,h5⟩:=r;exact ⟨o,vs,h1,h2,h3,h4,h5⟩
theorem XIs.stay {h1 h2:Heap}(r:F2.XIs qx x C dx h1)(k:∀o,h1.get? x=some o->h2.get? x=some o):F2.XIs qx x C dx h2:=by
 obtain ⟨o,vs,e,q⟩:=r;exact ⟨o,vs,k o e,q⟩
theorem Kg {P:Program}{w:World}{H:Hp}(r:F2.XIs qx x C dx h):ObjOk P w H h x (.ext (F2.XIs qx x C dx)):=
 ⟨r,let ⟨o,_,e,_⟩:=r;⟨o,e⟩,λ_ _ q k=>XIs.stay q k⟩
section
variable {X:Cx}{pins:List (Addr×Obj)}{Z:St}{H H':Hp}{s s':Shared}{h':Heap}{x C T:Addr}{dx:Option Addr}{ch:List Addr}
theorem O4 (k:XKeep (frs X.stack) ch s.heap h')(hT:∀b∈ch,b=x\/b=T):Un (frs X.stack) (x :: T :: []) H H s.heap h':=by
 have nch:∀b:Addr,b∉(x :: T :: [])->b∉ch:=λb hb z=>hb (by rcases hT b z with rfl | rfl <;> simp);refine ⟨λb o e n hb hx=>k.keep b o (nch b hx) hb e,λb o e n hb hx=>k.slot b o (nch b hx) e,λb o e n _=>n,λb o e hx=>?_,λ_ _ e=>e,λ_ _ _ e=>e,λb ps e=>⟨#[],by rw [e];simp⟩⟩;obtain ⟨sl,q⟩:=k.slot b o (nch b hx) e;exact ⟨_,q⟩
theorem Inv.left (I:Inv X pins Z H s)(hx:H x=some (.ext (F2.XIs qx x C dx)))(hT:H T=none)(nx:X.s₀.heap.objs.size<=x)(nT:X.s₀.heap.objs.size<=T)(k:XKeep (frs X.stack) ch s.heap h')(hc:∀b∈ch,b=x\/b=T)(r:F2.XIs qx x C dx h')
 (oT:∀y c,X.env.cells.lookup y=some c->c≠T) (lT:T≠X.env.locals) (pT:∀p∈X.pn++pins,p.1≠T):Inv X pins Z H { s with heap:=h' }:=by
 have nfr:∀b u,H b=some u->b∉frs X.stack:=λb u e z=>by rw [I.stkFree b z] at e;cases e
 refine I.call (g':=s.gens) (t':=s.toks) (d':=s.drawn) (ch:=[x,T]) (O4 k hc) (λb u e=>?_) I.bare λb hb=>?_
 ·by_cases hb:b=x
  ·subst hb;rw [hx] at e;cases e;exact Kg r
  ·refine (I.hok b u e).stay (λc v hcc q=>k.keep c v ?_ ?_ q) (λ_ q=>q) λ_ _ q=>q
   ·intro z;rcases hcc with rfl | hcc
    ·rcases hc c z with q | q
     ·exact hb q
     ·rw [q,hT] at e;cases e
    ·rcases hc c z with q | q
     ·rw [q,hx] at hcc;cases hcc
     ·rw [q,hT] at hcc;cases hcc
   ·rcases hcc with rfl | hcc
    ·exact nfr _ _ e
    ·exact nfr _ _ hcc
 ·have q:b=x\/b=T:=by simpa using hb
  rcases q with rfl | rfl
  ·exact ⟨.inr nx,(λz=>by rw [z,I.free] at hx;cases hx),(λy c e z=>by subst z;rw [I.freeC y c e] at hx;cases hx),λp hp z=>by rw [<-z,(I.pin p hp).2.1] at hx;cases hx⟩
  ·exact ⟨.inr nT,lT,oT,pT⟩
theorem Inv.raised (I:Inv X pins Z H s){E:XK}{e:Value}(q:CX1 qx X.prog X.w X.stack H s E e s'):∃(x C:Addr) (dx:Option Addr) (T:Addr) (H':Hp),e = .ref x/\Inv X pins Z H' s'/\H' x=some (.ext (F2.XIs qx x C dx))/\s.heap.objs.size<=x/\s.heap.objs.size<=T/\T≠x/\H' T=none/\XRec qx s'.heap x C dx (.ref T)/\XTb s'.heap T/\E (.ref x) dx H':=by
 obtain ⟨x,C,dx,T,H',he,os,bare,un,hok,hx,nx,nT,ne,hT,r,tb,q⟩:=q;obtain ⟨hh,g,d,t,os'⟩:=s';obtain rfl:os'=s.os:=os;exact ⟨x,C,dx,T,H',he,I.call (h':=hh) (g':=g) (d':=d) (t':=t) (ch:=[]) un hok bare (λb z=>absurd z (by simp)),hx,nx,nT,ne,hT,r,tb,q⟩
theorem Inv.newT (I:Inv X pins Z H s)(h:s.heap.objs.size<=T):T≠X.env.locals/\(∀y c,X.env.cells.lookup y=some c->c≠T)/\∀p∈X.pn++pins,p.1≠T:=by
 have far:∀b o,s.heap.get? b=some o->b≠T:=λb o e z=>absurd (Nat.lt_of_lt_of_le (Heap.lt_size e) h) (by rw [z];exact Nat.lt_irrefl _);refine ⟨λz=>absurd I.lt (by rw [<-z];exact Nat.not_lt.mpr h),λy c e=>?_,λp hp=>far _ _ (I.pin p hp).1⟩;obtain ⟨v,o,ho,_⟩:=I.cell y c e;exact far c o ho
end
section
variable {P:Program}{w:World}{K:PySem.W.Frag}{mg:Str->Option Value}{base:Heap}{N:List Str}{qual:Str}{scope:Scope}{f:Addr}{cd:Value}{A:Around}{outer:List Env}{s₀:Shared}{H₀:Hp}{E:XK}
end
end L2
namespace L2
open PySem PySem.Spec PyProof.Rows PySem.W
noncomputable def exO (x C tp:Addr):HO:=.ext λh=>h.get? x=some (excObj C tp)
noncomputable def GM (x C tp dx:Addr):HO:=.ext λh=>h.get? x=some { excObj C tp with dict:=some dx }
theorem Rp {P:Program}{w:World}{H:Hp}{h:Heap}{x C tp:Addr}(e:h.get? x=some (excObj C tp)):ObjOk P w H h x (exO x C tp):=⟨e,⟨_,e⟩,λ_ _ p k=>k _ p⟩
theorem PY {P:Program}{w:World}{H:Hp}{h:Heap}{x C tp dx:Addr}(e:h.get? x=some { excObj C tp with dict:=some dx }):ObjOk P w H h x (GM x C tp dx):=⟨e,⟨_,e⟩,λ_ _ p k=>k _ p⟩
structure XAt (K:PySem.W.Frag)(C P:Addr)(f:Str):Prop where
 cl:XCl K C (.ref P :: VE)
 set:findIn K (.ref C) "__setattr__" = some (some (.builtin "object.__setattr__"))
 no:findIn K (.ref C) f=some none
theorem XCl.cls {K:PySem.W.Frag}{C:Addr}{bm:List Value}(c:XCl K C bm):∃cd,clsIn K C=some cd/\cd.mro = .ref C :: bm/\cd.hasDict=true:=by
 obtain ⟨cd,dd,k0,k1,k2,k3,k5,h1,h2,_,h4,_⟩:=c.ex;exact ⟨cd,by unfold clsIn;rw [h1],h2,h4⟩
def sXF (K:PySem.W.Frag)(P:Addr)(ta tv:TE)(f:Str):TS:=λD Z H=>tv Z H λy H1=>ta Z H1 λx H2=>∃a C tp,x = .ref a/\H2 a=some (exO a C tp)/\XAt K C P f/\
 ∀dx,H2 dx=none->dx≠a->D.nx Z (upd (upd H2 dx (.xd [(f,y)])) a (GM a C tp dx))
theorem Tz {X:Cx}{P:Addr}{o value:Expr}{ta tv:TE}{f:Str}{pos' pos:Pos}(ha:PE X o ta)(hv:PE X value tv)(hs:swapsWith value (some (.Attribute o f pos')) pos.line X.env=pure false):PS X (.Assign [.Attribute o f pos'] value pos) (sXF X.K P ta tv f):=by
 intro pins s Z H D I h;refine plainObj_wpAny_Assign_Attribute (thn (hv pins s Z H _ I h) λu s1 ⟨y,H1,I1,ry,q⟩=>thn (ha pins s1 Z H1 _ I1 q) λov s2 z9=>?_) hs;obtain ⟨x,H2,I2,rx,a,C,tp,ex,ea,c,q2⟩:=z9;subst ex;obtain rfl:ov=Value.ref a:=rx;obtain ⟨cd,c1,c2,c3⟩:=c.cl.cls;have hx:s2.heap.get? a=some (excObj C tp):=(I2.hok a _ ea).1;refine QO I2.kIn hx c.set c1 c2 c3 c.no λh' k e n=>?_;have fr:=I2.hok.fresh (Nat.le_refl s2.heap.objs.size);have ne:s2.heap.objs.size≠a:=(λz=>by rw [z,ea] at fr;cases fr)
 have nn:∀b u,H2 b=some u->b≠s2.heap.objs.size:=λb u z=>A1 z fr;have na:∀b u,s2.heap.get? b=some u->H2 b=none->b≠a:=λb u _ z w'=>by rw [w',ea] at z;cases z
 refine ⟨Z,_,I2.un (h':=h') (t':=s2.toks + 2) ⟨λb u e1 e2 _ _=>k b u (na b u e1 e2) e1,λb u e1 e2 _ _=>⟨u.slots,k b u (na b u e1 e2) e1⟩,λb u e1 e2 _=>?_,λb u e1 _=>?_,λb xs e1=>?_,λb o' u e1=>?_,λb ps e1=>⟨#[],?_⟩⟩ λb u e1=>?_,q2 s2.heap.objs.size fr ne⟩
 ·rw [Ap (na b u e1 e2),Ap (Nat.ne_of_lt (Heap.lt_size e1))];exact e2
 ·by_cases hb:b=a
  ·subst hb;exact ⟨_,e⟩
  ·exact ⟨_,k b u hb e1⟩
 ·rw [Ap (λz=>by rw [z,ea] at e1;cases e1),Ap (nn _ _ e1)];exact e1
 ·rw [Ap (λz=>by rw [z,ea] at e1;cases e1),Ap (nn _ _ e1)];exact e1
 ·rw [Ap (λz=>by rw [z,ea] at e1;cases e1),Ap (nn _ _ e1),e1];simp
 ·by_cases hb:b=a
  ·subst hb;rw [AF] at e1;cases e1;exact PY e
  ·rw [Ap hb] at e1
   by_cases hb2:b=s2.heap.objs.size
   ·subst hb2;rw [AF] at e1;cases e1
    refine ⟨_,n,λg=>?_⟩
    by_cases hg:g=f
    ·subst hg;simp only [List.lookup,beq_self_eq_true,if_true];exact ry
    ·have hgb:(g == f)=false:=beq_eq_false_iff_ne.mpr hg;simp only [List.lookup,hgb,if_neg hg];trivial
   ·rw [Ap hb2] at e1;refine (I2.hok b u e1).stay (λz v hz q=>k z v ?_ q) (λz q=>?_) λz xs q=>?_
    ·rcases hz with rfl | hz
     ·exact hb
     ·intro w';rw [w',ea] at hz;cases hz
    ·rw [Ap (λz=>by rw [z,ea] at q;cases q),Ap (nn _ _ q)];exact q
    ·rw [Ap (λz=>by rw [z,ea] at q;cases q),Ap (nn _ _ q)];exact q
variable {qx:Bool}
theorem Mx {K:PySem.W.Frag}{h:Heap}{N:Addr}{m:Str->Option Value}{n:Str}{v:Value}(X:K.In h)(G:h.Ns N m)(e:nsIn K N n=some (some v)):m n=some v:=by
 obtain ⟨o,es,ep,ho,hd,_,hf⟩:=G;unfold nsIn at e
 split at e
 ·next c d es' n' sl q=>
  have z:=X _ _ q;rw [ho] at z
  cases z
  cases hd
  split at e
  ·next en he=>
   rw [<-hf];unfold nsFind findBy;rw [<-Array.find?_toList,he];simpa using e
  ·split at e <;> cases e
 ·cases e
structure XMk (K:PySem.W.Frag)(C P f:Addr):Prop where
 cl:XCl K C (.ref P :: VE)
 init:∃cd,clsIn K C=some cd/\nsIn K cd.ns "__init__" = some (some (.ref f))
 fn:isFn K (.ref f)=true
 kp:keepIn K (.ref C)=true
section
variable {X:Cx}{k:Nat}{f C P:Addr}{fd:FuncData}{pins:List (Addr×Obj)}{Z:St}{H:Hp}{s:Shared}{Q:Value->Shared->Prop}{us:List Value}{vs:List V}{a:Str}{ps:List Str}{v:V}{u:Value}
end
end L2
namespace L2
open PySem PySem.Spec PyProof.Rows PySem.W
variable {qx:Bool}
section
variable {M:Model}{A:Around}{E:Value->Shared->Prop}{K:PySem.W.Frag}{s:Shared}{x C C':Addr}{bm bm':List Value}{dx:Option Addr}{tb:Value}
theorem Ot {Q:Bool->Shared->Prop}(c:XCl K C bm)(c':XCl K C' bm')(X:K.In s.heap)(hx:XRec qx s.heap x C dx tb)(h:Q ((Value.ref C :: bm).contains (.ref C')) s):wpAny M A (excMatches (.ref x) (.ref C')) Q E s:=by
 obtain ⟨nm,q,N,bs,sn,sub,ab,col,dd,k0,k1,k2,k3,k5,hC,_⟩:=c.obj X;obtain ⟨nm',q',N',bs',sn',sub',ab',col',dd',k0',k1',k2',k3',k5',hC',_⟩:=c'.obj X;have hb:=c'.has X;obtain ⟨o,vs,ho,hc,hd,hdt,h1⟩:=hx;obtain ⟨hp,g,d,tk,os⟩:=s;have ty:(⟨hp,g,d,tk,os⟩:Shared).TypeIs (.ref C') "type":=⟨_,hC',rfl⟩;have nt:=tc_notTuple
 cases hbb:(Value.ref C :: bm).contains (.ref C') <;> (
  rw [hbb] at h;unfold excMatches
  repeat (first
   | (with_reducible refine wpAny_loadPart_at ho ?_;rw [hc])
   | with_reducible refine wpAny_loadPart_at hC' ?_
   | (with_reducible refine wpAny_isSubtype_exc hC' ?_;rw [hb])
   | (with_reducible refine wpAny_isSubtype_exc hC ?_;rw [hbb])
   | wp_step)
  exact h)
end
end L2
namespace L2
open PySem PySem.Spec PyProof.Rows PySem.W
variable {qx:Bool}
def N0 (h:Heap)(T:Addr)(fl:Value):Prop:=∃(o:Obj) (ts:Array Value),h.get? T=some o/\o.data = .fields ts/\ts[3]?=some fl
section
variable {M:Model}{A:Around}{E:Value->Shared->Prop}{s:Shared}{env:Env}{outer:List Env}{base:Heap}{L x C:Addr}{dx:Option Addr}{tb:Value}{Q:Unit->Shared->Prop}
theorem IX {hadNext:Bool}{hd:Value}(hfr:A.frames=some (env :: outer))(hl:s.heap.FunFrames base (env :: outer))(hf:env.frame=some L)(hx:XRec qx s.heap x C dx tb)
 (h:∀h' T,s.heap.objs.size<=T->T≠x->XRec qx h' x C dx (.ref T)->N0 h' T (rawInt L)->XKeep (frs (env :: outer)) [x] s.heap h'->Q () { s with heap:=h' }) :
 wpAny M A (do let fo <-frameOf env;let at' <-entryPlaceOf L hadNext;let en <-EntryCells.newEntry hd fo .none (rawInt L) .none at';setField (.ref x) 1 en) Q E s:=by
 obtain ⟨ox,vs,gx,cx,dxe,dtx,tbx,xc⟩:=hx;have v1:1 < vs.size:=(Array.getElem?_eq_some_iff.mp tbx).1;have nfr:x∉frs (env :: outer):=λz=>by
  obtain ⟨_,o2,g2,n2⟩:=hl.mem z;rw [gx] at g2;cases g2
  exact n2 vs dtx
 refine wpAny_bind (wpAny_frameOf_fun hfr hl hf λh1 so=>?_);refine wpAny_bind (wpAny_entryPlaceOf λat' ip=>?_);unfold EntryCells.newEntry newFields;refine wpAny_bind (wpAny_newObj_type ?_ (ip.sizeOk5 _ _ _ _ _));generalize hne:(Obj.mk (Value.type "traceback") none (Data.fields ([hd,Value.ref L,Value.none,rawInt L,Value.none]++if at'.isEmpty=true then List.replicate 6 Value.none else at').toArray) #[])=nob;have dn:nob.data = .fields ([hd,Value.ref L,Value.none,rawInt L,Value.none]++if at'.isEmpty=true then List.replicate 6 Value.none else at').toArray:=by rw [<-hne]
 have gx1:h1.get? x=some ox:=(so.2.1 x nfr).trans gx;have gx2:(h1.push nob).get? x=some ox:=Heap.get?_push_of_some _ gx1;have nex:h1.objs.size≠x:=Nat.ne_of_gt (Heap.lt_size gx1);refine wpAny_setField gx2 dtx v1 ?_;obtain ⟨m1,m2,m3⟩:=Ky dtx (·.setIfInBounds 1 (Value.ref h1.objs.size));have gx3:=Heap.get?_update_self (Obj.mapFields (·.setIfInBounds 1 (Value.ref h1.objs.size))) gx2 (Obj.isFreed_of_fields m1);have gT2:(h1.push nob).get? h1.objs.size=some nob:=Heap.get?_push_size h1 (Obj.isFreed_of_fields dn);have gT3:=(Heap.get?_update_other (h1.push nob) (Obj.mapFields (·.setIfInBounds 1 (Value.ref h1.objs.size))) (Ne.symm nex)).trans gT2;have vx:(vs.setIfInBounds 1 (Value.ref h1.objs.size))[1]?=some (.ref h1.objs.size):=by simp [v1]
 have old:∀b o,b≠x->h1.get? b=some o->((h1.push nob).update x (Obj.mapFields (·.setIfInBounds 1 (Value.ref h1.objs.size)))).get? b=some o:=λb o hb e=>by
  rw [Heap.get?_update_other _ _ (Ne.symm hb)];exact Heap.get?_push_of_some _ e
 refine h _ h1.objs.size (Nat.le_of_eq so.1.symm) nex ⟨_,_,gx3,m2.trans cx,m3.trans dxe,m1,vx,Rl xc⟩ ⟨_,_,gT3,dn,?_⟩ ⟨λb o hb hbf e=>old b o (λz=>hb (by simp [z])) ((so.2.1 b hbf).trans e),λb o hb e=>?_⟩
 ·rw [List.getElem?_toArray];rfl
 ·obtain ⟨sl,e1⟩:=so.2.2 b o e;exact ⟨sl,old b _ (λz=>hb (by simp [z])) e1⟩
end
structure XOn (qx:Bool)(X:Cx)(pins:List (Addr×Obj))(H:Hp)(s:Shared)(x C:Addr)(dx:Option Addr)(T:Option Addr)(fl:Value):Prop where
 hx:H x=some (.ext (F2.XIs qx x C dx))
 nx:X.s₀.heap.objs.size<=x
 rc:XRec qx s.heap x C dx (match T with | some a=>.ref a | none=>.none)
 tb:∀a,T=some a->a≠x/\H a=none/\X.s₀.heap.objs.size<=a/\(a≠X.env.locals/\(∀y c,X.env.cells.lookup y=some c->c≠a)/\∀p∈X.pn++pins,p.1≠a)/\N0 s.heap a fl
 fo:fl = .none\/fl=rawInt X.env.locals
section
variable {M:Model}{A:Around}{Er:Value->Shared->Prop}{X:Cx}{pins:List (Addr×Obj)}{Z:St}{H:Hp}{s:Shared}{x C:Addr}{dx T:Option Addr}{fl:Value}{Q:Unit->Shared->Prop}
theorem Gx (fr:Option Addr)(I:Inv X pins Z H s){a:Addr}(o:XOn qx X pins H s x C dx (some a) fl)(hfr:fr=none\/fr=some X.env.locals)
 (k:∀h',Inv X pins Z H { s with heap:=h' }->XOn qx X pins H { s with heap:=h' } x C dx (some a) (fr.elim Value.none λf=>rawInt f)->Q () { s with heap:=h' }):wpAny M A (setFlight (.ref x) fr) Q Er s:=by
 obtain ⟨ox,vs,gx,cx,dxe,dtx,tbx,xc⟩:=id o.rc;obtain ⟨ne,hT,nT,oT,ot,ts,gT,dT,t3⟩:=o.tb a rfl;unfold setFlight;refine wpAny_bind (wpAny_field gx dtx tbx ?_);rw [if_pos (show (Value.ref a != Value.none)=true from rfl)];refine wpAny_setField gT dT (Array.getElem?_eq_some_iff.mp t3).1 ?_;obtain ⟨m1,m2,m3⟩:=Ky dT (·.setIfInBounds 3 (fr.elim Value.none λf=>rawInt f));have gT2:=Heap.get?_update_self (Obj.mapFields (·.setIfInBounds 3 (fr.elim Value.none λf=>rawInt f))) gT (Obj.isFreed_of_fields m1);have oth:∀b,b≠a->(s.heap.update a (Obj.mapFields (·.setIfInBounds 3 (fr.elim Value.none λf=>rawInt f)))).get? b=s.heap.get? b:=λb z=>Heap.get?_update_other _ _ (Ne.symm z);have rc':XRec qx (s.heap.update a (Obj.mapFields (·.setIfInBounds 3 (fr.elim Value.none λf=>rawInt f)))) x C dx (.ref a):=⟨ox,vs,(oth x (Ne.symm ne)).trans gx,cx,dxe,dtx,tbx,xc⟩;refine k _ (I.left o.hx hT o.nx nT (ch:=[a]) ⟨λb u hb _ e=>(oth b (by simpa using hb)).trans e,λb u hb e=>⟨u.slots,(oth b (by simpa using hb)).trans e⟩⟩ (λb hb=>.inr (by simpa using hb)) rc'.is oT.2.1 oT.1 oT.2.2) ⟨o.hx,o.nx,rc',λa' e=>?_,?_⟩
 ·cases e
  exact ⟨ne,hT,nT,oT,_,_,gT2,m1,by rw [Array.getElem?_setIfInBounds_self,if_pos (Array.getElem?_eq_some_iff.mp t3).1]⟩
 ·rcases hfr with rfl | rfl
  ·exact .inl rfl
  ·exact .inr rfl
theorem GX (hA:A.frames=some X.stack)(I:Inv X pins Z H s)(hs:X.stack=X.env :: X.outer)(hf:X.env.frame=some X.env.locals)(o:XOn qx X pins H s x C dx T fl)
 (k:∀h' a,Inv X pins Z H { s with heap:=h' }->XOn qx X pins H { s with heap:=h' } x C dx (some a) (rawInt X.env.locals)->Q () { s with heap:=h' }):wpAny M A (noteFrame (.ref x) X.env) Q Er s:=by
 obtain ⟨ox,vs,gx,cx,dxe,dtx,tbx,xc⟩:=id o.rc;have fin:∀(s1:Shared) (hh:∃h1,s1 = { s with heap:=h1 }) (ch:List Addr) (h':Heap) (a:Addr),Inv X pins Z H s1->s1.heap.objs.size<=a->a≠x->XRec qx h' x C dx (.ref a)->N0 h' a (rawInt X.env.locals)->XKeep (frs (X.env :: X.outer)) [x] s1.heap h'->Q () { s1 with heap:=h' }:=by
  rintro s1 ⟨h1,rfl⟩ ch h' a I1 l1 l2 l3 l4 l5;obtain ⟨o1,o2,o3⟩:=I1.newT l1;have J:=I1.left o.hx (I1.hok.fresh l1) o.nx (Nat.le_trans I1.sz l1) (ch:=[x]) (hs ▸ l5) (λb hb=>.inl (by simpa using hb)) l3.is o2 o1 o3;exact k h' a J ⟨o.hx,o.nx,l3,λa' e=>by cases e;exact ⟨l2,I1.hok.fresh l1,Nat.le_trans I1.sz l1,⟨o1,o2,o3⟩,l4⟩,.inr rfl⟩
 unfold noteFrame;simp only [hf];refine wpAny_bind (wpAny_field gx dtx tbx ?_)
 cases T with
 | none=>
   rw [if_neg (by decide)];exact IX (hA.trans (congrArg some hs)) (hs ▸ I.stack) hf o.rc λh' a l1 l2 l3 l4 l5=>fin s ⟨s.heap,rfl⟩ [] h' a I l1 l2 l3 l4 l5
 | some T₀=>
   obtain ⟨ne,hT,nT,oT,ot,ts,gT,dT,t3⟩:=o.tb T₀ rfl;rw [if_pos (show (Value.ref T₀ != Value.none)=true from rfl)];refine wpAny_bind (wpAny_field gT dT t3 ?_);rcases o.fo with rfl | rfl
   ·rw [if_neg (show ¬((Value.none == rawInt X.env.locals)=true) from by simp [rawInt])];refine wpAny_bind (wpAny_setField gT dT (Array.getElem?_eq_some_iff.mp t3).1 ?_);have oth:∀b,b≠T₀->(s.heap.update T₀ (Obj.mapFields (·.setIfInBounds 3 Value.none))).get? b=s.heap.get? b:=λb z=>Heap.get?_update_other _ _ (Ne.symm z);have rc':XRec qx (s.heap.update T₀ (Obj.mapFields (·.setIfInBounds 3 Value.none))) x C dx (.ref T₀):=⟨ox,vs,(oth x (Ne.symm ne)).trans gx,cx,dxe,dtx,tbx,xc⟩;have J:=I.left o.hx hT o.nx nT (ch:=[T₀]) ⟨λb u hb _ e=>(oth b (by simpa using hb)).trans e,λb u hb e=>⟨u.slots,(oth b (by simpa using hb)).trans e⟩⟩ (λb hb=>.inr (by simpa using hb)) rc'.is oT.2.1 oT.1 oT.2.2;exact IX (s:={ s with heap:=s.heap.update T₀ (Obj.mapFields (·.setIfInBounds 3 Value.none)) }) (hA.trans (congrArg some hs)) (hs ▸ J.stack) hf rc' λh' a l1 l2 l3 l4 l5=>fin _ ⟨_,rfl⟩ [] h' a J l1 l2 l3 l4 l5
   ·rw [if_pos (show (rawInt X.env.locals == rawInt X.env.locals)=true from by first | (simp;done) | exact beq_self_eq_true _)];exact wpAny_pure (k s.heap T₀ I ⟨o.hx,o.nx,o.rc,o.tb,.inr rfl⟩)
end
def XE (qx:Bool)(X:Cx)(E:St->XK):Value->Shared->Prop:=λe s=>∃pins Z H x C dx T fl,e = .ref x/\Inv X pins Z H s/\XOn qx X pins H s x C dx T fl/\E Z (.ref x) dx H
def E4 (CX:CXT)(X:Cx)(E:St->XK):Prop:=∀(pins:List (Addr×Obj)) (Z:St) (H:Hp) (s:Shared) (e:Value) (s':Shared),Inv X pins Z H s->CX X.stack H s (E Z) e s'->X.xe e s'
section
variable {M:Model}{X:Cx}{E:St->XK}
theorem XE.own (hs:X.stack=X.env :: X.outer)(hf:X.env.frame=some X.env.locals):PassesOwn M X.A X.env (XE qx X E):=by
 rintro e s ⟨pins,Z,H,x,C,dx,T,fl,rfl,I,o,q⟩;refine GX I.ok.frames I hs hf o λh' a I' o'=>?_;obtain ⟨ox,vs,gx,cx,dxe,dtx,tbx,xc⟩:=id o'.rc;unfold cameBackBy;refine wpAny_bind (wpAny_field gx dtx tbx ?_);rw [if_neg (show ¬((Value.ref a == Value.none)=true) from by intro z;cases z)]
 rw [hf];exact Gx _ I' o' (.inr rfl) λh'' I'' o''=>⟨pins,Z,H,x,C,dx,some a,_,rfl,I'',o'',q⟩
theorem XE.pass:E4 (CX1 qx X.prog X.w) (X.wish (XE qx X E)) E:=by
 intro pins Z H s e s' I q;obtain ⟨x,C,dx,T,H',rfl,J,hx,nx,nT,ne,hT,r,tb,q⟩:=I.unwish.raised q;exact ⟨pins,Z,H',x,C,dx,some T,.none,rfl,J,⟨hx,Nat.le_trans I.sz nx,r,λa e=>by cases e;exact ⟨ne,hT,Nat.le_trans I.sz nT,I.unwish.newT nT,tb⟩,.inl rfl⟩,q⟩
end
section
variable {P:Program}{w:World}{K:PySem.W.Frag}{mg:Str->Option Value}{base:Heap}
abbrev cxX (qx:Bool)(P:Program)(w:World)(K:PySem.W.Frag)(mg:Str->Option Value)(base:Heap)(N:List Str)(qual:Str)(scope:Scope)(f:Addr)(cd:Value)(A:Around)(outer:List Env)(s:Shared)(H:Hp)(E:XK):Cx:=
 (Ee (CX1 qx P w) P w K mg base N qual scope f cd A outer s H E).wish (XE qx (Ee (CX1 qx P w) P w K mg base N qual scope f cd A outer s H E) λ_=>E)
theorem XE.leaves {N:List Str}{qual:Str}{scope:Scope}{f:Addr}{cd:Value}{A:Around}{outer:List Env}{s₀:Shared}{H₀:Hp}{E:XK}{e:Value}{s:Shared}
 (h:XE qx (Ee (CX1 qx P w) P w K mg base N qual scope f cd A outer s₀ H₀ E) (λ_=>E) e s):(Ee (CX1 qx P w) P w K mg base N qual scope f cd A outer s₀ H₀ E).xe e s:=by
 obtain ⟨pins,Z,H,x,C,dx,T,fl,rfl,I,o,q⟩:=h;refine wpAny_bind (GX I.ok.frames I rfl rfl o λh' a I' o'=>?_);refine Gx none I' o' (.inl rfl) λh'' I'' o''=>?_;obtain ⟨ne,hT,nT,oT,tb⟩:=o''.tb a rfl;exact ⟨x,C,dx,a,H,rfl,I''.os,I''.bare,I''.base,I''.hok,o''.hx,o''.nx,nT,ne,hT,o''.rc,tb,q⟩
theorem Fun.okX {x qual:Str}{st:Stmt}{f:Addr}{fd:FuncData}{N ps:List Str}{k:Nat}{sp:Sp}(F:Fun K x qual st f fd)(S:FnScope N ps (Av st))(len:∀vs H Q E,sp vs H Q E->vs.length=ps.length)
 (hbody:∀(cdv:Value) (A:Around) (outer:List Env) (s:Shared) (H:Hp) (vs:List V) (Q:VK) (E:XK),Room k (A.deeper (envOfC qual (Av st) s.heap.objs.size f cdv))->sp vs H Q E->
   ∃t,PSs (cxX qx P w K mg base N qual (Av st) f cdv A outer s H E) (BV st) t/\t { nx:=λ_ H'=>Q .non H',rt:=Q } (Dq N vs) H):FnOk P w K mg base (CX1 qx P w) (k + 1) f fd ps sp:=by
 obtain ⟨oc,od,kV,doc,pm,an,cdv,ct,osl,rfl,lk,hcd⟩:=F.ex;refine Pk lk hcd S len λA outer s H vs Q E hr hsp=>?_;obtain ⟨t,h,q⟩:=hbody cdv A outer s H vs Q E hr hsp;exact ⟨t,λpins s1 Z H1 D I hw=>wpAny_mono (h pins s1 Z H1 D (I.wish _) hw) (λ_ _ q=>q.unwish) λ_ _ z=>z.leaves,q⟩
end
section
variable {X:Cx}{CX:CXT}{k:Nat}{f:Addr}{fd:FuncData}{ps:List Str}{sp:Sp}{E:St->XK}{x:Str}{p pos:Pos}{e:Expr}{es:List Expr}{t:TA}
def SM (sp:Sp)(E:St->XK)(t:TA):TE:=λZ H Q=>t Z H λvs H1=>sp vs H1 Q (E Z)
theorem Oz (F:FnOk X.prog X.w X.K X.mg X.base CX k f fd ps sp)(hr:Room k X.A)(hg:Gl X x)(hm:X.mg x=some (.ref f))(hk:PySem.W.keepIn X.K (.ref f)=true)(hb:Binds X.K fd ps [])(hx:E4 CX X E)
 (ha:PA X (e :: es) t) (hdb:(x == ("__debug__" : Str))=false:=by decide) (he:starEach (e :: es) X.env=(false,eval e X.env) :: starEach es X.env:=by rfl) (hpl:(backTo pos (starEach es X.env)).any (·.1)=false:=by rfl) :
 PE X (.Call (.Name x p) (e :: es) [] pos) (SM sp E t):=by
 intro pins s Z H Q I h;refine wpAny_Call_Name_kw (Et I hg hm ?_ hdb);refine PySem.W.callWith_K (h₀:=X.base) I.ok.mod.kin hk (thn (ha pos pins s Z H _ I h) λus s1 z9=>?_) he hpl;obtain ⟨vs,H1,I1,r,q⟩:=z9;refine ⟨I1.kIn,?_⟩;have hl:(us++[]).length=ps.length:=by rw [List.append_nil,<-r.length];exact F.len _ _ _ _ q
 refine wpAny_call (codeAny_mono (F.run X.A X.stack s1 H1 ⟨us,[]⟩ us vs Q (E Z) hr I1.env0 (by have:=hb s1 us I1.kIn hl;rwa [List.append_nil] at this) r q) λr s' hq=>?_)
 cases r with
 | error e=>exact hx pins Z H1 s1 e s' I1 hq
 | ok fl=>
   cases fl with
   | ret u=>exact I1.after hq
   | next=>exact False.elim hq
   | brk=>exact False.elim hq
   | cont=>exact False.elim hq
end
end L2
namespace L2
open PySem PySem.Spec PyProof.Rows PySem.W
variable {qx:Bool}
def PM (qx:Bool)(X:Cx)(e:Expr)(C:Addr)(t:St->Hp->(Addr->Option Addr->Hp->Prop)->Prop):Prop:=
 ∀(pins:List (Addr×Obj)) (s:Shared) (Z:St) (H:Hp) (Q:Addr->Option Addr->Hp->Prop),Inv X pins Z H s->t Z H Q->
  wpAny (model X.prog X.w) X.A (eval e X.env) (λv s1=>∃x dx H1,v = .ref x/\Inv X pins Z H1 s1/\H1 x=some (.ext (F2.XIs qx x C dx))/\X.s₀.heap.objs.size<=x/\XRec true s1.heap x C dx .none/\Q x dx H1) X.xe s
def FJ (qx:Bool)(X:Cx)(E:St->XK):Prop:=∀(pins:List (Addr×Obj)) (Z:St) (H:Hp) (s:Shared) (x C:Addr) (dx:Option Addr),Inv X pins Z H s->XOn qx X pins H s x C dx none .none->E Z (.ref x) dx H->X.xe (.ref x) s
theorem XE.raises {X:Cx}{E:St->XK}:FJ qx (X.wish (XE qx X E)) E:=λpins Z H s x C dx I o q=>⟨pins,Z,H,x,C,dx,none,.none,rfl,I.unwish,⟨o.hx,o.nx,o.rc,o.tb,o.fo⟩,q⟩
theorem KJ {X:Cx}{e:Expr}{C:Addr}{bm:List Value}{t:St->Hp->(Addr->Option Addr->Hp->Prop)->Prop}{E:St->XK}{pos:Pos}(hc:X.calm=true)(c:XCl X.K C bm)(hx:FJ qx X E)(h:PM qx X e C t)
 (ho:evalOpt (some e) X.env=some (eval e X.env):=by rfl):PS X (.Raise (some e) none pos) (λ_ Z H=>t Z H λx dx H1=>E Z (.ref x) dx H1):=by
 intro pins s Z H D I q;rw [arm_exec_Raise,ho];refine wpAny_bind (wpAny_standAt ?_);refine OL (qx:=true) c (I.ok.hd hc) ?_;refine wpAny_bind (wpAny_mono (h pins s Z H _ I q) (λv s1 z9=>?_) λ_ _ z=>z);obtain ⟨x,dx,H1,e1,I1,hx1,nx,r,q1⟩:=z9;subst e1;refine wpAny_bind (wpAny_standAt (wpAny_pure ⟨x,dx,rfl,I1.kIn,r,hx pins Z H1 s1 x C dx I1 ⟨hx1,nx,r.to,(λa e=>by cases e),.inl rfl⟩ q1⟩))
theorem Mw {K:PySem.W.Frag}{h:Heap}{N:Addr}{m:Str->Option Value}{n:Str}(X:K.In h)(G:h.Ns N m)(e:nsIn K N n=some none):m n=none:=by
 obtain ⟨o,es,ep,ho,hd,_,hf⟩:=G;unfold nsIn at e
 split at e
 ·next c d es' n' sl q=>
  have z:=X _ _ q;rw [ho] at z
  cases z
  cases hd
  split at e
  ·cases e
  ·next he=>rw [<-hf];unfold nsFind findBy;rw [<-Array.find?_toList,he];rfl
 ·cases e
section
variable {prog:Program}{w:World}{A:Around}{E:Value->Shared->Prop}{h:Heap}{g:Array GenState}{d:Drawn}{t:Nat}{os:OsState}{Q:Value->Shared->Prop}
variable {nm q:Str}{C N:Addr}{bs bm bmB:List Value}{hdct:Bool}{sn:List Str}{sub:List Value}{ab:Bool}{col:Option Bool}{dd:Option Addr}{k0 k1 k2 k3 k5:Option Value}{B newId initId:String}{mN:Str->Option Value}
theorem Nr (F:ExcBaseFacts B newId initId bmB)(T:OwnTail h bmB bm){us:List Value}(hC:h.get? C=some (excClassObj nm q C N bs bm hdct sn sub ab col dd k0 k1 k2 k3 k5 newId))(hn:h.Ns N mN)(hni:mN "__init__" = none)(hus:us.length<=sizeLine)
 (hq:∀h' tp,(∀b o,h.get? b=some o->h'.get? b=some o)->h'.get? (h.objs.size + 1)=some (excObj C tp)->Q (.ref (h.objs.size + 1)) ⟨h',g,d,t,os⟩) :
 wpAny (model prog w) A (call (.ref C) us) Q E ⟨h,g,d,t,os⟩:=by
 have c1:=tc_lookup;have c2:=tc_bind (.ref C);have ty:(⟨h,g,d,t,os⟩:Shared).TypeIs (.ref C) "type":=⟨_,hC,rfl⟩;refine wpAny_call (codeAny_of_tree ?_);show wpAny _ _ (callAny (.ref C) _) _ _ _
 repeat (any_goals (first
  | assumption
  | with_reducible refine wpAny_loadPart_at hC ?_
  | wp_step))
 refine ⟨rfl,codeAny_call_builtin_at (Code.quiet_builtin _ (by decide +kernel)) entry_typeCall (wpAny_check_type_call_sub hC ?_)⟩
 repeat (first
  | with_reducible refine wpAny_loadPart_at hC ?_
  | with_reducible refine wpAny_madeBy_exc hC ?_
  | wp_step)
 refine codeAny_call_builtin_code (Code.quiet_builtin _ F.quiet) (wpAny_check_new_subT F T hC (codeAny_exc_new_subT F T hC ?_ hus))
 change wpAny _ _ _ _ _ (Shared.mk (DQ h C us) g d t os)
 have kp:∀b o,h.get? b=some o->(DQ h C us).get? b=some o:=λb o e=>Heap.get?_push_of_some _ (Heap.get?_push_of_some _ e);have he:(DQ h C us).get? (h.objs.size + 1)=some { cls:=.ref C,data:=.fields #[.ref h.objs.size,.none,.none,.none,.bool false,.none] }:=by heap_get
 have n1:(DQ h C us).Ns N mN:=hn.keeps kp;have cC:(Value.ref C :: bm).contains (.ref C)=true:=by simp
 unfold isInstance
 repeat (first
  | with_reducible refine wpAny_loadPart_at he ?_
  | (with_reducible refine wpAny_isSubtype_exc (kp _ _ hC) ?_;rw [cC])
  | wp_step)
 show wpAny _ _ (typeLookup (.ref C) _) _ _ _;refine wpAny_typeLookup_tail (kp _ _ hC) n1 (T.keeps kp) F.mroIs F.init.lookup ?_;rw [hni];refine wpAny_holding (wpAny_bind (wpAny_of_eq (F.init.bind _) (wpAny_bind (wpAny_call (codeAny_call_builtin F.init.plain F.initEntry (wpAny_check_init_subT F (T.keeps kp) (kp _ _ hC) he rfl ?_))))))
 wp_walk
 refine hq _ ((DQ h C us).objs.size) (λb o hb=>?_) ?_
 ·rw [Heap.get?_update_other _ _ (Nat.ne_of_gt (Nat.lt_succ_of_lt (Heap.lt_size hb)))];exact Heap.get?_push_of_some _ (kp b o hb)
 ·rw [Heap.get?_update_self _ (Heap.get?_push_of_some _ he) rfl];rfl
end
section
variable {X:Cx}{k:Nat}{f C P:Addr}{fd:FuncData}{a:Str}{ps:List Str}{n:Str}{p pos:Pos}{e:Expr}{es:List Expr}
theorem Qy {t:TA}{bm:List Value}{cd:ClassData}(c:XCl X.K C bm)(hk:keepIn X.K (.ref C)=true)(hcd:clsIn X.K C=some cd)(hni:nsIn X.K cd.ns "__init__" = some none)(hg:Gl X n)(hm:X.mg n=some (.ref C))(ha:PA X (e :: es) t)
 (hdb:(n == ("__debug__" : Str))=false:=by decide) (h1:starEach (e :: es) X.env=(false,eval e X.env) :: starEach es X.env:=by rfl) (hpl:(backTo pos (starEach es X.env)).any (·.1)=false:=by rfl) :
 PM qx X (.Call (.Name n p) (e :: es) [] pos) C (λZ H Q=>t Z H λvs H1=>vs.length<=1000/\∀x,H1 x=none->Q x none (upd H1 x (.ext (F2.XIs qx x C none)))):=by
 intro pins s Z H Q I h;refine wpAny_Call_Name_kw (Et I hg hm ?_ hdb);refine PySem.W.callWith_K (h₀:=X.base) I.ok.mod.kin hk (thn (ha pos pins s Z H _ I h) λus s1 z9=>?_) h1 hpl;obtain ⟨vs,H1,I1,r,hl,q⟩:=z9;refine ⟨I1.kIn,?_⟩;obtain ⟨nm,q',N,bs,sn,sub,ab,col,dd,k0,k1,k2,k3,k5,hC,hN⟩:=c.obj I1.kIn;have hni':s1.heap.nsMap N "__init__" = none:=by
  unfold clsIn at hcd
  split at hcd
  ·next l=>
   cases hcd
   have z:=I1.kIn _ _ l;rw [hC] at z
   cases z
   exact Mw I1.kIn hN hni
  ·cases hcd
 obtain ⟨hh,g,d,tk,os⟩:=s1;refine Nr PySem.F.excBase_ValueError (c.tail I1.kIn) hC hN hni' (by show us.length<=sizeLine;rw [<-r.length];exact Nat.le_trans hl (by decide)) λh' tp kp ht=>?_;have xr:XRec true h' (hh.objs.size + 1) C none .none:=⟨_,_,ht,rfl,rfl,rfl,rfl,λ_=>⟨rfl,by show 4 < 6;decide⟩⟩;exact ⟨_,none,_,rfl,I1.laid (h':=h') (t':=tk) kp (Nat.le_succ _) (Kg xr.to.is),AF,Nat.le_trans I1.sz (Nat.le_succ _),xr,q _ (I1.hok.fresh (Nat.le_succ _))⟩
end
end L2
namespace L2
open PySem PySem.Spec PyProof.Rows PySem.W
variable {qx:Bool}
abbrev Cx.mark (X:Cx)(x:Addr):Cx:={ X with A:=X.A.mark (some (.ref x)),calm:=false,xe:=λ_ _=>False }
section
variable {X:Cx}{pins:List (Addr×Obj)}{Z:St}{H:Hp}{s:Shared}{D:Ends}
theorem Inv.mark (I:Inv X pins Z H s)(x:Addr):Inv (X.mark x) pins Z H s:=
 ⟨⟨I.ok.mod,I.ok.kind,I.ok.glob,I.ok.blt,I.ok.above,I.ok.inj,I.ok.has,I.ok.cab,(λz=>by cases z),I.ok.frames,I.ok.stk,I.ok.exf,I.ok.bs,I.ok.bsz,I.ok.noex,I.ok.exfs,I.ok.funs,I.ok.frf⟩,I.os,I.bare,I.base,I.loc,I.cell,I.free,I.freeC,I.pin,I.hok,I.len⟩
theorem Inv.unmark {x:Addr}(J:X.Ok)(I:Inv (X.mark x) pins Z H s):Inv X pins Z H s:=⟨J,I.os,I.bare,I.base,I.loc,I.cell,I.free,I.freeC,I.pin,I.hok,I.len⟩
theorem Inv.repin {pn' pins':List (Addr×Obj)}{xe:Value->Shared->Prop}(I:Inv X pins Z H s)(h:∀p∈pn'++pins',p∈X.pn++pins):Inv { X with pn:=pn',xe:=xe } pins' Z H s:=
 ⟨⟨I.ok.mod,I.ok.kind,I.ok.glob,I.ok.blt,I.ok.above,I.ok.inj,I.ok.has,I.ok.cab,I.ok.hd,I.ok.frames,I.ok.stk,I.ok.exf,I.ok.bs,I.ok.bsz,I.ok.noex,I.ok.exfs,I.ok.funs,I.ok.frf⟩,I.os,I.bare,I.base,I.loc,I.cell,I.free,I.freeC,λp hp=>I.pin p (h p hp),I.hok,I.len⟩
theorem FD {M:Model}{A:Around}{E:Value->Shared->Prop}{i:Nat}{n:Str}{pos:Pos}{Q:Unit->Shared->Prop}(I:Inv X pins Z H s)(hN:X.N.Nodup)(hi:X.N[i]?=some n)(hk:X.env.scope.names.lookup n=some .local)
 (h:∀s',Inv X pins (Z.set i none) H s'->Q () s'):wpAny M A (do bindName X.env n .none;unbindBehindTheSuite X.env n pos) Q E s:=by
 refine wpAny_bind (wpAny_bindName (FC (v:=.non) I hN hi (.inl hk) rfl (λs1 I1=>?_) (.inr hk)));unfold unbindBehindTheSuite;have hiZ:i < Z.length:=by rw [I.len];exact (List.getElem?_eq_some_iff.mp hi).1
 obtain ⟨m,hn,hl⟩:=id I1.loc;have hcls:(X.env.scope.kind == .class || (X.env.scope.kind == .module && X.env.locals != X.env.globals))=false:=by rw [I.ok.kind];rfl
 obtain ⟨u0,_,lk⟩:=hl i n .non hi (by rw [List.getElem?_set_self hiZ]) (.inl hk);have hv:m n=some u0:=by
  rcases lk with ⟨_,e⟩ | ⟨k,_⟩
  ·exact e
  ·have k:X.env.scope.names.lookup n=some .cell\/X.env.scope.names.lookup n=some .free:=k;rw [hk] at k;rcases k with k | k <;> cases k
 refine wpAny_onRaise (wpAny_unbindName_local hk hn hv hcls λh' u hn' hs=>?_);have cne:=I1.cne;have tracked:HOk X.prog X.w H h':=λb ob e=>by
  refine (I1.hok b ob e).stay (λc w' hc q=>(hs.2 c ?_).trans q) (λ_ q=>q) λ_ _ q=>q;rintro rfl;rcases hc with rfl | hc
  ·rw [I1.free] at e;cases e
  ·rw [I1.free] at hc;cases hc
 have far:∀b o,X.s₀.heap.get? b=some o->b≠X.env.locals:=λb o e=>Nat.ne_of_lt (Nat.lt_of_lt_of_le (Heap.lt_size e) I1.ok.above);refine h _ ⟨I1.ok,I1.os,I1.bare,⟨λb o e n hb hx=>?_,λb o e n hb hx=>?_,I1.base.free,λb o e hx=>?_,I1.base.tups,I1.base.frzs,I1.base.tbls⟩,⟨_,hn',λj y v' e1 e2 e3=>?_⟩,λy c e=>?_,I1.free,I1.freeC,λp hp=>?_,tracked,by simpa using I.len⟩
 ·exact (hs.2 b (far b o e)).trans (I1.base.keep b o e n hb hx)
 ·obtain ⟨sl,e1⟩:=I1.base.slot b o e n hb hx;exact ⟨sl,(hs.2 b (far b o e)).trans e1⟩
 ·obtain ⟨o',e1⟩:=I1.base.there b o e hx;exact ⟨o',(hs.2 b (far b o e)).trans e1⟩
 ·by_cases hj:j=i
  ·subst hj;rw [List.getElem?_set_self hiZ] at e2
   cases e2
  ·rw [List.getElem?_set_ne (Ne.symm hj)] at e2;obtain ⟨u',r',q⟩:=hl j y v' e1 (by rw [List.getElem?_set_ne (Ne.symm hj)];exact e2) e3;refine ⟨u',r',?_⟩;rcases q with ⟨k,e⟩ | ⟨k,c,e,z⟩
   ·refine .inl ⟨k,?_⟩;have:y≠n:=λe=>hj (GW hN e1 (e ▸ hi));simp [this,e]
   ·exact .inr ⟨k,c,e,z.sameBut hs (cne y c e)⟩
 ·obtain ⟨w',z⟩:=I1.cell y c e;exact ⟨w',z.sameBut hs (cne y c e)⟩
 ·obtain ⟨e,n,ne,nf,d⟩:=I1.pin p hp;exact ⟨(hs.2 p.1 ne).trans e,n,ne,nf,d⟩
end
def PH (qx:Bool)(X:Cx)(hs:List ExceptHandler)(th:Addr->Addr->Option Addr->TS):Prop:=∀(pins:List (Addr×Obj)) (s:Shared) (Z:St) (H:Hp) (x C:Addr) (dx:Option Addr) (T:Addr) (D:Ends),Inv X pins Z H s->XOn qx X pins H s x C dx (some T) .none->th x C dx D Z H->
 wpAny (model X.prog X.w) X.A (handleBy (.ref x) X.env hs) (SP X pins D) X.xe s
noncomputable def Ends.unset (D:Ends)(i:Nat):Ends:={ nx:=λZ H=>D.nx (Z.set i none) H,rt:=D.rt,bk:=λZ H=>D.bk (Z.set i none) H,ct:=λZ H=>D.ct (Z.set i none) H }
section
variable {X:Cx}{n v:Str}{C':Addr}{bm':List Value}{p pos:Pos}{b₀:Stmt}{suite:List Stmt}{rest:List ExceptHandler}{ts:Addr->TS}{tr:Addr->Addr->Option Addr->TS}{i:Nat}
def UY (K:PySem.W.Frag)(C':Addr)(i:Nat)(ts:Addr->TS)(tr:Addr->Addr->Option Addr->TS):Addr->Addr->Option Addr->TS:=λx C dx D Z H=>∃bm,XCl K C bm/\
 if (Value.ref C :: bm).contains (.ref C')=true then ts x (D.unset i) (Z.set i (some (.ref x))) H else tr x C dx D Z H
theorem Tx (hg:Gl X n)(hm:X.mg n=some (.ref C'))(c':XCl X.K C' bm')(hN:X.N.Nodup)(hi:X.N[i]?=some v)(hl:X.env.scope.names.lookup v=some .local)(hb:∀x,PSs (X.mark x) (b₀ :: suite) (ts x))(hr:PH qx X rest tr)
 (hdb:(n == ("__debug__" : Str))=false:=by decide):PH qx X (.ExceptHandler (some (.Name n p)) (some v) (b₀ :: suite) pos :: rest) (UY X.K C' i ts tr):=by
 intro pins s Z H x C dx T D I o ⟨bm,c,q⟩;have Im:=I.mark x;refine wpAny_handleBy_cons (codeAny_handlers_test (Et Im hg hm ?_ hdb)) (by intro z;cases z)
 refine Ot c c' I.kIn o.rc ?_
 cases hc:(Value.ref C :: bm).contains (.ref C') with
 | false=>
   rw [hc,if_neg (by decide)] at q;exact hr pins s Z H x C dx T D I o q
 | true=>
   rw [hc,if_pos rfl] at q;refine codeAny_handlers_suite_as ?_;refine Gx none I o (.inl rfl) λh1 I1 o1=>?_;refine FC (v:=.ref x) I1 hN hi (.inl hl) rfl (λs2 I2=>?_) (.inr hl);refine wpAny_mono (hb x pins s2 _ H _ (I2.mark x) q) (λf s3 z=>?_) λ_ _ z=>z.elim;show wpAny _ _ _ _ _ _;have J:=I.ok
   cases f with
   | next=>obtain ⟨Z',H',I',q'⟩:=z;exact FD (I'.unmark J) hN hi hl λs4 I4=>⟨_,H',I4,q'⟩
   | brk=>obtain ⟨Z',H',I',q'⟩:=z;exact FD (I'.unmark J) hN hi hl λs4 I4=>⟨_,H',I4,q'⟩
   | cont=>obtain ⟨Z',H',I',q'⟩:=z;exact FD (I'.unmark J) hN hi hl λs4 I4=>⟨_,H',I4,q'⟩
   | ret u=>obtain ⟨w,Z',H',I',r,q'⟩:=z;exact FD (I'.unmark J) hN hi hl λs4 I4=>⟨w,_,H',I4,r,q'⟩
theorem Sc {body:List Stmt}{h₀:ExceptHandler}{hs:List ExceptHandler}{tb:(St->XK)->TS}{th:Addr->Addr->Option Addr->TS}(h1:X.stack=X.env :: X.outer)(h2:X.env.frame=some X.env.locals)
 (hb:∀(pn:List (Addr×Obj)) (E:St->XK),PSs { X with pn:=pn,xe:=XE qx { X with pn:=pn } E } body (tb E)) (hh:PH qx X (h₀ :: hs) th) :
 PS X (.Try body (h₀ :: hs) [] [] pos) (λD Z H=>tb (λZ' v dx H'=>∀x C,v = .ref x->H' x=some (.ext (F2.XIs qx x C dx))->(∃h,F2.XIs qx x C dx h)->th x C dx D Z' H') D Z H):=by
 intro pins s Z H D I q;refine wpAny_Try_except ?_;refine wpAny_mono (hb (X.pn++pins) _ [] s Z H D (I.repin λp hp=>by simpa using hp) q) (λf s1 z=>?_) λe s1 z=>?_
 ·have back:∀{Z':St} {H':Hp},Inv { X with pn:=X.pn++pins,xe:=XE qx { X with pn:=X.pn++pins } (λZ' v dx H'=>∀x C,v = .ref x->H' x=some (.ext (F2.XIs qx x C dx))->(∃h,F2.XIs qx x C dx h)->th x C dx D Z' H') } [] Z' H' s1->Inv X pins Z' H' s1:=λJ=>J.repin (X:={ X with pn:=X.pn++pins,xe:=_ }) (pn':=X.pn) (pins':=pins) (xe:=X.xe) λp hp=>by simpa using hp
  cases f with
  | next=>obtain ⟨Z',H',J,q'⟩:=z;exact wpAny_execs_nil ⟨Z',H',back J,q'⟩
  | brk=>obtain ⟨Z',H',J,q'⟩:=z;exact ⟨Z',H',back J,q'⟩
  | cont=>obtain ⟨Z',H',J,q'⟩:=z;exact ⟨Z',H',back J,q'⟩
  | ret u=>obtain ⟨w,Z',H',J,r,q'⟩:=z;exact ⟨w,Z',H',back J,r,q'⟩
 ·obtain ⟨pins',Z',H',x,C,dx,T,fl,rfl,J,o,q'⟩:=z;have J1:Inv X pins Z' H' s1:=J.repin (X:={ X with pn:=X.pn++pins }) (pn':=X.pn) (pins':=pins) (xe:=X.xe) λp hp=>by
   simp only [List.mem_append] at hp ⊢;exact .inl hp
  have o1:XOn qx X pins H' s1 x C dx T fl:=⟨o.hx,o.nx,o.rc,λa e=>by
   obtain ⟨z1,z2,z3,⟨y1,y2,y3⟩,z5⟩:=o.tb a e;exact ⟨z1,z2,z3,⟨y1,y2,λp hp=>y3 p (by simp only [List.mem_append] at hp ⊢;exact .inl hp)⟩,z5⟩,o.fo⟩
  refine GX J1.ok.frames J1 h1 h2 o1 λh' a I' o'=>Gx none I' o' (.inl rfl) λh'' I'' o''=>?_;exact hh pins _ Z' H' x C dx a D I'' o'' (q' x C rfl o.hx ⟨_,o.rc.is⟩)
end
end L2
namespace F2
open PySem L2 PySem.Spec
variable {qx:Bool}
noncomputable def BG:D->Bool
 | .exc _ _=>true
 | _=>false
def exE (E:XK)(v:V)(H:Hp):Prop:=∀x dx,v = .ref x->E (.ref x) dx H
section
variable (K:PySem.W.Frag)
def RX (E:L2.St->XK)(f:M D):TE:=λZ H Q=>∃Oo c t,FInv K Oo c t Z H/\∃r t',f t=some (r,t')/\∀v H' c',FInv K Oo c' t' Z H'->Stp Oo c H c' H'->Rep K c' H' v r->if BG r=true then exE (E Z) v H' else Q v H'
def μX (E:XK):Cf->Hp->D->(V->Hp->Prop)->Prop:=λc H r rt=>∀v,Rep K c H v r->if BG r=true then exE E v H else rt v H
def RSX (E:L2.St->XK)(f:M Out):TS:=λD Z H=>∃Oo c t,FInv K Oo c t Z H/\∃o t',f t=some (o,t')/\∀Z' H' c',FInv K Oo c' t' Z' H'->Stp Oo c H c' H'->
 match o with
 | .next=>D.nx Z' H'
 | .brk=>D.bk Z' H'
 | .cont=>D.ct Z' H'
 | .ret r=>∀v,Rep K c' H' v r->if BG r=true then exE (E Z') v H' else D.rt v H'
def spX (f:Fn):Sp:=λvs H Q E=>∃c ds S,SInv K c S H/\Reps K c H vs ds/\∃r S',f ds S=some (r,S')/\
 ∀v H' c',SInv K c' S' H'->Stp c.O c H c' H'->(∀b,c'.O b↔c.O b)->Rep K c' H' v r->if BG r=true then exE E v H' else Q v H'
end
def VU (g:Fn):Fn:=λds S=>match g ds S with
 | some (r,S')=>if BG r=true then none else some (r,S')
 | none=>none
variable {x:Str}{fa:Addr}{fd:FuncData}{k:Nat}
section
variable {P:Program}{w:World}{K:PySem.W.Frag}{mg:Str->Option Value}{base:Heap}
theorem C6 {qual:Str}{st:Stmt}{N ps:List Str}{n m:Nat}{g:M Out}(e1:ps.length=n)(e2:N.length=m)(F:Fun K x qual st fa fd)(S:FnScope N ps (Av st))
 (hb:∀(cdv:Value) (A:Around) (outer:List Env) (s:Shared) (H:Hp) (E:XK),Room k (A.deeper (PyProof.Rows.envOfC qual (Av st) s.heap.objs.size fa cdv))->
   E4 (CX1 qx P w) (cxX qx P w K mg base N qual (Av st) fa cdv A outer s H E) (λ_=>E)->FJ qx (cxX qx P w K mg base N qual (Av st) fa cdv A outer s H E) (λ_=>E)->
   PassesOwn (model P w) (cxX qx P w K mg base N qual (Av st) fa cdv A outer s H E).A (cxX qx P w K mg base N qual (Av st) fa cdv A outer s H E).env (cxX qx P w K mg base N qual (Av st) fa cdv A outer s H E).xe->
   PSs (cxX qx P w K mg base N qual (Av st) fa cdv A outer s H E) (BV st) (RSg K (μX K E) g)):FnOk P w K mg base (CX1 qx P w) (k + 1) fa fd ps (spX K (fnOf n m g)):=by
 subst e1 e2;have hlen:∀{ds:List D} {S:List Ob} {z:D×List Ob},fnOf ps.length N.length g ds S=some z->ds.length=ps.length:=λ{ds S z} h=>by
  unfold fnOf at h
  split at h
  ·next h1=>exact h1
  ·cases h
 refine F.okX S (λvs H Q E h=>?_) (λcdv A outer s H vs Q E hr h=>?_)
 ·obtain ⟨c,ds,S,si,rs,r,S',e,_⟩:=h;rw [rs.length];exact hlen e
 obtain ⟨c,ds,S0,si,rs,r,S',e,kk⟩:=h;refine ⟨RSg K (μX K E) g,hb cdv A outer s H E hr XE.pass XE.raises (XE.own rfl rfl),?_⟩;have hl:=hlen e;unfold fnOf at e;rw [if_pos hl] at e
 cases eg:g ⟨env0 N.length ds,S0⟩ with
 | none=>rw [eg] at e;cases e
 | some p=>
   obtain ⟨o,t⟩:=p;rw [eg] at e;refine ⟨c.O,c,_,Hf si rs,o,t,eg,λZ' H' c' f' s'=>?_⟩;obtain ⟨si',ext'⟩:=f'.leave;have st':Stp c.O c H ⟨c'.ι,c.O⟩ H':=⟨s'.ext.trans ext',s'.oo⟩
   cases o with
   | next=>cases e;exact kk .non H' _ si' st' (λ_=>Iff.rfl) .non
   | ret d=>cases e;exact λv rv=>kk v H' _ si' st' (λ_=>Iff.rfl) (rv.mono ext')
   | brk=>cases e
   | cont=>cases e
theorem Da {ps:List Str}{f g:Fn}(e:f=g)(h:FnOk P w K mg base (CX1 qx P w) k fa fd ps (spX K g)):FnOk P w K mg base (CX1 qx P w) k fa fd ps (spX K f):=by rw [e];exact h
end
variable {f g:M D}{r:D}
section
variable {X:Cx}{e a b:Expr}{es:List Expr}{pos:Pos}{E:L2.St->XK}{st:Stmt}
theorem BY {E:XK}{f:M Out}(h:PS X st (RSX X.K (λ_=>E) f)):PS X st (RSg X.K (μX X.K E) f):=BT h λD Z H z9=>by
 obtain ⟨Oo,c,t,fi,o,t',eq,k⟩:=z9;refine ⟨Oo,c,t,fi,o,t',eq,λZ' H' c' f' s'=>?_⟩;have q:=k Z' H' c' f' s'
 cases o <;> exact q
theorem BH {ps:List Str}{g:Fn}{f:M (List D)}{p:Pos}(F:FnOk X.prog X.w X.K X.mg X.base (CX1 qx X.prog X.w) k fa fd ps (spX X.K g))(hr:Room k X.A)(hg:Gl X x)(hm:X.mg x=some (.ref fa))(hk:PySem.W.keepIn X.K (.ref fa)=true)(hb:Binds X.K fd ps [])
 (hx:E4 (CX1 qx X.prog X.w) X E) (ha:PA X (e :: es) (RA X.K f)) (hdb:(x == ("__debug__" : Str))=false:=by decide) (h1:BM e=false:=by rfl) (h2:B3 es=true:=by rfl) :
 PE X (.Call (.Name x p) (e :: es) [] pos) (RX X.K E (Aq g f)):=
 Bs (Oz F hr hg hm hk hb hx ha hdb (Bv h1) (Bz h2).1) λZ H Q z9=>by
  obtain ⟨Oo,c,t,fi,r,t',eq,kk⟩:=z9;obtain ⟨ds,t1,e1,eq⟩:=Ak eq;obtain ⟨S',e2,rfl⟩:=IT eq;refine ⟨Oo,c,t,fi,ds,t1,e1,λvs H1 c1 f1 s1 rvs=>?_⟩;refine ⟨c1,ds,t1.S,f1.s,rvs,r,S',e2,λv H' c' si st ho rv=>?_⟩;obtain ⟨f2,s2⟩:=f1.after si st ho;exact kk v H' c' f2 (s1.trans s2) rv
def nxD (f:M D):M D:=bnd f λd=>if BG d=true then fail else ret d
theorem KC {t t':T}(h:nxD f t=some (r,t')):f t=some (r,t')/\BG r=false:=by
 obtain ⟨d,t1,e1,h⟩:=Ak h
 by_cases hx:BG d=true
 ·rw [if_pos hx] at h;cases h
 ·rw [if_neg hx] at h;cases h;exact ⟨e1,by simpa using hx⟩
theorem Nk {A B:Prop}(h:BG r=false)(q:if BG r=true then A else B):B:=by rw [if_neg (by rw [h];decide)] at q;exact q
def HL (g:M D)(h:D->M D):M D:=bnd g λy=>if BG y=true then ret y else nxD (h y)
theorem RX.bind {K:PySem.W.Frag}{h:D->M D}{Z:L2.St}{H:Hp}{Q:VK}{Oo:Addr->Prop}{c:Cf}{t t':T}(fi:FInv K Oo c t Z H)(eq:HL g h t=some (r,t'))
 (k:∀v H' c',FInv K Oo c' t' Z H'->Stp Oo c H c' H'->Rep K c' H' v r->if BG r=true then exE (E Z) v H' else Q v H') {R:V->Hp->Prop}
 (s:∀y dy t1 H1 c1,FInv K Oo c1 t1 Z H1->Stp Oo c H c1 H1->Rep K c1 H1 y dy->h dy t1=some (r,t')->(∀v H' c',FInv K Oo c' t' Z H'->Stp Oo c1 H1 c' H'->Rep K c' H' v r->Q v H')->R y H1):RX K E g Z H R:=by
 obtain ⟨dy,t1,e1,eq⟩:=Ak eq;refine ⟨Oo,c,t,fi,dy,t1,e1,λy H1 c1 f1 s1 ry=>?_⟩
 by_cases hx:BG dy=true
 ·rw [if_pos hx] at eq ⊢
  cases eq
  have:=k y H1 c1 f1 s1 ry;rw [if_pos hx] at this;exact this
 ·rw [if_neg hx] at eq ⊢;obtain ⟨e2,e3⟩:=KC eq;exact s y dy t1 H1 c1 f1 s1 ry e2 λv H' c' f' s' rv=>Nk e3 (k v H' c' f' (s1.trans s') rv)
def Hc (f g:M D)(h:D->D->M D):M D:=bnd f λx=>HL g λy=>h x y
theorem RX.two {K:PySem.W.Frag}{h:D->D->M D}{R:R2}(s:BD K R h){Z:L2.St}{H:Hp}{Q:VK}(q:RX K E (Hc f g h) Z H Q):tOp R (RE K f) (RX K E g) Z H Q:=by
 obtain ⟨Oo,c,t,fi,r,t',eq,k⟩:=q;obtain ⟨dx,t1,e1,eq⟩:=Ak eq;refine ⟨Oo,c,t,fi,dx,t1,e1,λx H1 c1 f1 s1 rx=>?_⟩;exact RX.bind f1 eq (λv H' c' f' s' rv=>k v H' c' f' (s1.trans s') rv) λy dy t2 H2 c2 f2 s2 ry e2 kk=>s f2 (rx.mono s2.ext) ry e2 kk
theorem Pl {op:Operator}{R:R2}{h:D->D->M D}(ho:OpR X (binaryOp op) R)(s:BD X.K R h)(ha:PE X a (RE X.K f))(hb:PE X b (RX X.K E g)):PE X (.BinOp a op b pos) (RX X.K E (Hc f g h)):=
 Bs (MA ho ha hb) λ_ _ _ q=>RX.two s q
def VP (f g:M D)(h:D->D->M D):M D:=HL f λx=>bnd g λy=>h x y
def VI (g:Fn)(f:M D):M D:=HL f λd t=>match g [d] t.S with
 | some (r,S')=>some (r,{ t with S:=S' })
 | none=>none
theorem E9 (h:PE X e (RX X.K E f)):PS X (.Return (some e) pos) (RSX X.K E (AN f)):=
 BT (KK h) λD Z H z9=>by
  obtain ⟨Oo,c,t,fi,o,t',eq,k⟩:=z9;obtain ⟨d,t1,e1,eq⟩:=Ak eq
  cases eq
  exact ⟨Oo,c,t,fi,d,_,e1,λv H1 c1 f1 s1 rv=>k Z H1 c1 f1 s1 v rv⟩
def DU (i:Nat)(f:M D):M Out:=bnd f λd=>if BG d=true then ret (.ret d) else bnd (BI i d) λ_=>ret .next
theorem Ci {i:Nat}{pos':Pos}(hN:X.N.Nodup)(hi:X.N[i]?=some x)(hx:Loc X.env.scope x)(he:PE X e (RX X.K E f))(hs:swapsWith e (some (.Name x pos')) pos.line X.env=pure false:=by rfl)(hf:X.fn x=true\/X.env.scope.names.lookup x=some .local:=by first | exact .inl rfl | exact .inr rfl | assumption) :
 PS X (.Assign [.Name x pos'] e pos) (RSX X.K E (DU i f)):=BT (KL hN hi hx he hs hf) λD Z H z9=>by
 obtain ⟨Oo,c,t,fi,o,t',eq,k⟩:=z9;obtain ⟨d,t1,e1,eq⟩:=Ak eq;refine ⟨Oo,c,t,fi,d,t1,e1,λv H1 c1 f1 s1 rv=>?_⟩
 by_cases hx:BG d=true
 ·rw [if_pos hx] at eq ⊢
  cases eq
  have:=k Z H1 c1 f1 s1 v rv;rw [if_pos hx] at this;exact this
 ·rw [if_neg hx] at eq ⊢
  cases eq
  exact k _ H1 c1 (f1.set rv) s1
def VO (f:M D):M Out:=bnd f λd=>if BG d=true then ret (.ret d) else ret .next
def VT (f:M D)(g:D->M Unit):M Out:=bnd f λd=>if BG d=true then ret (.ret d) else bnd (g d) λ_=>ret .next
theorem Oe {f:M Out}(h:PS X st (RSX X.K E f)):PSs X [st] (RSX X.K E f):=Il h
end
end F2
namespace L2
open PySem PySem.Spec PyProof.Rows PySem.W PySem.Builtin PySem.Builtin.ObjectAttr
structure XGet (K:PySem.W.Frag)(C:Addr):Prop where
 ga:findIn K (.ref C) "__getattribute__" = some (some (.builtin "BaseException.__getattribute__"))
 gt:findIn K (.ref C) "__getattr__" = some none
 mb:mroIn K C (.type "BaseException")=some true
 mo:mroIn K C (.type "object")=some true
 hd:hasDictIn K C=true
section
variable {prog:Program}{w:World}{A:Around}{E:Value->Shared->Prop}{s:Shared}{K:PySem.W.Frag}{x C:Addr}{ox:Obj}{od:Option Obj}{name:Str}{tk:Tok}{Q:Value->Shared->Prop}{R:Result->Shared->Prop}
theorem IZ {fill expr:Bool}(X:K.In s.heap)(I:InstAt s.heap x ox C od)(g:XGet K C)
 (h:codeAny (model prog w) A (.call (.builtin "BaseException.__getattribute__") ⟨[.ref x,.str name tk],[]⟩) (λr s'=>match r with | .ok (.ret v)=>wpAny (model prog w) A (handedOut v) Q E s' | _=>False) s) :
 wpAny (model prog w) A (getAttrBy (.ref x) (.str name tk) fill expr) Q E s:=by
 have L0:=I.type (M:=model prog w);have L1:=looks_findIn (M:=model prog w) X g.ga;have L2:=looks_findIn (M:=model prog w) X g.gt;have ne:(onTheHeap (Value.ref C) && Value.builtin "BaseException.__getattribute__" == Value.builtin "object.__getattribute__")=false:=by
  rw [show (Value.builtin "BaseException.__getattribute__" == Value.builtin "object.__getattribute__")=false from by decide +kernel];rfl
 unfold getAttrBy;refine wpAny_holding (wpAny_bind (L0.here (wpAny_bind (L1.here ?_))));show wpAny _ _ (if (onTheHeap (Value.ref C) && Value.builtin "BaseException.__getattribute__" == Value.builtin "object.__getattribute__")=true then _ else _) _ _ _;rw [if_neg (by rw [ne];decide)];unfold getAttrByItsOwn hookBefore;rw [if_pos (show onTheHeap (Value.ref C)=true from rfl)];refine wpAny_bind (L2.here (wpAny_bind (wpAny_attempt (wpAny_holding ?_))));unfold callGetattribute;rw [if_neg (show ¬((expr && onTheHeap (Value.builtin "BaseException.__getattribute__"))=true) from by cases expr <;> decide)];unfold boundAndCalled;refine wpAny_bind (wpAny_of_eq (PySem.F.excAttr_ValueError.ga.bind _) (wpAny_call (codeAny_mono h λr s' z=>?_)))
 cases r with
 | error e=>exact z.elim
 | ok f=>cases f <;> first | exact z | exact z.elim
theorem Kn (X:K.In s.heap)(I:InstAt s.heap x ox C od)(g:XGet K C)
 (h:wpAny (model prog w) A.in1 («object.__getattribute__» ⟨[.ref x,.str name tk],[]⟩) (λfin s'=>match fin with | .done f=>R (.ok f) s' | .again c'=>c'.quiet=true/\codeAny (model prog w) A c' R s') (λe s'=>R (.error e) s') s) :
 codeAny (model prog w) A (.call (.builtin "BaseException.__getattribute__") ⟨[.ref x,.str name tk],[]⟩) R s:=by
 have ob:Looks (model prog w) s.heap (isInstance (.ref x) (.type "BaseException")) true:=I.type.andThen (looks_mroIn X g.mb);refine codeAny_call_builtin PySem.F.excAttr_ValueError.ga.plain PySem.F.entry_bexc_ga (@check_slot (model prog w) _ _ s "BaseException.__getattribute__" "BaseException" "__getattribute__" (.ref x) [.str name tk] [] _ (by decide +kernel) (by decide +kernel) ob (PySem.F.args_bexc_ga (.ref x) (.str name tk)) h)
theorem Og {v:Value}(X:K.In s.heap)(I:InstAt s.heap x ox C od)(g:XGet K C)(hf:findObj K C od name=some (.value v))(h:R (.ok (.ret v)) s) :
 codeAny (model prog w) A (.call (.builtin "BaseException.__getattribute__") ⟨[.ref x,.str name tk],[]⟩) R s:=by
 refine Kn X I g ?_;have L0:=I.type (M:=model prog w);have L1:=looks_find (M:=model prog w) X I hf;refine wpAny_bind (wpAny_pure (wpAny_bind (wpAny_pure (wpAny_bind (L0.here (wpAny_bind (L1.here ?_)))))));exact wpAny_pure h
theorem P7 {gg a:Value}(X:K.In s.heap)(I:InstAt s.heap x ox C od)(g:XGet K C)(hf:findObj K C od name=some (.bind gg a))(h:codeAny (model prog w) A.in1 (.call gg ⟨[a,.ref x,.ref C],[]⟩) (λr s'=>match r with | .ok (.ret v)=>R (.ok (.ret v)) s' | .ok _=>False | .error e=>R (.error e) s') s) :
 codeAny (model prog w) A (.call (.builtin "BaseException.__getattribute__") ⟨[.ref x,.str name tk],[]⟩) R s:=by
 refine Kn X I g ?_;have L0:=I.type (M:=model prog w);have L1:=looks_find (M:=model prog w) X I hf;refine wpAny_bind (wpAny_pure (wpAny_bind (wpAny_pure (wpAny_bind (L0.here (wpAny_bind (L1.here ?_)))))));show wpAny _ _ (bindTo gg a (.ref x) (.ref C)) _ _ _;unfold bindTo;refine wpAny_bind (wpAny_holding (wpAny_call (codeAny_mono h λr s' z=>?_)))
 cases r with
 | error e=>exact z
 | ok f=>cases f <;> first | exact wpAny_pure z | exact z.elim
end
end L2
namespace L2
open PySem PySem.Spec PyProof.Rows PySem.W
theorem PU (K:PySem.W.Frag):specialIn K (.builtin "object.__class__") "__get__" = some (some (.builtin "getset_descriptor.__get__")):=by kernel_rfl
theorem M6 (K:PySem.W.Frag):takesIn K (.builtin "object.__class__")=some true:=by kernel_rfl
theorem Kl {K:PySem.W.Frag}{C:Addr}{od:Option Obj}(hc:(clsIn K C).isSome=true)(ha:findIn K (.ref C) "__class__" = some (some (.builtin "object.__class__"))):findObj K C od "__class__" = some (.bind (.builtin "getset_descriptor.__get__") (.builtin "object.__class__")):=by
 obtain ⟨cd,hc⟩:=Option.isSome_iff_exists.mp hc;unfold findObj;rw [hc,Option.bind_some,ha,Option.bind_some];simp [PU,M6]
def Pf (x C:Addr)(h:Heap):Prop:=∃ox od,InstAt h x ox C od
theorem Kt {K:PySem.W.Frag}{x C:Addr}(g:XGet K C)(ha:findIn K (.ref C) "__class__" = some (some (.builtin "object.__class__"))):KitX K (.ref x) (.ref C) (Pf x C) where
 ty:=λ_ _ _ ⟨_,_,I⟩=>I.type
 it:=λ_ _ X _=>by
  obtain ⟨cd,hc,_⟩:=any_some g.hd;unfold clsIn at hc
  split at hc
  ·next ho=>
   intro A' Q' E' s' k q;unfold isType loadHead;exact wpAny_bind (wpAny_loadPart (k _ _ (X _ _ ho)) (wpAny_pure q))
  ·cases hc
 ne:=λh tp dd its n sl X htp=>by
  obtain ⟨cd,hc,_⟩:=any_some g.hd;refine Bool.eq_false_iff.mpr λq=>?_;have e:C=tp:=Value.ref.inj (beq_iff_eq.mp q);subst e;unfold clsIn at hc
  split at hc
  ·next ho=>
   have z:=(X _ _ ho).symm.trans htp
   cases z
  ·cases hc
 ca:=λ{prog w A E Q s} X z9 k=>by
  obtain ⟨ox,od,I⟩:=z9;obtain ⟨cd,hc,_⟩:=any_some g.hd;unfold getAttr? getAttrBy?;refine wpAny_bind (wpAny_mkText (wpAny_bind (wpAny_attempt ?_)));refine IZ (s:={ s with toks:=s.toks + 1 }) X I g (P7 X I g (Kl (by rw [hc];rfl) ha) (class_get (s:={ s with toks:=s.toks + 1 }) X I g.mo ?_));exact handed_on rfl (wpAny_pure k)
end L2
namespace F2
open PySem L2 PySem.Spec PySem.W
variable {qx:Bool}
abbrev Bw:List Str:=["NoValue", "Short", "Broken", "NoTalk", "NoName", "NoText", "NoRow"]
structure XM (K:PySem.W.Frag)(mg:Str->Option Value)(P:Addr)(ca:Str->Addr):Prop where
 pm:mg "ParleyError" = some (.ref P)
 pc:XCl K P VE
 ns:∀n∈Bw,nsIn K mainGlobals n=some (some (.ref (ca n)))
 ms:∀n∈Bw,mg n=some (.ref (ca n))
 cl:∀n∈Bw,XCl K (ca n) (.ref P :: VE)
 inj:∀n∈Bw,∀m∈Bw,ca n=ca m->n=m
 np:∀n∈Bw,ca n≠P
 kp:∀n∈Bw,keepIn K (.ref (ca n))=true
 gt:∀n∈Bw,XGet K (ca n)
 gc:∀n∈Bw,findIn K (.ref (ca n)) "__class__" = some (some (.builtin "object.__class__"))
 na:∀n∈Bw,findIn K (.ref (ca n)) "at" = some none
 nd:∀n∈Bw,findIn K (.ref (ca n)) "side" = some none
noncomputable def Dw (n m:Str):Bool:=m == "ParleyError" || m == "ValueError" || n == m
theorem DG {a b:Addr}{r:List Value}:(Value.ref a :: r).contains (.ref b)=(a == b || r.contains (.ref b)):=by
 rw [List.contains_cons]
 congr 1
 by_cases h:a=b
 ·subst h;simp
 ·rw [beq_eq_false_iff_ne.mpr h,beq_eq_false_iff_ne.mpr (λz:Value.ref b=Value.ref a=>h (Value.ref.inj z).symm)]
theorem Re {b:Addr}:VE.contains (.ref b)=false:=rfl
section
variable {K:PySem.W.Frag}{mg:Str->Option Value}{P:Addr}{ca:Str->Addr}
theorem XM.subP (x:XM K mg P ca){n:Str}(hn:n∈Bw):(Value.ref (ca n) :: .ref P :: VE).contains (.ref P)=Dw n "ParleyError":=by
 rw [DG,DG,beq_self_eq_true,Bool.true_or,Bool.or_true];rfl
theorem XM.subE (x:XM K mg P ca){n m:Str}(hn:n∈Bw)(hm:m∈Bw):(Value.ref (ca n) :: .ref P :: VE).contains (.ref (ca m))=Dw n m:=by
 rw [DG,DG,Re,beq_eq_false_iff_ne.mpr (Ne.symm (x.np m hm)),Bool.or_false,Bool.or_false];have h1:(m == ("ParleyError" : Str))=false/\(m == ("ValueError" : Str))=false:=by
  simp only [Bw,List.mem_cons,List.not_mem_nil,or_false] at hm;rcases hm with rfl | rfl | rfl | rfl | rfl | rfl | rfl <;> exact ⟨by decide,by decide⟩
 unfold Dw;rw [h1.1,h1.2,Bool.false_or,Bool.false_or]
 by_cases h:n=m
 ·subst h;rw [beq_self_eq_true,beq_self_eq_true]
 ·rw [beq_eq_false_iff_ne.mpr h,beq_eq_false_iff_ne.mpr λz=>h (x.inj n hn m hm z)]
theorem XM.of (x:XM K mg P ca){n:Str}{C:Addr}(hn:n∈Bw)(h:nsIn K mainGlobals n=some (some (.ref C))):C=ca n:=by
 rw [x.ns n hn] at h;injection h with h;injection h with h;injection h with h
 exact h.symm
end
theorem Q5 {q1 q2:Bool}{x C C':Addr}{dx dx':Option Addr}(h:XIs q1 x C dx=XIs q2 x C' dx')(e:∃h,XIs q1 x C dx h):C=C'/\dx=dx':=by
 obtain ⟨hh,o,vs,e1,e2,e3,e4⟩:=e;have q:XIs q2 x C' dx' hh:=by rw [<-h];exact ⟨o,vs,e1,e2,e3,e4⟩
 obtain ⟨o',vs',q1,q2,q3,q4⟩:=q;rw [e1] at q1;cases q1
 rw [e2] at q2;cases q2
 exact ⟨rfl,e3.symm.trans q3⟩
section
variable {X:Cx}{e:Expr}{es:List Expr}{pos p pos2:Pos}{E:L2.St->XK}{P:Addr}{ca:Str->Addr}
def VL (n:Str)(f:M (List D)):M Out:=bnd f λds=>match ds with
 | [d]=>ret (.ret (.exc n [d]))
 | _=>fail
def XN0 (K:PySem.W.Frag)(C:Addr):Prop:=∃cd,clsIn K C=some cd/\nsIn K cd.ns "__init__" = some none
def Hx (n:Str)(f:M (List D)):M Out:=bnd f λds=>if ds.length<=1000 then ret (.ret (.exc n [])) else fail
theorem Ng {n:Str}{f:M (List D)}(x:XM X.K X.mg P ca)(hn:n∈Bw)(hf:GO n=[])(xn:XN0 X.K (ca n))(hc:X.calm=true)(hx:FJ qx X E)(hg:Gl X n)(ha:PA X (e :: es) (RA X.K f))
 (hdb:(n == ("__debug__" : Str))=false:=by decide) (h1:BM e=false:=by rfl) (h2:B3 es=true:=by rfl):PS X (.Raise (some (.Call (.Name n p) (e :: es) [] pos)) none pos2) (RSX X.K E (Hx n f)):=by
 obtain ⟨cd,hcd,hni⟩:=xn;refine BT (KJ hc (x.cl n hn) hx (Qy (x.cl n hn) (x.kp n hn) hcd hni hg (x.ms _ hn) ha hdb (Bv h1) (Bz h2).1)) λD Z H z9=>?_;obtain ⟨Oo,c,t,fi,o,t',eq,k⟩:=z9;obtain ⟨ds,t1,e1,eq⟩:=Ak eq;refine ⟨Oo,c,t,fi,ds,t1,e1,λvs H1 c1 f1 s1 rvs=>?_⟩
 split at eq
 ·next hl=>
  cases eq
  refine ⟨by rw [rvs.length];exact hl,λy hy=>?_⟩;have f3:=f1.laid (o:=.ext (XIs qx y (ca n) none)) hy;exact k Z _ c1 f3 (s1.trans (f1.stp_laid hy)) (.ref y) (.exc (x.ns _ hn) AF (f1.s.free hy) (vs:=[]) rfl .nil) y none rfl
 ·cases eq
end
section
variable {X:Cx}{pos p:Pos}{P:Addr}{ca:Str->Addr}{μ:Cf->Hp->D->(V->Hp->Prop)->Prop}
def RH (K:PySem.W.Frag)(ca:Str->Addr)(μ:Cf->Hp->D->(V->Hp->Prop)->Prop)(h:D->M Out):Addr->Addr->Option Addr->TS:=λx C dx E Z H=>∃Oo c t n ds,FInv K Oo c t Z H/\n∈Bw/\C=ca n/\Rep K c H (.ref x) (.exc n ds)/\
 ∃o t',h (.exc n ds) t=some (o,t')/\∀Z' H' c',FInv K Oo c' t' Z' H'->Stp Oo c H c' H'->
  match o with
  | .next=>E.nx Z' H'
  | .brk=>E.bk Z' H'
  | .cont=>E.ct Z' H'
  | .ret r=>μ c' H' r E.rt
noncomputable def unE (i:Nat)(t:T):T:={ t with env:=t.env.set i none }
theorem FInv.unset {K:PySem.W.Frag}{Oo:Addr->Prop}{c:Cf}{t:T}{Z:L2.St}{H:Hp}(f:FInv K Oo c t Z H)(i:Nat):FInv K Oo c (unE i t) (Z.set i none) H:=by
 have neq:∀{j:Nat} {x:Sl},(t.env.set i none)[j]?=some (some x)->j≠i/\t.env[j]?=some (some x):=λ{j x} q=>by
  by_cases h:j=i
  ·subst h;rw [List.getElem?_set] at q
   split at q
   ·split at q
    ·injection q with q;cases q
    ·cases q
   ·next h1=>exact absurd rfl h1
  ·rw [List.getElem?_set_ne (Ne.symm h)] at q;exact ⟨h,q⟩
 refine ⟨f.s,by simp [unE,f.len],f.sub,λj e q=>?_,λj ds q=>?_,λj k ds es a q1 q2 q3 q4=>?_⟩
 ·obtain ⟨h,q⟩:=neq q;obtain ⟨u,h1,h2⟩:=f.val j e q;exact ⟨u,by rw [List.getElem?_set_ne (Ne.symm h)];exact h1,h2⟩
 ·obtain ⟨h,q⟩:=neq q;obtain ⟨a,vs,h1,h2⟩:=f.own j ds q;exact ⟨a,vs,by rw [List.getElem?_set_ne (Ne.symm h)];exact h1,h2⟩
 ·obtain ⟨h,q1⟩:=neq q1;obtain ⟨h',q2⟩:=neq q2;rw [List.getElem?_set_ne (Ne.symm h)] at q3;rw [List.getElem?_set_ne (Ne.symm h')] at q4;exact f.inj j k ds es a q1 q2 q3 q4
def hAs (n':Str)(i:Nat)(s:M Out)(r:D->M Out):D->M Out:=λe t=>match e with
 | .exc n ds=>if Dw n n'=true then (match s { t with env:=t.env.set i (some (.val (.exc n ds))) } with
   | some (o,t2)=>some (o,unE i t2)
   | none=>none) else r (.exc n ds) t
 | _=>none
def hNo (n':Str)(s:M Out)(r:D->M Out):D->M Out:=λe t=>match e with
 | .exc n ds=>if Dw n n'=true then s t else r (.exc n ds) t
 | _=>none
noncomputable def Rw:D->M Out:=λ_ _=>none
theorem Ru:PH qx X [] (RH X.K ca μ Rw):=by
 rintro _ _ _ _ _ _ _ _ _ _ _ ⟨_,_,_,_,_,_,_,_,_,_,_,e,_⟩
 cases e
theorem Tm {n' v:Str}{C':Addr}{bm':List Value}{i:Nat}{b₀:Stmt}{suite:List Stmt}{rest:List ExceptHandler}{s:M Out}{r:D->M Out}(x:XM X.K X.mg P ca)(hg:Gl X n')(hm:X.mg n'=some (.ref C'))(c':XCl X.K C' bm')(hs:∀n∈Bw,(Value.ref (ca n) :: .ref P :: VE).contains (.ref C')=Dw n n')
 (hN:X.N.Nodup) (hi:X.N[i]?=some v) (hl:X.env.scope.names.lookup v=some .local) (hb:∀x,PSs (X.mark x) (b₀ :: suite) (RSg X.K μ s)) (hr:PH qx X rest (RH X.K ca μ r)) (hdb:(n' == ("__debug__" : Str))=false:=by decide) :
 PH qx X (.ExceptHandler (some (.Name n' p)) (some v) (b₀ :: suite) pos :: rest) (RH X.K ca μ (hAs n' i s r)):=by
 intro pins s0 Z H y C dx T D I o q;refine Tx hg hm c' hN hi hl hb hr hdb pins s0 Z H y C dx T D I o ?_;obtain ⟨Oo,c,t,n,ds,fi,hn,rfl,rv,o1,t',eq,k⟩:=q;refine ⟨_,x.cl n hn,?_⟩;rw [hs n hn];unfold hAs at eq;dsimp only at eq
 by_cases hb':Dw n n'=true
 ·rw [if_pos hb'] at eq ⊢
  cases e1:s { t with env:=t.env.set i (some (.val (.exc n ds))) } with
  | none=>rw [e1] at eq;cases eq
  | some z=>
    obtain ⟨o2,t2⟩:=z;rw [e1] at eq
    cases eq
    refine ⟨Oo,c,_,fi.set rv,o1,t2,e1,λZ' H' c2 f2 s2=>?_⟩;have:=k _ H' c2 (f2.unset i) s2
    cases o1 <;> exact this
 ·rw [if_neg hb'] at eq ⊢;exact ⟨Oo,c,t,n,ds,fi,hn,rfl,rv,o1,t',eq,k⟩
noncomputable def E3 (b:M Out)(h:D->M Out):M Out:=λt=>match b t with
 | some (.ret (.exc n ds),t1)=>if n∈Bw then h (.exc n ds) t1 else none
 | z=>z
theorem Rv {body:List Stmt}{h₀:ExceptHandler}{hs:List ExceptHandler}{b:M Out}{h:D->M Out}(x:XM X.K X.mg P ca)(hμ:∀c H r rt,BG r=false->(∀v,Rep X.K c H v r->rt v H)=μ c H r rt)(h1:X.stack=X.env :: X.outer)(h2:X.env.frame=some X.env.locals)
 (hb:∀(pn:List (Addr×Obj)) (E:L2.St->XK),E4 (CX1 qx X.prog X.w) { X with pn:=pn,xe:=XE qx { X with pn:=pn } E } E->PSs { X with pn:=pn,xe:=XE qx { X with pn:=pn } E } body (RSX X.K E b)) (hh:PH qx X (h₀ :: hs) (RH X.K ca μ h)):PS X (.Try body (h₀ :: hs) [] [] pos) (RSg X.K μ (E3 b h)):=
 BT (Sc h1 h2 (λpn E=>hb pn E (XE.pass (X:={ X with pn:=pn }))) hh) λD Z H z9=>by
  obtain ⟨Oo,c,t,fi,o,t',eq,k⟩:=z9;unfold E3 at eq
  cases e1:b t with
  | none=>rw [e1] at eq;cases eq
  | some z=>
    obtain ⟨o1,t1⟩:=z;rw [e1] at eq;refine ⟨Oo,c,t,fi,o1,t1,e1,λZ1 H1 c1 f1 s1=>?_⟩
    cases o1 with
    | next=>cases eq;exact k Z1 H1 c1 f1 s1
    | brk=>cases eq;exact k Z1 H1 c1 f1 s1
    | cont=>cases eq;exact k Z1 H1 c1 f1 s1
    | ret r=>
      intro v rv
      cases hx:BG r with
      | false=>
        rw [if_neg (by decide)];have eq':some (Out.ret r,t1)=some (o,t'):=by cases r <;> first | exact eq | cases hx
        cases eq'
        have q:=k Z1 H1 c1 f1 s1;have q:μ c1 H1 r D.rt:=q;rw [<-hμ _ _ _ _ hx] at q;exact q v rv
      | true=>
        rw [if_pos rfl];intro y dx hv y' C hy' hC hex
        cases rv with
        | @exc q0 x0 C0 dx0 n vs ds g hx0 hA fl rs=>
          cases hv
          cases hy'
          dsimp only at eq
          split at eq
          ·next hn=>
           rw [hx0] at hC;injection hC with hC;injection hC with hC
           obtain ⟨e2,e3⟩:=Q5 hC.symm hex;have:=x.of hn g;exact ⟨Oo,c1,t1,n,ds,f1,hn,e2.trans this,.exc g hx0 hA fl rs,o,t',eq,λZ' H' c' f' s'=>k Z' H' c' f' (s1.trans s')⟩
          ·cases eq
        | _=>cases hx
end
end F2
namespace F2
open PySem L2 PySem.Spec PySem.W
variable {qx:Bool}
def EZ (n:Str):D->M D
 | .exc m _=>if m∈Bw then ret (.bl (Dw m n)) else fail
 | .non=>ret (.bl false)
 | .bl _=>ret (.bl false)
 | .int _=>ret (.bl false)
 | .str _=>ret (.bl false)
 | .lst _=>ret (.bl false)
 | .tup _=>ret (.bl false)
 | .dic=>ret (.bl false)
 | _=>fail
def MD (K:PySem.W.Frag)(c:Value):List V->Hp->VK->Prop:=λxs H Q=>∃x y t b,xs=[x,y]/\(∀u,RelV y u->u=c)/\
 (TyOf K H x t\/∃q0 a C dx,x = .ref a/\t = .ref C/\H a=some (.ext (XIs q0 a C dx))/\(∀d,dx=some d->∃fs,H d=some (.xd fs))/\XGet K C/\findIn K (.ref C) "__class__" = some (some (.builtin "object.__class__")))/\kitOne K t c=some b/\Q (.bl b) H
variable {C:Addr}
theorem PK {X:Cx}{pins:List (Addr×Obj)}{Z:L2.St}{H:Hp}{s:Shared}{a:Addr}{dx:Option Addr}(I:Inv X pins Z H s)(h:H a=some (.ext (XIs qx a C dx)))(hd:∀d,dx=some d->∃fs,H d=some (.xd fs)):Pf a C s.heap:=by
 obtain ⟨o,vs,e1,e2,e3,e4,_⟩:=(I.hok a _ h).1;have nc:notCls o=true:=by unfold notCls;rw [e4]
 cases dx with
 | none=>exact ⟨o,none,e1,e2,nc,by rw [e3];trivial⟩
 | some d=>
   obtain ⟨fs,hf⟩:=hd d rfl;obtain ⟨mA,n,_⟩:=(show ObjOk X.prog X.w H s.heap d (.xd fs) from I.hok d _ hf);obtain ⟨od,ho,_⟩:=ET n;exact ⟨o,some od,e1,e2,nc,by rw [e3];exact ho⟩
theorem IQ {X:Cx}{c:Value}:BR X (.builtin "isinstance") (MD X.K c):=by
 intro pins s Z H xs us Q I r h;obtain ⟨x,y,t,b,rfl,hy,ty,e,q⟩:=h;obtain ⟨u,w',rfl,rx,rt⟩:=GA r
 cases hy _ rt
 rcases ty with ty | ⟨q0,a,C,dx,rfl,rfl,ha,hd,g,gc⟩
 ·exact Ja I rx ty e λtk=>⟨.bl b,H,I.tok tk,rfl,q⟩
 ·cases (show u=Value.ref a from rx)
  exact kia_one (Kt g gc) I.kIn (PK I ha hd) e (λz=>nomatch z) λtk=>⟨.bl b,H,I.tok tk,rfl,q⟩
variable {K:PySem.W.Frag}
theorem RM {d:D}{T:String}{C':Addr}{bm':List Value}(h:tyD d=some T)(c':XCl K C' bm'):kitOne K (.type T) (.ref C')=some false:=by
 obtain ⟨cd,dd,k0,k1,k2,k3,k5,h1,h2,h3,h4,h5⟩:=c'.ex;have e1:clsIn K C'=some cd:=by unfold clsIn;rw [h1]
 have e2:typeIn K (.ref C')=some (.type "type"):=by
  show (K.lookup C').map _=_;rw [h1];rfl
 have z:((clsIn K C').isSome && typeIn K (.ref C') == some (.type "type"))=true:=by rw [e1,e2,Option.isSome_some,Bool.true_and];decide
 have hT:T = "NoneType"\/T = "bool"\/T = "int"\/T = "str"\/T = "list"\/T = "tuple"\/T = "dict":=by
  cases d <;> simp [tyD] at h <;> simp [<-h]
 unfold kitOne kitCls;rw [if_neg (by intro q;cases beq_iff_eq.mp q)]
 dsimp only;rw [if_pos z];rcases hT with rfl | rfl | rfl | rfl | rfl | rfl | rfl <;> rfl
theorem Qc {d:D}{T:String}(h:tyD d=some T):kitOne K (.type T) (.type "ValueError")=some false:=by
 have hT:T = "NoneType"\/T = "bool"\/T = "int"\/T = "str"\/T = "list"\/T = "tuple"\/T = "dict":=by
  cases d <;> simp [tyD] at h <;> simp [<-h]
 rcases hT with rfl | rfl | rfl | rfl | rfl | rfl | rfl <;> rfl
theorem NL {bm:List Value}(c:XCl K C bm)(v:Value):subIn K (.ref C) v=some ((Value.ref C :: bm).contains v):=by
 obtain ⟨cd,h1,h2,_⟩:=c.cls;show mroIn K C v=_;unfold mroIn;rw [h1,Option.bind_some,h2];rfl
theorem LL {C':Addr}{bm bm':List Value}(c:XCl K C bm)(c':XCl K C' bm'):kitOne K (.ref C) (.ref C')=some ((Value.ref C :: bm).contains (.ref C')):=by
 obtain ⟨cd,dd,k0,k1,k2,k3,k5,h1,h2,h3,h4,h5⟩:=c'.ex;have e1:clsIn K C'=some cd:=by unfold clsIn;rw [h1]
 have e2:typeIn K (.ref C')=some (.type "type"):=by
  show (K.lookup C').map _=_;rw [h1];rfl
 have z:((clsIn K C').isSome && typeIn K (.ref C') == some (.type "type"))=true:=by rw [e1,e2,Option.isSome_some,Bool.true_and];decide
 unfold kitOne kitCls
 by_cases h:C=C'
 ·subst h;rw [if_pos (by simp)];simp
 ·rw [if_neg (λq=>h (Value.ref.inj (beq_iff_eq.mp q)))];dsimp only;rw [if_pos z];exact NL c _
theorem Tq {P:Addr}(c:XCl K C (.ref P :: VE)):kitOne K (.ref C) (.type "ValueError")=some true:=by
 unfold kitOne kitCls;rw [if_neg (by intro q;cases beq_iff_eq.mp q)]
 dsimp only;rw [if_pos (by decide +kernel),NL c];rw [List.contains_cons,List.contains_cons,show VE.contains (.type "ValueError")=true from by decide +kernel,Bool.or_true,Bool.or_true]
section
variable {X:Cx}{P:Addr}{ca:Str->Addr}{a:Expr}{f:M D}{p pos q:Pos}
theorem LI {n:Str}{c:Value}{y:V}(x:XM X.K X.mg P ca)(hy:∀u,RelV y u->u=c)(k1:∀d T,tyD d=some T->kitOne X.K (.type T) c=some false)(k2:∀m∈Bw,kitOne X.K (.ref (ca m)) c=some (Dw m n)){Z:L2.St}{H:Hp}{Q:VK}(h:RE X.K (bnd f (EZ n)) Z H Q) :
 tCB (MD X.K c) (MK (RE X.K f) (MK (tC y) SO)) Z H Q:=by
 obtain ⟨Oo,c0,t,fi,r,t',eq,k⟩:=h;obtain ⟨d,t1,e1,eq⟩:=Ak eq;refine ⟨Oo,c0,t,fi,d,t1,e1,λv H1 c1 f1 s1 rv=>?_⟩;show MD X.K c [v,y] H1 Q
 cases rv with
 | @exc q0 x0 C0 dx0 m vs ds g hx0 hA fl rs=>
   unfold EZ at eq;dsimp only at eq
   split at eq
   ·next hm=>
    cases eq
    have hc:=x.of hm g;subst hc;refine ⟨_,_,_,_,rfl,hy,.inr ⟨_,x0,ca m,dx0,rfl,rfl,hx0,λd hd=>?_,x.gt m hm,x.gc m hm⟩,k2 m hm,k _ H1 c1 f1 s1 (.bl _)⟩;subst hd;exact ⟨_,fl.1⟩
   ·cases eq
 | non=>cases eq;exact ⟨_,_,_,_,rfl,hy,.inl .non,k1 .non _ rfl,k _ H1 c1 f1 s1 (.bl _)⟩
 | bl b=>cases eq;exact ⟨_,_,_,_,rfl,hy,.inl (.bl _),k1 (.bl b) _ rfl,k _ H1 c1 f1 s1 (.bl _)⟩
 | int i=>cases eq;exact ⟨_,_,_,_,rfl,hy,.inl (.int _),k1 (.int i) _ rfl,k _ H1 c1 f1 s1 (.bl _)⟩
 | str i=>cases eq;exact ⟨_,_,_,_,rfl,hy,.inl (.str _),k1 (.str i) _ rfl,k _ H1 c1 f1 s1 (.bl _)⟩
 | lst h1 h2 h3=>cases eq;exact ⟨_,_,_,_,rfl,hy,.inl (.lst h1),k1 (.lst []) _ rfl,k _ H1 c1 f1 s1 (.bl _)⟩
 | tup h1 h2 h3=>cases eq;exact ⟨_,_,_,_,rfl,hy,.inl (.tup h1),k1 (.tup []) _ rfl,k _ H1 c1 f1 s1 (.bl _)⟩
 | dic h1 h2=>cases eq;exact ⟨_,_,_,_,rfl,hy,.inl (.dK h1),k1 .dic _ rfl,k _ H1 c1 f1 s1 (.bl _)⟩
 | _=>cases eq
theorem HS {n:Str}(x:XM X.K X.mg P ca)(hn:n∈Bw)(hg:Gl X "isinstance")(hm:X.mg "isinstance" = none)(hv:bootBuiltins "isinstance" = some (.builtin "isinstance"))(hgn:Gl X n)(ha:PE X a (RE X.K f))(hdb:(n == ("__debug__" : Str))=false:=by decide)(h1:BM a=false:=by rfl) :
 PE X (.Call (.Name "isinstance" p) [a,.Name n q] [] pos) (RE X.K (bnd f (EZ n))):=
 Bs (Fz IQ hg hm hv (DB ha (DB (Gp hgn (x.ms n hn) (v:=.ref (ca n)) rfl hdb) F4 (Bv (e:=.Name n q) rfl)) (Bv h1)) (by decide) (by decide) (Bv h1) (Bz (es:=[.Name n q]) rfl).1)
  λZ H Q h=>LI (n:=n) (c:=.ref (ca n)) (y:=.ref (ca n)) x (λu r=>r) (λd T e=>RM e (x.cl n hn)) (λm hm=>by rw [LL (x.cl m hm) (x.cl n hn),x.subE hm hn]) h
theorem P5 (x:XM X.K X.mg P ca)(hg:Gl X "isinstance")(hm:X.mg "isinstance" = none)(hv:bootBuiltins "isinstance" = some (.builtin "isinstance"))(hgn:Gl X "ValueError")(hmn:X.mg "ValueError" = none)(hvn:bootBuiltins "ValueError" = some (.type "ValueError"))(ha:PE X a (RE X.K f))(h1:BM a=false:=by rfl) :
 PE X (.Call (.Name "isinstance" p) [a,.Name "ValueError" q] [] pos) (RE X.K (bnd f (EZ "ValueError"))):=
 Bs (Fz IQ hg hm hv (DB ha (DB (LP hgn hmn hvn (v:=.ty "ValueError") rfl (by decide) (by decide)) F4 (Bv (e:=.Name "ValueError" q) rfl)) (Bv h1)) (by decide) (by decide) (Bv h1) (Bz (es:=[.Name "ValueError" q]) rfl).1)
  λZ H Q h=>LI (n:="ValueError") (c:=.type "ValueError") (y:=.ty "ValueError") x (λu r=>r) (λd T e=>Qc e) (λm hm=>by rw [Tq (x.cl m hm)];rfl) h
def HK (nm:Str):D->M D
 | .exc n ds=>if n∈Bw then (match ((GO n).zip ds).lookup nm with
   | some d=>ret d
   | none=>fail) else fail
 | _=>fail
theorem GG {K:PySem.W.Frag}{c:Cf}{H:Hp}{nm:Str}{d:D}:∀{ns:List Str} {vs:List V} {ds:List D},Reps K c H vs ds->(ns.zip ds).lookup nm=some d->∃v,(ns.zip vs).lookup nm=some v/\Rep K c H v d
 | [],_,_,_,e=>by cases e
 | _ :: _,_,_,.nil,e=>by cases e
 | n :: ns,_,_,.cons (v:=v0) (d:=d0) r rs,e=>by
   by_cases h:nm=n
   ·subst h;simp only [List.zip_cons_cons,List.lookup,beq_self_eq_true,Option.some.injEq] at e ⊢;subst e;exact ⟨v0,rfl,r⟩
   ·have hb:(nm == n)=false:=beq_eq_false_iff_ne.mpr h;simp only [List.zip_cons_cons,List.lookup,hb] at e ⊢;exact GG rs e
theorem Jm:bootBuiltins "ValueError" = some (.type "ValueError"):=by decide +kernel
theorem Nb {nm:Str}(x:XM X.K X.mg P ca)(hno:∀n∈Bw,findIn X.K (.ref (ca n)) nm=some none)(ha:PE X a (RE X.K f))(hb:attributeBase a nm X.env (eval a X.env)=eval a X.env):PE X (.Attribute a nm pos) (RE X.K (bnd f (HK nm))):=by
 intro pins s Z H Q I h;obtain ⟨Oo,c0,t,fi,r,t',eq,k⟩:=h;obtain ⟨d,t1,e1,eq⟩:=Ak eq;refine PP hb (thn (ha pins s Z H (λv H1=>∃c1,FInv X.K Oo c1 t1 Z H1/\Stp Oo c0 H c1 H1/\Rep X.K c1 H1 v d) I ⟨Oo,c0,t,fi,d,t1,e1,λv H1 c1 f1 s1 rv=>⟨c1,f1,s1,rv⟩⟩) λu s1 z9=>?_);obtain ⟨v,H1,I1,rx,c1,f1,st1,rv⟩:=z9
 cases rv with
 | @exc q0 x0 C0 dx0 m vs ds g hx0 hA fl rs=>
   cases (show u=Value.ref x0 from rx)
   unfold HK at eq;dsimp only at eq
   split at eq
   ·next hm=>
    have hc:=x.of hm g;subst hc
    cases el:((GO m).zip ds).lookup nm with
    | none=>rw [el] at eq;cases eq
    | some d'=>
      rw [el] at eq
      cases eq
      obtain ⟨v',l1,r1⟩:=GG rs el
      cases dx0 with
      | none=>
        have fl:vs=[]:=fl;subst fl;simp at l1
      | some dd=>
        have hdd:H1 dd=some (.xd ((GO m).zip vs)):=fl.1;obtain ⟨o,vs0,q1,q2,q3,q4,_⟩:=(I1.hok x0 _ hx0).1;have nc:notCls o=true:=by unfold notCls;rw [q4]
        obtain ⟨mA,nA,rA⟩:=(show ObjOk X.prog X.w H1 s1.heap dd (.xd ((GO m).zip vs)) from I1.hok dd _ hdd);obtain ⟨od,ho,hl⟩:=ET nA;obtain ⟨u',hu,ru⟩:=RelO.some_of (v:=v') (o:=mA nm) (by rw [<-l1];exact rA nm);have IA:InstAt s1.heap x0 o (ca m) (some od):=⟨q1,q2,nc,by rw [q3];exact ho⟩;unfold getAttr;refine wpAny_bind (wpAny_mkText ?_);refine IZ (s:={ s1 with toks:=s1.toks + 1 }) I1.kIn IA (x.gt m hm) (Og I1.kIn IA (x.gt m hm) (findObj_own (x.gt m hm).hd (hno m hm) rfl (by rw [hl,hu])) ?_);exact handed_on (Ni ru) ⟨v',H1,I1.tok _,ru,k v' H1 c1 f1 st1 r1⟩
   ·cases eq
 | _=>cases eq
end
end F2
namespace F2
open PySem L2 PySem.Spec PySem.W
variable {qx:Bool}
def MT (K:PySem.W.Frag)(P c:Addr):Bool:=JM K c (.ref P :: VE) && keepIn K (.ref c) && findIn K (.ref c) "__getattribute__" == some (some (.builtin "BaseException.__getattribute__")) && findIn K (.ref c) "__getattr__" == some none && mroIn K c (.type "BaseException") == some true
 && mroIn K c (.type "object") == some true && hasDictIn K c && findIn K (.ref c) "__class__" == some (some (.builtin "object.__class__")) && findIn K (.ref c) "at" == some none && findIn K (.ref c) "side" == some none
structure XOne (K:PySem.W.Frag)(P c:Addr):Prop where
 cl:XCl K c (.ref P :: VE)
 kp:keepIn K (.ref c)=true
 gt:XGet K c
 gc:findIn K (.ref c) "__class__" = some (some (.builtin "object.__class__"))
 na:findIn K (.ref c) "at" = some none
 nd:findIn K (.ref c) "side" = some none
variable {K:PySem.W.Frag}
theorem D0 {P c:Addr}(h:MT K P c=true):XOne K P c:=by
 unfold MT at h;simp only [Bool.and_eq_true,beq_iff_eq] at h;obtain ⟨⟨⟨⟨⟨⟨⟨⟨⟨h1,h2⟩,h3⟩,h4⟩,h5⟩,h6⟩,h7⟩,h8⟩,h9⟩,h10⟩:=h;exact ⟨.of_in h1,h2,⟨h3,h4,h5,h6,h7⟩,h8,h9,h10⟩
noncomputable def EY (c1 c2 c3 c4 c5 c6 c7:Addr):Str->Addr:=λn=>if n = "NoValue" then c1 else if n = "Short" then c2 else if n = "Broken" then c3 else if n = "NoTalk" then c4 else if n = "NoName" then c5 else if n = "NoText" then c6 else c7
theorem Co {Q:Str->Prop}(h1:Q "NoValue")(h2:Q "Short")(h3:Q "Broken")(h4:Q "NoTalk")(h5:Q "NoName")(h6:Q "NoText")(h7:Q "NoRow"):∀n∈Bw,Q n:=by
 intro n hn;simp only [Bw,List.mem_cons,List.not_mem_nil,or_false] at hn;rcases hn with rfl | rfl | rfl | rfl | rfl | rfl | rfl <;> assumption
def MS (K:PySem.W.Frag)(P:Addr)(cs:List Addr):Bool:=JM K P VE && cs.all (MT K P)
theorem Ut {h:Heap}{mg:Str->Option Value}{P c1 c2 c3 c4 c5 c6 c7:Addr}(X:K.In h)(G:h.Ns mainGlobals mg)(p:nsIn K mainGlobals "ParleyError" = some (some (.ref P)))(a1:nsIn K mainGlobals "NoValue" = some (some (.ref c1)))(a2:nsIn K mainGlobals "Short" = some (some (.ref c2)))
 (a3:nsIn K mainGlobals "Broken" = some (some (.ref c3))) (a4:nsIn K mainGlobals "NoTalk" = some (some (.ref c4))) (a5:nsIn K mainGlobals "NoName" = some (some (.ref c5))) (a6:nsIn K mainGlobals "NoText" = some (some (.ref c6))) (a7:nsIn K mainGlobals "NoRow" = some (some (.ref c7)))
 (q:MS K P [c1,c2,c3,c4,c5,c6,c7]=true) (nd:[P,c1,c2,c3,c4,c5,c6,c7].Nodup):XM K mg P (EY c1 c2 c3 c4 c5 c6 c7):=by
 unfold MS at q;simp only [List.all_cons,List.all_nil,Bool.and_true,Bool.and_eq_true] at q;obtain ⟨q0,q1,q2,q3,q4,q5,q6,q7⟩:=q;have o1:=D0 q1;have o2:=D0 q2;have o3:=D0 q3;have o4:=D0 q4;have o5:=D0 q5;have o6:=D0 q6;have o7:=D0 q7;have inj:∀n∈Bw,∀m∈Bw,EY c1 c2 c3 c4 c5 c6 c7 n=EY c1 c2 c3 c4 c5 c6 c7 m->n=m:=by
  simp only [List.nodup_cons,List.mem_cons,List.not_mem_nil,or_false,not_or,List.nodup_nil,and_true] at nd;obtain ⟨⟨n1,n2,n3,n4,n5,n6,n7⟩,⟨m12,m13,m14,m15,m16,m17⟩,⟨m23,m24,m25,m26,m27⟩,⟨m34,m35,m36,m37⟩,⟨m45,m46,m47⟩,⟨m56,m57⟩,m67,_⟩:=nd;have h1:EY c1 c2 c3 c4 c5 c6 c7 "NoValue" = c1:=rfl;have h2:EY c1 c2 c3 c4 c5 c6 c7 "Short" = c2:=rfl;have h3:EY c1 c2 c3 c4 c5 c6 c7 "Broken" = c3:=rfl;have h4:EY c1 c2 c3 c4 c5 c6 c7 "NoTalk" = c4:=rfl;have h5:EY c1 c2 c3 c4 c5 c6 c7 "NoName" = c5:=rfl;have h6:EY c1 c2 c3 c4 c5 c6 c7 "NoText" = c6:=rfl;have h7:EY c1 c2 c3 c4 c5 c6 c7 "NoRow" = c7:=rfl;refine Co ?_ ?_ ?_ ?_ ?_ ?_ ?_ <;> refine Co ?_ ?_ ?_ ?_ ?_ ?_ ?_ <;> intro e <;> first | rfl | (exfalso;rw [h1] at e) | (exfalso;rw [h2] at e) | (exfalso;rw [h3] at e) | (exfalso;rw [h4] at e) | (exfalso;rw [h5] at e) | (exfalso;rw [h6] at e) | (exfalso;rw [h7] at e)
  all_goals (first | rw [h1] at e | rw [h2] at e | rw [h3] at e | rw [h4] at e | rw [h5] at e | rw [h6] at e | rw [h7] at e)
  all_goals (first | contradiction | (have e:=e.symm;contradiction))
 refine ⟨mg_of X G p,.of_in q0,Co a1 a2 a3 a4 a5 a6 a7,Co (mg_of X G a1) (mg_of X G a2) (mg_of X G a3) (mg_of X G a4) (mg_of X G a5) (mg_of X G a6) (mg_of X G a7),Co o1.cl o2.cl o3.cl o4.cl o5.cl o6.cl o7.cl,inj,?_,
  Co o1.kp o2.kp o3.kp o4.kp o5.kp o6.kp o7.kp,Co o1.gt o2.gt o3.gt o4.gt o5.gt o6.gt o7.gt,Co o1.gc o2.gc o3.gc o4.gc o5.gc o6.gc o7.gc,Co o1.na o2.na o3.na o4.na o5.na o6.na o7.na,Co o1.nd o2.nd o3.nd o4.nd o5.nd o6.nd o7.nd⟩
 simp only [List.nodup_cons,List.mem_cons,List.not_mem_nil,or_false,not_or] at nd;obtain ⟨⟨n1,n2,n3,n4,n5,n6,n7⟩,_⟩:=nd;exact Co (Ne.symm n1) (Ne.symm n2) (Ne.symm n3) (Ne.symm n4) (Ne.symm n5) (Ne.symm n6) (Ne.symm n7)
noncomputable def D6 (s:Stmt)(k:Nat):Stmt:=match s with
 | .ClassDef _ _ _ body _ _ _ _ _ _ _=>body.getD k (.Pass ⟨0,0,0,0⟩)
 | _=>.Pass ⟨0,0,0,0⟩
noncomputable def Kp (K:PySem.W.Frag)(C f:Addr):Bool:=match clsIn K C with
 | some cd=>nsIn K cd.ns "__init__" == some (some (.ref f))
 | none=>false
noncomputable def KA (K:PySem.W.Frag)(C:Addr):Bool:=match clsIn K C with
 | some cd=>nsIn K cd.ns "__init__" == some none
 | none=>false
theorem Tg {C:Addr}(h:KA K C=true):XN0 K C:=by
 unfold KA at h
 split at h
 ·next cd e=>exact ⟨cd,e,beq_iff_eq.mp h⟩
 ·cases h
end F2
namespace F2
open PySem L2 PySem.Spec PySem.W
inductive Kd where
 | pl | fr | ex | er
abbrev okK (k:Kd)(P:Program)(w:World)(K:PySem.W.Frag)(mg:Str->Option Value)(base:Heap)(n:Nat)(fa:Addr)(fd:FuncData)(ps:List Str)(f:Fn):Prop:=match k with
 | .pl=>FnOk P w K mg base CX0 n fa fd ps (spF K f)
 | .fr=>FnOk P w K mg base CX0 n fa fd ps (UV K f)
 | .ex=>FnOk P w K mg base (CX1 true P w) n fa fd ps (spX K f)
 | .er=>FnOk P w K mg base (CX1 false P w) n fa fd ps (spX K f)
section
variable {X:Cx}{e a b:Expr}{pos:Pos}{f g:M D}
theorem C7 {E:XK}(h:PE X e (RE X.K f)):PS X (.Return (some e) pos) (RSg X.K (μX X.K E) (AN (nxD f))):=
 BT (KK h) λD Z H z9=>by
  obtain ⟨Oo,c,t,fi,o,t',eq,k⟩:=z9;obtain ⟨d,t1,e1,eq⟩:=Ak eq
  cases eq
  obtain ⟨e2,e3⟩:=KC e1;exact ⟨Oo,c,t,fi,d,_,e2,λv H1 c1 f1 s1 rv=>Nk e3 (k Z H1 c1 f1 s1 v rv)⟩
end
theorem RP {K:PySem.W.Frag}:∀(c:Cf) (H:Hp) (r:D) (rt:V->Hp->Prop),BG r=false->(∀v,Rep K c H v r->rt v H)=μR K c H r rt:=λ_ _ _ _ _=>rfl
variable {qx:Bool}
def Pt (K:PySem.W.Frag)(cs:List Addr):List V->Hp->VK->Prop:=λxs H Q=>∃q0 a p C dx b,xs=[.ref a,.ref p]/\H p=some (.tup (cs.map V.ref))/\H a=some (.ext (XIs q0 a C dx))/\(∀d,dx=some d->∃fs,H d=some (.xd fs))/\XGet K C/\findIn K (.ref C) "__class__" = some (some (.builtin "object.__class__"))/\kitAny K (.ref C) (cs.map Value.ref)=some b/\Q (.bl b) H
theorem Jk:∀{cs:List Addr} {us:List Value},Vals (cs.map V.ref) us->us=cs.map Value.ref
 | [],_,.nil=>rfl
 | c :: cs,_,.cons r rs=>by rw [Jk rs,show _=Value.ref c from r];rfl
theorem M2 {X:Cx}{cs:List Addr}:BR X (.builtin "isinstance") (Pt X.K cs):=by
 intro pins s Z H xs us Q I r h;obtain ⟨q0,a,p,C,dx,b,rfl,hp,ha,hd,g,gc,e,q⟩:=h;obtain ⟨u,w',rfl,rx,rt⟩:=GA r
 cases (show u=Value.ref a from rx)
 cases (show w'=Value.ref p from rt)
 obtain ⟨_,its,rv,hit⟩:=(show ObjOk X.prog X.w H s.heap p (.tup (cs.map V.ref)) from I.hok p _ hp);have hv:=Jk rv;subst hv;obtain ⟨o,h1,h2,n,h3⟩:=hit;obtain ⟨oc,od,oda,osl⟩:=o;dsimp only at h2 h3;subst h2 h3;exact kia_tup (Kt g gc) I.kIn (PK I ha hd) h1 e (λz=>nomatch z) λtk=>⟨.bl b,H,I.tok tk,rfl,q⟩
def Hn (ns:List Str):D->M D
 | .exc m _=>if m∈Bw then ret (.bl (ns.any λn=>Dw m n)) else fail
 | _=>fail
section
variable {X:Cx}{P:Addr}{ca:Str->Addr}{a:Expr}{es:List Expr}{f:M D}{p pos q:Pos}{i:Nat}{ns:List Str}
def FAC (X:Cx)(ca:Str->Addr)(es:List Expr)(ns:List Str):Prop:=PA X es (λ_ H Q=>Q ((ns.map ca).map V.ref) H)/\∀n∈ns,n∈Bw
theorem P0:FAC X ca [] []:=⟨F4,λ_ h=>nomatch h⟩
theorem EC {n:Str}(x:XM X.K X.mg P ca)(hn:n∈Bw)(hg:Gl X n)(h:FAC X ca es ns)(hdb:(n == ("__debug__" : Str))=false:=by decide):FAC X ca (.Name n q :: es) (n :: ns):=
 ⟨λpos pins s Z H Q I hq=>DB (Gp hg (x.ms n hn) (v:=.ref (ca n)) rfl hdb) h.1 (Bv (e:=.Name n q) rfl) pos pins s Z H Q I hq,λm hm=>by
  rcases List.mem_cons.mp hm with rfl | hm
  ·exact hn
  ·exact h.2 m hm⟩
theorem LK {K:PySem.W.Frag}{mg:Str->Option Value}(x:XM K mg P ca){m:Str}(hm:m∈Bw):∀{ns:List Str},(∀n∈ns,n∈Bw)->kitAny K (.ref (ca m)) ((ns.map ca).map Value.ref)=some (ns.any λn=>Dw m n)
 | [],_=>rfl
 | n :: ns,h=>by
   have hn:=h n List.mem_cons_self;rw [List.map_cons,List.map_cons,kitAny,LL (x.cl m hm) (x.cl n hn),x.subE hm hn,List.any_cons]
   cases Dw m n with
   | true=>rfl
   | false=>exact LK x hm λk hk=>h k (List.mem_cons_of_mem _ hk)
theorem P4 (x:XM X.K X.mg P ca)(hg:Gl X "isinstance")(hm:X.mg "isinstance" = none)(hv:bootBuiltins "isinstance" = some (.builtin "isinstance"))(hc:FAC X ca es ns)(ha:PE X a (RE X.K f))(hl:ns.length<=1000:=by decide)(h1:BM a=false:=by rfl) :
 PE X (.Call (.Name "isinstance" p) [a,.Tuple es i q] [] pos) (RE X.K (bnd f (Hn ns))):=
 Bs (Fz (M2 (cs:=ns.map ca)) hg hm hv (DB ha (DB (NA hc.1) F4 (Bv (e:=.Tuple es i q) rfl)) (Bv h1)) (by decide) (by decide) (Bv h1) (Bz (es:=[.Tuple es i q]) rfl).1)
  λZ H Q z9=>by
   obtain ⟨Oo,c0,t,fi,r,t',eq,k⟩:=z9;obtain ⟨d,t1,e1,eq⟩:=Ak eq;refine ⟨Oo,c0,t,fi,d,t1,e1,λv H1 c1 f1 s1 rv=>⟨by rw [List.length_map,List.length_map];exact Nat.le_trans hl (by decide),λpp hp=>?_⟩⟩;show Pt X.K (ns.map ca) [v,.ref pp] _ Q;have f2:=f1.laid (o:=.tup ((ns.map ca).map V.ref)) hp;have s2:=f1.stp_laid (o:=.tup ((ns.map ca).map V.ref)) hp
   cases rv with
   | @exc q0 x0 C0 dx0 m vs ds g hx0 hA fl rs=>
     unfold Hn at eq;dsimp only at eq
     split at eq
     ·next hm'=>
      cases eq
      have hcc:=x.of hm' g;subst hcc;refine ⟨_,x0,pp,ca m,dx0,_,rfl,AF,by rw [Ap (A1 hx0 hp)];exact hx0,λdd hd=>?_,x.gt m hm',x.gc m hm',LK x hm' hc.2,k _ _ c1 f2 (s1.trans s2) (.bl _)⟩;subst hd;exact ⟨_,by rw [Ap (A1 fl.1 hp)];exact fl.1⟩
     ·cases eq
   | _=>cases eq
end
end F2
namespace F2
open PySem L2 PySem.Spec SeqAt
end F2
namespace L2
open PySem PySem.Spec PyProof.Rows PySem.W PySem.Builtin PySem.Builtin.ObjectAttr
variable {qx:Bool}
section
variable {prog:Program}{w:World}{A:Around}{s:Shared}{K:PySem.W.Frag}{x C P dx:Addr}{ox:Obj}{od:Option Obj}{R:Result->Shared->Prop}{name:Str}{v:Value}{tk:Tok}{cd:ClassData}
theorem Oy (X:K.In s.heap)(I:InstAt s.heap x ox C od)(hc:clsIn K C=some cd)(hmr:cd.mro=ES C P)(ha:findIn K (.ref C) name=some none)
 (h:wpAny (model prog w) A.in1 (storeInOwnDict (.ref x) (.ref C) (.str name tk) name v false) (λfin s'=>match fin with | .done f=>R (.ok f) s' | .again c'=>c'.quiet=true/\codeAny (model prog w) A c' R s') (λe s'=>R (.error e) s') s) :
 codeAny (model prog w) A (.call (.builtin "object.__setattr__") ⟨[.ref x,.str name tk,v],[]⟩) R s:=by
 have SF:=PySem.F.store_object;have ob:Looks (model prog w) s.heap (isInstance (.ref x) (.type "object")) true:=I.type.andThen (looks_mroIn X (by unfold mroIn;rw [hc,Option.bind_some,hmr];rfl));refine codeAny_call_builtin SF.slot.plain SF.entry (@check_slot (model prog w) _ _ s "object.__setattr__" "object" "__setattr__" (.ref x) [.str name tk,v] [] _ SF.kind SF.split ob (SF.args (.ref x) (.str name tk) v) ?_);have mr:Looks (model prog w) s.heap (mroOf (.ref C)) (ES C P):=by rw [<-hmr];exact (looks_clsIn X hc).andThen .now
 rw [osa_eq,refuse_eq];refine wpAny_bind (wpAny_bind (I.type.here (wpAny_bind (mr.here ?_))));rw [Hy];refine wpAny_pure (wpAny_bind (I.type.here (wpAny_bind ((looks_findIn X ha).here ?_))));exact wpAny_bind (wpAny_pure h)
theorem OW {E:Value->Shared->Prop}{Q:Unit->Shared->Prop}{m:Str->Option Value}{a:Str}{oD:Obj}(X:K.In s.heap)(hx:s.heap.get? x=some ox)(hcl:ox.cls = .ref C)(hno:notCls ox=true)(hod:ox.dict=some dx)(hdx:s.heap.get? dx=some oD)(n1:s.heap.Ns1 dx m)(hm:PySem.Within m [a])(hs:findIn K (.ref C) "__setattr__" = some (some (.builtin "object.__setattr__")))(hc:clsIn K C=some cd)(hmr:cd.mro=ES C P)(hd:cd.hasDict=true)(ha:findIn K (.ref C) name=some none)
 (h:∀h',(∀b o,b≠dx->s.heap.get? b=some o->h'.get? b=some o)->h'.Ns1 dx (λy=>if y=name then some v else m y)->Q () { s with heap:=h',toks:=s.toks + 2 }) :
 wpAny (model prog w) A (setAttr (.ref x) name v) Q E s:=by
 have I:InstAt s.heap x ox C (some oD):=⟨hx,hcl,hno,by rw [hod];exact hdx⟩;refine set_plain X I hs (Oy (s:={ s with toks:=s.toks + 1 }) X I hc hmr ha ?_);refine wpAny_bind (wpAny_pure (wpAny_bind (wpAny_bind (wpAny_loadPart (s:={ s with toks:=s.toks + 1 }) hx ?_))));rw [hod,hcl];refine wpAny_bind (Looks.here (s:={ s with toks:=s.toks + 1 }) (looks_clsIn X hc) ?_);rw [hd,if_neg (by decide)];refine wpAny_pure ?_;refine wpAny_bind (wpAny_pure (wpAny_bind ?_));refine wpAny_nsSet1 n1 λh' n2 sb=>?_;obtain ⟨oD,esD,epD,hoD,hdD,hcD⟩:=n2.count (PySem.Within.cons name v hm);refine wpAny_bind (wpAny_lookBehind hoD (by rw [hdD];exact pastItsLine_dict (Nat.le_trans hcD (by show 2<=_;decide))) ?_);exact wpAny_pure (h h' (λb o hb e=>(sb.2 b hb).trans e) n2)
end
def UU (K:PySem.W.Frag)(P:Addr)(ta tv:TE)(f1 f:Str):TS:=λD Z H=>tv Z H λy H1=>ta Z H1 λx H2=>∃a C tp dx y1,x = .ref a/\H2 a=some (GM a C tp dx)/\H2 dx=some (.xd [(f1,y1)])/\dx≠a/\XAt K C P f/\D.nx Z (upd H2 dx (.xd [(f1,y1),(f,y)]))
theorem Sd {X:Cx}{P:Addr}{o value:Expr}{ta tv:TE}{f1 f:Str}{pos' pos:Pos}(hf:f1≠f)(ha:PE X o ta)(hv:PE X value tv)(hs:swapsWith value (some (.Attribute o f pos')) pos.line X.env=pure false):PS X (.Assign [.Attribute o f pos'] value pos) (UU X.K P ta tv f1 f):=by
 intro pins s Z H D I h;refine plainObj_wpAny_Assign_Attribute (thn (hv pins s Z H _ I h) λu s1 ⟨y,H1,I1,ry,q⟩=>thn (ha pins s1 Z H1 _ I1 q) λov s2 z9=>?_) hs;obtain ⟨x,H2,I2,rx,a,C,tp,dx,y1,ex,ea,ed,ne,c,q2⟩:=z9;subst ex;obtain rfl:ov=Value.ref a:=rx;obtain ⟨cd,c1,c2,c3⟩:=c.cl.cls;have hx:s2.heap.get? a=some { excObj C tp with dict:=some dx }:=(I2.hok a _ ea).1;obtain ⟨m,n1,rm⟩:=(show ObjOk X.prog X.w H2 s2.heap dx (.xd [(f1,y1)]) from I2.hok dx _ ed);obtain ⟨oD,ho,_⟩:=ET n1;have hw:PySem.Within m [f1]:=λg hg=>by
  by_cases e:g=f1
  ·simp [e]
  ·exfalso;have z:=rm g;have hgb:(g == f1)=false:=beq_eq_false_iff_ne.mpr e;simp only [List.lookup,hgb] at z
   cases hm:m g with
   | none=>exact hg hm
   | some u=>rw [hm] at z;exact z
 refine OW I2.kIn hx rfl rfl rfl ho n1 hw c.set c1 c2 c3 c.no λh' k n=>?_;have na:∀b u,s2.heap.get? b=some u->H2 b=none->b≠dx:=λb u _ z w'=>by rw [w',ed] at z;cases z
 refine ⟨Z,_,I2.un (h':=h') (t':=s2.toks + 2) ⟨λb u e1 e2 _ _=>k b u (na b u e1 e2) e1,λb u e1 e2 _ _=>⟨u.slots,k b u (na b u e1 e2) e1⟩,λb u e1 e2 _=>?_,λb u e1 _=>?_,λb xs e1=>?_,λb o' u e1=>?_,λb ps e1=>⟨#[],?_⟩⟩ λb u e1=>?_,q2⟩
 ·rw [Ap (na b u e1 e2)];exact e2
 ·by_cases hb:b=dx
  ·subst hb;obtain ⟨od',es,ep,e,_⟩:=n;exact ⟨_,e⟩
  ·exact ⟨_,k b u hb e1⟩
 ·rw [Ap (λz=>by rw [z,ed] at e1;cases e1)];exact e1
 ·rw [Ap (λz=>by rw [z,ed] at e1;cases e1)];exact e1
 ·rw [Ap (λz=>by rw [z,ed] at e1;cases e1),e1];simp
 ·by_cases hb:b=dx
  ·subst hb;rw [AF] at e1;cases e1
   refine ⟨_,n,λg=>?_⟩
   by_cases hg:g=f
   ·subst hg;have hgb:(g == f1)=false:=beq_eq_false_iff_ne.mpr (Ne.symm hf);simp only [List.lookup,hgb,beq_self_eq_true,if_true];exact ry
   ·have hgb:(g == f)=false:=beq_eq_false_iff_ne.mpr hg;have z:=rm g
    by_cases hg1:g=f1
    ·subst hg1;simp only [List.lookup,beq_self_eq_true] at z;simp only [List.lookup,beq_self_eq_true,if_neg hg];exact z
    ·have hgb1:(g == f1)=false:=beq_eq_false_iff_ne.mpr hg1;simp only [List.lookup,hgb1] at z;simp only [List.lookup,hgb,hgb1,if_neg hg];exact z
  ·rw [Ap hb] at e1;refine (I2.hok b u e1).stay (λz v hz q=>k z v ?_ q) (λz q=>?_) λz xs q=>?_
   ·rcases hz with rfl | hz
    ·exact hb
    ·intro w';rw [w',ed] at hz;cases hz
   ·rw [Ap (λz=>by rw [z,ed] at q;cases q)];exact q
   ·rw [Ap (λz=>by rw [z,ed] at q;cases q)];exact q
def MJ (K:PySem.W.Frag)(P:Addr)(a b:Str):Sp:=λvs H Q _=>∃x C tp v u,vs=[.ref x,v,u]/\H x=some (exO x C tp)/\XAt K C P a/\XAt K C P b/\∀dx,H dx=none->dx≠x->Q .non (upd (upd H dx (.xd [(a,v),(b,u)])) x (GM x C tp dx))
section
variable {X:Cx}{k:Nat}{f C P:Addr}{fd:FuncData}{pins:List (Addr×Obj)}{Z:St}{H:Hp}{s:Shared}{Q:Value->Shared->Prop}{us:List Value}{vs:List V}{a b:Str}{ps:List Str}{v v2:V}{u u2:Value}
theorem MF (M:XMk X.K C P f)(ha:XAt X.K C P a)(hab:XAt X.K C P b)(F:FnOk X.prog X.w X.K X.mg X.base CX0 k f fd ps (MJ X.K P a b))(hr:Room (k + 1) X.A)(hb:Binds X.K fd ps [])(I:Inv X pins Z H s)(r:RelV v u)(rr:RelV v2 u2)
 (h:∀s' x dx,Inv X pins Z (upd (upd H dx (.xd [(a,v),(b,v2)])) x (.ext (F2.XIs qx x C (some dx)))) s'->H x=none->H dx=none->dx≠x->s.heap.objs.size<=x->XRec true s'.heap x C (some dx) .none->Q (.ref x) s'):wpAny (model X.prog X.w) X.A (call (.ref C) [u,u2]) Q X.xe s:=by
 obtain ⟨nm,q,N,bs,sn,sub,ab,col,dd,k0,k1,k2,k3,k5,hC,hN⟩:=M.cl.obj I.kIn;have hni:s.heap.nsMap N "__init__" = some (.ref f):=by
  obtain ⟨cd,c1,c2⟩:=M.init;refine Mx I.kIn hN ?_;unfold clsIn at c1
  split at c1
  ·next l=>
   cases c1
   have z:=I.kIn _ _ l;rw [hC] at z
   cases z
   exact c2
  ·cases c1
 have I1:Inv X pins Z (upd H (s.heap.objs.size + 1) (exO (s.heap.objs.size + 1) C s.heap.objs.size)) { s with heap:=DQ s.heap C [u,u2] }:=by
  refine I.laid (t':=s.toks) (λb o e=>Heap.get?_push_of_some _ (Heap.get?_push_of_some _ e)) (Nat.le_succ _) (Rp ?_);show ((s.heap.push _).push _).get? _=_
  heap_get
 have hx0:=I.hok.fresh (Nat.le_succ s.heap.objs.size);have r2:Vals [V.ref (s.heap.objs.size + 1),v,v2] [Value.ref (s.heap.objs.size + 1),u,u2]:=.cons rfl (.cons r (.cons rr .nil));have hsp:MJ X.K P a b [V.ref (s.heap.objs.size + 1),v,v2] (upd H (s.heap.objs.size + 1) (exO (s.heap.objs.size + 1) C s.heap.objs.size))
  (λw' H'=>w' = .non/\∃dx,H dx=none/\dx≠s.heap.objs.size + 1/\H'=upd (upd H dx (.xd [(a,v),(b,v2)])) (s.heap.objs.size + 1) (GM (s.heap.objs.size + 1) C s.heap.objs.size dx)) E0:=by
  refine ⟨_,C,s.heap.objs.size,v,v2,rfl,AF,ha,hab,λdx h1 h2=>⟨rfl,dx,by rw [Ap h2] at h1;exact h1,h2,?_⟩⟩
  funext b
  by_cases e1:b=s.heap.objs.size + 1
  ·subst e1;rw [AF,AF]
  ·by_cases e2:b=dx
   ·subst e2;rw [Ap e1,Ap e1,AF,AF]
   ·rw [Ap e1,Ap e1,Ap e2,Ap e2,Ap e1]
 have hl:([Value.ref (s.heap.objs.size + 1),u,u2]++[]).length=ps.length:=by
  have e:=F.len _ _ _ _ hsp;simpa using e
 obtain ⟨hh,g,d,t,os⟩:=s;refine wpAny_call (Os PySem.F.excBase_ValueError (M.cl.tail I.kIn) hC hN hni ((bind_fn I.kIn _ (beq_iff_eq.mp M.fn))) (by show 2<=sizeLine;decide) ?_);refine codeAny_mono (F.run _ X.stack _ _ ⟨[Value.ref (hh.objs.size + 1),u,u2],[]⟩ [Value.ref (hh.objs.size + 1),u,u2] _ _ E0 (hr.make C [u,u2] []) (I1.env0.make C [u,u2] []) (by have:=hb _ [Value.ref (hh.objs.size + 1),u,u2] I1.kIn hl;simpa using this) r2 hsp) λr s' hq'=>?_
 cases r with
 | error e=>exact hq'.elim
 | ok fl=>
   cases fl with
   | ret w'=>
     obtain ⟨v',H',I3,rv,rfl,dx,d1,d2,rfl⟩:=I1.after hq';refine ⟨rv,?_⟩;have hx:=(I3.hok (hh.objs.size + 1) _ AF).1;have hx:s'.heap.get? (hh.objs.size + 1)=some { excObj C hh.objs.size with dict:=some dx }:=hx;have xr:XRec true s'.heap (hh.objs.size + 1) C (some dx) .none:=⟨_,_,hx,rfl,rfl,rfl,rfl,λ_=>⟨rfl,by show 4 < 6;decide⟩⟩;have I4:=I3.write (x:=hh.objs.size + 1) (e:=hh.objs.size + 1) (o:=.ext (F2.XIs qx (hh.objs.size + 1) C (some dx))) (h':=s'.heap) (t':=s'.toks) (by rw [AF];trivial) (.inl rfl) (λ_ _ _ z=>z) ⟨_,hx⟩ (Kg xr.to.is);rw [QU] at I4;exact h s' (hh.objs.size + 1) dx I4 hx0 d1 d2 (Nat.le_succ _) xr
   | next=>exact False.elim hq'
   | brk=>exact False.elim hq'
   | cont=>exact False.elim hq'
end
section
variable {X:Cx}{k:Nat}{f C P:Addr}{fd:FuncData}{a b:Str}{ps:List Str}{n:Str}{p pos:Pos}{e e':Expr}
theorem Sa {t:TA}(M:XMk X.K C P f)(ha:XAt X.K C P a)(hab:XAt X.K C P b)(F:FnOk X.prog X.w X.K X.mg X.base CX0 k f fd ps (MJ X.K P a b))(hr:Room (k + 1) X.A)(hb:Binds X.K fd ps [])(hg:Gl X n)(hm:X.mg n=some (.ref C))(hA:PA X [e,e'] t)
 (hdb:(n == ("__debug__" : Str))=false:=by decide) (h1:starEach [e,e'] X.env=(false,eval e X.env) :: starEach [e'] X.env:=by rfl) (hpl:(backTo pos (starEach [e'] X.env)).any (·.1)=false:=by rfl) :
 PM qx X (.Call (.Name n p) [e,e'] [] pos) C (λZ H Q=>t Z H λvs H1=>∃v u,vs=[v,u]/\∀x dx,H1 x=none->H1 dx=none->dx≠x->Q x (some dx) (upd (upd H1 dx (.xd [(a,v),(b,u)])) x (.ext (F2.XIs qx x C (some dx))))):=by
 intro pins s Z H Q I h;refine wpAny_Call_Name_kw (Et I hg hm ?_ hdb);refine PySem.W.callWith_K (h₀:=X.base) I.ok.mod.kin M.kp (thn (hA pos pins s Z H _ I h) λus s1 z9=>?_) h1 hpl;obtain ⟨vs,H1,I1,r,v,u,ev,q⟩:=z9;refine ⟨I1.kIn,?_⟩;subst ev
 cases r with
 | cons r0 rs=>
   cases rs with
   | cons r1 rs=>
     cases rs
     exact MF M ha hab F hr hb I1 r0 r1 λs' x dx I' hx hdx ne nx rc=>⟨x,some dx,_,rfl,I',AF,Nat.le_trans I1.sz nx,rc,q x dx hx hdx ne⟩
end
end L2
namespace F2
open PySem L2 PySem.Spec PySem.W
variable {qx:Bool}
section
variable {X:Cx}{e e':Expr}{pos p pos2:Pos}{E:L2.St->XK}{P:Addr}{ca:Str->Addr}
def XN2 (prog:Program)(w:World)(K:PySem.W.Frag)(mg:Str->Option Value)(base:Heap)(C P:Addr):Prop:=
 ∃(f:Addr) (fd:FuncData) (ps:List Str),XMk K C P f/\XAt K C P "at"/\XAt K C P "side"/\Binds K fd ps []/\FnOk prog w K mg base CX0 1 f fd ps (MJ K P "at" "side")
def F9 (n:Str)(f:M (List D)):M Out:=bnd f λds=>match ds with
 | [d,d']=>ret (.ret (.exc n [d,d']))
 | _=>fail
theorem FS {f:M (List D)}(x:XM X.K X.mg P ca)(xn:XN2 X.prog X.w X.K X.mg X.base (ca "Broken") P)(hr:L2.Room 2 X.A)(hc:X.calm=true)(hx:FJ qx X E)(hg:Gl X "Broken")(ha:PA X [e,e'] (RA X.K f))
 (h1:BM e=false:=by rfl) (h2:B3 [e']=true:=by rfl):PS X (.Raise (some (.Call (.Name "Broken" p) [e,e'] [] pos)) none pos2) (RSX X.K E (F9 "Broken" f)):=by
 obtain ⟨fa,fd,ps,M,A,A2,B,F⟩:=xn;have hn:("Broken" : Str)∈Bw:=by decide
 refine BT (KJ hc M.cl hx (Sa M A A2 F hr B hg (x.ms _ hn) ha (by decide) (Bv h1) (Bz h2).1)) λD Z H z9=>?_;obtain ⟨Oo,c,t,fi,o,t',eq,k⟩:=z9;obtain ⟨ds,t1,e1,eq⟩:=Ak eq;refine ⟨Oo,c,t,fi,ds,t1,e1,λvs H1 c1 f1 s1 rvs=>?_⟩;rcases ds with _ | ⟨d,_ | ⟨d',_ | ⟨_,_⟩⟩⟩
 ·cases eq
 ·cases eq
 ·cases rvs with
  | @cons v0 _ _ _ rv r=>
  cases r with
  | @cons v1 _ _ _ rv1 r=>
  cases r
  cases eq
  refine ⟨_,_,rfl,λy dx hy hdx ne=>?_⟩;have f2:=f1.laid (o:=.xd [("at",v0),("side",v1)]) hdx;have hy2:upd H1 dx (.xd [("at",v0),("side",v1)]) y=none:=by rw [Ap (Ne.symm ne)];exact hy
  have f3:=f2.laid (o:=.ext (XIs qx y (ca "Broken") (some dx))) hy2;have ex:=(f1.stp_laid (o:=.xd [("at",v0),("side",v1)]) hdx).ext.trans (f2.stp_laid (o:=.ext (XIs qx y (ca "Broken") (some dx))) hy2).ext;have s3:=s1.trans ((f1.stp_laid (o:=.xd [("at",v0),("side",v1)]) hdx).trans (f2.stp_laid (o:=.ext (XIs qx y (ca "Broken") (some dx))) hy2));refine k Z _ c1 f3 s3 (.ref y) (.exc (x.ns _ hn) AF (f2.s.free hy2) ?_ (.cons (rv.mono ex) (.cons (rv1.mono ex) .nil))) y (some dx) rfl;exact ⟨by rw [Ap ne,AF];rfl,f1.s.free hdx⟩
 ·cases eq
end
def XF2 (K:PySem.W.Frag)(C P:Addr)(qual:Str)(st:Stmt):Prop:=∃(f:Addr) (fd:FuncData),XMk K C P f/\XAt K C P "at"/\XAt K C P "side"/\Binds K fd ["self", "at", "side"] []/\Fun K "__init__" qual st f fd
theorem Tf {K:PySem.W.Frag}{C P f:Addr}{qual:Str}{st:Stmt}{od an:Option Addr}{sl:Array (Option Value)}{oc kV dc pm cd ct:Value}(o:XOne K P C)(i:Kp K C f=true)(hf:isFn K (.ref f)=true)(hs:findIn K (.ref C) "__setattr__" = some (some (.builtin "object.__setattr__")))
 (l:K.lookup f=some ⟨oc,od,.func (PySem.W.fnOf "__init__" qual (Dz st) (BV st) (Av st) .none kV dc pm an cd ct),sl⟩) (c:codeIn K cd qual=true) (k:keepIn K (.ref f)=true)
 (hb:∀(kV doc pm:Value) (an:Option Addr) (cdv ct:Value) (us:List Value),us.length=3->bindArgs (PySem.W.fnOf "__init__" qual (Dz st) (BV st) (Av st) .none kV doc pm an cdv ct) ⟨us,[]⟩=pure ((["self", "at", "side"]:List Str).zip us)):XF2 K C P qual st:=by
 refine ⟨f,_,⟨o.cl,?_,hf,o.kp⟩,⟨o.cl,hs,o.na⟩,⟨o.cl,hs,o.nd⟩,(Hh (st:=st) l c k).binds (ps:=["self", "at", "side"]) hb,Hh (st:=st) l c k⟩;unfold Kp at i
 split at i
 ·next cd' e=>exact ⟨cd',e,beq_iff_eq.mp i⟩
 ·cases i
theorem GQ {prog:Program}{w:World}{K:PySem.W.Frag}{mg:Str->Option Value}{base:Heap}{C P:Addr}{qual:Str}{st:Stmt}{p1 p2 p3 p4 p5 p6 p7 p8:Pos}(hbd:BV st=[.Assign [.Attribute (.Name "self" p1) "at" p2] (.Name "at" p3) p4,.Assign [.Attribute (.Name "self" p5) "side" p6] (.Name "side" p7) p8])(S:FnScope ["self", "at", "side"] ["self", "at", "side"] (Av st))
 (s1:(Av st).names.lookup ("self" : Str)=some NameKind.local) (s2:(Av st).names.lookup ("at" : Str)=some NameKind.local) (s3:(Av st).names.lookup ("side" : Str)=some NameKind.local) (x:XF2 K C P qual st):XN2 prog w K mg base C P:=by
 obtain ⟨f,fd,M,A,A2,B,F⟩:=x;refine ⟨f,fd,_,M,A,A2,B,F.ok (k:=0) S (λvs H Q E h=>?_) λcdv A' outer s H vs Q E hr h=>?_⟩
 ·obtain ⟨y,C',tp,v,u,rfl,_⟩:=h;rfl
 ·rw [hbd];refine ⟨_,KM (Tz (P:=P) (Fd (i:=0) rfl (.inl s1) (by decide) (by decide)) (Fd (i:=1) rfl (.inl s2) (by decide) (by decide)) rfl) (Il (Sd (P:=P) (f1:="at") (by decide) (Fd (i:=0) rfl (.inl s1) (by decide) (by decide)) (Fd (i:=2) rfl (.inl s3) (by decide) (by decide)) rfl)),?_⟩;obtain ⟨y,C',tp,v,u,rfl,hy,ha,ha2,k⟩:=h;refine ⟨v,rfl,.ref y,rfl,y,C',tp,rfl,hy,ha,λdx h1 h2=>⟨u,rfl,.ref y,rfl,y,C',tp,dx,v,rfl,AF,by rw [Ap h2,AF],h2,ha2,?_⟩⟩;have z:=k dx h1 h2;have e:upd (upd (upd H dx (.xd [("at",v)])) y (GM y C' tp dx)) dx (.xd [("at",v),("side",u)])=upd (upd H dx (.xd [("at",v),("side",u)])) y (GM y C' tp dx):=by
   funext b
   by_cases e1:b=dx
   ·subst e1;rw [AF,Ap h2,AF]
   ·by_cases e2:b=y
    ·subst e2;rw [Ap e1,AF,AF]
    ·rw [Ap e1,Ap e2,Ap e1,Ap e2,Ap e1]
  rw [e];exact z
end F2
namespace L2
open PySem PySem.Spec PyProof.Rows PySem.W
def Tp (K:PySem.W.Frag)(ta:TA):TI:=λZ H R=>ta Z H λvs H1=>∃a b xs ys,vs=[.ref a,.ref b]/\((SqL K H1 a xs/\SqL K H1 b ys/\R (L5 K a b) H1)\/(SqT K H1 a xs/\SqT K H1 b ys/\R (Itz K a b) H1))
theorem Qw {X:Cx}{e e':Expr}{ta:TA}{elts:List Expr}{n:Nat}{tpos p pos:Pos}(hg:Gl X "zip")(hm:X.mg "zip" = none)(ha:PA X [e,e'] ta)(hs:starEach [e,e'] X.env=[(false,eval e X.env),(false,eval e' X.env)])(hs2:starEach [e'] X.env=[(false,eval e' X.env)]) :
 PI X (.Tuple elts n tpos) (.Call (.Name "zip" p) [e,e'] [] pos) (Tp X.K ta):=by
 intro pins s Z H R I h;refine Call_ (FW I hg hm (by decide +kernel:bootBuiltins "zip" = some (.type "zip")) (PyProof.Rows.callWith_type1 (thn (ha pos pins s Z H _ I h) λus s1 z9=>?_) (by rw [hs,hs2]) (by rw [hs2];rfl)));obtain ⟨vs,H1,I1,r1,q1⟩:=z9;obtain ⟨a,b,xs,ys,ev,q1⟩:=q1;subst ev
 cases r1 with
 | cons r rr=>
   cases rr with
   | cons r' rr=>
     cases rr
     cases r
     cases r'
     have fresh:∀c∈[s1.heap.objs.size + 4,s1.heap.objs.size + 2,s1.heap.objs.size + 3,s1.heap.objs.size,s1.heap.objs.size + 1],FpOk X pins H1 c:=λc hc=>by
      have hc':s1.heap.objs.size<=c:=by
       simp only [List.mem_cons,List.not_mem_nil,or_false] at hc;lia
      exact I1.fpOk hc' (I1.hok.fresh hc')
     rcases q1 with ⟨hq1,hq2,q⟩ | ⟨hq1,hq2,q⟩
     ·obtain ⟨its,rv,P1,hz⟩:=I1.list hq1;obtain ⟨jts,rv',P2,hz'⟩:=I1.list hq2;have la:a < s1.heap.objs.size:=by obtain ⟨o,n,e,_⟩:=P1;exact Heap.lt_size e
      have lb:b < s1.heap.objs.size:=by obtain ⟨o,n,e,_⟩:=P2;exact Heap.lt_size e
      refine call_zip_2 (xs:=its.toArray) (ys:=jts.toArray) P1.isList P2.isList λg k1 k2 k3 k4 k5 _ kk=>?_;have st:ZL g (s1.heap.objs.size + 4) (s1.heap.objs.size + 2) (s1.heap.objs.size + 3) s1.heap.objs.size (s1.heap.objs.size + 1) a b 0:=⟨k1,k2,⟨_,_,k3⟩,k4,k5⟩;refine wpAny_pyIter_zip st.zz ?_;exact ⟨s1.heap.objs.size + 4,_,_,_,H1,rfl,I1.kept (t':=s1.toks) kk,NR a b _ _ _ _ _ (IH la lb),st,fresh,q⟩
     ·obtain ⟨its,rv,⟨o1,p1,pc1,n1,pd1⟩,hz⟩:=I1.tuple hq1;obtain ⟨jts,rv',⟨o2,p2,pc2,n2,pd2⟩,hz'⟩:=I1.tuple hq2;have la:a < s1.heap.objs.size:=Heap.lt_size p1;have lb:b < s1.heap.objs.size:=Heap.lt_size p2;refine M4 (xs:=its.toArray) (ys:=jts.toArray) ⟨o1,p1,pc1,n1,pd1⟩ ⟨o2,p2,pc2,n2,pd2⟩ λg st kk=>?_;refine wpAny_pyIter_zip st.zz ?_;exact ⟨s1.heap.objs.size + 4,_,_,_,H1,rfl,I1.kept (t':=s1.toks) kk,O3 a b _ _ _ _ _ (IH la lb),st,fresh,q⟩
end L2
namespace F2
open PySem L2 PySem.Spec
section
variable {X:Cx}{a b:Expr}{pos:Pos}
end
end F2
namespace L2
open PySem PySem.Spec PyProof.Rows PySem.W
section
variable {prog:Program}{w:World}{A:Around}{E:Value->Shared->Prop}{env:Env}{K:PySem.W.Frag}{C:Addr}{bm:List Value}{s:Shared}
end
section
variable {X:Cx}{pins:List (Addr×Obj)}{Z:St}{H:Hp}{s s':Shared}{qx:Bool}{x C:Addr}{dx T:Option Addr}{fl:Value}
end
section
variable {X:Cx}{n v:Str}{C' C2:Addr}{bm' bm2:List Value}{p pos p2:Pos}{e cN:Expr}{rest:List ExceptHandler}{t:St->Hp->(Addr->Option Addr->Hp->Prop)->Prop}{tr:Addr->Addr->Option Addr->TS}{i:Nat}{E:St->XK}
end
structure FnOkH (P:Program)(w:World)(K:PySem.W.Frag)(mg:Str->Option Value)(base:Heap)(CX:CXT)(k:Nat)(f:Addr)(fd:FuncData)(ps:List Str)(sp:Sp):Prop where
 len:∀vs H Q E,sp vs H Q E->vs.length=ps.length
 run:∀(z:Addr) (A:Around) (outer:List Env) (s:Shared) (H:Hp) (args:Args) (us:List Value) (vs:List V) (Q:VK) (E:XK),Room k A->Env0 P w K mg base A outer s H->BindsTo s fd args (ps.zip us)->Vals vs us->sp vs H Q E->
  codeAny (model P w) (A.mark (some (.ref z))) (.call (.ref f) args) (CR CX outer P w H s Q E) s
section
variable {qx:Bool}{X:Cx}{k:Nat}{f C P:Addr}{fd:FuncData}{pins:List (Addr×Obj)}{Z:St}{H:Hp}{s:Shared}{Q:Value->Shared->Prop}{us:List Value}{vs:List V}{a b:Str}{ps:List Str}{v v2:V}{u u2:Value}{n:Str}{p pos:Pos}{e e':Expr}
end
end L2
namespace F2
open PySem L2 PySem.Spec PySem.W
section
variable {X:Cx}{pos p p2 p3 p4:Pos}{P:Addr}{ca:Str->Addr}{E:XK}{e e' cN:Expr}
end
end F2
namespace L2
open PySem PySem.Spec PyProof.Rows
section
variable {prog:Program}{w:World}{A:Around}{E:Value->Shared->Prop}{s:Shared}
variable {I:Addr}{fp wr:List Addr}{G:Array GenState->Array GenState->Prop}{n:Nat}{P:Nat->Value->Prop}{St:Nat->Shared->Prop}
def VC (prog:Program)(w:World)(h:Heap)(no:List Addr)(k:Key)(x v:Value):Prop:=∃(p:Addr) (o:Obj) (kv:Value) (q:Nat),v = .ref p/\p∉no/\h.get? p=some o/\o.cls = .type "tuple"/\o.data = .seq #[kv,x] q/\(Ia prog w).is k kv=true
end
section
variable {X:Cx}
end
end L2
namespace F2
open PySem L2 PySem.Spec PyProof.Rows
section
variable {X:Cx}{pos:Pos}{e:Expr}
end
end F2
namespace L2
open PySem PySem.Spec PyProof.Rows
section
variable {X:Cx}
end
end L2
namespace F2
open PySem L2 PySem.Spec PyProof.Rows
section
variable {K:PySem.W.Frag}
end
section
variable {X:Cx}{pos:Pos}{e:Expr}
end
end F2
namespace F2
open PySem L2 PySem.Spec PySem.W
section
variable {X:Cx}
end
end F2
namespace F2
open PySem L2 PySem.Spec PyProof.Rows
section
variable {K:PySem.W.Frag}
end
abbrev Gd:=Option (Nat×List D)
def Gon (g:Gd)(S:List Ob):Prop:=∀k xs,g=some (k,xs)->S[k]?=some (.lst xs)
def chk (g:Gd):M Unit:=λt=>@ite _ (Gon g t.S) (Classical.propDecidable _) (some ((),t)) none
variable {g:Gd}
theorem Kb {t t':T}{u:Unit}(h:chk g t=some (u,t')):Gon g t.S/\t'=t:=by
 unfold chk at h
 split at h
 ·next q=>cases h;exact ⟨q,rfl⟩
 ·cases h
theorem M5 {t:T}(h:Gon g t.S):chk g t=some ((),t):=by unfold chk;rw [if_pos h]
def CD (g:Gd)(st:D->M Unit)(tst:M Bool)(elt:M D):List D->M (List D)
 | []=>bnd (chk g) λ_=>ret []
 | d :: r=>bnd (chk g) λ_=>bnd (st d) λ_=>bnd tst λk=>if k=true then bnd elt λx=>bnd (CD g st tst elt r) λxs=>ret (x :: xs) else CD g st tst elt r
def FP (n:Nat)(fr:List Nat)(f:M (Gd×List D))(st:D->M Unit)(tst:M Bool)(elt:M D):M (List D):=bnd f λp t=>match CD p.1 st tst elt p.2 ⟨cenv n fr t.env,t.S⟩ with
 | some (xs,t')=>if xs.length<=LIM then some (xs,{ t with S:=t'.S }) else none
 | none=>none
structure ItOk3 (K:PySem.W.Frag)(J:It)(g:Gd)(c:Cf)(H:Hp)(ds:List D):Prop where
 go:∀c' H' S' (i:Nat),Ext c H c' H'->SInv K c' S' H'->Gon g S'->i < ds.length->J.go i H'
 yld:∀c' H' S' (i:Nat) x H'' d,Ext c H c' H'->SInv K c' S' H'->Gon g S'->ds[i]?=some d->J.yld i H' x H''->∃p vs es,x = .ref p/\H' p=none/\H''=upd H' p (.tup vs)/\d = .tup es/\Reps K c' H' vs es
 stop:∀c' H' S',Ext c H c' H'->SInv K c' S' H'->Gon g S'->J.stop ds.length H'
variable {K:PySem.W.Frag}{H:Hp}
theorem ItOk2.to3 {J:It}{c:Cf}{ds:List D}(h:ItOk2 K J c H ds):ItOk3 K J g c H ds:=
 ⟨λc' H' _ i e _ _=>h.go c' H' i e,λc' H' _ i x H'' d e _ _=>h.yld c' H' i x H'' d e,λc' H' _ e _ _=>h.stop c' H' e⟩
def RI3 (K:PySem.W.Frag)(f:M (Gd×List D)):TI:=λZ H R=>∃Oo c t,FInv K Oo c t Z H/\∃p t',f t=some (p,t')/\∀J H' c',FInv K Oo c' t' Z H'->Stp Oo c H c' H'->ItOk3 K J p.1 c' H' p.2->R J H'
theorem RF.comp3 {n:Nat}{fr:List Nat}{f:M (Gd×List D)}{st:D->M Unit}{tst:M Bool}{elt:M D}{Z:L2.St}{Q:VK}(q:RF K (FP n fr f st tst elt) Z H Q):JL (RI3 K f) (RG K st) (RT K tst) (RE K elt) (EB n fr) Z H Q:=by
 obtain ⟨Oo,c,t,fi,xs,t',eq,k⟩:=q;obtain ⟨pg,t1,e1,eq⟩:=Ak eq;refine ⟨Oo,c,t,fi,pg,t1,e1,λJ H1 c1 f1 s1 it=>?_⟩;obtain ⟨g,ds⟩:=pg;dsimp only at eq it
 cases e3:CD g st tst elt ds ⟨cenv n fr t1.env,t1.S⟩ with
 | none=>rw [e3] at eq;cases eq
 | some p=>
   obtain ⟨ys,t3⟩:=p;rw [e3] at eq;dsimp only at eq
   split at eq
   case isFalse=>cases eq
   next hl=>
   cases eq
   refine ⟨λi m acc Z' H'=>m=ds.length - i/\i<=ds.length/\∃c' t2 zs rest,FInv K c1.O c' t2 Z' H'/\Stp c1.O c1 H1 c' H'/\Reps K c' H' acc zs/\CD g st tst elt (ds.drop i) t2=some (rest,t3)/\xs=zs++rest,
    ⟨_,rfl,Nat.zero_le _,c1,_,[],xs,He f1,.refl,.nil,by rw [List.drop_zero];exact e3,rfl⟩,?_⟩
   rintro i m acc Z' H' ⟨rfl,hi,c',t2,zs,rest,f2,s2,ra,e2,ez⟩;have hacc:acc.length<=sizeLine:=by
    have:zs.length<=xs.length:=by rw [ez,List.length_append];exact Nat.le_add_right _ _
    rw [ra.length];exact Nat.le_trans this (Nat.le_trans hl B5)
   refine ⟨hacc,?_⟩
   by_cases hlt:i < ds.length
   ·rw [List.drop_eq_getElem_cons hlt] at e2;unfold CD at e2;obtain ⟨u0,t0,e0,e2⟩:=Ak e2;obtain ⟨hon,ht0⟩:=Kb e0;rw [ht0] at e2;clear e0 ht0;refine .inr ⟨it.go c' H' _ i s2.ext f2.s hon hlt,λx H'' hy=>?_⟩;obtain ⟨p,vs,es,rfl,hp,rfl,ed,rx⟩:=it.yld c' H' _ i x H'' _ s2.ext f2.s hon (List.getElem?_eq_getElem hlt) hy;rw [ed] at e2;obtain ⟨u,t4,e4,e2⟩:=Ak e2;obtain ⟨kb,t5,e5,e2⟩:=Ak e2;have sL:=f2.stp_laid (o:=.tup vs) hp;have s2':=s2.trans sL;have ra':=ra.mono sL.ext;refine ⟨c1.O,c',_,_,f2.laid hp,.tup AF (f2.s.free hp) (rx.mono (Ext.laid f2.s hp)),t4,e4,λZ3 H3 c3 f3 s3=>⟨c1.O,c3,t4,f3,kb,t5,e5,λH4 c4 f4 s4=>?_⟩⟩
    cases kb with
    | false=>
      rw [if_neg Bool.false_ne_true] at e2 ⊢;exact ⟨ds.length - (i + 1),by lia,rfl,hlt,c4,t5,zs,rest,f4,(s2'.trans s3).trans s4,ra'.mono (s3.trans s4).ext,e2,ez⟩
    | true=>
      rw [if_pos rfl] at e2 ⊢;obtain ⟨x6,t6,e6,e2⟩:=Ak e2;obtain ⟨r7,t7,e7,e2⟩:=Ak e2
      cases e2
      refine ⟨c1.O,c4,t5,f4,x6,t6,e6,λv H5 c5 f5 s5 rv=>?_⟩;exact ⟨ds.length - (i + 1),by lia,rfl,hlt,c5,t6,zs++[x6],r7,f5,((s2'.trans s3).trans s4).trans s5,(ra'.mono ((s3.trans s4).trans s5).ext).append (.cons rv .nil),e7,by rw [ez,List.append_assoc];rfl⟩
   ·have hi':i=ds.length:=by lia
    subst hi';rw [List.drop_length] at e2;unfold CD at e2;obtain ⟨u0,t0,e0,e2⟩:=Ak e2;obtain ⟨hon,ht0⟩:=Kb e0;rw [ht0] at e2;clear e0 ht0
    cases e2
    refine .inl ⟨it.stop c' H' _ s2.ext f2.s hon,λp hp _=>?_⟩;obtain ⟨si,ext⟩:=f2.leave;obtain ⟨f6,s6⟩:=f1.after si ⟨s2.ext.trans ext,s2.oo⟩ (λ_=>Iff.rfl);rw [List.append_nil] at ez;subst ez;exact k p acc H' _ f6 (s1.trans s6) (ra.mono ext) hp
def FG:List D->M (Gd×List D)
 | [.obj k,.lst ys]=>λt=>match t.S[k]? with
   | some (.lst xs)=>some ((some (k,xs),B9 xs ys),t)
   | _=>none
 | [.lst xs,.lst ys]=>ret (none,B9 xs ys)
 | [.tup xs,.tup ys]=>ret (none,B9 xs ys)
 | _=>fail
def JH (f:M (List D)):M (Gd×List D):=bnd f FG
theorem ItOk3.zipl {c:Cf}{p q:Addr}{ds es:List D}(r:∀c' H' S',Ext c H c' H'->SInv K c' S' H'->Gon g S'->∃vs,SqL K H' p vs/\Reps K c' H' vs ds)(r':∀c' H',Ext c H c' H'->∃vs,SqL K H' q vs/\Reps K c' H' vs es):ItOk3 K (L5 K p q) g c H (B9 ds es):=by
 refine ⟨λc' H' S' i ex si on hi=>?_,λc' H' S' i x H'' d ex si on hd hy=>?_,λc' H' S' ex si on=>?_⟩
 ·obtain ⟨vs,h1,h2⟩:=r c' H' S' ex si on;obtain ⟨ws,h3,h4⟩:=r' c' H' ex;rw [Dy] at hi;obtain ⟨v,e,_⟩:=h2.at (List.getElem?_eq_getElem (Nat.lt_of_lt_of_le hi (Nat.min_le_left _ _)));obtain ⟨w,e',_⟩:=h4.at (List.getElem?_eq_getElem (Nat.lt_of_lt_of_le hi (Nat.min_le_right _ _)));exact ⟨vs,ws,v,w,h1,h3,e,e'⟩
 ·obtain ⟨vs,h1,h2⟩:=r c' H' S' ex si on;obtain ⟨ws,h3,h4⟩:=r' c' H' ex;obtain ⟨a,v,w,rfl,hq,hs,hs',rfl⟩:=hy;obtain ⟨d1,d2,e1,e2,rfl⟩:=FH _ _ _ _ hd;obtain ⟨v',g1,rv⟩:=h2.at e1;obtain ⟨w',g2,rw'⟩:=h4.at e2;rw [hs vs h1] at g1;rw [hs' ws h3] at g2
  cases g1
  cases g2
  exact ⟨a,_,_,rfl,hq,rfl,rfl,.cons rv (.cons rw' .nil)⟩
 ·obtain ⟨vs,h1,h2⟩:=r c' H' S' ex si on;obtain ⟨ws,h3,h4⟩:=r' c' H' ex;refine ⟨vs,ws,h1,h3,?_⟩;rw [Dy,h2.length,h4.length];lia
section
variable {X:Cx}{e a b tg iter elt:Expr}{ifs:List Expr}{pos:Pos}{scope:Scope}{N':List Str}{n:Nat}{fr:List Nat}{st:D->M Unit}{tst:M Bool}{el:M D}
theorem Kj {f:M (Gd×List D)}(O:CmpOk X scope N' (EB n fr))(hc:X.calm=true)(hi:PI X tg iter (RI3 X.K f))
 (hg:∀cl C s2 H2 fp,PG (B0 X N' scope cl C s2 H2 fp) tg (RG X.K st)) (ht:∀cl C s2 H2 fp,PIf (B0 X N' scope cl C s2 H2 fp) ifs (RT X.K tst)) (he:∀cl C s2 H2 fp,PE (B0 X N' scope cl C s2 H2 fp) elt (RE X.K el))
 (hs:∀x,foldedSetIterable iter X.env x=pure x:=by intro _;rfl):PE X (.ListComp elt [⟨tg,iter,ifs,0⟩] scope pos) (RF X.K (FP n fr f st tst el)):=
 Bs (LQ O hc hi hg ht he hs) λ_ _ _ q=>RF.comp3 q
theorem LC {g:M (List D)}{elts:List Expr}{m:Nat}{tpos p:Pos}(hg:Gl X "zip")(hm:X.mg "zip" = none)(ha:PA X [a,b] (RA X.K g))(h1:BM a=false:=by rfl)(h2:BM b=false:=by rfl):PI X (.Tuple elts m tpos) (.Call (.Name "zip" p) [a,b] [] pos) (RI3 X.K (JH g)):=
 JO (Qw hg hm ha (by rw [Bv h1,Bv h2];rfl) (Bv h2)) λZ H R z9=>by
  obtain ⟨Oo,c,t,fi,pg,t',eq,k⟩:=z9;obtain ⟨xs,t1,e1,eq⟩:=Ak eq;refine ⟨Oo,c,t,fi,xs,t1,e1,λvs H1 c1 f1 s1 rv=>?_⟩;unfold FG at eq
  split at eq
  ·next kk es'=>
   split at eq
   ·next es hS=>
    cases eq
    cases rv with
    | cons r rs=>
      cases rs with
      | cons r' rs=>
        cases rs
        cases r with
        | @obj a _ hk=>
          cases r' with
          | @lst a' ws' _ g1' g2' g3'=>
            obtain ⟨ws,g1,g3⟩:=f1.s.obs kk a _ hk hS;refine ⟨a,a',ws,ws',rfl,.inl ⟨SqL.of g1,SqL.of g1',k _ H1 c1 f1 s1 (ItOk3.zipl (λc' H' S' ex si on=>?_) λc' H' ex=>⟨ws',SqL.of (ex.keep _ _ g1' g2'),g3'.mono ex⟩)⟩⟩;obtain ⟨us,q1,q2⟩:=si.obs kk a _ (ex.io _ _ hk) (on kk es rfl);exact ⟨us,SqL.of q1,q2⟩
   ·cases eq
  ·next es es'=>
   cases eq
   cases rv with
   | cons r rs=>
     cases rs with
     | cons r' rs=>
       cases rs
       cases r with
       | @lst a ws _ g1 g2 g3=>
         cases r' with
         | @lst a' ws' _ g1' g2' g3'=>exact ⟨a,a',ws,ws',rfl,.inl ⟨SqL.of g1,SqL.of g1',k _ H1 c1 f1 s1 (ItOk2.to3 (ItOk2.zipl (λc' H' ex=>⟨ws,SqL.of (ex.keep _ _ g1 g2),g3.mono ex⟩) λc' H' ex=>⟨ws',SqL.of (ex.keep _ _ g1' g2'),g3'.mono ex⟩))⟩⟩
  ·next es es'=>
   cases eq
   cases rv with
   | cons r rs=>
     cases rs with
     | cons r' rs=>
       cases rs
       cases r with
       | @tup a ws _ g1 g2 g3=>
         cases r' with
         | @tup a' ws' _ g1' g2' g3'=>exact ⟨a,a',ws,ws',rfl,.inr ⟨SqT.of g1,SqT.of g1',k _ H1 c1 f1 s1 (ItOk2.to3 (ItOk2.zip (λc' H' ex=>⟨ws,SqT.of (ex.keep _ _ g1 g2),g3.mono ex⟩) λc' H' ex=>⟨ws',SqT.of (ex.keep _ _ g1' g2'),g3'.mono ex⟩))⟩⟩
  ·cases eq
end
end F2
namespace LW
open PySem L2 F2
def EU:M Out:=
 (AN (Fo (D8 (fC (.int 32)) (Ad 0) (fC (.int 126)) leA leA) (Ah (Ad 0) (fC (.int 37)) (eqS λb=>!b))))
def DJ:M Out:=
 (As (A8 1 (Eg (fBF (Ab (fSl (Ad 0) fNo (Gk (fC (.int 63))) EJ) Ai) Ei)))
 (As (ifS (AM (Ah (Ad 1) (A6 (Bu Ai)) (eqS id)))
   (A8 1 (Eg (Bu (Ab (fC (.int 0)) Ai))))
   A3)
 (AN (Eg (Bu (Ab (Ad 1) (Ab (Ah (fB (Ab (Ad 0) Ai) Bt) (fC (.int 2)) Dd) (Ab (fC (.int 0)) Ai))))))))
def C3:M Out:=
 (As (A8 2 (Ah (Ah (Ad 0) (fC (.int 2)) ixD) (fB (Ab (Ah (Ad 0) (fC (.int 0)) ixD) Ai) Bt) Dd))
 (As (Ey (Ah (Ah (Ad 0) (fC (.int 2)) ixD) (fC (.int 1)) Bf) (stD (Ad 0) (fC (.int 2))))
 (As (ifS (AM (Ah (Ah (Ad 0) (fC (.int 1)) ixD) (fC (.int 0)) (eqS id)))
   (As (A8 3 (Ah (Ah (Ah (Ad 0) (fC (.int 0)) ixD) (Ad 2) ixD) (Ad 1) Dd))
 (As (Ey (Ah (Ah (Ah (Ad 0) (fC (.int 0)) ixD) (Ad 2) ixD) (Ad 1) C5) (stD (Ah (Ad 0) (fC (.int 0)) ixD) (Ad 2)))
 (AN (Ad 3))))
   A3)
 (As (A8 4 (Ah (Ah (Ah (Ah (Ah (Ah (Ad 0) (fC (.int 0)) ixD) (Ad 2) ixD) (fC (.int 1000000021)) Dd) (fC (.int 6563)) Du) (Ah (Ah (Ad 0) (fC (.int 2)) ixD) (fC (.int 130363)) Du) Bf) (fC (.int 1000000033)) Dd))
 (As (A8 4 (Ah (Ah (Ad 4) (Ad 4) Du) (fC (.int 469762049)) Dd))
 (AN (Ah (Ah (Ah (Ah (Ah (Ad 4) (fC (.int 29443)) Du) (Ah (Ad 0) (fC (.int 2)) ixD) Bf) (fC (.int 167772161)) Dd) (fC (.int 3)) C5) (Ad 1) Dd)))))))
def D4 (Ax:Fn):M Out:=
 (As (A8 1 (Ah (Ah (Ah (Aq Ax (Ab (Ad 0) (Ab (Ah (fC (.int 10)) (fC (.int 6)) De) Ai))) (Ah (fC (.int 10)) (fC (.int 12)) De) Du) (Ah (Aq Ax (Ab (Ad 0) (Ab (Ah (fC (.int 10)) (fC (.int 6)) De) Ai))) (Ah (fC (.int 10)) (fC (.int 6)) De) Du) Bf) (Aq Ax (Ab (Ad 0) (Ab (Ah (fC (.int 10)) (fC (.int 6)) De) Ai))) Bf))
 (AN (Ah (Ad 1) (Ah (A6 (Bu (Ab (fC (.int 1)) (Ab (fUn (fC (.int 1)) Mt) Ai)))) (Aq Ax (Ab (Ad 0) (Ab (fC (.int 2)) Ai))) ixD) Du)))
def DK (Ax D2:Fn):M Out:=
 (As (A8 1 (Aq Ax (Ab (Ad 0) (Ab (fC (.int 6)) Ai))))
 (As (ifS (AM (Ah (Ad 1) (fC (.int 0)) (eqS id)))
   (AN (Ca (Ab (fC (.str "nothing")) Ai)))
   A3)
 (As (ifS (AM (Ah (Ad 1) (fC (.int 3)) ltA))
   (AN (Ca (Ab (fC (.str "text")) (Ab (Ah (A6 (Bu (Ab (fC (.int 0)) (Ab (fC (.int 1)) (Ab (fC (.int 4)) (Ab (fC (.int 250)) (Ab (Aq Ax (Ab (Ad 0) (Ab (fC (.int 251)) Ai))) Ai))))))) (Aq Ax (Ab (Ad 0) (Ab (fC (.int 5)) Ai))) ixD) Ai))))
   A3)
 (As (A8 2 (Ah (A6 (Bu (Ab (fC (.int 0)) (Ab (Ah (Aq Ax (Ab (Ad 0) (Ab (fC (.int 40)) Ai))) (fC (.int 20)) B2) (Ab (Aq D2 (Ab (Ad 0) Ai)) (Ab (Ah (fC (.int 1)) (Ah (fC (.int 10)) (fC (.int 18)) De) B2) Ai)))))) (Aq Ax (Ab (Ad 0) (Ab (fC (.int 4)) Ai))) ixD))
 (As (A8 3 (Ah (Ah (A6 (Bu (Ab (Ah (fC (.int 2)) (fC (.int 24)) De) (Ab (Ah (fC (.int 2)) (fC (.int 32)) De) (Ab (Ah (fC (.int 2)) (fC (.int 40)) De) (Ab (Ah (fC (.int 2)) (fC (.int 48)) De) (Ab (Ah (fC (.int 2)) (fC (.int 56)) De) Ai))))))) (Aq Ax (Ab (Ad 0) (Ab (fC (.int 5)) Ai))) ixD) (Aq Ax (Ab (Ad 0) (Ab (fC (.int 2)) Ai))) B2))
 (As (A8 4 (A6 (Bu (Ab (fC (.int 0)) (Ab (fC (.int 1)) (Ab (fC (.int 255)) (Ab (fC (.int 256)) (Ab (fC (.int 299)) (Ab (fC (.int 65535)) (Ab (fC (.int 65536)) (Ab (Aq Ax (Ab (Ad 0) (Ab (fC (.int 1000)) Ai))) (Ab (fB (Ab (Aq D2 (Ab (Ad 0) Ai)) Ai) JT) (Ab (Ad 3) (Ab (Ah (fC (.int 2)) (Ah (fC (.int 10)) (fC (.int 18)) De) Du) Ai))))))))))))))
 (AN (Ca (Ab (fC (.str "number")) (Ab (Ad 2) (Ab (fB (Ab (Ah (Ah (fC (.int 10)) (fC (.int 18)) De) (fC (.int 1)) B2) (Ab (Ah (Ad 2) (Ah (Ad 4) (Aq Ax (Ab (Ad 0) (Ab (fC (.int 11)) Ai))) ixD) Bf) Ai)) H9) Ai)))))))))))
def Dn (Ax Cg J0:Fn):M Out:=
 (As (Ey (Ah (Ah (Ad 2) (fC (.int 0)) ixD) (fC (.int 1)) B2) (stD (Ad 2) (fC (.int 0))))
 (As (A8 3 (Aq Ax (Ab (Ad 0) (Ab (fC (.int 8)) Ai))))
 (As (ifS (fOr (AM (Ah (Ad 1) (fC (.int 2)) ltA)) (fOr (AM (Ah (Ah (Ad 2) (fC (.int 0)) ixD) (fC (.int 1)) ltA)) (AM (Ah (Ad 3) (fC (.int 2)) ltA))))
   (AN (Aq J0 (Ab (Ad 0) Ai)))
   A3)
 (As (ifS (AM (Ah (Ad 3) (fC (.int 4)) ltA))
   (As (A8 4 (Ah (A6 (Bu (Ab (fC (.int 0)) (Ab (fC (.int 1)) (Ab (fC (.int 3)) (Ab (fC (.int 250)) (Ab (Aq Ax (Ab (Ad 0) (Ab (fC (.int 251)) Ai))) Ai))))))) (Aq Ax (Ab (Ad 0) (Ab (fC (.int 5)) Ai))) ixD))
 (AN (Ca (Ab (fC (.str "list")) (Ab (Aq Cg (Ab (Ad 0) (Ab (Ah (Ad 1) (fC (.int 1)) B2) (Ab (Ad 2) Ai)))) (Ab (Ad 4) Ai))))))
   A3)
 (As (ifS (AM (Ah (Ad 3) (fC (.int 6)) ltA))
   (As (A8 5 (Aq Cg (Ab (Ad 0) (Ab (Ah (Ad 1) (fC (.int 1)) B2) (Ab (Ad 2) Ai)))))
 (AN (Ca (Ab (fC (.str "pair")) (Ab (Ad 5) (Ab (Aq Cg (Ab (Ad 0) (Ab (Ah (Ad 1) (fC (.int 1)) B2) (Ab (Ad 2) Ai)))) Ai))))))
   A3)
 (As (A8 6 (A6 (CS 1 [0,2,1] (Cm (Ab (Ah (fC (.int 1)) (Aq Ax (Ab (Ad 0) (Ab (Ah (A6 (Bu (Ab (fC (.int 3)) (Ab (fC (.int 9)) Ai)))) (fB (Ab (Ah (Ad 1) (fC (.int 2)) (eqS id)) Ai) HW) ixD) Ai))) Bf) Ai)) (BI 0) Df (Aq Cg (Ab (Ad 1) (Ab (Ah (Ad 3) (fC (.int 1)) B2) (Ab (Ad 2) Ai)))))))
 (AN (Ca (Ab (fC (.str "choice")) (Ab (fB (Ab (Ad 6) Ai) K9) Ai))))))))))
def DO (Ax:Fn):M Out:=
 (As (A8 1 (fC (.str " !\"#$&'()*+,-./0123456789:;<=>?@ABCDEFGHIJKLMNOPQRSTUVWXYZ[\\]^_`abcdefghijklmnopqrstuvwxyz{|}~")))
 (AN (Ah (Ad 1) (Aq Ax (Ab (Ad 0) (Ab (fC (.int 94)) Ai))) ixD)))
def Dm (Ce:Fn):M Out:=
 (As (ifS (AM (Ah (Ah (Ad 0) (fC (.int 0)) ixD) (fC (.str "list")) (eqS id)))
   (AN (Ah (fC (.int 1)) (Aq Ce (Ab (Ah (Ad 0) (fC (.int 1)) ixD) Ai)) Bf))
   A3)
 (As (ifS (AM (Ah (Ah (Ad 0) (fC (.int 0)) ixD) (fC (.str "pair")) (eqS id)))
   (AN (Ah (Ah (fC (.int 1)) (Aq Ce (Ab (Ah (Ad 0) (fC (.int 1)) ixD) Ai)) Bf) (Aq Ce (Ab (Ah (Ad 0) (fC (.int 2)) ixD) Ai)) Bf))
   A3)
 (As (ifS (AM (Ah (Ah (Ad 0) (fC (.int 0)) ixD) (fC (.str "choice")) (eqS id)))
   (AN (Ah (fC (.int 1)) (fB (Ab (A6 (CS 1 [] (Fp (Ah (Ad 0) (fC (.int 1)) ixD)) (BI 0) Df (Aq Ce (Ab (Ad 0) Ai)))) Ai) Hr) Bf))
   A3)
 (AN (fC (.int 1))))))
def Do (Ch Ax Ce J4 D2:Fn):M Out:=
 (As (Ey (Ah (Ah (Ad 2) (fC (.int 0)) ixD) (fC (.int 1)) B2) (stD (Ad 2) (fC (.int 0))))
 (As (Ey (Ah (Ah (Ad 2) (fC (.int 1)) ixD) (fC (.int 1)) B2) (stD (Ad 2) (fC (.int 1))))
 (As (ifS (AM (Ah (Ah (Ad 1) (fC (.int 0)) ixD) (fC (.str "nothing")) (eqS id)))
   (AN (fC .non))
   A3)
 (As (ifS (AM (Ah (Ah (Ad 1) (fC (.int 0)) ixD) (fC (.str "number")) (eqS id)))
   (As (Ey (Ah (Ah (Ad 2) (fC (.int 1)) ixD) (fC (.int 8)) B2) (stD (Ad 2) (fC (.int 1))))
 (As (A8 3 (Ah (Ah (Ad 1) (fC (.int 2)) ixD) (Ah (Ad 1) (fC (.int 1)) ixD) B2))
 (As (A8 4 (A6 (Bu (Ab (fC (.int 0)) (Ab (Ad 3) (Ab (Ah (fB (Ab (Aq D2 (Ab (Ad 0) Ai)) Ai) JT) (Ah (Ad 3) (fC (.int 1)) Bf) Dd) (Ab (Ah (Aq Ax (Ab (Ad 0) (Ab (fC (.int 1000)) Ai))) (Ah (Ad 3) (fC (.int 1)) Bf) Dd) Ai)))))))
 (AN (Ah (Ah (Ad 1) (fC (.int 1)) ixD) (Ah (Ad 4) (Aq Ax (Ab (Ad 0) (Ab (fC (.int 4)) Ai))) ixD) Bf)))))
   A3)
 (As (ifS (AM (Ah (Ah (Ad 1) (fC (.int 0)) ixD) (fC (.str "text")) (eqS id)))
   (As (A8 5 (fB (Ab (Ah (Ad 1) (fC (.int 1)) ixD) (Ab (fB (Ab (fC (.int 0)) (Ab (Ah (Ah (Ad 2) (fC (.int 1)) ixD) (fC (.int 2)) C5) Ai)) F0) (Ab (Ah (A6 (Bu (Ab (fC (.int 0)) (Ab (fC (.int 1)) (Ab (Aq Ax (Ab (Ad 0) (Ab (fC (.int 5)) Ai))) (Ab (fC (.int 250)) Ai)))))) (Aq Ax (Ab (Ad 0) (Ab (fC (.int 4)) Ai))) ixD) Ai))) Hs))
 (As (Ey (Ah (Ah (Ad 2) (fC (.int 1)) ixD) (Ad 5) B2) (stD (Ad 2) (fC (.int 1))))
 (AN (joinM (fC (.str "")) (Ab (A6 (CS 1 [0] (Cm (Ab (Ad 5) Ai)) (BI 0) Df (Aq J4 (Ab (Ad 1) Ai)))) Ai)))))
   A3)
 (As (ifS (AM (Ah (Ah (Ad 1) (fC (.int 0)) ixD) (fC (.str "list")) (eqS id)))
   (As (A8 5 (fB (Ab (Ah (Ad 1) (fC (.int 2)) ixD) (Ab (fB (Ab (fC (.int 0)) (Ab (Ah (Ah (Ad 2) (fC (.int 0)) ixD) (Ah (fC (.int 2)) (Aq Ce (Ab (Ah (Ad 1) (fC (.int 1)) ixD) Ai)) Du) C5) Ai)) F0) (Ab (fB (Ab (fC (.int 0)) (Ab (Ah (Ah (Ad 2) (fC (.int 1)) ixD) (fC (.int 12)) C5) Ai)) F0) Ai))) Hs))
 (As (A8 5 (fB (Ab (Ad 5) (Ab (Ah (A6 (Bu (Ab (fC (.int 0)) (Ab (fC (.int 1)) (Ab (Aq Ax (Ab (Ad 0) (Ab (fC (.int 4)) Ai))) (Ab (fC (.int 250)) Ai)))))) (Aq Ax (Ab (Ad 0) (Ab (fC (.int 4)) Ai))) ixD) Ai)) H9))
 (AN (A6 (CS 1 [0,2,1] (Cm (Ab (Ad 5) Ai)) (BI 0) Df (Aq Ch (Ab (Ad 1) (Ab (Ah (Ad 3) (fC (.int 1)) ixD) (Ab (Ad 2) Ai)))))))))
   A3)
 (As (ifS (AM (Ah (Ah (Ad 1) (fC (.int 0)) ixD) (fC (.str "pair")) (eqS id)))
   (As (A8 6 (Aq Ch (Ab (Ad 0) (Ab (Ah (Ad 1) (fC (.int 1)) ixD) (Ab (Ad 2) Ai)))))
 (AN (Ca (Ab (Ad 6) (Ab (Aq Ch (Ab (Ad 0) (Ab (Ah (Ad 1) (fC (.int 2)) ixD) (Ab (Ad 2) Ai)))) Ai)))))
   A3)
 (As (A8 7 (Aq Ax (Ab (Ad 0) (Ab (fB (Ab (Ah (Ad 1) (fC (.int 1)) ixD) Ai) Bt) Ai))))
 (AN (Ca (Ab (fC (.str "of")) (Ab (Ad 7) (Ab (Aq Ch (Ab (Ad 0) (Ab (Ah (Ah (Ad 1) (fC (.int 1)) ixD) (Ad 7) ixD) (Ab (Ad 2) Ai)))) Ai)))))))))))))
def Dp:M Out:=
 (AN (Ah (Ah (fUn (Ad 0) JF) (fC (.int 7)) Bf) (fC (.int 8)) C5))
def EW:M Out:=
 (AN (Ah (Ad 0) (Ah (fC (.int 8)) (Ad 1) Du) MI))
def DM:M Out:=
 (As (A8 1 (fC (.int 0)))
 (As (Le (AM (Ah (Ad 0) (fC (.int 0)) gtA))
   (As (A8 0 (Ah (Ad 0) (fC (.int 256)) C5))
 (A8 1 (Ah (Ad 1) (fC (.int 1)) Bf))))
 (AN (Ad 1))))
def Dl (Cd J3:Fn):M Out:=
 (As (ifS (AM (Ah (Ah (Ad 0) (fC (.int 0)) ixD) (fC (.str "nothing")) (eqS id)))
   (AN (A6 (Bu Ai)))
   A3)
 (As (ifS (AM (Ah (Ah (Ad 0) (fC (.int 0)) ixD) (fC (.str "number")) (eqS id)))
   (As (A8 2 (Ah (Ad 1) (Ah (Ad 0) (fC (.int 1)) ixD) B2))
 (As (F3 3 (Bu Ai))
 (As (DV (Cm (Ab (Aq J3 (Ab (Ah (Ah (Ad 0) (fC (.int 2)) ixD) (Ah (Ad 0) (fC (.int 1)) ixD) B2) Ai)) Ai)) (BI 4)
   (As (ownM 3 HV (Ab (fC (.int 0)) (Ab (Ah (Ad 2) (fC (.int 256)) Dd) Ai)))
 (A8 2 (Ah (Ad 2) (fC (.int 256)) C5))))
 (AN (Ad 3)))))
   A3)
 (As (ifS (AM (Ah (Ah (Ad 0) (fC (.int 0)) ixD) (fC (.str "text")) (eqS id)))
   (AN (Ah (A6 (Bu (Ab (fB (Ab (Ad 1) Ai) Bt) Ai))) (A6 (CS 1 [] (Fp (Ad 1)) (BI 0) Df (fB (Ab (Ad 0) Ai) KH))) Bf))
   A3)
 (As (ifS (AM (Ah (Ah (Ad 0) (fC (.int 0)) ixD) (fC (.str "pair")) (eqS id)))
   (AN (Ah (Aq Cd (Ab (Ah (Ad 0) (fC (.int 1)) ixD) (Ab (Ah (Ad 1) (fC (.int 0)) ixD) Ai))) (Aq Cd (Ab (Ah (Ad 0) (fC (.int 2)) ixD) (Ab (Ah (Ad 1) (fC (.int 1)) ixD) Ai))) Bf))
   A3)
 (As (ifS (AM (Ah (Ah (Ad 0) (fC (.int 0)) ixD) (fC (.str "choice")) (eqS id)))
   (AN (Ah (A6 (Bu (Ab (Ah (Ad 1) (fC (.int 1)) ixD) Ai))) (Aq Cd (Ab (Ah (Ah (Ad 0) (fC (.int 1)) ixD) (Ah (Ad 1) (fC (.int 1)) ixD) ixD) (Ab (Ah (Ad 1) (fC (.int 2)) ixD) Ai))) Bf))
   A3)
 (As (F3 3 (Bu (Ab (fB (Ab (Ad 1) Ai) Bt) Ai)))
 (As (DV (Fp (Ad 1)) (BI 5)
   (F3 3 (bnd (Ad 3) λx=>bnd (Aq Cd (Ab (Ah (Ad 0) (fC (.int 1)) ixD) (Ab (Ad 5) Ai))) λy=>J9 x y)))
 (AN (Ad 3)))))))))
def CU (HM J6 J5 J7 HN:Fn):M Out:=
 (As (A8 3 (Ah (Ad 0) (fC (.int 0)) ixD))
 (As (ifS (AM (Ah (Ad 3) (fC (.str "nothing")) (eqS id)))
   (AN (nxD (Ca (Ab (fC .non) (Ab (Ad 2) Ai)))))
   A3)
 (As (ifS (AM (Ah (Ad 3) (fC (.str "number")) (eqS id)))
   (AN (Aq HN (Ab (Ad 0) (Ab (Ad 1) (Ab (Ad 2) Ai)))))
   A3)
 (As (ifS (AM (Ah (Ad 3) (fC (.str "text")) (eqS id)))
   (AN (Aq J7 (Ab (Ad 0) (Ab (Ad 1) (Ab (Ad 2) Ai)))))
   A3)
 (As (ifS (AM (Ah (Ad 3) (fC (.str "list")) (eqS id)))
   (AN (Aq J5 (Ab (Ad 0) (Ab (Ad 1) (Ab (Ad 2) Ai)))))
   A3)
 (As (ifS (AM (Ah (Ad 3) (fC (.str "pair")) (eqS id)))
   (AN (Aq J6 (Ab (Ad 0) (Ab (Ad 1) (Ab (Ad 2) Ai)))))
   A3)
 (AN (Aq HM (Ab (Ad 0) (Ab (Ad 1) (Ab (Ad 2) Ai)))))))))))
def DI:M Out:=
 (As (ifS (AM (Ah (Ad 1) (fB (Ab (Ad 0) Ai) Bt) geA))
   (Hx "Short" (Ab (fC (.str "the bytes end within a value")) Ai))
   A3)
 (AN (nxD (Ah (Ad 0) (Ad 1) ixD))))
def CT (DE:Fn):M Out:=
 (As (DU 3 (Aq DE (Ab (Ad 1) (Ab (Ad 2) Ai))))
 (As (ifS (AM (Ah (Ad 3) (Ad 0) gtA))
   (F9 "Broken" (Ab (Ad 2) (Ab (fC .non) Ai)))
   A3)
 (AN (nxD (Ad 3)))))
def B7 (Mf DE HQ:Fn):M Out:=
 (As (A8 3 (Ah (Ah (Ad 0) (fC (.int 2)) ixD) (Ah (Ad 0) (fC (.int 1)) ixD) B2))
 (As (A8 4 (Aq HQ (Ab (Ad 3) Ai)))
 (As (A8 5 (fC (.int 0)))
 (As (DV (Cm (Ab (Ad 4) Ai)) (BI 6)
   (As (DU 5 (Hc (Ah (Ad 5) (fC (.int 256)) Du) (Aq DE (Ab (Ad 1) (Ab (Ah (Ad 2) (Ad 6) Bf) Ai))) Bf))
 (ifS (AM (Ah (Ad 5) (Aq Mf (Ab (Ad 3) (Ab (Ah (Ah (Ad 4) (fC (.int 1)) B2) (Ad 6) B2) Ai))) gtA))
   (F9 "Broken" (Ab (Ah (Ad 2) (Ad 6) Bf) (Ab (fC .non) Ai)))
   A3)))
 (AN (nxD (Ca (Ab (Ah (Ah (Ad 0) (fC (.int 1)) ixD) (Ad 5) Bf) (Ab (Ah (Ad 2) (Ad 4) Bf) Ai)))))))))
def Ct (Mg CM:Fn):M Out:=
 (As (DU 3 (Aq CM (Ab (Ah (Ad 0) (fC (.int 1)) ixD) (Ab (Ad 1) (Ab (Ad 2) Ai)))))
 (As (A8 4 (Ah (Ad 2) (fC (.int 1)) Bf))
 (As (A8 5 (fC (.str "")))
 (As (DV (Cm (Ab (Ad 3) Ai)) (BI 6)
   (DU 5 (Hc (Ad 5) (Aq Mg (Ab (Ad 1) (Ab (Ah (Ad 4) (Ad 6) Bf) Ai))) Bf)))
 (AN (nxD (Ca (Ab (Ad 5) (Ab (Ah (Ad 4) (Ad 3) Bf) Ai)))))))))
def DP (Me DE:Fn):M Out:=
 (As (DU 2 (Aq DE (Ab (Ad 0) (Ab (Ad 1) Ai))))
 (As (ifS (Ef (AM (Aq Me (Ab (Ad 2) Ai))))
   (F9 "Broken" (Ab (Ad 1) (Ab (fC .non) Ai)))
   A3)
 (AN (nxD (Ah (fC (.str " !\"#$ &'()*+,-./0123456789:;<=>?@ABCDEFGHIJKLMNOPQRSTUVWXYZ[\\]^_`abcdefghijklmnopqrstuvwxyz{|}~")) (Ah (Ad 2) (fC (.int 32)) B2) ixD)))))
def Cs (BO:Fn):M Out:=
 (As (DU 3 (Aq BO (Ab (Ah (Ad 0) (fC (.int 1)) ixD) (Ab (Ad 1) (Ab (Ad 2) Ai)))))
 (As (DU 4 (Aq BO (Ab (Ah (Ad 0) (fC (.int 2)) ixD) (Ab (Ad 1) (Ab (Ah (Ad 3) (fC (.int 1)) ixD) Ai)))))
 (AN (nxD (Ca (Ab (Ca (Ab (Ah (Ad 3) (fC (.int 0)) ixD) (Ab (Ah (Ad 4) (fC (.int 0)) ixD) Ai))) (Ab (Ah (Ad 4) (fC (.int 1)) ixD) Ai)))))))
def B6 (BO CM:Fn):M Out:=
 (As (DU 3 (Aq CM (Ab (Ah (fB (Ab (Ah (Ad 0) (fC (.int 1)) ixD) Ai) Bt) (fC (.int 1)) B2) (Ab (Ad 1) (Ab (Ad 2) Ai)))))
 (As (DU 4 (Aq BO (Ab (Ah (Ah (Ad 0) (fC (.int 1)) ixD) (Ad 3) ixD) (Ab (Ad 1) (Ab (Ah (Ad 2) (fC (.int 1)) Bf) Ai)))))
 (AN (nxD (Ca (Ab (Ca (Ab (fC (.str "of")) (Ab (Ad 3) (Ab (Ah (Ad 4) (fC (.int 0)) ixD) Ai)))) (Ab (Ah (Ad 4) (fC (.int 1)) ixD) Ai)))))))
def DN (BO:Fn):M Out:=
 (As (A8 3 (fC .non))
 (As (A8 4 (fC .non))
 (As (E3 (DU 4 (Aq BO (Ab (Ad 0) (Ab (Ad 1) (Ab (Ad 2) Ai))))) (hAs "ParleyError" 5 (A8 3 (Ad 5)) Rw))
 (As (ifS (AM (Ah (Ad 3) (fC .non) isC))
   (As (ifS (fOr (Ef (AM (fB (Ab (Ad 4) (Ab (fC (.ty "tuple")) Ai)) CQ))) (AM (Ah (fB (Ab (Ad 4) Ai) Bt) (fC (.int 2)) (eqS λb=>!b))))
   (AN (A6 (Bu (Ab (fC (.str "other")) Ai))))
   A3)
 (AN (Ah (A6 (Bu (Ab (fC (.str "told")) Ai))) (A6 (fBF (Ab (Ad 4) Ai) Ei)) Bf)))
   A3)
 (As (ifS (fOr (Ef (AM (bnd (Ad 3) (EZ "ValueError")))) (AM (bnd (Ad 3) (Hn ["NoName", "NoRow", "NoTalk", "NoText", "NoValue"]))))
   (AN (A6 (Bu (Ab (fC (.str "other")) Ai))))
   A3)
 (As (ifS (AM (bnd (Ad 3) (EZ "Short")))
   (AN (Ah (A6 (Bu (Ab (A6 (Bu (Ab (fC (.str "short")) Ai))) (Ab (A6 (Bu (Ab (fC (.str "other")) Ai))) Ai)))) (fB (Ab (bnd (Ad 3) (EZ "Broken")) Ai) HW) ixD))
   A3)
 (As (ifS (fOr (Ef (AM (bnd (Ad 3) (EZ "Broken")))) (AM (Ah (bnd (Ad 3) (HK "side")) (fC .non) FT)))
   (AN (A6 (Bu (Ab (fC (.str "other")) Ai))))
   A3)
 (AN (A6 (Bu (Ab (fC (.str "broken")) (Ab (bnd (Ad 3) (HK "at")) Ai))))))))))))
def Cr (BO CM:Fn):M Out:=
 (As (DU 3 (Aq CM (Ab (Ah (Ad 0) (fC (.int 2)) ixD) (Ab (Ad 1) (Ab (Ad 2) Ai)))))
 (As (A8 4 (Ah (Ad 2) (fC (.int 1)) Bf))
 (As (A8 5 (Eg (Bu Ai)))
 (As (DV (Cm (Ab (Ad 3) Ai)) (BI 6)
   (As (DU 7 (Aq BO (Ab (Ah (Ad 0) (fC (.int 1)) ixD) (Ab (Ad 1) (Ab (Ad 4) Ai)))))
 (As (Ek (objM GJ (Ad 5) (Ab (Ah (Ad 7) (fC (.int 0)) ixD) Ai)))
 (A8 4 (Ah (Ad 7) (fC (.int 1)) ixD)))))
 (AN (nxD (Ca (Ab (Ad 5) (Ab (Ad 4) Ai)))))))))
def BW (Cq:Fn):M Out:=
 (As (ifS (fOr (AM (fB (Ab (Ad 1) (Ab (fC (.ty "list")) Ai)) CQ)) (AM (fB (Ab (Ad 1) (Ab (fC (.ty "tuple")) Ai)) CQ)))
   (As (ifS (fOr (AM (Ah (fB (Ab (Ad 1) (Ab (fC (.ty "list")) Ai)) CQ) (fB (Ab (Ad 0) (Ab (fC (.ty "list")) Ai)) Eh) (eqS λb=>!b))) (AM (Ah (fB (Ab (Ad 1) (Ab (fC (.ty "tuple")) Ai)) CQ) (fB (Ab (Ad 0) (Ab (fC (.ty "tuple")) Ai)) Eh) (eqS λb=>!b))))
   (AN (fC (.bl false)))
   A3)
 (As (ifS (AM (Ah (fB (Ab (Ad 0) Ai) Bt) (fB (Ab (Ad 1) Ai) Bt) (eqS λb=>!b)))
   (AN (fC (.bl false)))
   A3)
 (AN (Ah (fC (.bl false)) (A6 (FP 2 [] (JH (Ab (Ad 0) (Ab (Ad 1) Ai))) (unS 2 (Cy (BI 0) (Cy (BI 1) Fe))) Df (Aq Cq (Ab (Ad 0) (Ab (Ad 1) Ai))))) (inD true)))))
   A3)
 (As (ifS (fOr (AM (Ah (Ad 1) (fC .non) isC)) (AM (fB (Ab (Ad 1) (Ab (fC (.ty "str")) Ai)) CQ)))
   (AN (Ah (Ad 0) (Ad 1) (eqS id)))
   A3)
 (AN (Fo (fB (Ab (Ad 0) (Ab (fC (.ty "int")) Ai)) Eh) (Fo (Hd (fB (Ab (Ad 0) (Ab (fC (.ty "bool")) Ai)) Eh)) (Ah (Ad 0) (Ad 1) (eqS id)))))))
def CH (Ed:Fn):M Out:=
 (As (ifS (fOr (AM (fB (Ab (Ad 0) (Ab (fC (.ty "list")) Ai)) Eh)) (AM (fB (Ab (Ad 0) (Ab (fC (.ty "tuple")) Ai)) Eh)))
   (DV (Fp (A6 (fBF (Ab (Ad 0) Ai) Ei))) (BI 1)
   (Ek (Aq Ed (Ab (Ad 1) Ai))))
   A3)
 (ifS (AM (fB (Ab (Ad 0) (Ab (fC (.ty "list")) Ai)) Eh))
   (Ek (objM GJ (Ad 0) (Ab (fC .non) Ai)))
   A3))
def CG (Ec:Fn):M Out:=
 (As (ifS (HR (AM (fB (Ab (Ad 1) (Ab (fC (.ty "list")) Ai)) CQ)) (AM (Ah (fB (Ab (Ad 0) Ai) Bt) (Ah (fB (Ab (Ad 1) Ai) Bt) (fC (.int 1)) Bf) (eqS λb=>!b))))
   (AN (fC (.bl false)))
   A3)
 (As (ifS (fOr (AM (fB (Ab (Ad 1) (Ab (fC (.ty "list")) Ai)) CQ)) (AM (fB (Ab (Ad 1) (Ab (fC (.ty "tuple")) Ai)) CQ)))
   (AN (Ah (fC (.bl false)) (A6 (FP 2 [] (JH (Ab (Ad 0) (Ab (Ad 1) Ai))) (unS 2 (Cy (BI 0) (Cy (BI 1) Fe))) Df (Aq Ec (Ab (Ad 0) (Ab (Ad 1) Ai))))) (inD true)))
   A3)
 (AN (fC (.bl true)))))
def DL (Cq CW Ax:Fn):M Out:=
 (As (A8 1 (A6 (CS 1 [0] (Cm (Ab (Aq Ax (Ab (Ad 0) (Ab (fC (.int 199)) Ai))) Ai)) (BI 0) Df (Aq Ax (Ab (Ad 1) (Ab (fC (.int 256)) Ai))))))
 (As (A8 2 (Ca (Ab (fC (.str "list")) (Ab (Ca (Ab (fC (.str "number")) (Ab (fC (.int 0)) (Ab (fC (.int 255)) Ai)))) (Ab (fC (.int 250)) Ai)))))
 (As (A8 3 (Aq CW (Ab (Ad 2) (Ab (Ah (Ah (A6 (Bu (Ab (fB (Ab (Ad 1) Ai) Bt) Ai))) (Ad 1) Bf) (A6 (Bu (Ab (fC (.int 1)) (Ab (fC (.int 2)) Ai)))) Bf) (Ab (fC (.int 0)) Ai)))))
 (AN (Aq Cq (Ab (Ad 3) (Ab (A6 (Bu (Ab (fC (.str "told")) (Ab (Ad 1) (Ab (Ah (fB (Ab (Ad 1) Ai) Bt) (fC (.int 1)) Bf) Ai))))) Ai)))))))
def EV (Ax CW Cq Ec Ed Cd Ch Cg J2 JZ:Fn):M Out:=
 (As (A8 1 (Aq JZ (Ab (Ad 0) Ai)))
 (As (ifS (Ef (AM (Aq J2 (Ab (Ad 1) Ai))))
   (AN (fC (.bl false)))
   A3)
 (As (DV (Cm (Ab (fC (.int 3)) Ai)) (BI 2)
   (As (A8 3 (Aq Cg (Ab (Ad 1) (Ab (Ah (fC (.int 1)) (Aq Ax (Ab (Ad 1) (Ab (fC (.int 6)) Ai))) Bf) (Ab (Eg (Bu (Ab (fC (.int 12)) Ai))) Ai)))))
 (As (A8 4 (Aq Ch (Ab (Ad 1) (Ab (Ad 3) (Ab (Eg (Bu (Ab (fC (.int 100)) (Ab (fC (.int 600)) Ai)))) Ai)))))
 (As (A8 5 (Aq Cd (Ab (Ad 3) (Ab (Ad 4) Ai))))
 (As (A8 6 (A6 (CS 1 [1] (Cm (Ab (Aq Ax (Ab (Ad 1) (Ab (fC (.int 13)) Ai))) Ai)) (BI 0) Df (Aq Ax (Ab (Ad 1) (Ab (fC (.int 256)) Ai))))))
 (As (A8 7 (Ah (Ah (Ad 6) (Ad 5) Bf) (A6 (CS 1 [1] (Cm (Ab (Aq Ax (Ab (Ad 1) (Ab (fC (.int 13)) Ai))) Ai)) (BI 0) Df (Aq Ax (Ab (Ad 1) (Ab (fC (.int 256)) Ai))))) Bf))
 (As (A8 8 (A6 (fBF (Ab (Ad 7) Ai) Ei)))
 (As (A8 9 (Aq CW (Ab (Ad 3) (Ab (Ad 8) (Ab (fB (Ab (Ad 6) Ai) Bt) Ai)))))
 (As (ifS (fOr (Ef (AM (Aq Cq (Ab (Ad 9) (Ab (A6 (Bu (Ab (fC (.str "told")) (Ab (Ad 4) (Ab (Ah (fB (Ab (Ad 6) Ai) Bt) (fB (Ab (Ad 5) Ai) Bt) Bf) Ai))))) Ai))))) (AM (Ah (Ad 8) (Ad 7) (eqS λb=>!b))))
   (AN (fC (.bl false)))
   A3)
 (As (Ek (Aq Ed (Ab (Ah (Ad 9) (fC (.int 1)) ixD) Ai)))
 (As (ifS (Ef (AM (Aq Ec (Ab (Ah (Ad 9) (fC (.int 1)) ixD) (Ab (Ad 4) Ai)))))
   (AN (fC (.bl false)))
   A3)
 (As (ifS (Ef (AM (Aq Cq (Ab (Aq CW (Ab (Ad 3) (Ab (Ad 8) (Ab (fB (Ab (Ad 6) Ai) Bt) Ai)))) (Ab (A6 (Bu (Ab (fC (.str "told")) (Ab (Ad 4) (Ab (Ah (fB (Ab (Ad 6) Ai) Bt) (fB (Ab (Ad 5) Ai) Bt) Bf) Ai))))) Ai)))))
   (AN (fC (.bl false)))
   A3)
 (DV (Fp (A6 (Bu (Ab (fC (.int 0)) (Ab (Ah (fB (Ab (Ad 5) Ai) Bt) (fC (.int 1)) B2) (Ab (Ah (fB (Ab (Ad 5) Ai) Bt) (fC (.int 2)) C5) (Ab (Aq Ax (Ab (Ad 1) (Ab (fB (Ab (fC (.int 1)) (Ab (fB (Ab (Ad 5) Ai) Bt) Ai)) F0) Ai))) Ai))))))) (BI 10)
   (As (A8 11 (fSl (Ad 7) fNo (Gk (Ah (fB (Ab (Ad 6) Ai) Bt) (Ad 10) Bf)) EJ))
 (ifS (HR (AM (D8 (fC (.int 0)) (Ad 10) (fB (Ab (Ad 5) Ai) Bt) leA ltA)) (AM (Ah (Aq CW (Ab (Ad 3) (Ab (Ad 11) (Ab (fB (Ab (Ad 6) Ai) Bt) Ai)))) (A6 (Bu (Ab (fC (.str "short")) Ai))) (eqS λb=>!b))))
   (AN (fC (.bl false)))
   A3)))))))))))))))
 (AN (fC (.bl true))))))
end LW
namespace F2
open PySem L2
def W {α:Type}(m:M α)(t:T)(P:α->T->Prop):Prop:=∃a t',m t=some (a,t')/\P a t'
def Wf (g:Fn)(ds:List D)(S:List Ob)(P:D->List Ob->Prop):Prop:=∃r S',g ds S=some (r,S')/\P r S'
theorem W.mono {α:Type}{m:M α}{t:T}{P Q:α->T->Prop}(h:W m t P)(i:∀a t',P a t'->Q a t'):W m t Q:=by
 obtain ⟨a,t',e,p⟩:=h;exact ⟨a,t',e,i a t' p⟩
theorem Wf.mono {g:Fn}{ds:List D}{S:List Ob}{P Q:D->List Ob->Prop}(h:Wf g ds S P)(i:∀r S',P r S'->Q r S'):Wf g ds S Q:=by
 obtain ⟨a,t',e,p⟩:=h;exact ⟨a,t',e,i a t' p⟩
section
variable {α β:Type}
theorem AI {m:M α}{t:T}{P:α->T->Prop}{a:α}{t':T}(e:m t=some (a,t')):W m t P↔P a t':=by
 constructor
 ·rintro ⟨a',t1,e',p⟩;rw [e] at e';cases e';exact p
 ·exact λp=>⟨a,t',e,p⟩
theorem CV {m:M α}{t:T}{P:α->T->Prop}(e:m t=none):W m t P↔False:=by
 constructor
 ·rintro ⟨a',t1,e',p⟩;rw [e] at e';cases e'
 ·exact False.elim
@[simp] theorem W_ret {a:α} {t:T} {P:α->T->Prop}:W (ret a) t P↔P a t:=AI rfl
@[simp] theorem W_fail {t:T} {P:α->T->Prop}:W (fail:M α) t P↔False:=CV rfl
@[simp] theorem W_bnd {f:M α} {g:α->M β} {t:T} {P:β->T->Prop}:W (bnd f g) t P↔W f t λa t1=>W (g a) t1 P:=by
 constructor
 ·rintro ⟨b,t',e,p⟩;obtain ⟨a,t1,e1,e2⟩:=Ak e;exact ⟨a,t1,e1,b,t',e2,p⟩
 ·rintro ⟨a,t1,e1,b,t',e2,p⟩;exact ⟨b,t',by unfold bnd;rw [e1];exact e2,p⟩
@[simp] theorem Pe {c:Prop} [Decidable c] {f g:M α} {t:T} {P:α->T->Prop}:W (if c then f else g) t P↔if c then W f t P else W g t P:=by split <;> rfl
@[simp] theorem VN {n:Nat} {a:α} {t:T} {P:α->T->Prop}:W (lim n a) t P↔n<=LIM/\P a t:=by
 unfold lim;constructor
 ·rintro ⟨a',t',e,p⟩
  split at e
  ·cases e;exact ⟨by assumption,p⟩
  ·cases e
 ·rintro ⟨h,p⟩;exact ⟨a,t,by simp only [h,if_true],p⟩
end
variable {t:T}{env:List (Option Sl)}{S:List Ob}
@[simp] theorem W_fC {d:D} {P:D->T->Prop}:W (fC d) t P↔P d t:=AI rfl
@[simp] theorem MZ {i:Nat} {P:D->T->Prop}:W (Ad i) t P↔match t.env[i]? with
 | some (some (.val d))=>P d t
 | some (some (.own ds))=>P (.lst ds) ⟨t.env.set i (some (.val (.lst ds))),t.S⟩
 | _=>False:=by
 cases e:t.env[i]? with
 | none=>exact CV (by unfold Ad;simp [e])
 | some o=>
   cases o with
   | none=>exact CV (by unfold Ad;simp [e])
   | some sl=>
     cases sl with
     | val d=>exact AI (by unfold Ad;simp [e])
     | own ds=>exact AI (by unfold Ad;simp [e])
@[simp] theorem W_fBin {f g:M D} {h:D->D->M D} {P:D->T->Prop}:W (Ah f g h) t P↔W f t λx t1=>W g t1 λy t2=>W (h x y) t2 P:=by simp [Ah]
@[simp] theorem W_fUn {f:M D} {h:D->M D} {P:D->T->Prop}:W (fUn f h) t P↔W f t λx t1=>W (h x) t1 P:=by simp [fUn]
@[simp] theorem W_toB {b:Bool} {P:Bool->T->Prop}:W (toB (.bl b)) t P↔P b t:=AI rfl
@[simp] theorem W_fTst {f:M D} {P:Bool->T->Prop}:W (AM f) t P↔W f t λx t1=>W (toB x) t1 P:=by simp [AM]
@[simp] theorem W_fChain {f g w:M D} {h h':D->D->M D} {P:D->T->Prop}:W (D8 f g w h h') t P↔W f t λx t1=>W g t1 λy t2=>W (h x y) t2 λk t3=>W (toB k) t3 λk t4=>if k=true then W w t4 λz t5=>W (h' y z) t5 P else P (.bl false) t4:=by
 simp [D8]
@[simp] theorem W_fAnd {f g:M Bool} {P:Bool->T->Prop}:W (HR f g) t P↔W f t λk t1=>if k=true then W g t1 P else P false t1:=by simp [HR]
@[simp] theorem W_fOr {f g:M Bool} {P:Bool->T->Prop}:W (fOr f g) t P↔W f t λk t1=>if k=true then P true t1 else W g t1 P:=by simp [fOr]
@[simp] theorem W_fNot {f:M Bool} {P:Bool->T->Prop}:W (Ef f) t P↔W f t λk t1=>P (!k) t1:=by simp [Ef]
@[simp] theorem W_fAndV {f g:M D} {P:D->T->Prop}:W (Fo f g) t P↔W f t λx t1=>W (toB x) t1 λk t2=>if k=true then W g t2 P else P (.bl false) t2:=by simp [Fo]
@[simp] theorem VF {f g:M D} {P:D->T->Prop}:W (Rq f g) t P↔W f t λx t1=>W (toB x) t1 λk t2=>if k=true then P (.bl true) t2 else W g t2 P:=by simp [Rq]
@[simp] theorem W_fNotV {f:M D} {P:D->T->Prop}:W (Hd f) t P↔W f t λx t1=>W (toB x) t1 λk t2=>P (.bl (!k)) t2:=by simp [Hd]
@[simp] theorem VM {f:M Bool} {g h:M D} {P:D->T->Prop}:W (fIf f g h) t P↔W f t λk t1=>if k=true then W g t1 P else W h t1 P:=by simp [fIf]
@[simp] theorem W_fNil {P:List D->T->Prop}:W Ai t P↔P [] t:=AI rfl
@[simp] theorem W_fCons {f:M D} {g:M (List D)} {P:List D->T->Prop}:W (Ab f g) t P↔W f t λd t1=>W g t1 λds t2=>P (d :: ds) t2:=by simp [Ab]
@[simp] theorem W_fTup {f:M (List D)} {P:D->T->Prop}:W (Ca f) t P↔W f t λds t1=>ds.length<=LIM/\P (.tup ds) t1:=by simp [Ca]
@[simp] theorem W_fLst {f:M (List D)} {P:List D->T->Prop}:W (Bu f) t P↔W f t λds t1=>ds.length<=LIM/\P ds t1:=by simp [Bu]
@[simp] theorem W_fPure {f:M (List D)} {P:D->T->Prop}:W (A6 f) t P↔W f t λds t1=>P (.lst ds) t1:=by simp [A6]
@[simp] theorem W_newOb {o:Ob} {P:D->T->Prop}:W (Mu o) t P↔P (.obj t.S.length) ⟨t.env,t.S++[o]⟩:=AI rfl
@[simp] theorem Rf {f:M (List D)} {P:D->T->Prop}:W (Eg f) t P↔W f t λds t1=>W (Mu (.lst ds)) t1 P:=by simp [Eg]
@[simp] theorem W_fCall {g:Fn} {f:M (List D)} {P:D->T->Prop}:W (Aq g f) t P↔W f t λds t1=>Wf g ds t1.S λr S'=>P r ⟨t1.env,S'⟩:=by
 unfold Aq;rw [W_bnd];constructor
 ·rintro ⟨ds,t1,e1,r,t',e2,p⟩;refine ⟨ds,t1,e1,?_⟩;dsimp only at e2
  cases e:g ds t1.S with
  | none=>rw [e] at e2;cases e2
  | some z=>obtain ⟨r',S'⟩:=z;rw [e] at e2;cases e2;exact ⟨r,_,e,p⟩
 ·rintro ⟨ds,t1,e1,r,S',e2,p⟩;exact ⟨ds,t1,e1,r,_,by simp only [e2],p⟩
@[simp] theorem W_fB {f:M (List D)} {h:List D->M D} {P:D->T->Prop}:W (fB f h) t P↔W f t λds t1=>W (h ds) t1 P:=by simp [fB]
@[simp] theorem W_fBF {f:M (List D)} {h:List D->M (List D)} {P:List D->T->Prop}:W (fBF f h) t P↔W f t λds t1=>W (h ds) t1 P:=by simp [fBF]
@[simp] theorem W_seqS {f g:M Out} {P:Out->T->Prop}:W (As f g) t P↔W f t λo t1=>match o with
 | .next=>W g t1 P
 | .brk=>P .brk t1
 | .cont=>P .cont t1
 | .ret d=>P (.ret d) t1:=by
 unfold As;constructor
 ·rintro ⟨o,t',e,p⟩;dsimp only at e
  cases e1:f t with
  | none=>rw [e1] at e;cases e
  | some z=>
    obtain ⟨o1,t1⟩:=z;rw [e1] at e;refine ⟨o1,t1,e1,?_⟩
    cases o1 with
    | next=>exact ⟨o,t',e,p⟩
    | brk=>cases e;exact p
    | cont=>cases e;exact p
    | ret d=>cases e;exact p
 ·rintro ⟨o,t1,e,p⟩
  cases o with
  | next=>obtain ⟨o,t',e',p⟩:=p;exact ⟨o,t',by simp only [e];exact e',p⟩
  | brk=>exact ⟨_,_,by simp only [e],p⟩
  | cont=>exact ⟨_,_,by simp only [e],p⟩
  | ret d=>exact ⟨_,_,by simp only [e],p⟩
@[simp] theorem W_skipS {P:Out->T->Prop}:W A3 t P↔P .next t:=AI rfl
@[simp] theorem W_retS {f:M D} {P:Out->T->Prop}:W (AN f) t P↔W f t λd t1=>P (.ret d) t1:=by simp [AN]
@[simp] theorem W_dropS {f:M D} {P:Out->T->Prop}:W (Ek f) t P↔W f t λd t1=>P .next t1:=by simp [Ek]
@[simp] theorem W_ifS {f:M Bool} {g h:M Out} {P:Out->T->Prop}:W (ifS f g h) t P↔W f t λk t1=>if k=true then W g t1 P else W h t1 P:=by simp [ifS]
@[simp] theorem W_putV {i:Nat} {d:D} {P:Unit->T->Prop}:W (BI i d) t P↔P () ⟨t.env.set i (some (.val d)),t.S⟩:=AI rfl
@[simp] theorem W_setS {i:Nat} {f:M D} {P:Out->T->Prop}:W (A8 i f) t P↔W f t λd t1=>P .next ⟨t1.env.set i (some (.val d)),t1.S⟩:=by
 simp only [A8,W_bnd,W_ret,W_putV]
@[simp] theorem W_ownS {i:Nat} {f:M (List D)} {P:Out->T->Prop}:W (F3 i f) t P↔W f t λds t1=>P .next ⟨t1.env.set i (some (.own ds)),t1.S⟩:=by
 unfold F3;rw [W_bnd];have:∀(ds:List D) (t1:T),W (λt:T=>some (Out.next,({ t with env:=t.env.set i (some (.own ds)) }:T))) t1 P↔P .next ⟨t1.env.set i (some (.own ds)),t1.S⟩:=λds t1=>AI rfl;simp only [this]
@[simp] theorem W_asgS {f:M D} {g:D->M Unit} {P:Out->T->Prop}:W (Ey f g) t P↔W f t λd t1=>W (g d) t1 λ_ t2=>P .next t2:=by simp [Ey]
@[simp] theorem W_putNil {P:Unit->T->Prop}:W (Fe []) t P↔P () t:=AI rfl
@[simp] theorem W_putCons {f:D->M Unit} {g:List D->M Unit} {d:D} {ds:List D} {P:Unit->T->Prop}:W (Cy f g (d :: ds)) t P↔W (f d) t λ_ t1=>W (g ds) t1 P:=by simp [Cy]
@[simp] theorem Uw {n:Nat} {g:List D->M Unit} {ds:List D} {P:Unit->T->Prop}:W (unS n g (.lst ds)) t P↔ds.length=n/\W (g ds) t P:=by
 unfold unS;simp only [Pe,W_fail];split <;> simp [*]
@[simp] theorem W_unS_tup {n:Nat} {g:List D->M Unit} {ds:List D} {P:Unit->T->Prop}:W (unS n g (.tup ds)) t P↔ds.length=n/\W (g ds) t P:=by
 unfold unS;simp only [Pe,W_fail];split <;> simp [*]
@[simp] theorem W_forS {f:M (List D)} {st:D->M Unit} {b:M Out} {P:Out->T->Prop}:W (DV f st b) t P↔W f t λds t1=>W (CF st b ds) t1 P:=by simp [DV]
@[simp] theorem W_forL_nil {st:D->M Unit} {b:M Out} {P:Out->T->Prop}:W (CF st b []) t P↔P .next t:=AI rfl
theorem GD {st:D->M Unit}{b:M Out}{d:D}{r:List D}{P:Out->T->Prop}:W (CF st b (d :: r)) t P↔W (st d) t λ_ t1=>W b t1 λo t2=>match o with
 | .next=>W (CF st b r) t2 P
 | .cont=>W (CF st b r) t2 P
 | .brk=>P .next t2
 | .ret x=>P (.ret x) t2:=by
 constructor
 ·rintro ⟨o,t',e,p⟩;unfold CF at e
  cases e1:st d t with
  | none=>rw [e1] at e;cases e
  | some z=>
    obtain ⟨u,t1⟩:=z;rw [e1] at e
    try dsimp only at e
    refine ⟨u,t1,e1,?_⟩
    cases e2:b t1 with
    | none=>rw [e2] at e;cases e
    | some z=>
      obtain ⟨o2,t2⟩:=z;rw [e2] at e
      try dsimp only at e
      refine ⟨o2,t2,e2,?_⟩
      cases o2 with
      | next=>exact ⟨o,t',e,p⟩
      | cont=>exact ⟨o,t',e,p⟩
      | brk=>cases e;exact p
      | ret x=>cases e;exact p
 ·rintro ⟨u,t1,e1,o,t2,e2,p⟩
  cases o with
  | next=>obtain ⟨o,t',e',p⟩:=p;exact ⟨o,t',by unfold CF;simp only [e1,e2];exact e',p⟩
  | cont=>obtain ⟨o,t',e',p⟩:=p;exact ⟨o,t',by unfold CF;simp only [e1,e2];exact e',p⟩
  | brk=>exact ⟨_,_,by unfold CF;simp only [e1,e2],p⟩
  | ret x=>exact ⟨_,_,by unfold CF;simp only [e1,e2],p⟩
theorem Ej {st:D->M Unit}{b:M Out}{P:Out->T->Prop}(I:List D->T->Prop):∀(ds:List D) (t:T),I ds t->
 (∀d r t,I (d :: r) t->d∈ds->W (st d) t λ_ t1=>W b t1 λo t2=>match o with
   | .next=>I r t2
   | .cont=>I r t2
   | .brk=>P .next t2
   | .ret x=>P (.ret x) t2)->(∀t,I [] t->P .next t)->W (CF st b ds) t P
 | [],t,h,_,fin=>W_forL_nil.mpr (fin t h)
 | d :: r,t,h,turn,fin=>by
   rw [GD];refine (turn d r t h List.mem_cons_self).mono λ_ t1 h1=>h1.mono λo t2 h2=>?_
   cases o with
   | next=>exact Ej I r t2 h2 (λd' r' t' h' m=>turn d' r' t' h' (List.mem_cons_of_mem _ m)) fin
   | cont=>exact Ej I r t2 h2 (λd' r' t' h' m=>turn d' r' t' h' (List.mem_cons_of_mem _ m)) fin
   | brk=>exact h2
   | ret x=>exact h2
@[simp] theorem W_fComp {n:Nat} {fr:List Nat} {f:M (List D)} {st:D->M Unit} {tst:M Bool} {elt:M D} {P:List D->T->Prop}:W (CS n fr f st tst elt) t P↔W f t λds t1=>W (Cj st tst elt ds) ⟨cenv n fr t1.env,t1.S⟩ λxs t'=>xs.length<=LIM/\P xs ⟨t1.env,t'.S⟩:=by
 unfold CS;rw [W_bnd];constructor
 ·rintro ⟨ds,t1,e1,xs,t',e2,p⟩;refine ⟨ds,t1,e1,?_⟩;dsimp only at e2
  cases e:Cj st tst elt ds ⟨cenv n fr t1.env,t1.S⟩ with
  | none=>rw [e] at e2;cases e2
  | some z=>
    obtain ⟨ys,t3⟩:=z;rw [e] at e2;dsimp only at e2
    split at e2
    ·cases e2;exact ⟨_,_,e,by assumption,p⟩
    ·cases e2
 ·rintro ⟨ds,t1,e1,xs,t',e2,h,p⟩;exact ⟨ds,t1,e1,xs,_,by simp only [e2,h,if_true],p⟩
@[simp] theorem W_compL_nil {st:D->M Unit} {tst:M Bool} {elt:M D} {P:List D->T->Prop}:W (Cj st tst elt []) t P↔P [] t:=AI rfl
theorem FK {st:D->M Unit}{tst:M Bool}{elt:M D}{d:D}{r:List D}{P:List D->T->Prop}:W (Cj st tst elt (d :: r)) t P↔W (st d) t λ_ t1=>W tst t1 λk t2=>
 if k=true then W elt t2 λx t3=>W (Cj st tst elt r) t3 λxs t4=>P (x :: xs) t4 else W (Cj st tst elt r) t2 P:=by
 rw [Cj];simp
theorem Ex {st:D->M Unit}{tst:M Bool}{elt:M D}{P:List D->T->Prop}(I:List D->List D->T->Prop):∀(ds:List D) (acc:List D) (t:T),I acc ds t->
 (∀acc d r t,I acc (d :: r) t->d∈ds->W (st d) t λ_ t1=>W tst t1 λk t2=>if k=true then W elt t2 λx t3=>I (acc++[x]) r t3 else I acc r t2)->
 (∀acc t,I acc [] t->P acc t)->W (Cj st tst elt ds) t λxs t'=>P (acc++xs) t'
 | [],acc,t,h,_,fin=>W_compL_nil.mpr (by rw [List.append_nil];exact fin acc t h)
 | d :: r,acc,t,h,turn,fin=>by
   rw [FK];have turn':∀acc d' r' t',I acc (d' :: r') t'->d'∈r->_:=λacc d' r' t' h' m=>turn acc d' r' t' h' (List.mem_cons_of_mem _ m);refine (turn acc d r t h List.mem_cons_self).mono λ_ t1 h1=>h1.mono λk t2 h2=>?_
   cases k with
   | true=>
     rw [if_pos rfl] at h2 ⊢;refine h2.mono λx t3 h3=>(Ex I r (acc++[x]) t3 h3 turn' fin).mono λxs t4 h4=>?_;rw [List.append_assoc] at h4;exact h4
   | false=>
     rw [if_neg Bool.false_ne_true] at h2 ⊢;exact Ex I r acc t2 h2 turn' fin
theorem Bl {n m:Nat}{g:M Out}{ds:List D}{P:D->List Ob->Prop}(h:ds.length=n)(w:W g ⟨env0 m ds,S⟩ λo t=>match o with
 | .ret r=>P r t.S
 | .next=>P .non t.S
 | _=>False):Wf (fnOf n m g) ds S P:=by
 obtain ⟨o,t,e,p⟩:=w
 cases o with
 | ret r=>exact ⟨r,t.S,by unfold fnOf;rw [if_pos h,e],p⟩
 | next=>exact ⟨.non,t.S,by unfold fnOf;rw [if_pos h,e],p⟩
 | brk=>exact p.elim
 | cont=>exact p.elim
@[simp] theorem W_tTru {P:Bool->T->Prop}:W Df t P↔P true t:=AI rfl
@[simp] theorem VD {P:D->T->Prop}:W UK t P↔P .dic t:=AI rfl
end F2
namespace F2
open PySem L2
variable {t:T}{P:D->T->Prop}
theorem G7 {α β:Type}{o:Option β}{g:β->α×T}{Q:α->T->Prop}{m:M α}(e:m t=o.map g):W m t Q↔∃b,o=some b/\Q (g b).1 (g b).2:=by
 constructor
 ·rintro ⟨a,t',e',p⟩;rw [e] at e';obtain ⟨b,h1,h2⟩:=Option.map_eq_some_iff.mp e';exact ⟨b,h1,by rw [h2];exact p⟩
 ·rintro ⟨b,h,p⟩;exact ⟨_,_,by rw [e,h];rfl,p⟩
theorem Ma {α:Type}{c:Prop}[Decidable c]{z:α×T}{Q:α->T->Prop}{m:M α}(e:m t=if c then some z else none):W m t Q↔c/\Q z.1 z.2:=by
 constructor
 ·rintro ⟨a,t',e',p⟩;rw [e] at e'
  split at e'
  ·cases e';exact ⟨by assumption,p⟩
  ·cases e'
 ·rintro ⟨h,p⟩;exact ⟨_,_,by rw [e,if_pos h],p⟩
theorem M0 {α β:Type}{o:Option β}(f:β->α){Q:α->T->Prop}{m:M α}(e:m t=o.map λb=>(f b,t)):W m t Q↔∃b,o=some b/\Q (f b) t:=G7 (g:=λb=>(f b,t)) e
theorem G6 {α:Type}{c:Prop}[Decidable c]{a:α}{Q:α->T->Prop}{m:M α}(e:m t=if c then some (a,t) else none):W m t Q↔c/\Q a t:=Ma (z:=(a,t)) e
@[simp] theorem W_ix_tup {ds:List D} {i:Int}:W (ixD (.tup ds) (.int i)) t P↔∃d,atI ds i=some d/\P d t:=M0 id rfl
@[simp] theorem W_ix_lst {ds:List D} {i:Int}:W (ixD (.lst ds) (.int i)) t P↔∃d,atI ds i=some d/\P d t:=M0 id rfl
@[simp] theorem W_ix_str {x:Str} {i:Int}:W (ixD (.str x) (.int i)) t P↔x.length<=LIM/\∃n,atI x.cps.toList i=some n/\P (.str ⟨#[n]⟩) t:=by
 by_cases h:x.length<=LIM
 ·have:ixD (.str x) (.int i) t=(atI x.cps.toList i).map λn=>(.str ⟨#[n]⟩,t):=by simp only [ixD,h,if_true]
  rw [G7 this];simp [h]
 ·rw [CV (by simp only [ixD,h,if_false])];simp [h]
@[simp] theorem W_ix_obj {k:Nat} {i:Int}:W (ixD (.obj k) (.int i)) t P↔∃ds,t.S[k]?=some (.lst ds)/\∃d,atI ds i=some d/\P d t:=by
 cases e:t.S[k]? with
 | none=>rw [CV (by simp only [ixD,e])];simp
 | some o=>
   cases o with
   | dct _=>rw [CV (by simp only [ixD,e])];simp
   | lst ds=>
     have:ixD (.obj k) (.int i) t=(atI ds i).map λd=>(d,t):=by simp only [ixD,e]
     rw [G7 this];simp
@[simp] theorem Mc {α:Type} {a:α} {r:List α}:atI (a :: r) 0=some a:=by simp [atI,ixN]
@[simp] theorem Pg {α:Type} {a b:α} {r:List α}:atI (a :: b :: r) 1=some b:=by
 have:(1:Int) < ((a :: b :: r).length:Nat):=by simp;lia
 simp only [atI,ixN,this,if_true,show (0:Int)<=1 by decide];rfl
@[simp] theorem Ph {α:Type} {a b c:α} {r:List α}:atI (a :: b :: c :: r) 2=some c:=by
 have:(2:Int) < ((a :: b :: c :: r).length:Nat):=by simp;lia
 simp only [atI,ixN,this,if_true,show (0:Int)<=2 by decide];rfl
theorem HJ {α:Type}{xs:List α}{i:Int}(h0:0<=i)(h1:i < xs.length):∃d,atI xs i=some d/\d∈xs/\xs[i.toNat]?=some d:=by
 have hl:i.toNat < xs.length:=by lia
 refine ⟨xs[i.toNat],?_,List.getElem_mem hl,List.getElem?_eq_getElem hl⟩;simp [atI,ixN,h0,h1,hl]
@[simp] theorem W_len_lst {ds:List D}:W (Bt [.lst ds]) t P↔P (.int ds.length) t:=AI rfl
@[simp] theorem W_len_tup {ds:List D}:W (Bt [.tup ds]) t P↔P (.int ds.length) t:=AI rfl
@[simp] theorem W_len_scr {ds:List Int}:W (Bt [.scr ds]) t P↔P (.int ds.length) t:=AI rfl
@[simp] theorem W_len_str {x:Str}:W (Bt [.str x]) t P↔x.length<=LIM/\P (.int x.length) t:=by simp [Bt]
@[simp] theorem W_len_obj {k:Nat}:W (Bt [.obj k]) t P↔∃ds,t.S[k]?=some (.lst ds)/\P (.int ds.length) t:=by
 cases e:t.S[k]? with
 | none=>rw [CV (by simp only [Bt,e])];simp
 | some o=>
   cases o with
   | dct _=>rw [CV (by simp only [Bt,e])];simp
   | lst ds=>rw [AI (a:=.int ds.length) (t':=t) (by simp only [Bt,e])];simp
@[simp] theorem W_isi {d:D} {m:String}:W (CQ [d,.ty m]) t P↔∃n,tyD d=some n/\∃b,FU n m=some b/\P (.bl b) t:=by
 cases e:tyD d with
 | none=>rw [CV (by simp only [CQ,e])];simp
 | some n=>
   have:CQ [d,.ty m] t=(FU n m).map λb=>(.bl b,t):=by simp only [CQ,e]
   rw [G7 this];simp
noncomputable def Hm:D->Bool
 | .non=>true
 | _=>false
noncomputable def US (b:Bool):D->Bool
 | .bl c=>c == b
 | _=>false
@[simp] theorem W_is_non {x:D}:W (isC x .non) t P↔P (.bl (Hm x)) t:=AI (by cases x <;> rfl)
@[simp] theorem VB {x:D} {b:Bool}:W (isC x (.bl b)) t P↔P (.bl (US b x)) t:=AI (by cases x <;> rfl)
@[simp] theorem W_isNot {x y:D}:W (FT x y) t P↔W (isC x y) t λd t1=>W (toB d) t1 λb t2=>P (.bl (!b)) t2:=by
 unfold FT;rw [W_bnd];constructor
 ·exact λh=>h.mono λd t1 h1=>by
   cases d with
   | bl b=>simpa using h1
   | _=>exact (W_fail.mp h1).elim
 ·exact λh=>h.mono λd t1 h1=>by
   cases d with
   | bl b=>simpa using h1
   | _=>obtain ⟨_,_,e,_⟩:=h1;cases e
@[simp] theorem W_add_int {i j:Int}:W (Bf (.int i) (.int j)) t P↔P (.int (i + j)) t:=AI rfl
@[simp] theorem W_sub_int {i j:Int}:W (B2 (.int i) (.int j)) t P↔P (.int (i - j)) t:=AI rfl
@[simp] theorem W_lt_int {i j:Int}:W (ltA (.int i) (.int j)) t P↔P (.bl (decide (i < j))) t:=AI rfl
@[simp] theorem W_le_int {i j:Int}:W (leA (.int i) (.int j)) t P↔P (.bl (decide (i<=j))) t:=AI rfl
@[simp] theorem W_gt_int {i j:Int}:W (gtA (.int i) (.int j)) t P↔P (.bl (decide (j < i))) t:=AI rfl
@[simp] theorem W_ge_int {i j:Int}:W (geA (.int i) (.int j)) t P↔P (.bl (decide (j<=i))) t:=AI rfl
@[simp] theorem UB {i j:Str}:W (ltA (.str i) (.str j)) t P↔P (.bl (decide (i.cps.toList < j.cps.toList))) t:=AI rfl
@[simp] theorem Uz {i j:Str}:W (gtA (.str i) (.str j)) t P↔P (.bl (decide (j.cps.toList < i.cps.toList))) t:=AI rfl
@[simp] theorem W_neg {i:Int}:W (Mt (.int i)) t P↔P (.int (-i)) t:=AI rfl
@[simp] theorem W_fdiv {i j:Int}:W (C5 (.int i) (.int j)) t P↔(0 < j/\j < 1073741824)/\P (.int (i / j)) t:=by
 rw [Ma (m:=C5 (.int i) (.int j)) (c:=JG i j=true) (z:=(.int (i / j),t)) rfl];simp [JG]
@[simp] theorem W_mod {i j:Int}:W (Dd (.int i) (.int j)) t P↔0 < j/\P (.int (i % j)) t:=by
 rw [Ma (m:=Dd (.int i) (.int j)) (c:=decide (0 < j)=true) (z:=(.int (i % j),t)) rfl];simp
@[simp] theorem W_pow {i j:Int}:W (De (.int i) (.int j)) t P↔JK i j=true/\P (.int (i ^ j.toNat)) t:=G6 rfl
@[simp] theorem W_mul_int {i j:Int}:W (Du (.int i) (.int j)) t P↔En i j=true/\P (.int (i * j)) t:=G6 rfl
theorem Fc {i j:Int}(h1 : -18446744073709551616 < i)(h2:i < 18446744073709551616):En i j=true:=by simp [En,h1,h2]
theorem DX {i j:Int}(h1 : -18446744073709551616 < j)(h2:j < 18446744073709551616):En i j=true:=by simp [En,h1,h2]
theorem Cl {k:Int}(h1 : -4611686018427387904<=k)(h2:k < 4611686018427387904):CK k=true:=by simp [CK,h1,h2]
@[simp] theorem W_add_str {x y:Str}:W (Bf (.str x) (.str y)) t P↔x.length + y.length<=LIM/\P (.str (x++y)) t:=by
 have:Bf (.str x) (.str y)=lim (x.length + y.length) (.str (x++y)):=rfl;rw [this];simp
@[simp] theorem W_add_lst {x y:List D}:W (Bf (.lst x) (.lst y)) t P↔x.length + y.length<=LIM/\P (.lst (x++y)) t:=by
 have:Bf (.lst x) (.lst y)=lim (x.length + y.length) (.lst (x++y)):=rfl;rw [this];simp
@[simp] theorem Uu {d:D} {x y:List D}:W (Bf (.tup (d :: x)) (.tup y)) t P↔x.length + 1 + y.length<=LIM/\P (.tup (d :: x++y)) t:=by
 have:Bf (.tup (d :: x)) (.tup y) t=if (d :: x).isEmpty=false/\(d :: x).length + y.length<=LIM then some (.tup (d :: x++y),t) else none:=rfl;rw [Ma this];simp
@[simp] theorem Ti {y:List D}:W (Bf (.tup []) (.tup y)) t P↔P (.tup y) t:=AI rfl
@[simp] theorem W_cat {x y:List D} {Q:List D->T->Prop}:W (J9 (.lst x) (.lst y)) t Q↔x.length + y.length<=LIM/\Q (x++y) t:=by
 have:J9 (.lst x) (.lst y)=lim (x.length + y.length) (x++y):=rfl;rw [this];simp
@[simp] theorem W_abs {i:Int}:W (JT [.int i]) t P↔P (.int (if i < 0 then -i else i)) t:=AI rfl
@[simp] theorem W_min {i j:Int}:W (H9 [.int i,.int j]) t P↔P (.int (if j < i then j else i)) t:=AI rfl
@[simp] theorem W_max {i j:Int}:W (F0 [.int i,.int j]) t P↔P (.int (if j > i then j else i)) t:=AI rfl
@[simp] theorem Uv {i:Int}:W (HW [.int i]) t P↔P (.int i) t:=AI rfl
@[simp] theorem W_int_bl {b:Bool}:W (HW [.bl b]) t P↔P (.int (if b then 1 else 0)) t:=AI rfl
@[simp] theorem W_ord {x:Str}:W (KH [.str x]) t P↔x.length=1/\P (.int (x.cps.getD 0 0:Nat)) t:=G6 rfl
@[simp] theorem W_tup_lst {ds:List D}:W (K9 [.lst ds]) t P↔P (.tup ds) t:=AI rfl
@[simp] theorem W_lst_lst {ds:List D} {Q:List D->T->Prop}:W (Ei [.lst ds]) t Q↔Q ds t:=AI rfl
@[simp] theorem W_lst_tup {ds:List D} {Q:List D->T->Prop}:W (Ei [.tup ds]) t Q↔Q ds t:=AI rfl
@[simp] theorem W_eq_str {g:Bool->Bool} {x y:Str}:W (eqS g (.str x) (.str y)) t P↔P (.bl (g (x == y))) t:=AI rfl
@[simp] theorem W_eq_int {g:Bool->Bool} {x y:Int}:W (eqS g (.int x) (.int y)) t P↔P (.bl (g (x == y))) t:=AI rfl
@[simp] theorem W_eq_bl {g:Bool->Bool} {x y:Bool}:W (eqS g (.bl x) (.bl y)) t P↔P (.bl (g (x == y))) t:=AI rfl
@[simp] theorem Uy {g:Bool->Bool} {x:List D}:W (eqS g (.lst x) (.lst [])) t P↔P (.bl (g x.isEmpty)) t:=by
 refine AI ?_
 cases x <;> rfl
@[simp] theorem JS {g:Bool->Bool} {k:Nat} {ds:List D} (h:t.S[k]?=some (.lst ds)) (hp:F8 ds=true):W (eqS g (.obj k) (.lst [])) t P↔P (.bl (g ds.isEmpty)) t:=by
 refine AI ?_;have e1:DT t.S (.obj k) = .lst ds:=by simp only [DT,h]
 have e2:DT t.S (.lst []) = .lst []:=rfl;unfold eqS;rw [e1,e2];simp only [Kr,Bool.true_or,if_true,CI,hp,Bool.true_and]
 cases ds <;> rfl
@[simp] theorem W_sl_lst {ds:List D} {lo hi:Option Int}:W (EJ (.lst ds) lo hi) t P↔P (.lst (BU ds lo hi)) t:=AI rfl
@[simp] theorem W_sl_scr {ds:List Int} {lo hi:Option Int}:W (EJ (.scr ds) lo hi) t P↔P (.lst ((BU ds lo hi).map .int)) t:=AI rfl
@[simp] theorem UC {x:Str} {lo hi:Option Int}:W (EJ (.str x) lo hi) t P↔x.length<=LIM/\P (.str (Txt.slice x lo hi)) t:=by
 have:EJ (.str x) lo hi=lim x.length (.str (Txt.slice x lo hi)):=rfl;rw [this];simp
@[simp] theorem UD {ds:List D} {lo hi:Option Int}:W (EJ (.tup ds) lo hi) t P↔P (.tup (BU ds lo hi)) t:=AI rfl
@[simp] theorem W_fSl {f:M D} {l u:M (Option Int)} {h:D->Option Int->Option Int->M D}:W (fSl f l u h) t P↔W f t λx t1=>W l t1 λlo t2=>W u t2 λhi t3=>W (h x lo hi) t3 P:=by simp [fSl]
@[simp] theorem W_fNo {Q:Option Int->T->Prop}:W fNo t Q↔Q none t:=AI rfl
@[simp] theorem W_asI {i:Int} {Q:Option Int->T->Prop}:W (asI (.int i)) t Q↔Q (some i) t:=AI rfl
@[simp] theorem W_fPart {f:M D} {Q:Option Int->T->Prop}:W (Gk f) t Q↔W f t λx t1=>W (asI x) t1 Q:=by simp [Gk]
@[simp] theorem W_fItA {f:M D} {Q:List D->T->Prop}:W (Fp f) t Q↔W f t λx t1=>W (Di x) t1 Q:=by simp [Fp]
@[simp] theorem W_it_lst {ds:List D} {Q:List D->T->Prop}:W (Di (.lst ds)) t Q↔Q ds t:=AI rfl
@[simp] theorem W_it_tup {ds:List D} {Q:List D->T->Prop}:W (Di (.tup ds)) t Q↔Q ds t:=AI rfl
@[simp] theorem UA {ds:List Int} {Q:List D->T->Prop}:W (Di (.scr ds)) t Q↔Q (ds.map .int) t:=AI rfl
@[simp] theorem W_it_str {x:Str} {Q:List D->T->Prop}:W (Di (.str x)) t Q↔Q (x.cps.toList.map λc=>.str ⟨#[c]⟩) t:=AI rfl
@[simp] theorem W_fRng1 {f:M (List D)} {Q:List D->T->Prop}:W (Cm f) t Q↔W f t λx t1=>W (Iq x) t1 Q:=by simp [Cm]
@[simp] theorem VA {f:M (List D)} {Q:List D->T->Prop}:W (Pi f) t Q↔W f t λx t1=>W (OO x) t1 Q:=by simp [Pi]
@[simp] theorem W_rng1 {j:Int} {Q:List D->T->Prop}:W (Iq [.int j]) t Q↔CK j=true/\Q (B1 0 j.toNat) t:=G6 rfl
@[simp] theorem VG {i j:Int} {Q:List D->T->Prop}:W (OO [.int i,.int j]) t Q↔(CK i && CK j)=true/\Q (B1 i (j - i).toNat) t:=G6 rfl
@[simp] theorem W_ownM {i:Nat} {h:List D->List D->Option (List D)} {g:M (List D)} {Q:Out->T->Prop}:W (ownM i h g) t Q↔(∃xs,t.env[i]?=some (some (.own xs)))/\W g t λds t1=>∃xs,t1.env[i]?=some (some (.own xs))/\∃ys,h xs ds=some ys/\Q .next ⟨t1.env.set i (some (.own ys)),t1.S⟩:=by
 constructor
 ·rintro ⟨o,t',e,p⟩;unfold ownM at e
  split at e
  ·next xs e0=>
   refine ⟨⟨xs,e0⟩,?_⟩;obtain ⟨ds,t1,e1,e⟩:=Ak e;refine ⟨ds,t1,e1,?_⟩
   split at e
   ·next ys e2=>
    obtain ⟨zs,e3,e4⟩:=Option.map_eq_some_iff.mp e
    cases e4
    exact ⟨ys,e2,zs,e3,p⟩
   ·cases e
  ·cases e
 ·rintro ⟨⟨xs,e0⟩,ds,t1,e1,ys,e2,zs,e3,p⟩;exact ⟨_,_,by unfold ownM bnd;simp only [e0,e1,e2,e3,Option.map_some],p⟩
@[simp] theorem UF {xs:List D} {d:D} {ys:List D}:GJ xs [d]=some ys↔xs.length < LIM/\xs++[d]=ys:=by
 unfold GJ;split <;> simp [*]
@[simp] theorem W_stD {f g:M D} {d:D} {Q:Unit->T->Prop}:W (stD f g d) t Q↔W f t λo t1=>W g t1 λi t2=>W (E2 o i d) t2 Q:=by simp [stD]
@[simp] theorem W_stOb {k:Nat} {j:Int} {d:D} {Q:Unit->T->Prop}:W (E2 (.obj k) (.int j) d) t Q↔∃xs,t.S[k]?=some (.lst xs)/\∃n,ixN xs.length j=some n/\Q () ⟨t.env,t.S.set k (.lst (xs.set n d))⟩:=by
 cases e:t.S[k]? with
 | none=>rw [CV (by simp only [E2,e])];simp
 | some o=>
   cases o with
   | dct _=>rw [CV (by simp only [E2,e])];simp
   | lst ds=>
     have:E2 (.obj k) (.int j) d t=(ixN ds.length j).map λn=>((),{ t with S:=t.S.set k (.lst (ds.set n d)) }):=by simp only [E2,e]
     rw [G7 this];simp
end F2
namespace F2
open PySem L2
variable {t:T}{P:D->T->Prop}{Q:List D->T->Prop}{R:Out->T->Prop}{B:Bool->T->Prop}{U:Unit->T->Prop}
def E1 (k:Bool)(A B:Prop):Prop:=if k=true then A else B
variable {k:Bool}
theorem Ks {A B:Prop}(h:k=true)(a:A):E1 k A B:=by unfold E1;rw [if_pos h];exact a
theorem FV {A B:Prop}(h:k=false)(b:B):E1 k A B:=by unfold E1;rw [if_neg (by rw [h];exact Bool.false_ne_true)];exact b
theorem DW {A B:Prop}(a:k=true->A)(b:k=false->B):E1 k A B:=by cases h:k with
 | true=>exact Ks rfl (a h)
 | false=>exact FV rfl (b h)
def OU (g:M Out)(R:Out->T->Prop)(o:Out)(t1:T):Prop:=match o with
 | .next=>W g t1 R
 | o=>R o t1
variable {g:M Out}
theorem CA {t1:T}(h:W g t1 R):OU g R .next t1:=h
theorem OV {t1:T}{d:D}(h:R (.ret d) t1):OU g R (.ret d) t1:=h
theorem Ld {f:M Out}(h:W f t (OU g R)):W (As f g) t R:=W_seqS.mpr (h.mono λo t1 h1=>by cases o <;> exact h1)
theorem Ul (h:R .next t):W A3 t R:=W_skipS.mpr h
variable {f:M D}
theorem Pb (h:W f t λd t1=>R (.ret d) t1):W (AN f) t R:=W_retS.mpr h
theorem T5 (h:W f t λd t1=>R .next t1):W (Ek f) t R:=W_dropS.mpr h
theorem wIf {f:M Bool}{h:M Out}(w:W f t λk t1=>E1 k (W g t1 R) (W h t1 R)):W (ifS f g h) t R:=W_ifS.mpr w
theorem Pc {i:Nat}(h:W f t λd t1=>R .next ⟨t1.env.set i (some (.val d)),t1.S⟩):W (A8 i f) t R:=W_setS.mpr h
theorem Vs {i:Nat}{f:M (List D)}(h:W f t λd t1=>R .next ⟨t1.env.set i (some (.own d)),t1.S⟩):W (F3 i f) t R:=W_ownS.mpr h
theorem U7 {g:D->M Unit}(h:W f t λd t1=>W (g d) t1 λ_ t2=>R .next t2):W (Ey f g) t R:=W_asgS.mpr h
theorem Va {f:M (List D)}{st:D->M Unit}{b:M Out}(h:W f t λds t1=>W (CF st b ds) t1 R):W (DV f st b) t R:=W_forS.mpr h
theorem wC {d:D}(h:P d t):W (fC d) t P:=W_fC.mpr h
theorem Dx {i:Nat}{d:D}(e:t.env[i]?=some (some (.val d)))(h:P d t):W (Ad i) t P:=by rw [MZ,e];exact h
variable {ds:List D}
theorem Uq {i:Nat}(e:t.env[i]?=some (some (.own ds)))(h:P (.lst ds) ⟨t.env.set i (some (.val (.lst ds))),t.S⟩):W (Ad i) t P:=by rw [MZ,e];exact h
theorem Iz {g:M D}{h:D->D->M D}(w:W f t λx t1=>W g t1 λy t2=>W (h x y) t2 P):W (Ah f g h) t P:=W_fBin.mpr w
theorem wUn {h:D->M D}(w:W f t λx t1=>W (h x) t1 P):W (fUn f h) t P:=W_fUn.mpr w
theorem FE {α β:Type}{f:M α}{g:α->M β}{K:β->T->Prop}(w:W f t λx t1=>W (g x) t1 K):W (bnd f g) t K:=W_bnd.mpr w
theorem MQ {b:Bool}(h:B b t):W (toB (.bl b)) t B:=W_toB.mpr h
theorem MR (h:W f t λx t1=>W (toB x) t1 B):W (AM f) t B:=W_fTst.mpr h
theorem SU {g w:M D}{h h':D->D->M D}(q:W f t λx t1=>W g t1 λy t2=>W (h x y) t2 λk t3=>W (toB k) t3 λk t4=>E1 k (W w t4 λz t5=>W (h' y z) t5 P) (P (.bl false) t4)):W (D8 f g w h h') t P:=W_fChain.mpr q
theorem U6 {f g:M Bool}(h:W f t λk t1=>E1 k (W g t1 B) (B false t1)):W (HR f g) t B:=W_fAnd.mpr h
theorem wOr {f g:M Bool}(h:W f t λk t1=>E1 k (B true t1) (W g t1 B)):W (fOr f g) t B:=W_fOr.mpr h
theorem Vq {f:M Bool}(h:W f t λk t1=>B (!k) t1):W (Ef f) t B:=W_fNot.mpr h
theorem TZ {g:M D}(h:W f t λx t1=>W (toB x) t1 λk t2=>E1 k (W g t2 P) (P (.bl false) t2)):W (Fo f g) t P:=W_fAndV.mpr h
theorem Ug (h:W f t λx t1=>W (toB x) t1 λk t2=>P (.bl (!k)) t2):W (Hd f) t P:=W_fNotV.mpr h
theorem EN (h:Q [] t):W Ai t Q:=W_fNil.mpr h
theorem CL {g:M (List D)}(h:W f t λd t1=>W g t1 λds t2=>Q (d :: ds) t2):W (Ab f g) t Q:=W_fCons.mpr h
def FY (n:Nat)(A:Prop):Prop:=n<=LIM/\A
variable {n:Nat}
theorem Cb {A:Prop}(h:n<=LIM)(a:A):FY n A:=⟨h,a⟩
theorem Vx {f:M (List D)}(h:W f t λds t1=>FY ds.length (P (.tup ds) t1)):W (Ca f) t P:=W_fTup.mpr h
theorem Vm {f:M (List D)}(h:W f t λds t1=>FY ds.length (Q ds t1)):W (Bu f) t Q:=W_fLst.mpr h
theorem Ui {f:M (List D)}(h:W f t λds t1=>P (.lst ds) t1):W (A6 f) t P:=W_fPure.mpr h
theorem O9 {f:M (List D)}(h:W f t λds t1=>P (.obj t1.S.length) ⟨t1.env,t1.S++[.lst ds]⟩):W (Eg f) t P:=by rw [Rf];exact h.mono λds t1 h=>W_newOb.mpr h
theorem GB {g:Fn}{f:M (List D)}(h:W f t λds t1=>Wf g ds t1.S λr S'=>P r ⟨t1.env,S'⟩):W (Aq g f) t P:=W_fCall.mpr h
theorem wB {f:M (List D)}{h:List D->M D}(w:W f t λds t1=>W (h ds) t1 P):W (fB f h) t P:=W_fB.mpr w
theorem wBF {f:M (List D)}{h:List D->M (List D)}(w:W f t λds t1=>W (h ds) t1 Q):W (fBF f h) t Q:=W_fBF.mpr w
theorem Gf {i:Nat}{d:D}(h:U () ⟨t.env.set i (some (.val d)),t.S⟩):W (BI i d) t U:=W_putV.mpr h
theorem QZ (h:U () t):W (Fe []) t U:=W_putNil.mpr h
theorem Pa {f:D->M Unit}{g:List D->M Unit}{d:D}(h:W (f d) t λ_ t1=>W (g ds) t1 U):W (Cy f g (d :: ds)) t U:=W_putCons.mpr h
theorem Vy {g:List D->M Unit}(e:ds.length=n)(h:W (g ds) t U):W (unS n g (.tup ds)) t U:=W_unS_tup.mpr ⟨e,h⟩
theorem T4 {fr:List Nat}{f:M (List D)}{st:D->M Unit}{tst:M Bool}{elt:M D}(h:W f t λds t1=>W (Cj st tst elt ds) ⟨cenv n fr t1.env,t1.S⟩ λxs t'=>FY xs.length (Q xs ⟨t1.env,t'.S⟩)):W (CS n fr f st tst elt) t Q:=W_fComp.mpr h
theorem G3 (h:B true t):W Df t B:=W_tTru.mpr h
variable {i:Int}
theorem IC {d:D}(e:atI ds i=some d)(h:P d t):W (ixD (.tup ds) (.int i)) t P:=W_ix_tup.mpr ⟨d,e,h⟩
theorem EM {d:D}(e:atI ds i=some d)(h:P d t):W (ixD (.lst ds) (.int i)) t P:=W_ix_lst.mpr ⟨d,e,h⟩
theorem Cc {k:Nat}{d:D}(e0:t.S[k]?=some (.lst ds))(e:atI ds i=some d)(h:P d t):W (ixD (.obj k) (.int i)) t P:=W_ix_obj.mpr ⟨ds,e0,d,e,h⟩
theorem PC (h:P (.int ds.length) t):W (Bt [.lst ds]) t P:=W_len_lst.mpr h
theorem Uc (h:P (.int ds.length) t):W (Bt [.tup ds]) t P:=W_len_tup.mpr h
theorem PD {ds:List Int}(h:P (.int ds.length) t):W (Bt [.scr ds]) t P:=W_len_scr.mpr h
theorem MN {k:Nat}(e:t.S[k]?=some (.lst ds))(h:P (.int ds.length) t):W (Bt [.obj k]) t P:=W_len_obj.mpr ⟨ds,e,h⟩
variable {x:Str}
theorem Ub (e:x.length<=LIM)(h:P (.int x.length) t):W (Bt [.str x]) t P:=W_len_str.mpr ⟨e,h⟩
theorem Vg {d:D}{m n:String}{b:Bool}(e:tyD d=some n)(e':FU n m=some b)(h:P (.bl b) t):W (CQ [d,.ty m]) t P:=W_isi.mpr ⟨n,e,b,e',h⟩
theorem Vf {x:D}(h:P (.bl (Hm x)) t):W (isC x .non) t P:=W_is_non.mpr h
theorem SY {x y:D}(h:W (isC x y) t λd t1=>W (toB d) t1 λb t2=>P (.bl (!b)) t2):W (FT x y) t P:=W_isNot.mpr h
variable {j:Int}
theorem TW (h:P (.int (i + j)) t):W (Bf (.int i) (.int j)) t P:=W_add_int.mpr h
theorem Um (h:P (.int (i - j)) t):W (B2 (.int i) (.int j)) t P:=W_sub_int.mpr h
theorem Vn (h:P (.bl (decide (i < j))) t):W (ltA (.int i) (.int j)) t P:=W_lt_int.mpr h
theorem Vl (h:P (.bl (decide (i<=j))) t):W (leA (.int i) (.int j)) t P:=W_le_int.mpr h
theorem Vc (h:P (.bl (decide (j < i))) t):W (gtA (.int i) (.int j)) t P:=W_gt_int.mpr h
theorem Vb (h:P (.bl (decide (j<=i))) t):W (geA (.int i) (.int j)) t P:=W_ge_int.mpr h
theorem Vp (h:P (.int (-i)) t):W (Mt (.int i)) t P:=W_neg.mpr h
theorem O7 (h1:0 < j)(h2:j < 1073741824)(h:P (.int (i / j)) t):W (C5 (.int i) (.int j)) t P:=W_fdiv.mpr ⟨⟨h1,h2⟩,h⟩
theorem ID (h1:0 < j)(h:P (.int (i % j)) t):W (Dd (.int i) (.int j)) t P:=W_mod.mpr ⟨h1,h⟩
theorem Vt (h1:JK i j=true)(h:P (.int (i ^ j.toNat)) t):W (De (.int i) (.int j)) t P:=W_pow.mpr ⟨h1,h⟩
theorem Dr (h1:En i j=true)(h:P (.int (i * j)) t):W (Du (.int i) (.int j)) t P:=W_mul_int.mpr ⟨h1,h⟩
theorem TY {y:Str}(h:FY (x.length + y.length) (P (.str (x++y)) t)):W (Bf (.str x) (.str y)) t P:=W_add_str.mpr h
theorem TX {x y:List D}(h:FY (x.length + y.length) (P (.lst (x++y)) t)):W (Bf (.lst x) (.lst y)) t P:=W_add_lst.mpr h
theorem U8 {x y:List D}(h:FY (x.length + y.length) (Q (x++y) t)):W (J9 (.lst x) (.lst y)) t Q:=W_cat.mpr h
theorem U5 (h:P (.int (if i < 0 then -i else i)) t):W (JT [.int i]) t P:=W_abs.mpr h
theorem SZ (h:P (.int (if j < i then j else i)) t):W (H9 [.int i,.int j]) t P:=W_min.mpr h
theorem Vo (h:P (.int (if j > i then j else i)) t):W (F0 [.int i,.int j]) t P:=W_max.mpr h
theorem T6 {i:Bool}(h:P (.int (if i then 1 else 0)) t):W (HW [.bl i]) t P:=W_int_bl.mpr h
theorem Vr (e:x.length=1)(h:P (.int (x.cps.getD 0 0:Nat)) t):W (KH [.str x]) t P:=W_ord.mpr ⟨e,h⟩
theorem Uo (h:P (.tup ds) t):W (K9 [.lst ds]) t P:=W_tup_lst.mpr h
theorem MO (h:Q ds t):W (Ei [.lst ds]) t Q:=W_lst_lst.mpr h
theorem Ue (h:Q ds t):W (Ei [.tup ds]) t Q:=W_lst_tup.mpr h
theorem O8 {g:Bool->Bool}{y:Str}(h:P (.bl (g (x == y))) t):W (eqS g (.str x) (.str y)) t P:=W_eq_str.mpr h
theorem SW {g:Bool->Bool}{x y:Int}(h:P (.bl (g (x == y))) t):W (eqS g (.int x) (.int y)) t P:=W_eq_int.mpr h
theorem U9 {g:Bool->Bool}{x y:Bool}(h:P (.bl (g (x == y))) t):W (eqS g (.bl x) (.bl y)) t P:=W_eq_bl.mpr h
theorem Ta {lo hi:Option Int}(h:P (.lst (BU ds lo hi)) t):W (EJ (.lst ds) lo hi) t P:=W_sl_lst.mpr h
theorem Tb {ds:List Int}{lo hi:Option Int}(h:P (.lst ((BU ds lo hi).map .int)) t):W (EJ (.scr ds) lo hi) t P:=W_sl_scr.mpr h
theorem wSl {l u:M (Option Int)}{h:D->Option Int->Option Int->M D}(w:W f t λx t1=>W l t1 λlo t2=>W u t2 λhi t3=>W (h x lo hi) t3 P):W (fSl f l u h) t P:=W_fSl.mpr w
variable {K:Option Int->T->Prop}
theorem wNo (h:K none t):W fNo t K:=W_fNo.mpr h
theorem O6 (h:K (some i) t):W (asI (.int i)) t K:=W_asI.mpr h
theorem MP (h:W f t λx t1=>W (asI x) t1 K):W (Gk f) t K:=W_fPart.mpr h
theorem Vh (h:W f t λx t1=>W (Di x) t1 Q):W (Fp f) t Q:=W_fItA.mpr h
theorem Vi (h:Q ds t):W (Di (.lst ds)) t Q:=W_it_lst.mpr h
theorem Vk (h:Q ds t):W (Di (.tup ds)) t Q:=W_it_tup.mpr h
theorem Vj (h:Q (x.cps.toList.map λc=>.str ⟨#[c]⟩) t):W (Di (.str x)) t Q:=W_it_str.mpr h
theorem Uj {f:M (List D)}(h:W f t λx t1=>W (Iq x) t1 Q):W (Cm f) t Q:=W_fRng1.mpr h
theorem EO (e:CK j=true)(h:Q (B1 0 j.toNat) t):W (Iq [.int j]) t Q:=W_rng1.mpr ⟨e,h⟩
theorem Uh {i:Nat}{xs:List D}{h:List D->List D->Option (List D)}{g:M (List D)}(e:t.env[i]?=some (some (.own xs)))(w:W g t λds t1=>∃xs,t1.env[i]?=some (some (.own xs))/\∃ys,h xs ds=some ys/\R .next ⟨t1.env.set i (some (.own ys)),t1.S⟩):W (ownM i h g) t R:=W_ownM.mpr ⟨⟨xs,e⟩,w⟩
theorem Vv {g:M D}{d:D}(h:W f t λo t1=>W g t1 λi t2=>W (E2 o i d) t2 U):W (stD f g d) t U:=W_stD.mpr h
theorem FF {k:Nat}{d:D}{xs:List D}(e:t.S[k]?=some (.lst xs))(e':ixN xs.length j=some n)(h:U () ⟨t.env,t.S.set k (.lst (xs.set n d))⟩):W (E2 (.obj k) (.int j) d) t U:=W_stOb.mpr ⟨xs,e,n,e',h⟩
end F2
namespace F2
open PySem L2
variable {i:Nat}{g:Fn}{d':D}
section
variable {t:T}{P:D->T->Prop}{B:Bool->T->Prop}{Q:List D->T->Prop}
theorem Up {n:Int}{ds:List D}{d:D}(e:t.env[i]?=some (some (.val (.tup ds))))(a:atI ds n=some d)(h:P d t):W (Ah (Ad i) (fC (.int n)) ixD) t P:=Iz (Dx e (wC (IC a h)))
theorem Ua {x y:Str}{ds:List D}{g:Bool->Bool}(e:t.env[i]?=some (some (.val (.tup (.str y :: ds)))))(h:B (g (y == x)) t):W (AM (Ah (Ah (Ad i) (fC (.int 0)) ixD) (fC (.str x)) (eqS g))) t B:=MR (Iz (Iz (Dx e (wC (IC Mc (wC (O8 (MQ h))))))))
theorem Td {x y:Str}{g:Bool->Bool}(e:t.env[i]?=some (some (.val (.str y))))(h:B (g (y == x)) t):W (AM (Ah (Ad i) (fC (.str x)) (eqS g))) t B:=MR (Iz (Dx e (wC (O8 (MQ h)))))
theorem Tc {x y:Int}{g:Bool->Bool}(e:t.env[i]?=some (some (.val (.int y))))(h:B (g (y == x)) t):W (AM (Ah (Ad i) (fC (.int x)) (eqS g))) t B:=MR (Iz (Dx e (wC (SW (MQ h)))))
theorem QV {d:D}(e:t.env[i]?=some (some (.val d)))(h:Wf g [d] t.S λr S'=>P r ⟨t.env,S'⟩):W (Aq g (Ab (Ad i) Ai)) t P:=GB (CL (Dx e (EN h)))
theorem QW {j:Nat}{d:D}(e:t.env[i]?=some (some (.val d)))(e':t.env[j]?=some (some (.val d')))(h:Wf g [d,d'] t.S λr S'=>P r ⟨t.env,S'⟩):W (Aq g (Ab (Ad i) (Ab (Ad j) Ai))) t P:=GB (CL (Dx e (CL (Dx e' (EN h)))))
theorem QY {d:D}(e:t.env[i]?=some (some (.val d)))(h:Wf g [d,d'] t.S λr S'=>P r ⟨t.env,S'⟩):W (Aq g (Ab (Ad i) (Ab (fC d') Ai))) t P:=GB (CL (Dx e (CL (wC (EN h)))))
theorem QX {j k:Nat}{d d'':D}(e:t.env[i]?=some (some (.val d)))(e':t.env[j]?=some (some (.val d')))(e'':t.env[k]?=some (some (.val d'')))(h:Wf g [d,d',d''] t.S λr S'=>P r ⟨t.env,S'⟩):W (Aq g (Ab (Ad i) (Ab (Ad j) (Ab (Ad k) Ai)))) t P:=GB (CL (Dx e (CL (Dx e' (CL (Dx e'' (EN h)))))))
end
end F2
set_option maxHeartbeats 1000000
namespace LW
open PySem L2 F2
set_option compiler.extract_closed false
local macro_rules | `(tactic| walk_at "w1")=>`(tactic| first
 | ((with_reducible first | refine' Ua ?wv ?_ | refine' Td ?wv ?_ | refine' QV ?wv ?_);(case wv=>exact rfl))
 | ((with_reducible first | refine' Tc ?wv ?_ | refine' QY ?wv ?_);(case wv=>exact rfl))
 | ((with_reducible refine' Up ?wv ?wu ?_);(case wv=>exact rfl);(case wu=>first | exact rfl | exact Mc | exact Pg | exact Ph))
 | ((with_reducible refine' QW ?wv ?wu ?_);(case wv=>exact rfl);(case wu=>exact rfl))
 | ((with_reducible refine' QX ?wv ?wu ?wt ?_);(case wv=>exact rfl);(case wu=>exact rfl);(case wt=>exact rfl))
 | with_reducible (first | refine Ld ?_ | refine CA ?_ | refine OV ?_ | refine Pc ?_ | refine Iz ?_ | refine wC ?_ | refine CL ?_ | refine EN ?_ | refine wIf ?_ | refine MR ?_ | refine MQ ?_ | refine Pb ?_ | refine GB ?_ | refine O8 ?_ | refine SW ?_ | refine U9 ?_ | refine TW ?_ | refine Um ?_ | refine Ul ?_ | refine wB ?_ | refine wBF ?_ | refine Ui ?_ | refine Vx ?_ | refine Vm ?_ | refine O9 ?_ | refine U7 ?_ | refine Va ?_ | refine U6 ?_ | refine wOr ?_ | refine Vq ?_ | refine TZ ?_ | refine wOrV ?_ | refine Ug ?_ | refine wIfE ?_ | refine SU ?_ | refine wUn ?_ | refine Vp ?_ | refine Vf ?_ | refine wIsB ?_ | refine SY ?_ | refine Vn ?_ | refine Vl ?_ | refine Vc ?_ | refine Vb ?_ | refine wLtS ?_ | refine wGtS ?_ | refine PC ?_ | refine Uc ?_ | refine PD ?_ | refine U5 ?_ | refine SZ ?_ | refine Vo ?_ | refine wInt ?_ | refine T6 ?_ | refine Uo ?_ | refine MO ?_ | refine Ue ?_ | refine TY ?_ | refine TX ?_ | refine wAddT ?_ | refine wAddT0 ?_ | refine U8 ?_ | refine wEqNil ?_ | refine wSl ?_ | refine wNo ?_ | refine MP ?_ | refine O6 ?_ | refine Ta ?_ | refine Tb ?_ | refine wSlS ?_ | refine wSlT ?_ | refine Vh ?_ | refine Vi ?_ | refine Vk ?_ | refine wItR ?_ | refine Vj ?_ | refine Uj ?_ | refine wRng2 ?_ | refine Gf ?_ | refine QZ ?_ | refine Pa ?_ | refine T4 ?_ | refine G3 ?_ | refine wDic ?_ | refine Vs ?_ | refine FE ?_ | refine T5 ?_ | refine Vv ?_)
 | ((with_reducible first | refine' Dx ?wv ?_ | refine' Ks ?wv ?_ | refine' wUnL ?wv ?_ | refine' Uh ?wv ?_ | refine' wApp ?wv ?_);(case wv=>exact rfl))
 | ((with_reducible first | refine' FV ?wv ?_ | refine' Uq ?wv ?_ | refine' Vy ?wv ?_);(case wv=>exact rfl))
 | ((with_reducible first | refine' IC ?wv ?_ | refine' EM ?wv ?_);(case wv=>first | exact rfl | exact Mc | exact Pg | exact Ph))
 | ((with_reducible refine Cb ?wv ?_);(case wv=>exact Nat.le_of_ble_eq_true rfl))
 | ((with_reducible refine' Vg ?wv ?wu ?_);(case wv=>exact rfl);(case wu=>exact rfl))
 | ((with_reducible refine O7 ?wv ?wu ?_);(case wv=>decide);(case wu=>decide))
 | ((with_reducible first | refine' Vt ?wv ?_ | refine' ID ?wv ?_ | refine' EO ?wv ?_ | refine' wRg2 ?wv ?_);(case wv=>decide)))
local macro_rules | `(tactic| right)=>`(tactic| repeat (walk_at "w1"))
structure DeckAt (k c:Nat)(S:List Ob):Prop where
 ne:k≠c
 at_:∃(cells:List Int) (par pos:Int),S[k]?=some (.lst [.obj c,.int par,.int pos])/\S[c]?=some (.lst (cells.map .int))/\cells≠[]/\0<=pos
def Keep (k c:Nat)(S S':List Ob):Prop:=S'.length=S.length/\∀j:Nat,j≠k->j≠c->S'[j]?=S[j]?
variable {k:Nat}{S:List Ob}
theorem Keep.refl {c:Nat}:Keep k c S S:=⟨rfl,λ_ _ _=>rfl⟩
theorem Keep.trans {k c:Nat}{S S' S'':List Ob}(a:Keep k c S S')(b:Keep k c S' S''):Keep k c S S'':=⟨b.1.trans a.1,λj h1 h2=>(b.2 j h1 h2).trans (a.2 j h1 h2)⟩
variable {n:Nat}{i:Int}
theorem HX (h0:0<=i)(h1:i < n):ixN n i=some i.toNat:=by simp [ixN,h0,h1]
variable {o:Ob}
theorem C8 {o':Ob}(h:S[k]?=some o):(S.set k o')[k]?=some o':=by
 obtain ⟨hl,_⟩:=List.getElem?_eq_some_iff.mp h;exact List.getElem?_set_self hl
theorem PX {c:Nat}{many:Int}(h:0 < many)(hm:many < 1073741824)(d:DeckAt k c S) :
 Wf (fnOf 2 5 C3) [.obj k,.int many] S λr S'=>(∃i,r = .int i/\0<=i/\i < many)/\DeckAt k c S'/\Keep k c S S':=by
 obtain ⟨ne,cells,par,pos,e1,e2,hc,hp⟩:=d;have hl:0 < cells.length:=List.length_pos_iff.mpr hc;have hr0:0<=pos % (cells.length:Int):=Int.emod_nonneg _ (by lia);have hr1:pos % (cells.length:Int) < cells.length:=Int.emod_lt_of_pos _ (by lia);have g1:(S.set k (.lst [.obj c,.int par,.int (pos + 1)]))[k]?=some (.lst [.obj c,.int par,.int (pos + 1)]):=C8 e1;have g2:(S.set k (.lst [.obj c,.int par,.int (pos + 1)]))[c]?=some (.lst (cells.map .int)):=by rw [List.getElem?_set_ne ne];exact e2
 obtain ⟨x,hx,_,_⟩:=HJ hr0 hr1;have hx':atI (cells.map D.int) (pos % (cells.length:Int))=some (.int x):=by
  unfold atI at hx ⊢;rw [List.length_map];obtain ⟨j,q1,q2⟩:=Option.bind_eq_some_iff.mp hx;rw [q1];simp [q2]
 have kp:∀o,Keep k c S ((S.set k o).set c o):=λo=>⟨by simp,λj h1 h2=>by rw [List.getElem?_set_ne (Ne.symm h2),List.getElem?_set_ne (Ne.symm h1)]⟩;refine Bl rfl ?_;unfold C3;right;refine Cc e1 (by rfl) ?_;right;refine Cc e1 (by rfl) ?_;right;refine MN e2 ?_;refine ID (by simp only [List.length_map];lia) ?_;rw [List.length_map];right;refine Cc e1 (by rfl) ?_;right;refine FF (n:=2) e1 (by rfl) ?_;right;refine Cc g1 (by rfl) ?_;right;refine DW (λ_=>?_) λ_=>?_
 ·right;refine Cc g1 (by rfl) ?_;right;refine Cc g2 hx' ?_;right;refine ID h ?_;right;refine Cc g1 (by rfl) ?_;right;refine Cc g2 hx' ?_;right;refine O7 h hm ?_;right;refine Cc g1 (by rfl) ?_;right;refine FF g2 (HX hr0 (by rw [List.length_map];exact hr1)) ?_;right;refine ⟨⟨_,rfl,Int.emod_nonneg _ (by lia),Int.emod_lt_of_pos _ h⟩,⟨ne,?_⟩,?_⟩
  ·refine ⟨cells.set (pos % (cells.length:Int)).toNat (x / many),par,pos + 1,?_,?_,?_,by lia⟩
   ·show ((S.set k _).set c _)[k]?=_;rw [List.getElem?_set_ne (Ne.symm ne)];exact g1
   ·show ((S.set k _).set c _)[c]?=_;exact (C8 g2).trans (by rw [List.map_set])
   ·intro z;have:=congrArg List.length z;rw [List.length_set] at this;exact absurd this (by simp;lia)
  ·exact ⟨by simp,λj h1 h2=>by show ((S.set k _).set c _)[j]?=_;rw [List.getElem?_set_ne (Ne.symm h2),List.getElem?_set_ne (Ne.symm h1)]⟩
 ·right;refine Cc g1 (by rfl) ?_;right;refine Cc g2 hx' ?_;right;refine Dr (DX (by decide) (by decide)) ?_;right;refine Cc g1 (by rfl) ?_;right;refine Dr (DX (by decide) (by decide)) ?_;right;refine Dr (DX (by have:=Int.emod_nonneg (x % 1000000021 * 6563 + (pos + 1) * 130363) (b:=1000000033) (by decide);lia) (by have:=Int.emod_lt_of_pos (x % 1000000021 * 6563 + (pos + 1) * 130363) (b:=1000000033) (by decide);lia)) ?_;right;refine Dr (DX (by decide) (by decide)) ?_;right;refine Cc g1 (by rfl) ?_;right;refine ID h ?_;refine ⟨⟨_,rfl,Int.emod_nonneg _ (by lia),Int.emod_lt_of_pos _ h⟩,⟨ne,cells,par,pos + 1,g1,g2,hc,by lia⟩,⟨by simp,λj h1 h2=>by show (S.set k _)[j]?=_;rw [List.getElem?_set_ne (Ne.symm h1)]⟩⟩
inductive Sh where
 | nothing | number (lo hi:Int) | text (m:Int) | list (s:Sh) (m:Int) | pair (s r:Sh) | choice (ss:List Sh)
mutual
noncomputable def Sh.d:Sh->D
 | .nothing=>.tup [.str "nothing"]
 | .number lo hi=>.tup [.str "number",.int lo,.int hi]
 | .text m=>.tup [.str "text",.int m]
 | .list s m=>.tup [.str "list",s.d,.int m]
 | .pair s r=>.tup [.str "pair",s.d,r.d]
 | .choice ss=>.tup [.str "choice",.tup (shD ss)]
noncomputable def shD:List Sh->List D
 | []=>[]
 | s :: r=>s.d :: shD r
end
mutual
noncomputable def Sh.depth:Sh->Nat
 | .nothing=>1
 | .number _ _=>1
 | .text _=>1
 | .list s _=>s.depth + 1
 | .pair s r=>max s.depth r.depth + 1
 | .choice ss=>shDep ss + 1
noncomputable def shDep:List Sh->Nat
 | []=>0
 | s :: r=>max s.depth (shDep r)
end
theorem Eu:∀ss:List Sh,(shD ss).length=ss.length
 | []=>rfl
 | s :: r=>by simp [shD,Eu r]
theorem Gy:∀(ss:List Sh) (k:Nat),(shD ss)[k]?=(ss[k]?).map Sh.d
 | [],k=>by simp [shD]
 | s :: r,0=>by simp [shD]
 | s :: r,k + 1=>by simp [shD,Gy r k]
theorem CB:∀(ss:List Sh) (k:Nat) (s:Sh),ss[k]?=some s->s.depth<=shDep ss
 | [],k,s,h=>by simp at h
 | s :: r,0,s',h=>by simp at h;subst h;simp [shDep];lia
 | s :: r,k + 1,s',h=>by
   have:=CB r k s' (by simpa using h);simp [shDep];lia
theorem Sh.depth_pos (s:Sh):1<=s.depth:=by cases s <;> simp [Sh.depth]
noncomputable def BZ (n:Nat):Bool:=decide (32<=n) && decide (n<=126) && decide (n≠37)
noncomputable def Mn:Str->Bool:=λo=>o == ("of" : Str)
mutual
def A4:Sh->D->Bool
 | .nothing,d=>Hm d
 | .number lo hi,d=>match d with
   | .int i=>decide (lo<=i) && decide (i<=hi)
   | _=>false
 | .text m,d=>match d with
   | .str x=>decide ((x.length:Int)<=m) && x.cps.toList.all BZ
   | _=>false
 | .list s m,d=>match d with
   | .lst ds=>decide ((ds.length:Int)<=m) && ds.all λe=>A4 s e
   | _=>false
 | .pair s r,d=>match d with
   | .tup [a,b]=>A4 s a && A4 r b
   | _=>false
 | .choice ss,d=>match d with
   | .tup [.str o,.int k,x]=>Mn o && (decide (0<=k) && decide (k < ss.length)) && Hg ss k.toNat x
   | _=>false
def Hg:List Sh->Nat->D->Bool
 | [],_,_=>false
 | s :: _,0,d=>A4 s d
 | _ :: r,k + 1,d=>Hg r k d
end
theorem DA:∀(ss:List Sh) (k:Nat) (s:Sh) (d:D),ss[k]?=some s->Hg ss k d=A4 s d
 | [],k,s,d,h=>by simp at h
 | s :: r,0,s',d,h=>by simp at h;subst h;simp [Hg]
 | s :: r,k + 1,s',d,h=>by rw [Hg];exact DA r k s' d (by simpa using h)
mutual
noncomputable def okD:D->Bool
 | .str x=>decide (x.length<=90000)
 | .tup xs=>oks xs
 | .lst xs=>oks xs
 | .obj _=>false
 | .scr _=>false
 | .exc _ _=>false
 | .ty _=>false
 | _=>true
noncomputable def oks:List D->Bool
 | []=>true
 | d :: r=>okD d && oks r
end
abbrev Pure1 (f:Fn)(ds:List D)(r:D):Prop:=∀S,Wf f ds S λv S'=>v=r/\S'=S
variable {ds:List D}
theorem Pure1.use {f:Fn}{r:D}(h:Pure1 f ds r){S:List Ob}{P:D->List Ob->Prop}(p:P r S):Wf f ds S P:=(h S).mono λ_ _ ⟨e1,e2⟩=>by subst e1 e2;exact p
def JQ (f:Fn):Prop:=∀n:Nat,Pure1 f [.int n] (.bl (BZ n))
theorem Mo:JQ (fnOf 1 1 EU):=by
 intro n S;refine Bl rfl ?_;unfold EU;right;have c1:decide ((32:Int)<=n)=decide (32<=n):=decide_eq_decide.mpr (by lia);have c2:decide ((n:Int)<=126)=decide (n<=126):=decide_eq_decide.mpr (by lia);have c3:(!((n:Int) == 37))=decide (n≠37):=by
  by_cases h:n=37
  ·subst h;rfl
  ·have:¬((n:Int)=37):=by lia
   simp [h,this]
 rw [c1];refine DW (λe=>?_) λe=>?_
 ·right;rw [c2];refine DW (λe'=>?_) λe'=>?_
  ·right;exact ⟨by simp only [BZ,e,e',c3,Bool.true_and],rfl⟩
  ·exact ⟨by simp only [BZ,e,e',Bool.false_and,Bool.and_false],rfl⟩
 ·right;exact ⟨by simp only [BZ,e,Bool.false_and],rfl⟩
def DrawOk (f:Fn):Prop:=∀(k c:Nat) (S:List Ob) (many:Int),0 < many->many < 1073741824->DeckAt k c S->Wf f [.obj k,.int many] S λr S'=>(∃i,r = .int i/\0<=i/\i < many)/\DeckAt k c S'/\Keep k c S S'
theorem N9:DrawOk (fnOf 2 5 C3):=λk c S many h1 h2 d=>PX h1 h2 d
theorem DrawOk.use {f:Fn}(h:DrawOk f){k c:Nat}{S:List Ob}{m:Int}(many:Int)(d:DeckAt k c S){P:D->List Ob->Prop}(p:∀i S',0<=i->i < many->DeckAt k c S'->Keep k c S S'->P (.int i) S')(e:m=many:=by first | rfl | decide)(h1:0 < many:=by decide)(h2:many < 1073741824:=by decide) :
 Wf f [.obj k,.int m] S P:=by
 subst e;exact (h k c S m h1 h2 d).mono λr S' ⟨⟨i,e,h0,hm⟩,d',kp⟩=>by subst e;exact p i S' h0 hm d' kp
def FarOk (f:Fn):Prop:=∀(k c:Nat) (S:List Ob),DeckAt k c S->Wf f [.obj k] S λr S'=>(∃i,r = .int i/\-1000000000000000000 < i/\i < 1000000000000000000)/\DeckAt k c S'/\Keep k c S S'
theorem FarOk.use {f:Fn}(h:FarOk f){k c:Nat}{S:List Ob}(d:DeckAt k c S){P:D->List Ob->Prop}(p:∀i S',-1000000000000000000 < i->i < 1000000000000000000->DeckAt k c S'->Keep k c S S'->P (.int i) S'):Wf f [.obj k] S P:=
 (h k c S d).mono λr S' ⟨⟨i,e,h0,hm⟩,d',kp⟩=>by subst e;exact p i S' h0 hm d' kp
variable {c:Fn}
theorem Rr (hc:DrawOk c):FarOk (fnOf 1 2 (D4 c)):=by
 intro k cc S d;refine Bl rfl ?_;unfold D4;have p6:(10:Int) ^ Int.toNat 6=1000000:=by decide
 have p12:(10:Int) ^ Int.toNat 12=1000000000000:=by decide
 right;refine hc.use 1000000 d (λa S1 a0 a1 d1 k1=>?_) p6;right;refine Dr (Fc (by lia) (by lia)) ?_;right;refine hc.use 1000000 d1 (λb S2 b0 b1 d2 k2=>?_) p6;right;refine Dr (Fc (by lia) (by lia)) ?_;right;refine hc.use 1000000 d2 (λe S3 e0 e1 d3 k3=>?_) p6;right;refine hc.use 2 d3 (λg S4 g0 g1 d4 k4=>?_);have hg:g=0\/g=1:=by lia
 rw [p6,p12];rcases hg with rfl | rfl
 ·right;refine Dr (DX (by decide) (by decide)) ?_;exact ⟨⟨_,rfl,by lia,by lia⟩,d4,k1.trans (k2.trans (k3.trans k4))⟩
 ·right;refine Dr (DX (by decide) (by decide)) ?_;exact ⟨⟨_,rfl,by lia,by lia⟩,d4,k1.trans (k2.trans (k3.trans k4))⟩
theorem FX (x:Str):x.length=x.cps.toList.length:=by simp [Str.length]
theorem IJ (x y:Str):(x++y).cps.toList=x.cps.toList++y.cps.toList:=by
 show (x.cps++y.cps).toList=_;simp
variable {elt:M D}
theorem MY {f:D->D}{fr:List (Option Sl)}{z:Option Sl}(h:∀d∈ds,W elt ⟨some (.val d) :: fr,S⟩ λx t'=>x=f d/\t'=⟨some (.val d) :: fr,S⟩) :
 W (Cj (BI 0) Df elt ds) ⟨z :: fr,S⟩ λxs t'=>xs=ds.map f/\t'.S=S:=by
 refine (Ex (P:=λxs t'=>xs=ds.map f/\t'.S=S) (λacc r t=>acc++r.map f=ds.map f/\∃z,t=⟨z :: fr,S⟩) ds [] _ ⟨rfl,z,rfl⟩ ?_ ?_).mono λxs t' h=>h
 ·rintro acc d r t ⟨h1,z,rfl⟩ hm;refine Gf (G3 ?_);rw [if_pos rfl];refine (h d hm).mono λx t' z9=>?_;obtain ⟨e1,e2⟩:=z9;subst e1 e2;exact ⟨by rw [List.append_assoc];exact h1,_,rfl⟩
 ·rintro acc t ⟨h1,z,rfl⟩;exact ⟨by simpa using h1,rfl⟩
theorem Jd:∀ns:List Int,F8 (ns.map D.int)=true
 | []=>rfl
 | n :: r=>by rw [List.map_cons,F8,Jd r];rfl
theorem PV {ns:List Int}{d:D}(hd:d = .scr ns\/(d = .lst (ns.map .int))):Wf (fnOf 1 2 DJ) [d] S λr S'=>∃(k c:Nat) (ex:List Ob),r = .obj k/\DeckAt k c S'/\S'=S++ex/\S.length<=k/\S.length<=c/\k < S'.length/\c < S'.length:=by
 refine Bl rfl ?_;unfold DJ;have key:∀(cs:List Int) (n:Nat),W (As (ifS (AM (Ah (Ad 1) (A6 (Bu Ai)) (eqS id)))
  (A8 1 (Eg (Bu (Ab (fC (.int 0)) Ai))))
  A3)
 (AN (Eg (Bu (Ab (Ad 1) (Ab (Ah (fB (Ab (Ad 0) Ai) Bt) (fC (.int 2)) Dd) (Ab (fC (.int 0)) Ai)))))))
  ⟨[some (.val d),some (.val (.obj S.length))],S++[.lst (cs.map .int)]⟩ λo t=>match o with
   | .ret r=>∃(k c:Nat) (ex:List Ob),r = .obj k/\DeckAt k c t.S/\t.S=S++ex/\S.length<=k/\S.length<=c/\k < t.S.length/\c < t.S.length
   | .next=>∃(k c:Nat) (ex:List Ob),D.non = .obj k/\DeckAt k c t.S/\t.S=S++ex/\S.length<=k/\S.length<=c/\k < t.S.length/\c < t.S.length
   | _=>False:=by
   intro cs n;have len:∀{t:T} {P:D->T->Prop},(∀i:Int,P (.int i) t)->W (Bt [d]) t P:=λ{t P} h=>by
    rcases hd with rfl | rfl
    ·exact PD (h _)
    ·exact PC (h _)
   right;refine (JS (ds:=cs.map .int) (by simp) (Jd cs)).mpr ?_;right;refine DW (λq=>?_) λq=>?_
   ·right;refine len λi=>?_;right;refine ⟨S.length + 2,S.length + 1,[.lst (cs.map .int),.lst [.int 0],.lst [.obj (S.length + 1),.int (i % 2),.int 0]],by simp,⟨by lia,[0],i % 2,0,?_,?_,by simp,by decide⟩,by simp,by lia,by lia,by simp,by simp⟩
    ·simp
    ·simp
   ·right;refine len λi=>?_;right;refine ⟨S.length + 1,S.length,[.lst (cs.map .int),.lst [.obj S.length,.int (i % 2),.int 0]],by simp,⟨by lia,cs,i % 2,0,?_,?_,?_,by decide⟩,by simp,by lia,by lia,by simp,by simp⟩
    ·simp
    ·simp
    ·intro z;subst z;exact absurd q (by decide)
 rcases hd with rfl | rfl
 ·exact Ld (Pc (O9 (wBF (CL (wSl (Dx (d:=.scr ns) rfl (wNo (MP (wC (O6 (Tb (EN (MO (CA (key (BU ns none (some 63)) 0)))))))))))))))
 ·have:BU (ns.map D.int) none (some 63)=(BU ns none (some 63)).map D.int:=by
   unfold BU;rw [List.length_map,List.map_take,List.map_drop]
  have q:=key (BU ns none (some 63)) 0;rw [<-this] at q;exact Ld (Pc (O9 (wBF (CL (wSl (Dx (d:=.lst (ns.map .int)) rfl (wNo (MP (wC (O6 (Ta (EN (MO (CA q))))))))))))))
theorem DeckAt.more {c:Nat}{ex:List Ob}(d:DeckAt k c S):DeckAt k c (S++ex):=by
 obtain ⟨ne,cells,par,pos,e1,e2,r⟩:=d;refine ⟨ne,cells,par,pos,?_,?_,r⟩
 ·rw [List.getElem?_append_left (List.getElem?_eq_some_iff.mp e1).1];exact e1
 ·rw [List.getElem?_append_left (List.getElem?_eq_some_iff.mp e2).1];exact e2
mutual
noncomputable def sz:D->Nat
 | .tup xs=>szs xs + 1
 | .lst xs=>szs xs + 1
 | _=>1
noncomputable def szs:List D->Nat
 | []=>0
 | d :: r=>sz d + szs r
end
theorem QR {x y:Str}(h:x.cps.toList=y.cps.toList):x=y:=by
 cases x;cases y
 congr
 exact Array.toList_inj.mp h
mutual
noncomputable def wf:Sh->Bool
 | .nothing=>true
 | .number lo hi=>decide (-1000000000000000000 < lo) && decide (lo<=hi) && decide (hi < 1000000000000000000)
 | .text m=>decide (0<=m) && decide (m<=250)
 | .list s m=>decide (0<=m) && decide (m<=250) && wf s
 | .pair s r=>wf s && wf r
 | .choice ss=>decide (1<=ss.length) && decide (ss.length<=9) && wfs ss
noncomputable def wfs:List Sh->Bool
 | []=>true
 | s :: r=>wf s && wfs r
end
mutual
noncomputable def cnt:Sh->Nat
 | .list s _=>cnt s + 1
 | .pair s r=>cnt s + cnt r + 1
 | .choice ss=>cnts ss + 1
 | _=>1
noncomputable def cnts:List Sh->Nat
 | []=>0
 | s :: r=>cnt s + cnts r
end
theorem Db:∀{ss:List Sh},wfs ss=true->∀s∈ss,wf s=true
 | x :: r,h,s,m=>by
   rw [wfs,Bool.and_eq_true] at h;rcases List.mem_cons.mp m with z | z
   ·subst z;exact h.1
   ·exact Db h.2 s z
theorem NV:∀{ss:List Sh},(∀s∈ss,wf s=true)->wfs ss=true
 | [],_=>rfl
 | x :: r,h=>by rw [wfs,h x List.mem_cons_self,NV λs m=>h s (List.mem_cons_of_mem _ m)];rfl
theorem GZ:∀ss:List Sh,shD ss=ss.map Sh.d
 | []=>rfl
 | s :: r=>by rw [shD,GZ r];rfl
theorem K0:∀{ss:List Sh} {n:Nat},(∀s∈ss,s.depth<=n)->shDep ss<=n
 | [],n,_=>Nat.zero_le _
 | s :: r,n,h=>by
   rw [shDep];have:=h s List.mem_cons_self;have:=K0 λs m=>h s (List.mem_cons_of_mem _ m);lia
theorem Ga:∀{ss:List Sh} {s:Sh},s∈ss->s.depth<=shDep ss
 | x :: r,s,m=>by
   rw [shDep];rcases List.mem_cons.mp m with z | z
   ·subst z;lia
   ·have:=Ga z;lia
theorem Ke:∀xs ys:List Sh,cnts (xs++ys)=cnts xs + cnts ys
 | [],ys=>by simp [cnts]
 | x :: xs,ys=>by simp [cnts,Ke xs ys];lia
def LeafOk (f:Fn):Prop:=∀(k c:Nat) (S:List Ob),DeckAt k c S->Wf f [.obj k] S λr S'=>(∃s:Sh,r=s.d/\wf s=true/\s.depth=1/\cnt s=1)/\DeckAt k c S'/\Keep k c S S'
theorem LeafOk.use {f:Fn}(h:LeafOk f){k c:Nat}{S:List Ob}(d:DeckAt k c S){P:D->List Ob->Prop}(p:∀(s:Sh) S',wf s=true->s.depth=1->cnt s=1->DeckAt k c S'->Keep k c S S'->P s.d S'):Wf f [.obj k] S P:=
 (h k c S d).mono λr S' ⟨⟨s,e,h1,h2,h3⟩,d',kp⟩=>by subst e;exact p s S' h1 h2 h3 d' kp
variable {xs:List D}
theorem F5 (h0:0<=i)(h1:i < xs.length){p:D->Prop}(h:∀d∈xs,p d):∃d,atI xs i=some d/\p d:=by
 obtain ⟨d,e,m,_⟩:=HJ h0 h1;exact ⟨d,e,h d m⟩
variable {cd:Fn}
theorem Qe {cf:Fn}(hd:DrawOk cd)(hf:FarOk cf):LeafOk (fnOf 1 5 (DK cd cf)):=by
 intro k c S d;refine Bl rfl ?_;unfold DK;right;refine hd.use 6 d (λkd S1 q0 q1 d1 k1=>?_);right;refine DW (λq=>?_) λq=>?_
 ·right;exact ⟨⟨.nothing,by rw [Sh.d],rfl,rfl,rfl⟩,d1,k1⟩
 right;refine DW (λq=>?_) λq=>?_
 ·right;refine hd.use 251 d1 (λa S2 a0 a1 d2 k2=>?_);right;refine hd.use 5 d2 (λi S3 i0 i1 d3 k3=>?_);obtain ⟨x,ex,m,rfl,m0,m1⟩:=F5 (xs:=[D.int 0,D.int 1,D.int 4,D.int 250,D.int a]) i0 (by simpa using i1) (p:=λd=>∃m:Int,d = .int m/\0<=m/\m<=250) (by
   simp only [List.forall_mem_cons];exact ⟨⟨_,rfl,by decide,by decide⟩,⟨_,rfl,by decide,by decide⟩,⟨_,rfl,by decide,by decide⟩,⟨_,rfl,by decide,by decide⟩,⟨_,rfl,by lia,by lia⟩,λ_ z=>nomatch z⟩)
  refine EM ex ?_;right;exact ⟨⟨.text m,by rw [Sh.d],by simp [wf,m0,m1],rfl,rfl⟩,d3,k1.trans (k2.trans k3)⟩
 have p18:(10:Int) ^ Int.toNat 18=1000000000000000000:=by decide
 have pw:(2:Int) ^ Int.toNat 24=16777216/\(2:Int) ^ Int.toNat 32=4294967296/\(2:Int) ^ Int.toNat 40=1099511627776/\(2:Int) ^ Int.toNat 48=281474976710656/\(2:Int) ^ Int.toNat 56=72057594037927936:=by decide
 right;refine hd.use 40 d1 (λa S2 a0 a1 d2 k2=>?_);right;refine hf.use d2 (λf S3 f0 f1 d3 k3=>?_);right;refine hd.use 4 d3 (λi S4 i0 i1 d4 k4=>?_);rw [p18];obtain ⟨x,ex,low,rfl,l0,l1⟩:=F5 (xs:=[D.int 0,D.int (a - 20),D.int f,D.int (1 - 1000000000000000000)]) i0 (by simpa using i1) (p:=λd=>∃m:Int,d = .int m/\-1000000000000000000 < m/\m < 1000000000000000000) (by
  simp only [List.forall_mem_cons];exact ⟨⟨_,rfl,by decide,by decide⟩,⟨_,rfl,by lia,by lia⟩,⟨_,rfl,by lia,by lia⟩,⟨_,rfl,by decide,by decide⟩,λ_ z=>nomatch z⟩)
 refine EM ex ?_;right;refine hd.use 5 d4 (λj S5 j0 j1 d5 k5=>?_);obtain ⟨y,ey,gr,rfl,gr0⟩:=F5 (xs:=[D.int ((2:Int) ^ Int.toNat 24),D.int ((2:Int) ^ Int.toNat 32),D.int ((2:Int) ^ Int.toNat 40),D.int ((2:Int) ^ Int.toNat 48),D.int ((2:Int) ^ Int.toNat 56)]) j0 (by simpa using j1) (p:=λd=>∃m:Int,d = .int m/\1000<=m) (by
  simp only [List.forall_mem_cons];obtain ⟨w1,w2,w3,w4,w5⟩:=pw;exact ⟨⟨_,rfl,by rw [w1];decide⟩,⟨_,rfl,by rw [w2];decide⟩,⟨_,rfl,by rw [w3];decide⟩,⟨_,rfl,by rw [w4];decide⟩,⟨_,rfl,by rw [w5];decide⟩,λ_ z=>nomatch z⟩)
 refine EM ey ?_;right;refine hd.use 2 d5 (λu S6 u0 u1 d6 k6=>?_);right;refine hd.use 1000 d6 (λv S7 v0 v1 d7 k7=>?_);right;refine hf.use d7 (λf' S8 g0 g1 d8 k8=>?_);right;rw [p18];refine Dr (Fc (by decide) (by decide)) ?_;right;refine hd.use 11 d8 (λz S9 z0 z1 d9 k9=>?_);obtain ⟨w,ew,sp,rfl,sp0⟩:=F5 (xs:=[D.int 0,D.int 1,D.int 255,D.int 256,D.int 299,D.int 65535,D.int 65536,D.int v,D.int (if f' < 0 then -f' else f'),D.int (gr - u),D.int (2 * 1000000000000000000)]) z0 (by simpa using z1) (p:=λd=>∃m:Int,d = .int m/\0<=m) (by
  simp only [List.forall_mem_cons];exact ⟨⟨_,rfl,by decide⟩,⟨_,rfl,by decide⟩,⟨_,rfl,by decide⟩,⟨_,rfl,by decide⟩,⟨_,rfl,by decide⟩,⟨_,rfl,by decide⟩,⟨_,rfl,by decide⟩,⟨_,rfl,by lia⟩,⟨_,rfl,by split <;> lia⟩,⟨_,rfl,by lia⟩,⟨_,rfl,by decide⟩,λ_ z=>nomatch z⟩)
 refine EM ew ?_;right;rw [p18];refine ⟨⟨.number low (if low + sp < 1000000000000000000 - 1 then low + sp else 1000000000000000000 - 1),by rw [Sh.d],?_,rfl,rfl⟩,d9,k1.trans (k2.trans (k3.trans (k4.trans (k5.trans (k6.trans (k7.trans (k8.trans k9)))))))⟩;simp only [wf,Bool.and_eq_true,decide_eq_true_eq]
 split <;> lia
def KeepL (k c l:Nat)(S S':List Ob):Prop:=S'.length=S.length/\∀j:Nat,j≠k->j≠c->j≠l->S'[j]?=S[j]?
variable {l:Nat}
theorem KeepL.refl {c:Nat}:KeepL k c l S S:=⟨rfl,λ_ _ _ _=>rfl⟩
theorem KeepL.trans {k c l:Nat}{S S' S'':List Ob}(a:KeepL k c l S S')(b:KeepL k c l S' S''):KeepL k c l S S'':=⟨b.1.trans a.1,λj h1 h2 h3=>(b.2 j h1 h2 h3).trans (a.2 j h1 h2 h3)⟩
variable {S':List Ob}
theorem Keep.toL {c:Nat}(a:Keep k c S S'):KeepL k c l S S':=⟨a.1,λj h1 h2 _=>a.2 j h1 h2⟩
noncomputable def Ck (deep:Int):Int:=if deep < 2 then 0 else 2 * deep + 4
def bd (deep x:Int):Int:=if deep < 2 then 1 else max x 1 + Ck deep - (if deep + 1<=x then 1 else 0)
def tb (deep y i:Int):Int:=if deep=2 then i else if i=0 then 0 else y + Ck (deep - 1) + i - 1 - (if deep<=y then 1 else 0)
theorem RQ (deep x:Int):1<=bd deep x:=by
 unfold bd Ck
 repeat' split
 all_goals lia
variable {y:Int}
theorem Gz {deep T n:Int}(hd:2<=deep)(hy:1<=y)(hi:0<=i)(hT0:0<=T)(hT:T<=tb deep y i)(h1:y - T<=1->n=1)(h2:n<=bd (deep - 1) (y - T)):T + n<=tb deep y (i + 1):=by
 by_cases h:y - T<=1
 ·have:=h1 h;subst this;unfold tb at hT ⊢;unfold Ck at hT ⊢
  (repeat' split at hT) <;> (repeat' split) <;> lia
 ·unfold tb at hT ⊢;unfold bd at h2;unfold Ck at hT h2 ⊢
  (repeat' split at hT) <;> (repeat' split at h2) <;> (repeat' split) <;> lia
variable {m:Int}
theorem Kk {deep x:Int}(hd:2<=deep)(hx:2<=x)(hm:1<=m)(h:m<=3\/(deep=2/\m<=9)):tb deep (x - 1) m + 1<=bd deep x:=by
 unfold tb bd Ck
 (repeat' split) <;> lia
structure ShapeRes (k c l:Nat)(S:List Ob)(deep x:Int)(s:Sh)(S':List Ob):Prop where
 w:wf s=true
 dep:(s.depth:Int)<=max deep 1
 lft:S'[l]?=some (.lst [.int (x - cnt s)])
 one:x<=1->cnt s=1
 few:(cnt s:Int)<=max x 1 + Ck deep
 deck:DeckAt k c S'
 kp:KeepL k c l S S'
 few2:(cnt s:Int)<=bd deep x
def E5 (f:Fn)(n:Nat):Prop:=∀(k c l:Nat) (S:List Ob) (deep x:Int),deep<=n->l≠k->l≠c->DeckAt k c S->S[l]?=some (.lst [.int x])->Wf f [.obj k,.int deep,.obj l] S λr S'=>∃s:Sh,r=s.d/\ShapeRes k c l S deep x s S'
theorem G1 {T n P:Int}(hy:1<=y)(hP:0<=P)(hT:(i=0/\T=0)\/(1<=i/\T<=y + P + (i - 1)))(h1:y - T<=1->n=1)(h2:n<=max (y - T) 1 + P):T + n<=y + P + i:=by
 by_cases h:y - T<=1
 ·have:=h1 h;lia
 ·have:max (y - T) 1=y - T:=by lia
  lia
variable {cs cl:Fn}
theorem K1 (hd:DrawOk cd)(hl:LeafOk cl)(hs:n=0\/E5 cs n):E5 (fnOf 3 7 (Dn cd cs cl)) (n + 1):=by
 intro k c l S deep x hdeep hlk hlc dk hx;refine Bl rfl ?_;unfold Dn;have hL:LIM=100000:=rfl;have g0:(S.set l (.lst [.int (x - 1)]))[l]?=some (.lst [.int (x - 1)]):=C8 hx;have kp0:KeepL k c l S (S.set l (.lst [.int (x - 1)])):=⟨by simp,λj _ _ h=>List.getElem?_set_ne (Ne.symm h)⟩;have dk0:DeckAt k c (S.set l (.lst [.int (x - 1)])):=by
  obtain ⟨ne,cells,par,pos,e1,e2,r⟩:=dk;exact ⟨ne,cells,par,pos,by rw [List.getElem?_set_ne hlk];exact e1,by rw [List.getElem?_set_ne hlc];exact e2,r⟩
 right;refine Cc hx (by rfl) ?_;right;refine FF (n:=0) hx (by rfl) ?_;right;refine hd.use 8 dk0 (λkd S1 q0 q1 d1 k1=>?_);have x1:S1[l]?=some (.lst [.int (x - 1)]):=(k1.2 l hlk hlc).trans g0;have kp1:=kp0.trans (k1.toL (l:=l));right;have leaf:∀{env:List (Option Sl)} {R:Out->T->Prop},(env[0]?=some (some (.val (.obj k))))->(∀(s:Sh) S',ShapeRes k c l S deep x s S'->R (.ret s.d) ⟨env,S'⟩)->W (AN (Aq cl (Ab (Ad 0) Ai))) ⟨env,S1⟩ R:=λ{env R} he h=>by
  refine Pb (GB (CL (Dx he (EN (hl.use d1 λs S2 w1 w2 w3 d2 k2=>?_)))));refine h s S2 ⟨w1,by rw [w2];lia,?_,λ_=>w3,?_,d2,kp1.trans k2.toL,by rw [w3];exact RQ deep x⟩
  ·rw [w3];exact (k2.2 l hlk hlc).trans x1
  ·rw [w3];unfold Ck;split <;> lia
 refine DW (λq=>?_) λq=>?_
 ·walk_at "w1";exact leaf rfl λs S' r=>⟨s,rfl,r⟩
 right;refine Cc x1 (by rfl) ?_;right;refine DW (λq'=>?_) λq'=>?_
 ·walk_at "w1";exact leaf rfl λs S' r=>⟨s,rfl,r⟩
 right;refine DW (λq''=>?_) λq''=>?_
 ·exact leaf rfl λs S' r=>⟨s,rfl,r⟩
 have hdp:2<=deep:=by have:=of_decide_eq_false q;lia
 have hy:1<=x - 1:=by have:=of_decide_eq_false q';lia
 have hs':E5 cs n:=by
  rcases hs with rfl | h
  ·exact absurd hdeep (by lia)
  ·exact h
 have hsl:0<=Ck (deep - 1):=by unfold Ck;split <;> lia
 have sl3:∀m:Int,1<=m->(m<=3\/(deep=2/\m<=9))->Ck (deep - 1) + m - 1<=Ck deep:=λm m0 m1=>by
  unfold Ck
  by_cases h2:deep=2
  ·subst h2;rcases m1 with h | ⟨_,h⟩
   ·simp;lia
   ·simp;lia
  ·rw [if_neg (by lia),if_neg (by lia)];rcases m1 with h | ⟨h,_⟩
   ·lia
   ·exact absurd h h2
 right;refine DW (λz=>?_) λz=>?_
 ·right;refine hd.use 251 d1 (λa S2 a0 a1 d2 k2=>?_);right;refine hd.use 5 d2 (λi S3 i0 i1 d3 k3=>?_);obtain ⟨y,ey,m,rfl,m0,m1⟩:=F5 (xs:=[D.int 0,D.int 1,D.int 3,D.int 250,D.int a]) i0 (by simpa using i1) (p:=λd=>∃m:Int,d = .int m/\0<=m/\m<=250) (by
   simp only [List.forall_mem_cons];exact ⟨⟨_,rfl,by decide,by decide⟩,⟨_,rfl,by decide,by decide⟩,⟨_,rfl,by decide,by decide⟩,⟨_,rfl,by decide,by decide⟩,⟨_,rfl,by lia,by lia⟩,λ_ z=>nomatch z⟩)
  refine EM ey ?_;right;have x3:S3[l]?=some (.lst [.int (x - 1)]):=(k3.2 l hlk hlc).trans ((k2.2 l hlk hlc).trans x1);refine (hs' k c l S3 (deep - 1) (x - 1) (by lia) hlk hlc d3 x3).mono λr S4 z9=>?_;obtain ⟨s,e,R⟩:=z9;subst e;right;have f1:=R.few;have f2:=R.dep;have f3:=sl3 1 (by decide) (.inl (by decide));refine ⟨.list s m,by rw [Sh.d],⟨by simp [wf,m0,m1,R.w],by rw [Sh.depth];lia,?_,λh=>absurd h (by lia),by rw [cnt];lia,R.deck,kp1.trans (k2.toL.trans (k3.toL.trans R.kp)),?_⟩⟩
  ·have:=R.lft;rw [cnt];rw [show x - ((cnt s + 1:Nat):Int)=x - 1 - cnt s by lia];exact this
  ·have t1:=Gz (deep:=deep) (y:=x - 1) (T:=0) (n:=cnt s) (i:=0) hdp hy (by decide) (by decide) (by unfold tb;simp) (λh=>by have:=R.one (by lia);lia) (by rw [Int.sub_zero];exact R.few2);have t2:=Kk (deep:=deep) (x:=x) (m:=1) hdp (by lia) (by decide) (.inl (by decide));rw [cnt];simp only [Int.zero_add] at t1;lia
 right;refine DW (λz=>?_) λz=>?_
 ·right;refine (hs' k c l S1 (deep - 1) (x - 1) (by lia) hlk hlc d1 x1).mono λr S2 z9=>?_;obtain ⟨s,e,R⟩:=z9;subst e;right;refine (hs' k c l S2 (deep - 1) (x - 1 - cnt s) (by lia) hlk hlc R.deck R.lft).mono λr S3 z9=>?_;obtain ⟨s2,e,R2⟩:=z9;subst e;right;have f1:=R.few;have f2:=R.dep;have f2':=R2.dep;have f4:=G1 (T:=0) (i:=0) (y:=x - 1) (n:=cnt s) hy hsl (.inl ⟨rfl,rfl⟩) (λh=>by have:=R.one (by lia);lia) (by simpa using f1);have f5:=G1 (T:=cnt s) (i:=1) (y:=x - 1) (n:=cnt s2) hy hsl (.inr ⟨by decide,by lia⟩) (λh=>by have:=R2.one h;lia) R2.few;have f3:=sl3 2 (by decide) (.inl (by decide));refine ⟨.pair s s2,by rw [Sh.d],⟨by simp [wf,R.w,R2.w],by rw [Sh.depth];lia,?_,λh=>absurd h (by lia),by rw [cnt];lia,R2.deck,kp1.trans (R.kp.trans R2.kp),?_⟩⟩
  ·have:=R2.lft;rw [cnt,show x - ((cnt s + cnt s2 + 1:Nat):Int)=x - 1 - cnt s - cnt s2 by lia];exact this
  ·have t1:=Gz (deep:=deep) (y:=x - 1) (T:=0) (n:=cnt s) (i:=0) hdp hy (by decide) (by decide) (by unfold tb;simp) (λh=>by have:=R.one (by lia);lia) (by rw [Int.sub_zero];exact R.few2);have t2:=Gz (deep:=deep) (y:=x - 1) (T:=cnt s) (n:=cnt s2) (i:=1) hdp hy (by decide) (by lia) (by simpa using t1) (λh=>by have:=R2.one h;lia) R2.few2;have t3:=Kk (deep:=deep) (x:=x) (m:=2) hdp (by lia) (by decide) (.inl (by decide));rw [cnt];simp only [show (1:Int) + 1=2 from rfl] at t2;lia
 right;have tab:∀b:Bool,∃m:Int,atI [D.int 3,D.int 9] (if b=true then 1 else 0)=some (.int m)/\((b=false/\m=3)\/(b=true/\m=9)):=by
  intro b
  cases b
  ·exact ⟨3,rfl,.inl ⟨rfl,rfl⟩⟩
  ·exact ⟨9,rfl,.inr ⟨rfl,rfl⟩⟩
 obtain ⟨m,em,hm⟩:=tab (id (deep == 2));have hm':3<=m/\m<=9/\(m<=3\/deep=2):=by
  rcases hm with ⟨h1,h2⟩ | ⟨h1,h2⟩
  ·lia
  ·have:deep=2:=by simpa using h1
   lia
 refine EM em ?_;right;refine hd.use m d1 (λi S2 i0 i1 d2 k2=>?_) rfl (by lia) (by lia);right;have x2:S2[l]?=some (.lst [.int (x - 1)]):=(k2.2 l hlk hlc).trans x1;refine EO (Cl (by lia) (by lia)) ?_;refine (Ex (P:=λys t'=>∃ss:List Sh,ys=shD ss/\ss≠[]/\(ss.length:Int)<=1 + i/\wfs ss=true/\((shDep ss:Nat):Int)<=deep - 1/\(cnts ss:Int)<=x - 1 + Ck (deep - 1) + (ss.length - 1)/\t'.S[l]?=some (.lst [.int (x - 1 - cnts ss)])/\DeckAt k c t'.S/\KeepL k c l S2 t'.S/\(cnts ss:Int)<=tb deep (x - 1) ss.length)
  (λacc r t=>∃(ss:List Sh) (S':List Ob) (e0:Option Sl),acc=shD ss/\(ss.length:Int) + r.length=1 + i/\wfs ss=true/\((shDep ss:Nat):Int)<=deep - 1/\(((ss.length:Int)=0/\(cnts ss:Int)=0)\/(1<=(ss.length:Int)/\(cnts ss:Int)<=x - 1 + Ck (deep - 1) + (ss.length - 1)))/\S'[l]?=some (.lst [.int (x - 1 - cnts ss)])/\DeckAt k c S'/\KeepL k c l S2 S'/\(cnts ss:Int)<=tb deep (x - 1) ss.length/\t=⟨[e0,some (.val (.obj k)),some (.val (.obj l)),some (.val (.int deep))],S'⟩) _ [] _ ?_ ?_ ?_).mono ?_
 ·exact ⟨[],S2,_,rfl,by simp [B1];lia,rfl,by simp [shDep];lia,.inl ⟨rfl,rfl⟩,by simpa [cnts] using x2,d2,.refl,by unfold tb;simp [cnts],rfl⟩
 ·rintro acc d r t ⟨ss,S',e0,rfl,hlen,hw,hdp',hT,hlf,hdk,hkp,htb,rfl⟩ _;refine Gf (G3 ?_);rw [if_pos rfl];right;refine (hs' k c l S' (deep - 1) (x - 1 - cnts ss) (by lia) hlk hlc hdk hlf).mono λr' S3 z9=>?_;obtain ⟨s,e,R⟩:=z9;subst e;have f5:=G1 (T:=cnts ss) (i:=ss.length) (y:=x - 1) (n:=cnt s) hy hsl hT (λh=>by have:=R.one h;lia) R.few;have fd:=R.dep;have ftb:=Gz (deep:=deep) (y:=x - 1) (T:=cnts ss) (n:=cnt s) (i:=ss.length) hdp hy (by lia) (by lia) htb (λh=>by have:=R.one h;lia) R.few2;have ec:cnts (ss++[s])=cnts ss + cnt s:=by rw [Ke];simp [cnts]
  refine ⟨ss++[s],S3,_,by rw [GZ,GZ,List.map_append];rfl,by simp at hlen ⊢;lia,NV λy hy=>?_,?_,.inr ⟨by simp;lia,?_⟩,?_,R.deck,hkp.trans R.kp,by rw [ec];simp only [List.length_append,List.length_cons,List.length_nil];exact_mod_cast ftb,rfl⟩
  ·rcases List.mem_append.mp hy with h | h
   ·exact Db hw y h
   ·rw [List.mem_singleton] at h;subst h;exact R.w
  ·have:shDep (ss++[s])<=(deep - 1).toNat:=K0 λy hy=>by
    rcases List.mem_append.mp hy with h | h
    ·have:=Ga h;lia
    ·rw [List.mem_singleton] at h;subst h;lia
   lia
  ·rw [ec];simp;lia
  ·have:=R.lft;rw [ec,show x - 1 - ((cnts ss + cnt s:Nat):Int)=x - 1 - cnts ss - cnt s by lia];exact this
 ·rintro acc t ⟨ss,S',e0,rfl,hlen,hw,hdp',hT,hlf,hdk,hkp,htb,rfl⟩;have hl1:(ss.length:Int)=1 + i:=by simpa using hlen
  have hne:ss≠[]:=λz=>by subst z;simp at hl1;lia
  refine ⟨ss,rfl,hne,by lia,hw,hdp',?_,hlf,hdk,hkp,htb⟩;rcases hT with ⟨h1,h2⟩ | ⟨h1,h2⟩
  ·lia
  ·exact h2
 rintro ys t' ⟨ss,hys,hne,hln,hw,hdp',hT,hlf,hdk,hkp,htb⟩;rw [List.nil_append] at hys;subst hys;have hpos:1<=ss.length:=List.length_pos_iff.mpr hne;refine Cb (by rw [Eu,hL];lia) ?_;right;have f3:=sl3 ss.length (by lia) (by lia);refine ⟨.choice ss,by rw [Sh.d],⟨?_,by rw [Sh.depth];lia,?_,λh=>absurd h (by lia),by rw [cnt];lia,hdk,kp1.trans (k2.toL.trans hkp),?_⟩⟩
 ·simp only [wf,Bool.and_eq_true,decide_eq_true_eq];exact ⟨⟨hpos,by lia⟩,hw⟩
 ·rw [cnt,show x - ((cnts ss + 1:Nat):Int)=x - 1 - cnts ss by lia];exact hlf
 ·have t3:=Kk (deep:=deep) (x:=x) (m:=ss.length) hdp (by lia) (by lia) (by lia);rw [cnt];lia
def signs94:Str:=" !\"#$&'()*+,-./0123456789:;<=>?@ABCDEFGHIJKLMNOPQRSTUVWXYZ[\\]^_`abcdefghijklmnopqrstuvwxyz{|}~"
theorem OZ (h0:0<=i)(h1:i < 94):∃n,atI signs94.cps.toList i=some n/\BZ n=true:=by
 have hl:signs94.cps.toList.length=94:=by decide +kernel
 have ha:signs94.cps.toList.all BZ=true:=by decide +kernel
 obtain ⟨n,e,m,_⟩:=HJ (xs:=signs94.cps.toList) h0 (by rw [hl];exact h1);exact ⟨n,e,List.all_eq_true.mp ha n m⟩
structure Sep (ks:List (Nat×Nat)):Prop where
 sep:∀p∈ks,∀q∈ks,p=q\/(q.1≠p.1/\q.1≠p.2/\q.2≠p.1/\q.2≠p.2)
variable {t:T}{P:D->T->Prop}
theorem PF {j l:Int}(h:P (.int (min3I i j l)) t):W (Hs [.int i,.int j,.int l]) t P:=⟨_,_,rfl,h⟩
theorem Uf {ns:List Int}(e:Fb ds=some ns)(e2:ns.max?=some m)(h:P (.int m) t):W (Hr [.lst ds]) t P:=
 ⟨_,_,by simp only [Hr,e,e2],h⟩
def Fj (f:Fn):Prop:=∀(k c:Nat) (S:List Ob),DeckAt k c S->Wf f [.obj k] S λr S'=>(∃n,r = .str ⟨#[n]⟩/\BZ n=true)/\DeckAt k c S'/\Keep k c S S'
theorem K3 (hd:DrawOk cd):Fj (fnOf 1 2 (DO cd)):=by
 intro k c S d;refine Bl rfl ?_;unfold DO;right;refine hd.use 94 d (λi S1 i0 i1 d1 k1=>?_);obtain ⟨n,en,hn⟩:=OZ i0 i1;refine W_ix_str.mpr ⟨by decide +kernel,n,en,?_⟩;exact ⟨⟨n,rfl,hn⟩,d1,k1⟩
mutual
noncomputable def dpt:D->Nat
 | .lst ds=>N8 ds + 1
 | .tup ds=>N8 ds + 1
 | _=>1
noncomputable def N8:List D->Nat
 | []=>0
 | d :: r=>max (dpt d) (N8 r)
end
mutual
noncomputable def smD:D->Bool
 | .str x=>decide (x.length<=300)
 | .int i=>decide (-1000000000000000000000000 < i) && decide (i < 1000000000000000000000000)
 | .tup xs=>decide (xs.length<=300) && sms xs
 | .lst xs=>decide (xs.length<=300) && sms xs
 | .obj _=>false
 | .scr _=>false
 | .ty _=>false
 | .exc _ _=>false
 | _=>true
noncomputable def sms:List D->Bool
 | []=>true
 | d :: r=>smD d && sms r
end
theorem IB {d:D}{g:Bool->Bool}(h0:Kr d=false)(h:eqN EQD d d=some true)(p:P (.bl (g true)) t):W (eqS g d d) t P:=⟨_,_,by simp [eqS,h0,h],p⟩
def Gi (f:Fn)(n:Nat):Prop:=∀s:Sh,s.depth<=n->wf s=true->∀S,Wf f [s.d] S λr S'=>(∃i:Int,r = .int i/\1<=i/\i<=cnt s)/\S'=S
theorem Hk:∀ns:List Int,Fb (ns.map .int)=some ns
 | []=>rfl
 | n :: r=>by rw [List.map_cons,Fb,Hk r];rfl
theorem KZ:∀{ss:List Sh} {d:D},d∈shD ss->∃s∈ss,d=s.d
 | s :: r,d,h=>by
   rw [shD] at h;rcases List.mem_cons.mp h with rfl | h
   ·exact ⟨s,List.mem_cons_self,rfl⟩
   ·obtain ⟨s',h1,h2⟩:=KZ h;exact ⟨s',List.mem_cons_of_mem _ h1,h2⟩
theorem D3:∀{ss:List Sh} {s:Sh},s∈ss->cnt s<=cnts ss
 | x :: r,s,m=>by
   rw [cnts];rcases List.mem_cons.mp m with rfl | m
   ·lia
   ·have:=D3 m;lia
theorem N5 (hc:n=0\/Gi c n):Gi (fnOf 1 1 (Dm c)) (n + 1):=by
 intro s hs hw S;have hL:LIM=100000:=rfl;refine Bl rfl ?_;unfold Dm;have rec_:∀{s':Sh} {S:List Ob},s'.depth<=n->wf s'=true->Wf c [s'.d] S λr S'=>(∃i:Int,r = .int i/\1<=i/\i<=cnt s')/\S'=S:=λ{s' S} h1 h2=>by
  rcases hc with rfl | hc
  ·exact absurd s'.depth_pos (by lia)
  ·exact hc s' h1 h2 S
 cases s with
 | nothing=>rw [Sh.d];right;exact ⟨⟨_,rfl,by decide,by simp [cnt]⟩,rfl⟩
 | number lo hi=>rw [Sh.d];right;exact ⟨⟨_,rfl,by decide,by simp [cnt]⟩,rfl⟩
 | text m=>rw [Sh.d];right;exact ⟨⟨_,rfl,by decide,by simp [cnt]⟩,rfl⟩
 | list s m=>
   rw [Sh.depth] at hs;simp only [wf,Bool.and_eq_true] at hw;rw [Sh.d];right;refine (rec_ (by lia) hw.2).mono λr S' z9=>?_;obtain ⟨⟨i,e,hi,hi'⟩,e2⟩:=z9;subst e e2;right;exact ⟨⟨_,rfl,by lia,by rw [cnt];lia⟩,rfl⟩
 | pair s r=>
   rw [Sh.depth] at hs;simp only [wf,Bool.and_eq_true] at hw;rw [Sh.d];right;refine (rec_ (by lia) hw.1).mono λr1 S' z9=>?_;obtain ⟨⟨i,e,hi,hi'⟩,e2⟩:=z9;subst e e2;right;refine (rec_ (by lia) hw.2).mono λr2 S' z9=>?_;obtain ⟨⟨j,e,hj,hj'⟩,e2⟩:=z9;subst e e2;right;exact ⟨⟨_,rfl,by lia,by rw [cnt];lia⟩,rfl⟩
 | choice ss=>
   rw [Sh.depth] at hs;simp only [wf,Bool.and_eq_true,decide_eq_true_eq] at hw;rw [Sh.d];right;have hl:=Eu ss;refine (Ex (P:=λxs t'=>∃ns:List Int,xs=ns.map .int/\(∀m∈ns,1<=m/\m<=cnts ss)/\ns.length=ss.length/\t'.S=S) (λacc r t=>∃(ns:List Int) (z:Option Sl),acc=ns.map .int/\(∀m∈ns,1<=m/\m<=cnts ss)/\ns.length + r.length=ss.length/\t=⟨[z],S⟩) (shD ss) [] _ ⟨[],_,rfl,(by simp),(by simpa using hl),rfl⟩ ?_ ?_).mono ?_
   ·rintro acc d r t ⟨ns,z,rfl,h1,h2,rfl⟩ hm;refine Gf (G3 ?_);rw [if_pos rfl];obtain ⟨s',m',rfl⟩:=KZ hm;right;refine (rec_ (Nat.le_trans (Ga m') (by lia)) (Db hw.2 _ m')).mono λr1 S' z9=>?_;obtain ⟨⟨i,e,hi,hi'⟩,e2⟩:=z9;subst e e2;refine ⟨ns++[i],_,by rw [List.map_append];rfl,?_,by simp only [List.length_append,List.length_cons,List.length_nil] at h2 ⊢;lia,rfl⟩;intro m hm;rcases List.mem_append.mp hm with h | h
    ·exact h1 m h
    ·rw [List.mem_singleton] at h;have:=D3 m';lia
   ·rintro acc t ⟨ns,z,rfl,h1,h2,rfl⟩;exact ⟨ns,rfl,h1,by simpa using h2,rfl⟩
   ·rintro xs t' ⟨ns,e,h1,h2,h3⟩;rw [List.nil_append] at e;subst e;refine Cb (by rw [List.length_map,hL];lia) ?_;right
    cases em:ns.max? with
    | none=>rw [List.max?_eq_none_iff] at em;subst em;simp at h2;lia
    | some M=>
      refine Uf (Hk ns) em ?_;right;have:=h1 M (List.max?_eq_some_iff.mp em).1;exact ⟨⟨_,rfl,by lia,by rw [cnt];lia⟩,h3⟩
variable {f:M D}
theorem T9 {g:M (List D)}(h:W f t λo t1=>W g t1 λas t2=>∃z ds ys,o = .str z/\as=[.lst ds]/\EL ds=some ys/\(z.length<=8/\ys.length<=1048576)/\P (.str (Txt.join z ys)) t2):W (joinM f g) t P:=by
 refine FE (h.mono λo t1 h1=>FE (h1.mono λas t2 h2=>?_));obtain ⟨z,ds,ys,rfl,rfl,e,hl,p⟩:=h2;refine ⟨_,_,?_,p⟩;simp only [e];rw [if_pos hl]
theorem Gc:∀ns:List Nat,EL (ns.map λn=>D.str ⟨#[n]⟩)=some (ns.map λn=>(⟨#[n]⟩:Str))
 | []=>rfl
 | n :: r=>by
   rw [List.map_cons,EL,if_pos (Nat.le_of_ble_eq_true rfl),Gc r];rfl
theorem Hj:∀(ns:List Nat) (acc:Array Nat),((ns.map λn=>(⟨#[n]⟩:Str)).foldl (λacc p=>acc++(Str.ofString "").cps++p.cps) acc).toList=acc.toList++ns
 | [],acc=>by simp
 | n :: r,acc=>by
   have e:(Str.ofString "").cps=#[]:=by decide +kernel
   rw [List.map_cons,List.foldl_cons,Hj r,e];simp
theorem Ho (ns:List Nat):(Txt.join (Str.ofString "") (ns.map λn=>(⟨#[n]⟩:Str))).cps.toList=ns:=by
 show (List.foldl (λ(acc:Array Nat) (p:Str)=>acc++(Str.ofString "").cps++p.cps) (((ns.map λn=>(⟨#[n]⟩:Str)).headD Str.empty).cps) ((ns.map λn=>(⟨#[n]⟩:Str)).drop 1)).toList=ns
 cases ns with
 | nil=>rfl
 | cons n r=>
   rw [List.map_cons,List.drop_one,List.tail_cons,Hj];rfl
structure ValueRes (k c l:Nat)(S:List Ob)(s:Sh)(r:D)(S':List Ob):Prop where
 fit:A4 s r=true
 lft:∃a b:Int,S'[l]?=some (.lst [.int a,.int b])
 deck:DeckAt k c S'
 kp:KeepL k c l S S'
theorem DeckAt.setO {c:Nat}(d:DeckAt k c S)(h1:l≠k)(h2:l≠c):DeckAt k c (S.set l o):=by
 obtain ⟨ne,cells,par,pos,e1,e2,r⟩:=d;exact ⟨ne,cells,par,pos,by rw [List.getElem?_set_ne h1];exact e1,by rw [List.getElem?_set_ne h2];exact e2,r⟩
theorem KeepL.setO {c:Nat}:KeepL k c l S (S.set l o):=⟨by simp,λj _ _ h=>List.getElem?_set_ne (Ne.symm h)⟩
theorem Keep.at {c:Nat}{o:Option Ob}(a:Keep k c S S')(h1:l≠k)(h2:l≠c)(e:S[l]?=o):S'[l]?=o:=(a.2 l h1 h2).trans e
theorem T2 (h:P (.int (Builtin.Int.intBits i:Nat)) t):W (JF (.int i)) t P:=⟨_,_,rfl,h⟩
theorem Vu {j:Int}(h0:0<=j)(h:P (.int (i / 2 ^ j.toNat)) t):W (MI (.int i) (.int j)) t P:=⟨_,_,by simp [MI,i2C,h0],h⟩
variable {t1:T}
theorem Ve {i:Nat}{d:D}{A:List D->Prop}(e:t1.env[i]?=some (some (.own xs)))(l:xs.length < LIM)(w:A (d :: xs)):∃xs,t1.env[i]?=some (some (.own xs))/\∃ys,HV xs [.int 0,d]=some ys/\A ys:=
 ⟨xs,e,d :: xs,by simp [HV,l],w⟩
theorem GI {f:M Bool}{b:M Out}{P:Out->T->Prop}(I:Nat->T->Prop)(turn:∀n t,I n t->W f t λk t1=>match k with
 | true=>∃m,n=m + 1/\W b t1 λo t2=>match o with
   | .next=>I m t2
   | .cont=>I m t2
   | .brk=>P .next t2
   | .ret x=>P (.ret x) t2
 | false=>P .next t1):∀(fuel n:Nat) (t:T),n < fuel->I n t->W (CN f b fuel) t P
 | 0,n,t,h,_=>absurd h (Nat.not_lt_zero _)
 | fuel + 1,n,t,h,i=>by
   obtain ⟨k,t1,e1,p⟩:=turn n t i
   cases k with
   | false=>exact ⟨_,_,by simp only [CN,e1],p⟩
   | true=>
     obtain ⟨m,rfl,o,t2,e2,p⟩:=p
     cases o with
     | next=>obtain ⟨o,t',e',p⟩:=GI I turn fuel m t2 (by lia) p;exact ⟨o,t',by simp only [CN,e1,e2];exact e',p⟩
     | cont=>obtain ⟨o,t',e',p⟩:=GI I turn fuel m t2 (by lia) p;exact ⟨o,t',by simp only [CN,e1,e2];exact e',p⟩
     | brk=>exact ⟨_,_,by simp only [CN,e1,e2],p⟩
     | ret x=>exact ⟨_,_,by simp only [CN,e1,e2],p⟩
noncomputable def wid (n:Nat):Nat:=if n=0 then 0 else n.log2 / 8 + 1
theorem Np (h:2<=n):n.log2=(n / 2).log2 + 1:=by rw [Nat.log2_def,if_pos h]
theorem On (h:n < 2):n.log2=0:=by rw [Nat.log2_def,if_neg (by lia)]
theorem Kw:∀(k:Nat) {n:Nat},2 ^ k<=n->n.log2=(n / 2 ^ k).log2 + k
 | 0,n,_=>by rw [Nat.pow_zero,Nat.div_one,Nat.add_zero]
 | k + 1,n,h=>by
   have h2:2 ^ k * 2<=n:=by rw [<-Nat.pow_succ];exact h
   have h3:2<=n / 2 ^ k:=(Nat.le_div_iff_mul_le (Nat.pow_pos (by decide))).mpr (by rw [Nat.mul_comm];exact h2);rw [Kw k (Nat.le_trans (Nat.le_mul_of_pos_right _ (by decide)) h2),Np h3,Nat.div_div_eq_div_mul,<-Nat.pow_succ,Nat.add_assoc,Nat.add_comm 1 k]
theorem Ol (h:256<=n):n.log2=(n / 256).log2 + 8:=Kw 8 h
theorem Om (h:n < 256):n.log2 < 8:=by
 by_cases z:n=0
 ·subst z;rw [On (by lia)];lia
 ·exact (Nat.log2_lt z).mpr h
theorem EQ (h:0 < n):wid n=wid (n / 256) + 1:=by
 unfold wid;rw [if_neg (by lia)]
 by_cases z:n < 256
 ·have:=Om z;rw [if_pos (by lia)];lia
 ·rw [if_neg (by lia),Ol (by lia)];lia
theorem Gg:∀(k n:Nat),n < 256 ^ k->wid n<=k
 | 0,n,h=>by
   have:n=0:=by simpa using h
   subst this;decide
 | k + 1,n,h=>by
   by_cases z:n=0
   ·subst z;exact Nat.zero_le _
   ·rw [EQ (by lia)];have:=Gg k (n / 256) (Nat.div_lt_of_lt_mul (by rw [Nat.pow_succ] at h;lia));lia
theorem N3 (n:Nat):((Builtin.Int.intBits (n:Int):Nat) + 7) / 8=wid n:=by
 unfold Builtin.Int.intBits wid
 by_cases z:n=0
 ·subst z;rfl
 ·have:((n:Int) == 0)=false:=by simp;exact z
  rw [this,if_neg (by simp),if_neg z,Int.natAbs_natCast];lia
noncomputable def nb:Nat->Nat->List D
 | 0,_=>[]
 | w + 1,n=>nb w (n / 256)++[.int ((n % 256:Nat):Int)]
theorem Ht:∀w n,(nb w n).length=w
 | 0,n=>rfl
 | w + 1,n=>by rw [nb,List.length_append,Ht];rfl
mutual
def Bm:Sh->D->List D
 | .nothing,_=>[]
 | .number lo hi,d=>match d with
   | .int i=>nb (wid (hi - lo).toNat) (i - lo).toNat
   | _=>[]
 | .text _,d=>match d with
   | .str x=>.int (x.length:Nat) :: x.cps.toList.map λn=>D.int (n:Nat)
   | _=>[]
 | .list s _,d=>match d with
   | .lst ds=>.int (ds.length:Nat) :: (ds.map λd=>Bm s d).flatten
   | _=>[]
 | .pair s r,d=>match d with
   | .tup [a,b]=>Bm s a++Bm r b
   | _=>[]
 | .choice ss,d=>match d with
   | .tup [_,.int k,x]=>.int k :: G9 ss k.toNat x
   | _=>[]
def G9:List Sh->Nat->D->List D
 | [],_,_=>[]
 | s :: _,0,d=>Bm s d
 | _ :: r,k + 1,d=>G9 r k d
end
theorem D5:∀(ss:List Sh) (k:Nat) (s:Sh) (d:D),ss[k]?=some s->G9 ss k d=Bm s d
 | [],k,s,d,h=>by simp at h
 | s :: r,0,s',d,h=>by simp at h;subst h;simp [G9]
 | s :: r,k + 1,s',d,h=>by rw [G9];exact D5 r k s' d (by simpa using h)
def Gh (f:Fn)(n:Nat):Prop:=∀(s:Sh),s.depth<=n->wf s=true->∀d,A4 s d=true->(Bm s d).length<=LIM->Pure1 f [s.d,d] (.lst (Bm s d))
def G4 (f:Fn):Prop:=∀(n j:Nat),j<=1000->Pure1 f [.int n,.int j] (.int ((n / 2 ^ (8 * j):Nat):Int))
theorem Qd:G4 (fnOf 2 2 EW):=by
 intro n j hj S;refine Bl rfl ?_;unfold EW;right;refine Dr (Fc (by decide) (by decide)) ?_;refine Vu (by lia) ?_;refine ⟨?_,rfl⟩;have:(8 * (j:Int)).toNat=8 * j:=by lia
 rw [this];simp
def Fl (f:Fn):Prop:=∀n:Nat,n < 256 ^ 9->Pure1 f [.int n] (.int (wid n:Nat))
theorem Pd:Fl (fnOf 1 1 Dp):=by
 intro n _ S;refine Bl rfl ?_;unfold Dp;right;refine T2 ?_;right;refine ⟨?_,rfl⟩;rw [<-N3];simp
theorem Qf:Fl (fnOf 1 2 DM):=by
 intro n hb S;have hn:wid n < JE:=Nat.lt_of_le_of_lt (Gg 9 n hb) (by decide);refine Bl rfl ?_;unfold DM;right;refine GI (λk t=>∃m:Nat,k=wid m/\t=⟨[some (.val (.int m)),some (.val (.int ((wid n - wid m:Nat):Int)))],S⟩/\wid m<=wid n) ?_ JE (wid n) _ hn ⟨n,rfl,by rw [Nat.sub_self];rfl,Nat.le_refl _⟩;rintro k t ⟨m,rfl,rfl,hm⟩;right
 by_cases z:0 < m
 ·rw [decide_eq_true (by lia:(0:Int) < m)];refine ⟨_,EQ z,?_⟩;have:=EQ z;right;refine ⟨m / 256,rfl,?_,by lia⟩;have e:((wid n - wid (m / 256):Nat):Int)=((wid n - wid m:Nat):Int) + 1:=by lia
  rw [e];rfl
 ·have:m=0:=by lia
  subst this;rw [decide_eq_false (by lia)];right;exact ⟨by simp [wid],rfl⟩
theorem LZ {lo hi:Int}(h:wf (.number lo hi)=true):(hi - lo).toNat < 256 ^ 9:=by
 simp only [wf,Bool.and_eq_true,decide_eq_true_eq] at h;have:(256:Nat) ^ 9=4722366482869645213696:=by decide
 lia
theorem M7 (x:Str):(x.cps.toList.map λc=>D.str ⟨#[c]⟩).map (λd=>match d with | .str y=>D.int (y.cps.getD 0 0:Nat) | _=>d)=x.cps.toList.map λn=>D.int (n:Nat):=by
 rw [List.map_map];refine List.map_congr_left λn _=>?_;rfl
theorem No {cm:Fn}(hc:Gh c n)(hm:Fl cm):Gh (fnOf 2 6 (Dl c cm)) (n + 1):=by
 intro s hs hwf d hf hlen S;have hL:LIM=100000:=rfl;refine Bl rfl ?_;unfold Dl
 cases s with
 | nothing=>
   rw [Sh.d];right;exact ⟨by rw [Bm],rfl⟩
 | number lo hi=>
   have hsp:=LZ hwf;have hwd:=Gg 9 _ hsp;simp only [wf,Bool.and_eq_true,decide_eq_true_eq] at hwf
   cases d <;> simp [A4] at hf
   rename_i i;rw [Sh.d];have e1:hi - lo=(((hi - lo).toNat:Nat):Int):=by lia
   have e2:i - lo=(((i - lo).toNat:Nat):Int):=by lia
   right;rw [e1,e2];refine (hm _ hsp).use ?_;right;refine EO (Cl (by lia) (by lia)) ?_;refine Ej (λr t=>∃(z:Option Sl) (m:Nat) (acc:List D),t=⟨[some (.val (.tup [.str "number",.int lo,.int hi])),some (.val (.int i)),some (.val (.int m)),some (.own acc),z,none],S⟩/\nb r.length m++acc=nb (wid (hi - lo).toNat) (i - lo).toNat) _ _ ⟨_,_,_,rfl,by simp [B1]⟩ ?_ ?_
   ·rintro d r t ⟨z,m,acc,rfl,hacc⟩ _;rw [List.length_cons,nb,List.append_assoc] at hacc;have hl:acc.length < LIM:=by
     have:=congrArg List.length hacc;simp only [List.length_append,List.length_cons,List.length_nil,Ht] at this;lia
    right;refine Ve rfl hl ?_;right;exact ⟨_,m / 256,_,rfl,hacc⟩
   ·rintro t ⟨z,m,acc,rfl,hacc⟩;rw [List.length_nil,nb,List.nil_append] at hacc;right;exact ⟨by rw [hacc,Bm],rfl⟩
 | text q=>
   simp only [wf,Bool.and_eq_true,decide_eq_true_eq] at hwf
   cases d <;> simp [A4] at hf
   rename_i x;rw [Sh.d];right;refine Ub (by rw [hL];lia) ?_;right;refine (MY (f:=λd=>match d with | .str y=>D.int (y.cps.getD 0 0:Nat) | _=>d) (fr:=[]) ?_).mono ?_
   ·intro d m;obtain ⟨k,hk,rfl⟩:=List.mem_map.mp m;right;refine Vr rfl ?_;exact ⟨rfl,rfl⟩
   ·rintro xs t' ⟨rfl,hS⟩;rw [M7];have hl:x.cps.toList.length<=250:=by rw [<-FX];lia
    refine Cb (by rw [List.length_map,hL];lia) ?_;right;refine Cb (by simp only [List.length_map,List.length_cons,List.length_nil,hL];lia) ?_;right;exact ⟨by rw [Bm];rfl,hS⟩
 | list s q=>
   simp only [wf,Bool.and_eq_true,decide_eq_true_eq] at hwf;rw [Sh.depth] at hs
   cases d <;> simp only [A4,Bool.false_eq_true] at hf
   rename_i ds;rw [Bool.and_eq_true,decide_eq_true_eq,List.all_eq_true] at hf;rw [Bm] at hlen ⊢;rw [Sh.d];right;refine Ej (λr t=>∃(z:Option Sl) (acc:List D),t=⟨[some (.val (.tup [.str "list",s.d,.int q])),some (.val (.lst ds)),none,some (.own acc),none,z],S⟩/\acc++(r.map λd=>Bm s d).flatten = .int (ds.length:Nat) :: (ds.map λd=>Bm s d).flatten) _ _ ⟨_,_,rfl,rfl⟩ ?_ ?_
   ·rintro d r t ⟨z,acc,rfl,hacc⟩ m;rw [List.map_cons,List.flatten_cons,<-List.append_assoc] at hacc;have hl:acc.length + (Bm s d).length<=LIM:=by
     have:=congrArg List.length hacc;rw [List.length_append,List.length_append] at this;lia
    right;refine (hc s (by lia) hwf.2 d (hf.2 d m) (by lia)).use ?_;right;refine Cb hl ?_;exact ⟨_,_,rfl,hacc⟩
   ·rintro t ⟨z,acc,rfl,hacc⟩;rw [List.map_nil,List.flatten_nil,List.append_nil] at hacc;right;exact ⟨by rw [hacc],rfl⟩
 | pair s r=>
   simp only [wf,Bool.and_eq_true] at hwf;rw [Sh.depth] at hs;unfold A4 at hf
   split at hf
   case h_2=>cases hf
   case h_1 a b=>
    rw [Bool.and_eq_true] at hf;rw [Bm] at hlen ⊢;rw [List.length_append] at hlen;rw [Sh.d];right;refine (hc s (by lia) hwf.1 a hf.1 (by lia)).use ?_;right;refine (hc r (by lia) hwf.2 b hf.2 (by lia)).use ?_;right;refine Cb (by lia) ?_;right;exact ⟨rfl,rfl⟩
 | choice ss=>
   simp only [wf,Bool.and_eq_true,decide_eq_true_eq] at hwf;rw [Sh.depth] at hs;unfold A4 at hf
   split at hf
   case h_2=>cases hf
   case h_1 o k x=>
    simp only [Bool.and_eq_true,decide_eq_true_eq] at hf;obtain ⟨⟨ho,k0,k1⟩,hf⟩:=hf;have hk:k.toNat < ss.length:=by lia
    have e1:ss[k.toNat]?=some ss[k.toNat]:=List.getElem?_eq_getElem hk;have hl:=Eu ss;have e2:atI (shD ss) k=some (ss[k.toNat]).d:=by
     unfold atI;rw [HX k0 (by lia)];show (shD ss)[k.toNat]?=_;rw [Gy,e1];rfl
    rw [DA ss _ _ _ e1] at hf;rw [Bm] at hlen ⊢;rw [D5 ss _ _ _ e1] at hlen ⊢;rw [List.length_cons] at hlen;rw [Sh.d];right;refine IC e2 ?_;right;refine (hc _ (Nat.le_trans (CB ss _ _ e1) (by lia)) (Db hwf.2 _ (List.getElem_mem hk)) x hf (by lia)).use ?_;right;refine Cb (by simp only [List.length_cons,List.length_nil];lia) ?_;right;exact ⟨rfl,rfl⟩
theorem EI (a:Int)(n:Nat):(B1 a n).length=n:=by simp [B1]
theorem Io {a:Int}{j:Nat}{d:D}{r:List D}(e:d :: r=(B1 a n).drop j):d = .int (a + j)/\r=(B1 a n).drop (j + 1)/\j < n:=by
 have hj:j < (B1 a n).length:=by
  rcases Nat.lt_or_ge j (B1 a n).length with h | h
  ·exact h
  ·rw [List.drop_eq_nil_of_le h] at e;cases e
 rw [List.drop_eq_getElem_cons hj] at e;injection e with e1 e2
 rw [EI] at hj;refine ⟨?_,e2,hj⟩;rw [e1];simp [B1]
noncomputable def sgs:Str:=" !\"#$ &'()*+,-./0123456789:;<=>?@ABCDEFGHIJKLMNOPQRSTUVWXYZ[\\]^_`abcdefghijklmnopqrstuvwxyz{|}~"
theorem SE {c:Nat}(h:BZ c=true):atI sgs.cps.toList ((c:Int) - 32)=some c:=by
 have hl:sgs.cps.toList.length=95:=by decide +kernel
 have hall:(List.range 127).all (λc=>!BZ c || decide (sgs.cps.toList[c - 32]?=some c))=true:=by decide +kernel
 have h':=h;simp only [BZ,Bool.and_eq_true,decide_eq_true_eq] at h';have:=List.all_eq_true.mp hall c (List.mem_range.mpr (by lia));rw [h,Bool.not_true,Bool.false_or,decide_eq_true_eq] at this;rw [show ((c:Int) - 32)=((c - 32:Nat):Int) by lia];exact HI this
variable {h:D->M Out}{g:M D}
section
variable {t:T}{P:D->T->Prop}{R:Out->T->Prop}
def O2 (h:D->M Out)(R:Out->T->Prop)(o:Out)(t1:T):Prop:=match o with
 | .ret (.exc n ds)=>n∈Bw/\W (h (.exc n ds)) t1 R
 | o=>R o t1
theorem Vw {b:M Out}(w:W b t (O2 h R)):W (E3 b h) t R:=by
 obtain ⟨o,t1,e,q⟩:=w;have rest:∀d,BG d=false->o = .ret d->W (E3 b h) t R:=λd hd ho=>by
  subst ho;refine ⟨.ret d,t1,?_,?_⟩
  ·unfold E3;rw [e];cases d <;> first | rfl | cases hd
  ·cases d <;> first | exact q | cases hd
 cases o with
 | next=>exact ⟨.next,t1,by unfold E3;rw [e],q⟩
 | brk=>exact ⟨.brk,t1,by unfold E3;rw [e],q⟩
 | cont=>exact ⟨.cont,t1,by unfold E3;rw [e],q⟩
 | ret d=>
   cases d with
   | exc n ds=>
     obtain ⟨hn,o2,t2,e2,q2⟩:=q;exact ⟨o2,t2,by unfold E3;rw [e];dsimp only;rw [if_pos hn,e2],q2⟩
   | _=>exact rest _ rfl rfl
theorem NP (q:R .next t1):O2 h R .next t1:=q
theorem QT {n:Str}(e:n∈Bw)(q:W (h (.exc n ds)) t1 R):O2 h R (.ret (.exc n ds)) t1:=⟨e,q⟩
def xK (d:D)(A B:Prop):Prop:=if BG d=true then A else B
theorem Us {d:D}{A B:Prop}(e:BG d=false)(b:B):xK d A B:=by unfold xK;rw [if_neg (by rw [e];decide)];exact b
theorem Ur {d:D}{A B:Prop}(e:BG d=true)(a:A):xK d A B:=by unfold xK;rw [if_pos e];exact a
theorem Uk {i:Nat}(w:W f t λd t1=>xK d (R (.ret d) t1) (R .next ⟨t1.env.set i (some (.val d)),t1.S⟩)):W (DU i f) t R:=by
 refine FE (w.mono λd t1 q=>?_);unfold xK at q
 split at q
 ·next h=>rw [if_pos h];exact ⟨_,_,rfl,q⟩
 ·next h=>rw [if_neg h];exact ⟨_,_,rfl,q⟩
theorem wNx (w:W f t λd t1=>BG d=false/\P d t1):W (nxD f) t P:=by
 refine FE (w.mono λd t1 z9=>?_);obtain ⟨h,q⟩:=z9;rw [if_neg (by rw [h];decide)];exact ⟨_,_,rfl,q⟩
theorem T3 {h:D->M D}(w:W g t λy t1=>xK y (P y t1) (W (h y) t1 λd t2=>BG d=false/\P d t2)):W (HL g h) t P:=by
 refine FE (w.mono λy t1 q=>?_);unfold xK at q
 split at q
 ·next z=>rw [if_pos z];exact ⟨_,_,rfl,q⟩
 ·next z=>rw [if_neg z];exact wNx q
theorem T1 {h:D->D->M D}(w:W f t λx t1=>W (HL g (h x)) t1 P):W (Hc f g h) t P:=FE w
theorem Q0 {n:Str}{f:M (List D)}(w:W f t λds t1=>ds.length<=1000/\R (.ret (.exc n [])) t1):W (Hx n f) t R:=
 FE (w.mono λds t1 ⟨e,q⟩=>by rw [if_pos e];exact ⟨_,_,rfl,q⟩)
theorem Q2 {n:Str}(w:W f t λ_ t1=>R (.ret (.exc n [])) t1):W (Hx n (Ab f Ai)) t R:=Q0 (CL (w.mono λd t1 q=>EN ⟨by show 1<=1000;decide,q⟩))
theorem Vd {n n':Str}{i:Nat}{s:M Out}{r:D->M Out}(e:Dw n n'=true)(w:W s { t with env:=t.env.set i (some (.val (.exc n ds))) } λo t2=>R o (unE i t2)):W (hAs n' i s r (.exc n ds)) t R:=by
 obtain ⟨o,t2,e1,q⟩:=w;exact ⟨o,unE i t2,by unfold hAs;dsimp only;rw [if_pos e,e1],q⟩
theorem T8 {m n:Str}(e:m∈Bw)(q:P (.bl (Dw m n)) t):W (EZ n (.exc m ds)) t P:=⟨_,_,by unfold EZ;dsimp only;rw [if_pos e];rfl,q⟩
theorem T0 {m n:Str}{d:D}(e:m∈Bw)(l:((GO m).zip ds).lookup n=some d)(q:P d t):W (HK n (.exc m ds)) t P:=⟨_,_,by unfold HK;dsimp only;rw [if_pos e,l];rfl,q⟩
end
theorem Q1 {n:Str}{R:Out->T->Prop}(w:W f t λa t1=>W g t1 λb t2=>R (.ret (.exc n [a,b])) t2):W (F9 n (Ab f (Ab g Ai))) t R:=
 FE (CL (w.mono λa t1 q=>CL (q.mono λb t2 q=>EN ⟨_,_,rfl,q⟩)))
local macro_rules | `(tactic| walk_at "x1")=>`(tactic| first
 | walk_at "w1"
 | with_reducible refine Vw ?_ | with_reducible refine Uk ?_ | with_reducible refine wDropX ?_ | with_reducible refine wAsgX ?_ | with_reducible refine wNx ?_ | with_reducible refine T1 ?_ | with_reducible refine wBinY ?_ | with_reducible refine T3 ?_ | with_reducible refine wCallY ?_ | with_reducible refine NP ?_
 | ((with_reducible refine' QT ?wv ?_);(case wv=>decide)) | ((with_reducible refine' Us ?wv ?_);(case wv=>exact rfl)) | ((with_reducible refine' Ur ?wv ?_);(case wv=>exact rfl))
 | with_reducible refine wRaiseT ?_ | with_reducible refine Q2 ?_ | ((with_reducible refine' Vd ?wv ?_);(case wv=>decide)) | ((with_reducible refine' wHAsN ?wv ?_);(case wv=>decide)) | ((with_reducible refine' wHNo ?wv ?_);(case wv=>decide)) | ((with_reducible refine' wHNoN ?wv ?_);(case wv=>decide))
 | ((with_reducible refine' T8 ?wv ?_);(case wv=>decide)) | with_reducible refine wIsiXN ?_ | ((with_reducible refine' T0 ?wv ?wu ?_);(case wv=>decide);(case wu=>exact rfl)))
local macro_rules | `(tactic| left)=>`(tactic| repeat (walk_at "x1"))
inductive Rd where
 | done (v:D)
 | need (ok:Nat->Bool) (nx:Nat->Rd)
inductive RR where
 | told (v:D) (a:Nat)
 | short
 | broken (a:Nat)
noncomputable def Rd.run:Rd->List Nat->Nat->RR
 | .done v,_,a=>.told v a
 | .need ok nx,w,a=>match w[a]? with
   | none=>.short
   | some b=>if ok b=true then (nx b).run w (a + 1) else .broken a
noncomputable def Rd.bnd:Rd->(D->Rd)->Rd
 | .done v,k=>k v
 | .need ok nx,k=>.need ok λb=>(nx b).bnd k
def RR.thn (r:RR)(w:List Nat)(k:D->Rd):RR:=match r with
 | .told v a=>(k v).run w a
 | .short=>.short
 | .broken a=>.broken a
variable {w:List Nat}{a:Nat}
theorem BQ {ok:Nat->Bool}{nx:Nat->Rd}(h:w[a]?=none):(Rd.need ok nx).run w a = .short:=by rw [Rd.run,h]
variable {b:Nat}
theorem BA {ok:Nat->Bool}{nx:Nat->Rd}(h:w[a]?=some b):(Rd.need ok nx).run w a=if ok b=true then (nx b).run w (a + 1) else .broken a:=by rw [Rd.run,h]
theorem DC (k:D->Rd)(w:List Nat):∀(p:Rd) (a:Nat),(p.bnd k).run w a=(p.run w a).thn w k:=by
 intro p
 induction p with
 | done v=>intro a;rfl
 | need ok nx ih=>
   intro a;rw [Rd.bnd]
   cases h:w[a]? with
   | none=>rw [BQ h,BQ h];rfl
   | some b=>
     rw [BA h,BA h]
     by_cases q:ok b=true
     ·rw [if_pos q,if_pos q];exact ih b (a + 1)
     ·rw [if_neg q,if_neg q];rfl
variable {v:D}
theorem L3:∀(p:Rd) (a:Nat),a<=w.length->p.run w a = .told v b->a<=b/\b<=w.length:=by
 intro p
 induction p with
 | done v'=>intro a ha h;cases h;exact ⟨Nat.le_refl _,ha⟩
 | need ok nx ih=>
   intro a ha h
   cases e:w[a]? with
   | none=>rw [BQ e] at h;cases h
   | some c=>
     rw [BA e] at h;have hl:=(List.getElem?_eq_some_iff.mp e).1
     by_cases q:ok c=true
     ·rw [if_pos q] at h;have:=ih c (a + 1) hl h;lia
     ·rw [if_neg q] at h;cases h
noncomputable def DY (lo:Int)(M:Nat):Nat->Nat->Rd
 | 0,x=>.done (.int (lo + x))
 | r + 1,x=>.need (λb=>decide (x * 256 + b<=M / 2 ^ (8 * r))) λb=>DY lo M r (x * 256 + b)
def EG:Nat->List Nat->Rd
 | 0,cs=>.done (.str ⟨cs.toArray⟩)
 | n + 1,cs=>.need BZ λc=>EG n (cs++[c])
def Fy (p:Rd):Nat->List D->Rd
 | 0,ds=>.done (.lst ds)
 | n + 1,ds=>p.bnd λv=>Fy p n (ds++[v])
def pSh:Nat->Sh->Rd
 | 0,_=>.done .non
 | _ + 1,.nothing=>.done .non
 | _ + 1,.number lo hi=>DY lo (hi - lo).toNat (wid (hi - lo).toNat) 0
 | _ + 1,.text q=>.need (λb=>decide ((b:Int)<=q)) λb=>EG b []
 | n + 1,.list s q=>.need (λb=>decide ((b:Int)<=q)) λb=>Fy (pSh n s) b []
 | n + 1,.pair s r=>(pSh n s).bnd λv=>(pSh n r).bnd λu=>.done (.tup [v,u])
 | n + 1,.choice ss=>.need (λb=>decide (b < ss.length)) λb=>(pSh n (ss.getD b .nothing)).bnd λv=>.done (.tup [.str "of",.int b,v])
mutual
noncomputable def plD:D->Bool
 | .lst xs=>pls xs
 | .tup xs=>pls xs
 | .obj _=>false
 | .scr _=>false
 | .ty _=>false
 | .exc _ _=>false
 | .dic=>false
 | _=>true
noncomputable def pls:List D->Bool
 | []=>true
 | d :: r=>plD d && pls r
end
theorem N7 {k:Int}(h0:0<=k)(h1:k<=xs.length):BU xs none (some k)=xs.take k.toNat:=by
 have:HT.sIx xs.length xs.length (some k)=k.toNat:=by simp only [HT.sIx];rw [if_neg (by lia)];lia
 unfold BU;rw [this];simp [HT.sIx]
noncomputable def pos (i:Int):Int:=if 0 < i then i else 0
theorem Rk {K A B x1 x2 c1 c2:Int}(hK:1<=K)(hA:0<=A)(hc:0<=c1)(h0:0<=x1)(hB:B<=pos (A - x1))(h1:x1<=c1 + K * A)(h2:x2<=c2 + K * B):x1 + x2<=c1 + c2 + K * A:=by
 have m1:K * B<=K * pos (A - x1):=Int.mul_le_mul_of_nonneg_left hB (by lia);unfold pos at m1
 split at m1
 ·have m2:1 * x1<=K * x1:=Int.mul_le_mul_of_nonneg_right hK h0;rw [Int.mul_sub] at m1;lia
 ·rw [Int.mul_zero] at m1;lia
theorem F7 (i:Int):0<=pos i:=by unfold pos;split <;> lia
theorem FA {a b:Int}(h:a<=b):pos a<=pos b:=by unfold pos;split <;> split <;> lia
theorem OE {a:Int}(h0:0<=m)(h:m=0\/2 * m<=a):pos (a - m) + m<=pos a:=by unfold pos;split <;> split <;> lia
theorem KI (a b:Int):pos a<=pos (pos b - (b - a)):=by unfold pos;(repeat' split) <;> lia
variable {a1:Int}
theorem Kv {w:Nat}{a pb pb':Int}(hw:w<=9)(ea:a1=a - 1)(h:pb'<=pb):(w:Int)<=9 * (a - a1) + (pb - pb'):=by lia
theorem GS {a:Int}(ea:a1=a - 1):1<=a - a1:=by lia
theorem GR {a L:Int}(ea:a1=a - 1)(h:0<=L):a - a1<=((1:Nat):Int) + L:=by lia
variable {q:Int}
theorem G0 {d D:Nat}{p C:Int}(hd:d + 1<=D)(hp:0<=p)(hpq:p<=q)(h:y<=C + (14 * (d:Int)) * p + 14 * p):y<=C + (14 * (D:Int)) * q:=by
 have h1:(14 * ((d:Int) + 1)) * p<=(14 * (D:Int)) * q:=Int.mul_le_mul (by lia) hpq hp (by lia);rw [Int.mul_add,Int.add_mul] at h1;lia
theorem HC {d D:Nat}{p C:Int}(hd:d<=D)(hp:0<=p)(h:y<=C + (14 * (d:Int)) * p):y<=C + (14 * (D:Int)) * p:=by
 have h1:(14 * (d:Int)) * p<=(14 * (D:Int)) * p:=Int.mul_le_mul_of_nonneg_right (by lia) hp;lia
theorem P8 {a:Int}(hi:1<=i):(if a / (2 * i) > 0 then a / (2 * i) else 0) * 2<=pos a:=by
 split
 ·next h=>
  have h1:=Int.ediv_mul_le a (b:=2 * i) (by lia);have h2:a / (2 * i) * 2<=a / (2 * i) * (2 * i):=Int.mul_le_mul_of_nonneg_left (by lia) (by lia);unfold pos
  split <;> lia
 ·have:=F7 a;lia
theorem UG:cnt .nothing=1:=by simp [cnt]
theorem UH (lo hi:Int):cnt (.number lo hi)=1:=by simp [cnt]
theorem UI (q:Int):cnt (.text q)=1:=by simp [cnt]
structure ValueRes2 (k c l:Nat)(S:List Ob)(s:Sh)(a b:Int)(r:D)(S':List Ob):Prop where
 fit:A4 s r=true
 lft:∃a' b':Int,S'[l]?=some (.lst [.int a',.int b'])/\((Bm s r).length:Int)<=9 * (a - a') + (pos b - pos b')/\pos b'<=pos b/\1<=a - a'/\a - a'<=cnt s + (14 * (s.depth:Int)) * pos a
 deck:DeckAt k c S'
 kp:KeepL k c l S S'
def Fk (f:Fn)(n:Nat):Prop:=∀(s:Sh),s.depth<=n->wf s=true->cnt s<=28->∀(k c l:Nat) (S:List Ob) (a b:Int),l≠k->l≠c->DeckAt k c S->S[l]?=some (.lst [.int a,.int b])->Wf f [.obj k,s.d,.obj l] S λr S'=>ValueRes2 k c l S s a b r S'
theorem NS {cv cc cf:Fn}(hd:DrawOk cd)(hc:Gi cc n)(hs:Fj cs)(hf:FarOk cf)(hv:n=0\/Fk cv n):Fk (fnOf 3 8 (Do cv cd cc cs cf)) (n + 1):=by
 intro s hsd hw hcn k c l S a b hlk hlc dk hx;refine Bl rfl ?_;unfold Do;have hL:LIM=100000:=rfl;have rec_:∀{s':Sh} {S:List Ob} {a b:Int},s'.depth<=n->wf s'=true->cnt s'<=28->DeckAt k c S->S[l]?=some (.lst [.int a,.int b])->Wf cv [.obj k,s'.d,.obj l] S λr S'=>ValueRes2 k c l S s' a b r S':=λ{s' S a b} h1 h2 h3 d e=>by
  rcases hv with rfl | hv
  ·exact absurd s'.depth_pos (by lia)
  ·exact hv s' h1 h2 h3 k c l S a b hlk hlc d e
 have g0:(S.set l (.lst [.int (a - 1),.int b]))[l]?=some (.lst [.int (a - 1),.int b]):=C8 hx;have kp0:KeepL k c l S (S.set l (.lst [.int (a - 1),.int b])):=.setO;have dk0:DeckAt k c (S.set l (.lst [.int (a - 1),.int b])):=dk.setO hlk hlc;refine Ld ?_;right;refine Cc hx (by rfl) ?_;right;refine FF (n:=0) hx (by rfl) ?_;refine CA ?_
 change W _ ⟨[some (.val (.obj k)),some (.val s.d),some (.val (.obj l)),none,none,none,none,none],S.set l (.lst [.int (a - 1),.int b])⟩ _
 generalize S.set l (.lst [.int (a - 1),.int b])=S0 at g0 kp0 dk0 ⊢;clear hx dk;refine Ld ?_;right;refine Cc g0 (by rfl) ?_;right;refine FF (n:=1) g0 (by rfl) ?_;refine CA ?_
 change W _ ⟨[some (.val (.obj k)),some (.val s.d),some (.val (.obj l)),none,none,none,none,none],S0.set l (.lst [.int (a - 1),.int (b - 1)])⟩ _
 have g1:(S0.set l (.lst [.int (a - 1),.int (b - 1)]))[l]?=some (.lst [.int (a - 1),.int (b - 1)]):=C8 g0;have kp1:KeepL k c l S (S0.set l (.lst [.int (a - 1),.int (b - 1)])):=kp0.trans .setO;have dk1:DeckAt k c (S0.set l (.lst [.int (a - 1),.int (b - 1)])):=dk0.setO hlk hlc;generalize S0.set l (.lst [.int (a - 1),.int (b - 1)])=S1 at g1 kp1 dk1 ⊢;clear g0 kp0 dk0;obtain ⟨a1,ea⟩:∃a1,a1=a - 1:=⟨_,rfl⟩;obtain ⟨b1,eb⟩:∃b1,b1=b - 1:=⟨_,rfl⟩;rw [<-ea,<-eb] at g1;have hpa:0<=pos a:=F7 a;have hpb1:pos b1<=pos b:=FA (by rw [eb];exact Int.sub_le_self _ (by decide));have hpa1:pos a1<=pos a:=FA (by rw [ea];exact Int.sub_le_self _ (by decide));have hpa0:=F7 a1;have leaf:∀{d:Nat},(0:Int)<=(14 * (d:Int)) * pos a:=λ{d}=>Int.mul_nonneg (by lia) hpa
 cases s with
 | nothing=>
   rw [Sh.d];right;exact ⟨by rw [A4];rfl,⟨_,_,g1,by rw [Bm];exact Kv (w:=0) (Nat.zero_le _) ea hpb1,hpb1,GS ea,by rw [UG];exact GR ea leaf⟩,dk1,kp1⟩
 | number lo hi=>
   simp only [wf,Bool.and_eq_true,decide_eq_true_eq] at hw;have hwd:wid (hi - lo).toNat<=8:=Gg 8 _ (by have:(256:Nat) ^ 8=18446744073709551616:=(by decide);lia);rw [Sh.d];right;refine Cc g1 (by rfl) ?_;right;refine FF (n:=1) g1 (by rfl) ?_;have g2:(S1.set l (.lst [.int a1,.int (b1 - 8)]))[l]?=some (.lst [.int a1,.int (b1 - 8)]):=C8 g1;have kp2:KeepL k c l S (S1.set l (.lst [.int a1,.int (b1 - 8)])):=kp1.trans .setO;have dk2:DeckAt k c (S1.set l (.lst [.int a1,.int (b1 - 8)])):=dk1.setO hlk hlc;right;refine hf.use dk2 λi S2 i0 i1 d3 k3=>?_;right;refine ID (by lia) ?_;right;refine hd.use 1000 d3 (λj S3 j0 j1 d4 k4=>?_);right;refine ID (by lia) ?_;right;refine hd.use 4 d4 (λg S4 z0 z1 d5 k5=>?_);have w1:=Int.emod_nonneg (if i < 0 then -i else i) (b:=hi - lo + 1) (by lia);have w2:=Int.emod_lt_of_pos (if i < 0 then -i else i) (b:=hi - lo + 1) (by lia);have w3:=Int.emod_nonneg j (b:=hi - lo + 1) (by lia);have w4:=Int.emod_lt_of_pos j (b:=hi - lo + 1) (by lia);obtain ⟨y,ey,m,rfl,m0,m1⟩:=F5 (xs:=[D.int 0,D.int (hi - lo),D.int ((if i < 0 then -i else i) % (hi - lo + 1)),D.int (j % (hi - lo + 1))]) z0 (by simpa using z1) (p:=λd=>∃m:Int,d = .int m/\0<=m/\m<=hi - lo) (by
    simp only [List.forall_mem_cons];exact ⟨⟨_,rfl,by lia,by lia⟩,⟨_,rfl,by lia,by lia⟩,⟨_,rfl,by lia,by lia⟩,⟨_,rfl,by lia,by lia⟩,λ_ z=>nomatch z⟩)
   refine EM ey ?_;right;refine ⟨by simp only [A4,Bool.and_eq_true,decide_eq_true_eq];lia,⟨_,_,k5.at hlk hlc (k4.at hlk hlc (k3.at hlk hlc g2)),by rw [Bm,Ht];exact Kv (Nat.le_trans hwd (by decide)) ea (Int.le_trans (FA (Int.sub_le_self _ (by decide))) hpb1),Int.le_trans (FA (Int.sub_le_self _ (by decide))) hpb1,GS ea,by rw [UH];exact GR ea leaf⟩,d5,kp2.trans (k3.toL.trans (k4.toL.trans k5.toL))⟩
 | text q=>
   simp only [wf,Bool.and_eq_true,decide_eq_true_eq] at hw;rw [Sh.d];right;refine Cc g1 (by rfl) ?_;right;refine hd.use 5 dk1 (λi S2 i0 i1 d2 k2=>?_);right;refine hd.use 4 d2 (λg S3 z0 z1 d3 k3=>?_);obtain ⟨y,ey,m,rfl,m0,m1⟩:=F5 (xs:=[D.int 0,D.int 1,D.int i,D.int 250]) z0 (by simpa using z1) (p:=λd=>∃m:Int,d = .int m/\0<=m/\m<=250) (by
    simp only [List.forall_mem_cons];exact ⟨⟨_,rfl,by lia,by lia⟩,⟨_,rfl,by lia,by lia⟩,⟨_,rfl,by lia,by lia⟩,⟨_,rfl,by lia,by lia⟩,λ_ z=>nomatch z⟩)
   refine EM ey ?_;right;refine PF ?_;have hm:(0<=min3I q (if b1 / 2 > 0 then b1 / 2 else 0) m/\min3I q (if b1 / 2 > 0 then b1 / 2 else 0) m<=q)/\(min3I q (if b1 / 2 > 0 then b1 / 2 else 0) m=0\/2 * min3I q (if b1 / 2 > 0 then b1 / 2 else 0) m<=b1):=by
    unfold min3I;refine ⟨⟨?_,?_⟩,?_⟩ <;> (repeat' split) <;> lia
   generalize min3I q (if b1 / 2 > 0 then b1 / 2 else 0) m=many at hm;right;have g3:=k3.at hlk hlc (k2.at hlk hlc g1);refine Cc g3 (by rfl) ?_;right;refine FF (n:=1) g3 (by rfl) ?_;have g4:(S3.set l (.lst [.int a1,.int (b1 - many)]))[l]?=some (.lst [.int a1,.int (b1 - many)]):=C8 g3;have kp4:KeepL k c l S (S3.set l (.lst [.int a1,.int (b1 - many)])):=kp1.trans (k2.toL.trans (k3.toL.trans .setO));have dk4:DeckAt k c (S3.set l (.lst [.int a1,.int (b1 - many)])):=d3.setO hlk hlc;refine CA ?_
   change W _ ⟨[some (.val (.obj k)),some (.val (.tup [.str "text",.int q])),some (.val (.obj l)),none,none,some (.val (.int many)),none,none],S3.set l (.lst [.int a1,.int (b1 - many)])⟩ _
   generalize S3.set l (.lst [.int a1,.int (b1 - many)])=S4 at g4 kp4 dk4 ⊢;refine Pb (T9 ?_);right;refine EO (Cl (by lia) (by lia)) ?_;refine (Ex (P:=λxs t'=>∃ns:List Nat,xs=ns.map (λn=>D.str ⟨#[n]⟩)/\ns.all BZ=true/\ns.length=many.toNat/\DeckAt k c t'.S/\Keep k c S4 t'.S) (λacc r t=>∃(ns:List Nat) (S':List Ob) (z:Option Sl),acc=ns.map (λn=>D.str ⟨#[n]⟩)/\ns.all BZ=true/\ns.length + r.length=many.toNat/\DeckAt k c S'/\Keep k c S4 S'/\t=⟨[z,some (.val (.obj k))],S'⟩) _ [] _ ⟨[],S4,_,rfl,rfl,by simp [B1],dk4,.refl,rfl⟩ ?_ ?_).mono ?_
   ·rintro acc d r t ⟨ns,S',z,rfl,h1,h2,h3,h4,rfl⟩ _;refine Gf (G3 ?_);rw [if_pos rfl];right;refine (hs k c S' h3).mono λv S5 z9=>?_;obtain ⟨⟨n1,e,hn⟩,d5,k5⟩:=z9;subst e;refine ⟨ns++[n1],S5,_,by rw [List.map_append];rfl,by simp [List.all_append,h1,hn],by simp only [List.length_append,List.length_cons,List.length_nil] at h2 ⊢;lia,d5,h4.trans k5,rfl⟩
   ·rintro acc t ⟨ns,S',z,rfl,h1,h2,h3,h4,rfl⟩;exact ⟨ns,rfl,h1,by simpa using h2,h3,h4⟩
   ·rintro xs t' ⟨ns,e,h1,h2,h3,h4⟩;rw [List.nil_append] at e;subst e;refine Cb (by rw [List.length_map,hL];lia) ?_;right;refine ⟨_,_,_,rfl,rfl,Gc ns,⟨by decide +kernel,by rw [List.length_map];lia⟩,?_⟩;have hby:((Bm (.text q) (.str (Txt.join (Str.ofString "") (ns.map λn=>(⟨#[n]⟩:Str))))).length:Int)=1 + many:=by
     rw [Bm,List.length_cons,List.length_map,Ho];lia
    have hpb:pos (b1 - many) + many<=pos b1:=OE hm.1.1 hm.2;refine ⟨?_,⟨_,_,h4.at hlk hlc g4,by rw [hby];lia,by lia,GS ea,by rw [UI];exact GR ea leaf⟩,h3,kp4.trans h4.toL⟩;rw [A4];simp only [Bool.and_eq_true,decide_eq_true_eq];rw [FX,Ho];exact ⟨by lia,h1⟩
 | list s q=>
   simp only [wf,Bool.and_eq_true,decide_eq_true_eq] at hw;rw [Sh.depth] at hsd;rw [cnt] at hcn;rw [Sh.d];right;refine Cc g1 (by rfl) ?_;right;refine (hc s (by lia) hw.2 S1).mono λr S2 z9=>?_;obtain ⟨⟨i,e,i0,i1⟩,e2⟩:=z9;subst e e2;refine Dr (Fc (by decide) (by decide)) ?_;refine O7 (by lia) (by lia) ?_;right;refine Cc g1 (by rfl) ?_;right;refine PF ?_;have hhalf:=P8 (a:=a1) i0;have hm:(0<=min3I q (if a1 / (2 * i) > 0 then a1 / (2 * i) else 0) (if b1 / 12 > 0 then b1 / 12 else 0)/\min3I q (if a1 / (2 * i) > 0 then a1 / (2 * i) else 0) (if b1 / 12 > 0 then b1 / 12 else 0)<=q)/\2 * min3I q (if a1 / (2 * i) > 0 then a1 / (2 * i) else 0) (if b1 / 12 > 0 then b1 / 12 else 0)<=pos a1:=by
    generalize a1 / (2 * i)=z1 at hhalf;generalize b1 / 12=z2;unfold min3I;refine ⟨⟨?_,?_⟩,?_⟩ <;> (repeat' split) <;> (try split at hhalf) <;> lia
   generalize min3I q (if a1 / (2 * i) > 0 then a1 / (2 * i) else 0) (if b1 / 12 > 0 then b1 / 12 else 0)=many at hm;right;refine hd.use 4 dk1 (λu S3 u0 u1 d3 k3=>?_);right;refine hd.use 4 d3 (λg S4 z0 z1 d4 k4=>?_);obtain ⟨y,ey,m,rfl,m0,m1⟩:=F5 (xs:=[D.int 0,D.int 1,D.int u,D.int 250]) z0 (by simpa using z1) (p:=λd=>∃m:Int,d = .int m/\0<=m/\m<=250) (by
    simp only [List.forall_mem_cons];exact ⟨⟨_,rfl,by lia,by lia⟩,⟨_,rfl,by lia,by lia⟩,⟨_,rfl,by lia,by lia⟩,⟨_,rfl,by lia,by lia⟩,λ_ z=>nomatch z⟩)
   refine EM ey ?_;refine EN (SZ ?_);have hm2:(0<=(if m < many then m else many)/\(if m < many then m else many)<=q)/\2 * (if m < many then m else many)<=pos a1:=by split <;> lia
   generalize (if m < many then m else many)=M at hm2 ⊢;have g4:=k4.at hlk hlc (k3.at hlk hlc g1);have kp4:=kp1.trans (k3.toL.trans k4.toL (l:=l));right;refine EO (Cl (by lia) (by lia)) ?_;refine (Ex (P:=λxs t'=>(∀x∈xs,A4 s x=true)/\xs.length=M.toNat/\(∃a b:Int,t'.S[l]?=some (.lst [.int a,.int b])/\(((xs.map λd=>Bm s d).flatten).length:Int)<=9 * (a1 - a) + (pos b1 - pos b)/\pos b<=pos b1/\0<=a1 - a/\a1 - a<=xs.length * (cnt s:Int) + (14 * (s.depth:Int)) * pos a1)/\DeckAt k c t'.S/\KeepL k c l S4 t'.S) (λacc r t=>∃(S':List Ob) (z:Option Sl) (a b:Int),(∀x∈acc,A4 s x=true)/\acc.length + r.length=M.toNat/\(S'[l]?=some (.lst [.int a,.int b])/\(((acc.map λd=>Bm s d).flatten).length:Int)<=9 * (a1 - a) + (pos b1 - pos b)/\pos b<=pos b1/\0<=a1 - a/\a1 - a<=acc.length * (cnt s:Int) + (14 * (s.depth:Int)) * pos a1)/\DeckAt k c S'/\KeepL k c l S4 S'/\t=⟨[z,some (.val (.obj k)),some (.val (.obj l)),some (.val (.tup [.str "list",s.d,.int q]))],S'⟩) _ [] _ ⟨S4,_,a1,b1,by simp,by simp [B1],⟨g4,by simp,by lia,by lia,by have:=Int.mul_nonneg (a:=14 * (s.depth:Int)) (by lia) hpa0;simp only [List.length_nil];lia⟩,d4,.refl,rfl⟩ ?_ ?_).mono ?_
   ·rintro acc d r t ⟨S',z,a,b,h1,h2,⟨h3,hb1,hb2,hb3,hb4⟩,h4,h5,rfl⟩ _;refine Gf (G3 ?_);rw [if_pos rfl];right;refine (rec_ (by lia) hw.2 (by lia) h4 h3).mono λv S5 R=>?_;obtain ⟨a',b',e,q1,q2,q3,q4⟩:=R.lft;have dp:=s.depth_pos;have hcb:=Rk (K:=14 * (s.depth:Int)) (A:=pos a1) (B:=pos a) (x1:=a1 - a) (x2:=a - a') (by lia) hpa0 (Int.mul_nonneg (by lia) (by lia)) hb3 (KI _ _) hb4 q4;refine ⟨S5,_,a',b',?_,by simp only [List.length_append,List.length_cons,List.length_nil] at h2 ⊢;lia,⟨e,?_,by lia,by lia,?_⟩,R.deck,h5.trans R.kp,rfl⟩
    ·intro x hx;rcases List.mem_append.mp hx with h | h
     ·exact h1 x h
     ·rw [List.mem_singleton] at h;subst h;exact R.fit
    ·rw [List.map_append,List.flatten_append,List.length_append];simp only [List.map_cons,List.map_nil,List.flatten_cons,List.flatten_nil,List.append_nil];lia
    ·rw [List.length_append];simp only [List.length_cons,List.length_nil];have:((acc.length + (0 + 1):Nat):Int) * (cnt s:Int)=acc.length * (cnt s:Int) + cnt s:=by
      rw [Nat.zero_add,Int.natCast_add,Int.add_mul];simp
     rw [this];lia
   ·rintro acc t ⟨S',z,a,b,h1,h2,h3,h4,h5,rfl⟩;exact ⟨h1,by simpa using h2,⟨a,b,h3⟩,h4,h5⟩
   ·rintro xs t' ⟨h1,h2,⟨a',b',h3,hb1,hb2,hb3,hb4⟩,h4,h5⟩;rw [List.nil_append] at *;refine Cb (by rw [hL];lia) ?_;have hmc:(xs.length:Int) * (cnt s:Int)<=(xs.length:Int) * 28:=Int.mul_le_mul_of_nonneg_left (by lia) (by lia);refine ⟨?_,⟨a',b',h3,?_,by lia,by lia,?_⟩,h4,kp4.trans h5⟩
    ·rw [A4];simp only [Bool.and_eq_true,decide_eq_true_eq,List.all_eq_true];exact ⟨by lia,h1⟩
    ·rw [Bm,List.length_cons];lia
    ·refine G0 (d:=s.depth) (p:=pos a1) (by rw [Sh.depth];lia) hpa0 hpa1 ?_;rw [cnt];lia
 | pair s r=>
   simp only [wf,Bool.and_eq_true] at hw;rw [Sh.depth] at hsd;rw [cnt] at hcn;rw [Sh.d];right;refine (rec_ (by lia) hw.1 (by lia) dk1 g1).mono λv S2 R=>?_;obtain ⟨a',b',e,q1,q2,q3,q4⟩:=R.lft;right;refine (rec_ (by lia) hw.2 (by lia) R.deck e).mono λv2 S3 R2=>?_;obtain ⟨a2,b2,e',p1,p2,p3,p4⟩:=R2.lft;right;have dp:=s.depth_pos;have hcb:=Rk (K:=14 * ((max s.depth r.depth:Nat):Int)) (A:=pos a1) (B:=pos a') (x1:=a1 - a') (x2:=a' - a2) (by lia) hpa0 (by lia) (by lia) (KI _ _) (HC (by lia) hpa0 q4) (HC (D:=max s.depth r.depth) (by lia) (F7 a') p4);refine ⟨by simp only [A4,R.fit,R2.fit,Bool.and_self],⟨a2,b2,e',?_,by lia,by lia,?_⟩,R2.deck,kp1.trans (R.kp.trans R2.kp)⟩
   ·rw [Bm,List.length_append];lia
   ·refine G0 (d:=max s.depth r.depth) (p:=pos a1) (by rw [Sh.depth];lia) hpa0 hpa1 ?_;rw [cnt];lia
 | choice ss=>
   simp only [wf,Bool.and_eq_true,decide_eq_true_eq] at hw;rw [Sh.depth] at hsd;rw [cnt] at hcn;rw [Sh.d];have hl:=Eu ss;right;refine hd.use (shD ss).length dk1 (λi S2 i0 i1 d2 k2=>?_) rfl (by lia) (by lia);have hk:i.toNat < ss.length:=by lia
   have e1:ss[i.toNat]?=some ss[i.toNat]:=List.getElem?_eq_getElem hk;have e2:atI (shD ss) i=some (ss[i.toNat]).d:=by
    unfold atI;rw [HX i0 i1];show (shD ss)[i.toNat]?=_;rw [Gy,e1];rfl
   right;refine IC e2 ?_;right;refine (rec_ (Nat.le_trans (CB ss _ _ e1) (by lia)) (Db hw.2 _ (List.getElem_mem hk)) (by have:=D3 (List.getElem_mem hk);lia) d2 (k2.at hlk hlc g1)).mono λv S3 R=>?_;right;obtain ⟨a2,b2,e',p1,p2,p3,p4⟩:=R.lft;have hcc:=D3 (List.getElem_mem hk);have hdd:=CB ss _ _ e1;have:Mn (Str.ofString "of")=true:=by decide +kernel
   refine ⟨?_,⟨a2,b2,e',?_,by lia,by lia,?_⟩,R.deck,kp1.trans (k2.toL.trans R.kp)⟩
   ·simp only [A4,Bool.and_eq_true,decide_eq_true_eq];exact ⟨⟨this,by lia,by lia⟩,by rw [DA ss _ _ _ e1];exact R.fit⟩
   ·rw [Bm,D5 ss _ _ _ e1,List.length_cons];lia
   ·refine G0 (d:=(ss[i.toNat]).depth) (p:=pos a1) (by rw [Sh.depth];lia) hpa0 hpa1 ?_;rw [cnt];lia
mutual
noncomputable def szE:D->Nat
 | .lst xs=>1 + O0 xs
 | .tup xs=>1 + O0 xs
 | _=>1
noncomputable def O0:List D->Nat
 | []=>0
 | d :: r=>szE d + O0 r
end
structure VOk (s:Sh)(v:D):Prop where
 fit:A4 s v=true
 len:(Bm s v).length<=14809
local macro_rules | `(tactic| walk_at "y1")=>`(tactic| first | walk_at "x1" | with_reducible refine Q1 ?_)
local macro_rules | `(tactic| symm)=>`(tactic| repeat (walk_at "y1"))
noncomputable def wD (w:List Nat):List D:=w.map λ(n:Nat)=>D.int (n:Int)
theorem Bn (w:List Nat):(wD w).length=w.length:=by unfold wD;rw [List.length_map]
theorem SV (h:w[a]?=some b):(wD w)[a]?=some (.int (b:Int)):=by unfold wD;rw [List.getElem?_map,h];rfl
abbrev exS:D:=.exc "Short" []
abbrev exB (a:Nat):D:=.exc "Broken" [.int (a:Int),.non]
noncomputable def rrD:RR->D
 | .told v b=>.tup [v,.int (b:Int)]
 | .short=>exS
 | .broken a=>exB a
noncomputable def byX:Option Nat->D
 | none=>exS
 | some b=>.int (b:Int)
noncomputable def upX (m:Int)(a:Nat):Option Nat->D
 | none=>exS
 | some b=>if (b:Int)<=m then .int (b:Int) else exB a
def sgX (a:Nat):Option Nat->D
 | none=>exS
 | some c=>if BZ c=true then .str ⟨#[c]⟩ else exB a
def BX (f:Fn):Prop:=∀(w:List Nat) (a:Nat),Pure1 f [.lst (wD w),.int (a:Int)] (byX w[a]?)
theorem Tj:BX (fnOf 2 2 DI):=by
 intro w a S;refine Bl rfl ?_;unfold DI;have hl:=Bn w
 cases h:w[a]? with
 | none=>
   have:=List.getElem?_eq_none_iff.mp h;symm;refine Ks (decide_eq_true (by lia)) ?_;symm;exact ⟨rfl,rfl⟩
 | some b=>
   obtain ⟨hj,_⟩:=List.getElem?_eq_some_iff.mp h;symm;refine FV (decide_eq_false (by lia)) ?_;symm;refine EM (HI (SV h)) ?_;exact ⟨rfl,rfl,rfl⟩
def UX (f:Fn):Prop:=∀(m:Int) (w:List Nat) (a:Nat),Pure1 f [.int m,.lst (wD w),.int (a:Int)] (upX m a w[a]?)
theorem TR (hc:BX c):UX (fnOf 3 4 (CT c)):=by
 intro m w a S;refine Bl rfl ?_;unfold CT;have hb:=hc w a
 cases h:w[a]? with
 | none=>
   rw [h,byX] at hb;symm;refine hb.use ?_;symm;exact ⟨rfl,rfl⟩
 | some b=>
   rw [h,byX] at hb;symm;refine hb.use ?_;symm;rw [upX]
   by_cases q:(b:Int)<=m
   ·rw [if_pos q];refine FV (decide_eq_false (by lia)) ?_;symm;exact ⟨rfl,rfl,rfl⟩
   ·rw [if_neg q];refine Ks (decide_eq_true (by lia)) ?_;symm;exact ⟨rfl,rfl⟩
def SX (f:Fn):Prop:=∀(w:List Nat) (a:Nat),Pure1 f [.lst (wD w),.int (a:Int)] (sgX a w[a]?)
variable {cb:Fn}
theorem TH (hs:JQ cs)(hb:BX cb):SX (fnOf 2 3 (DP cs cb)):=by
 intro w a S;refine Bl rfl ?_;unfold DP;have hb:=hb w a
 cases h:w[a]? with
 | none=>
   rw [h,byX] at hb;symm;refine hb.use ?_;symm;exact ⟨rfl,rfl⟩
 | some c=>
   rw [h,byX] at hb;symm;refine hb.use ?_;symm;refine (hs c).use ?_;rw [sgX]
   by_cases q:BZ c=true
   ·rw [if_pos q,q];symm;refine W_ix_str.mpr ⟨by decide +kernel,c,SE q,?_⟩;exact ⟨rfl,rfl,rfl⟩
   ·have q':BZ c=false:=by simpa using q
    rw [if_neg q,q'];symm;exact ⟨rfl,rfl⟩
theorem TF {cw:Fn}(hl:G4 cl)(hb:BX cb)(hw:Fl cw){lo hi:Int}(hwf:wf (.number lo hi)=true)(w:List Nat)(a:Nat):Pure1 (fnOf 3 7 (B7 cl cb cw)) [(Sh.number lo hi).d,.lst (wD w),.int (a:Int)] (rrD ((DY lo (hi - lo).toNat (wid (hi - lo).toNat) 0).run w a)):=by
 intro S;have hsp:=LZ hwf;have hwd:=Gg 9 _ hsp;refine Bl rfl ?_;unfold B7;rw [Sh.d];have em:hi - lo=(((hi - lo).toNat:Nat):Int):=by
  simp only [wf,Bool.and_eq_true,decide_eq_true_eq] at hwf;lia
 have hww:=λS P p=>(hw (hi - lo).toNat hsp).use (S:=S) (P:=P) p;rw [<-em] at hww;generalize (hi - lo).toNat=M at *;generalize hW:wid M=n at *;symm;refine hww _ _ ?_;rw [em];symm;refine EO (Cl (by lia) (by lia)) ?_;refine Ej (λr t=>∃(j x:Nat) (e6:Option Sl),j<=n/\r=(B1 0 ((n:Nat):Int).toNat).drop j/\(DY lo M n 0).run w a=(DY lo M (n - j) x).run w (a + j)/\t=⟨[some (.val (.tup [.str "number",.int lo,.int hi])),some (.val (.lst (wD w))),some (.val (.int a)),some (.val (.int M)),some (.val (.int n)),some (.val (.int x)),e6],S⟩) _ _ ⟨0,0,none,Nat.zero_le _,rfl,rfl,rfl⟩ ?_ ?_
 ·rintro d r t ⟨j,x,e6,hj,hr,hrun,rfl⟩ _;obtain ⟨rfl,hr',hjn⟩:=Io hr;rw [Int.toNat_natCast] at hjn;rw [Int.zero_add];obtain ⟨e,he⟩:∃e,n - j=e + 1:=⟨n - j - 1,by lia⟩;rw [he,DY] at hrun;have hby:=hb w (a + j);symm;refine Dr (DX (by decide) (by decide)) ?_;symm;rw [show ((a:Int) + (j:Int))=((a + j:Nat):Int) by lia]
  cases h:w[a + j]? with
  | none=>
    rw [h,byX] at hby;rw [BQ h] at hrun;refine hby.use ?_;symm;exact ⟨by rw [hrun];rfl,rfl⟩
  | some b=>
    rw [h,byX] at hby;rw [BA h] at hrun;refine hby.use ?_;symm;refine ⟨rfl,?_⟩;symm;rw [show ((n:Int) - 1 - (j:Int))=((e:Nat):Int) by lia,show ((x:Int) * 256 + (b:Int))=((x * 256 + b:Nat):Int) by lia];refine (hl M e (by lia)).use ?_;symm
    by_cases q:x * 256 + b<=M / 2 ^ (8 * e)
    ·rw [if_pos (decide_eq_true q)] at hrun;refine FV (decide_eq_false (by lia)) ?_;symm;exact ⟨j + 1,x * 256 + b,_,hjn,hr',by rw [show n - (j + 1)=e by lia,hrun,Nat.add_assoc],rfl⟩
    ·rw [if_neg (by rw [decide_eq_true_eq];exact q)] at hrun;refine Ks (decide_eq_true (by lia)) ?_;symm;exact ⟨by rw [hrun];rfl,rfl⟩
 ·rintro t ⟨j,x,e6,hj,hr,hrun,rfl⟩;have hj':j=n:=by
   have:=congrArg List.length hr;rw [List.length_nil,List.length_drop,EI,Int.toNat_natCast] at this;lia
  subst hj';rw [Nat.sub_self,DY,Rd.run] at hrun;symm;exact ⟨rfl,by rw [hrun];rfl,rfl⟩
variable {ca cu:Fn}
theorem Sy (ha:SX ca)(hu:UX cu){q:Int}(hwf:wf (.text q)=true)(n:Nat)(w:List Nat)(a:Nat):Pure1 (fnOf 3 7 (Ct ca cu)) [(Sh.text q).d,.lst (wD w),.int (a:Int)] (rrD ((pSh (n + 1) (.text q)).run w a)):=by
 intro S;have hL:LIM=100000:=rfl;refine Bl rfl ?_;unfold Ct;rw [Sh.d,pSh];simp only [wf,Bool.and_eq_true,decide_eq_true_eq] at hwf;have hup:=hu q w a;symm
 cases h:w[a]? with
 | none=>
   rw [h,upX] at hup;rw [BQ h];refine hup.use ?_;symm;exact ⟨rfl,rfl⟩
 | some b=>
   rw [h,upX] at hup;rw [BA h]
   by_cases hb:(b:Int)<=q
   ·rw [if_pos hb] at hup;rw [if_pos (decide_eq_true hb)];refine hup.use ?_;symm;refine EO (Cl (by lia) (by lia)) ?_;refine Ej (λr t=>∃(j:Nat) (y:Str) (e6:Option Sl),j<=b/\r=(B1 0 ((b:Nat):Int).toNat).drop j/\y.cps.toList.length=j/\(EG b []).run w (a + 1)=(EG (b - j) y.cps.toList).run w (a + 1 + j)/\t=⟨[some (.val (.tup [.str "text",.int q])),some (.val (.lst (wD w))),some (.val (.int a)),some (.val (.int b)),some (.val (.int ((a:Int) + 1))),some (.val (.str y)),e6],S⟩) _ _ ⟨0,Str.ofString "",none,Nat.zero_le _,rfl,by decide +kernel,by rw [Nat.sub_zero,Nat.add_zero,show (Str.ofString "").cps.toList=[] by decide +kernel],rfl⟩ ?_ ?_
    ·rintro d r t ⟨j,y,e6,hj,hr,hyl,hrun,rfl⟩ _;obtain ⟨rfl,hr',hjn⟩:=Io hr;rw [Int.toNat_natCast] at hjn;rw [Int.zero_add];obtain ⟨e,he⟩:∃e,b - j=e + 1:=⟨b - j - 1,by lia⟩;rw [he,EG] at hrun;have hsg:=ha w (a + 1 + j);symm;rw [show ((a:Int) + 1 + (j:Int))=((a + 1 + j:Nat):Int) by lia]
     cases h2:w[a + 1 + j]? with
     | none=>
       rw [h2,sgX] at hsg;rw [BQ h2] at hrun;refine hsg.use ?_;symm;exact ⟨by rw [hrun];rfl,rfl⟩
     | some c=>
       rw [h2,sgX] at hsg;rw [BA h2] at hrun
       by_cases hc:BZ c=true
       ·rw [if_pos hc] at hsg hrun;refine hsg.use ?_;symm;refine Cb (by rw [FX y,hyl,hL];show j + 1<=_;lia) ?_;refine ⟨rfl,?_⟩;symm;refine ⟨j + 1,_,_,hjn,hr',?_,?_,rfl⟩
        ·rw [IJ,List.length_append,hyl];rfl
        ·rw [hrun,IJ,show b - (j + 1)=e by lia,Nat.add_assoc (a + 1)]
       ·rw [if_neg hc] at hsg hrun;refine hsg.use ?_;symm;exact ⟨by rw [hrun];rfl,rfl⟩
    ·rintro t ⟨j,y,e6,hj,hr,hyl,hrun,rfl⟩;have hj':j=b:=by
      have:=congrArg List.length hr;rw [List.length_nil,List.length_drop,EI,Int.toNat_natCast] at this;lia
     subst hj';rw [Nat.sub_self,EG,Rd.run] at hrun;have ey:(⟨y.cps.toList.toArray⟩:Str)=y:=QR (by simp);rw [ey] at hrun;symm;refine ⟨rfl,?_,rfl⟩;rw [hrun,rrD,show ((a:Int) + 1 + (j:Int))=((a + 1 + j:Nat):Int) by lia]
   ·rw [if_neg hb] at hup;rw [if_neg (by rw [decide_eq_true_eq];exact hb)];refine hup.use ?_;symm;exact ⟨rfl,rfl⟩
def RX (c:Fn)(s:Sh)(p:Rd):Prop:=∀(w:List Nat) (a:Nat),a<=w.length->Pure1 c [s.d,.lst (wD w),.int (a:Int)] (rrD (p.run w a))
noncomputable def seg (w:List Nat)(a b:Nat):List Nat:=(w.drop a).take (b - a)
theorem Lc (x y:List Nat):wD (x++y)=wD x++wD y:=by unfold wD;rw [List.map_append]
theorem LN:∀(r y:Nat),nb (r + 1) y = .int ((y / 256 ^ r % 256:Nat):Int) :: nb r y
 | 0,y=>by rw [nb,nb,nb,Nat.pow_zero,Nat.div_one];rfl
 | r + 1,y=>by
   rw [show nb (r + 1 + 1) y=nb (r + 1) (y / 256)++[.int ((y % 256:Nat):Int)] from rfl,LN r (y / 256),List.cons_append,show nb (r + 1) y=nb r (y / 256)++[.int ((y % 256:Nat):Int)] from rfl,Nat.div_div_eq_div_mul,show 256 * 256 ^ r=256 ^ (r + 1) by rw [Nat.pow_succ,Nat.mul_comm]]
def At (w:List Nat)(a:Nat)(xs:List D):Prop:=∃p q,wD w=p++(xs++q)/\p.length=a
variable {ys:List D}
theorem At.left (h:At w a (xs++ys)):At w a xs:=by
 obtain ⟨p,q,e,l⟩:=h;exact ⟨p,ys++q,by rw [e,List.append_assoc],l⟩
theorem At.right (h:At w a (xs++ys)):At w (a + xs.length) ys:=by
 obtain ⟨p,q,e,l⟩:=h;exact ⟨p++xs,q,by rw [e,List.append_assoc,List.append_assoc],by rw [List.length_append,l]⟩
theorem At.head {c:Nat}(h:At w a (.int (c:Int) :: xs)):w[a]?=some c/\At w (a + 1) xs:=by
 refine ⟨?_,At.right (xs:=[.int (c:Int)]) h⟩;obtain ⟨p,q,e,l⟩:=h;have e1:(wD w)[a]?=some (.int (c:Int)):=by rw [e,List.getElem?_append_right (by lia),l,Nat.sub_self];rfl
 unfold wD at e1;rw [List.getElem?_map] at e1
 cases e2:w[a]? with
 | none=>rw [e2] at e1;cases e1
 | some x=>
   rw [e2] at e1;injection e1 with e1
   injection e1 with e1
   rw [show x=c by lia]
theorem KB {lo:Int}{M:Nat}{w:List Nat}:∀(r x y a:Nat),y / 256 ^ r=x->y<=M->At w a (nb r y)->(DY lo M r x).run w a = .told (.int (lo + y)) (a + r)
 | 0,x,y,a,hx,hy,h=>by
   rw [Nat.pow_zero,Nat.div_one] at hx;subst hx;rfl
 | r + 1,x,y,a,hx,hy,h=>by
   rw [LN] at h;obtain ⟨h1,h2⟩:=h.head;have e:x * 256 + y / 256 ^ r % 256=y / 256 ^ r:=by
    rw [<-hx,Nat.pow_succ,<-Nat.div_div_eq_div_mul];lia
   rw [DY,BA h1,if_pos (decide_eq_true (by rw [e,Nat.pow_mul];exact Nat.div_le_div_right hy)),KB r _ y (a + 1) e.symm hy h2]
   congr 1
   lia
theorem K2 {w:List Nat}:∀(xs cs:List Nat) (a:Nat),(∀c∈xs,BZ c=true)->At w a (xs.map λ(n:Nat)=>D.int (n:Int))->(EG xs.length cs).run w a = .told (.str ⟨(cs++xs).toArray⟩) (a + xs.length)
 | [],cs,a,_,_=>by rw [List.append_nil];rfl
 | x :: r,cs,a,hs,h=>by
   obtain ⟨h1,h2⟩:=At.head h;rw [List.length_cons,EG,BA h1,if_pos (hs x List.mem_cons_self),K2 r (cs++[x]) (a + 1) (λc hc=>hs c (List.mem_cons_of_mem _ hc)) h2,List.append_assoc]
   congr 1
   lia
theorem Kx {w:List Nat}{s:Sh}{p:Rd}(hp:∀(v:D) (a:Nat),A4 s v=true->At w a (Bm s v)->p.run w a = .told v (a + (Bm s v).length)):∀(es ds:List D) (a:Nat),(∀e∈es,A4 s e=true)->At w a (es.map λd=>Bm s d).flatten->(Fy p es.length ds).run w a = .told (.lst (ds++es)) (a + ((es.map λd=>Bm s d).flatten).length)
 | [],ds,a,_,_=>by rw [List.append_nil];rfl
 | e :: r,ds,a,hf,h=>by
   rw [List.map_cons,List.flatten_cons] at h;rw [List.length_cons,Fy,DC,hp e a (hf e List.mem_cons_self) h.left,RR.thn,Kx hp r (ds++[e]) _ (λx hx=>hf x (List.mem_cons_of_mem _ hx)) h.right,List.append_assoc,List.map_cons,List.flatten_cons,List.length_append]
   congr 1
   lia
theorem NW:∀(k n:Nat),wid n<=k->n < 256 ^ k
 | 0,n,h=>by
   by_cases z:n=0
   ·subst z;decide
   ·rw [EQ (by lia)] at h;lia
 | k + 1,n,h=>by
   by_cases z:n=0
   ·subst z;exact Nat.pow_pos (by decide)
   ·rw [EQ (by lia)] at h;have:=NW k (n / 256) (by lia);rw [Nat.div_lt_iff_lt_mul (by decide)] at this;rw [Nat.pow_succ];exact this
theorem Qb {o:Str}(h:Mn o=true):o=Str.ofString "of":=by
 unfold Mn at h;simpa using h
theorem back:∀(n:Nat) (s:Sh),s.depth<=n->wf s=true->∀(w:List Nat) (v:D) (a:Nat),A4 s v=true->At w a (Bm s v)->(pSh n s).run w a = .told v (a + (Bm s v).length)
 | 0,s,hs,_,_,_,_,_,_=>absurd s.depth_pos (by lia)
 | n + 1,s,hs,hwf,w,v,a,hf,h=>by
   cases s with
   | nothing=>
     have:v = .non:=by cases v <;> simp [A4,Hm] at hf <;> rfl
     subst this;rfl
   | number lo hi=>
     simp only [wf,Bool.and_eq_true,decide_eq_true_eq] at hwf
     cases v with
     | int i=>
       simp only [A4,Bool.and_eq_true,decide_eq_true_eq] at hf;rw [Bm] at h ⊢;rw [pSh,KB (wid (hi - lo).toNat) 0 (i - lo).toNat a ?_ (by lia) h,Ht]
       ·congr 2;lia
       ·exact Nat.div_eq_of_lt (Nat.lt_of_le_of_lt (show (i - lo).toNat<=(hi - lo).toNat by lia) (NW _ _ (Nat.le_refl _)))
     | _=>simp [A4] at hf
   | text q=>
     cases v with
     | str x=>
       simp only [A4,Bool.and_eq_true,decide_eq_true_eq,List.all_eq_true] at hf;rw [Bm] at h ⊢;obtain ⟨h1,h2⟩:=At.head h;rw [pSh,BA h1,if_pos (decide_eq_true hf.1)];have hl:x.length=x.cps.toList.length:=rfl;rw [hl,K2 x.cps.toList [] (a + 1) hf.2 h2,List.nil_append,List.length_cons,List.length_map]
       congr 1
       lia
     | _=>simp [A4] at hf
   | list s q=>
     simp only [wf,Bool.and_eq_true,decide_eq_true_eq] at hwf;rw [Sh.depth] at hs
     cases v with
     | lst ds=>
       rw [A4,Bool.and_eq_true,decide_eq_true_eq,List.all_eq_true] at hf;rw [Bm] at h ⊢;obtain ⟨h1,h2⟩:=At.head h;rw [pSh,BA h1,if_pos (decide_eq_true hf.1),Kx (λv a=>back n s (by lia) hwf.2 w v a) ds [] (a + 1) hf.2 h2,List.nil_append,List.length_cons]
       congr 1
       lia
     | _=>simp [A4] at hf
   | pair s r=>
     simp only [wf,Bool.and_eq_true] at hwf;rw [Sh.depth] at hs;unfold A4 at hf
     split at hf
     ·rw [Bool.and_eq_true] at hf;rw [Bm] at h ⊢;rw [pSh,DC,back n s (by lia) hwf.1 w _ a hf.1 h.left,RR.thn,DC,back n r (by lia) hwf.2 w _ _ hf.2 h.right,RR.thn,Rd.run,List.length_append,Nat.add_assoc]
     ·cases hf
   | choice ss=>
     simp only [wf,Bool.and_eq_true,decide_eq_true_eq] at hwf;rw [Sh.depth] at hs;unfold A4 at hf
     split at hf
     ·next o k x=>
      simp only [Bool.and_eq_true,decide_eq_true_eq] at hf;obtain ⟨j,rfl⟩:=Int.eq_ofNat_of_zero_le hf.1.2.1;have hj:j < ss.length:=by have:=hf.1.2.2;lia
      have e1:ss[j]?=some ss[j]:=List.getElem?_eq_getElem hj;have h2:=hf.2;rw [Int.toNat_natCast,DA ss _ _ _ e1] at h2;rw [Bm,Int.toNat_natCast,D5 ss _ _ _ e1] at h ⊢;obtain ⟨h3,h4⟩:=At.head h;have ho:o=Str.ofString "of":=Qb hf.1.1;subst ho;rw [pSh,BA h3,if_pos (decide_eq_true hj),List.getD_eq_getElem?_getD,e1,Option.getD_some,DC,back n _ (Nat.le_trans (CB ss _ _ e1) (by lia)) (Db hwf.2 _ (List.getElem_mem hj)) w x (a + 1) h2 h4,RR.thn,Rd.run,List.length_cons]
      congr 1
      lia
     ·cases hf
structure St where
 rest:Int
 mixed:Bool
 turn:Int
noncomputable def St.ob (s:St):Ob:=.dct [(.inr (Str.ofString "rest"),.int s.rest),(.inr (Str.ofString "mixed"),.bl s.mixed),(.inr (Str.ofString "turn"),.int s.turn)]
noncomputable def take (s:St)(m:Int):Int×St:=
 if s.mixed=false then (s.rest % m,⟨s.rest / m,s.mixed,s.turn⟩)
 else
  let stir:=(s.rest % 2147483579 + 70001 * (s.turn + 1)) % 2147483579
  let rest:=(stir * stir % 2147483563 * 50021 + 7) % 2147483579
  (rest / 5 % m,⟨rest,s.mixed,s.turn + 1⟩)
theorem PB {m:Str}{ns:List Str}(e:m∈Bw)(q:P (.bl (ns.any λn=>Dw m n)) t):W (Hn ns (.exc m ds)) t P:=⟨_,_,by unfold Hn;dsimp only;rw [if_pos e];rfl,q⟩
def Gw (S S':List Ob):Prop:=S.length<=S'.length/\∀i,i < S.length->S'[i]?=S[i]?
theorem Gw.refl:Gw S S:=⟨Nat.le_refl _,λ_ _=>rfl⟩
theorem Gw.trans {S S1 S2:List Ob}(a:Gw S S1)(b:Gw S1 S2):Gw S S2:=⟨Nat.le_trans a.1 b.1,λi h=>(b.2 i (Nat.lt_of_lt_of_le h a.1)).trans (a.2 i h)⟩
theorem Gw.app {ex:List Ob}:Gw S (S++ex):=⟨by rw [List.length_append];lia,λi h=>List.getElem?_append_left h⟩
theorem Gw.set {S S':List Ob}{k:Nat}{o:Ob}(a:Gw S S')(h:S.length<=k):Gw S (S'.set k o):=⟨by rw [List.length_set];exact a.1,λi hi=>by rw [List.getElem?_set_ne (by lia)];exact a.2 i hi⟩
theorem Gw.get (a:Gw S S')(h:S[k]?=some o):S'[k]?=some o:=by rw [a.2 k (List.getElem?_eq_some_iff.mp h).1];exact h
theorem Rg {x:Ob}:(S++[x])[S.length]?=some x:=by simp
theorem PJ {h:List D->List D->Option (List D)}{g:M (List D)}(w:W f t λo t1=>o = .obj k/\∃xs0,t1.S[k]?=some (.lst xs0)/\W g t1 λds t2=>∃xs ys,t2.S[k]?=some (.lst xs)/\h xs ds=some ys/\P .non ⟨t2.env,t2.S.set k (.lst ys)⟩):W (objM h f g) t P:=by
 unfold objM;refine W_bnd.mpr (w.mono λo t1 z9=>?_);obtain ⟨e,xs0,e1,w⟩:=z9;subst e;obtain ⟨ds,t2,e2,xs,ys,e3,e4,p⟩:=w;refine ⟨_,_,?_,p⟩;simp only [e1,bnd,e2,e3,e4];rfl
mutual
inductive Ow (S:List Ob):D->D->List Nat->Prop
 | non:Ow S .non .non []
 | int (i:Int):Ow S (.int i) (.int i) []
 | str (x:Str):Ow S (.str x) (.str x) []
 | tup {ds vs:List D} {fp:List Nat}:Ows S ds vs fp->Ow S (.tup ds) (.tup vs) fp
 | obj {k:Nat} {ds vs:List D} {fp:List Nat}:S[k]?=some (.lst ds)->Ows S ds vs fp->k∉fp->Ow S (.obj k) (.lst vs) (k :: fp)
inductive Ows (S:List Ob):List D->List D->List Nat->Prop
 | nil:Ows S [] [] []
 | cons {d v:D} {fp fp':List Nat} {ds vs:List D}:Ow S d v fp->Ows S ds vs fp'->(∀k∈fp,k∉fp')->Ows S (d :: ds) (v :: vs) (fp++fp')
end
mutual
theorem Ow.mono {S S':List Ob}:∀{d v:D} {fp:List Nat},(∀k∈fp,S'[k]?=S[k]?)->Ow S d v fp->Ow S' d v fp
 | _,_,_,_,.non=>.non
 | _,_,_,_,.int i=>.int i
 | _,_,_,_,.str x=>.str x
 | _,_,_,h,.tup o=>.tup (Ows.mono h o)
 | _,_,_,h,.obj e o n=>.obj ((h _ List.mem_cons_self).trans e) (Ows.mono (λk hk=>h k (List.mem_cons_of_mem _ hk)) o) n
theorem Ows.mono {S S':List Ob}:∀{ds vs:List D} {fp:List Nat},(∀k∈fp,S'[k]?=S[k]?)->Ows S ds vs fp->Ows S' ds vs fp
 | _,_,_,_,.nil=>.nil
 | _,_,_,h,.cons a b n=>.cons (Ow.mono (λk hk=>h k (List.mem_append_left _ hk)) a) (Ows.mono (λk hk=>h k (List.mem_append_right _ hk)) b) n
end
mutual
theorem Ow.lt {S:List Ob}:∀{d v:D} {fp:List Nat},Ow S d v fp->∀k∈fp,k < S.length
 | _,_,_,.tup o,k,h=>Ows.lt o k h
 | _,_,_,.obj e o n,k,h=>(List.mem_cons.mp h).elim (λz=>by rw [z];exact (List.getElem?_eq_some_iff.mp e).1) (Ows.lt o k)
theorem Ows.lt {S:List Ob}:∀{ds vs:List D} {fp:List Nat},Ows S ds vs fp->∀k∈fp,k < S.length
 | _,_,_,.cons a b n,k,h=>(List.mem_append.mp h).elim (Ow.lt a k) (Ows.lt b k)
end
theorem Ows.length {S:List Ob}:∀{ds vs:List D} {fp:List Nat},Ows S ds vs fp->ds.length=vs.length
 | _,_,_,.nil=>rfl
 | _,_,_,.cons _ b _=>by rw [List.length_cons,List.length_cons,Ows.length b]
theorem Ows.snoc {S:List Ob}{d v:D}{fp1:List Nat}(o:Ow S d v fp1):∀{ds vs:List D} {fp:List Nat},Ows S ds vs fp->(∀k∈fp,k∉fp1)->Ows S (ds++[d]) (vs++[v]) (fp++fp1)
 | _,_,_,.nil,_=>by
   have:=Ows.cons o .nil (λ_ _ z=>nomatch z);rw [List.append_nil] at this;exact this
 | _,_,_,.cons a b n,h=>by
   have:=Ows.cons a (Ows.snoc o b λk hk=>h k (List.mem_append_right _ hk)) (λk hk z=>(List.mem_append.mp z).elim (n k hk) (h k (List.mem_append_left _ hk)));rw [<-List.append_assoc] at this;exact this
variable {fp:List Nat}
theorem Ow.gr {d:D}(o:Ow S d v fp)(g:Gw S S'):Ow S' d v fp:=o.mono λk hk=>g.2 k (o.lt k hk)
variable {vs:List D}
theorem Ows.gr (o:Ows S ds vs fp)(g:Gw S S'):Ows S' ds vs fp:=o.mono λk hk=>g.2 k (o.lt k hk)
def roO (S S':List Ob)(r:D):RR->Prop
 | .told v b=>∃d fp,r = .tup [d,.int (b:Int)]/\Ow S' d v fp/\∀k∈fp,S.length<=k
 | .short=>r=exS
 | .broken a=>r=exB a
def RXO (c:Fn)(s:Sh)(p:Rd):Prop:=∀(w:List Nat) (a:Nat) (S:List Ob),a<=w.length->Wf c [s.d,.lst (wD w),.int (a:Int)] S λr S'=>Gw S S'/\roO S S' r (p.run w a)
theorem LO {lo:Int}{M:Nat}{w:List Nat}{v:D}{b:Nat}:∀(r x a:Nat),(DY lo M r x).run w a = .told v b->∃i,v = .int i
 | 0,x,a,h=>by rw [DY,Rd.run] at h;cases h;exact ⟨_,rfl⟩
 | r + 1,x,a,h=>by
   rw [DY] at h
   cases e:w[a]? with
   | none=>rw [BQ e] at h;cases h
   | some c=>
     rw [BA e] at h
     split at h
     ·exact LO r _ _ h
     ·cases h
theorem LY {w:List Nat}{v:D}{b:Nat}:∀(r:Nat) (cs:List Nat) (a:Nat),(EG r cs).run w a = .told v b->∃x,v = .str x
 | 0,cs,a,h=>by rw [EG,Rd.run] at h;cases h;exact ⟨_,rfl⟩
 | r + 1,cs,a,h=>by
   rw [EG] at h
   cases e:w[a]? with
   | none=>rw [BQ e] at h;cases h
   | some c=>
     rw [BA e] at h
     split at h
     ·exact LY r _ _ h
     ·cases h
theorem Ov {lo:Int}{M r x:Nat}(e:(DY lo M r x).run w a = .told v b):Ow S v v []:=by
 obtain ⟨i,rfl⟩:=LO _ _ _ e;exact .int i
theorem NO (e:(pSh (n + 1) (.text q)).run w a = .told v b):Ow S v v []:=by
 rw [pSh] at e
 cases e0:w[a]? with
 | none=>rw [BQ e0] at e;cases e
 | some c=>
   rw [BA e0] at e
   split at e
   ·obtain ⟨x,rfl⟩:=LY _ _ _ e;exact .str x
   ·cases e
variable {s:Sh}{p:Rd}
theorem NE (h:RX c s p)(hl:∀w a v b,p.run w a = .told v b->∀S,Ow S v v []):RXO c s p:=by
 intro w a S ha;refine (h w a ha S).mono λr S' z9=>?_;obtain ⟨e1,e2⟩:=z9;subst e1 e2;refine ⟨.refl,?_⟩
 cases e:p.run w a with
 | told v b=>exact ⟨v,[],rfl,hl w a v b e _,λ_ z=>nomatch z⟩
 | short=>rfl
 | broken k=>rfl
theorem Sw (hu:UX cu)(hq2:q<=250)(hc:RXO c s p)(w:List Nat)(a:Nat)(S:List Ob):Wf (fnOf 3 8 (Cr c cu)) [(Sh.list s q).d,.lst (wD w),.int (a:Int)] S λr S'=>Gw S S'/\roO S S' r ((Rd.need (λb=>decide ((b:Int)<=q)) λb=>Fy p b []).run w a):=by
 have hL:LIM=100000:=rfl;refine Bl rfl ?_;unfold Cr;rw [Sh.d];have hup:=hu q w a;symm
 cases h:w[a]? with
 | none=>
   rw [h,upX] at hup;rw [BQ h];refine hup.use ?_;symm;exact ⟨.refl,rfl⟩
 | some b=>
   have hal:=(List.getElem?_eq_some_iff.mp h).1;rw [h,upX] at hup;rw [BA h]
   by_cases hb:(b:Int)<=q
   ·rw [if_pos hb] at hup;rw [if_pos (decide_eq_true hb)];refine hup.use ?_;symm;refine EO (Cl (by lia) (by lia)) ?_;refine Ej (λr t=>∃(j a':Nat) (ds vs:List D) (fp:List Nat) (S':List Ob) (e6 e7:Option Sl),j<=b/\r=(B1 0 ((b:Nat):Int).toNat).drop j/\vs.length=j/\a'<=w.length/\(Fy p b []).run w (a + 1)=(Fy p (b - j) vs).run w a'/\Gw S S'/\S'[S.length]?=some (.lst ds)/\Ows S' ds vs fp/\(∀k∈fp,S.length < k)/\t=⟨[some (.val (.tup [.str "list",s.d,.int q])),some (.val (.lst (wD w))),some (.val (.int a)),some (.val (.int b)),some (.val (.int (a':Int))),some (.val (.obj S.length)),e6,e7],S'⟩) _ _ ⟨0,a + 1,[],[],[],S++[.lst []],none,none,Nat.zero_le _,rfl,rfl,hal,rfl,.app,Rg,.nil,(λ_ z=>nomatch z),rfl⟩ ?_ ?_
    ·rintro d r t ⟨j,a',ds,vs,fp,S',e6,e7,hj,hr,hdl,ha',hrun,hG,hK,ho,hfp,rfl⟩ _;obtain ⟨rfl,hr',hjn⟩:=Io hr;rw [Int.toNat_natCast] at hjn;obtain ⟨e,he⟩:∃e,b - j=e + 1:=⟨b - j - 1,by lia⟩;rw [he,Fy,DC] at hrun;have hKl:=(List.getElem?_eq_some_iff.mp hK).1;symm;refine (hc w a' S' ha').mono λr1 S1 z9=>?_;obtain ⟨hG1,h1⟩:=z9
     cases h2:p.run w a' with
     | short=>
       rw [h2] at hrun h1;have h1:r1=exS:=h1;subst h1;symm;exact ⟨hG.trans hG1,by rw [hrun];rfl⟩
     | broken k=>
       rw [h2] at hrun h1;have h1:r1=exB k:=h1;subst h1;symm;exact ⟨hG.trans hG1,by rw [hrun];rfl⟩
     | told v a2=>
       have hle:=L3 p a' ha' h2;rw [h2] at hrun h1;obtain ⟨d1,fp1,e1,ho1,hf1⟩:=h1;subst e1;have hK1:=hG1.get hK;symm;refine PJ (k:=S.length) ?_;symm;refine ⟨rfl,_,hK1,?_⟩;symm;refine ⟨_,_,hK1,if_pos (by rw [ho.length,hdl,hL];lia),?_⟩;symm;refine ⟨j + 1,a2,ds++[d1],vs++[v],fp++fp1,_,_,_,hjn,hr',by rw [List.length_append,hdl];rfl,hle.2,by rw [hrun,show b - (j + 1)=e by lia];rfl,(hG.trans hG1).set (Nat.le_refl _),C8 hK1,?_,λk hk=>?_,rfl⟩
       ·refine Ows.snoc (ho1.mono λk hk=>?_) ((ho.gr hG1).mono λk hk=>?_) λk hk z=>?_
        ·exact List.getElem?_set_ne (by have:=hf1 k hk;lia)
        ·exact List.getElem?_set_ne (by have:=hfp k hk;lia)
        ·have:=hf1 k z;have:=ho.lt k hk;lia
       ·rcases List.mem_append.mp hk with z | z
        ·exact hfp k z
        ·have:=hf1 k z;lia
    ·rintro t ⟨j,a',ds,vs,fp,S',e6,e7,hj,hr,hdl,ha',hrun,hG,hK,ho,hfp,rfl⟩;have hj':j=b:=by
      have:=congrArg List.length hr;rw [List.length_nil,List.length_drop,EI,Int.toNat_natCast] at this;lia
     subst hj';rw [Nat.sub_self,Fy,Rd.run] at hrun;symm;refine ⟨rfl,hG,?_⟩;rw [hrun];exact ⟨_,_,rfl,.obj hK ho (λz=>Nat.lt_irrefl _ (hfp _ z)),λk hk=>(List.mem_cons.mp hk).elim (λz=>by rw [z];exact Nat.le_refl _) λz=>Nat.le_of_lt (hfp k z)⟩
   ·rw [if_neg hb] at hup;rw [if_neg (by rw [decide_eq_true_eq];exact hb)];refine hup.use ?_;symm;exact ⟨.refl,rfl⟩
theorem Sx {r:Sh}{p':Rd}(hs:RXO c s p)(hr:RXO c r p')(w:List Nat)(a:Nat)(S:List Ob)(ha:a<=w.length):Wf (fnOf 3 5 (Cs c)) [(Sh.pair s r).d,.lst (wD w),.int (a:Int)] S λx S'=>Gw S S'/\roO S S' x ((p.bnd λv=>p'.bnd λu=>.done (.tup [v,u])).run w a):=by
 refine Bl rfl ?_;unfold Cs;rw [Sh.d,DC];symm;refine (hs w a S ha).mono λr1 S1 z9=>?_;obtain ⟨hG1,h1⟩:=z9
 cases e1:p.run w a with
 | short=>
   rw [e1] at h1;have h1:r1=exS:=h1;subst h1;symm;exact ⟨hG1,rfl⟩
 | broken k=>
   rw [e1] at h1;have h1:r1=exB k:=h1;subst h1;symm;exact ⟨hG1,rfl⟩
 | told v a'=>
   have hle:=L3 p a ha e1;rw [e1] at h1;obtain ⟨d1,fp1,e,ho1,hf1⟩:=h1;subst e;rw [RR.thn,DC];symm;refine (hr w a' S1 hle.2).mono λr2 S2 z9=>?_;obtain ⟨hG2,h2⟩:=z9
   cases e2:p'.run w a' with
   | short=>
     rw [e2] at h2;have h2:r2=exS:=h2;subst h2;symm;exact ⟨hG1.trans hG2,rfl⟩
   | broken k=>
     rw [e2] at h2;have h2:r2=exB k:=h2;subst h2;symm;exact ⟨hG1.trans hG2,rfl⟩
   | told u a2=>
     rw [e2] at h2;obtain ⟨d2,fp2,e,ho2,hf2⟩:=h2;subst e;symm;refine ⟨rfl,hG1.trans hG2,_,_,rfl,.tup (.cons (ho1.gr hG2) (.cons ho2 .nil (λ_ _ z=>nomatch z)) λk hk z=>?_),λk hk=>?_⟩
     ·rw [List.append_nil] at z;have:=ho1.lt k hk;have:=hf2 k z;lia
     ·rw [List.append_nil] at hk;rcases List.mem_append.mp hk with z | z
      ·exact hf1 k z
      ·exact Nat.le_trans hG1.1 (hf2 k z)
theorem ON {ss:List Sh}{p:Nat->Rd}(hu:UX cu)(hc:∀(k:Nat) (h:k < ss.length),RXO c ss[k] (p k))(w:List Nat)(a:Nat)(S:List Ob):Wf (fnOf 3 5 (B6 c cu)) [(Sh.choice ss).d,.lst (wD w),.int (a:Int)] S λx S'=>Gw S S'/\roO S S' x ((Rd.need (λb=>decide (b < ss.length)) λb=>(p b).bnd λv=>.done (.tup [.str "of",.int b,v])).run w a):=by
 refine Bl rfl ?_;unfold B6;rw [Sh.d];have hup:=hu ((ss.length:Int) - 1) w a;symm;rw [Eu];refine hup.use ?_
 cases h:w[a]? with
 | none=>
   rw [BQ h,upX];symm;exact ⟨.refl,rfl⟩
 | some b=>
   have hal:=(List.getElem?_eq_some_iff.mp h).1;rw [BA h,upX]
   by_cases hb:b < ss.length
   ·rw [if_pos (show (b:Int)<=(ss.length:Int) - 1 by lia),if_pos (decide_eq_true hb),DC];have e0:ss[b]?=some ss[b]:=List.getElem?_eq_getElem hb;have hsd:atI (shD ss) (b:Int)=some ss[b].d:=HI (by rw [Gy,e0];rfl);symm;refine IC hsd ?_;symm;rw [show ((a:Int) + 1)=((a + 1:Nat):Int) by lia];refine (hc b hb w (a + 1) S hal).mono λr1 S1 z9=>?_;obtain ⟨hG1,h1⟩:=z9
    cases e2:(p b).run w (a + 1) with
    | short=>
      rw [e2] at h1;have h1:r1=exS:=h1;subst h1;symm;exact ⟨hG1,rfl⟩
    | broken k=>
      rw [e2] at h1;have h1:r1=exB k:=h1;subst h1;symm;exact ⟨hG1,rfl⟩
    | told u a2=>
      rw [e2] at h1;obtain ⟨d1,fp1,e,ho1,hf1⟩:=h1;subst e;symm;refine ⟨rfl,hG1,_,_,rfl,.tup (.cons (.str _) (.cons (.int _) (.cons ho1 .nil (λ_ _ z=>nomatch z)) (λ_ z=>nomatch z)) (λ_ z=>nomatch z)),λk hk=>?_⟩;rw [List.nil_append,List.nil_append,List.append_nil] at hk;exact hf1 k hk
   ·rw [if_neg (show ¬(b:Int)<=(ss.length:Int) - 1 by lia),if_neg (by rw [decide_eq_true_eq];exact hb)];symm;exact ⟨.refl,rfl⟩
def JB (f:Fn)(n:Nat):Prop:=∀s:Sh,s.depth<=n->wf s=true->RXO f s (pSh n s)
theorem NF {cn:Fn}{cl' cw cc cp ct:Fn}(e1:cc=fnOf 3 5 (B6 c cu))(e2:cp=fnOf 3 5 (Cs c))(e3:cl=fnOf 3 8 (Cr c cu))(e4:ct=fnOf 3 7 (Ct ca cu))(e5:cn=fnOf 3 7 (B7 cl' cb cw))
 (hu:UX cu) (ha:SX ca) (hl':G4 cl') (hb:BX cb) (hw:Fl cw) (hc:JB c n):JB (fnOf 3 4 (CU cc cp cl ct cn)) (n + 1):=by
 subst e1 e2 e3 e4 e5;intro s hs hwf w a S ha';refine Bl rfl ?_;unfold CU
 cases s with
 | nothing=>
   rw [Sh.d,pSh,Rd.run];symm;exact ⟨rfl,.refl,_,_,rfl,.non,λ_ z=>nomatch z⟩
 | number lo hi=>
   have h:=NE (λw a _=>TF hl' hb hw hwf w a) (λw a v b e S=>Ov e) w a S ha';rw [Sh.d] at h ⊢;rw [pSh];symm;exact h.mono λr S' z=>z
 | text q=>
   have h:=NE (p:=pSh (n + 1) (.text q)) (λw a _=>Sy ha hu hwf n w a) (λw a v b e S=>NO e) w a S ha';rw [Sh.d] at h ⊢;symm;exact h.mono λr S' z=>z
 | list s q=>
   simp only [wf,Bool.and_eq_true,decide_eq_true_eq] at hwf;rw [Sh.depth] at hs;have h:=Sw hu hwf.1.2 (hc s (by lia) hwf.2) w a S;rw [Sh.d] at h ⊢;rw [pSh];symm;exact h.mono λr S' z=>z
 | pair s r=>
   simp only [wf,Bool.and_eq_true] at hwf;rw [Sh.depth] at hs;have h:=Sx (hc s (by lia) hwf.1) (hc r (by lia) hwf.2) w a S ha';rw [Sh.d] at h ⊢;rw [pSh];symm;exact h.mono λr S' z=>z
 | choice ss=>
   simp only [wf,Bool.and_eq_true,decide_eq_true_eq] at hwf;rw [Sh.depth] at hs;have hcs:∀(k:Nat) (hk:k < ss.length),RXO c ss[k] (pSh n (ss.getD k .nothing)):=by
    intro k hk;rw [List.getD_eq_getElem?_getD,List.getElem?_eq_getElem hk,Option.getD_some];exact hc _ (Nat.le_trans (CB ss _ _ (List.getElem?_eq_getElem hk)) (by lia)) (Db hwf.2 _ (List.getElem_mem hk))
   have h:=ON hu (p:=λb=>pSh n (ss.getD b .nothing)) hcs w a S;rw [Sh.d] at h ⊢;rw [pSh];symm;exact h.mono λr S' z=>z
def lrO (S S':List Ob)(r:D):RR->Prop
 | .told v b=>∃d fp,r = .lst [.str "told",d,.int (b:Int)]/\Ow S' d v fp/\∀k∈fp,S.length<=k
 | .short=>r = .lst [.str "short"]
 | .broken k=>r = .lst [.str "broken",.int (k:Int)]
def LRO (f:Fn)(n:Nat):Prop:=∀s:Sh,s.depth<=n->wf s=true->∀(w:List Nat) (a:Nat) (S:List Ob),a<=w.length->Wf f [s.d,.lst (wD w),.int (a:Int)] S λr S'=>Gw S S'/\lrO S S' r ((pSh n s).run w a)
theorem Nq (hc:JB c n):LRO (fnOf 3 6 (DN c)) n:=by
 intro s hs hw w a S ha;refine Bl rfl ?_;unfold DN;symm;refine (hc s hs hw w a S ha).mono λr1 S1 z9=>?_;obtain ⟨hG1,h1⟩:=z9
 cases e:(pSh n s).run w a with
 | told v b=>
   rw [e] at h1;obtain ⟨d1,fp1,e,ho1,hf1⟩:=h1;subst e;symm;exact ⟨hG1,d1,fp1,rfl,ho1,hf1⟩
 | short=>
   rw [e] at h1;have h1:r1=exS:=h1;subst h1;symm;refine PB (by decide) ?_;symm;exact ⟨hG1,rfl⟩
 | broken k=>
   rw [e] at h1;have h1:r1=exB k:=h1;subst h1;symm;refine PB (by decide) ?_;symm;exact ⟨hG1,rfl⟩
theorem T7 {d:D}{m:String}(e:Kr d=false)(h:W (CQ [d,.ty m]) t P):W (Eh [d,.ty m]) t P:=by
 cases d <;> first | exact h | cases e
theorem HE {m:String}{b:Bool}(e:t.S[k]?=some (.lst ds))(h:FU "list" m=some b)(q:P (.bl b) t):W (Eh [.obj k,.ty m]) t P:=⟨_,_,by simp only [Eh,e,h];rfl,q⟩
variable {tst:M Bool}
theorem Lf {g:Gd}{st:D->M Unit}{P:List D->T->Prop}(h:Gon g t.S)(q:P [] t):W (CD g st tst elt []) t P:=by
 unfold CD;exact W_bnd.mpr ⟨_,_,M5 h,W_ret.mpr q⟩
theorem JR {g:Gd}{st:D->M Unit}{d:D}{r:List D}{P:List D->T->Prop}(h:Gon g t.S)(q:W (st d) t λ_ t1=>W tst t1 λk t2=>
 if k=true then W elt t2 λx t3=>W (CD g st tst elt r) t3 λxs t4=>P (x :: xs) t4 else W (CD g st tst elt r) t2 P):W (CD g st tst elt (d :: r)) t P:=by
 rw [CD];refine W_bnd.mpr ⟨_,_,M5 h,W_bnd.mpr (q.mono λ_ t1 q=>W_bnd.mpr (q.mono λk t2 q=>?_))⟩
 split
 ·next hk=>
  rw [if_pos hk] at q;exact W_bnd.mpr (q.mono λx t3 q=>W_bnd.mpr (q.mono λxs t4 q=>W_ret.mpr q))
 ·next hk=>
  rw [if_neg hk] at q;exact q
theorem Ge {fr:List Nat}{f:M (Gd×List D)}{st:D->M Unit}{P:List D->T->Prop}(h:W f t λp t1=>W (CD p.1 st tst elt p.2) ⟨cenv n fr t1.env,t1.S⟩ λxs t2=>FY xs.length (P xs { t1 with S:=t2.S })):W (FP n fr f st tst elt) t P:=by
 refine W_bnd.mpr (h.mono λp t1 h=>?_);obtain ⟨xs,t2,e,l,q⟩:=h;refine ⟨xs,_,?_,q⟩;simp only [e,if_pos l]
theorem GP:Gon none S:=λ_ _ z=>nomatch z
theorem Ko (h:S[k]?=some (.lst xs)):Gon (some (k,xs)) S:=λ_ _ z=>by cases z;exact h
theorem Ows.at {S:List Ob}:∀{ds vs:List D} {fp:List Nat},Ows S ds vs fp->∀(i:Nat) (d v:D),ds[i]?=some d->vs[i]?=some v->∃f,Ow S d v f
 | _,_,_,.nil,i,d,v,h,_=>by simp at h
 | _,_,_,.cons a b n,0,d,v,h1,h2=>by simp at h1 h2;subst h1 h2;exact ⟨_,a⟩
 | _,_,_,.cons a b n,i + 1,d,v,h1,h2=>Ows.at b i d v (by simpa using h1) (by simpa using h2)
theorem Ud {Q:List D->T->Prop}(e:t.S[k]?=some (.lst ds))(h:Q ds t):W (Ei [.obj k]) t Q:=⟨_,_,by simp only [Ei,e],h⟩
def nvD:Nat->D->Bool
 | _,.non=>true
 | _,.int _=>true
 | _,.str _=>true
 | n + 1,.lst xs=>decide (xs.length<=1000) && xs.all (nvD n)
 | n + 1,.tup xs=>decide (xs.length<=1000) && xs.all (nvD n)
 | _,_=>false
theorem Ry {l:List D}(h:P (.bl true) t):W (inD true (.bl false) (.lst (l.map λ_=>D.bl true))) t P:=by
 refine ⟨_,_,?_,h⟩;have h1:(l.map λ_=>D.bl true).all Fr=true:=by rw [List.all_eq_true];intro d hd;obtain ⟨y,_,rfl⟩:=List.mem_map.mp hd;rfl
 have h2:inV (toV (.bl false)) ((l.map λ_=>D.bl true).map toV)=false:=by
  unfold inV;rw [List.map_map,List.any_map,List.any_eq_false];intro x _;show ¬(eqV (.bl true) (.bl false)=true);decide
 show (if Fr (.bl false)=true/\(l.map λ_=>D.bl true).all Fr=true then _ else _)=_;rw [if_pos ⟨rfl,h1⟩,h2];rfl
theorem UJ (w:List Nat)(k:Nat):BU (wD w) none (some (k:Int))=wD (w.take k):=by
 by_cases h:k<=w.length
 ·rw [N7 (by lia) (by rw [Bn];lia),Int.toNat_natCast];unfold wD;rw [List.map_take]
 ·have:HT.sIx (wD w).length (wD w).length (some (k:Int))=(wD w).length:=by simp only [HT.sIx];rw [if_neg (by lia),Bn];lia
  unfold BU;rw [this,List.take_of_length_le (show w.length<=k by lia)];have z:HT.sIx (wD w).length 0 none=0:=rfl;rw [z,Nat.sub_zero,List.drop_zero,List.take_length]
def L4 (w:List Nat):Prop:=∀x∈w,x < 256
theorem Es:∀(n:Nat) (s:Sh),s.depth<=n->wf s=true->∀v,A4 s v=true->nvD n v=true
 | 0,s,h,_,_,_=>absurd s.depth_pos (by lia)
 | n + 1,s,hs,hw,v,hf=>by
   cases s with
   | nothing=>cases v <;> simp [A4,Hm] at hf;rfl
   | number lo hi=>cases v <;> simp [A4] at hf;rfl
   | text q=>cases v <;> simp only [A4,Bool.false_eq_true] at hf;rfl
   | list s q=>
     simp only [wf,Bool.and_eq_true,decide_eq_true_eq] at hw;rw [Sh.depth] at hs
     cases v <;> simp only [A4,Bool.false_eq_true] at hf
     rename_i ds;simp only [Bool.and_eq_true,decide_eq_true_eq,List.all_eq_true] at hf;rw [nvD,Bool.and_eq_true,decide_eq_true_eq,List.all_eq_true];exact ⟨by lia,λd hd=>Es n s (by lia) hw.2 d (hf.2 d hd)⟩
   | pair s r=>
     simp only [wf,Bool.and_eq_true] at hw;rw [Sh.depth] at hs;unfold A4 at hf
     split at hf
     ·rw [Bool.and_eq_true] at hf;have h1:=Es n s (by lia) hw.1 _ hf.1;have h2:=Es n r (by lia) hw.2 _ hf.2;simp [nvD,h1,h2]
     ·cases hf
   | choice ss=>
     simp only [wf,Bool.and_eq_true,decide_eq_true_eq] at hw;rw [Sh.depth] at hs;unfold A4 at hf
     split at hf
     ·next o k x=>
      simp only [Bool.and_eq_true,decide_eq_true_eq] at hf;obtain ⟨j,rfl⟩:=Int.eq_ofNat_of_zero_le hf.1.2.1;have hj:j < ss.length:=by have:=hf.1.2.2;lia
      have e1:ss[j]?=some ss[j]:=List.getElem?_eq_getElem hj;have h2:=hf.2;rw [Int.toNat_natCast,DA ss _ _ _ e1] at h2;have h3:=Es n _ (Nat.le_trans (CB ss _ _ e1) (by lia)) (Db hw.2 _ (List.getElem_mem hj)) x h2;have g1:∀o:Str,nvD n (.str o)=true:=λo=>by cases n <;> rfl
      have g2:∀i:Int,nvD n (.int i)=true:=λo=>by cases n <;> rfl
      simp [nvD,h3,g1,g2]
     ·cases hf
def isB (l:List D):Prop:=∀d∈l,∃x:Nat,d = .int (x:Int)/\x < 256
theorem Nm:∀{l:List D},isB l->∃w:List Nat,l=wD w/\∀x∈w,x < 256
 | [],_=>⟨[],rfl,λx z=>nomatch z⟩
 | d :: r,h=>by
   obtain ⟨x,rfl,hx⟩:=h d List.mem_cons_self;obtain ⟨w,rfl,hw⟩:=Nm λd m=>h d (List.mem_cons_of_mem _ m);refine ⟨x :: w,rfl,λy hy=>?_⟩;rcases List.mem_cons.mp hy with rfl | hy
   ·exact hx
   ·exact hw y hy
theorem LG {a b:List D}(ha:isB a)(hb:isB b):isB (a++b):=λd h=>(List.mem_append.mp h).elim (ha d) (hb d)
theorem Fv {x:Nat}{b:List D}(hx:x < 256)(hb:isB b):isB (.int (x:Int) :: b):=λd h=>by
 rcases List.mem_cons.mp h with rfl | h
 ·exact ⟨x,rfl,hx⟩
 ·exact hb d h
theorem Nw:∀(w n:Nat),isB (nb w n)
 | 0,n=>λd h=>nomatch h
 | w + 1,n=>LG (Nw w _) (Fv (Nat.mod_lt _ (by decide)) λd h=>nomatch h)
theorem Ez:∀(n:Nat) (s:Sh),s.depth<=n->wf s=true->∀v,A4 s v=true->isB (Bm s v)
 | 0,s,h,_,_,_=>absurd s.depth_pos (by lia)
 | n + 1,s,hs,hw,v,hf=>by
   cases s with
   | nothing=>rw [Bm];exact λd h=>nomatch h
   | number lo hi=>
     cases v <;> simp [A4] at hf
     rw [Bm];exact Nw _ _
   | text q=>
     simp only [wf,Bool.and_eq_true,decide_eq_true_eq] at hw
     cases v <;> simp only [A4,Bool.false_eq_true] at hf
     rename_i x;simp only [Bool.and_eq_true,decide_eq_true_eq,List.all_eq_true] at hf;rw [Bm];refine Fv (by lia) λd h=>?_;obtain ⟨c,hc,rfl⟩:=List.mem_map.mp h;have:=hf.2 c hc;simp only [BZ,Bool.and_eq_true,decide_eq_true_eq] at this;exact ⟨c,rfl,by lia⟩
   | list s q=>
     simp only [wf,Bool.and_eq_true,decide_eq_true_eq] at hw;rw [Sh.depth] at hs
     cases v <;> simp only [A4,Bool.false_eq_true] at hf
     rename_i ds;simp only [Bool.and_eq_true,decide_eq_true_eq,List.all_eq_true] at hf;rw [Bm];refine Fv (by lia) λd h=>?_;obtain ⟨l,hl,hd⟩:=List.mem_flatten.mp h;obtain ⟨e,he,rfl⟩:=List.mem_map.mp hl;exact Ez n s (by lia) hw.2 e (hf.2 e he) d hd
   | pair s r=>
     simp only [wf,Bool.and_eq_true] at hw;rw [Sh.depth] at hs;unfold A4 at hf
     split at hf
     ·rw [Bool.and_eq_true] at hf;rw [Bm];exact LG (Ez n s (by lia) hw.1 _ hf.1) (Ez n r (by lia) hw.2 _ hf.2)
     ·cases hf
   | choice ss=>
     simp only [wf,Bool.and_eq_true,decide_eq_true_eq] at hw;rw [Sh.depth] at hs;unfold A4 at hf
     split at hf
     ·next o k x=>
      simp only [Bool.and_eq_true,decide_eq_true_eq] at hf;obtain ⟨j,rfl⟩:=Int.eq_ofNat_of_zero_le hf.1.2.1;have hj:j < ss.length:=by have:=hf.1.2.2;lia
      have e1:ss[j]?=some ss[j]:=List.getElem?_eq_getElem hj;have h2:=hf.2;rw [Int.toNat_natCast,DA ss _ _ _ e1] at h2;rw [Bm,Int.toNat_natCast,D5 ss _ _ _ e1];exact Fv (by lia) (Ez n _ (Nat.le_trans (CB ss _ _ e1) (by lia)) (Db hw.2 _ (List.getElem_mem hj)) x h2)
     ·cases hf
theorem IY {f:D->D->Option Bool}:∀{xs:List D},(∀x∈xs,f x x=some true)->CY f xs xs=some true
 | [],_=>by simp [CY]
 | x :: xs,h=>by
   rw [CY,h x List.mem_cons_self,IY λy m=>h y (List.mem_cons_of_mem _ m)];rfl
theorem Ro (w:List Nat):eqN EQD (.lst (wD w)) (.lst (wD w))=some true:=by
 show eqN (39 + 1) _ _=_;rw [eqN,if_pos rfl];refine IY λd hd=>?_;obtain ⟨x,_,rfl⟩:=List.mem_map.mp hd;simp [eqN,eq0]
local macro_rules | `(tactic| walk_at "y1")=>`(tactic| first | walk_at "x1" | ((with_reducible refine' T7 ?wv ?_);(case wv=>exact rfl)))
theorem Ep {c:Fn}{g:Gd}{S:List Ob}(hg:Gon g S):∀{l:List (D×D)} {z0 z1:Option Sl},(∀p∈l,Wf c [p.1,p.2] S λr S'=>r = .bl true/\S'=S)->W (CD g (unS 2 (Cy (BI 0) (Cy (BI 1) Fe))) Df (Aq c (Ab (Ad 0) (Ab (Ad 1) Ai))) (l.map λp=>D.tup [p.1,p.2])) ⟨[z0,z1],S⟩ λxs t'=>xs=l.map (λ_=>D.bl true)/\t'.S=S
 | [],_,_,_=>Lf hg ⟨rfl,rfl⟩
 | p :: l,z0,z1,h=>by
   rw [List.map_cons];refine JR hg ?_;symm;rw [if_pos rfl];symm;refine (h p List.mem_cons_self).mono ?_;rintro r S' ⟨rfl,rfl⟩;exact (Ep hg (l:=l) (z0:=some (.val p.1)) (z1:=some (.val p.2)) λx hx=>h x (List.mem_cons_of_mem _ hx)).mono λxs t' ⟨e1,e2⟩=>⟨by rw [e1];rfl,e2⟩
theorem D1:∀(xs ys:List D),B9 xs ys=(xs.zip ys).map λp=>D.tup [p.1,p.2]
 | [],ys=>by simp [B9]
 | x :: xs,[]=>by simp [B9]
 | x :: xs,y :: ys=>by rw [B9,D1 xs ys];rfl
theorem NX {p:D×D}(h:p∈xs.zip ys):∃i:Nat,xs[i]?=some p.1/\ys[i]?=some p.2:=by
 obtain ⟨i,hi⟩:=List.mem_iff_getElem?.mp h;rw [List.getElem?_zip_eq_some] at hi;exact ⟨i,hi⟩
theorem Fa {l:List (D×D)}(h:P (.bl true) t):W (inD true (.bl false) (.lst (l.map λ_=>D.bl true))) t P:=by
 have e:(l.map λ_=>D.bl true)=(l.map Prod.fst).map λ_=>D.bl true:=by rw [List.map_map];rfl
 rw [e];exact Ry h
theorem HF {f:M (List D)}{P:Gd×List D->T->Prop}(h:W f t λds t1=>W (FG ds) t1 P):W (JH f) t P:=W_bnd.mpr h
theorem NT {P:Gd×List D->T->Prop}(e:t.S[k]?=some (.lst xs))(h:P (some (k,xs),B9 xs ys) t):W (FG [.obj k,.lst ys]) t P:=⟨_,_,by simp only [FG,e],h⟩
theorem Te {P:Gd×List D->T->Prop}(h:P (none,B9 xs ys) t):W (FG [.lst xs,.lst ys]) t P:=⟨_,_,rfl,h⟩
theorem NU {P:Gd×List D->T->Prop}(h:P (none,B9 xs ys) t):W (FG [.tup xs,.tup ys]) t P:=⟨_,_,rfl,h⟩
def Fi (f:Fn)(n:Nat):Prop:=∀(S:List Ob) (d v:D) (fp:List Nat),Ow S d v fp->nvD n v=true->Wf f [d,v] S λr S'=>r = .bl true/\S'=S
theorem KW {m:Nat}(hc:Fi c m)(o:Ows S ds vs fp)(hn:∀v∈vs,nvD m v=true):∀p∈ds.zip vs,Wf c [p.1,p.2] S λr S'=>r = .bl true/\S'=S:=λp hp=>by
 obtain ⟨i,h1,h2⟩:=NX hp;obtain ⟨f,q⟩:=o.at i _ _ h1 h2;exact hc S _ _ f q (hn _ (List.mem_of_getElem? h2))
theorem KS (hc:n=0\/Fi c (n - 1)):Fi (fnOf 2 2 (BW c)) n:=by
 intro S d v fp ho hn;have hL:LIM=100000:=rfl;refine Bl rfl ?_;unfold BW
 cases ho with
 | non=>
   symm;refine IB rfl (by decide +kernel) ?_;exact ⟨rfl,rfl⟩
 | int i=>
   symm;exact ⟨congrArg D.bl (by simp),rfl⟩
 | str x=>
   symm;exact ⟨congrArg D.bl (by simp),rfl⟩
 | @tup ds vs _ o=>
   obtain ⟨m,rfl⟩:∃m,n=m + 1:=by cases n with | zero=>simp [nvD] at hn | succ m=>exact ⟨m,rfl⟩
   rw [nvD,Bool.and_eq_true,decide_eq_true_eq,List.all_eq_true] at hn;have hcc:Fi c m:=by rcases hc with h | h;cases h;exact h
   have hl:=o.length;symm;refine FV (by simp [hl]) ?_;symm;refine Ge ?_;refine HF ?_;symm;refine NU ?_;rw [D1];refine (Ep GP (KW hcc o hn.2)).mono ?_;rintro xs t' ⟨rfl,hS⟩;refine Cb (by rw [List.length_map,List.length_zip,hL];lia) ?_;symm;refine Fa ?_;exact ⟨rfl,hS⟩
 | @obj k ds vs fp e o nk=>
   obtain ⟨m,rfl⟩:∃m,n=m + 1:=by cases n with | zero=>simp [nvD] at hn | succ m=>exact ⟨m,rfl⟩
   rw [nvD,Bool.and_eq_true,decide_eq_true_eq,List.all_eq_true] at hn;have hcc:Fi c m:=by rcases hc with h | h;cases h;exact h
   have hl:=o.length;symm;refine HE e rfl ?_;symm;refine HE e rfl ?_;symm;refine MN e ?_;symm;refine FV (by simp [hl]) ?_;symm;refine Ge ?_;refine HF ?_;symm;refine NT e ?_;rw [D1];refine (Ep (Ko e) (KW hcc o hn.2)).mono ?_;rintro xs t' ⟨rfl,hS⟩;refine Cb (by rw [List.length_map,List.length_zip,hL];lia) ?_;symm;refine Fa ?_;exact ⟨rfl,hS⟩
def JC (f:Fn)(n:Nat):Prop:=∀(S:List Ob) (d v:D) (fp:List Nat) (a:Int),Ow S d v fp->nvD n v=true->Wf f [.lst [.str "told",d,.int a],.lst [.str "told",v,.int a]] S λr S'=>r = .bl true/\S'=S
theorem OQ (hc:Fi c n):JC (fnOf 2 2 (BW c)) n:=by
 intro S d v fp a ho hn;have hL:LIM=100000:=rfl;refine Bl rfl ?_;unfold BW;symm;refine Ge ?_;refine HF ?_;symm;refine Te ?_;rw [D1];refine (Ep GP (l:=[(.str "told",.str "told"),(d,v),(.int a,.int a)]) ?_).mono ?_
 ·intro p hp;rcases List.mem_cons.mp hp with rfl | hp
  ·exact hc S _ _ _ (.str _) (by cases n <;> rfl)
  rcases List.mem_cons.mp hp with rfl | hp
  ·exact hc S _ _ _ ho hn
  ·rw [List.mem_singleton.mp hp];exact hc S _ _ _ (.int _) (by cases n <;> rfl)
 rintro xs t' ⟨rfl,hS⟩;symm;refine Fa ?_;exact ⟨rfl,hS⟩
mutual
def sp:D->D
 | .lst xs=>.lst (sps xs++[.non])
 | .tup xs=>.tup (sps xs)
 | d=>d
def sps:List D->List D
 | []=>[]
 | x :: r=>sp x :: sps r
end
theorem SI:sp .non = .non:=by simp [sp]
theorem SH:sp (.int i) = .int i:=by simp [sp]
theorem SJ {x:Str}:sp (.str x) = .str x:=by simp [sp]
theorem Iy:∀vs:List D,(sps vs).length=vs.length
 | []=>by rw [sps]
 | x :: r=>by rw [sps,List.length_cons,List.length_cons,Iy r]
theorem Ix:∀(vs:List D) (i:Nat),(sps vs)[i]?=(vs[i]?).map sp
 | [],i=>by rw [sps];simp
 | x :: r,0=>by rw [sps];rfl
 | x :: r,i + 1=>by rw [sps,List.getElem?_cons_succ,List.getElem?_cons_succ,Ix r i]
structure Spd (S S':List Ob)(fp:List Nat):Prop where
 len:S'.length=S.length
 off:∀k,k∉fp->S'[k]?=S[k]?
def Ew (f:Fn)(n:Nat):Prop:=∀(S:List Ob) (d v:D) (fp:List Nat),Ow S d v fp->nvD n v=true->Wf f [d] S λr S'=>r = .non/\Spd S S' fp/\Ow S' d (sp v) fp
theorem Gb {c:Fn}{m:Nat}(hc:Ew c m){d0:D}:∀{S:List Ob} {ds vs:List D} {fp:List Nat} (e:Option Sl),Ows S ds vs fp->(∀v∈vs,nvD m v=true)->W (CF (BI 1) (Ek (Aq c (Ab (Ad 1) Ai))) ds) ⟨[some (.val d0),e],S⟩ λo t=>o = .next/\∃(S':List Ob) (e':Option Sl),t=⟨[some (.val d0),e'],S'⟩/\Spd S S' fp/\Ows S' ds (sps vs) fp
 | S,_,_,_,e,.nil,_=>W_forL_nil.mpr ⟨rfl,S,e,rfl,⟨rfl,λ_ _=>rfl⟩,by rw [sps];exact .nil⟩
 | S,_,_,_,e,@Ows.cons _ d v f1 f2 ds vs a b n,hn=>by
   rw [GD];refine Gf ?_;symm;refine (hc S d v f1 a (hn v List.mem_cons_self)).mono ?_;rintro r S1 ⟨rfl,s1,o1⟩;symm;have b1:Ows S1 ds vs f2:=b.mono λk hk=>s1.off k λz=>n k z hk;refine (Gb hc _ b1 λv hv=>hn v (List.mem_cons_of_mem _ hv)).mono ?_;rintro o t ⟨rfl,S2,e2,rfl,s2,o2⟩;refine ⟨rfl,S2,e2,rfl,⟨s2.len.trans s1.len,λk hk=>?_⟩,?_⟩
   ·rw [List.mem_append,not_or] at hk;exact (s2.off k hk.2).trans (s1.off k hk.1)
   ·rw [sps];exact .cons (o1.mono λk hk=>s2.off k (n k hk)) o2 n
theorem Jg (hc:n=0\/Ew c (n - 1)):Ew (fnOf 1 2 (CH c)) n:=by
 intro S d v fp ho hn;have hL:LIM=100000:=rfl;refine Bl rfl ?_;unfold CH
 cases ho with
 | non=>symm;exact ⟨rfl,⟨rfl,λ_ _=>rfl⟩,by rw [SI];exact .non⟩
 | int i=>symm;exact ⟨rfl,⟨rfl,λ_ _=>rfl⟩,by rw [SH];exact .int _⟩
 | str x=>symm;exact ⟨rfl,⟨rfl,λ_ _=>rfl⟩,by rw [SJ];exact .str _⟩
 | @tup ds vs _ o=>
   obtain ⟨m,rfl⟩:∃m,n=m + 1:=by cases n with | zero=>simp [nvD] at hn | succ m=>exact ⟨m,rfl⟩
   rw [nvD,Bool.and_eq_true,decide_eq_true_eq,List.all_eq_true] at hn;have hcc:Ew c m:=by rcases hc with h | h;cases h;exact h
   have hl:=o.length;symm;refine (Gb hcc none o hn.2).mono ?_;rintro o' t ⟨rfl,S',e',rfl,s',o''⟩;symm;exact ⟨rfl,s',by rw [sp];exact .tup o''⟩
 | @obj k ds vs fp e o nk=>
   obtain ⟨m,rfl⟩:∃m,n=m + 1:=by cases n with | zero=>simp [nvD] at hn | succ m=>exact ⟨m,rfl⟩
   rw [nvD,Bool.and_eq_true,decide_eq_true_eq,List.all_eq_true] at hn;have hcc:Ew c m:=by rcases hc with h | h;cases h;exact h
   have hl:=o.length;symm;refine HE e rfl ?_;symm;refine Ud e ?_;symm;refine (Gb hcc none o hn.2).mono ?_;rintro o' t ⟨rfl,S',e',rfl,s',o''⟩;have e1:S'[k]?=some (.lst ds):=(s'.off k nk).trans e;symm;refine HE e1 rfl ?_;symm;refine PJ (k:=k) ?_;symm;refine ⟨rfl,_,e1,?_⟩;symm;refine ⟨_,_,e1,if_pos (by rw [hl,hL];lia),?_⟩;symm;refine ⟨rfl,⟨by rw [List.length_set];exact s'.len,λj hj=>?_⟩,?_⟩
   ·rw [List.mem_cons,not_or] at hj;rw [List.getElem?_set_ne (Ne.symm hj.1)];exact s'.off j hj.2
   ·rw [sp];have q:Ows (S'.set k (.lst (ds++[.non]))) ds (sps vs) fp:=o''.mono λj hj=>List.getElem?_set_ne λz=>nk (by rw [z];exact hj);have q2:=Ows.snoc (Ow.non (S:=S'.set k (.lst (ds++[.non])))) q (λ_ _ z=>nomatch z);rw [List.append_nil] at q2;exact .obj (C8 e1) q2 nk
def Ev (f:Fn)(n:Nat):Prop:=∀(S:List Ob) (d v:D) (fp:List Nat),Ow S d (sp v) fp->nvD n v=true->Wf f [d,v] S λr S'=>r = .bl true/\S'=S
theorem II {m:Nat}{ws:List D}(hc:Ev c m)(o:Ows S ds ws fp)(hw:∀(i:Nat) (v:D),vs[i]?=some v->ws[i]?=some (sp v))(hn:∀v∈vs,nvD m v=true):∀p∈ds.zip vs,Wf c [p.1,p.2] S λr S'=>r = .bl true/\S'=S:=λp hp=>by
 obtain ⟨i,h1,h2⟩:=NX hp;obtain ⟨f,q⟩:=o.at i _ _ h1 (hw i _ h2);exact hc S _ _ f q (hn _ (List.mem_of_getElem? h2))
theorem IF (hc:n=0\/Ev c (n - 1)):Ev (fnOf 2 2 (CG c)) n:=by
 intro S d v fp ho hn;have hL:LIM=100000:=rfl;refine Bl rfl ?_;unfold CG
 cases v <;> first | (cases n <;> (simp [nvD] at hn;done)) | skip
 ·symm;exact ⟨rfl,rfl⟩
 ·symm;exact ⟨rfl,rfl⟩
 ·symm;exact ⟨rfl,rfl⟩
 ·rename_i vs;obtain ⟨m,rfl⟩:∃m,n=m + 1:=by cases n with | zero=>simp [nvD] at hn | succ m=>exact ⟨m,rfl⟩
  rw [nvD,Bool.and_eq_true,decide_eq_true_eq,List.all_eq_true] at hn;have hcc:Ev c m:=by rcases hc with h | h;cases h;exact h
  rw [sp] at ho
  cases ho with
  | @tup ds _ _ o=>
  symm;refine Ge ?_;refine HF ?_;symm;refine NU ?_;rw [D1];refine (Ep GP (II hcc o (λi v h=>by rw [Ix,h];rfl) hn.2)).mono ?_;rintro xs t' ⟨rfl,hS⟩;refine Cb (by rw [List.length_map,List.length_zip,hL];lia) ?_;symm;refine Fa ?_;exact ⟨rfl,hS⟩
 ·rename_i vs;obtain ⟨m,rfl⟩:∃m,n=m + 1:=by cases n with | zero=>simp [nvD] at hn | succ m=>exact ⟨m,rfl⟩
  rw [nvD,Bool.and_eq_true,decide_eq_true_eq,List.all_eq_true] at hn;have hcc:Ev c m:=by rcases hc with h | h;cases h;exact h
  rw [sp] at ho
  cases ho with
  | @obj k ds _ fp e o nk=>
  have hl:=o.length;rw [List.length_append,Iy] at hl;symm;refine MN e ?_;symm;refine FV (by rw [hl];simp) ?_;symm;refine Ge ?_;refine HF ?_;symm;refine NT e ?_;rw [D1];refine (Ep (Ko e) (II hcc o (λi v h=>?_) hn.2)).mono ?_
  ·rw [List.getElem?_append_left (by rw [Iy];exact (List.getElem?_eq_some_iff.mp h).1),Ix,h];rfl
  rintro xs t' ⟨rfl,hS⟩;refine Cb (by rw [List.length_map,List.length_zip,hL];lia) ?_;symm;refine Fa ?_;exact ⟨rfl,hS⟩
theorem KR:∀{xs:List D},(∀x∈xs,∃i:Int,x = .int i/\0<=i/\i < 256)->(xs.map λd=>Bm (.number 0 255) d).flatten=xs
 | [],_=>rfl
 | x :: r,h=>by
   obtain ⟨i,rfl,h0,h1⟩:=h x List.mem_cons_self;rw [List.map_cons,List.flatten_cons,KR λy m=>h y (List.mem_cons_of_mem _ m)];have e:wid ((255:Int) - 0).toNat=1:=by decide +kernel
   have e2:((((i - 0).toNat % 256:Nat)):Int)=i:=by lia
   rw [Bm,e,nb,nb,e2];rfl
theorem DeckAt.of {c:Nat}(d:DeckAt k c S)(h1:S'[k]?=S[k]?)(h2:S'[c]?=S[c]?):DeckAt k c S':=by
 obtain ⟨ne,cells,par,pos,e1,e2,r⟩:=d;exact ⟨ne,cells,par,pos,h1.trans e1,h2.trans e2,r⟩
theorem DeckAt.lt {c:Nat}(d:DeckAt k c S):k < S.length/\c < S.length:=by
 obtain ⟨ne,cells,par,pos,e1,e2,r⟩:=d;exact ⟨(List.getElem?_eq_some_iff.mp e1).1,(List.getElem?_eq_some_iff.mp e2).1⟩
theorem DeckAt.gw {c:Nat}(d:DeckAt k c S)(g:Gw S S'):DeckAt k c S':=d.of (g.2 _ d.lt.1) (g.2 _ d.lt.2)
theorem Gj {cd:Fn}(hd:DrawOk cd){k c:Nat}:∀(r:List D) {z:Option Sl} {S:List Ob},DeckAt k c S->W (Cj (BI 0) Df (Aq cd (Ab (Ad 1) (Ab (fC (.int 256)) Ai))) r) ⟨[z,some (.val (.obj k))],S⟩ λxs t'=>∃ws:List Nat,xs=wD ws/\L4 ws/\ws.length=r.length/\DeckAt k c t'.S
 | [],z,S,dk=>W_compL_nil.mpr ⟨[],rfl,(λ_ z=>nomatch z),rfl,dk⟩
 | d :: r,z,S,dk=>by
   rw [FK];refine Gf (G3 ?_);rw [if_pos rfl];right;refine hd.use 256 dk (λx S1 x0 x1 d1 k1=>?_);obtain ⟨x,rfl⟩:=Int.eq_ofNat_of_zero_le x0;refine (Gj hd r (z:=some (.val d)) d1).mono λxs t' z9=>?_;obtain ⟨ws,e,h1,h2,h3⟩:=z9;subst e;exact ⟨x :: ws,rfl,λy hy=>by
    rcases List.mem_cons.mp hy with rfl | hy
    ·lia
    ·exact h1 y hy,by rw [List.length_cons,h2];rfl,h3⟩
theorem O1 {c:Nat}:∀(p:Rd) (a:Nat),p.run w a = .told v b->a<=c->c < b->p.run (w.take c) a = .short:=by
 intro p
 induction p with
 | done v'=>intro a h h1 h2;rw [Rd.run] at h;cases h;lia
 | need ok nx ih=>
   intro a h h1 h2
   cases e:w[a]? with
   | none=>rw [BQ e] at h;cases h
   | some x=>
     rw [BA e] at h
     by_cases q:ok x=true
     ·rw [if_pos q] at h
      by_cases hac:a < c
      ·rw [BA (b:=x) (by rw [List.getElem?_take,if_pos hac];exact e),if_pos q];exact ih x (a + 1) h hac h2
      ·exact BQ (by rw [List.getElem?_take,if_neg hac])
     ·rw [if_neg q] at h;cases h
theorem Je (w:List Nat)(h:L4 w):Bm (.list (.number 0 255) 250) (.lst (wD w))=wD (w.length :: w):=by
 rw [Bm,KR λx hx=>?_,Bn]
 ·rfl
 ·obtain ⟨y,hy,rfl⟩:=List.mem_map.mp hx;have:=h y hy;exact ⟨_,rfl,by lia,by lia⟩
theorem OP (w:List Nat)(h:L4 w)(hl:w.length<=250):A4 (.list (.number 0 255) 250) (.lst (wD w))=true:=by
 rw [A4,Bool.and_eq_true,decide_eq_true_eq,List.all_eq_true];refine ⟨by rw [Bn];lia,λx hx=>?_⟩;obtain ⟨y,hy,rfl⟩:=List.mem_map.mp hx;have:=h y hy;simp only [A4,Bool.and_eq_true,decide_eq_true_eq];lia
def L6 (f:Fn):Prop:=∀(k c:Nat) (S:List Ob),DeckAt k c S->Wf f [.obj k] S λr S'=>r = .bl true/\DeckAt k c S'
theorem Op {cr:Fn}(hs:JC cs 6)(hr:LRO cr 6)(hd:DrawOk cd):L6 (fnOf 1 4 (DL cs cr cd)):=by
 intro k c S dk;have hL:LIM=100000:=rfl;refine Bl rfl ?_;unfold DL;left;refine hd.use 199 dk (λa S1 a0 a1 d1 k1=>?_);left;refine EO (Cl (by lia) (by lia)) ?_;refine (Gj hd _ d1).mono λxs t' z9=>?_;obtain ⟨w,e,hw,lw,d2⟩:=z9;subst e;rw [EI] at lw;refine Cb (by rw [Bn,hL];lia) ?_;generalize t'.S=S2 at d2 ⊢;have hdep:(Sh.list (.number 0 255) 250).depth<=6:=by decide +kernel
 have hwf:wf (.list (.number 0 255) 250)=true:=by decide +kernel
 have hfit:=OP w hw (by lia);left;refine Cb (by rw [Bn,hL];show 1 + _<=_;lia) ?_;left;refine Cb (by rw [hL,List.length_append,Bn];show 1 + _ + 2<=_;lia) ?_;left;have ew:[D.int ((wD w).length:Nat)]++wD w++[D.int 1,.int 2]=wD (w.length :: (w++[1,2])):=by rw [Bn];unfold wD;simp
 rw [ew];have hrun:=back 6 (.list (.number 0 255) 250) hdep hwf (w.length :: (w++[1,2])) (.lst (wD w)) 0 hfit ⟨[],wD [1,2],by rw [Je w hw,List.nil_append,<-Lc];rfl,rfl⟩;rw [Je w hw,Bn,List.length_cons] at hrun;refine (hr (.list (.number 0 255) 250) hdep hwf (w.length :: (w++[1,2])) 0 S2 (Nat.zero_le _)).mono λr1 S3 z9=>?_;obtain ⟨hG,h1⟩:=z9;rw [hrun] at h1;obtain ⟨d,fp,e,ho,hf⟩:=h1;subst e;left;rw [show (((0 + (w.length + 1):Nat)):Int)=((wD w).length:Int) + 1 by rw [Bn];lia];refine (hs S3 d (.lst (wD w)) fp _ ho (Es 6 _ hdep hwf _ hfit)).mono ?_;rintro r S' ⟨rfl,rfl⟩;left;exact ⟨rfl,d2.gw hG⟩
theorem RC {cr cp clb cv csh cdk:Fn}(hd:DrawOk cd)(hr:LRO cr 6)(hs:JC cs 6)(ha:Ev ca 6)(hp:Ew cp 6)(hlb:Gh clb 6)(hv:Fk cv 6)(hsh:E5 csh 6)(hl:L6 cl){ns:List Int}(hdk:Wf cdk [.scr ns] [] λr S'=>∃(k c:Nat) (ex:List Ob),r = .obj k/\DeckAt k c S'/\S'=[]++ex/\([]:List Ob).length<=k/\([]:List Ob).length<=c/\k < S'.length/\c < S'.length) :
 Wf (fnOf 1 12 (EV cd cr cs ca cp clb cv csh cl cdk)) [.scr ns] [] λr _=>r = .bl true:=by
 have hL:LIM=100000:=rfl;refine Bl rfl ?_;unfold EV;left;refine hdk.mono λr0 S0 z9=>?_;obtain ⟨k,c,ex,e,dk,_,_,_,_,_⟩:=z9;subst e;left;refine (hl k c S0 dk).mono ?_;rintro r S1 ⟨rfl,dk⟩;left;refine Ej (λr t=>∃(S:List Ob) (e2 e3 e4 e5 e6 e7 e8 e9 e10 e11:Option Sl),t=⟨[some (.val (.scr ns)),some (.val (.obj k)),e2,e3,e4,e5,e6,e7,e8,e9,e10,e11],S⟩/\DeckAt k c S) _ _ ⟨_,_,_,_,_,_,_,_,_,_,_,rfl,dk⟩ ?_ ?_
 ·rintro d r t ⟨S,e2,e3,e4,e5,e6,e7,e8,e9,e10,e11,rfl,dk⟩ _;left;refine hd.use 6 dk (λa S1 a0 a1 d1 k1=>?_);have hk1:=d1.lt;left;refine (hsh k c S1.length (S1++[.lst [.int 12]]) (1 + a) 12 (by lia) (by lia) (by lia) d1.more (by simp)).mono λv S2 z9=>?_;obtain ⟨s,e,R⟩:=z9;subst e;have f1:=R.few;have f2:=R.dep;have hdp6:s.depth<=6:=by lia
  have hcn:cnt s<=28:=by
   have:Ck (1 + a)<=16:=by unfold Ck;split <;> lia
   lia
  have hw:=R.w;have d2:=R.deck;clear R f1 f2 d1 dk k1 hk1;refine CA ?_
  change W _ ⟨[some (.val (.scr ns)),some (.val (.obj k)),some (.val d),some (.val s.d),e4,e5,e6,e7,e8,e9,e10,e11],S2⟩ _
  have hk2:=d2.lt;left;refine (hv s hdp6 hw hcn k c S2.length (S2++[.lst [.int 100,.int 600]]) 100 600 (by lia) (by lia) d2.more (by simp)).mono λv S3 R=>?_;have hfit:=R.fit;have d3:=R.deck;obtain ⟨a',b',_,z1,z2,z3,z4⟩:=R.lft;have hlen:(Bm s v).length<=80000:=by
   have q1:pos 100=100:=by decide
   have q2:pos 600=600:=by decide
   have q3:=F7 b';rw [q1] at z4;rw [q2] at z1;lia
  clear R z1 z2 z3 z4 d2 hk2;have hvv:=hlb s hdp6 hw v hfit (by rw [hL];lia);obtain ⟨ws,ews,hws⟩:=Nm (Ez 6 s hdp6 hw v hfit);have hws:L4 ws:=hws;have hnv:=Es 6 s hdp6 hw v hfit;rw [ews] at hvv hlen;rw [Bn] at hlen;refine CA ?_
  change W _ ⟨[some (.val (.scr ns)),some (.val (.obj k)),some (.val d),some (.val s.d),some (.val v),e5,e6,e7,e8,e9,e10,e11],S3⟩ _
  left;refine hvv.use ?_;left;refine hd.use 13 d3 (λm S4 m0 m1 d4 k4=>?_);left;refine EO (Cl (by lia) (by lia)) ?_;refine (Gj hd _ d4).mono λxs t' z9=>?_;obtain ⟨ah,e,hah,lah,d5⟩:=z9;subst e;rw [EI] at lah;refine Cb (by rw [Bn,hL];lia) ?_;generalize t'.S=S5 at d5 ⊢;left;refine Cb (by rw [Bn,Bn,hL];lia) ?_;left;refine hd.use 13 d5 (λm' S6 m0' m1' d6 k6=>?_);left;refine EO (Cl (by lia) (by lia)) ?_;refine (Gj hd _ d6).mono λxs t' z9=>?_;obtain ⟨bh,e,hbh,lbh,d7⟩:=z9;subst e;rw [EI] at lbh;refine Cb (by rw [Bn,hL];lia) ?_;generalize t'.S=S7 at d7 ⊢;left;refine Cb (by rw [List.length_append,Bn,Bn,Bn,hL];lia) ?_;left;have ew:wD ah++wD ws++wD bh=wD (ah++ws++bh):=by rw [Lc,Lc]
  rw [ew];have hla:ah.length<=(ah++ws++bh).length:=by rw [List.length_append,List.length_append];lia
  have hrun:=back 6 s hdp6 hw (ah++ws++bh) v ah.length hfit ⟨wD ah,wD bh,by rw [ews,<-List.append_assoc,ew],Bn ah⟩;rw [ews,Bn] at hrun;have hlw:(ah++ws++bh).length=ah.length + ws.length + bh.length:=by rw [List.length_append,List.length_append]
  generalize ah++ws++bh=w at hla hrun hlw ⊢;have hread:=hr s hdp6 hw w ah.length;rw [hrun] at hread;rw [Bn];refine (hread S7 hla).mono λr1 S8 z9=>?_;obtain ⟨hG8,h8⟩:=z9;obtain ⟨d8,fp,e,ho,hf⟩:=h8;subst e;have hk7:=d7.lt;have dk8:=d7.gw hG8;left;rw [Bn,Bn,show ((ah.length:Int) + (ws.length:Int))=((ah.length + ws.length:Nat):Int) from rfl];refine (hs S8 d8 v fp _ ho hnv).mono ?_;rintro r9 S9 ⟨rfl,rfl⟩;left;refine IB rfl (Ro w) ?_;left;refine (hp S9 d8 v fp ho hnv).mono ?_;rintro r10 S10 ⟨rfl,hsp,ho10⟩;have dk10:DeckAt k c S10:=dk8.of (hsp.off _ λz=>absurd (hf _ z) (by lia)) (hsp.off _ λz=>absurd (hf _ z) (by lia));left;refine (ha S10 d8 v fp ho10 hnv).mono ?_;rintro r11 S11 ⟨rfl,rfl⟩;left;rw [Bn];refine (hread S11 hla).mono λr12 S12 z9=>?_;obtain ⟨hG12,h12⟩:=z9;obtain ⟨d12,fp12,e,ho12,hf12⟩:=h12;subst e;have dk12:=dk10.gw hG12;left;rw [Bn,Bn,show ((ah.length:Int) + (ws.length:Int))=((ah.length + ws.length:Nat):Int) from rfl];refine (hs S12 d12 v fp12 _ ho12 hnv).mono ?_;rintro r13 S13 ⟨rfl,rfl⟩;left;rw [Bn];refine hd.use (if (ws.length:Int) > 1 then (ws.length:Int) else 1) dk12 (λx S14 x0 x1 d14 k14=>?_) rfl (by split <;> lia) (by split <;> lia);left;refine Ej (λr t=>∃(S:List Ob) (e10 e11:Option Sl),t=⟨[some (.val (.scr ns)),some (.val (.obj k)),some (.val d),some (.val s.d),some (.val v),some (.val (.lst (wD ws))),some (.val (.lst (wD ah))),some (.val (.lst (wD w))),some (.val (.lst (wD w))),some (.val (.lst [.str "told",d8,.int ((ah.length + ws.length:Nat):Int)])),e10,e11],S⟩/\DeckAt k c S) _ _ ⟨_,_,_,rfl,d14⟩ ?_ ?_
  ·rintro z r' t ⟨S,e10,e11,rfl,dk⟩ hz;obtain ⟨i,rfl⟩:∃i:Int,z = .int i:=by
    simp only [List.mem_cons,List.not_mem_nil,or_false] at hz;rcases hz with rfl | rfl | rfl | rfl <;> exact ⟨_,rfl⟩
   left;rw [Bn];refine DW (λz0=>?_) λz0=>?_
   ·obtain ⟨j,rfl⟩:=Int.eq_ofNat_of_zero_le (of_decide_eq_true z0);left;rw [Bn];refine DW (λz1=>?_) λz1=>?_
    ·have hj:j < ws.length:=by have:=of_decide_eq_true z1;lia
     left;rw [show ((ah.length:Int) + (j:Int))=((ah.length + j:Nat):Int) from rfl,UJ,Bn];have hsh:=hr s hdp6 hw (w.take (ah.length + j)) ah.length S (by rw [List.length_take];lia);rw [O1 _ _ hrun (Nat.le_add_right _ _) (by lia)] at hsh;refine hsh.mono ?_;rintro r15 S15 ⟨hG15,h15⟩;have h15:r15 = .lst [.str "short"]:=h15;subst h15;left;refine IB rfl (by decide +kernel) ?_;left;exact ⟨_,_,_,rfl,dk.gw hG15⟩
    ·left;exact ⟨_,_,_,rfl,dk⟩
   ·left;exact ⟨_,_,_,rfl,dk⟩
  ·rintro t ⟨S,e10,e11,rfl,dk⟩;exact ⟨_,_,_,_,_,_,_,_,_,_,_,rfl,dk⟩
 ·rintro t ⟨S,e2,e3,e4,e5,e6,e7,e8,e9,e10,e11,rfl,dk⟩;left;rfl
end LW
set_option maxHeartbeats 4000000
namespace F2
open PySem L2 PySem.Spec PySem.W
theorem Ox {k:Kd}{P:Program}{w:World}{K:PySem.W.Frag}{mg:Str->Option Value}{base:Heap}{n:Nat}{fa:Addr}{fd:FuncData}{ps:List Str}:okK k P w K mg base n fa fd ps (λ_ _=>none):=by
 cases k <;> exact ⟨λvs H Q E h=>(by obtain ⟨c,ds,S,_,_,r,S',e,_⟩:=h;cases e),λA' outer s H args us vs Q E _ _ _ _ h=>(by obtain ⟨c,ds,S,_,_,r,S',e,_⟩:=h;cases e)⟩
theorem us0 {n:Nat}:∀{us:List Value},us.length=n + 1->∃a vs,us=a :: vs/\vs.length=n
 | _ :: _,h=>⟨_,_,rfl,Nat.succ.inj h⟩
variable {us:List Value}
theorem us1 (h:us.length=1):∃a,us=[a]:=by
 obtain ⟨a,vs,rfl,q⟩:=us0 h;exact ⟨a,by rw [List.eq_nil_of_length_eq_zero q]⟩
theorem us2 (h:us.length=2):∃a b,us=[a,b]:=by
 obtain ⟨_,vs,rfl,q⟩:=us0 h;obtain ⟨_,rfl⟩:=us1 q;exact ⟨_,_,rfl⟩
theorem us3 (h:us.length=3):∃a b c,us=[a,b,c]:=by
 obtain ⟨_,vs,rfl,q⟩:=us0 h;obtain ⟨_,_,rfl⟩:=us2 q;exact ⟨_,_,_,rfl⟩
theorem us4 (h:us.length=4):∃a b c d,us=[a,b,c,d]:=by
 obtain ⟨_,vs,rfl,q⟩:=us0 h;obtain ⟨_,_,_,rfl⟩:=us3 q;exact ⟨_,_,_,_,rfl⟩
theorem us5 (h:us.length=5):∃a b c d e,us=[a,b,c,d,e]:=by
 obtain ⟨_,vs,rfl,q⟩:=us0 h;obtain ⟨_,_,_,_,rfl⟩:=us4 q;exact ⟨_,_,_,_,_,rfl⟩
theorem us6 (h:us.length=6):∃a b c d e f,us=[a,b,c,d,e,f]:=by
 obtain ⟨_,vs,rfl,q⟩:=us0 h;obtain ⟨_,_,_,_,_,rfl⟩:=us5 q;exact ⟨_,_,_,_,_,_,rfl⟩
theorem us7 (h:us.length=7):∃a b c d e f g,us=[a,b,c,d,e,f,g]:=by
 obtain ⟨_,vs,rfl,q⟩:=us0 h;obtain ⟨_,_,_,_,_,_,rfl⟩:=us6 q;exact ⟨_,_,_,_,_,_,_,rfl⟩
end F2
namespace K08
open PySem L2 F2 LW
set_option hygiene false
set_option compiler.extract_closed false
local macro_rules
 | `(tactic| clear 0)=>`(tactic| exact ⟨rfl,rfl,rfl,by decide +kernel,rfl,by decide +kernel,by decide +kernel⟩)
 | `(tactic| clear 1 $x)=>`(tactic| refine @Al _ _ _ _ _ _ _ _ _ _ _ _ (ih $x) hr rfl (M.mgs $x) (Fun.kp (M.fn $x)) (M.bd $x) ?_ (by decide) (by rfl) (by rfl))
 | `(tactic| clear 2 $a $b)=>`(tactic| refine @Aa _ _ _ _ _ $a $b rfl)
 | `(tactic| clear 3 $a)=>`(tactic| refine @Au _ _ _ _ _ _ _ _ Am An ?_ $a (λ_ _=>rfl))
 | `(tactic| clear 4 $a $b $c)=>`(tactic| refine @AO _ _ _ _ $a _ _ _ $b rfl $c ?_ (by rfl) (by first | exact .inl rfl | exact .inr rfl | assumption))
 | `(tactic| clear 5 $a $b $c $d)=>`(tactic| refine @AX _ _ _ _ _ _ _ _ _ _ $a $b rfl $c $d ?_ (by decide) (by decide) (by rfl) (by rfl))
 | `(tactic| clear 6)=>`(tactic| refine @Aj _ _ _ _ _ _ ?_ ?_)
 | `(tactic| clear 7 $a $b $c $d)=>`(tactic| refine @Ar _ _ _ _ _ _ _ _ _ $a $b $c $d)
 | `(tactic| clear 8)=>`(tactic| refine @A7 _ _ _ _ _ _ _ _ _ ?_ ?_ AG)
 | `(tactic| clear 9 $a $b $c)=>`(tactic| refine @A5 _ _ _ _ _ _ _ _ _ $a $b ?_ $c (AV _))
 | `(tactic| clear 10)=>`(tactic| refine @Ao _ _ _ _ ?_)
 | `(tactic| clear 11)=>`(tactic| refine @AJ _ _ _ _ ?_)
inductive Fx where
 | Bp | AW | Bq | Aw | AT | AD | A0 | Bj | Br | Bh | Bi | AZ | Bg | Ae | AQ | Ba | AA | Bd | Az | AB | AC | Bc | Ay | AE | AL | AK | Bb | law_
noncomputable def top (i:Nat):Stmt:=PySem.Challenge.pw_wireparley_k08_values_read.main.body.getD i (.Pass ⟨0,0,0,0⟩)
noncomputable abbrev nm:Fx->Str
 | .Bp=>"is_sign"
 | .AW=>"width_up_to"
 | .Bq=>"leading"
 | .Aw=>"read_value"
 | .AT=>"byte_at"
 | .AD=>"byte_up_to"
 | .A0=>"read_number"
 | .Bj=>"read_text"
 | .Br=>"sign_at"
 | .Bh=>"read_list"
 | .Bi=>"read_pair"
 | .AZ=>"read_choice"
 | .Bg=>"_law_deck"
 | .Ae=>"_law_draw"
 | .AQ=>"_law_far"
 | .Ba=>"_law_leaf"
 | .AA=>"_law_shape"
 | .Bd=>"_law_sign"
 | .Az=>"_law_count"
 | .AB=>"_law_value"
 | .AC=>"_law_same"
 | .Bc=>"_law_many"
 | .Ay=>"_law_bytes"
 | .AE=>"_law_read"
 | .AL=>"_law_spoil"
 | .AK=>"_law_apart"
 | .Bb=>"_law_long"
 | .law_=>"law"
abbrev st:Fx->Stmt
 | .Bp=>top 13
 | .AW=>top 16
 | .Bq=>top 17
 | .Aw=>top 18
 | .AT=>top 19
 | .AD=>top 20
 | .A0=>top 21
 | .Bj=>top 22
 | .Br=>top 23
 | .Bh=>top 24
 | .Bi=>top 25
 | .AZ=>top 26
 | .Bg=>top 28
 | .Ae=>top 29
 | .AQ=>top 30
 | .Ba=>top 31
 | .AA=>top 32
 | .Bd=>top 33
 | .Az=>top 34
 | .AB=>top 35
 | .AC=>top 36
 | .Bc=>top 37
 | .Ay=>top 38
 | .AE=>top 39
 | .AL=>top 40
 | .AK=>top 41
 | .Bb=>top 42
 | .law_=>top 43
noncomputable abbrev ps:Fx->List Str
 | .Bp=>["number"]
 | .AW=>["most"]
 | .Bq=>["number", "cut"]
 | .Aw=>["s", "wire", "at"]
 | .AT=>["wire", "at"]
 | .AD=>["most", "wire", "at"]
 | .A0=>["s", "wire", "at"]
 | .Bj=>["s", "wire", "at"]
 | .Br=>["wire", "at"]
 | .Bh=>["s", "wire", "at"]
 | .Bi=>["s", "wire", "at"]
 | .AZ=>["s", "wire", "at"]
 | .Bg=>["script"]
 | .Ae=>["deck", "many"]
 | .AQ=>["deck"]
 | .Ba=>["deck"]
 | .AA=>["deck", "deep", "left"]
 | .Bd=>["deck"]
 | .Az=>["s"]
 | .AB=>["deck", "s", "left"]
 | .AC=>["found", "due"]
 | .Bc=>["span"]
 | .Ay=>["s", "value"]
 | .AE=>["s", "wire", "at"]
 | .AL=>["thing"]
 | .AK=>["found", "value"]
 | .Bb=>["deck"]
 | .law_=>["script"]
noncomputable abbrev ns:Fx->List Str
 | .Bp=>["number"]
 | .AW=>["most"]
 | .Bq=>["number", "cut"]
 | .Aw=>["s", "wire", "at", "kind"]
 | .AT=>["wire", "at"]
 | .AD=>["most", "wire", "at", "byte"]
 | .A0=>["s", "wire", "at", "most", "width", "number", "k"]
 | .Bj=>["s", "wire", "at", "length", "place", "text", "k"]
 | .Br=>["wire", "at", "number"]
 | .Bh=>["s", "wire", "at", "length", "place", "things", "k", "part"]
 | .Bi=>["s", "wire", "at", "first", "second"]
 | .AZ=>["s", "wire", "at", "k", "part"]
 | .Bg=>["script", "cells"]
 | .Ae=>["deck", "many", "at", "found", "number"]
 | .AQ=>["deck", "found"]
 | .Ba=>["deck", "kind", "low", "great", "some"]
 | .AA=>["deck", "deep", "left", "kind", "most", "one", "some"]
 | .Bd=>["deck", "signs"]
 | .Az=>["s"]
 | .AB=>["deck", "s", "left", "span", "some", "many", "one", "k"]
 | .AC=>["found", "due"]
 | .Bc=>["span", "many"]
 | .Ay=>["s", "value", "number", "found", "k", "one"]
 | .AE=>["s", "wire", "at", "caught", "found", "e"]
 | .AL=>["thing", "one"]
 | .AK=>["found", "value"]
 | .Bb=>["deck", "row", "s", "found"]
 | .law_=>["script", "deck", "k", "s", "value", "due", "ahead", "wire", "handed", "found", "cut", "short"]
def body (Φ:Fx->Fn):Fx->Fn
 | .Bp=>fnOf 1 1 (EU)
 | .AW=>fnOf 1 1 (Dp)
 | .Bq=>fnOf 2 2 (EW)
 | .Aw=>fnOf 3 4 (CU (Φ .AZ) (Φ .Bi) (Φ .Bh) (Φ .Bj) (Φ .A0))
 | .AT=>fnOf 2 2 (DI)
 | .AD=>fnOf 3 4 (CT (Φ .AT))
 | .A0=>fnOf 3 7 (B7 (Φ .Bq) (Φ .AT) (Φ .AW))
 | .Bj=>fnOf 3 7 (Ct (Φ .Br) (Φ .AD))
 | .Br=>fnOf 2 3 (DP (Φ .Bp) (Φ .AT))
 | .Bh=>fnOf 3 8 (Cr (Φ .Aw) (Φ .AD))
 | .Bi=>fnOf 3 5 (Cs (Φ .Aw))
 | .AZ=>fnOf 3 5 (B6 (Φ .Aw) (Φ .AD))
 | .Bg=>fnOf 1 2 (DJ)
 | .Ae=>fnOf 2 5 (C3)
 | .AQ=>fnOf 1 2 (D4 (Φ .Ae))
 | .Ba=>fnOf 1 5 (DK (Φ .Ae) (Φ .AQ))
 | .AA=>fnOf 3 7 (Dn (Φ .Ae) (Φ .AA) (Φ .Ba))
 | .Bd=>fnOf 1 2 (DO (Φ .Ae))
 | .Az=>fnOf 1 1 (Dm (Φ .Az))
 | .AB=>fnOf 3 8 (Do (Φ .AB) (Φ .Ae) (Φ .Az) (Φ .Bd) (Φ .AQ))
 | .AC=>fnOf 2 2 (BW (Φ .AC))
 | .Bc=>fnOf 1 2 (DM)
 | .Ay=>fnOf 2 6 (Dl (Φ .Ay) (Φ .Bc))
 | .AE=>fnOf 3 6 (DN (Φ .Aw))
 | .AL=>fnOf 1 2 (CH (Φ .AL))
 | .AK=>fnOf 2 2 (CG (Φ .AK))
 | .Bb=>fnOf 1 4 (DL (Φ .AC) (Φ .AE) (Φ .Ae))
 | .law_=>fnOf 1 12 (EV (Φ .Ae) (Φ .AE) (Φ .AC) (Φ .AK) (Φ .AL) (Φ .Ay) (Φ .AB) (Φ .AA) (Φ .Bb) (Φ .Bg))
def run:Nat->Fx->Fn
 | 0=>λ_ _ _=>none
 | n + 1=>body (run n)
structure Md (K:PySem.W.Frag)(mg:Str->Option Value)(A:Fx->Addr)(fd:Fx->FuncData):Prop where
 fn:∀x,Fun K (nm x) (nm x) (st x) (A x) (fd x)
 mgs:∀x,mg (nm x)=some (.ref (A x))
 bd:∀x,Binds K (fd x) (ps x) []
 z_ValueError:mg "ValueError" = none
 z_abs:mg "abs" = none
 z_bool:mg "bool" = none
 z_int:mg "int" = none
 z_isinstance:mg "isinstance" = none
 z_len:mg "len" = none
 z_list:mg "list" = none
 z_max:mg "max" = none
 z_min:mg "min" = none
 z_ord:mg "ord" = none
 z_range:mg "range" = none
 z_str:mg "str" = none
 z_tuple:mg "tuple" = none
 z_zip:mg "zip" = none
 g_FIRST_SIGN:∃tk,mg "FIRST_SIGN" = some (.int 32 tk)
 g_LAST_SIGN:∃tk,mg "LAST_SIGN" = some (.int 126 tk)
 g_PERCENT_SIGN:∃tk,mg "PERCENT_SIGN" = some (.int 37 tk)
 g_SIGNS:∃tk,mg "SIGNS" = some (.str " !\"#$ &'()*+,-./0123456789:;<=>?@ABCDEFGHIJKLMNOPQRSTUVWXYZ[\\]^_`abcdefghijklmnopqrstuvwxyz{|}~" tk)
 xm:∃(P:Addr) (ca:Str->Addr),XM K mg P ca/\XF2 K (ca "Broken") P "Broken.__init__" (D6 (top 4) 0)/\∀n∈(["Short"]:List Str),XN0 K (ca n)
noncomputable abbrev kd:Fx->Kd
 | .Bp=>.pl
 | .AW=>.pl
 | .Bq=>.pl
 | .Aw=>.ex
 | .AT=>.ex
 | .AD=>.ex
 | .A0=>.ex
 | .Bj=>.ex
 | .Br=>.ex
 | .Bh=>.ex
 | .Bi=>.ex
 | .AZ=>.ex
 | .Bg=>.pl
 | .Ae=>.pl
 | .AQ=>.pl
 | .Ba=>.pl
 | .AA=>.pl
 | .Bd=>.pl
 | .Az=>.pl
 | .AB=>.pl
 | .AC=>.pl
 | .Bc=>.pl
 | .Ay=>.pl
 | .AE=>.pl
 | .AL=>.pl
 | .AK=>.pl
 | .Bb=>.pl
 | .law_=>.pl
theorem MG:FnScope ["self", "at", "side"] ["self", "at", "side"] (Av (D6 (top 4) 0)):=by clear 0
section
variable {P:Program}{w:World}{K:PySem.W.Frag}{mg:Str->Option Value}{base:Heap}{A:Fx->Addr}{fd:Fx->FuncData}{n:Nat}
theorem Ln:FnScope (ns .Bp) (ps .Bp) (Av (st .Bp)):=by clear 0
abbrev qIh (P:Program)(w:World)(K:PySem.W.Frag)(mg:Str->Option Value)(base:Heap)(A:Fx->Addr)(fd:Fx->FuncData)(n:Nat):Prop:=∀x,okK (kd x) P w K mg base (n + 2) (A x) (fd x) (ps x) (run n x)
abbrev qOk (P:Program)(w:World)(K:PySem.W.Frag)(mg:Str->Option Value)(base:Heap)(A:Fx->Addr)(fd:Fx->FuncData)(n:Nat)(k:Kd)(x:Fx):Prop:=okK k P w K mg base (n + 2 + 1) (A x) (fd x) (ps x) (run (n + 1) x)
theorem Lj (M:Md K mg A fd)(ih:qIh P w K mg base A fd n):qOk P w K mg base A fd n .pl .Bp:=by
 obtain ⟨_,g_FIRST_SIGN⟩:=M.g_FIRST_SIGN;obtain ⟨_,g_LAST_SIGN⟩:=M.g_LAST_SIGN;obtain ⟨_,g_PERCENT_SIGN⟩:=M.g_PERCENT_SIGN;refine BN (g:=fnOf 1 1 (EU)) rfl (BK rfl rfl (M.fn .Bp) Ln (λcdv A' outer s H E hr=>?_));clear 10;clear 11;refine @Kh _ _ _ _ _ _ _ ?_ ?_;refine Oa KG KG Iw Iw ?_ ?_ ?_;exact (Gm rfl g_FIRST_SIGN);exact (Ac 0);exact (Gm rfl g_LAST_SIGN);refine @Nd _ _ _ _ _ ?_;refine @E6 _ _ _ _ _ _ _ _ _ (Eb hr.units) (A9 (g:=λb=>!b)) ?_ ?_ (AV _);exact (Ac 0);exact (Gm rfl g_PERCENT_SIGN)
theorem HA:FnScope (ns .AW) (ps .AW) (Av (st .AW)):=by clear 0
theorem Hw (M:Md K mg A fd)(ih:qIh P w K mg base A fd n):qOk P w K mg base A fd n .pl .AW:=by
 refine BN (g:=fnOf 1 1 (Dp)) rfl (BK rfl rfl (M.fn .AW) HA (λcdv A' outer s H E hr=>?_));clear 10;clear 11;clear 7 C9 CJ ?_ Af;clear 7 AR AH ?_ Af;refine Nc ?_;exact (Ac 0)
theorem Lo:FnScope (ns .Bq) (ps .Bq) (Av (st .Bq)):=by clear 0
theorem Lk (M:Md K mg A fd)(ih:qIh P w K mg base A fd n):qOk P w K mg base A fd n .pl .Bq:=by
 refine BN (g:=fnOf 2 2 (EW)) rfl (BK rfl rfl (M.fn .Bq) Lo (λcdv A' outer s H E hr=>?_));clear 10;clear 11;clear 7 RY QM ?_ ?_;exact (Ac 0);clear 7 Cv B8 Af ?_;exact (Ac 1)
theorem sc_read_value_:FnScope (ns .Aw) (ps .Aw) (Av (st .Aw)):=by clear 0
theorem Ik (M:Md K mg A fd)(ih:qIh P w K mg base A fd n):qOk P w K mg base A fd n .ex .Aw:=by
 refine Da (g:=fnOf 3 4 (CU (run n .AZ) (run n .Bi) (run n .Bh) (run n .Bj) (run n .A0))) rfl (C6 rfl rfl (M.fn .Aw) sc_read_value_ (λcdv A' outer s H E hr hp hq ho=>?_));clear 6;clear 4 3 sc_read_value_.nd (.inl rfl);clear 3 Af;exact (Ac 0);clear 6;clear 8;clear 9 (BB hr.units) (A9 (g:=id)) AY;exact (Ac 3);clear 10;refine C7 ?_;refine @BP _ _ _ _ _ ?_;clear 2 C1 ?_;clear 2 ?_ Ag;exact (Ac 2);clear 6;clear 8;clear 9 (BB hr.units) (A9 (g:=id)) AY;exact (Ac 3);clear 10;refine BY ?_;refine E9 ?_;refine BH (ih .A0) hr rfl (M.mgs .A0) (Fun.kp (M.fn .A0)) (M.bd .A0) hp ?_;clear 2 ?_ ?_;exact (Ac 0);clear 2 ?_ ?_;exact (Ac 1);clear 2 ?_ Ag;exact (Ac 2);clear 6;clear 8;clear 9 (BB hr.units) (A9 (g:=id)) AY;exact (Ac 3);clear 10;refine BY ?_;refine E9 ?_;refine BH (ih .Bj) hr rfl (M.mgs .Bj) (Fun.kp (M.fn .Bj)) (M.bd .Bj) hp ?_;clear 2 ?_ ?_;exact (Ac 0);clear 2 ?_ ?_;exact (Ac 1);clear 2 ?_ Ag;exact (Ac 2);clear 6;clear 8;clear 9 (BB hr.units) (A9 (g:=id)) AY;exact (Ac 3);clear 10;refine BY ?_;refine E9 ?_;refine BH (ih .Bh) hr rfl (M.mgs .Bh) (Fun.kp (M.fn .Bh)) (M.bd .Bh) hp ?_;clear 2 ?_ ?_;exact (Ac 0);clear 2 ?_ ?_;exact (Ac 1);clear 2 ?_ Ag;exact (Ac 2);clear 6;clear 8;clear 9 (BB hr.units) (A9 (g:=id)) AY;exact (Ac 3);clear 10;refine BY ?_;refine E9 ?_;refine BH (ih .Bi) hr rfl (M.mgs .Bi) (Fun.kp (M.fn .Bi)) (M.bd .Bi) hp ?_;clear 2 ?_ ?_;exact (Ac 0);clear 2 ?_ ?_;exact (Ac 1);clear 2 ?_ Ag;exact (Ac 2);clear 10;refine BY ?_;refine E9 ?_;refine BH (ih .AZ) hr rfl (M.mgs .AZ) (Fun.kp (M.fn .AZ)) (M.bd .AZ) hp ?_;clear 2 ?_ ?_;exact (Ac 0);clear 2 ?_ ?_;exact (Ac 1);clear 2 ?_ Ag;exact (Ac 2)
theorem Lm:FnScope (ns .AT) (ps .AT) (Av (st .AT)):=by clear 0
theorem Li (M:Md K mg A fd)(ih:qIh P w K mg base A fd n):qOk P w K mg base A fd n .ex .AT:=by
 obtain ⟨P',ca,x,xt,x0⟩:=M.xm;refine Da (g:=fnOf 2 2 (DI)) rfl (C6 rfl rfl (M.fn .AT) Lm (λcdv A' outer s H E hr hp hq ho=>?_));clear 6;clear 8;clear 9 RV QI ?_;exact (Ac 1);clear 5 Bk Bo M.z_len Bx;clear 2 ?_ Ag;exact (Ac 0);clear 10;refine BY ?_;refine Ng (n:="Short") x (by decide) rfl (x0 "Short" (by decide)) rfl hq rfl ?_;clear 2 AY Ag;clear 10;refine C7 ?_;clear 3 ?_;exact (Ac 0);exact (Ac 1)
theorem sc_byte_up_to_:FnScope (ns .AD) (ps .AD) (Av (st .AD)):=by clear 0
theorem Ib (M:Md K mg A fd)(ih:qIh P w K mg base A fd n):qOk P w K mg base A fd n .ex .AD:=by
 obtain ⟨P',ca,x,xt,x0⟩:=M.xm;have xb:XN2 P w K mg base (ca "Broken") P':=GQ rfl MG rfl rfl rfl xt;refine Da (g:=fnOf 3 4 (CT (run n .AT))) rfl (C6 rfl rfl (M.fn .AD) sc_byte_up_to_ (λcdv A' outer s H E hr hp hq ho=>?_));clear 6;refine BY ?_;refine Ci (i:=3) sc_byte_up_to_.nd rfl (.inl rfl) ?_;refine BH (ih .AT) hr rfl (M.mgs .AT) (Fun.kp (M.fn .AT)) (M.bd .AT) hp ?_;clear 2 ?_ ?_;exact (Ac 1);clear 2 ?_ Ag;exact (Ac 2);clear 6;clear 8;clear 9 KF Iv ?_;exact (Ac 3);exact (Ac 0);clear 10;refine BY ?_;refine FS x xb (hr.mono (by lia)) rfl hq rfl ?_;clear 2 ?_ ?_;exact (Ac 2);clear 2 C1 Ag;clear 10;refine C7 ?_;exact (Ac 3)
theorem sc_read_number_:FnScope (ns .A0) (ps .A0) (Av (st .A0)):=by clear 0
theorem Hv (M:Md K mg A fd)(ih:qIh P w K mg base A fd n):qOk P w K mg base A fd n .ex .A0:=by
 obtain ⟨P',ca,x,xt,x0⟩:=M.xm;have xb:XN2 P w K mg base (ca "Broken") P':=GQ rfl MG rfl rfl rfl xt;refine Da (g:=fnOf 3 7 (B7 (run n .Bq) (run n .AT) (run n .AW))) rfl (C6 rfl rfl (M.fn .A0) sc_read_number_ (λcdv A' outer s H E hr hp hq ho=>?_));clear 6;clear 4 3 sc_read_number_.nd (.inl rfl);clear 7 BE By ?_ ?_;clear 3 Af;exact (Ac 0);clear 3 Af;exact (Ac 0);clear 6;clear 4 4 sc_read_number_.nd (.inl rfl);clear 1 .AW;clear 2 ?_ Ag;exact (Ac 3);clear 6;exact (AO (i:=5) sc_read_number_.nd rfl (.inl rfl) Af);clear 6;refine @D9 _ _ _ _ _ _ _ _ _ ho rfl ?_ ?_ ?_ (by intro _;rfl);refine BJ rfl M.z_range ?_;clear 2 ?_ Ag;exact (Ac 4);exact (BC sc_read_number_.nd rfl (.inl rfl));clear 6;refine BY ?_;refine Ci (i:=5) sc_read_number_.nd rfl (.inl rfl) ?_;refine Pl AR AH ?_ ?_;clear 7 Cv B8 ?_ Af;exact (Ac 5);refine BH (ih .AT) hr rfl (M.mgs .AT) (Fun.kp (M.fn .AT)) (M.bd .AT) hp ?_;clear 2 ?_ ?_;exact (Ac 1);clear 2 ?_ Ag;clear 7 AR AH ?_ ?_;exact (Ac 2);exact (Ac 6);clear 10;clear 8;clear 9 KF Iv ?_;exact (Ac 5);clear 1 .Bq;clear 2 ?_ ?_;exact (Ac 3);clear 2 ?_ Ag;clear 7 BE By ?_ ?_;clear 7 BE By ?_ Af;exact (Ac 4);exact (Ac 6);clear 10;refine BY ?_;refine FS x xb (hr.mono (by lia)) rfl hq rfl ?_;clear 2 ?_ ?_;clear 7 AR AH ?_ ?_;exact (Ac 2);exact (Ac 6);clear 2 C1 Ag;clear 10;refine C7 ?_;refine @BP _ _ _ _ _ ?_;clear 2 ?_ ?_;clear 7 AR AH ?_ ?_;clear 3 Af;exact (Ac 0);exact (Ac 5);clear 2 ?_ Ag;clear 7 AR AH ?_ ?_;exact (Ac 2);exact (Ac 4)
theorem sc_read_text_:FnScope (ns .Bj) (ps .Bj) (Av (st .Bj)):=by clear 0
theorem Jy (M:Md K mg A fd)(ih:qIh P w K mg base A fd n):qOk P w K mg base A fd n .ex .Bj:=by
 refine Da (g:=fnOf 3 7 (Ct (run n .Br) (run n .AD))) rfl (C6 rfl rfl (M.fn .Bj) sc_read_text_ (λcdv A' outer s H E hr hp hq ho=>?_));clear 6;refine BY ?_;refine Ci (i:=3) sc_read_text_.nd rfl (.inl rfl) ?_;refine BH (ih .AD) hr rfl (M.mgs .AD) (Fun.kp (M.fn .AD)) (M.bd .AD) hp ?_;clear 2 ?_ ?_;clear 3 Af;exact (Ac 0);clear 2 ?_ ?_;exact (Ac 1);clear 2 ?_ Ag;exact (Ac 2);clear 6;clear 4 4 sc_read_text_.nd (.inl rfl);clear 7 AR AH ?_ Af;exact (Ac 2);clear 6;exact (AO (i:=5) sc_read_text_.nd rfl (.inl rfl) AY);clear 6;refine @D9 _ _ _ _ _ _ _ _ _ ho rfl ?_ ?_ ?_ (by intro _;rfl);refine BJ rfl M.z_range ?_;clear 2 ?_ Ag;exact (Ac 3);exact (BC sc_read_text_.nd rfl (.inl rfl));clear 10;refine BY ?_;refine Ci (i:=5) sc_read_text_.nd rfl (.inl rfl) ?_;refine Pl AR AH ?_ ?_;exact (Ac 5);refine BH (ih .Br) hr rfl (M.mgs .Br) (Fun.kp (M.fn .Br)) (M.bd .Br) hp ?_;clear 2 ?_ ?_;exact (Ac 1);clear 2 ?_ Ag;clear 7 AR AH ?_ ?_;exact (Ac 4);exact (Ac 6);clear 10;refine C7 ?_;refine @BP _ _ _ _ _ ?_;clear 2 ?_ ?_;exact (Ac 5);clear 2 ?_ Ag;clear 7 AR AH ?_ ?_;exact (Ac 4);exact (Ac 3)
theorem sc_sign_at_:FnScope (ns .Br) (ps .Br) (Av (st .Br)):=by clear 0
theorem Ll (M:Md K mg A fd)(ih:qIh P w K mg base A fd n):qOk P w K mg base A fd n .ex .Br:=by
 obtain ⟨_,g_FIRST_SIGN⟩:=M.g_FIRST_SIGN;obtain ⟨_,g_SIGNS⟩:=M.g_SIGNS;obtain ⟨P',ca,x,xt,x0⟩:=M.xm;have xb:XN2 P w K mg base (ca "Broken") P':=GQ rfl MG rfl rfl rfl xt;refine Da (g:=fnOf 2 3 (DP (run n .Bp) (run n .AT))) rfl (C6 rfl rfl (M.fn .Br) sc_sign_at_ (λcdv A' outer s H E hr hp hq ho=>?_));clear 6;refine BY ?_;refine Ci (i:=2) sc_sign_at_.nd rfl (.inl rfl) ?_;refine BH (ih .AT) hr rfl (M.mgs .AT) (Fun.kp (M.fn .AT)) (M.bd .AT) hp ?_;clear 2 ?_ ?_;exact (Ac 0);clear 2 ?_ Ag;exact (Ac 1);clear 6;clear 8;refine @Ea _ _ _ _ ?_;refine @BL _ _ _ ?_ (by intro _;rfl);clear 1 .Bp;clear 2 ?_ Ag;exact (Ac 2);clear 10;refine BY ?_;refine FS x xb (hr.mono (by lia)) rfl hq rfl ?_;clear 2 ?_ ?_;exact (Ac 1);clear 2 C1 Ag;clear 10;refine C7 ?_;clear 3 ?_;exact (Oc rfl g_SIGNS);clear 7 BE By ?_ ?_;exact (Ac 2);exact (Gm rfl g_FIRST_SIGN)
theorem sc_read_list_:FnScope (ns .Bh) (ps .Bh) (Av (st .Bh)):=by clear 0
theorem Jw (M:Md K mg A fd)(ih:qIh P w K mg base A fd n):qOk P w K mg base A fd n .ex .Bh:=by
 refine Da (g:=fnOf 3 8 (Cr (run n .Aw) (run n .AD))) rfl (C6 rfl rfl (M.fn .Bh) sc_read_list_ (λcdv A' outer s H E hr hp hq ho=>?_));clear 6;refine BY ?_;refine Ci (i:=3) sc_read_list_.nd rfl (.inl rfl) ?_;refine BH (ih .AD) hr rfl (M.mgs .AD) (Fun.kp (M.fn .AD)) (M.bd .AD) hp ?_;clear 2 ?_ ?_;clear 3 Af;exact (Ac 0);clear 2 ?_ ?_;exact (Ac 1);clear 2 ?_ Ag;exact (Ac 2);clear 6;clear 4 4 sc_read_list_.nd (.inl rfl);clear 7 AR AH ?_ Af;exact (Ac 2);clear 6;clear 4 5 sc_read_list_.nd (.inl rfl);refine @E7 _ _ _ ?_;exact (Be Ag);clear 6;refine @D9 _ _ _ _ _ _ _ _ _ ho rfl ?_ ?_ ?_ (by intro _;rfl);refine BJ rfl M.z_range ?_;clear 2 ?_ Ag;exact (Ac 3);exact (BC sc_read_list_.nd rfl (.inl rfl));clear 6;refine BY ?_;refine Ci (i:=7) sc_read_list_.nd rfl (.inl rfl) ?_;refine BH (ih .Aw) hr rfl (M.mgs .Aw) (Fun.kp (M.fn .Aw)) (M.bd .Aw) hp ?_;clear 2 ?_ ?_;clear 3 Af;exact (Ac 0);clear 2 ?_ ?_;exact (Ac 1);clear 2 ?_ Ag;exact (Ac 4);clear 6;refine Gn ?_;refine I9 ?_ ?_;exact (Ac 5);clear 2 ?_ Ag;clear 3 Af;exact (Ac 7);clear 10;clear 4 4 sc_read_list_.nd (.inl rfl);clear 3 Af;exact (Ac 7);clear 10;refine C7 ?_;refine @BP _ _ _ _ _ ?_;clear 2 ?_ ?_;exact (Ac 5);clear 2 ?_ Ag;exact (Ac 4)
theorem sc_read_pair_:FnScope (ns .Bi) (ps .Bi) (Av (st .Bi)):=by clear 0
theorem Jx (M:Md K mg A fd)(ih:qIh P w K mg base A fd n):qOk P w K mg base A fd n .ex .Bi:=by
 refine Da (g:=fnOf 3 5 (Cs (run n .Aw))) rfl (C6 rfl rfl (M.fn .Bi) sc_read_pair_ (λcdv A' outer s H E hr hp hq ho=>?_));clear 6;refine BY ?_;refine Ci (i:=3) sc_read_pair_.nd rfl (.inl rfl) ?_;refine BH (ih .Aw) hr rfl (M.mgs .Aw) (Fun.kp (M.fn .Aw)) (M.bd .Aw) hp ?_;clear 2 ?_ ?_;clear 3 Af;exact (Ac 0);clear 2 ?_ ?_;exact (Ac 1);clear 2 ?_ Ag;exact (Ac 2);clear 6;refine BY ?_;refine Ci (i:=4) sc_read_pair_.nd rfl (.inl rfl) ?_;refine BH (ih .Aw) hr rfl (M.mgs .Aw) (Fun.kp (M.fn .Aw)) (M.bd .Aw) hp ?_;clear 2 ?_ ?_;clear 3 Af;exact (Ac 0);clear 2 ?_ ?_;exact (Ac 1);clear 2 ?_ Ag;clear 3 Af;exact (Ac 3);clear 10;refine C7 ?_;refine @BP _ _ _ _ _ ?_;clear 2 ?_ ?_;refine @BP _ _ _ _ _ ?_;clear 2 ?_ ?_;clear 3 Af;exact (Ac 3);clear 2 ?_ Ag;clear 3 Af;exact (Ac 4);clear 2 ?_ Ag;clear 3 Af;exact (Ac 4)
theorem sc_read_choice_:FnScope (ns .AZ) (ps .AZ) (Av (st .AZ)):=by clear 0
theorem Hu (M:Md K mg A fd)(ih:qIh P w K mg base A fd n):qOk P w K mg base A fd n .ex .AZ:=by
 refine Da (g:=fnOf 3 5 (B6 (run n .Aw) (run n .AD))) rfl (C6 rfl rfl (M.fn .AZ) sc_read_choice_ (λcdv A' outer s H E hr hp hq ho=>?_));clear 6;refine BY ?_;refine Ci (i:=3) sc_read_choice_.nd rfl (.inl rfl) ?_;refine BH (ih .AD) hr rfl (M.mgs .AD) (Fun.kp (M.fn .AD)) (M.bd .AD) hp ?_;clear 2 ?_ ?_;clear 7 BE By ?_ Af;clear 5 Bk Bo M.z_len Bx;clear 2 ?_ Ag;clear 3 Af;exact (Ac 0);clear 2 ?_ ?_;exact (Ac 1);clear 2 ?_ Ag;exact (Ac 2);clear 6;refine BY ?_;refine Ci (i:=4) sc_read_choice_.nd rfl (.inl rfl) ?_;refine BH (ih .Aw) hr rfl (M.mgs .Aw) (Fun.kp (M.fn .Aw)) (M.bd .Aw) hp ?_;clear 2 ?_ ?_;clear 3 ?_;clear 3 Af;exact (Ac 0);exact (Ac 3);clear 2 ?_ ?_;exact (Ac 1);clear 2 ?_ Ag;clear 7 AR AH ?_ Af;exact (Ac 2);clear 10;refine C7 ?_;refine @BP _ _ _ _ _ ?_;clear 2 ?_ ?_;refine @BP _ _ _ _ _ ?_;clear 2 AY ?_;clear 2 ?_ ?_;exact (Ac 3);clear 2 ?_ Ag;clear 3 Af;exact (Ac 4);clear 2 ?_ Ag;clear 3 Af;exact (Ac 4)
theorem sc_f_law_deck:FnScope (ns .Bg) (ps .Bg) (Av (st .Bg)):=by clear 0
theorem Jo (M:Md K mg A fd)(ih:qIh P w K mg base A fd n):qOk P w K mg base A fd n .pl .Bg:=by
 refine BN (g:=fnOf 1 2 (DJ)) rfl (BK rfl rfl (M.fn .Bg) sc_f_law_deck (λcdv A' outer s H E hr=>?_));clear 6;clear 4 1 sc_f_law_deck.nd (.inl rfl);refine @E7 _ _ _ ?_;refine @JI _ _ _ _ _ _ _ _ _ _ DF Gu rfl M.z_list Cp ?_ (by decide) (by decide) (by rfl) (by rfl);clear 2 ?_ Ag;refine @Ki _ _ _ _ _ _ _ _ _ _ _ sl3 LX ?_ LD ?_;exact (Ac 0);exact (LE Af);clear 6;clear 8;clear 9 (BB hr.units) (A9 (g:=id)) ?_;exact (Ac 1);refine @AU _ _ _ ?_;exact (Be Ag);clear 10;clear 4 1 sc_f_law_deck.nd (.inl rfl);refine @E7 _ _ _ ?_;refine @Be _ _ _ _ ?_;clear 2 Af Ag;clear 10;clear 11;refine @E7 _ _ _ ?_;refine @Be _ _ _ _ ?_;clear 2 ?_ ?_;exact (Ac 1);clear 2 ?_ ?_;clear 7 C4 Cz ?_ Af;clear 5 Bk Bo M.z_len Bx;clear 2 ?_ Ag;exact (Ac 0);clear 2 Af Ag
theorem sc_f_law_draw:FnScope (ns .Ae) (ps .Ae) (Av (st .Ae)):=by clear 0
theorem Jp (M:Md K mg A fd)(ih:qIh P w K mg base A fd n):qOk P w K mg base A fd n .pl .Ae:=by
 refine BN (g:=fnOf 2 5 (C3)) rfl (BK rfl rfl (M.fn .Ae) sc_f_law_draw (λcdv A' outer s H E hr=>?_));clear 6;clear 4 2 sc_f_law_draw.nd (.inl rfl);clear 7 C4 Cz ?_ ?_;clear 3 Af;exact (Ac 0);clear 5 Bk Bo M.z_len Bx;clear 2 ?_ Ag;clear 3 Af;exact (Ac 0);clear 6;refine EE ?_ ?_;clear 7 AR AH ?_ Af;clear 3 Af;exact (Ac 0);refine ED ?_ Af;exact (Ac 0);clear 6;clear 8;clear 9 (BB hr.units) (A9 (g:=id)) Af;clear 3 Af;exact (Ac 0);clear 6;clear 4 3 sc_f_law_draw.nd (.inl rfl);clear 7 C4 Cz ?_ ?_;clear 3 ?_;clear 3 Af;exact (Ac 0);exact (Ac 2);exact (Ac 1);clear 6;refine EE ?_ ?_;clear 7 C9 CJ ?_ ?_;clear 3 ?_;clear 3 Af;exact (Ac 0);exact (Ac 2);exact (Ac 1);refine ED ?_ ?_;clear 3 Af;exact (Ac 0);exact (Ac 2);clear 10;clear 11;exact (Ac 3);clear 6;clear 4 4 sc_f_law_draw.nd (.inl rfl);clear 7 C4 Cz ?_ Af;clear 7 AR AH ?_ ?_;clear 7 Cv B8 ?_ Af;clear 7 C4 Cz ?_ Af;clear 3 ?_;clear 3 Af;exact (Ac 0);exact (Ac 2);clear 7 Cv B8 ?_ Af;clear 3 Af;exact (Ac 0);clear 6;clear 4 4 sc_f_law_draw.nd (.inl rfl);clear 7 C4 Cz ?_ Af;clear 7 Cv B8 ?_ ?_;exact (Ac 4);exact (Ac 4);clear 10;clear 11;clear 7 C4 Cz ?_ ?_;clear 7 C9 CJ ?_ Af;clear 7 C4 Cz ?_ Af;clear 7 AR AH ?_ ?_;clear 7 Cv B8 ?_ Af;exact (Ac 4);clear 3 Af;exact (Ac 0);exact (Ac 1)
theorem sc_f_law_far:FnScope (ns .AQ) (ps .AQ) (Av (st .AQ)):=by clear 0
theorem KD (M:Md K mg A fd)(ih:qIh P w K mg base A fd n):qOk P w K mg base A fd n .pl .AQ:=by
 refine BN (g:=fnOf 1 2 (D4 (run n .Ae))) rfl (BK rfl rfl (M.fn .AQ) sc_f_law_far (λcdv A' outer s H E hr=>?_));clear 6;clear 4 1 sc_f_law_far.nd (.inl rfl);clear 7 AR AH ?_ ?_;clear 7 AR AH ?_ ?_;clear 7 Cv B8 ?_ ?_;clear 1 .Ae;clear 2 ?_ ?_;exact (Ac 0);clear 2 ?_ Ag;exact (Ar Cw B4 Af Af);exact (Ar Cw B4 Af Af);clear 7 Cv B8 ?_ ?_;clear 1 .Ae;clear 2 ?_ ?_;exact (Ac 0);clear 2 ?_ Ag;exact (Ar Cw B4 Af Af);exact (Ar Cw B4 Af Af);clear 1 .Ae;clear 2 ?_ ?_;exact (Ac 0);clear 2 ?_ Ag;exact (Ar Cw B4 Af Af);clear 10;clear 11;clear 7 Cv B8 ?_ ?_;exact (Ac 1);clear 3 ?_;refine @AU _ _ _ ?_;refine @Be _ _ _ _ ?_;clear 2 Af ?_;clear 2 ?_ Ag;exact (Tk SS QK Af);clear 1 .Ae;clear 2 ?_ ?_;exact (Ac 0);clear 2 Af Ag
theorem sc_f_law_leaf:FnScope (ns .Ba) (ps .Ba) (Av (st .Ba)):=by clear 0
theorem Jq (M:Md K mg A fd)(ih:qIh P w K mg base A fd n):qOk P w K mg base A fd n .pl .Ba:=by
 refine BN (g:=fnOf 1 5 (DK (run n .Ae) (run n .AQ))) rfl (BK rfl rfl (M.fn .Ba) sc_f_law_leaf (λcdv A' outer s H E hr=>?_));clear 6;clear 4 1 sc_f_law_leaf.nd (.inl rfl);clear 1 .Ae;clear 2 ?_ ?_;exact (Ac 0);clear 2 Af Ag;clear 6;clear 8;clear 9 (BB hr.units) (A9 (g:=id)) Af;exact (Ac 1);clear 10;clear 11;refine @BP _ _ _ _ _ ?_;clear 2 AY Ag;clear 6;clear 8;clear 9 EF DZ Af;exact (Ac 1);clear 10;clear 11;refine @BP _ _ _ _ _ ?_;clear 2 AY ?_;clear 2 ?_ Ag;clear 3 ?_;refine @AU _ _ _ ?_;refine @Be _ _ _ _ ?_;clear 2 Af ?_;clear 2 Af ?_;clear 2 Af ?_;clear 2 Af ?_;clear 2 ?_ Ag;clear 1 .Ae;clear 2 ?_ ?_;exact (Ac 0);clear 2 Af Ag;clear 1 .Ae;clear 2 ?_ ?_;exact (Ac 0);clear 2 Af Ag;clear 6;clear 4 2 sc_f_law_leaf.nd (.inl rfl);clear 3 ?_;refine @AU _ _ _ ?_;refine @Be _ _ _ _ ?_;clear 2 Af ?_;clear 2 ?_ ?_;clear 7 BE By ?_ Af;clear 1 .Ae;clear 2 ?_ ?_;exact (Ac 0);clear 2 Af Ag;clear 2 ?_ ?_;clear 1 .AQ;clear 2 ?_ Ag;exact (Ac 0);clear 2 ?_ Ag;clear 7 BE By Af ?_;exact (Ar Cw B4 Af Af);clear 1 .Ae;clear 2 ?_ ?_;exact (Ac 0);clear 2 Af Ag;clear 6;clear 4 3 sc_f_law_leaf.nd (.inl rfl);clear 7 BE By ?_ ?_;clear 3 ?_;refine @AU _ _ _ ?_;refine @Be _ _ _ _ ?_;clear 2 ?_ ?_;exact (Ar Cw B4 Af Af);clear 2 ?_ ?_;exact (Ar Cw B4 Af Af);clear 2 ?_ ?_;exact (Ar Cw B4 Af Af);clear 2 ?_ ?_;exact (Ar Cw B4 Af Af);clear 2 ?_ Ag;exact (Ar Cw B4 Af Af);clear 1 .Ae;clear 2 ?_ ?_;exact (Ac 0);clear 2 Af Ag;clear 1 .Ae;clear 2 ?_ ?_;exact (Ac 0);clear 2 Af Ag;clear 6;clear 4 4 sc_f_law_leaf.nd (.inl rfl);refine @AU _ _ _ ?_;refine @Be _ _ _ _ ?_;clear 2 Af ?_;clear 2 Af ?_;clear 2 Af ?_;clear 2 Af ?_;clear 2 Af ?_;clear 2 Af ?_;clear 2 Af ?_;clear 2 ?_ ?_;clear 1 .Ae;clear 2 ?_ ?_;exact (Ac 0);clear 2 Af Ag;clear 2 ?_ ?_;clear 5 J8 LT M.z_abs M1;clear 2 ?_ Ag;clear 1 .AQ;clear 2 ?_ Ag;exact (Ac 0);clear 2 ?_ ?_;exact (Ac 3);clear 2 ?_ Ag;clear 7 Cv B8 Af ?_;exact (Ar Cw B4 Af Af);clear 10;clear 11;refine @BP _ _ _ _ _ ?_;clear 2 AY ?_;clear 2 ?_ ?_;exact (Ac 2);clear 2 ?_ Ag;clear 5 (IR rfl) LV M.z_min G8;clear 2 ?_ ?_;clear 7 BE By ?_ Af;exact (Ar Cw B4 Af Af);clear 2 ?_ Ag;clear 7 AR AH ?_ ?_;exact (Ac 2);clear 3 ?_;exact (Ac 4);clear 1 .Ae;clear 2 ?_ ?_;exact (Ac 0);clear 2 Af Ag
theorem sc_f_law_shape:FnScope (ns .AA) (ps .AA) (Av (st .AA)):=by clear 0
theorem Ih (M:Md K mg A fd)(ih:qIh P w K mg base A fd n):qOk P w K mg base A fd n .pl .AA:=by
 refine BN (g:=fnOf 3 7 (Dn (run n .Ae) (run n .AA) (run n .Ba))) rfl (BK rfl rfl (M.fn .AA) sc_f_law_shape (λcdv A' outer s H E hr=>?_));clear 6;refine EE ?_ ?_;clear 7 BE By ?_ Af;clear 3 Af;exact (Ac 2);refine ED ?_ Af;exact (Ac 2);clear 6;clear 4 3 sc_f_law_shape.nd (.inl rfl);clear 1 .Ae;clear 2 ?_ ?_;exact (Ac 0);clear 2 Af Ag;clear 6;clear 8;refine @Dk _ _ _ ?_;refine @DH _ _ _ _ _ _ _ ?_ ?_;clear 9 EF DZ Af;exact (Ac 1);refine @DH _ _ _ _ _ _ _ ?_ ?_;clear 9 EF DZ Af;clear 3 Af;exact (Ac 2);refine @Dh _ _ _ _ ?_;clear 9 EF DZ Af;exact (Ac 3);clear 10;clear 11;clear 1 .Ba;clear 2 ?_ Ag;exact (Ac 0);clear 6;clear 8;clear 9 EF DZ Af;exact (Ac 3);clear 6;clear 4 4 sc_f_law_shape.nd (.inl rfl);clear 3 ?_;refine @AU _ _ _ ?_;refine @Be _ _ _ _ ?_;clear 2 Af ?_;clear 2 Af ?_;clear 2 Af ?_;clear 2 Af ?_;clear 2 ?_ Ag;clear 1 .Ae;clear 2 ?_ ?_;exact (Ac 0);clear 2 Af Ag;clear 1 .Ae;clear 2 ?_ ?_;exact (Ac 0);clear 2 Af Ag;clear 10;clear 11;refine @BP _ _ _ _ _ ?_;clear 2 AY ?_;clear 2 ?_ ?_;clear 1 .AA;clear 2 ?_ ?_;exact (Ac 0);clear 2 ?_ ?_;clear 7 BE By ?_ Af;exact (Ac 1);clear 2 ?_ Ag;exact (Ac 2);clear 2 ?_ Ag;exact (Ac 4);clear 6;clear 8;clear 9 EF DZ Af;exact (Ac 3);clear 6;clear 4 5 sc_f_law_shape.nd (.inl rfl);clear 1 .AA;clear 2 ?_ ?_;exact (Ac 0);clear 2 ?_ ?_;clear 7 BE By ?_ Af;exact (Ac 1);clear 2 ?_ Ag;exact (Ac 2);clear 10;clear 11;refine @BP _ _ _ _ _ ?_;clear 2 AY ?_;clear 2 ?_ ?_;exact (Ac 5);clear 2 ?_ Ag;clear 1 .AA;clear 2 ?_ ?_;exact (Ac 0);clear 2 ?_ ?_;clear 7 BE By ?_ Af;exact (Ac 1);clear 2 ?_ Ag;exact (Ac 2);clear 6;refine HU (i:=6) (Dg ["k"] [(0 , "deck") ,(2 , "left") ,(1 , "deep")] rfl rfl rfl rfl rfl) rfl sc_f_law_shape.nd rfl rfl ?_ ?_ ?_ ?_;refine BJ rfl M.z_range ?_;clear 2 ?_ Ag;clear 7 AR AH Af ?_;clear 1 .Ae;clear 2 ?_ ?_;exact (Ac 0);clear 2 ?_ Ag;clear 3 ?_;refine @AU _ _ _ ?_;refine @Be _ _ _ _ ?_;clear 2 Af ?_;clear 2 Af Ag;refine @Mj _ _ _ _ _ _ _ _ _ _ IP LU rfl M.z_int JW ?_ (by decide) (by decide) (by rfl) (by rfl);clear 2 ?_ Ag;refine @E6 _ _ _ _ _ _ _ _ _ (BB hr.units) (A9 (g:=id)) ?_ Af (AV _);exact (Ac 1);intro _ _ _ _ _;exact (BC (by show List.Nodup [("k" : Str) ,("deck" : Str) ,("left" : Str) ,("deep" : Str)] ;decide +kernel) rfl (.inl rfl));intro _ _ _ _ _;exact CO;intro _ _ _ _ _;clear 1 .AA;clear 2 ?_ ?_;exact (Ac 1);clear 2 ?_ ?_;clear 7 BE By ?_ Af;exact (Ac 3);clear 2 ?_ Ag;exact (Ac 2);clear 10;clear 11;refine @BP _ _ _ _ _ ?_;clear 2 AY ?_;clear 2 ?_ Ag;refine @Mj _ _ _ _ _ _ _ _ _ _ Jn QN rfl M.z_tuple Ds ?_ (by decide) (by decide) (by rfl) (by rfl);clear 2 ?_ Ag;exact (Ac 6)
theorem sc_f_law_sign:FnScope (ns .Bd) (ps .Bd) (Av (st .Bd)):=by clear 0
theorem Jv (M:Md K mg A fd)(ih:qIh P w K mg base A fd n):qOk P w K mg base A fd n .pl .Bd:=by
 refine BN (g:=fnOf 1 2 (DO (run n .Ae))) rfl (BK rfl rfl (M.fn .Bd) sc_f_law_sign (λcdv A' outer s H E hr=>?_));clear 6;exact (AO (i:=1) sc_f_law_sign.nd rfl (.inl rfl) AY);clear 10;clear 11;clear 3 ?_;exact (Ac 1);clear 1 .Ae;clear 2 ?_ ?_;exact (Ac 0);clear 2 Af Ag
theorem Iu:FnScope (ns .Az) (ps .Az) (Av (st .Az)):=by clear 0
theorem Ig (M:Md K mg A fd)(ih:qIh P w K mg base A fd n):qOk P w K mg base A fd n .pl .Az:=by
 refine BN (g:=fnOf 1 1 (Dm (run n .Az))) rfl (BK rfl rfl (M.fn .Az) Iu (λcdv A' outer s H E hr=>?_));clear 6;clear 8;clear 9 (BB hr.units) (A9 (g:=id)) AY;clear 3 Af;exact (Ac 0);clear 10;clear 11;clear 7 AR AH Af ?_;clear 1 .Az;clear 2 ?_ Ag;clear 3 Af;exact (Ac 0);clear 6;clear 8;clear 9 (BB hr.units) (A9 (g:=id)) AY;clear 3 Af;exact (Ac 0);clear 10;clear 11;clear 7 AR AH ?_ ?_;clear 7 AR AH Af ?_;clear 1 .Az;clear 2 ?_ Ag;clear 3 Af;exact (Ac 0);clear 1 .Az;clear 2 ?_ Ag;clear 3 Af;exact (Ac 0);clear 6;clear 8;clear 9 (BB hr.units) (A9 (g:=id)) AY;clear 3 Af;exact (Ac 0);clear 10;clear 11;clear 7 AR AH Af ?_;clear 5 (M3 rfl) OT M.z_max FL;clear 2 ?_ Ag;refine @AU _ _ _ ?_;refine E8 (Dg ["one"] [] rfl rfl rfl rfl rfl) rfl ?_ ?_ ?_ ?_;refine @FQ _ _ _ _ ?_;clear 3 Af;exact (Ac 0);intro _ _ _ _ _;exact (BC (by show List.Nodup [("one" : Str)] ;decide +kernel) rfl (.inl rfl));intro _ _ _ _ _;exact CO;intro _ _ _ _ _;clear 1 .Az;clear 2 ?_ Ag;exact (Ac 0);clear 10;exact (AJ Af)
theorem sc_f_law_value:FnScope (ns .AB) (ps .AB) (Av (st .AB)):=by clear 0
theorem Ij (M:Md K mg A fd)(ih:qIh P w K mg base A fd n):qOk P w K mg base A fd n .pl .AB:=by
 refine BN (g:=fnOf 3 8 (Do (run n .AB) (run n .Ae) (run n .Az) (run n .Bd) (run n .AQ))) rfl (BK rfl rfl (M.fn .AB) sc_f_law_value (λcdv A' outer s H E hr=>?_));clear 6;refine EE ?_ ?_;clear 7 BE By ?_ Af;clear 3 Af;exact (Ac 2);refine ED ?_ Af;exact (Ac 2);clear 6;refine EE ?_ ?_;clear 7 BE By ?_ Af;clear 3 Af;exact (Ac 2);refine ED ?_ Af;exact (Ac 2);clear 6;clear 8;clear 9 (BB hr.units) (A9 (g:=id)) AY;clear 3 Af;exact (Ac 1);clear 10;exact (AJ C1);clear 6;clear 8;clear 9 (BB hr.units) (A9 (g:=id)) AY;clear 3 Af;exact (Ac 1);clear 6;refine EE ?_ ?_;clear 7 BE By ?_ Af;clear 3 Af;exact (Ac 2);refine ED ?_ Af;exact (Ac 2);clear 6;clear 4 3 sc_f_law_value.nd (.inl rfl);clear 7 BE By ?_ ?_;clear 3 Af;exact (Ac 1);clear 3 Af;exact (Ac 1);clear 6;clear 4 4 sc_f_law_value.nd (.inl rfl);refine @AU _ _ _ ?_;refine @Be _ _ _ _ ?_;clear 2 Af ?_;clear 2 ?_ ?_;exact (Ac 3);clear 2 ?_ ?_;clear 7 C4 Cz ?_ ?_;clear 5 J8 LT M.z_abs M1;clear 2 ?_ Ag;clear 1 .AQ;clear 2 ?_ Ag;exact (Ac 0);clear 7 AR AH ?_ Af;exact (Ac 3);clear 2 ?_ Ag;clear 7 C4 Cz ?_ ?_;clear 1 .Ae;clear 2 ?_ ?_;exact (Ac 0);clear 2 Af Ag;clear 7 AR AH ?_ Af;exact (Ac 3);clear 10;clear 11;clear 7 AR AH ?_ ?_;clear 3 Af;exact (Ac 1);clear 3 ?_;exact (Ac 4);clear 1 .Ae;clear 2 ?_ ?_;exact (Ac 0);clear 2 Af Ag;clear 6;clear 8;clear 9 (BB hr.units) (A9 (g:=id)) AY;clear 3 Af;exact (Ac 1);clear 6;clear 4 5 sc_f_law_value.nd (.inl rfl);clear 5 (IS rfl) KY M.z_min G8;clear 2 ?_ ?_;clear 3 Af;exact (Ac 1);clear 2 ?_ ?_;clear 5 (ER rfl) Gv M.z_max FL;clear 2 Af ?_;clear 2 ?_ Ag;clear 7 C9 CJ ?_ Af;clear 3 Af;exact (Ac 2);clear 2 ?_ Ag;clear 3 ?_;refine @AU _ _ _ ?_;refine @Be _ _ _ _ ?_;clear 2 Af ?_;clear 2 Af ?_;clear 2 ?_ ?_;clear 1 .Ae;clear 2 ?_ ?_;exact (Ac 0);clear 2 Af Ag;clear 2 Af Ag;clear 1 .Ae;clear 2 ?_ ?_;exact (Ac 0);clear 2 Af Ag;clear 6;refine EE ?_ ?_;clear 7 BE By ?_ ?_;clear 3 Af;exact (Ac 2);exact (Ac 5);refine ED ?_ Af;exact (Ac 2);clear 10;clear 11;refine P6 AY ?_;clear 2 ?_ Ag;refine @AU _ _ _ ?_;refine E8 (Dg ["k"] [(0 , "deck")] rfl rfl rfl rfl rfl) rfl ?_ ?_ ?_ ?_;refine BJ rfl M.z_range ?_;clear 2 ?_ Ag;exact (Ac 5);intro _ _ _ _ _;exact (BC (by show List.Nodup [("k" : Str) ,("deck" : Str)] ;decide +kernel) rfl (.inl rfl));intro _ _ _ _ _;exact CO;intro _ _ _ _ _;clear 1 .Bd;clear 2 ?_ Ag;exact (Ac 1);clear 6;clear 8;clear 9 (BB hr.units) (A9 (g:=id)) AY;clear 3 Af;exact (Ac 1);clear 6;clear 4 5 sc_f_law_value.nd (.inl rfl);clear 5 (IS rfl) KY M.z_min G8;clear 2 ?_ ?_;clear 3 Af;exact (Ac 1);clear 2 ?_ ?_;clear 5 (ER rfl) Gv M.z_max FL;clear 2 Af ?_;clear 2 ?_ Ag;clear 7 C9 CJ ?_ ?_;clear 3 Af;exact (Ac 2);clear 7 Cv B8 Af ?_;clear 1 .Az;clear 2 ?_ Ag;clear 3 Af;exact (Ac 1);clear 2 ?_ Ag;clear 5 (ER rfl) Gv M.z_max FL;clear 2 Af ?_;clear 2 ?_ Ag;clear 7 C9 CJ ?_ Af;clear 3 Af;exact (Ac 2);clear 6;clear 4 5 sc_f_law_value.nd (.inl rfl);clear 5 (IR rfl) LV M.z_min G8;clear 2 ?_ ?_;exact (Ac 5);clear 2 ?_ Ag;clear 3 ?_;refine @AU _ _ _ ?_;refine @Be _ _ _ _ ?_;clear 2 Af ?_;clear 2 Af ?_;clear 2 ?_ ?_;clear 1 .Ae;clear 2 ?_ ?_;exact (Ac 0);clear 2 Af Ag;clear 2 Af Ag;clear 1 .Ae;clear 2 ?_ ?_;exact (Ac 0);clear 2 Af Ag;clear 10;clear 11;refine @AU _ _ _ ?_;refine E8 (Dg ["k"] [(0 , "deck") ,(2 , "left") ,(1 , "s")] rfl rfl rfl rfl rfl) rfl ?_ ?_ ?_ ?_;refine BJ rfl M.z_range ?_;clear 2 ?_ Ag;exact (Ac 5);intro _ _ _ _ _;exact (BC (by show List.Nodup [("k" : Str) ,("deck" : Str) ,("left" : Str) ,("s" : Str)] ;decide +kernel) rfl (.inl rfl));intro _ _ _ _ _;exact CO;intro _ _ _ _ _;clear 1 .AB;clear 2 ?_ ?_;exact (Ac 1);clear 2 ?_ ?_;clear 3 Af;exact (Ac 3);clear 2 ?_ Ag;exact (Ac 2);clear 6;clear 8;clear 9 (BB hr.units) (A9 (g:=id)) AY;clear 3 Af;exact (Ac 1);clear 6;clear 4 6 sc_f_law_value.nd (.inl rfl);clear 1 .AB;clear 2 ?_ ?_;exact (Ac 0);clear 2 ?_ ?_;clear 3 Af;exact (Ac 1);clear 2 ?_ Ag;exact (Ac 2);clear 10;clear 11;refine @BP _ _ _ _ _ ?_;clear 2 ?_ ?_;exact (Ac 6);clear 2 ?_ Ag;clear 1 .AB;clear 2 ?_ ?_;exact (Ac 0);clear 2 ?_ ?_;clear 3 Af;exact (Ac 1);clear 2 ?_ Ag;exact (Ac 2);clear 6;clear 4 7 sc_f_law_value.nd (.inl rfl);clear 1 .Ae;clear 2 ?_ ?_;exact (Ac 0);clear 2 ?_ Ag;clear 5 Bk Bo M.z_len Bx;clear 2 ?_ Ag;clear 3 Af;exact (Ac 1);clear 10;clear 11;refine @BP _ _ _ _ _ ?_;clear 2 AY ?_;clear 2 ?_ ?_;exact (Ac 7);clear 2 ?_ Ag;clear 1 .AB;clear 2 ?_ ?_;exact (Ac 0);clear 2 ?_ ?_;clear 3 ?_;clear 3 Af;exact (Ac 1);exact (Ac 7);clear 2 ?_ Ag;exact (Ac 2)
theorem Jz:FnScope (ns .AC) (ps .AC) (Av (st .AC)):=by clear 0
theorem Ju (M:Md K mg A fd)(ih:qIh P w K mg base A fd n):qOk P w K mg base A fd n .pl .AC:=by
 refine BN (g:=fnOf 2 2 (BW (run n .AC))) rfl (BK rfl rfl (M.fn .AC) Jz (λcdv A' outer s H E hr=>?_));clear 6;clear 8;refine @Dk _ _ _ ?_;refine @DH _ _ _ _ _ _ _ ?_ ?_;refine @BL _ _ _ ?_ (by intro _;rfl);clear 5 BF CP M.z_isinstance AS;clear 2 ?_ ?_;exact (Ac 1);clear 2 ?_ Ag;exact (Cn rfl M.z_list Cp);refine @Dh _ _ _ _ ?_;refine @BL _ _ _ ?_ (by intro _;rfl);clear 5 BF CP M.z_isinstance AS;clear 2 ?_ ?_;exact (Ac 1);clear 2 ?_ Ag;exact (Cn rfl M.z_tuple Ds);clear 6;clear 8;refine @Dk _ _ _ ?_;refine @DH _ _ _ _ _ _ _ ?_ ?_;clear 9 (Eb hr.units) (A9 (g:=λb=>!b)) ?_;clear 5 BF CP M.z_isinstance AS;clear 2 ?_ ?_;exact (Ac 1);clear 2 ?_ Ag;exact (Cn rfl M.z_list Cp);clear 5 BF Dv M.z_isinstance AS;clear 2 ?_ ?_;exact (Ac 0);clear 2 ?_ Ag;exact (Cn rfl M.z_list Cp);refine @Dh _ _ _ _ ?_;clear 9 (Eb hr.units) (A9 (g:=λb=>!b)) ?_;clear 5 BF CP M.z_isinstance AS;clear 2 ?_ ?_;exact (Ac 1);clear 2 ?_ Ag;exact (Cn rfl M.z_tuple Ds);clear 5 BF Dv M.z_isinstance AS;clear 2 ?_ ?_;exact (Ac 0);clear 2 ?_ Ag;exact (Cn rfl M.z_tuple Ds);clear 10;exact (AJ Dj);clear 6;clear 8;clear 9 (Eb hr.units) (A9 (g:=λb=>!b)) ?_;clear 5 Bk Bo M.z_len Bx;clear 2 ?_ Ag;exact (Ac 0);clear 5 Bk Bo M.z_len Bx;clear 2 ?_ Ag;exact (Ac 1);clear 10;exact (AJ Dj);clear 10;clear 11;refine @E6 _ _ _ _ _ _ _ _ _ F1 NI Dj ?_ (by with_unfolding_all rfl);refine @AU _ _ _ ?_;refine Kj (Dg ["one" , "other"] [] rfl rfl rfl rfl rfl) rfl ?_ ?_ ?_ ?_;refine LC rfl M.z_zip ?_;clear 2 ?_ ?_;exact (Ac 0);clear 2 ?_ Ag;exact (Ac 1);intro _ _ _ _ _;refine Pj rfl ?_;refine Fq ?_ ?_;exact (BC (by show List.Nodup [("one" : Str) ,("other" : Str)] ;decide +kernel) rfl (.inl rfl));refine Fq ?_ LB;exact (BC (by show List.Nodup [("one" : Str) ,("other" : Str)] ;decide +kernel) rfl (.inl rfl));intro _ _ _ _ _;exact CO;intro _ _ _ _ _;clear 1 .AC;clear 2 ?_ ?_;exact (Ac 0);clear 2 ?_ Ag;exact (Ac 1);clear 6;clear 8;refine @Dk _ _ _ ?_;refine @DH _ _ _ _ _ _ _ ?_ ?_;clear 9 Ny NJ C1;exact (Ac 1);refine @Dh _ _ _ _ ?_;refine @BL _ _ _ ?_ (by intro _;rfl);clear 5 BF CP M.z_isinstance AS;clear 2 ?_ ?_;exact (Ac 1);clear 2 ?_ Ag;exact (Cn rfl M.z_str Ri);clear 10;clear 11;refine @E6 _ _ _ _ _ _ _ _ _ (BB hr.units) (A9 (g:=id)) ?_ ?_ (AV _);exact (Ac 0);exact (Ac 1);clear 10;clear 11;refine @Kh _ _ _ _ _ _ _ ?_ ?_;clear 5 BF Dv M.z_isinstance AS;clear 2 ?_ ?_;exact (Ac 0);clear 2 ?_ Ag;exact (Cn rfl M.z_int JW);refine @Kh _ _ _ _ _ _ _ ?_ ?_;refine @Rs _ _ _ _ ?_;clear 5 BF Dv M.z_isinstance AS;clear 2 ?_ ?_;exact (Ac 0);clear 2 ?_ Ag;exact (Cn rfl M.z_bool PQ);refine @Nd _ _ _ _ _ ?_;refine @E6 _ _ _ _ _ _ _ _ _ (BB hr.units) (A9 (g:=id)) ?_ ?_ (AV _);exact (Ac 0);exact (Ac 1)
theorem sc_f_law_many:FnScope (ns .Bc) (ps .Bc) (Av (st .Bc)):=by clear 0
theorem Js (M:Md K mg A fd)(ih:qIh P w K mg base A fd n):qOk P w K mg base A fd n .pl .Bc:=by
 refine BN (g:=fnOf 1 2 (DM)) rfl (BK rfl rfl (M.fn .Bc) sc_f_law_many (λcdv A' outer s H E hr=>?_));clear 6;exact (AO (i:=1) sc_f_law_many.nd rfl (.inl rfl) Af);clear 6;refine Od PassesOwn.never ?_ ?_;clear 9 KF Iv Af;exact (Ac 0);clear 6;clear 4 0 sc_f_law_many.nd (.inl rfl);clear 7 C9 CJ ?_ Af;exact (Ac 0);clear 10;clear 4 1 sc_f_law_many.nd (.inl rfl);clear 7 AR AH ?_ Af;exact (Ac 1);clear 10;clear 11;exact (Ac 1)
theorem sc_f_law_bytes:FnScope (ns .Ay) (ps .Ay) (Av (st .Ay)):=by clear 0
theorem Ie (M:Md K mg A fd)(ih:qIh P w K mg base A fd n):qOk P w K mg base A fd n .pl .Ay:=by
 refine BN (g:=fnOf 2 6 (Dl (run n .Ay) (run n .Bc))) rfl (BK rfl rfl (M.fn .Ay) sc_f_law_bytes (λcdv A' outer s H E hr=>?_));clear 6;clear 8;clear 9 (BB hr.units) (A9 (g:=id)) AY;clear 3 Af;exact (Ac 0);clear 10;clear 11;refine @AU _ _ _ ?_;exact (Be Ag);clear 6;clear 8;clear 9 (BB hr.units) (A9 (g:=id)) AY;clear 3 Af;exact (Ac 0);clear 6;clear 4 2 sc_f_law_bytes.nd (.inl rfl);clear 7 BE By ?_ ?_;exact (Ac 1);clear 3 Af;exact (Ac 0);clear 6;refine @Km _ _ _ _ 3 _ _ _ sc_f_law_bytes.nd rfl (.inl rfl) ?_ (by rfl) (by first | exact .inl rfl | exact .inr rfl | assumption);exact (Be Ag);clear 6;refine @D9 _ _ _ _ _ _ _ _ _ PassesOwn.never rfl ?_ ?_ ?_ (by intro _;rfl);refine BJ rfl M.z_range ?_;clear 2 ?_ Ag;clear 1 .Bc;clear 2 ?_ Ag;clear 7 BE By ?_ ?_;clear 3 Af;exact (Ac 0);clear 3 Af;exact (Ac 0);exact (BC sc_f_law_bytes.nd rfl (.inl rfl));clear 6;refine Ml 3 ?_;clear 2 Af ?_;clear 2 ?_ Ag;clear 7 C4 Cz ?_ Af;exact (Ac 2);clear 10;clear 4 2 sc_f_law_bytes.nd (.inl rfl);clear 7 C9 CJ ?_ Af;exact (Ac 2);clear 10;clear 11;exact (Ac 3);clear 6;clear 8;clear 9 (BB hr.units) (A9 (g:=id)) AY;clear 3 Af;exact (Ac 0);clear 10;clear 11;clear 7 AR AH ?_ ?_;refine @AU _ _ _ ?_;refine @Be _ _ _ _ ?_;clear 2 ?_ Ag;clear 5 Bk Bo M.z_len Bx;clear 2 ?_ Ag;exact (Ac 1);refine @AU _ _ _ ?_;refine E8 (Dg ["sign"] [] rfl rfl rfl rfl rfl) rfl ?_ ?_ ?_ ?_;refine @FQ _ _ _ _ ?_;exact (Ac 1);intro _ _ _ _ _;exact (BC (by show List.Nodup [("sign" : Str)] ;decide +kernel) rfl (.inl rfl));intro _ _ _ _ _;exact CO;intro _ _ _ _ _;clear 5 N4 QL M.z_ord Rh;clear 2 ?_ Ag;exact (Ac 0);clear 6;clear 8;clear 9 (BB hr.units) (A9 (g:=id)) AY;clear 3 Af;exact (Ac 0);clear 10;clear 11;clear 7 AR AH ?_ ?_;clear 1 .Ay;clear 2 ?_ ?_;clear 3 Af;exact (Ac 0);clear 2 ?_ Ag;clear 3 Af;exact (Ac 1);clear 1 .Ay;clear 2 ?_ ?_;clear 3 Af;exact (Ac 0);clear 2 ?_ Ag;clear 3 Af;exact (Ac 1);clear 6;clear 8;clear 9 (BB hr.units) (A9 (g:=id)) AY;clear 3 Af;exact (Ac 0);clear 10;clear 11;clear 7 AR AH ?_ ?_;refine @AU _ _ _ ?_;refine @Be _ _ _ _ ?_;clear 2 ?_ Ag;clear 3 Af;exact (Ac 1);clear 1 .Ay;clear 2 ?_ ?_;clear 3 ?_;clear 3 Af;exact (Ac 0);clear 3 Af;exact (Ac 1);clear 2 ?_ Ag;clear 3 Af;exact (Ac 1);clear 6;refine @Km _ _ _ _ 3 _ _ _ sc_f_law_bytes.nd rfl (.inl rfl) ?_ (by rfl) (by first | exact .inl rfl | exact .inr rfl | assumption);refine @Be _ _ _ _ ?_;clear 2 ?_ Ag;clear 5 Bk Bo M.z_len Bx;clear 2 ?_ Ag;exact (Ac 1);clear 6;refine @D9 _ _ _ _ _ _ _ _ _ PassesOwn.never rfl ?_ ?_ ?_ (by intro _;rfl);refine @FQ _ _ _ _ ?_;exact (Ac 1);exact (BC sc_f_law_bytes.nd rfl (.inl rfl));clear 10;refine @Km _ _ _ _ 3 _ _ _ sc_f_law_bytes.nd rfl (.inl rfl) ?_ (by rfl) (by first | exact .inl rfl | exact .inr rfl | assumption);refine @Tl _ _ _ _ _ _ _ _ _ op_cat OR ?_ ?_;exact (Ac 3);clear 1 .Ay;clear 2 ?_ ?_;clear 3 Af;exact (Ac 0);clear 2 ?_ Ag;exact (Ac 5);clear 10;clear 11;exact (Ac 3)
theorem sc_f_law_read:FnScope (ns .AE) (ps .AE) (Av (st .AE)):=by clear 0
theorem Jt (M:Md K mg A fd)(ih:qIh P w K mg base A fd n):qOk P w K mg base A fd n .pl .AE:=by
 obtain ⟨P',ca,x,xt,x0⟩:=M.xm;refine BN (g:=fnOf 3 6 (DN (run n .Aw))) rfl (BK rfl rfl (M.fn .AE) sc_f_law_read (λcdv A' outer s H E hr=>?_));clear 6;exact (AO (i:=3) sc_f_law_read.nd rfl (.inl rfl) C1);clear 6;exact (AO (i:=4) sc_f_law_read.nd rfl (.inl rfl) C1);clear 6;refine Rv (qx:=true) x RP rfl rfl ?_ ?_;intro pn E hp;refine Oe ?_;refine Ci (i:=4) sc_f_law_read.nd rfl (.inl rfl) ?_;refine BH (ih .Aw) hr rfl (M.mgs .Aw) (Fun.kp (M.fn .Aw)) (M.bd .Aw) hp ?_;clear 2 ?_ ?_;exact (Ac 0);clear 2 ?_ ?_;exact (Ac 1);clear 2 ?_ Ag;exact (Ac 2);refine Tm (i:=5) x rfl x.pm x.pc (λ_ hn=>x.subP hn) sc_f_law_read.nd rfl rfl ?_ Ru;intro y;clear 10;clear 4 3 sc_f_law_read.nd (.inl rfl);exact (Ac 5);clear 6;clear 8;clear 9 Ny NJ C1;exact (Ac 3);clear 6;clear 8;refine @Dk _ _ _ ?_;refine @DH _ _ _ _ _ _ _ ?_ ?_;refine @Ea _ _ _ _ ?_;refine @BL _ _ _ ?_ (by intro _;rfl);clear 5 BF CP M.z_isinstance AS;clear 2 ?_ ?_;exact (Ac 4);clear 2 ?_ Ag;exact (Cn rfl M.z_tuple Ds);refine @Dh _ _ _ _ ?_;clear 9 (Eb hr.units) (A9 (g:=λb=>!b)) Af;clear 5 Bk Bo M.z_len Bx;clear 2 ?_ Ag;exact (Ac 4);clear 10;clear 11;refine @AU _ _ _ ?_;refine @Be _ _ _ _ ?_;clear 2 AY Ag;clear 10;clear 11;clear 7 AR AH ?_ ?_;refine @AU _ _ _ ?_;refine @Be _ _ _ _ ?_;clear 2 AY Ag;refine @AU _ _ _ ?_;refine @JI _ _ _ _ _ _ _ _ _ _ DF Gu rfl M.z_list Cp ?_ (by decide) (by decide) (by rfl) (by rfl);clear 2 ?_ Ag;exact (Ac 4);clear 6;clear 8;refine @Dk _ _ _ ?_;refine @DH _ _ _ _ _ _ _ ?_ ?_;refine @Ea _ _ _ _ ?_;refine @BL _ _ _ ?_ (by intro _;rfl);refine P5 x rfl M.z_isinstance AS rfl M.z_ValueError Jm ?_;exact (Ac 3);refine @Dh _ _ _ _ ?_;refine @BL _ _ _ ?_ (by intro _;rfl);refine P4 x rfl M.z_isinstance AS (EC (n:="NoName") x (by decide) rfl (EC (n:="NoRow") x (by decide) rfl (EC (n:="NoTalk") x (by decide) rfl (EC (n:="NoText") x (by decide) rfl (EC (n:="NoValue") x (by decide) rfl P0))))) ?_;exact (Ac 3);clear 10;clear 11;refine @AU _ _ _ ?_;refine @Be _ _ _ _ ?_;clear 2 AY Ag;clear 6;clear 8;refine @BL _ _ _ ?_ (by intro _;rfl);refine HS (n:="Short") x (by decide) rfl M.z_isinstance AS rfl ?_;exact (Ac 3);clear 10;clear 11;clear 3 ?_;refine @AU _ _ _ ?_;refine @Be _ _ _ _ ?_;clear 2 ?_ ?_;refine @AU _ _ _ ?_;refine @Be _ _ _ _ ?_;clear 2 AY Ag;clear 2 ?_ Ag;refine @AU _ _ _ ?_;refine @Be _ _ _ _ ?_;clear 2 AY Ag;refine @Mj _ _ _ _ _ _ _ _ _ _ IP LU rfl M.z_int JW ?_ (by decide) (by decide) (by rfl) (by rfl);clear 2 ?_ Ag;refine HS (n:="Broken") x (by decide) rfl M.z_isinstance AS rfl ?_;exact (Ac 3);clear 6;clear 8;refine @Dk _ _ _ ?_;refine @DH _ _ _ _ _ _ _ ?_ ?_;refine @Ea _ _ _ _ ?_;refine @BL _ _ _ ?_ (by intro _;rfl);refine HS (n:="Broken") x (by decide) rfl M.z_isinstance AS rfl ?_;exact (Ac 3);refine @Dh _ _ _ _ ?_;clear 9 Nz NK C1;refine Nb x x.nd ?_ rfl;exact (Ac 3);clear 10;clear 11;refine @AU _ _ _ ?_;refine @Be _ _ _ _ ?_;clear 2 AY Ag;clear 10;clear 11;refine @AU _ _ _ ?_;refine @Be _ _ _ _ ?_;clear 2 AY ?_;clear 2 ?_ Ag;refine Nb x x.na ?_ rfl;exact (Ac 3)
theorem sc_f_law_spoil:FnScope (ns .AL) (ps .AL) (Av (st .AL)):=by clear 0
theorem Ii (M:Md K mg A fd)(ih:qIh P w K mg base A fd n):qOk P w K mg base A fd n .pl .AL:=by
 refine BN (g:=fnOf 1 2 (CH (run n .AL))) rfl (BK rfl rfl (M.fn .AL) sc_f_law_spoil (λcdv A' outer s H E hr=>?_));clear 6;clear 8;refine @Dk _ _ _ ?_;refine @DH _ _ _ _ _ _ _ ?_ ?_;refine @BL _ _ _ ?_ (by intro _;rfl);clear 5 BF Dv M.z_isinstance AS;clear 2 ?_ ?_;exact (Ac 0);clear 2 ?_ Ag;exact (Cn rfl M.z_list Cp);refine @Dh _ _ _ _ ?_;refine @BL _ _ _ ?_ (by intro _;rfl);clear 5 BF Dv M.z_isinstance AS;clear 2 ?_ ?_;exact (Ac 0);clear 2 ?_ Ag;exact (Cn rfl M.z_tuple Ds);clear 10;refine @D9 _ _ _ _ _ _ _ _ _ PassesOwn.never rfl ?_ ?_ ?_ (by intro _;rfl);refine @FQ _ _ _ _ ?_;refine @AU _ _ _ ?_;refine @JI _ _ _ _ _ _ _ _ _ _ DF Gu rfl M.z_list Cp ?_ (by decide) (by decide) (by rfl) (by rfl);clear 2 ?_ Ag;exact (Ac 0);exact (BC sc_f_law_spoil.nd rfl (.inl rfl));clear 10;refine Gn ?_;clear 1 .AL;clear 2 ?_ Ag;exact (Ac 1);clear 10;clear 8;refine @BL _ _ _ ?_ (by intro _;rfl);clear 5 BF Dv M.z_isinstance AS;clear 2 ?_ ?_;exact (Ac 0);clear 2 ?_ Ag;exact (Cn rfl M.z_list Cp);clear 10;refine Gn ?_;refine I9 ?_ ?_;exact (Ac 0);clear 2 C1 Ag
theorem Ir:FnScope (ns .AK) (ps .AK) (Av (st .AK)):=by clear 0
theorem Ic (M:Md K mg A fd)(ih:qIh P w K mg base A fd n):qOk P w K mg base A fd n .pl .AK:=by
 refine BN (g:=fnOf 2 2 (CG (run n .AK))) rfl (BK rfl rfl (M.fn .AK) Ir (λcdv A' outer s H E hr=>?_));clear 6;clear 8;refine @Dk _ _ _ ?_;refine @Nh _ _ _ _ _ _ _ ?_ ?_;refine @BL _ _ _ ?_ (by intro _;rfl);clear 5 BF CP M.z_isinstance AS;clear 2 ?_ ?_;exact (Ac 1);clear 2 ?_ Ag;exact (Cn rfl M.z_list Cp);refine @LF _ _ _ _ ?_;clear 9 (Eb hr.units) (A9 (g:=λb=>!b)) ?_;clear 5 Bk Bo M.z_len Bx;clear 2 ?_ Ag;exact (Ac 0);clear 7 AR AH ?_ Af;clear 5 Bk Bo M.z_len Bx;clear 2 ?_ Ag;exact (Ac 1);clear 10;exact (AJ Dj);clear 6;clear 8;refine @Dk _ _ _ ?_;refine @DH _ _ _ _ _ _ _ ?_ ?_;refine @BL _ _ _ ?_ (by intro _;rfl);clear 5 BF CP M.z_isinstance AS;clear 2 ?_ ?_;exact (Ac 1);clear 2 ?_ Ag;exact (Cn rfl M.z_list Cp);refine @Dh _ _ _ _ ?_;refine @BL _ _ _ ?_ (by intro _;rfl);clear 5 BF CP M.z_isinstance AS;clear 2 ?_ ?_;exact (Ac 1);clear 2 ?_ Ag;exact (Cn rfl M.z_tuple Ds);clear 10;clear 11;refine @E6 _ _ _ _ _ _ _ _ _ F1 NI Dj ?_ (by with_unfolding_all rfl);refine @AU _ _ _ ?_;refine Kj (Dg ["one" , "other"] [] rfl rfl rfl rfl rfl) rfl ?_ ?_ ?_ ?_;refine LC rfl M.z_zip ?_;clear 2 ?_ ?_;exact (Ac 0);clear 2 ?_ Ag;exact (Ac 1);intro _ _ _ _ _;refine Pj rfl ?_;refine Fq ?_ ?_;exact (BC (by show List.Nodup [("one" : Str) ,("other" : Str)] ;decide +kernel) rfl (.inl rfl));refine Fq ?_ LB;exact (BC (by show List.Nodup [("one" : Str) ,("other" : Str)] ;decide +kernel) rfl (.inl rfl));intro _ _ _ _ _;exact CO;intro _ _ _ _ _;clear 1 .AK;clear 2 ?_ ?_;exact (Ac 0);clear 2 ?_ Ag;exact (Ac 1);clear 10;exact (AJ Dj)
theorem sc_f_law_long:FnScope (ns .Bb) (ps .Bb) (Av (st .Bb)):=by clear 0
theorem Jr (M:Md K mg A fd)(ih:qIh P w K mg base A fd n):qOk P w K mg base A fd n .pl .Bb:=by
 refine BN (g:=fnOf 1 4 (DL (run n .AC) (run n .AE) (run n .Ae))) rfl (BK rfl rfl (M.fn .Bb) sc_f_law_long (λcdv A' outer s H E hr=>?_));clear 6;refine HU (i:=1) (Dg ["k"] [(0 , "deck")] rfl rfl rfl rfl rfl) rfl sc_f_law_long.nd rfl rfl ?_ ?_ ?_ ?_;refine BJ rfl M.z_range ?_;clear 2 ?_ Ag;clear 1 .Ae;clear 2 ?_ ?_;exact (Ac 0);clear 2 Af Ag;intro _ _ _ _ _;exact (BC (by show List.Nodup [("k" : Str) ,("deck" : Str)] ;decide +kernel) rfl (.inl rfl));intro _ _ _ _ _;exact CO;intro _ _ _ _ _;clear 1 .Ae;clear 2 ?_ ?_;exact (Ac 1);clear 2 Af Ag;clear 6;clear 4 2 sc_f_law_long.nd (.inl rfl);refine @BP _ _ _ _ _ ?_;clear 2 AY ?_;clear 2 ?_ ?_;refine @BP _ _ _ _ _ ?_;clear 2 AY ?_;clear 2 Af ?_;clear 2 Af Ag;clear 2 Af Ag;clear 6;clear 4 3 sc_f_law_long.nd (.inl rfl);clear 1 .AE;clear 2 ?_ ?_;exact (Ac 2);clear 2 ?_ ?_;clear 7 AR AH ?_ ?_;clear 7 AR AH ?_ ?_;refine @AU _ _ _ ?_;refine @Be _ _ _ _ ?_;clear 2 ?_ Ag;clear 5 Bk Bo M.z_len Bx;clear 2 ?_ Ag;exact (Ac 1);exact (Ac 1);refine @AU _ _ _ ?_;refine @Be _ _ _ _ ?_;clear 2 Af ?_;clear 2 Af Ag;clear 2 Af Ag;clear 10;clear 11;clear 1 .AC;clear 2 ?_ ?_;exact (Ac 3);clear 2 ?_ Ag;refine @AU _ _ _ ?_;refine @Be _ _ _ _ ?_;clear 2 AY ?_;clear 2 ?_ ?_;exact (Ac 1);clear 2 ?_ Ag;clear 7 AR AH ?_ Af;clear 5 Bk Bo M.z_len Bx;clear 2 ?_ Ag;exact (Ac 1)
theorem sc_law_:FnScope (ns .law_) (ps .law_) (Av (st .law_)):=by clear 0
theorem Qm (M:Md K mg A fd)(ih:qIh P w K mg base A fd n):qOk P w K mg base A fd n .pl .law_:=by
 refine BN (g:=fnOf 1 12 (EV (run n .Ae) (run n .AE) (run n .AC) (run n .AK) (run n .AL) (run n .Ay) (run n .AB) (run n .AA) (run n .Bb) (run n .Bg))) rfl (BK rfl rfl (M.fn .law_) sc_law_ (λcdv A' outer s H E hr=>?_));clear 6;clear 4 1 sc_law_.nd (.inr rfl);clear 1 .Bg;clear 2 ?_ Ag;exact (Ac 0);clear 6;clear 8;refine @Ea _ _ _ _ ?_;refine @BL _ _ _ ?_ (by intro _;rfl);clear 1 .Bb;clear 2 ?_ Ag;exact (Ac 1);clear 10;exact (AJ Dj);clear 6;refine @D9 _ _ _ _ _ _ _ _ _ PassesOwn.never rfl ?_ ?_ ?_ (by intro _;rfl);refine BJ rfl M.z_range ?_;clear 2 Af Ag;exact (BC sc_law_.nd rfl (.inl rfl));clear 6;clear 4 3 sc_law_.nd (.inl rfl);clear 1 .AA;clear 2 ?_ ?_;exact (Ac 1);clear 2 ?_ ?_;clear 7 AR AH Af ?_;clear 1 .Ae;clear 2 ?_ ?_;exact (Ac 1);clear 2 Af Ag;clear 2 ?_ Ag;refine @E7 _ _ _ ?_;refine @Be _ _ _ _ ?_;clear 2 Af Ag;clear 6;clear 4 4 sc_law_.nd (.inl rfl);clear 1 .AB;clear 2 ?_ ?_;exact (Ac 1);clear 2 ?_ ?_;exact (Ac 3);clear 2 ?_ Ag;refine @E7 _ _ _ ?_;refine @Be _ _ _ _ ?_;clear 2 Af ?_;clear 2 Af Ag;clear 6;clear 4 5 sc_law_.nd (.inl rfl);clear 1 .Ay;clear 2 ?_ ?_;exact (Ac 3);clear 2 ?_ Ag;exact (Ac 4);clear 6;refine HU (i:=6) (Dg ["place"] [(1 , "deck")] rfl rfl rfl rfl rfl) rfl sc_law_.nd rfl rfl ?_ ?_ ?_ ?_;refine BJ rfl M.z_range ?_;clear 2 ?_ Ag;clear 1 .Ae;clear 2 ?_ ?_;exact (Ac 1);clear 2 Af Ag;intro _ _ _ _ _;exact (BC (by show List.Nodup [("place" : Str) ,("deck" : Str)] ;decide +kernel) rfl (.inl rfl));intro _ _ _ _ _;exact CO;intro _ _ _ _ _;clear 1 .Ae;clear 2 ?_ ?_;exact (Ac 1);clear 2 Af Ag;clear 6;clear 4 7 sc_law_.nd (.inl rfl);clear 7 AR AH ?_ ?_;clear 7 AR AH ?_ ?_;exact (Ac 6);exact (Ac 5);refine @AU _ _ _ ?_;refine E8 (Dg ["place"] [(1 , "deck")] rfl rfl rfl rfl rfl) rfl ?_ ?_ ?_ ?_;refine BJ rfl M.z_range ?_;clear 2 ?_ Ag;clear 1 .Ae;clear 2 ?_ ?_;exact (Ac 1);clear 2 Af Ag;intro _ _ _ _ _;exact (BC (by show List.Nodup [("place" : Str) ,("deck" : Str)] ;decide +kernel) rfl (.inl rfl));intro _ _ _ _ _;exact CO;intro _ _ _ _ _;clear 1 .Ae;clear 2 ?_ ?_;exact (Ac 1);clear 2 Af Ag;clear 6;clear 4 8 sc_law_.nd (.inl rfl);refine @AU _ _ _ ?_;refine @JI _ _ _ _ _ _ _ _ _ _ DF Gu rfl M.z_list Cp ?_ (by decide) (by decide) (by rfl) (by rfl);clear 2 ?_ Ag;exact (Ac 7);clear 6;clear 4 9 sc_law_.nd (.inl rfl);clear 1 .AE;clear 2 ?_ ?_;exact (Ac 3);clear 2 ?_ ?_;exact (Ac 8);clear 2 ?_ Ag;clear 5 Bk Bo M.z_len Bx;clear 2 ?_ Ag;exact (Ac 6);clear 6;clear 8;refine @Dk _ _ _ ?_;refine @DH _ _ _ _ _ _ _ ?_ ?_;refine @Ea _ _ _ _ ?_;refine @BL _ _ _ ?_ (by intro _;rfl);clear 1 .AC;clear 2 ?_ ?_;exact (Ac 9);clear 2 ?_ Ag;refine @AU _ _ _ ?_;refine @Be _ _ _ _ ?_;clear 2 AY ?_;clear 2 ?_ ?_;exact (Ac 4);clear 2 ?_ Ag;clear 7 AR AH ?_ ?_;clear 5 Bk Bo M.z_len Bx;clear 2 ?_ Ag;exact (Ac 6);clear 5 Bk Bo M.z_len Bx;clear 2 ?_ Ag;exact (Ac 5);refine @Dh _ _ _ _ ?_;clear 9 (Eb hr.units) (A9 (g:=λb=>!b)) ?_;exact (Ac 8);exact (Ac 7);clear 10;exact (AJ Dj);clear 6;refine Gn ?_;clear 1 .AL;clear 2 ?_ Ag;clear 3 Af;exact (Ac 9);clear 6;clear 8;refine @Ea _ _ _ _ ?_;refine @BL _ _ _ ?_ (by intro _;rfl);clear 1 .AK;clear 2 ?_ ?_;clear 3 Af;exact (Ac 9);clear 2 ?_ Ag;exact (Ac 4);clear 10;exact (AJ Dj);clear 6;clear 8;refine @Ea _ _ _ _ ?_;refine @BL _ _ _ ?_ (by intro _;rfl);clear 1 .AC;clear 2 ?_ ?_;clear 1 .AE;clear 2 ?_ ?_;exact (Ac 3);clear 2 ?_ ?_;exact (Ac 8);clear 2 ?_ Ag;clear 5 Bk Bo M.z_len Bx;clear 2 ?_ Ag;exact (Ac 6);clear 2 ?_ Ag;refine @AU _ _ _ ?_;refine @Be _ _ _ _ ?_;clear 2 AY ?_;clear 2 ?_ ?_;exact (Ac 4);clear 2 ?_ Ag;clear 7 AR AH ?_ ?_;clear 5 Bk Bo M.z_len Bx;clear 2 ?_ Ag;exact (Ac 6);clear 5 Bk Bo M.z_len Bx;clear 2 ?_ Ag;exact (Ac 5);clear 10;exact (AJ Dj);clear 10;refine @D9 _ _ _ _ _ _ _ _ _ PassesOwn.never rfl ?_ ?_ ?_ (by intro _;rfl);refine @FQ _ _ _ _ ?_;refine @AU _ _ _ ?_;refine @Be _ _ _ _ ?_;clear 2 Af ?_;clear 2 ?_ ?_;clear 7 BE By ?_ Af;clear 5 Bk Bo M.z_len Bx;clear 2 ?_ Ag;exact (Ac 5);clear 2 ?_ ?_;clear 7 C9 CJ ?_ Af;clear 5 Bk Bo M.z_len Bx;clear 2 ?_ Ag;exact (Ac 5);clear 2 ?_ Ag;clear 1 .Ae;clear 2 ?_ ?_;exact (Ac 1);clear 2 ?_ Ag;clear 5 (ER rfl) Gv M.z_max FL;clear 2 Af ?_;clear 2 ?_ Ag;clear 5 Bk Bo M.z_len Bx;clear 2 ?_ Ag;exact (Ac 5);exact (BC sc_law_.nd rfl (.inl rfl));clear 6;clear 4 11 sc_law_.nd (.inl rfl);refine @Ki _ _ _ _ _ _ _ _ _ _ _ sl3 LX ?_ LD ?_;exact (Ac 7);refine LE ?_;clear 7 AR AH ?_ ?_;clear 5 Bk Bo M.z_len Bx;clear 2 ?_ Ag;exact (Ac 6);exact (Ac 10);clear 10;clear 8;refine @Dk _ _ _ ?_;refine @Nh _ _ _ _ _ _ _ ?_ ?_;refine Of KG EF Iw DZ Af ?_ ?_;exact (Ac 10);clear 5 Bk Bo M.z_len Bx;clear 2 ?_ Ag;exact (Ac 5);refine @LF _ _ _ _ ?_;clear 9 (Eb hr.units) (A9 (g:=λb=>!b)) ?_;clear 1 .AE;clear 2 ?_ ?_;exact (Ac 3);clear 2 ?_ ?_;exact (Ac 11);clear 2 ?_ Ag;clear 5 Bk Bo M.z_len Bx;clear 2 ?_ Ag;exact (Ac 6);refine @AU _ _ _ ?_;refine @Be _ _ _ _ ?_;clear 2 AY Ag;clear 10;exact (AJ Dj);clear 10;exact (AJ Dj)
theorem all_ok (M:Md K mg A fd):∀(n:Nat) (x:Fx),okK (kd x) P w K mg base (n + 2) (A x) (fd x) (ps x) (run n x)
 | 0,x=>Ox
 | n + 1,x=>by
   have ih:=all_ok M n
   cases x with
   | Bp=>exact Lj M ih
   | AW=>exact Hw M ih
   | Bq=>exact Lk M ih
   | Aw=>exact Ik M ih
   | AT=>exact Li M ih
   | AD=>exact Ib M ih
   | A0=>exact Hv M ih
   | Bj=>exact Jy M ih
   | Br=>exact Ll M ih
   | Bh=>exact Jw M ih
   | Bi=>exact Jx M ih
   | AZ=>exact Hu M ih
   | Bg=>exact Jo M ih
   | Ae=>exact Jp M ih
   | AQ=>exact KD M ih
   | Ba=>exact Jq M ih
   | AA=>exact Ih M ih
   | Bd=>exact Jv M ih
   | Az=>exact Ig M ih
   | AB=>exact Ij M ih
   | AC=>exact Ju M ih
   | Bc=>exact Js M ih
   | Ay=>exact Ie M ih
   | AE=>exact Jt M ih
   | AL=>exact Ii M ih
   | AK=>exact Ic M ih
   | Bb=>exact Jr M ih
   | law_=>exact Qm M ih
end
abbrev fno (x:Fx)(kV dc pm:Value)(an:Option Addr)(cd ct:Value):FuncData:=PySem.W.fnOf (nm x) (nm x) (Dz (st x)) (BV (st x)) (Av (st x)) .none kV dc pm an cd ct
structure At (K:PySem.W.Frag)(x:Fx)(f:Addr)(fd:FuncData):Prop where
 a:PySem.W.nsIn K mainGlobals (nm x)=some (some (.ref f))
 fn:Fun K (nm x) (nm x) (st x) f fd
 bd:Binds K fd (ps x) []
 eq:∃kV dc pm an cd ct,fd=fno x kV dc pm an cd ct
theorem at_mk {K:PySem.W.Frag}{x:Fx}{f:Addr}{od an:Option Addr}{sl:Array (Option Value)}{oc kV dc pm cd ct:Value}(a:PySem.W.nsIn K mainGlobals (nm x)=some (some (.ref f)))(l:K.lookup f=some ⟨oc,od,.func (fno x kV dc pm an cd ct),sl⟩)(c:PySem.W.codeIn K cd (nm x)=true)(k:PySem.W.keepIn K (.ref f)=true):∃p:Addr×FuncData,At K x p.1 p.2:=by
 refine ⟨(f,fno x kV dc pm an cd ct),a,Hh (st:=st x) l c k,(Hh (st:=st x) l c k).binds (ps:=ps x) λ_ _ _ _ _ _ us hl=>?_,_,_,_,_,_,_,rfl⟩
 cases x <;> first | (obtain ⟨_,rfl⟩:=us1 hl;rfl) | (obtain ⟨_,_,rfl⟩:=us2 hl;rfl) | (obtain ⟨_,_,_,rfl⟩:=us3 hl;rfl) | (obtain ⟨_,_,_,_,rfl⟩:=us4 hl;rfl) | (obtain ⟨_,_,_,_,_,rfl⟩:=us5 hl;rfl) | (obtain ⟨_,_,_,_,_,_,rfl⟩:=us6 hl;rfl) | (obtain ⟨_,_,_,_,_,_,_,rfl⟩:=us7 hl;rfl)
theorem xm_all {K:PySem.W.Frag}{h:Heap}{mg:Str->Option Value}{P c1 c2 c3 c4 c5 c6 c7:Addr}{f2:Addr}{od2 an2:Option Addr}{sl2:Array (Option Value)}{oc2 kV2 dc2 pm2 cd2 ct2:Value}(X:K.In h)(G:h.Ns mainGlobals mg)(p:PySem.W.nsIn K mainGlobals "ParleyError" = some (some (.ref P)))(a1:PySem.W.nsIn K mainGlobals "NoValue" = some (some (.ref c1)))(a2:PySem.W.nsIn K mainGlobals "Short" = some (some (.ref c2)))(a3:PySem.W.nsIn K mainGlobals "Broken" = some (some (.ref c3)))(a4:PySem.W.nsIn K mainGlobals "NoTalk" = some (some (.ref c4)))(a5:PySem.W.nsIn K mainGlobals "NoName" = some (some (.ref c5)))(a6:PySem.W.nsIn K mainGlobals "NoText" = some (some (.ref c6)))(a7:PySem.W.nsIn K mainGlobals "NoRow" = some (some (.ref c7)))(q:MS K P [c1,c2,c3,c4,c5,c6,c7]=true)(nd:[P,c1,c2,c3,c4,c5,c6,c7].Nodup)(fi2:PySem.W.findIn K (.ref c3) "__init__" = some (some (.ref f2)))(l2:K.lookup f2=some ⟨oc2,od2,.func (PySem.W.fnOf "__init__" "Broken.__init__" (Dz (D6 (top 4) 0)) (BV (D6 (top 4) 0)) (Av (D6 (top 4) 0)) .none kV2 dc2 pm2 an2 cd2 ct2),sl2⟩)(ii2:Kp K c3 f2=true)(hf2:PySem.W.isFn K (.ref f2)=true)(hs2:PySem.W.findIn K (.ref c3) "__setattr__" = some (some (.builtin "object.__setattr__")))(cc2:PySem.W.codeIn K cd2 "Broken.__init__" = true)(k2:PySem.W.keepIn K (.ref f2)=true)(n2:KA K c2=true):∃(P:Addr) (ca:Str->Addr),XM K mg P ca/\XF2 K (ca "Broken") P "Broken.__init__" (D6 (top 4) 0)/\∀n∈(["Short"]:List Str),XN0 K (ca n):=by
 have x:=Ut X G p a1 a2 a3 a4 a5 a6 a7 q nd;refine ⟨P,_,x,Tf (C:=c3) (st:=(D6 (top 4) 0)) ⟨x.cl "Broken" (by decide),x.kp "Broken" (by decide),x.gt "Broken" (by decide),x.gc "Broken" (by decide),x.na "Broken" (by decide),x.nd "Broken" (by decide)⟩ ii2 hf2 hs2 l2 cc2 k2 (λ_ _ _ _ _ _ us hl=>by match us,hl with | [_,_,_],_=>rfl),?_⟩;intro n hn;simp only [List.mem_cons,List.not_mem_nil,or_false] at hn;rcases hn with rfl
 ·exact Tg n2
theorem fin_mk {K:PySem.W.Frag}{h:Heap}{mg:Str->Option Value}{fa:Addr}(X:K.In h)(G:h.Ns mainGlobals mg)(hmg:mg "law" = some (.ref fa))(H:∀x:Fx,∃p:Addr×FuncData,At K x p.1 p.2)(z_ValueError:PySem.W.nsIn K mainGlobals "ValueError" = some none)(z_abs:PySem.W.nsIn K mainGlobals "abs" = some none)(z_bool:PySem.W.nsIn K mainGlobals "bool" = some none)(z_int:PySem.W.nsIn K mainGlobals "int" = some none)(z_isinstance:PySem.W.nsIn K mainGlobals "isinstance" = some none)(z_len:PySem.W.nsIn K mainGlobals "len" = some none)(z_list:PySem.W.nsIn K mainGlobals "list" = some none)(z_max:PySem.W.nsIn K mainGlobals "max" = some none)(z_min:PySem.W.nsIn K mainGlobals "min" = some none)(z_ord:PySem.W.nsIn K mainGlobals "ord" = some none)(z_range:PySem.W.nsIn K mainGlobals "range" = some none)(z_str:PySem.W.nsIn K mainGlobals "str" = some none)(z_tuple:PySem.W.nsIn K mainGlobals "tuple" = some none)(z_zip:PySem.W.nsIn K mainGlobals "zip" = some none){tk_FIRST_SIGN:Tok}(g_FIRST_SIGN:PySem.W.nsIn K mainGlobals "FIRST_SIGN" = some (some (.int 32 tk_FIRST_SIGN))){tk_LAST_SIGN:Tok}(g_LAST_SIGN:PySem.W.nsIn K mainGlobals "LAST_SIGN" = some (some (.int 126 tk_LAST_SIGN))){tk_PERCENT_SIGN:Tok}(g_PERCENT_SIGN:PySem.W.nsIn K mainGlobals "PERCENT_SIGN" = some (some (.int 37 tk_PERCENT_SIGN))){tk_SIGNS:Tok}(g_SIGNS:PySem.W.nsIn K mainGlobals "SIGNS" = some (some (.str " !\"#$ &'()*+,-./0123456789:;<=>?@ABCDEFGHIJKLMNOPQRSTUVWXYZ[\\]^_`abcdefghijklmnopqrstuvwxyz{|}~" tk_SIGNS)))(xm:∃(P:Addr) (ca:Str->Addr),XM K mg P ca/\XF2 K (ca "Broken") P "Broken.__init__" (D6 (top 4) 0)/\∀n∈(["Short"]:List Str),XN0 K (ca n)):∃(A:Fx->Addr) (fd:Fx->FuncData),Md K mg A fd/\A .law_=fa/\∀(s:Shared) (u:Value),BindsTo s (fd .law_) ⟨[u],[]⟩ [("script",u)]:=by
 obtain ⟨F,hF⟩:=Classical.axiomOfChoice H;refine ⟨λx=>(F x).1,λx=>(F x).2,{ fn:=λx=>(hF x).fn,mgs:=λx=>PySem.W.mg_of X G (hF x).a,bd:=λx=>(hF x).bd,xm:=xm,z_ValueError:=PySem.W.mg_none_of X G z_ValueError,z_abs:=PySem.W.mg_none_of X G z_abs,z_bool:=PySem.W.mg_none_of X G z_bool,z_int:=PySem.W.mg_none_of X G z_int,z_isinstance:=PySem.W.mg_none_of X G z_isinstance,z_len:=PySem.W.mg_none_of X G z_len,z_list:=PySem.W.mg_none_of X G z_list,z_max:=PySem.W.mg_none_of X G z_max,z_min:=PySem.W.mg_none_of X G z_min,z_ord:=PySem.W.mg_none_of X G z_ord,z_range:=PySem.W.mg_none_of X G z_range,z_str:=PySem.W.mg_none_of X G z_str,z_tuple:=PySem.W.mg_none_of X G z_tuple,z_zip:=PySem.W.mg_none_of X G z_zip,g_FIRST_SIGN:=⟨tk_FIRST_SIGN,PySem.W.mg_of X G g_FIRST_SIGN⟩,g_LAST_SIGN:=⟨tk_LAST_SIGN,PySem.W.mg_of X G g_LAST_SIGN⟩,g_PERCENT_SIGN:=⟨tk_PERCENT_SIGN,PySem.W.mg_of X G g_PERCENT_SIGN⟩,g_SIGNS:=⟨tk_SIGNS,PySem.W.mg_of X G g_SIGNS⟩ },?_,λs u=>?_⟩
 ·have e:=hmg.symm.trans (PySem.W.mg_of X G (hF .law_).a)
  cases e
  rfl
 ·obtain ⟨_,_,_,_,_,_,e⟩:=(hF .law_).eq;show BindsTo s (F .law_).2 _ _;rw [e];exact .of_eq rfl
theorem walk {l:PySem.W.OpenLaw}{q:Program}{loose:List Str}{XP:(Str->Option Value)->Heap->Prop}{YP:World->Heap->Prop}{d:DefRec}{K:Params->PySem.W.Frag}(m:Nat)(hm:Room (m + 2) callerA)(hn:l.most=some 63)(hdf:d.params.defaults=[])
 (hY:∀(w:World) (h:Heap),YP w h->(K w.params).In h) (lt:∀ns:List Int,ns.length<=63->∃S',run m .law_ [.scr ns] []=some (.bl true,S'))
 (F:∀(w:World) (mg:Str->Option Value) (fa:Addr) (h:Heap),(K w.params).In h->h.Ns mainGlobals mg->mg d.name=some (.ref fa)->
   ∃(A:Fx->Addr) (fd:Fx->FuncData),Md (K w.params) mg A fd/\A .law_=fa/\∀(s:Shared) (u:Value),BindsTo s (fd .law_) ⟨[u],[]⟩ [("script",u)]) :
 PySem.W.WalkO q loose XP YP l.row.toRowW d [] (λf vs=>PySem.call f vs):=
 L2.Q3 (n:=63) (k:=m + 2) (x:="script") (CX:=λ_=>CX0) (sp:=λw=>spF (K w.params) (run m .law_)) hn (by decide) hdf hm hY
  (λw mg fa h KX G hmg=>by obtain ⟨A,fd,M,e,b⟩:=F w mg fa h KX G hmg;subst e;exact ⟨fd .law_,b,λbase _ _=>all_ok M m .law_⟩)
  (λw H a ns hl hO hS=>by obtain ⟨S',e⟩:=lt ns hl;exact Nn hO hS e) λ_ _ _ _ _ z=>z
theorem OY (k:Nat):JQ (run (k + 1) .Bp):=Mo
theorem D7 (k:Nat):DrawOk (run (k + 1) .Ae):=N9
theorem LA (k:Nat):FarOk (run (k + 2) .AQ):=Rr (D7 k)
theorem Ku (k:Nat):LeafOk (run (k + 3) .Ba):=Qe (D7 (k + 1)) (LA k)
theorem IW:∀(n k:Nat),n + 4<=k->E5 (run k .AA) n
 | 0,k,h=>by
   obtain ⟨j,rfl⟩:∃j,k=j + 4:=⟨k - 4,by lia⟩;exact λa b c S deep x hd=>K1 (D7 (j + 2)) (Ku j) (.inl rfl) a b c S deep x (by lia)
 | n + 1,k,h=>by
   obtain ⟨j,rfl⟩:∃j,k=j + 4:=⟨k - 4,by lia⟩;exact K1 (D7 (j + 2)) (Ku j) (.inr (IW n (j + 3) (by lia)))
theorem QP (k:Nat):Fj (run (k + 2) .Bd):=K3 (D7 k)
theorem IV:∀(n k:Nat),n + 1<=k->Gi (run k .Az) n
 | 0,k,_=>λs hs=>absurd s.depth_pos (by lia)
 | n + 1,k,h=>by
   obtain ⟨j,rfl⟩:∃j,k=j + 1:=⟨k - 1,by lia⟩;exact N5 (.inr (IV n j (by lia)))
theorem Jl:∀(n k:Nat),n + 4<=k->Fk (run k .AB) n
 | 0,k,_=>λs hs=>absurd s.depth_pos (by lia)
 | n + 1,k,h=>by
   obtain ⟨j,rfl⟩:∃j,k=j + 4:=⟨k - 4,by lia⟩;exact NS (D7 (j + 2)) (IV n (j + 3) (by lia)) (QP (j + 1)) (LA (j + 1)) (.inr (Jl n (j + 3) (by lia)))
theorem Oj (k:Nat):G4 (run (k + 1) .Bq):=Qd
theorem Q4 (k:Nat):Fl (run (k + 1) .AW):=Pd
theorem Nt (k:Nat):Fl (run (k + 1) .Bc):=Qf
theorem Hq:∀(n k:Nat),n + 2<=k->Gh (run k .Ay) n
 | 0,k,_=>λs hs=>absurd s.depth_pos (by lia)
 | n + 1,k,h=>by
   obtain ⟨j,rfl⟩:∃j,k=j + 2:=⟨k - 2,by lia⟩;exact No (Hq n (j + 1) (by lia)) (Nt j)
theorem JX (k:Nat):BX (run (k + 1) .AT):=Tj
theorem ST (k:Nat):UX (run (k + 2) .AD):=TR (JX k)
theorem SL (k:Nat):SX (run (k + 2) .Br):=TH (OY k) (JX k)
theorem KN:∀(n k:Nat),2 * n + 4<=k->JB (run k .Aw) n
 | 0,k,_=>λs hs=>absurd s.depth_pos (by lia)
 | n + 1,k,h=>by
   obtain ⟨j,rfl⟩:∃j,k=j + 5:=⟨k - 5,by lia⟩;exact NF rfl rfl rfl rfl rfl (ST (j + 1)) (SL (j + 1)) (Oj (j + 2)) (JX (j + 2)) (Q4 (j + 2)) (KN n (j + 3) (by lia))
theorem Jb (k:Nat):LRO (run (k + 20) .AE) 6:=Nq (KN 6 (k + 19) (by lia))
theorem KU:∀(n k:Nat),n + 1<=k->Fi (run k .AC) n
 | 0,k,h=>by
   obtain ⟨j,rfl⟩:∃j,k=j + 1:=⟨k - 1,by lia⟩;exact KS (.inl rfl)
 | n + 1,k,h=>by
   obtain ⟨j,rfl⟩:∃j,k=j + 1:=⟨k - 1,by lia⟩;exact KS (.inr (KU n j (by lia)))
theorem Jf (k:Nat):JC (run (k + 8) .AC) 6:=OQ (KU 6 (k + 7) (by lia))
theorem Jh:∀(n k:Nat),n + 1<=k->Ew (run k .AL) n
 | 0,k,h=>by
   obtain ⟨j,rfl⟩:∃j,k=j + 1:=⟨k - 1,by lia⟩;exact Jg (.inl rfl)
 | n + 1,k,h=>by
   obtain ⟨j,rfl⟩:∃j,k=j + 1:=⟨k - 1,by lia⟩;exact Jg (.inr (Jh n j (by lia)))
theorem IG:∀(n k:Nat),n + 1<=k->Ev (run k .AK) n
 | 0,k,h=>by
   obtain ⟨j,rfl⟩:∃j,k=j + 1:=⟨k - 1,by lia⟩;exact IF (.inl rfl)
 | n + 1,k,h=>by
   obtain ⟨j,rfl⟩:∃j,k=j + 1:=⟨k - 1,by lia⟩;exact IF (.inr (IG n j (by lia)))
theorem Oq:L6 (run 99 .Bb):=Op (Jf 90) (Jb 78) (D7 97)
theorem law_true (ns:List Int)(h:ns.length<=63):∃S',run 100 .law_ [.scr ns] []=some (.bl true,S'):=by
 obtain ⟨r,S',e,p⟩:=RC (D7 98) (Jb 79) (Jf 91) (IG 6 99 (by decide)) (Jh 6 99 (by decide)) (Hq 6 99 (by decide)) (Jl 6 99 (by decide)) (IW 6 99 (by decide)) Oq (PV (ns:=ns) (.inl rfl));subst p;exact ⟨S',e⟩
end K08
namespace PySem.W.Fast
def tw10040675202537280972:=0
def tw10077230273141917720:=0
def tw10087161348648095386:=0
def tw1008770876807248842:=0
def tw10132735205470771831:=0
def tw10185933873401008679:=0
def tw10193046317453804650:=0
def tw10206167067280763808:=0
def tw10217031060604916829:=0
def tw1024551716740386714:=0
def tw10280622787384192152:=0
def tw10293810089814643403:=0
def tw10340289606735152907:=0
def tw10394326459819715938:=0
def tw10536180849426349982:=0
def tw10635650378633658324:=0
def tw10646709746176583225:=0
def tw10654304669661275549:=0
def tw10656786092144264151:=0
def tw1070392911651785736:=0
def tw10851110915388060403:=0
def tw1089339783439940389:=0
def tw10969453791980613572:=0
def tw10988326208061547707:=0
def tw11105142142857399546:=0
def tw11106553138185888574:=0
def tw11124931221951005108:=0
def tw11125988208254141352:=0
def tw11165427261040887622:=0
def tw11211175984820166629:=0
def tw112468388456907786:=0
def tw11291248197690693146:=0
def tw11295474144638435232:=0
def tw11322484635603701004:=0
def tw11326050440228149389:=0
def tw11421343401782698731:=0
def tw11440312861109721782:=0
def tw11444874079671048145:=0
def tw11545077247317260959:=0
def tw1163928103112030001:=0
def tw11707467151132839726:=0
def tw11716866565502358748:=0
def tw1173419539113588750:=0
def tw11776932056872095045:=0
def tw11910772500900294748:=0
def tw11910907544995851229:=0
def tw12024811149595055912:=0
def tw12123490010814136282:=0
def tw12146412784796977047:=0
def tw12183488649837451757:=0
def tw12242871935281066900:=0
def tw12371765123940149988:=0
def tw12412659007656924978:=0
def tw12442234425471444384:=0
def tw12460351328273541141:=0
def tw12512831840023193791:=0
def tw12554331435255184138:=0
def tw12561764759328272579:=0
def tw12566273315557473401:=0
def tw12599972780513119070:=0
def tw12644706104627690260:=0
def tw12655278043681327602:=0
def tw12690627524071405850:=0
def tw12758333243652111713:=0
def tw12767801958587098203:=0
def tw12790824068172462782:=0
def tw12818484722828276961:=0
def tw12903547659540419912:=0
def tw12971035963797598828:=0
def tw13078539680913775044:=0
def tw13125168989259408036:=0
def tw131668739006991038:=0
def tw13247385880236624113:=0
def tw1333660469494436206:=0
def tw13460561854586248579:=0
def tw13520962620797659132:=0
def tw13577688676524883389:=0
def tw13595644889545236734:=0
def tw136084198622104569:=0
def tw13696784086944396035:=0
def tw13719946418232289992:=0
def tw13721792081612764004:=0
def tw13734810537890245502:=0
def tw13800363940636158054:=0
def tw13823053761704491761:=0
def tw13831552063214995432:=0
def tw13849695564949000060:=0
def tw1390396985107655727:=0
def tw13929964990938500049:=0
def tw13930012342986034384:=0
def tw13962693836970203760:=0
def tw14017107773158970421:=0
def tw14020739203222015180:=0
def tw14133303688362158215:=0
def tw14269053841700042323:=0
def tw14274311916710983372:=0
def tw14288523227282781074:=0
def tw14345796231162677457:=0
def tw14457178909048548497:=0
def tw1445831984513552298:=0
def tw14646342757677178196:=0
def tw14653126827541576160:=0
def tw14664902482601195972:=0
def tw14693588800665942558:=0
def tw14983327975886484504:=0
def tw1499561679655138449:=0
def tw15001696839108256061:=0
def tw15030440914829702538:=0
def tw15188215419913681476:=0
def tw15194335277455706203:=0
def tw15239064980995951316:=0
def tw15502128271553456462:=0
def tw1555845713370271313:=0
def tw15593216052066355752:=0
def tw15597744658059105067:=0
def tw15606942644959815407:=0
def tw15613210218862817116:=0
def tw15709444695000161384:=0
def tw15713053818815974229:=0
def tw1584688584325900232:=0
def tw15871453119182614371:=0
def tw15906470893243931167:=0
def tw15932572227059427959:=0
def tw15962741203092314735:=0
def tw15976403885271781337:=0
def tw1601868684742409488:=0
def tw16080513483542079599:=0
def tw16174179652889974365:=0
def tw16198175418395018732:=0
def tw16218976724310174044:=0
def tw16226373373208974810:=0
def tw16343630219991317734:=0
def tw16378735591788563903:=0
def tw16386631091769453545:=0
def tw16415866277052550731:=0
def tw16496104445948546214:=0
def tw16655844734497746683:=0
def tw16787086104886311413:=0
def tw16799026552142254369:=0
def tw16867210430495811672:=0
def tw16911235288103812420:=0
def tw17075538821274540022:=0
def tw17510150479861880364:=0
def tw18013146544624339933:=0
def tw18022614079625908285:=0
def tw1813603322723943583:=0
def tw1815116893904149678:=0
def tw18174938910551137811:=0
def tw18175034806445789256:=0
def tw18232400469016502045:=0
def tw18354488237847753942:=0
def tw18433619068931544915:=0
def tw2046730138536891792:=0
def tw2203272414418365247:=0
def tw2252876529863276277:=0
def tw2264252266702557159:=0
def tw2413392978007606688:=0
def tw2469605923181576312:=0
def tw2640885862118910427:=0
def tw2695531045306520605:=0
def tw2713006263784635369:=0
def tw2828496767863703390:=0
def tw2834050712313135672:=0
def tw287656703157196152:=0
def tw2890919746824345102:=0
def tw2919561087610784836:=0
def tw293862009968949282:=0
def tw3197080637204371853:=0
def tw324889965961819403:=0
def tw3511873148111791813:=0
def tw3561969872357246543:=0
def tw3687726737368862735:=0
def tw374848882127632336:=0
def tw3767085287560956461:=0
def tw3810905176761840870:=0
def tw3813294877440895992:=0
def tw3814576888119141661:=0
def tw3831196644451512995:=0
def tw3913477393726599874:=0
def tw3915977242107173479:=0
def tw3943216511109674694:=0
def tw4116539946502913140:=0
def tw4125363625395860885:=0
def tw4128357845613366880:=0
def tw4148303363341482837:=0
def tw4155937772985057368:=0
def tw4225145425010113233:=0
def tw4227591025701125734:=0
def tw4246247718796404370:=0
def tw4397664557731699162:=0
def tw4490734720483560673:=0
def tw4504284055096836372:=0
def tw45826216863445753:=0
def tw4590518506590438727:=0
def tw4596436043425991965:=0
def tw4740062750978400225:=0
def tw4776998821835977800:=0
def tw4859214413702591572:=0
def tw4899556107512212663:=0
def tw4916052557909255478:=0
def tw4956850794449230155:=0
def tw4975354731505380175:=0
def tw4990446026987797251:=0
def tw4999880594248400943:=0
def tw5049674614312829677:=0
def tw5052607276391394412:=0
def tw506882114840840403:=0
def tw5111252305967861476:=0
def tw5134095671605263130:=0
def tw5239569290025581047:=0
def tw5298570880295932084:=0
def tw5383496170025366719:=0
def tw5385131713240785808:=0
def tw5446505725878421154:=0
def tw5463263414136793415:=0
def tw5507955321946140731:=0
def tw5607782012715071115:=0
def tw5610197435249003004:=0
def tw5641437311072408709:=0
def tw5642558453700161336:=0
def tw568028443841736192:=0
def tw5699100630544164667:=0
def tw5713185859210404624:=0
def tw5806311394151227265:=0
def tw5844923201078296214:=0
def tw5872890018259981291:=0
def tw602016579610560482:=0
def tw6026346967311162941:=0
def tw6031976259276819992:=0
def tw6056459027652994472:=0
def tw6071160899185527256:=0
def tw6131159417227089099:=0
def tw6161482210438187147:=0
def tw62425223709606162:=0
def tw6256833126021301150:=0
def tw6319820927998437744:=0
def tw6354354758843032526:=0
def tw6390573194683135205:=0
def tw648050281452257798:=0
def tw6500512834087599149:=0
def tw6586228662655650385:=0
def tw6628645225334337507:=0
def tw668095259275659211:=0
def tw67464499889158084:=0
def tw6755050749435503525:=0
def tw6829283597813524198:=0
def tw685780349803222991:=0
def tw6876909839940482694:=0
def tw6932522622462511564:=0
def tw6936921116129829841:=0
def tw7059742652090266483:=0
def tw706366998399405588:=0
def tw7119698172443751284:=0
def tw7119876187424395252:=0
def tw7166298213325026780:=0
def tw7210424286995482863:=0
def tw7354089424985209117:=0
def tw7520726292982931807:=0
def tw7539513521101034253:=0
def tw7735911653053878755:=0
def tw774728321607639872:=0
def tw7758959694222259717:=0
def tw783460830476319101:=0
def tw7837269459555827185:=0
def tw7843359426143000197:=0
def tw786423499651976011:=0
def tw7903942845532444113:=0
def tw7933671345598619606:=0
def tw8050092229702565933:=0
def tw8107311375740009408:=0
def tw8220649978923701836:=0
def tw8345413040603975974:=0
def tw8490178098797356567:=0
def tw8519422875858124358:=0
def tw8534640478076150975:=0
def tw8551600298327190044:=0
def tw8676753488879539783:=0
def tw8677551483906537017:=0
def tw8683088544047312420:=0
def tw8730886096813480915:=0
def tw8830292829906407869:=0
def tw8853533874601701507:=0
def tw891033793211101566:=0
def tw9031032166789578938:=0
def tw9060955615725231647:=0
def tw9065537964930784708:=0
def tw9246659731862045836:=0
def tw9252317181763324949:=0
def tw9255901904286996405:=0
def tw9356377903559272803:=0
def tw9512614030323246953:=0
def tw9517224962912352375:=0
def tw9517660586885312124:=0
def tw9539241300753304901:=0
def tw9556139405720194677:=0
def tw9631495558245697883:=0
def tw9651825522070695229:=0
def tw984065752714825009:=0
def tw9895088453235783337:=0
def tw9905299700354027804:=0
def tw9995482990822094037:=0
end PySem.W.Fast
open PySem PySem.W PyProof.Rows
set_option maxRecDepth 100000 in
set_option maxHeartbeats 0 in
theorem PySem.Challenge.cw_wireparley_k08_values_read_holds : PySem.Challenge.rw_wireparley_k08_values_read.Holds := by
 w_on;o_law;k_head;(case hw=>w_witness2)
 k_fill
 refine K08.walk (l:=PySem.Challenge.rw_wireparley_k08_values_read) 100 ⟨rfl,by decide,by decide⟩ rfl rfl (λw h Y=>PySem.W.kIn_of Y) K08.law_true ?F
 case F=>
  intro w mg fa h KX G hmg;refine' K08.fin_mk KX G hmg ?H ?z_ValueError ?z_abs ?z_bool ?z_int ?z_isinstance ?z_len ?z_list ?z_max ?z_min ?z_ord ?z_range ?z_str ?z_tuple ?z_zip ?g_FIRST_SIGN ?g_LAST_SIGN ?g_PERCENT_SIGN ?g_SIGNS ?xm
  (case H=>intro x;cases x <;> (refine' K08.at_mk ?a ?l ?c ?k;(case a=>k_is);(case l=>k_is);(case c=>k_is);(case k=>k_is)))
  (case z_ValueError=>k_is)
  (case z_abs=>k_is)
  (case z_bool=>k_is)
  (case z_int=>k_is)
  (case z_isinstance=>k_is)
  (case z_len=>k_is)
  (case z_list=>k_is)
  (case z_max=>k_is)
  (case z_min=>k_is)
  (case z_ord=>k_is)
  (case z_range=>k_is)
  (case z_str=>k_is)
  (case z_tuple=>k_is)
  (case z_zip=>k_is)
  (case g_FIRST_SIGN=>k_is)
  (case g_LAST_SIGN=>k_is)
  (case g_PERCENT_SIGN=>k_is)
  (case g_SIGNS=>k_is)
  (case xm=>refine' K08.xm_all KX G ?x_p ?x_a1 ?x_a2 ?x_a3 ?x_a4 ?x_a5 ?x_a6 ?x_a7 ?x_q ?x_nd ?y_fi ?y_l ?y_ii ?y_hf ?y_hs ?y_cc ?y_k ?x_n2;(case x_p=>k_is);(case x_a1=>k_is);(case x_a2=>k_is);(case x_a3=>k_is);(case x_a4=>k_is);(case x_a5=>k_is);(case x_a6=>k_is);(case x_a7=>k_is);(case x_q=>kernel_rfl);(case x_nd=>decide);(case y_fi=>k_is);(case y_l=>k_is);(case y_ii=>kernel_rfl);(case y_hf=>k_is);(case y_hs=>k_is);(case y_cc=>k_is);(case y_k=>k_is);(case x_n2=>kernel_rfl))
