import PyProof.Rows.All
import Wide.All
import OpenK.AllK
import Wide.FinOn
import Lean
import PyProof.EqAt
import PyProof.EqKinds
import PyProof.TupleCall
import PyProof.NeKinds
import PyProof.ListMulRoad
import PyProof.MaxThree
import PyProof.Rows.StrJoinMade
import PyProof.ListStr
import PyProof.Rows.MinMaxN
import PyProof.Rows.Range3
import PyProof.ListRange
import PyProof.Rows.SetFrom
import PyProof.Rows.StrCase
import PyProof.SumAny
import PyProof.AutoIntG2
import PyProof.AutoListH
import PyProof.EnumStmt
import PyProof.EnumFor
import PyProof.EnumMake
import PyProof.Rows.EnumRows
import PyProof.ConsumeS
import PyProof.Rows.SortWalk
import KE.KDictSum
import PyProof.ZipIter
import KE.KEqDict
import PyProof.ExcClass2
import PyProof.RaisesMany
import PyProof.ExcBaseAll.ValueError
import PyProof.RulesDel
import PyProof.RulesAs
import PyProof.ExcArgs
import KE.KDictOf
import PyProof.AttrMissHeap
import KE.KMinKey
import PyProof.Rows.CallKwBuiltin
import PySem.Challenge.RW_wireparley_k67_wires_beside
noncomputable section

set_option Elab.async false
set_option linter.all false
set_option maxRecDepth 100000
local macro_rules | `(tactic| walk_at "h") => `(tactic| first | exact Or.inl rfl | exact Or.inr rfl | exact Or.inr (Or.inl rfl) | exact Or.inr (Or.inr rfl) | assumption)
namespace L2
open PySem PySem.Spec PyProof.Rows
abbrev Key:=Sum Int Str
noncomputable def G6:Key->Value->Bool
 | .inl k,v=>Value.isInt k v
 | .inr x,v=>Value.isStrOf x v
noncomputable def Za (w:World):Key->Int
 | .inl k=>hashInt k
 | .inr x=>hashStr w x
theorem Bu:∀{k:Key} {v:Value},G6 k v=true->(∃i t,k=Sum.inl i/\v=Value.int i t)\/(∃x t,k=Sum.inr x/\v=Value.str x t)
 | .inl i,v,h=>by
   obtain ⟨t,e⟩:=Value.isInt_shape (k:=i) (v:=v) h;exact .inl ⟨i,t,rfl,e⟩
 | .inr x,v,h=>by
   obtain ⟨t,e⟩:=Value.isStrOf_shape (x:=x) (v:=v) h;exact .inr ⟨x,t,rfl,e⟩
theorem OH (i:Int)(t:Tok):G6 (.inl i) (.int i t)=true:=by simp [G6,Value.isInt]
theorem OI (x:Str)(t:Tok):G6 (.inr x) (.str x t)=true:=by simp [G6,Value.isStrOf]
theorem V6 (a b:Int):decide ((Sum.inl a:Key)=Sum.inl b)=(a == b):=by
 by_cases e:a=b
 ·subst e;simp
 ·have h:¬(Sum.inl a:Key)=Sum.inl b:=λq=>e (Sum.inl.inj q);rw [decide_eq_false h];exact (beq_eq_false_iff_ne.mpr e).symm
theorem V9 (a b:Str):decide ((Sum.inr a:Key)=Sum.inr b)=decide (a=b):=by
 by_cases e:a=b
 ·subst e;simp
 ·have h:¬(Sum.inr a:Key)=Sum.inr b:=λq=>e (Sum.inr.inj q);rw [decide_eq_false h,decide_eq_false e]
theorem V7 (a:Int)(b:Str):decide ((Sum.inl a:Key)=Sum.inr b)=false:=decide_eq_false (λq=>nomatch q)
theorem V8 (a:Str)(b:Int):decide ((Sum.inr a:Key)=Sum.inl b)=false:=decide_eq_false (λq=>nomatch q)
def AU (prog:Program)(w:World):PySem.KeyKind prog w Key where
 is:=G6
 hash:=Za w
 inj:=λv a b ha hb=>by
  rcases Bu ha with ⟨i,t,rfl,rfl⟩ | ⟨x,t,rfl,rfl⟩
  ·rcases Bu hb with ⟨j,u,rfl,e⟩ | ⟨y,u,rfl,e⟩
   ·injection e with e1 _;rw [e1]
   ·exact nomatch e
  ·rcases Bu hb with ⟨j,u,rfl,e⟩ | ⟨y,u,rfl,e⟩
   ·exact nomatch e
   ·injection e with e1 _;rw [e1]
 byValue:=λk v h=>by
  rcases Bu h with ⟨i,t,rfl,rfl⟩ | ⟨x,t,rfl,rfl⟩ <;> rfl
 pyHash:=λhv h=>by
  rcases Bu hv with ⟨i,t,rfl,rfl⟩ | ⟨x,t,rfl,rfl⟩
  ·exact wpAny_pyHash_int h
  ·exact wpAny_pyHash_str h
 eqBool:=λhu hv h=>by
  rcases Bu hu with ⟨i,t,rfl,rfl⟩ | ⟨x,t,rfl,rfl⟩
  ·rcases Bu hv with ⟨j,u,rfl,rfl⟩ | ⟨y,u,rfl,rfl⟩
   ·rw [V6] at h;exact wpAny_eqBool_int h
   ·rw [V7] at h;exact SeqAt.EqAt.int_str i t y u _ _ _ _ h
  ·rcases Bu hv with ⟨j,u,rfl,rfl⟩ | ⟨y,u,rfl,rfl⟩
   ·rw [V8] at h;exact SeqAt.EqAt.str_int x t j u _ _ _ _ h
   ·rw [V9] at h;exact wpAny_eqBool_str h
 «strs»:=λk x t v h=>by
  rcases Bu h with ⟨i,u,rfl,e⟩ | ⟨y,u,rfl,e⟩
  ·exact nomatch e
  ·injection e with e1 _
   subst e1
   cases v <;> rfl
theorem LM (prog:Program)(w:World)(i:Int)(t:Tok):(AU prog w).is (.inl i) (.int i t)=true:=OH i t
theorem LN (prog:Program)(w:World)(x:Str)(t:Tok):(AU prog w).is (.inr x) (.str x t)=true:=OI x t
inductive V where
 | non | bl (b:Bool) | int (i:Int) | str (x:Str) | byt (b:Array UInt8) | flt (b:UInt64) | ref (a:Addr) | ty (n:String)
 deriving DecidableEq
noncomputable def RelV:V->Value->Prop
 | .non,u=>u=Value.none
 | .bl b,u=>u=Value.bool b
 | .int i,u=>∃t,u=Value.int i t
 | .str x,u=>∃t,u=Value.str x t
 | .byt b,u=>∃t,u=Value.bytes b t
 | .flt b,u=>∃t,u=Value.float b t
 | .ref a,u=>u=Value.ref a
 | .ty n,u=>u=Value.type n
abbrev Vals:List V->List Value->Prop:=Paired RelV
theorem Vals.length {xs:List V}{us:List Value}(r:Vals xs us):xs.length=us.length:=Paired.length r
theorem Vals.get:∀{xs:List V} {us:List Value} {i:Nat} {x:V},Vals xs us->xs[i]?=some x->∃u,us[i]?=some u/\RelV x u
 | _,_,_,_,.nil,e=>by simp at e
 | _,_,0,_,.cons r _,e=>by simp at e;subst e;exact ⟨_,rfl,r⟩
 | _,_,i + 1,x,.cons _ t,e=>by
   obtain ⟨u,h1,h2⟩:=Vals.get (i:=i) (x:=x) t (by simpa using e);exact ⟨u,by simpa using h1,h2⟩
theorem Vals.set {x:V}{u:Value}(r:RelV x u):∀{xs:List V} {us:List Value} (i:Nat),Vals xs us->Vals (xs.set i x) (us.set i u)
 | _,_,_,.nil=>.nil
 | _,_,0,.cons _ t=>.cons r t
 | _,_,i + 1,.cons q t=>.cons q (Vals.set r i t)
theorem Vals.append {xs ys:List V}{us ws:List Value}(r:Vals xs us)(s:Vals ys ws):Vals (xs++ys) (us++ws):=by
 cases r with
 | nil=>exact s
 | cons r t=>exact .cons r (Vals.append t s)
theorem Vals.take:∀{xs:List V} {us:List Value} (n:Nat),Vals xs us->Vals (xs.take n) (us.take n)
 | _,_,0,_=>.nil
 | _,_,_ + 1,.nil=>.nil
 | _,_,n + 1,.cons r t=>.cons r (Vals.take n t)
theorem Vals.drop:∀{xs:List V} {us:List Value} (n:Nat),Vals xs us->Vals (xs.drop n) (us.drop n)
 | _,_,0,r=>r
 | _,_,_ + 1,.nil=>.nil
 | _,_,n + 1,.cons _ t=>Vals.drop n t
def RelO:Option V->Option Value->Prop
 | some v,some u=>RelV v u
 | none,none=>True
 | _,_=>False
def KV {κ:Type}:List (κ×V)->List (κ×Value)->Prop:=Paired λ(p:κ×V) (q:κ×Value)=>p.1=q.1/\RelV p.2 q.2
noncomputable def kV:Key->V
 | .inl i=>.int i
 | .inr x=>.str x
inductive HO where
 /-- a list -/
 | lst (xs:List V)
 /-- a tuple (never changes) -/
 | tup (xs:List V)
 /-- a dict whose keys are ints and texts;one whose keys are tuples of ints and texts (the empty one is both) -/
 | dK (kvs:List (Key×V)) | dT (kvs:List (List Key×V))
 /-- a set of ints: its members,its size -/
 | set (S:Int->Bool) (n:Nat)
 /-- an instance of the class at C,its dict at dx,its attributes -/
 | ins (C dx:Addr) (fs:List (Str×V))
 /-- the dict of the instance at x -/
 | own (x:Addr)
 /-- the dict of an exception -/
 | xd (fs:List (Str×V))
 /-- a bound method,f of x -/
 | met (f x:Addr)
 /-- a range object lo,lo + 1,.. below hi -/
 | rng (lo hi:Int)
 /-- a thing that is known to the object (the script;a dict while a loop walks it): read,never written while it is so -/
 | frz (o:Obj) (u:HO)
 /-- a code object's table -/
 | tbl (ps:Array Value)
 /-- any other thing,by what is true of its one object (a def of one's own: SetO a S n:=HO.ext λh=>..) -/
 | ext (φ:Heap->Prop)
abbrev Hp:=Addr->Option HO
noncomputable def upd (H:Hp)(a:Addr)(o:HO):Hp:=λb=>if b=a then some o else H b
variable {H:Hp}{a:Addr}{o:HO}
theorem Aw:upd H a o a=some o:=by unfold upd;rw [if_pos rfl]
variable {b:Addr}
theorem Al (h:b≠a):upd H a o b=H b:=by unfold upd;rw [if_neg h]
theorem UU {u:HO}:upd (upd H a o) a u=upd H a u:=by
 funext b;unfold upd;split <;> rfl
theorem Ay (h:H a=some o)(h':H b=none):a≠b:=by
 intro e;subst e;rw [h] at h';cases h'
section
variable (P:Program)(w:World)
def ObjOk (H:Hp)(h:Heap)(a:Addr):HO->Prop
 | .lst xs=>xs.length<=sizeLine/\∃(its:List Value) (n:Nat),Vals xs its/\h.get? a=some { cls:=.type "list",data:=.seq its.toArray n }
 | .tup xs=>xs.length<=sizeLine/\∃its:List Value,Vals xs its/\IsTup h a its.toArray
 | .dK kvs=>kvs.length<=sizeLine/\(a == sysModules)=false/\∃vs,KV kvs vs/\h.DictOf (AU P w) a vs
 | .dT kvs=>kvs.length<=sizeLine/\(a == sysModules)=false/\∃xs:List (List Key×Addr×Value),
    Paired (λ(p:List Key×V) (q:List Key×Addr×Value)=>p.1=q.1/\H q.2.1=some (.tup (p.1.map kV))/\RelV p.2 q.2.2) kvs xs/\
    ∃o es ep,h.get? a=some o/\o.ExactDict/\o.data = .dict es ep/\es.toList=xs.map (entryOfKey (tupleKind (AU P w)))/\(xs.map (·.1)).Nodup
 | .set S n=>h.SetOf (intKind P w) a S n
 | .ins C dx fs=>H dx=some (.own a)/\fs.length<=1000/\dx≠a/\h.get? a=some (PySem.W.instObj C dx)/\
    ∃mA,h.Ns1 dx mA/\(∀f,RelO (fs.lookup f) (mA f))/\PySem.Within mA (fs.map (·.1))
 | .own _=>∃o,h.get? a=some o
 | .xd fs=>∃mA,h.Ns1 a mA/\∀f,RelO (fs.lookup f) (mA f)
 | .rng lo hi=>∃t u v,h.get? a=some { cls:=.type "range",data:=.fields #[.int lo t,.int hi u,.int 1 v] }
 | .frz o u=>h.get? a=some o/\ObjOk H h a u
 | .tbl ps=>h.get? a=some { cls:=.none,data:=.fields ps }
 | .met f x=>h.get? a=some (PySem.W.methodObj (.ref f) (.ref x))
 | .ext φ=>φ h/\(∃o,h.get? a=some o)/\∀h1 h2:Heap,φ h1->(∀o,h1.get? a=some o->h2.get? a=some o)->φ h2
def HOk (H:Hp)(h:Heap):Prop:=∀a o,H a=some o->ObjOk P w H h a o
end
section
variable {P:Program}{w:World}{H H':Hp}{h h':Heap}{a:Addr}{o:HO}
theorem ObjOk.lt (x:ObjOk P w H h a o):a < h.objs.size:=by
 cases o with
 | lst xs=>obtain ⟨_,_,_,_,e⟩:=x;exact Heap.lt_size e
 | tup xs=>obtain ⟨_,_,_,p⟩:=x;exact p.lt
 | dK kvs=>obtain ⟨_,_,_,_,o,_,_,e,_⟩:=x;exact Heap.lt_size e
 | dT kvs=>obtain ⟨_,_,_,_,o,_,_,e,_⟩:=x;exact Heap.lt_size e
 | set S n=>obtain ⟨o,_,_,_,e,_⟩:=x;exact Heap.lt_size e
 | ins C dx fs=>obtain ⟨_,_,_,e,_⟩:=x;exact Heap.lt_size e
 | own y=>obtain ⟨_,e⟩:=x;exact Heap.lt_size e
 | xd fs=>obtain ⟨_,⟨_,_,_,e,_⟩,_⟩:=x;exact Heap.lt_size e
 | rng lo hi=>obtain ⟨_,_,_,e⟩:=x;exact Heap.lt_size e
 | frz ob u=>obtain ⟨e,_⟩:=x;exact Heap.lt_size e
 | tbl ps=>exact Heap.lt_size (show h.get? a=some _ from x)
 | met f y=>exact Heap.lt_size (show h.get? a=some _ from x)
 | ext φ=>obtain ⟨_,⟨_,e⟩,_⟩:=x;exact Heap.lt_size e
theorem Paired.mapP {α β:Type}{F G:α->β->Prop}:∀{l₁:List α} {l₂:List β},Paired F l₁ l₂->(∀a b,F a b->G a b)->Paired G l₁ l₂
 | _,_,.nil,_=>.nil
 | _,_,.cons r t,f=>.cons (f _ _ r) (Paired.mapP t f)
theorem ObjOk.stay (x:ObjOk P w H h a o)(k:∀b u,(b=a\/H b=some (.own a))->h.get? b=some u->h'.get? b=some u)
 (ho:∀b,H b=some (.own a)->H' b=some (.own a)) (ht:∀b xs,H b=some (.tup xs)->H' b=some (.tup xs)):ObjOk P w H' h' a o:=by
 induction o with
 | lst xs=>obtain ⟨z,its,n,r,e⟩:=x;exact ⟨z,its,n,r,k _ _ (.inl rfl) e⟩
 | tup xs=>obtain ⟨z,its,r,ob,e,c⟩:=x;exact ⟨z,its,r,ob,k _ _ (.inl rfl) e,c⟩
 | dK kvs=>obtain ⟨z,y,vs,r,ob,es,ep,e,c⟩:=x;exact ⟨z,y,vs,r,ob,es,ep,k _ _ (.inl rfl) e,c⟩
 | dT kvs=>
   obtain ⟨z,y,xs,r,ob,es,ep,e,c⟩:=x;exact ⟨z,y,xs,Paired.mapP r λp q z=>⟨z.1,ht _ _ z.2.1,z.2.2⟩,ob,es,ep,k _ _ (.inl rfl) e,c⟩
 | set S n=>obtain ⟨ob,es,ep,t,e,c⟩:=x;exact ⟨ob,es,ep,t,k _ _ (.inl rfl) e,c⟩
 | ins C dx fs=>
   obtain ⟨d,z,ne,e,mA,⟨od,es,ep,e2,c⟩,r⟩:=x;exact ⟨ho _ d,z,ne,k _ _ (.inl rfl) e,mA,⟨od,es,ep,k _ _ (.inr d) e2,c⟩,r⟩
 | own y=>obtain ⟨ob,e⟩:=x;exact ⟨ob,k _ _ (.inl rfl) e⟩
 | xd fs=>obtain ⟨mA,⟨od,es,ep,e,c⟩,r⟩:=x;exact ⟨mA,⟨od,es,ep,k _ _ (.inl rfl) e,c⟩,r⟩
 | rng lo hi=>obtain ⟨t,u,v,e⟩:=x;exact ⟨t,u,v,k _ _ (.inl rfl) e⟩
 | frz ob u ih=>obtain ⟨e,q⟩:=x;exact ⟨k _ _ (.inl rfl) e,ih q⟩
 | tbl ps=>
   have e:h.get? a=some { cls:=.none,data:=.fields ps }:=x;show h'.get? a=some { cls:=.none,data:=.fields ps };exact k a _ (.inl rfl) e
 | met f y=>
   have e:h.get? a=some (PySem.W.methodObj (.ref f) (.ref y)):=x;show h'.get? a=some (PySem.W.methodObj (.ref f) (.ref y));exact k a _ (.inl rfl) e
 | ext φ=>obtain ⟨p,⟨o,e⟩,st⟩:=x;exact ⟨st _ _ p λo q=>k _ _ (.inl rfl) q,⟨o,k _ _ (.inl rfl) e⟩,st⟩
theorem HOk.lt (x:HOk P w H h)(e:H a=some o):a < h.objs.size:=(x a o e).lt
theorem HOk.fresh (x:HOk P w H h)(e:h.objs.size<=a):H a=none:=by
 cases q:H a with
 | none=>rfl
 | some u=>exact absurd (Nat.lt_of_lt_of_le (x.lt q) e) (Nat.lt_irrefl _)
theorem HOk.kept (x:HOk P w H h)(k:∀b u,h.get? b=some u->h'.get? b=some u):HOk P w H h':=λa o e=>
 (x a o e).stay (λb u _ q=>k b u q) (λ_ q=>q) λ_ _ q=>q
theorem HOk.laid (x:HOk P w H h)(k:∀b u,h.get? b=some u->h'.get? b=some u)(hp:h.objs.size<=a)(new:ObjOk P w (upd H a o) h' a o):HOk P w (upd H a o) h':=λb u e=>by
 have hn:=x.fresh hp
 by_cases hb:b=a
 ·subst hb;rw [Aw] at e;cases e;exact new
 ·rw [Al hb] at e;exact (x b u e).stay (λc v _ q=>k c v q) (λc q=>by rw [Al (Ay q hn)];exact q) λc xs q=>by rw [Al (Ay q hn)];exact q
end
noncomputable def Rd (H:Hp)(a:Addr)(u:HO):Prop:=H a=some u\/∃o,H a=some (.frz o u)
variable {P:Program}{w:World}{h:Heap}
theorem Rd.ok {u:HO}(r:Rd H a u)(x:HOk P w H h):ObjOk P w H h a u:=by
 rcases r with r | ⟨o,r⟩
 ·exact x a u r
 ·obtain ⟨_,q⟩:=x a _ r;exact q
def Mut:Option HO->Prop
 | some (.lst _)=>True
 | some (.dK _)=>True
 | some (.dT _)=>True
 | some (.set _ _)=>True
 | some (.ins _ _ _)=>True
 | some (.ext _)=>True
 | _=>False
section
variable {P:Program}{w:World}{H:Hp}{h h':Heap}{x e:Addr}{o':HO}
theorem HOk.write (ok:HOk P w H h)(mu:Mut (H x))(he:e=x\/H e=some (.own x))(k:∀b u,b≠e->h.get? b=some u->h'.get? b=some u)(heo:∃u,h'.get? e=some u)
 (new:ObjOk P w (upd H x o') h' x o'):HOk P w (upd H x o') h':=λb u q=>by
 have nown:∀c y,H c=some (.own y)->c≠x:=λc y r z=>by subst z;rw [r] at mu;exact mu
 have ntup:∀c xs,H c=some (.tup xs)->c≠x:=λc xs r z=>by subst z;rw [r] at mu;exact mu
 by_cases hb:b=x
 ·subst hb;rw [Aw] at q;cases q;exact new
 ·rw [Al hb] at q
  by_cases hbe:b=e
  ·have q':H b=some (.own x):=by
    rcases he with z | z
    ·exact absurd (hbe.trans z) hb
    ·rw [hbe];exact z
   rw [q] at q';cases q'
   obtain ⟨v,hv⟩:=heo;exact ⟨v,by rw [hbe];exact hv⟩
  ·refine (ok b u q).stay (λc v hc r=>k c v ?_ r) (λc r=>by rw [Al (nown c b r)];exact r) λc xs r=>by rw [Al (ntup c xs r)];exact r
   rcases hc with rfl | hc
   ·exact hbe
   ·rintro rfl;rcases he with z | z
    ·exact nown c b hc z
    ·rw [hc] at z;cases z;exact hb rfl
end
structure Un (fs ex:List Addr)(H H':Hp)(h h':Heap):Prop where
 keep:∀b o,h.get? b=some o->H b=none->b∉fs->b∉ex->h'.get? b=some o
 slot:∀b o,h.get? b=some o->H b=none->b∈fs->b∉ex->∃sl,h'.get? b=some { o with slots:=sl }
 free:∀b o,h.get? b=some o->H b=none->b∉ex->H' b=none
 there:∀b o,h.get? b=some o->b∉ex->∃o',h'.get? b=some o'
 tups:∀b xs,H b=some (.tup xs)->H' b=some (.tup xs)
 frzs:∀b o u,H b=some (.frz o u)->H' b=some (.frz o u)
 tbls:∀b ps,H b=some (.tbl ps)->∃more,H' b=some (.tbl (ps++more))
section
variable {fs fs' ex ex':List Addr}{H H1 H2:Hp}{h h1 h2 h':Heap}{a x e:Addr}{o:HO}
theorem Un.any (u:Un fs ex H H1 h h1){b:Addr}{ob:Obj}(q:h.get? b=some ob)(n:H b=none)(hx:b∉ex):∃sl,h1.get? b=some { ob with slots:=sl }:=by
 by_cases hb:b∈fs
 ·exact u.slot b ob q n hb hx
 ·exact ⟨ob.slots,u.keep b ob q n hb hx⟩
theorem Un.kept (k:∀b u,h.get? b=some u->h'.get? b=some u):Un fs ex H H h h':=
 ⟨λb ob q _ _ _=>k b ob q,λb ob q _ _ _=>⟨ob.slots,k b ob q⟩,λ_ _ _ n _=>n,λb ob q _=>⟨ob,k b ob q⟩,λ_ _ q=>q,λ_ _ _ q=>q,λ_ ps q=>⟨#[],by rw [q];simp⟩⟩
theorem Un.refl:Un fs ex H H h h:=Un.kept λ_ _ q=>q
theorem Un.laid (k:∀b u,h.get? b=some u->h'.get? b=some u)(hp:h.objs.size<=a)(hn:H a=none):Un fs ex H (upd H a o) h h' where
 keep:=λb u q _ _ _=>k b u q
 slot:=λb u q _ _ _=>⟨u.slots,k b u q⟩
 free:=λb u q n _=>by rw [Al (Nat.ne_of_lt (Nat.lt_of_lt_of_le (Heap.lt_size q) hp))];exact n
 there:=λb u q _=>⟨u,k b u q⟩
 tups:=λb xs q=>by rw [Al (Ay q hn)];exact q
 frzs:=λb u xs q=>by rw [Al (Ay q hn)];exact q
 tbls:=λb ps q=>⟨#[],by rw [Al (Ay q hn),q];simp⟩
theorem Un.write (mu:Mut (H x))(he:e=x\/H e=some (.own x))(k:∀b u,b≠e->h.get? b=some u->h'.get? b=some u)(heo:∃u,h'.get? e=some u):Un fs ex H (upd H x o) h h':=by
 have hx:∀b,H b=none->b≠x:=λb n z=>by subst z;rw [n] at mu;exact mu
 have hb:∀b,H b=none->b≠e:=λb n z=>by
  subst z;rcases he with r | r
  ·exact hx b n r
  ·rw [n] at r;cases r
 have hm:∀b u,H b=some u->¬Mut (some u)->b≠x:=λb u q nm z=>by subst z;rw [q] at mu;exact nm mu
 refine ⟨λb u q n _ _=>k b u (hb b n) q,λb u q n _ _=>⟨u.slots,k b u (hb b n) q⟩,λb u q n _=>by rw [Al (hx b n)];exact n,λb u q _=>?_,
  λb xs q=>by rw [Al (hm b _ q λz=>z)];exact q,λb u xs q=>by rw [Al (hm b _ q λz=>z)];exact q,λb ps q=>⟨#[],by rw [Al (hm b _ q λz=>z),q];simp⟩⟩
 by_cases hbe:b=e
 ·subst hbe;exact heo
 ·exact ⟨u,k b u hbe q⟩
end
noncomputable def trk (h:Heap)(H:Hp):List Addr:=(List.range h.objs.size).filter λa=>(H a).isSome
def FO (h:Heap)(H:Hp):Heap:=PySem.W.hideAll h (trk h H)
theorem OB (h:Heap)(H:Hp):(FO h H).objs.size=h.objs.size:=PySem.W.hideAll_size _ _
theorem Qx {o:Obj}(e:h.get? b=some o)(n:H b=none):(FO h H).get? b=some o:=
 PySem.W.hideAll_get _ e λhm=>by
  have q:(H b).isSome=true:=(List.mem_filter.mp hm).2;rw [n] at q;simp at q
theorem T0 {o:Obj}(e:(FO h H).get? b=some o):h.get? b=some o/\H b=none:=by
 have e':h.get? b=some o:=PySem.W.of_hideAll (trk h H) e;refine ⟨e',?_⟩
 cases q:H b with
 | none=>rfl
 | some x=>
   have hm:b∈trk h H:=List.mem_filter.mpr ⟨List.mem_range.mpr (Heap.lt_size e'),by simp [q]⟩;have z:(FO h H).get? b=none:=PySem.W.hideAll_none (trk h H) hm;rw [z] at e;cases e
noncomputable def SE (g h:Heap)(L:Addr):List (Addr×Obj):=(List.range h.objs.size).filterMap λa=>if a=L\/(g.get? a).isSome=true then none else (h.get? a).map λo=>(a,o)
def rest (g h:Heap)(L d:Addr):List (Addr×Obj):=(SE g h L).filter λp=>decide (p.1≠d)
structure Mod (K:PySem.W.Frag)(mg:Str->Option Value)(base:Heap):Prop where
 kin:K.In base
 glob:base.Ns mainGlobals mg
 blt:∃mb,base.Ns builtinsNs mb/\∀x:Str,x≠"__name__"->mb x=bootBuiltins x
 nolimit:base.NoLimit
structure Cx where
 prog:Program
 w:World
 K:PySem.W.Frag
 mg:Str->Option Value
 base:Heap
 A:Around
 N:List Str
 s₀:Shared
 H₀:Hp
 env:Env
 outer:List Env
 stack:List Env
 ex:List Addr
 fn:Str->Bool
 calm:Bool
 pn:List (Addr×Obj)
 xe:Value->Shared->Prop
noncomputable def frs (l:List Env):List Addr:=l.filterMap (·.frame)
abbrev Cx.fs (X:Cx):List Addr:=frs X.outer
def Vis (sc:Scope)(x:Str):Prop:=sc.names.lookup x=some .local\/sc.names.lookup x=some .cell\/sc.names.lookup x=some .free
def Loc (sc:Scope)(x:Str):Prop:=sc.names.lookup x=some .local\/sc.names.lookup x=some .cell
def YR (env:Env)(h:Heap)(m:Str->Option Value)(x:Str)(u:Value):Prop:=
 (env.kindOf x=some .local/\m x=some u)\/((env.kindOf x=some .cell\/env.kindOf x=some .free)/\∃c,env.cells.lookup x=some c/\h.IsCell c (some u))
structure Cx.Ok (X:Cx):Prop where
 mod:Mod X.K X.mg X.base
 kind:X.env.scope.kind = .function
 glob:X.env.globals=mainGlobals
 blt:X.env.builtins=builtinsNs
 above:X.s₀.heap.objs.size<=X.env.locals
 inj:∀x y c,X.env.cells.lookup x=some c->X.env.cells.lookup y=some c->x=y
 has:∀x,(X.env.kindOf x=some .cell\/X.env.kindOf x=some .free)->∃c,X.env.cells.lookup x=some c
 cab:∀x c,X.fn x=true->X.env.cells.lookup x=some c->X.s₀.heap.objs.size<=c
 hd:X.calm=true->X.A.handled=none
 frames:X.A.frames=some X.stack
 stk:X.stack=X.outer\/(X.stack=X.env :: X.outer/\X.env.frame=some X.env.locals)
 exf:∀b∈X.ex,b≠X.env.locals/\∀x c,X.env.cells.lookup x=some c->c≠b
 bs:∀b o,X.base.get? b=some o->X.s₀.heap.get? b=some o/\X.H₀ b=none
 bsz:X.base.objs.size<=X.s₀.heap.objs.size
 noex:∀b o,X.base.get? b=some o->b∉X.ex
 exfs:∀b∈X.ex,b∉X.fs
 funs:X.s₀.heap.FunFrames X.base X.outer
 frf:∀b∈X.fs,X.H₀ b=none
structure Inv (X:Cx)(pins:List (Addr×Obj))(σ:List (Option V))(H:Hp)(s:Shared):Prop where
 ok:X.Ok
 os:s.os=X.s₀.os
 bare:AllBare s.gens
 base:Un X.fs X.ex X.H₀ H X.s₀.heap s.heap
 loc:∃m,s.heap.Ns X.env.locals m/\∀(i:Nat) (x:Str) (v:V),X.N[i]?=some x->σ[i]?=some (some v)->Vis X.env.scope x->∃u,RelV v u/\YR X.env s.heap m x u
 cell:∀x c,X.env.cells.lookup x=some c->∃v,s.heap.IsCell c v
 free:H X.env.locals=none
 freeC:∀x c,X.env.cells.lookup x=some c->H c=none
 pin:∀p∈X.pn++pins,s.heap.get? p.1=some p.2/\H p.1=none/\p.1≠X.env.locals/\p.1∉X.fs/\∀v,p.2.data≠.cell v
 hok:HOk X.prog X.w H s.heap
 len:σ.length=X.N.length
variable {t' i:Nat}{ch:List Addr}{E:Value->Shared->Prop}{x:Str}{v:V}{u:Value}{Q:Unit->Shared->Prop}
section
variable {X:Cx}{pins:List (Addr×Obj)}{σ:List (Option V)}{H H':Hp}{s:Shared}{h':Heap}
theorem Cx.Ok.nofr (ok:X.Ok){b:Addr}{o:Obj}(e:X.base.get? b=some o):b∉X.fs:=λhb=>by
 have:=(ok.funs.mem hb).1;rw [e] at this;cases this
theorem Inv.bs (I:Inv X pins σ H s):∀b o,X.base.get? b=some o->s.heap.get? b=some o/\H b=none:=λb o e=>
 ⟨I.base.keep b o (I.ok.bs b o e).1 (I.ok.bs b o e).2 (I.ok.nofr e) (I.ok.noex b o e),I.base.free b o (I.ok.bs b o e).1 (I.ok.bs b o e).2 (I.ok.noex b o e)⟩
theorem Inv.bk (I:Inv X pins σ H s):∀b o,X.base.get? b=some o->s.heap.get? b=some o:=λb o e=>(I.bs b o e).1
theorem Inv.mod (I:Inv X pins σ H s):Mod X.K X.mg X.base:=I.ok.mod
theorem Inv.kIn (I:Inv X pins σ H s):X.K.In s.heap:=I.ok.mod.kin.keeps I.bk
theorem Inv.lt (I:Inv X pins σ H s):X.env.locals < s.heap.objs.size:=let ⟨_,hn,_⟩:=I.loc;hn.lt
theorem Inv.sz (I:Inv X pins σ H s):X.s₀.heap.objs.size<=s.heap.objs.size:=Nat.le_trans I.ok.above (Nat.le_of_lt I.lt)
theorem Inv.nofs (I:Inv X pins σ H s){a:Addr}(h:s.heap.objs.size<=a):a∉X.fs:=λhb=>by
 obtain ⟨_,o,ho,_⟩:=I.ok.funs.mem hb;exact absurd (Nat.lt_of_lt_of_le (Heap.lt_size ho) (Nat.le_trans I.sz h)) (Nat.lt_irrefl _)
theorem Inv.cne (I:Inv X pins σ H s):∀x c,X.env.cells.lookup x=some c->c≠X.env.locals:=λx c e z=>by
 obtain ⟨v,o,ho,hd⟩:=I.cell x c e;obtain ⟨m,⟨o',es,ep,ho',hd',_⟩,_⟩:=I.loc;rw [z,ho'] at ho;cases ho;rw [hd'] at hd;cases hd
theorem Inv.funs (I:Inv X pins σ H s):s.heap.FunFrames X.base X.outer:=by
 have all:∀(l:List Env),(∀b∈frs l,b∈X.fs)->X.s₀.heap.FunFrames X.base l->s.heap.FunFrames X.base l:=by
  intro l
  induction l with
  | nil=>intro _ _;trivial
  | cons env r ih=>
    intro hs hl;obtain ⟨hk,⟨L,o,hf,hn,ho,hd⟩,hr⟩:=hl;have hL:L∈X.fs:=hs L (by unfold frs;rw [List.filterMap_cons,hf];exact List.mem_cons_self);obtain ⟨sl,e⟩:=I.base.slot L o ho (I.ok.frf L hL) hL λz=>I.ok.exfs L z hL;exact ⟨hk,⟨L,_,hf,hn,e,hd⟩,ih (λb hb=>hs b (by unfold frs;rw [List.filterMap_cons,hf];exact List.mem_cons_of_mem _ hb)) hr⟩
 exact all X.outer (λ_ hb=>hb) I.ok.funs
theorem Inv.stack (I:Inv X pins σ H s):s.heap.FunFrames X.base X.stack:=by
 rcases I.ok.stk with e | ⟨e,hf⟩
 ·rw [e];exact I.funs
 ·rw [e];obtain ⟨m,hn,_⟩:=I.loc;refine .cons (by rw [I.ok.kind];decide) hf hn ?_ I.funs;exact Heap.get?_none_of_le (Nat.le_trans I.ok.bsz I.ok.above)
theorem Inv.stkSub (I:Inv X pins σ H s):∀b∈frs X.stack,b∈X.env.locals :: X.fs:=λb hb=>by
 rcases I.ok.stk with e | ⟨e,hf⟩
 ·rw [e] at hb;exact List.mem_cons_of_mem _ hb
 ·rw [e] at hb;unfold frs at hb;rw [List.filterMap_cons,hf] at hb;exact hb
theorem Inv.stkFree (I:Inv X pins σ H s):∀b∈frs X.stack,H b=none:=λb hb=>by
 rcases List.mem_cons.mp (I.stkSub b hb) with e | hb
 ·rw [e];exact I.free
 ·obtain ⟨_,o,ho,_⟩:=I.ok.funs.mem hb;exact I.base.free b o ho (I.ok.frf b hb) λz=>I.ok.exfs b z hb
theorem Inv.step {g':Array GenState}{d':Drawn}(I:Inv X pins σ H s)
 (hch:∀b∈ch,(b∈X.ex\/X.s₀.heap.objs.size<=b)/\b≠X.env.locals/\(∀x c,X.env.cells.lookup x=some c->c≠b)/\∀p∈X.pn++pins,p.1≠b)
 (keep:∀b o,b≠X.env.locals->b∉X.fs->b∉ch->s.heap.get? b=some o->H b=none->h'.get? b=some o)
 (slot:∀b o,b≠X.env.locals->b∈X.fs->b∉ch->s.heap.get? b=some o->H b=none->∃sl,h'.get? b=some { o with slots:=sl }) (free:∀b o,b∉ch->s.heap.get? b=some o->H b=none->H' b=none)
 (there:∀b o,b∉ch->s.heap.get? b=some o->∃o',h'.get? b=some o')
 (tups:∀b xs,H b=some (.tup xs)->H' b=some (.tup xs)) (frzs:∀b o u,H b=some (.frz o u)->H' b=some (.frz o u)) (tbls:∀b ps,H b=some (.tbl ps)->∃more,H' b=some (.tbl (ps++more)))
 (ns:∀m,s.heap.Ns X.env.locals m->h'.Ns X.env.locals m) (hok:HOk X.prog X.w H' h') (hg:AllBare g') :
 Inv X pins σ H' { s with heap:=h',gens:=g',drawn:=d',toks:=t' }:=by
 have neL:∀b o,X.s₀.heap.get? b=some o->b≠X.env.locals:=λb o e=>Nat.ne_of_lt (Nat.lt_of_lt_of_le (Heap.lt_size e) I.ok.above);have neC:∀b o,X.s₀.heap.get? b=some o->b∉X.ex->b∉ch:=λb o e hx hb=>by
  rcases (hch b hb).1 with z | z
  ·exact hx z
  ·exact absurd (Nat.lt_of_lt_of_le (Heap.lt_size e) z) (Nat.lt_irrefl _)
 have cellK:∀x c,X.env.cells.lookup x=some c->∀v,s.heap.IsCell c v->h'.IsCell c v:=λx c e v z9=>by
  obtain ⟨o,ho,hd⟩:=z9;have nch:c∉ch:=λz=>(hch c z).2.2.1 x c e rfl
  by_cases hc:c∈X.fs
  ·obtain ⟨sl,q⟩:=slot c o (I.cne x c e) hc nch ho (I.freeC x c e);exact ⟨_,q,hd⟩
  ·exact ⟨o,keep c o (I.cne x c e) hc nch ho (I.freeC x c e),hd⟩
 refine ⟨I.ok,I.os,hg,⟨λb o e n hb hx=>?_,λb o e n hb hx=>?_,λb o e n hx=>?_,λb o e hx=>?_,λb xs e=>tups b xs (I.base.tups b xs e),λb o xs e=>frzs b o xs (I.base.frzs b o xs e),λb ps e=>?_⟩,?_,λx c e=>?_,?_,λx c e=>?_,λp hp=>?_,hok,I.len⟩
 ·exact keep b o (neL b o e) hb (neC b o e hx) (I.base.keep b o e n hb hx) (I.base.free b o e n hx)
 ·obtain ⟨sl,e1⟩:=I.base.slot b o e n hb hx;obtain ⟨sl',e2⟩:=slot b _ (neL b o e) hb (neC b o e hx) e1 (I.base.free b o e n hx);exact ⟨sl',e2⟩
 ·obtain ⟨o',e1⟩:=I.base.there b o e hx;exact free b o' (neC b o e hx) e1 (I.base.free b o e n hx)
 ·obtain ⟨o',e1⟩:=I.base.there b o e hx;exact there b o' (neC b o e hx) e1
 ·obtain ⟨m1,e1⟩:=I.base.tbls b ps e;obtain ⟨m2,e2⟩:=tbls b _ e1;exact ⟨m1++m2,by rw [e2,Array.append_assoc]⟩
 ·obtain ⟨m,hn,hl⟩:=I.loc;refine ⟨m,ns m hn,λi x v e1 e2 e3=>?_⟩;obtain ⟨u,r,l⟩:=hl i x v e1 e2 e3;refine ⟨u,r,?_⟩;rcases l with l | ⟨k,c,e,z⟩
  ·exact .inl l
  ·exact .inr ⟨k,c,e,cellK x c e _ z⟩
 ·obtain ⟨v,z⟩:=I.cell x c e;exact ⟨v,cellK x c e v z⟩
 ·obtain ⟨m,⟨o,_,_,ho,_⟩,_⟩:=I.loc;exact free _ o (λz=>(hch _ z).2.1 rfl) ho I.free
 ·obtain ⟨v,o,ho,hd⟩:=I.cell x c e;exact free c o (λz=>(hch c z).2.2.1 x c e rfl) ho (I.freeC x c e)
 ·obtain ⟨e,n,ne,nf,d⟩:=I.pin p hp;have nch:p.1∉ch:=λz=>(hch p.1 z).2.2.2 p hp rfl;exact ⟨keep p.1 p.2 ne nf nch e n,free p.1 p.2 nch e n,ne,nf,d⟩
theorem Inv.un (I:Inv X pins σ H s)(u:Un X.fs [] H H' s.heap h')(hok:HOk X.prog X.w H' h'):Inv X pins σ H' { s with heap:=h',toks:=t' }:=by
 obtain ⟨m,⟨o,es,ep,ho,r⟩,_⟩:=id I.loc;obtain ⟨sl,hL⟩:=u.any ho I.free (by simp);exact I.step (g':=s.gens) (d':=s.drawn) (ch:=[]) (λ_ z=>nomatch z) (λb o _ hb _ e n=>u.keep b o e n hb (by simp)) (λb o _ hb _ e n=>u.slot b o e n hb (by simp)) (λb o _ e n=>u.free b o e n (by simp)) (λb o _ e=>u.there b o e (by simp)) u.tups u.frzs u.tbls (λm' hm=>by
  obtain ⟨o',es',ep',ho',r'⟩:=hm;rw [ho] at ho';cases ho'
  exact ⟨_,es',ep',hL,r'⟩) hok I.bare
theorem Inv.call {g':Array GenState}{d':Drawn}(I:Inv X pins σ H s)(u:Un (frs X.stack) ch H H' s.heap h')(hok:HOk X.prog X.w H' h')(hg:AllBare g')
 (hch:∀b∈ch,(b∈X.ex\/X.s₀.heap.objs.size<=b)/\b≠X.env.locals/\(∀x c,X.env.cells.lookup x=some c->c≠b)/\∀p∈X.pn++pins,p.1≠b) :
 Inv X pins σ H' { s with heap:=h',gens:=g',drawn:=d',toks:=t' }:=by
 obtain ⟨m,⟨o,es,ep,ho,r⟩,_⟩:=id I.loc;obtain ⟨sl,hL⟩:=u.any ho I.free λz=>(hch _ z).2.1 rfl;exact I.step (ch:=ch) hch (λb o hL hb hc e n=>u.keep b o e n (λz=>(List.mem_cons.mp (I.stkSub b z)).elim hL hb) hc) (λb o _ _ hc e n=>u.any e n hc) (λb o hc e n=>u.free b o e n hc) (λb o hc e=>u.there b o e hc) u.tups u.frzs u.tbls (λm' hm=>by
  obtain ⟨o',es',ep',ho',r'⟩:=hm;rw [ho] at ho';cases ho'
  exact ⟨_,es',ep',hL,r'⟩) hok hg
theorem Inv.turned {it:Addr}(I:Inv X pins σ H s)(k:∀b o,b≠it->s.heap.get? b=some o->h'.get? b=some o)(hn:H it=none)(hL:it≠X.env.locals)
 (h1:it∈X.ex\/X.s₀.heap.objs.size<=it) (h2:∀x c,X.env.cells.lookup x=some c->c≠it) (h3:∀p∈X.pn++pins,p.1≠it):Inv X pins σ H { s with heap:=h',toks:=t' }:=by
 have nit:∀b u,H b=some u->b≠it:=λb u e z=>by rw [z,hn] at e;cases e
 refine I.step (g':=s.gens) (d':=s.drawn) (ch:=[it]) (λb hb=>?_) (λb o _ _ hc e _=>k b o (λz=>hc (by simp [z])) e) (λb o _ _ hc e _=>⟨o.slots,k b o (λz=>hc (by simp [z])) e⟩) (λ_ _ _ _ n=>n)
  (λb o hc e=>⟨o,k b o (λz=>hc (by simp [z])) e⟩) (λ_ _ e=>e) (λ_ _ _ e=>e) (λb ps e=>⟨#[],by rw [e];simp⟩) (λm hm=>?_) (λb u e=>?_) I.bare
 ·have e:b=it:=by simpa using hb
  subst e;exact ⟨h1,hL,h2,h3⟩
 ·obtain ⟨o,es,ep,ho,r⟩:=hm;exact ⟨o,es,ep,k _ o (Ne.symm hL) ho,r⟩
 ·refine (I.hok b u e).stay (λc v hc q=>k c v ?_ q) (λ_ q=>q) λ_ _ q=>q;rcases hc with z | z
  ·rw [z];exact nit b u e
  ·exact nit c _ z
theorem Inv.tok (I:Inv X pins σ H s)(t:Nat):Inv X pins σ H { s with toks:=t }:=I.un (h':=s.heap) (t':=t) Un.refl I.hok
theorem Inv.kept {t':Nat}(I:Inv X pins σ H s)(k:∀b u,s.heap.get? b=some u->h'.get? b=some u):Inv X pins σ H { s with heap:=h',toks:=t' }:=I.un (Un.kept k) (I.hok.kept k)
theorem Inv.laid {a:Addr}{o:HO}{t':Nat}(I:Inv X pins σ H s)(k:∀b u,s.heap.get? b=some u->h'.get? b=some u)(hp:s.heap.objs.size<=a)(new:ObjOk X.prog X.w (upd H a o) h' a o) :
 Inv X pins σ (upd H a o) { s with heap:=h',toks:=t' }:=I.un (Un.laid k hp (I.hok.fresh hp)) (I.hok.laid k hp new)
theorem Inv.write {x e:Addr}{o:HO}{t':Nat}(I:Inv X pins σ H s)(mu:Mut (H x))(he:e=x\/H e=some (.own x))(k:∀b u,b≠e->s.heap.get? b=some u->h'.get? b=some u)(heo:∃u,h'.get? e=some u)
 (new:ObjOk X.prog X.w (upd H x o) h' x o):Inv X pins σ (upd H x o) { s with heap:=h',toks:=t' }:=I.un (Un.write mu he k heo) (I.hok.write mu he k heo new)
theorem Inv.pins_of {pins':List (Addr×Obj)}(I:Inv X pins σ H s)(h:∀p∈pins',s.heap.get? p.1=some p.2/\H p.1=none/\p.1≠X.env.locals/\p.1∉X.fs/\∀v,p.2.data≠.cell v):Inv X pins' σ H s:=
 ⟨I.ok,I.os,I.bare,I.base,I.loc,I.cell,I.free,I.freeC,λp hp=>(List.mem_append.mp hp).elim (λz=>I.pin p (List.mem_append_left _ z)) (h p),I.hok,I.len⟩
theorem HD {N:List Str}(hN:N.Nodup){i j:Nat}{x:Str}(a:N[i]?=some x)(b:N[j]?=some x):i=j:=by
 obtain ⟨h1,e1⟩:=List.getElem?_eq_some_iff.mp a;obtain ⟨h2,e2⟩:=List.getElem?_eq_some_iff.mp b;exact (List.getElem_inj hN).mp (e1.trans e2.symm)
theorem JQ {M:Model}{A:Around}(I:Inv X pins σ H s)(hN:X.N.Nodup)(hi:X.N[i]?=some x)(hx:Loc X.env.scope x)(r:RelV v u)
 (h:∀s',Inv X pins (σ.set i (some v)) H s'->(∃a,Heap.SameBut a s.heap s'.heap/\(a=X.env.locals\/X.env.cells.lookup x=some a))->Q () s') (hf:X.fn x=true\/X.env.scope.names.lookup x=some .local:=by walk_at "h"):wpAny M A (storeName X.env x u) Q E s:=by
 obtain ⟨m,hn,hl⟩:=id I.loc;have hcls:(X.env.scope.kind == .class || (X.env.scope.kind == .module && X.env.locals != X.env.globals))=false:=by rw [I.ok.kind];rfl
 have hiσ:i < σ.length:=by rw [I.len];exact (List.getElem?_eq_some_iff.mp hi).1
 have cne:=I.cne;have tracked:∀{a:Addr} {h':Heap},(∃o,s.heap.get? a=some o/\H a=none)->Heap.SameBut a s.heap h'->HOk X.prog X.w H h':=λ{a h'} ha hs b ob e=>by
  obtain ⟨_,_,hfree⟩:=ha;refine (I.hok b ob e).stay (λc w' hc q=>(hs.2 c ?_).trans q) (λ_ q=>q) λ_ _ q=>q;rintro rfl;rcases hc with rfl | hc
  ·rw [hfree] at e;cases e
  ·rw [hfree] at hc;cases hc
 rcases hx with hk | hk
 ·refine wpAny_storeName_local hk hn (λh' hn' hs=>?_) hcls;obtain ⟨oL,_,_,hoL,_⟩:=id hn;refine h _ ⟨I.ok,I.os,I.bare,⟨λb o e n hb hx=>?_,λb o e n hb hx=>?_,I.base.free,λb o e hx=>?_,I.base.tups,I.base.frzs,I.base.tbls⟩,⟨_,hn',λj y v' e1 e2 e3=>?_⟩,λy c e=>?_,I.free,I.freeC,λp hp=>?_,tracked ⟨oL,hoL,I.free⟩ hs,by simpa using I.len⟩ ⟨_,hs,.inl rfl⟩
  ·exact (hs.2 b (Nat.ne_of_lt (Nat.lt_of_lt_of_le (Heap.lt_size e) I.ok.above))).trans (I.base.keep b o e n hb hx)
  ·obtain ⟨sl,e1⟩:=I.base.slot b o e n hb hx;exact ⟨sl,(hs.2 b (Nat.ne_of_lt (Nat.lt_of_lt_of_le (Heap.lt_size e) I.ok.above))).trans e1⟩
  ·obtain ⟨o',e1⟩:=I.base.there b o e hx;exact ⟨o',(hs.2 b (Nat.ne_of_lt (Nat.lt_of_lt_of_le (Heap.lt_size e) I.ok.above))).trans e1⟩
  ·by_cases hj:j=i
   ·subst hj;rw [hi] at e1;cases e1
    rw [List.getElem?_set_self hiσ] at e2
    cases e2
    exact ⟨u,r,.inl ⟨hk,by simp⟩⟩
   ·rw [List.getElem?_set_ne (Ne.symm hj)] at e2;obtain ⟨u',r',q⟩:=hl j y v' e1 e2 e3;refine ⟨u',r',?_⟩;rcases q with ⟨k,e⟩ | ⟨k,c,e,z⟩
    ·refine .inl ⟨k,?_⟩;have:y≠x:=λe=>hj (HD hN e1 (e ▸ hi));simp [this,e]
    ·exact .inr ⟨k,c,e,z.sameBut hs (cne y c e)⟩
  ·obtain ⟨w',z⟩:=I.cell y c e;exact ⟨w',z.sameBut hs (cne y c e)⟩
  ·obtain ⟨e,n,ne,nf,d⟩:=I.pin p hp;exact ⟨(hs.2 p.1 ne).trans e,n,ne,nf,d⟩
 ·have hfn:X.fn x=true:=by
   rcases hf with z | z
   ·exact z
   ·rw [z] at hk;cases hk
  obtain ⟨c,hc⟩:=I.ok.has x (.inl hk);obtain ⟨w',z⟩:=I.cell x c hc;refine wpAny_storeName_cell I.ok.kind hk hc z (λh' hc' hs=>?_);obtain ⟨oc,hoc,hocd⟩:=id z;refine h { s with heap:=h' } ⟨I.ok,I.os,I.bare,⟨λb o e n hb hx=>?_,λb o e n hb hx=>?_,I.base.free,λb o e hx=>?_,I.base.tups,I.base.frzs,I.base.tbls⟩,⟨m,hn.sameBut hs (Ne.symm (cne x c hc)),λj y v' e1 e2 e3=>?_⟩,λy c' e=>?_,I.free,I.freeC,λp hp=>?_,tracked ⟨oc,hoc,I.freeC x c hc⟩ hs,by simpa using I.len⟩ ⟨c,hs,.inr hc⟩
  ·exact (hs.2 b (Nat.ne_of_lt (Nat.lt_of_lt_of_le (Heap.lt_size e) (I.ok.cab x c hfn hc)))).trans (I.base.keep b o e n hb hx)
  ·obtain ⟨sl,e1⟩:=I.base.slot b o e n hb hx;exact ⟨sl,(hs.2 b (Nat.ne_of_lt (Nat.lt_of_lt_of_le (Heap.lt_size e) (I.ok.cab x c hfn hc)))).trans e1⟩
  ·obtain ⟨o',e1⟩:=I.base.there b o e hx;exact ⟨o',(hs.2 b (Nat.ne_of_lt (Nat.lt_of_lt_of_le (Heap.lt_size e) (I.ok.cab x c hfn hc)))).trans e1⟩
  ·by_cases hj:j=i
   ·subst hj;rw [hi] at e1;cases e1
    rw [List.getElem?_set_self hiσ] at e2
    cases e2
    exact ⟨u,r,.inr ⟨.inl hk,c,hc,hc'⟩⟩
   ·rw [List.getElem?_set_ne (Ne.symm hj)] at e2;obtain ⟨u',r',q⟩:=hl j y v' e1 e2 e3;refine ⟨u',r',?_⟩;rcases q with q | ⟨k,c',e,z'⟩
    ·exact .inl q
    ·refine .inr ⟨k,c',e,z'.sameBut hs ?_⟩;rintro rfl;exact hj (HD hN e1 (I.ok.inj _ _ _ e hc ▸ hi))
  ·by_cases hcc:c'=c
   ·subst hcc;exact ⟨_,hc'⟩
   ·obtain ⟨w2,z2⟩:=I.cell y c' e;exact ⟨w2,z2.sameBut hs hcc⟩
  ·obtain ⟨e,n,ne,nf,d⟩:=I.pin p hp;refine ⟨(hs.2 p.1 ?_).trans e,n,ne,nf,d⟩;intro q;rw [q,hoc] at e;have q':oc=p.2:=Option.some.inj e;exact d w' (by rw [<-q'];exact hocd)
theorem F1 {M:Model}{A:Around}(I:Inv X pins σ H s)(hN:X.N.Nodup)(hi:X.N[i]?=some x)(hx:Loc X.env.scope x)(r:RelV v u)
 (h:∀s',Inv X pins (σ.set i (some v)) H s'->Q () s') (hf:X.fn x=true\/X.env.scope.names.lookup x=some .local:=by walk_at "h"):wpAny M A (storeName X.env x u) Q E s:=
 JQ I hN hi hx r (λs' I' _=>h s' I') hf
theorem Inv.call' {s':Shared}(I:Inv X pins σ H s)(ho:s'.os=s.os)(u:Un (frs X.stack) ch H H' s.heap s'.heap)(hok:HOk X.prog X.w H' s'.heap)(hg:AllBare s'.gens)
 (hch:∀b∈ch,(b∈X.ex\/X.s₀.heap.objs.size<=b)/\b≠X.env.locals/\(∀x c,X.env.cells.lookup x=some c->c≠b)/\∀p∈X.pn++pins,p.1≠b):Inv X pins σ H' s':=by
 obtain ⟨h',g',d',t',o'⟩:=s';have e:o'=s.os:=ho;subst e;exact I.call (g':=g') (t':=t') (d':=d') u hok hg hch
end
abbrev XK:=Value->Option Addr->Hp->Prop
abbrev St:=List (Option V)
abbrev VK:=V->Hp->Prop
abbrev TE:=St->Hp->VK->Prop
abbrev TT:=St->Hp->(Bool->Hp->Prop)->Prop
abbrev TA:=St->Hp->(List V->Hp->Prop)->Prop
structure Ends where
 nx:St->Hp->Prop
 rt:VK
 bk:St->Hp->Prop:=λ_ _=>False
 ct:St->Hp->Prop:=λ_ _=>False
abbrev TS:=Ends->St->Hp->Prop
inductive EP (X:Cx)(pins:List (Addr×Obj))(σ:St)(Q:VK)(u:Value)(s':Shared):Prop where
 | mk (v:V) (H':Hp) (i:Inv X pins σ H' s') (r:RelV v u) (q:Q v H'):EP X pins σ Q u s'
inductive TP (X:Cx)(pins:List (Addr×Obj))(σ:St)(Q:Bool->Hp->Prop)(b:Bool)(s':Shared):Prop where
 | mk (H':Hp) (i:Inv X pins σ H' s') (q:Q b H'):TP X pins σ Q b s'
inductive AP (X:Cx)(pins:List (Addr×Obj))(σ:St)(Q:List V->Hp->Prop)(us:List Value)(s':Shared):Prop where
 | mk (vs:List V) (H':Hp) (i:Inv X pins σ H' s') (r:Vals vs us) (q:Q vs H'):AP X pins σ Q us s'
def SP (X:Cx)(pins:List (Addr×Obj))(D:Ends)(f:Flow)(s':Shared):Prop:=
 match f with
 | .next=>∃σ' H',Inv X pins σ' H' s'/\D.nx σ' H'
 | .brk=>∃σ' H',Inv X pins σ' H' s'/\D.bk σ' H'
 | .cont=>∃σ' H',Inv X pins σ' H' s'/\D.ct σ' H'
 | .ret u=>∃v σ' H',Inv X pins σ' H' s'/\RelV v u/\D.rt v H'
def PE (X:Cx)(e:Expr)(t:TE):Prop:=
 ∀(pins:List (Addr×Obj)) (s:Shared) (σ:St) (H:Hp) (Q:VK),Inv X pins σ H s->t σ H Q->wpAny (model X.prog X.w) X.A (eval e X.env) (EP X pins σ Q) X.xe s
def PT (X:Cx)(e:Expr)(t:TT):Prop:=
 ∀(pins:List (Addr×Obj)) (s:Shared) (σ:St) (H:Hp) (Q:Bool->Hp->Prop),Inv X pins σ H s->t σ H Q->wpAny (model X.prog X.w) X.A (isTrue e X.env (eval e X.env)) (TP X pins σ Q) X.xe s
def PW (X:Cx)(e:Expr)(t:TT):Prop:=
 ∀(whole:Sem Value) (pins:List (Addr×Obj)) (s:Shared) (σ:St) (H:Hp) (Q:Bool->Hp->Prop),Inv X pins σ H s->t σ H Q->wpAny (model X.prog X.w) X.A (isTrue e X.env whole) (TP X pins σ Q) X.xe s
variable {X:Cx}{e:Expr}
theorem PW.pt {t:TT}(h:PW X e t):PT X e t:=h _
def PA (X:Cx)(es:List Expr)(t:TA):Prop:=
 ∀(pos:Pos) (pins:List (Addr×Obj)) (s:Shared) (σ:St) (H:Hp) (Q:List V->Hp->Prop),Inv X pins σ H s->t σ H Q->wpAny (model X.prog X.w) X.A (spliced (backTo pos (starEach es X.env))) (AP X pins σ Q) X.xe s
def PS (X:Cx)(st:Stmt)(t:TS):Prop:=
 ∀(pins:List (Addr×Obj)) (s:Shared) (σ:St) (H:Hp) (D:Ends),Inv X pins σ H s->t D σ H->wpAny (model X.prog X.w) X.A (exec st X.env) (SP X pins D) X.xe s
def PSs (X:Cx)(st:List Stmt)(t:TS):Prop:=
 ∀(pins:List (Addr×Obj)) (s:Shared) (σ:St) (H:Hp) (D:Ends),Inv X pins σ H s->t D σ H->wpAny (model X.prog X.w) X.A (execs st X.env) (SP X pins D) X.xe s
variable {s:Shared}
theorem thn {α:Type}{t:Sem α}{Q Q':α->Shared->Prop}{M:Model}{A:Around}(h:wpAny M A t Q E s)(hQ:∀a s,Q a s->Q' a s):wpAny M A t Q' E s:=wpAny_mono h hQ λ_ _ x=>x
variable {pins:List (Addr×Obj)}{σ:St}{c:Expr}
section
variable {X:Cx}
def Xf (i:Nat):TE:=λσ H Q=>∃v,σ[i]?=some (some v)/\Q v H
def tC (v:V):TE:=λ_ H Q=>Q v H
theorem Ec {pos:Pos}(hN:X.N[i]?=some x)(hv:Vis X.env.scope x)(hd:(x == ("__debug__" : Str))=false:=by decide)(hcd:(x == ("__classdict__" : Str))=false:=by decide):PE X (.Name x pos) (Xf i):=by
 intro pins s σ H Q I h;obtain ⟨v,e,h⟩:=h;obtain ⟨m,hn,hl⟩:=I.loc;obtain ⟨u,r,l⟩:=hl i x v hN e hv;have fin:EP X pins σ Q u s:=⟨v,H,I,r,h⟩;rcases l with ⟨hk,hm⟩ | ⟨hk,c,hc,hcell⟩
 ·exact wpAny_Name (wpAny_loadName_local I.ok.kind hk hn hm fin) hd
 ·rcases hk with hk | hk
  ·exact wpAny_Name (wpAny_loadName_cell I.ok.kind hk hc hcell fin) hd
  ·exact wpAny_Name (wpAny_loadName_free I.ok.kind hk hc hcell fin hcd) hd
theorem WB {i j pos}:PE X (.Constant (.int i) j pos) (tC (.int i)):=λ_ _ _ H _ I h=>wpAny_Constant_int ⟨.int i,H,I.tok _,⟨_,rfl⟩,h⟩
theorem XN {b j pos}:PE X (.Constant (.bool b) j pos) (tC (.bl b)):=λ_ _ _ H _ I h=>Constant_bool ⟨.bl b,H,I,rfl,h⟩
theorem WD {j pos}:PE X (.Constant .none j pos) (tC .non):=λ_ _ _ H _ I h=>Constant_none ⟨.non,H,I,rfl,h⟩
theorem O4 {x j pos}:PE X (.Constant (.str x) j pos) (tC (.str x)):=λ_ _ _ H _ I h=>Calls.Constant_str ⟨.str x,H,I.tok _,⟨_,rfl⟩,h⟩
def Gl (X:Cx)(x:Str):Prop:=X.env.kindOf x=some .globalImplicit
theorem Fr {pos:Pos}{Q:Value->Shared->Prop}(I:Inv X pins σ H s)(hg:Gl X x)(hm:X.mg x=some u)(h:Q u s)
 (hd:(x == ("__debug__" : Str))=false:=by decide):wpAny (model X.prog X.w) X.A (eval (.Name x pos) X.env) Q E s:=
 Calls.Name_function_global I.ok.kind hg (Calls.loadGlobal_global (by rw [I.ok.glob];exact I.mod.glob.keeps I.bk) hm h) hd
theorem EL {pos:Pos}{Q:Value->Shared->Prop}(I:Inv X pins σ H s)(hg:Gl X x)(hm:X.mg x=none)(hv:bootBuiltins x=some u)(h:Q u s)
 (hn:x≠"__name__":=by decide) (hd:(x == ("__debug__" : Str))=false:=by decide):wpAny (model X.prog X.w) X.A (eval (.Name x pos) X.env) Q E s:=by
 obtain ⟨mb,h1,h2⟩:=I.mod.blt;exact Calls.Name_function_global I.ok.kind hg (Calls.loadGlobal_builtin (by rw [I.ok.glob];exact I.mod.glob.keeps I.bk) hm (by rw [I.ok.blt];exact h1.keeps I.bk) ((h2 x hn).trans hv) h) hd
theorem Ji {pos:Pos}(hg:Gl X x)(hm:X.mg x=some u)(r:RelV v u)(hd:(x == ("__debug__" : Str))=false:=by decide):PE X (.Name x pos) (tC v):=
 λ_ _ _ H _ I h=>Fr I hg hm ⟨v,H,I,r,h⟩ hd
theorem Mq {pos:Pos}(hg:Gl X x)(hm:X.mg x=none)(hv:bootBuiltins x=some u)(r:RelV v u)(hn:x≠"__name__":=by decide)(hd:(x == ("__debug__" : Str))=false:=by decide):PE X (.Name x pos) (tC v):=
 λ_ _ _ H _ I h=>EL I hg hm hv ⟨v,H,I,r,h⟩ hn hd
variable {a b:Expr}{ta tb:TE}{pos:Pos}
def tB (t:TE):TT:=λσ H Q=>t σ H λx H1=>∃c,x = .bl c/\Q c H1
theorem WM {t:TE}(h:PE X e t)(he:∀whole,isTrue e X.env whole=(do let v <-whole;standAt e.pos;holding [v] (truthy v)):=by intro _;rfl):PT X e (tB t):=by
 intro pins s σ H Q I hw;refine isTrue_plain (thn (h pins s σ H _ I hw) λv s1 z9=>?_) (he _);obtain ⟨x,H1,I1,r1,q1⟩:=z9;obtain ⟨d,rfl,q⟩:=q1
 cases r1
 exact wpAny_truthy_bool ⟨H1,I1,q⟩
variable {tA tB':TT}{rest:List Expr}
def Zd (t u:TT):TT:=λσ H Q=>t σ H λc H1=>if c=true then u σ H1 Q else Q false H1
def tOr (t u:TT):TT:=λσ H Q=>t σ H λc H1=>if c=true then Q true H1 else u σ H1 Q
def Zh (t:TT):TT:=λσ H Q=>t σ H λc H1=>Q (!c) H1
theorem Uq (ha:PT X a tA):PW X (.BoolOp .And [a] pos) tA:=by
 intro wh pins s σ H Q I h;refine isTrue_and (thn (ha pins s σ H Q I h) λc s1 e=>?_)
 cases c with
 | true=>exact isTrue_and_nil e
 | false=>exact e
theorem WO (ha:PT X a tA):PW X (.BoolOp .Or [a] pos) tA:=by
 intro wh pins s σ H Q I h;refine isTrue_or (thn (ha pins s σ H Q I h) λc s1 e=>?_)
 cases c with
 | false=>exact isTrue_or_nil e
 | true=>exact e
theorem WN (ha:PT X a tA)(hb:PW X (.BoolOp .And (b :: rest) pos) tB'):PW X (.BoolOp .And (a :: b :: rest) pos) (Zd tA tB'):=by
 intro wh pins s σ H Q I h;refine isTrue_and (thn (ha pins s σ H _ I h) λc s1 z9=>?_);obtain ⟨H1,I1,q1⟩:=z9
 cases c with
 | true=>exact hb wh pins s1 σ H1 Q I1 q1
 | false=>exact ⟨H1,I1,q1⟩
theorem XW (ha:PT X a tA)(hb:PW X (.BoolOp .Or (b :: rest) pos) tB'):PW X (.BoolOp .Or (a :: b :: rest) pos) (tOr tA tB'):=by
 intro wh pins s σ H Q I h;refine isTrue_or (thn (ha pins s σ H _ I h) λc s1 z9=>?_);obtain ⟨H1,I1,q1⟩:=z9
 cases c with
 | true=>exact ⟨H1,I1,q1⟩
 | false=>exact hb wh pins s1 σ H1 Q I1 q1
theorem WL (ha:PT X a tA):PT X (.UnaryOp .Not a pos) (Zh tA):=by
 intro pins s σ H Q I h;refine isTrue_not (thn (ha pins s σ H (λc H1=>Q (!c) H1) I h) λc s1 z=>?_);obtain ⟨H1,I1,q1⟩:=z;exact ⟨H1,I1,q1⟩
def X3 (ta tb:TE):TE:=λσ H Q=>ta σ H λx H1=>∃c,x = .bl c/\if c=true then tb σ H1 Q else Q (.bl false) H1
def Zi (ta tb:TE):TE:=λσ H Q=>ta σ H λx H1=>∃c,x = .bl c/\if c=true then Q (.bl true) H1 else tb σ H1 Q
def X8 (ta:TE):TE:=λσ H Q=>ta σ H λx H1=>∃c,x = .bl c/\Q (.bl (!c)) H1
theorem WF {op}{t:TE}(h:PE X a t):PE X (.BoolOp op [a] pos) t:=λpins s σ H Q I hw=>BoolOp_one (h pins s σ H Q I hw)
theorem WA (ha:PE X a ta)(hb:PE X (.BoolOp .And (b :: rest) pos) tb):PE X (.BoolOp .And (a :: b :: rest) pos) (X3 ta tb):=by
 intro pins s σ H Q I h;refine BoolOp_and (thn (ha pins s σ H _ I h) λv s1 z9=>?_);obtain ⟨x,H1,I1,r1,q1⟩:=z9;obtain ⟨c,rfl,q1⟩:=q1
 cases r1
 refine wpAny_truthy_bool ?_
 cases c with
 | true=>exact hb pins s1 σ H1 Q I1 q1
 | false=>exact ⟨.bl false,H1,I1,rfl,q1⟩
theorem XO (ha:PE X a ta)(hb:PE X (.BoolOp .Or (b :: rest) pos) tb):PE X (.BoolOp .Or (a :: b :: rest) pos) (Zi ta tb):=by
 intro pins s σ H Q I h;refine BoolOp_or (thn (ha pins s σ H _ I h) λv s1 z9=>?_);obtain ⟨x,H1,I1,r1,q1⟩:=z9;obtain ⟨c,rfl,q1⟩:=q1
 cases r1
 refine wpAny_truthy_bool ?_
 cases c with
 | false=>exact hb pins s1 σ H1 Q I1 q1
 | true=>exact ⟨.bl true,H1,I1,rfl,q1⟩
theorem WE (ha:PE X a ta):PE X (.UnaryOp .Not a pos) (X8 ta):=by
 intro pins s σ H Q I h;refine UnaryOp_ (thn (ha pins s σ H _ I h) λv s1 z9=>?_);obtain ⟨x,H1,I1,r1,q1⟩:=z9;obtain ⟨c,rfl,q1⟩:=q1
 cases r1
 exact not_of (wpAny_truthy_bool ⟨.bl (!c),H1,I1,rfl,q1⟩)
def tIf (t:TT)(ta tb:TE):TE:=λσ H Q=>t σ H λc H1=>if c=true then ta σ H1 Q else tb σ H1 Q
theorem QU (hc:PT X c tA)(ha:PE X a ta)(hb:PE X b tb):PE X (.IfExp c a b pos) (tIf tA ta tb):=by
 intro pins s σ H Q I h;refine wpAny_IfExp (thn (hc pins s σ H _ I h) λd s1 z9=>?_);obtain ⟨H1,I1,q1⟩:=z9
 cases d with
 | true=>exact ha pins s1 σ H1 Q I1 q1
 | false=>exact hb pins s1 σ H1 Q I1 q1
end
noncomputable def SqL (K:PySem.W.Frag)(H:Hp)(a:Addr)(xs:List V):Prop:=
 Rd H a (.lst xs)\/
  ∃(o:Obj) (its:Array Value) (n:Nat),K.lookup a=some o/\o.cls = .type "list"/\o.dict=none/\o.data = .seq its n/\its.size<=sizeLine/\Vals xs its.toList
noncomputable def SqT (K:PySem.W.Frag)(H:Hp)(a:Addr)(xs:List V):Prop:=
 Rd H a (.tup xs)\/
  ∃(o:Obj) (its:Array Value) (n:Nat),K.lookup a=some o/\o.cls = .type "tuple"/\o.data = .seq its n/\its.size<=sizeLine/\Vals xs its.toList
noncomputable def YZ:Value->Option V
 | .none=>some .non
 | .bool b=>some (.bl b)
 | .int i _=>some (.int i)
 | .str x _=>some (.str x)
 | .bytes b _=>some (.byt b)
 | .float b _=>some (.flt b)
 | .ref a=>some (.ref a)
 | .type n=>some (.ty n)
 | _=>none
theorem RelV.abs {x:V}(r:RelV x u):YZ u=some x:=by
 cases x with
 | non=>cases r;rfl
 | bl _=>cases r;rfl
 | int _=>obtain ⟨t,rfl⟩:=r;rfl
 | str _=>obtain ⟨t,rfl⟩:=r;rfl
 | byt _=>obtain ⟨t,rfl⟩:=r;rfl
 | flt _=>obtain ⟨t,rfl⟩:=r;rfl
 | ref _=>cases r;rfl
 | ty _=>cases r;rfl
theorem RelV.inj {x y:V}{u:Value}(r:RelV x u)(q:RelV y u):x=y:=Option.some.inj (r.abs.symm.trans q.abs)
theorem Vals.inj {xs ys:List V}{us:List Value}(a:Vals xs us)(b:Vals ys us):xs=ys:=by
 cases a with
 | nil=>
   cases b
   rfl
 | cons r t=>
   cases b with
   | cons r' t'=>rw [r.inj r',Vals.inj t t']
variable {K:PySem.W.Frag}
section
variable {X:Cx}{pins:List (Addr×Obj)}{σ:St}{H:Hp}{s:Shared}{a:Addr}{xs ys:List V}
theorem SqL.of (h:H a=some (.lst xs)):SqL K H a xs:=.inl (.inl h)
theorem SqT.of (h:H a=some (.tup xs)):SqT K H a xs:=.inl (.inl h)
theorem Inv.list (I:Inv X pins σ H s)(h:SqL X.K H a xs):∃its:List Value,Vals xs its/\PlainL s.heap a its.toArray/\xs.length<=sizeLine:=by
 rcases h with h | ⟨o,its,n,hk,hc,hd,hs,hz,r⟩
 ·obtain ⟨z,its,n,r,e⟩:=h.ok I.hok;exact ⟨its,r,⟨_,n,e,rfl,rfl,rfl⟩,z⟩
 ·refine ⟨its.toList,r,⟨o,n,I.kIn a o hk,hc,hd,by simpa using hs⟩,?_⟩;have e:=r.length;simp only [Array.length_toList] at e;lia
theorem Inv.tuple (I:Inv X pins σ H s)(h:SqT X.K H a xs):∃its:List Value,Vals xs its/\IsTup s.heap a its.toArray/\xs.length<=sizeLine:=by
 rcases h with h | ⟨o,its,n,hk,hc,hs,hz,r⟩
 ·obtain ⟨z,its,r,p⟩:=h.ok I.hok;exact ⟨its,r,p,z⟩
 ·refine ⟨its.toList,r,⟨o,I.kIn a o hk,hc,n,by simpa using hs⟩,?_⟩;have e:=r.length;simp only [Array.length_toList] at e;lia
theorem Inv.list_inj (I:Inv X pins σ H s)(h:SqL X.K H a xs)(h':SqL X.K H a ys):xs=ys:=by
 obtain ⟨its,r,⟨o,n,e,_,_,d⟩,_⟩:=I.list h;obtain ⟨its',r',⟨o',n',e',_,_,d'⟩,_⟩:=I.list h';rw [e] at e';cases e'
 rw [d] at d';injection d' with d1 _
 have:its=its':=by simpa using congrArg Array.toList d1
 subst this;exact r.inj r'
theorem Inv.tuple_inj (I:Inv X pins σ H s)(h:SqT X.K H a xs)(h':SqT X.K H a ys):xs=ys:=by
 obtain ⟨its,r,⟨o,e,_,n,d⟩,_⟩:=I.tuple h;obtain ⟨its',r',⟨o',e',_,n',d'⟩,_⟩:=I.tuple h';rw [e] at e';cases e'
 rw [d] at d';injection d' with d1 _
 have:its=its':=by simpa using congrArg Array.toList d1
 subst this;exact r.inj r'
end
abbrev Cx.wish (X:Cx)(E:Value->Shared->Prop):Cx:={ X with xe:=E }
abbrev Cx.nox (X:Cx):Cx:=X.wish λ_ _=>False
theorem Cx.Ok.wish {X:Cx}(ok:X.Ok)(E:Value->Shared->Prop):(X.wish E).Ok:=
 ⟨ok.mod,ok.kind,ok.glob,ok.blt,ok.above,ok.inj,ok.has,ok.cab,ok.hd,ok.frames,ok.stk,ok.exf,ok.bs,ok.bsz,ok.noex,ok.exfs,ok.funs,ok.frf⟩
theorem Cx.Ok.unwish (ok:(X.wish E).Ok):X.Ok:=
 ⟨ok.mod,ok.kind,ok.glob,ok.blt,ok.above,ok.inj,ok.has,ok.cab,ok.hd,ok.frames,ok.stk,ok.exf,ok.bs,ok.bsz,ok.noex,ok.exfs,ok.funs,ok.frf⟩
section
variable {X:Cx}{pins:List (Addr×Obj)}{σ:St}{H:Hp}{s:Shared}{E:Value->Shared->Prop}
theorem Inv.wish (I:Inv X pins σ H s)(E:Value->Shared->Prop):Inv (X.wish E) pins σ H s:=⟨I.ok.wish E,I.os,I.bare,I.base,I.loc,I.cell,I.free,I.freeC,I.pin,I.hok,I.len⟩
theorem Inv.unwish (I:Inv (X.wish E) pins σ H s):Inv X pins σ H s:=⟨I.ok.unwish,I.os,I.bare,I.base,I.loc,I.cell,I.free,I.freeC,I.pin,I.hok,I.len⟩
theorem SP.unwish {D:Ends}{f:Flow}{s':Shared}(h:SP (X.wish E) pins D f s'):SP X pins D f s':=by
 cases f with
 | next=>obtain ⟨σ',H',I,q⟩:=h;exact ⟨σ',H',I.unwish,q⟩
 | brk=>obtain ⟨σ',H',I,q⟩:=h;exact ⟨σ',H',I.unwish,q⟩
 | cont=>obtain ⟨σ',H',I,q⟩:=h;exact ⟨σ',H',I.unwish,q⟩
 | ret u=>obtain ⟨v,σ',H',I,r,q⟩:=h;exact ⟨v,σ',H',I.unwish,r,q⟩
theorem PSs.nox {st:List Stmt}{t:TS}(h:PSs X.nox st t):PSs X st t:=λpins s σ H D I hw=>
 wpAny_mono (h pins s σ H D (I.wish _) hw) (λ_ _ q=>q.unwish) λ_ _ z=>False.elim z
end
section
variable {X:Cx}{st:Stmt}{rest:List Stmt}{t u:TS}{e:Expr}{te:TE}{pos:Pos}
def X7:TS:=λD σ H=>D.nx σ H
def Zk (t u:TS):TS:=λD σ H=>t { D with nx:=u D } σ H
theorem Uo:PSs X [] X7:=λ_ _ σ H _ I h=>wpAny_execs_nil ⟨σ,H,I,h⟩
theorem Q2 (h1:PS X st t)(h2:PSs X rest u):PSs X (st :: rest) (Zk t u):=by
 intro pins s σ H D I h;refine wpAny_execs_cons (thn (h1 pins s σ H { D with nx:=u D } I h) λf s1 q=>?_)
 cases f with
 | next=>
   obtain ⟨σ',H',I',q⟩:=q;exact h2 pins s1 σ' H' D I' q
 | ret v=>exact q
 | brk=>exact q
 | cont=>exact q
theorem Jm (h1:PS X st t):PSs X [st] t:=by
 intro pins s σ H D I h;refine wpAny_execs_cons (thn (h1 pins s σ H D I h) λf s1 q=>?_)
 cases f with
 | next=>exact wpAny_execs_nil q
 | ret v=>exact q
 | brk=>exact q
 | cont=>exact q
theorem Inv.quiet (I:Inv X pins σ H s):interactive X.env=false:=by simp [interactive,I.ok.kind]
def Su (te:TE):TS:=λD σ H=>te σ H λ_ H1=>D.nx σ H1
theorem Jl (he:PE X e te)(hs:swapsWith e none pos.line X.env=pure false:=by rfl):PS X (.Expr e pos) (Su te):=by
 intro pins s σ H D I h;exact wpAny_Expr_any (thn (he pins s σ H _ I h) λv s1 z9=>by obtain ⟨x,H1,I1,r1,q1⟩:=z9;exact ⟨σ,H1,I1,q1⟩) I.quiet hs
def Zj (te:TE):TS:=λD σ H=>te σ H D.rt
theorem IE (he:PE X e te):PS X (.Return (some e) pos) (Zj te):=by
 intro pins s σ H D I h;exact wpAny_Return_some (thn (he pins s σ H _ I h) λv s1 z9=>by obtain ⟨x,H1,I1,r1,q1⟩:=z9;exact ⟨x,σ,H1,I1,r1,q1⟩)
def Zf (c:TT)(t u:TS):TS:=λD σ H=>c σ H λb H1=>if b=true then t D σ H1 else u D σ H1
theorem XU {a b:List Stmt}{tc:TT}(hc:PT X c tc)(ha:PSs X a t)(hb:PSs X b u):PS X (.If c a b pos) (Zf tc t u):=by
 intro pins s σ H D I h;refine wpAny_If (thn (hc pins s σ H _ I h) λd s1 z9=>?_);obtain ⟨H1,I1,q1⟩:=z9
 cases d with
 | true=>exact ha pins s1 σ H1 D I1 q1
 | false=>exact hb pins s1 σ H1 D I1 q1
end
abbrev TG:=V->St->Hp->(St->Hp->Prop)->Prop
abbrev TGs:=List V->St->Hp->(St->Hp->Prop)->Prop
def PG (X:Cx)(target:Expr)(t:TG):Prop:=
 ∀(pins:List (Addr×Obj)) (s:Shared) (σ:St) (H:Hp) (v:V) (u:Value) (Q:St->Hp->Prop),Inv X pins σ H s->RelV v u->t v σ H Q->
  wpAny (model X.prog X.w) X.A (assign target X.env u) (λ_ s'=>∃σ' H',Inv X pins σ' H' s'/\Q σ' H') X.xe s
def PGs (X:Cx)(ts:List Expr)(t:TGs):Prop:=
 ∀(pins:List (Addr×Obj)) (s:Shared) (σ:St) (H:Hp) (vs:List V) (us:List Value) (Q:St->Hp->Prop),Inv X pins σ H s->Vals vs us->t vs σ H Q->
  wpAny (model X.prog X.w) X.A (assignInOrder ((assignEach ts X.env).map (·.2)) us) (λ_ s'=>∃σ' H',Inv X pins σ' H' s'/\Q σ' H') X.xe s
abbrev P2:=V->V->V->Hp->(Hp->Prop)->Prop
def P0 (X:Cx)(t:P2):Prop:=
 ∀(pins:List (Addr×Obj)) (s:Shared) (σ:St) (H:Hp) (o i v:V) (ov iv u:Value) (Q:Hp->Prop),Inv X pins σ H s->RelV o ov->RelV i iv->RelV v u->t o i v H Q->
  wpAny (model X.prog X.w) X.A (setItem ov iv u) (λ_ s'=>∃H',Inv X pins σ H' s'/\Q H') X.xe s
variable {tg:Expr}
section
variable {X:Cx}{pos:Pos}
def Iu (i:Nat):TG:=λv σ H Q=>Q (σ.set i (some v)) H
theorem Uf (hN:X.N.Nodup)(hi:X.N[i]?=some x)(hx:Loc X.env.scope x)(hf:X.fn x=true\/X.env.scope.names.lookup x=some .local:=by walk_at "h"):PG X (.Name x pos) (Iu i):=by
 intro pins s σ H v u Q I r h;exact wpAny_assign_Name (F1 I hN hi hx r (λs' I'=>⟨_,H,I',h⟩) hf)
def Y4:TGs:=λvs σ H Q=>vs=[]/\Q σ H
def R4 (t:TG)(u:TGs):TGs:=λvs σ H Q=>∃v r,vs=v :: r/\t v σ H λσ' H'=>u r σ' H' Q
theorem Ug:PGs X [] Y4:=by
 intro pins s σ H vs us Q I r h;obtain ⟨e,h⟩:=h;subst e
 cases r
 exact assignInOrder_nil ⟨σ,H,I,h⟩
theorem QW {es:List Expr}{t:TG}{u:TGs}(h1:PG X e t)(h2:PGs X es u)
 (hs:(assignEach (e :: es) X.env).map (·.2)=assign e X.env :: (assignEach es X.env).map (·.2):=by rfl):PGs X (e :: es) (R4 t u):=by
 intro pins s σ H vs us Q I r h;obtain ⟨v,vr,e1,h⟩:=h;subst e1
 cases r with
 | cons r rr=>
   rw [hs];refine assignInOrder_cons (thn (h1 pins s σ H _ _ _ I r h) λ_ s1 z9=>?_);obtain ⟨σ1,H1,I1,q1⟩:=z9;exact h2 pins s1 σ1 H1 _ _ Q I1 rr q1
def Y6 (K:PySem.W.Frag)(n:Nat)(t:TGs):TG:=λv σ H Q=>∃a xs,v = .ref a/\SqT K H a xs/\xs.length=n/\t xs σ H Q
theorem WG {es:List Expr}{k:Nat}{t:TGs}{n:Nat}(hc:X.calm=true)(h:PGs X es t)
 (hn:(assignEach es X.env).length=n:=by rfl) (hst:(assignEach es X.env).findIdx? (·.1)=none:=by rfl):PG X (.Tuple es k pos) (Y6 X.K n t):=by
 intro pins s σ H v u Q I r hw;obtain ⟨a,xs,e1,hq,hl,hw⟩:=hw;subst e1
 cases r
 obtain ⟨its,rv,ht,hz⟩:=I.tuple hq;refine assign_Tuple_tuple (I.ok.hd hc) ht (by simp [hn,<-hl,rv.length]) hst λh' hx=>?_;have I1:Inv X pins σ H { s with heap:=h' }:=I.kept (t':=s.toks) λb o e=>hx b o (Nat.ne_of_lt (Heap.lt_size e)) e;exact h pins _ σ H xs _ Q I1 (by simpa using rv) hw
def Y5 (to ti:TE)(t:P2):TG:=λv σ H Q=>to σ H λo H1=>ti σ H1 λi H2=>t o i v H2 λH3=>Q σ H3
theorem Lg {o i:Expr}{to ti:TE}{t:P2}(ho:PE X o to)(hi:PE X i ti)(hs:P0 X t)
 (ha:∀v,assign (.Subscript o i pos) X.env v=(do
   let ov <-holding [v] (eval o X.env)
   let iv <-holding [v,ov] (eval i X.env)
   standAt pos
   holding [v,ov,iv] (setItem ov iv v)
   release [v,ov,iv] []):=by intro _;rfl):PG X (.Subscript o i pos) (Y5 to ti t):=by
 intro pins s σ H v u Q I r h;rw [ha];refine wpAny_bind (wpAny_holding (thn (ho pins s σ H _ I h) λov s1 z9=>?_));obtain ⟨x,H1,I1,r1,q1⟩:=z9;refine wpAny_bind (wpAny_holding (thn (hi pins s1 σ H1 _ I1 q1) λiv s2 z9=>?_));obtain ⟨y,H2,I2,r2,q2⟩:=z9;refine wpAny_bind (wpAny_standAt (wpAny_bind (wpAny_holding (thn (hs pins s2 σ H2 x y v ov iv u _ I2 r1 r2 r q2) λ_ s3 z9=>?_))));obtain ⟨H3,I3,q3⟩:=z9;exact wpAny_release ⟨σ,H3,I3,q3⟩
def Lz (te:TE)(g:TG):TS:=λD σ H=>te σ H λx H1=>g x σ H1 D.nx
theorem Pb {te:TE}{g:TG}(he:PE X e te)(hg:PG X tg g)(hs:swapsWithSole [tg] e pos.line X.env=pure false:=by rfl)(hw:swappedStores [tg] e X.env=pure none:=by rfl)
 (h1:(assignEach [tg] X.env).map (·.2)=[assign tg X.env]:=by rfl):PS X (.Assign [tg] e pos) (Lz te g):=by
 intro pins s σ H D I h;refine wpAny_Assign_stores (thn (he pins s σ H _ I h) λv s1 z9=>?_) hs hw;obtain ⟨x,H1,I1,r1,q1⟩:=z9;rw [h1];exact thn (hg pins s1 σ H1 x v _ I1 r1 q1) λ_ s2 q=>q
theorem Lh {te:TE}{pos':Pos}(hN:X.N.Nodup)(hi:X.N[i]?=some x)(hx:Loc X.env.scope x)(he:PE X e te)(hs:swapsWith e (some (.Name x pos')) pos.line X.env=pure false:=by rfl)(hf:X.fn x=true\/X.env.scope.names.lookup x=some .local:=by walk_at "h") :
 PS X (.Assign [.Name x pos'] e pos) (Lz te (Iu i)):=by
 intro pins s σ H D I h;refine wpAny_Assign_Name (thn (he pins s σ H _ I h) λv s1 z9=>?_) hs;obtain ⟨y,H1,I1,r1,q1⟩:=z9;exact F1 I1 hN hi hx r1 (λs2 I2=>⟨_,H1,I2,q1⟩) hf
end
section
variable {X:Cx}{pos:Pos}
def Py (c:TT)(tb:TS):TS:=λD σ H=>∃W:Nat->St->Hp->Prop,(∃m,W m σ H)/\∀m σ H,W m σ H->
 c σ H λb H1=>if b=true then ∃N:St->Hp->Prop,(∀σ' H',N σ' H'->∃m',m' < m/\W m' σ' H')/\tb { D with nx:=N,ct:=N,bk:=D.nx } σ H1 else D.nx σ H1
theorem Q1 {body:List Stmt}{tc:TT}{tb:TS}(hp:PassesOwn (model X.prog X.w) X.A X.env X.xe)(hc:PT X c tc)(hb:PSs X body tb):PS X (.While c body [] pos) (Py tc tb):=by
 intro pins s σ H D I h;obtain ⟨W,⟨m0,w0⟩,turn⟩:=h;refine wpAny_While (codeAny_whileLoop (λn s'=>∃σ' H',Inv X pins σ' H' s'/\W n σ' H') ?_ m0 ⟨σ,H,I,w0⟩);rintro n s1 ⟨σ1,H1,I1,w1⟩;refine wpAny_passesOwn hp (thn (hc pins s1 σ1 H1 _ I1 (turn n σ1 H1 w1)) λb s2 z9=>?_);obtain ⟨H2,I2,q2⟩:=z9
 cases b with
 | true=>
   obtain ⟨N,hN,q2⟩:=q2;rw [if_pos rfl];refine wpAny_passesOwn hp (thn (hb pins s2 σ1 H2 _ I2 q2) λf s3 q3=>?_)
   cases f with
   | next=>
     obtain ⟨σ3,H3,I3,n3⟩:=q3;obtain ⟨m',hm,w3⟩:=hN σ3 H3 n3;exact ⟨m',hm,σ3,H3,I3,w3⟩
   | cont=>
     obtain ⟨σ3,H3,I3,n3⟩:=q3;obtain ⟨m',hm,w3⟩:=hN σ3 H3 n3;exact ⟨m',hm,σ3,H3,I3,w3⟩
   | brk=>exact q3
   | ret v=>exact q3
 | false=>
   rw [if_neg Bool.false_ne_true];exact wpAny_execs_nil ⟨σ1,H2,I2,q2⟩
end
structure It where
 go:Nat->Hp->Prop
 yld:Nat->Hp->V->Hp->Prop
 stop:Nat->Hp->Prop
def FpOk (X:Cx)(pins:List (Addr×Obj))(H:Hp)(b:Addr):Prop:=
 H b=none/\b≠X.env.locals/\b∉X.fs/\(b∈X.ex\/X.s₀.heap.objs.size<=b)/\(∀x c,X.env.cells.lookup x=some c->c≠b)/\∀p∈X.pn++pins,p.1≠b
theorem Inv.fpOk {H':Hp}(I:Inv X pins σ H s)(hb:s.heap.objs.size<=b)(hn:H' b=none):FpOk X pins H' b:=by
 refine ⟨hn,Nat.ne_of_gt (Nat.lt_of_lt_of_le I.lt hb),I.nofs hb,.inr (Nat.le_trans I.sz hb),λx c e z=>?_,λp hp z=>?_⟩
 ·obtain ⟨v,q⟩:=I.cell x c e;exact absurd (Nat.lt_of_lt_of_le q.lt (by rw [z];exact hb)) (Nat.lt_irrefl _)
 ·exact absurd (Nat.lt_of_lt_of_le (Heap.lt_size (I.pin p hp).1) (by rw [z];exact hb)) (Nat.lt_irrefl _)
structure Turn (P:Program)(w:World)(K:PySem.W.Frag)(tg:Expr)(J:It)(fp:List Addr)(it:Addr)(tn:Nat->Heap->Prop):Prop where
 mem:it∈fp
 obj:∀i h,tn i h->∀b∈fp,∃o,h.get? b=some o/\∀v,o.data≠.cell v
 keep:∀i h h',tn i h->(∀b∈fp,∀o,h.get? b=some o->h'.get? b=some o)->tn i h'
 item:∀(X:Cx),X.prog=P->X.w=w->X.K=K->X.calm=true->∀(i:Nat) (pins:List (Addr×Obj)) (s:Shared) (σ:St) (H:Hp) (E:Value->Shared->Prop),Inv X pins σ H s->(∀b∈fp,FpOk X pins H b)->tn i s.heap->J.go i H->
  wpAny (model P w) X.A (pyNext (.ref it)) (λr s1=>∃u,r=some u/\
   wpAny (model P w) X.A (letOwnedTupleGo tg (.ref it) u) (λ_ s2=>∃x H',Inv X pins σ H' s2/\RelV x u/\J.yld i H x H'/\tn (i + 1) s2.heap/\∀b∈fp,H' b=none) E s1) E s
 done:∀(X:Cx),X.prog=P->X.w=w->X.K=K->X.calm=true->∀(i:Nat) (pins:List (Addr×Obj)) (s:Shared) (σ:St) (H:Hp) (E:Value->Shared->Prop),Inv X pins σ H s->(∀b∈fp,FpOk X pins H b)->tn i s.heap->J.stop i H->
  wpAny (model P w) X.A (pyNext (.ref it)) (λr s1=>r=none/\Inv X pins σ H s1) E s
 self:∀(A:Around) (i:Nat) (s:Shared) (Q:Value->Shared->Prop) (E:Value->Shared->Prop),tn i s.heap->Q (.ref it) s->wpAny (model P w) A (pyIter (.ref it)) Q E s
abbrev TI:=St->Hp->(It->Hp->Prop)->Prop
def PIE (X:Cx)(pins:List (Addr×Obj))(σ:St)(tg:Expr)(R:It->Hp->Prop)(itv:Value)(s2:Shared):Prop:=
 ∃(it:Addr) (fp:List Addr) (tn:Nat->Heap->Prop) (J:It) (H':Hp),itv = .ref it/\Inv X pins σ H' s2/\Turn X.prog X.w X.K tg J fp it tn/\tn 0 s2.heap/\(∀b∈fp,FpOk X pins H' b)/\R J H'
def PI (X:Cx)(tg iter:Expr)(wi:TI):Prop:=
 ∀(pins:List (Addr×Obj)) (s:Shared) (σ:St) (H:Hp) (R:It->Hp->Prop),Inv X pins σ H s->wi σ H R->
  wpAny (model X.prog X.w) X.A (eval iter X.env) (λv s1=>wpAny (model X.prog X.w) X.A (pyIter v) (PIE X pins σ tg R) X.xe s1) X.xe s
theorem J3 {M:Model}{A:Around}{it:Addr}{o:Obj}{n:String}{vs:Array Value}(ho:s.heap.get? it=some o)(hc:o.cls = .type n)(hd:o.data = .fields vs)
 (hn:["enumerate", "zip", "dict_itemiterator", "dict_reverseitemiterator", "odict_iterator", "itertools.zip_longest", "itertools.pairwise"].contains n=false) (hQ:Q () s):wpAny M A (letOwnedTupleGo tg (.ref it) u) Q E s:=by
 unfold letOwnedTupleGo
 cases tg <;> first
  | exact wpAny_pure hQ
  | (cases u <;> first
      | exact wpAny_pure hQ
      | (refine wpAny_bind (wpAny_load ho ?_)
         rw [hc,hd];show wpAny M A (if (["enumerate", "zip", "dict_itemiterator", "dict_reverseitemiterator", "odict_iterator", "itertools.zip_longest", "itertools.pairwise"].contains n && vs[0]? == some (rawInt _))=true then _ else _) Q E s;rw [if_neg (by intro h;rw [hn,Bool.false_and] at h;cases h)]
         exact wpAny_pure hQ))
def Itl (K:PySem.W.Frag)(a:Addr):It:=
 ⟨λi H=>∃xs x,SqL K H a xs/\xs[i]?=some x,λi H x H'=>H'=H/\∀xs,SqL K H a xs->xs[i]?=some x,λi H=>∃xs,SqL K H a xs/\xs.length<=i⟩
def Itt (K:PySem.W.Frag)(a:Addr):It:=
 ⟨λi H=>∃xs x,SqT K H a xs/\xs[i]?=some x,λi H x H'=>H'=H/\∀xs,SqT K H a xs->xs[i]?=some x,λi H=>∃xs,SqT K H a xs/\xs.length<=i⟩
noncomputable def Itr (lo:Int)(n:Nat):It:=⟨λi _=>i < n,λi H x H'=>H'=H/\x = .int (lo + i),λi _=>n<=i⟩
theorem PC (a it:Addr):Turn P w K tg (Itl K a) [it] it (λi h=>h.IsListIter it a i) where
 mem:=by simp
 obj:=λi h st b hb=>by
  have e:b=it:=by simpa using hb
  subst e;obtain ⟨o,e,c,d⟩:=st;exact ⟨o,e,λv z=>by rw [d] at z;cases z⟩
 keep:=λi h h' st k=>st.at λo e=>k it (by simp) o e
 item:=by
  intro X hP hw hK hc i pins s σ H E I hf st hg;subst hP hw hK;obtain ⟨xs,x,hq,hx⟩:=hg;obtain ⟨its,rv,p,hz⟩:=I.list hq;obtain ⟨u,hu,ru⟩:=rv.get hx;obtain ⟨f0,f1,f2,f3,f4,f5⟩:=hf it (by simp);refine wpAny_pyNext_list_item st p.isList (x:=u) (by simpa using hu) λh' st' sb=>?_;have I1:Inv X pins σ H { s with heap:=h' }:=I.turned (t':=s.toks) (λb o hb e=>(sb.2 b hb).trans e) f0 f1 f3 f4 f5;obtain ⟨o,e,c,d⟩:=id st';exact ⟨u,rfl,J3 (s:={ s with heap:=h' }) e c d (by decide) ⟨x,H,I1,ru,⟨rfl,λys hy=>by rw [I.list_inj hy hq];exact hx⟩,st',λb hb=>(hf b hb).1⟩⟩
 done:=by
  intro X hP hw hK hc i pins s σ H E I hf st hg;subst hP hw hK;obtain ⟨xs,hq,hx⟩:=hg;obtain ⟨its,rv,p,hz⟩:=I.list hq;obtain ⟨f0,f1,f2,f3,f4,f5⟩:=hf it (by simp);have hl:=rv.length;exact wpAny_pyNext_list_end (I.ok.hd hc) st p.isList (by simp;lia) λh' eb=>⟨rfl,I.turned (t':=s.toks) (λb o hb e=>eb b o hb e) f0 f1 f3 f4 f5⟩
 self:=λ_ _ _ _ _ st h=>wpAny_pyIter_listiter st h
theorem NB (a it:Addr):Turn P w K tg (Itt K a) [it] it (λi h=>h.IsTupleIter it a i) where
 mem:=by simp
 obj:=λi h st b hb=>by
  have e:b=it:=by simpa using hb
  subst e;obtain ⟨o,e,c,d⟩:=st;exact ⟨o,e,λv z=>by rw [d] at z;cases z⟩
 keep:=λi h h' st k=>st.at λo e=>k it (by simp) o e
 item:=by
  intro X hP hw hK hc i pins s σ H E I hf st hg;subst hP hw hK;obtain ⟨xs,x,hq,hx⟩:=hg;obtain ⟨its,rv,p,hz⟩:=I.tuple hq;obtain ⟨u,hu,ru⟩:=rv.get hx;obtain ⟨f0,f1,f2,f3,f4,f5⟩:=hf it (by simp);refine wpAny_pyNext_tuple_item st (show s.heap.IsTuple a its.toArray from p) (x:=u) (by simpa using hu) λh' st' sb=>?_;have I1:Inv X pins σ H { s with heap:=h' }:=I.turned (t':=s.toks) (λb o hb e=>(sb.2 b hb).trans e) f0 f1 f3 f4 f5;obtain ⟨o,e,c,d⟩:=id st';exact ⟨u,rfl,J3 (s:={ s with heap:=h' }) e c d (by decide) ⟨x,H,I1,ru,⟨rfl,λys hy=>by rw [I.tuple_inj hy hq];exact hx⟩,st',λb hb=>(hf b hb).1⟩⟩
 done:=by
  intro X hP hw hK hc i pins s σ H E I hf st hg;subst hP hw hK;obtain ⟨xs,hq,hx⟩:=hg;obtain ⟨its,rv,p,hz⟩:=I.tuple hq;obtain ⟨f0,f1,f2,f3,f4,f5⟩:=hf it (by simp);have hl:=rv.length;exact wpAny_pyNext_tuple_end (I.ok.hd hc) st (show s.heap.IsTuple a its.toArray from p) (by simp;lia) λh' eb=>⟨rfl,I.turned (t':=s.toks) (λb o hb e=>eb b o hb e) f0 f1 f3 f4 f5⟩
 self:=λ_ _ _ _ _ st h=>wpAny_pyIter_tupleiter st h
theorem NA (it:Addr)(lo:Int)(n:Nat):Turn P w K tg (Itr lo n) [it] it (λi h=>IsRangeIter h it (lo + (i:Nat) * 1) ((n:Int) - (i:Nat)) 1) where
 mem:=by simp
 obj:=λi h st b hb=>by
  have e:b=it:=by simpa using hb
  subst e;exact ⟨_,st,λv z=>by
   have z':Data.fields _=Data.cell v:=z
   cases z'⟩
 keep:=λi h h' st k=>k it (by simp) _ st
 item:=by
  intro X hP hw hK hc i pins s σ H E I hf st hg;subst hP hw hK;obtain ⟨f0,f1,f2,f3,f4,f5⟩:=hf it (by simp);have W:=Walks.range (prog:=X.prog) (w:=X.w) (I.ok.hd hc) it lo 1 n;refine W.item i s _ _ hg st λv h' tk hv st' kk=>?_;obtain ⟨t,rfl⟩:=hv;have I1:Inv X pins σ H { s with heap:=h',toks:=tk }:=I.turned (λb o hb e=>kk b o (by simpa using hb) e) f0 f1 f3 f4 f5;refine ⟨_,rfl,J3 (s:={ s with heap:=h',toks:=tk }) (n:="range_iterator") st' rfl rfl (by decide) ⟨.int (lo + i),H,I1,⟨t,?_⟩,⟨rfl,rfl⟩,st',λb hb=>(hf b hb).1⟩⟩;rw [Int.mul_one]
 done:=by
  intro X hP hw hK hc i pins s σ H E I hf st hg;subst hP hw hK;obtain ⟨f0,f1,f2,f3,f4,f5⟩:=hf it (by simp);exact wpAny_pyNext_range_end (I.ok.hd hc) st (by have:n<=i:=hg;lia) λh' eb=>⟨rfl,I.turned (t':=s.toks) (λb o hb e=>eb b o hb e) f0 f1 f3 f4 f5⟩
 self:=λ_ _ _ _ _ st h=>wpAny_pyIter_rangeiter st h
variable {fp:List Addr}
section
variable {X:Cx}{tg:Expr}
theorem Lj {R:It->Hp->Prop}{lo hi:Int}{t u v:Tok}{tk:Nat}(I:Inv X pins σ H s)(h1 : -(2 ^ 62)<=lo)(h2:lo < 2 ^ 62)(h3 : -(2 ^ 62)<=hi)(h4:hi < 2 ^ 62)
 (q:R (Itr lo (hi - lo).toNat) H):wpAny (model X.prog X.w) X.A (pyIter (.ref s.heap.objs.size)) (PIE X pins σ tg R) E { s with heap:=s.heap.push { cls:=.type "range",data:=.fields #[.int lo t,.int hi u,.int 1 v] },toks:=tk }:=by
 refine wpAny_pyIter_range (IsRange.new ..) (small_one h1 h2 h3 h4) ?_;have I1:Inv X pins σ H { s with heap:=s.heap.push { cls:=.type "range",data:=.fields #[.int lo t,.int hi u,.int 1 v] },toks:=tk }:=I.kept λb o e=>Heap.get?_push_of_some _ e;refine ⟨(s.heap.push { cls:=.type "range",data:=.fields #[.int lo t,.int hi u,.int 1 v] }).objs.size,[(s.heap.push { cls:=.type "range",data:=.fields #[.int lo t,.int hi u,.int 1 v] }).objs.size],_,_,H,rfl,
  I1.kept (t':=tk) λb o e=>Heap.get?_push_of_some _ e,NA _ lo (hi - lo).toNat,?_,λb hb=>?_,q⟩
 ·have e1:lo + ((0:Nat):Int) * 1=lo:=by simp
  have e2:(((hi - lo).toNat:Nat):Int) - ((0:Nat):Int)=Builtin.Range.rangeSize lo hi 1:=by rw [rangeSize_one];split <;> lia
  show IsRangeIter _ _ (lo + ((0:Nat):Int) * 1) ((((hi - lo).toNat:Nat):Int) - ((0:Nat):Int)) 1;rw [e1,e2];exact Heap.get?_push_size _ rfl
 ·have e:b=(s.heap.push { cls:=.type "range",data:=.fields #[.int lo t,.int hi u,.int 1 v] }).objs.size:=by simpa using hb
  subst e;exact I1.fpOk (Nat.le_refl _) (I1.hok.fresh (Nat.le_refl _))
def XH (ta:TA):TI:=λσ H R=>ta σ H λvs H1=>∃j:Int,vs=[.int j]/\-(2 ^ 62)<=j/\j < 2 ^ 62/\R (Itr 0 j.toNat) H1
def XI (ta:TA):TI:=λσ H R=>ta σ H λvs H1=>∃i j:Int,vs=[.int i,.int j]/\(-(2 ^ 62)<=i/\i < 2 ^ 62/\-(2 ^ 62)<=j/\j < 2 ^ 62)/\R (Itr i (j - i).toNat) H1
theorem O6 {a:Expr}{ta:TA}{p pos:Pos}(hg:Gl X "range")(hm:X.mg "range" = none)(ha:PA X [a] ta)(hs:starEach [a] X.env=[(false,eval a X.env)]:=by rfl):PI X tg (.Call (.Name "range" p) [a] [] pos) (XH ta):=by
 intro pins s σ H R I h;refine Call_ (EL I hg hm boot_range (PyProof.Rows.callWith_type1 (thn (ha pos pins s σ H _ I h) λus s1 z9=>?_) hs rfl));obtain ⟨vs,H1,I1,r1,q1⟩:=z9;obtain ⟨j,e,q1,q2,q⟩:=q1;subst e
 cases r1 with
 | cons r rr=>
   cases rr
   obtain ⟨t,rfl⟩:=r;exact call_range_1 (Lj I1 (by lia) (by lia) q1 q2 (by simpa using q))
theorem O7 {a b:Expr}{ta:TA}{p pos:Pos}(hg:Gl X "range")(hm:X.mg "range" = none)(ha:PA X [a,b] ta)(hs:starEach [a,b] X.env=[(false,eval a X.env),(false,eval b X.env)]:=by rfl)(hs2:starEach [b] X.env=[(false,eval b X.env)]:=by rfl) :
 PI X tg (.Call (.Name "range" p) [a,b] [] pos) (XI ta):=by
 intro pins s σ H R I h;refine Call_ (EL I hg hm boot_range (PyProof.Rows.callWith_type1 (thn (ha pos pins s σ H _ I h) λus s1 z9=>?_) (by rw [hs,hs2]) (by rw [hs2];rfl)));obtain ⟨vs,H1,I1,r1,q1⟩:=z9;obtain ⟨i,j,e,⟨q1,q2,q3,q4⟩,q⟩:=q1;subst e
 cases r1 with
 | cons r rr=>
   cases rr with
   | cons r' rr=>
     cases rr
     obtain ⟨t,rfl⟩:=r;obtain ⟨t',rfl⟩:=r';exact call_range_2 (Lj I1 q1 q2 q3 q4 q)
def Rp (wi:TI)(g:TG)(tb:TS):TS:=λD σ H=>wi σ H λJ H1=>∃W:Nat->Nat->St->Hp->Prop,(∃m,W 0 m σ H1)/\∀i m σ H,W i m σ H->
 (J.stop i H/\D.nx σ H)\/(J.go i H/\∃N:St->Hp->Prop,(∀σ' H',N σ' H'->∃m',m' < m/\W (i + 1) m' σ' H')/\∀x H',J.yld i H x H'->g x σ H' λσ2 H2=>tb { D with nx:=N,ct:=N,bk:=D.nx } σ2 H2)
noncomputable def GG (fp:List Addr)(h:Heap):List (Addr×Obj):=fp.filterMap λb=>(h.get? b).map λo=>(b,o)
theorem Eu {o:Obj}(hb:b∈fp)(e:h.get? b=some o):(b,o)∈GG fp h:=List.mem_filterMap.mpr ⟨b,hb,by rw [e];rfl⟩
theorem OW {p:Addr×Obj}(hp:p∈GG fp h):p.1∈fp/\h.get? p.1=some p.2:=by
 obtain ⟨b,hb,e⟩:=List.mem_filterMap.mp hp
 cases q:h.get? b with
 | none=>rw [q] at e;cases e
 | some o=>
   rw [q] at e;have e':(b,o)=p:=Option.some.inj e;subst e';exact ⟨hb,q⟩
theorem Inv.pinned (I:Inv X pins σ H s)(hf:∀b∈fp,FpOk X pins H b)(ho:∀b∈fp,∃o,s.heap.get? b=some o/\∀v,o.data≠.cell v):Inv X (pins++GG fp s.heap) σ H s:=
 I.pins_of λp hp=>(List.mem_append.mp hp).elim (λz=>I.pin p (List.mem_append_right _ z)) λz=>by
  obtain ⟨hb,e⟩:=OW z;obtain ⟨f0,f1,f2,_⟩:=hf p.1 hb;obtain ⟨o,e',d⟩:=ho p.1 hb;rw [e] at e';cases e'
  exact ⟨e,f0,f1,f2,d⟩
theorem Inv.unpinned {pl:List (Addr×Obj)}(I:Inv X (pins++pl) σ H s):Inv X pins σ H s:=I.pins_of λp hp=>I.pin p (List.mem_append_right _ (List.mem_append_left _ hp))
theorem Pc {iter:Expr}{body:List Stmt}{wi:TI}{g:TG}{tb:TS}{pos:Pos}(hp:PassesOwn (model X.prog X.w) X.A X.env X.xe)(hc:X.calm=true)(hi:PI X tg iter wi)(hg:PG X tg g)(hb:PSs X body tb)
 (hs:∀x,foldedSetIterable iter X.env x=pure x:=by intro _;rfl):PS X (.For tg iter body [] pos) (Rp wi g tb):=by
 intro pins s σ H D I h;refine wpAny_For (thn (hi pins s σ H _ I h) λv s1 h1=>thn h1 λitv s2 h2=>?_) hs;obtain ⟨it,fp,tn,J,H2,e,I2,T,st2,f2,W,⟨m0,w0⟩,turn⟩:=h2;subst e
 -- what stays true of the iterator's objects through the loop
 have stat:∀{H':Hp},(∀b∈fp,H' b=none)->∀b∈fp,FpOk X pins H' b:=λhn b hb=>⟨hn b hb,(f2 b hb).2⟩;refine codeAny_forLoop_any (λn s'=>∃i σ' H',Inv X pins σ' H' s'/\tn i s'.heap/\(∀b∈fp,H' b=none)/\W i n σ' H') ?_ m0 ⟨0,σ,H2,I2,st2,λb hb=>(f2 b hb).1,w0⟩;rintro n s3 ⟨i,σ3,H3,I3,st3,fr3,w3⟩;rcases turn i n σ3 H3 w3 with ⟨stop,qn⟩ | ⟨go,N,hN,step⟩
 ·refine wpAny_passesOwn hp (thn (T.done X rfl rfl rfl hc i pins s3 σ3 H3 X.xe I3 (stat fr3) st3 stop) λr s4 z9=>?_);obtain ⟨hr,I4⟩:=z9;subst hr;exact wpAny_execs_nil ⟨σ3,H3,I4,qn⟩
 ·refine wpAny_passesOwn hp (thn (T.item X rfl rfl rfl hc i pins s3 σ3 H3 X.xe I3 (stat fr3) st3 go) λr s4 z9=>?_);obtain ⟨u,hr,h4⟩:=z9;subst hr;refine wpAny_passesOwn hp (thn h4 λ_ s5 z9=>?_);obtain ⟨x,H5,I5,r5,y5,st5,fr5⟩:=z9;have I5':=I5.pinned (stat fr5) (T.obj _ _ st5);refine wpAny_passesOwn hp (thn (hg _ s5 σ3 H5 x u _ I5' r5 (step x H5 y5)) λ_ s6 z9=>?_);obtain ⟨σ6,H6,I6,q6⟩:=z9;refine wpAny_passesOwn hp (thn (hb _ s6 σ6 H6 _ I6 q6) λf s7 q7=>?_);have again:∀{σ7:St} {H7:Hp},Inv X (pins++GG fp s5.heap) σ7 H7 s7->N σ7 H7->∃m,m < n/\∃i σ' H',Inv X pins σ' H' s7/\tn i s7.heap/\(∀b∈fp,H' b=none)/\W i m σ' H':=λ{σ7 H7} I7 n7=>by
   obtain ⟨m',hm,w7⟩:=hN σ7 H7 n7;refine ⟨m',hm,i + 1,σ7,H7,I7.unpinned,T.keep _ _ _ st5 λb hb o e=>(I7.pin (b,o) (List.mem_append_right _ (List.mem_append_right _ (Eu hb e)))).1,λb hb=>?_,w7⟩;obtain ⟨o,e,d⟩:=T.obj _ _ st5 b hb;exact (I7.pin (b,o) (List.mem_append_right _ (List.mem_append_right _ (Eu hb e)))).2.1
  cases f with
  | next=>obtain ⟨σ7,H7,I7,n7⟩:=q7;exact again I7 n7
  | cont=>obtain ⟨σ7,H7,I7,n7⟩:=q7;exact again I7 n7
  | brk=>obtain ⟨σ7,H7,I7,q7⟩:=q7;exact ⟨σ7,H7,I7.unpinned,q7⟩
  | ret v=>obtain ⟨x7,σ7,H7,I7,r7,q7⟩:=q7;exact ⟨x7,σ7,H7,I7.unpinned,r7,q7⟩
end
abbrev R2:=V->V->Hp->VK->Prop
def OpR (X:Cx)(f:Value->Value->Sem Value)(r:R2):Prop:=
 ∀(pins:List (Addr×Obj)) (s:Shared) (σ:St) (H:Hp) (x y:V) (v u:Value) (Q:VK),Inv X pins σ H s->RelV x v->RelV y u->r x y H Q->
  wpAny (model X.prog X.w) X.A (f v u) (EP X pins σ Q) X.xe s
def UnR (X:Cx)(f:Value->Sem Value)(r:V->Hp->VK->Prop):Prop:=
 ∀(pins:List (Addr×Obj)) (s:Shared) (σ:St) (H:Hp) (x:V) (v:Value) (Q:VK),Inv X pins σ H s->RelV x v->r x H Q->
  wpAny (model X.prog X.w) X.A (f v) (EP X pins σ Q) X.xe s
def BY (X:Cx)(f:Value)(r:List V->Hp->VK->Prop):Prop:=
 ∀(pins:List (Addr×Obj)) (s:Shared) (σ:St) (H:Hp) (xs:List V) (us:List Value) (Q:VK),Inv X pins σ H s->Vals xs us->r xs H Q->
  wpAny (model X.prog X.w) X.A (call f us) (EP X pins σ Q) X.xe s
def tOp (r:R2)(ta tb:TE):TE:=λσ H Q=>ta σ H λx H1=>tb σ H1 λy H2=>r x y H2 Q
def tUn (r:V->Hp->VK->Prop)(ta:TE):TE:=λσ H Q=>ta σ H λx H1=>r x H1 Q
def rI (C:Int->Int->Prop)(g:Int->Int->V):R2:=λx y H Q=>∃i j,x = .int i/\y = .int j/\C i j/\Q (g i j) H
def rI0 (g:Int->Int->V):R2:=λx y H Q=>∃i j,x = .int i/\y = .int j/\Q (g i j) H
def rU (g:Int->V):V->Hp->VK->Prop:=λx H Q=>∃i,x = .int i/\Q (g i) H
variable {r:R2}{f:Value->Value->Sem Value}
section
variable {X:Cx}{a b c:Expr}{ta tb tc:TE}{pos:Pos}
theorem P5 (ha:PE X a ta)(hb:PE X b tb){pins:List (Addr×Obj)}{s:Shared}{σ:St}{H:Hp}{R:V->V->Hp->Prop}(I:Inv X pins σ H s)
 (h:ta σ H λx H1=>tb σ H1 λy H2=>R x y H2) {Q:Value->Shared->Prop} {f:Value->Value->Sem Value}
 (hf:∀v u s2 x y H2,Inv X pins σ H2 s2->RelV x v->RelV y u->R x y H2->wpAny (model X.prog X.w) X.A (f v u) Q X.xe s2) :
 wpAny (model X.prog X.w) X.A (eval a X.env) (λv s₁=>wpAny (model X.prog X.w) X.A (eval b X.env) (λu s₂=>wpAny (model X.prog X.w) X.A (f v u) Q X.xe s₂) X.xe s₁) X.xe s:=by
 refine thn (ha pins s σ H _ I h) λv s1 z9=>?_;obtain ⟨x,H1,I1,r1,q1⟩:=z9;refine thn (hb pins s1 σ H1 _ I1 q1) λu s2 z9=>?_;obtain ⟨y,H2,I2,r2,q2⟩:=z9;exact hf v u s2 x y H2 I2 r1 r2 q2
theorem Sd {op:Operator}(ho:OpR X (binaryOp op) r)(ha:PE X a ta)(hb:PE X b tb):PE X (.BinOp a op b pos) (tOp r ta tb):=by
 intro pins s σ H Q I h;exact wpAny_BinOp (P5 ha hb I h λv u s2 x y H2 I2 rx ry q=>ho pins s2 σ H2 x y v u Q I2 rx ry q)
theorem XQ {op:UnaryOp}{r:V->Hp->VK->Prop}(ho:UnR X (unaryOp op) r)(ha:PE X a ta):PE X (.UnaryOp op a pos) (tUn r ta):=by
 intro pins s σ H Q I h;exact UnaryOp_ (thn (ha pins s σ H _ I h) λv s1 z9=>by obtain ⟨x,H1,I1,r1,q1⟩:=z9;exact ho pins s1 σ H1 x v Q I1 r1 q1)
theorem opI {C:Int->Int->Prop}{g:Int->Int->Int}
 (rule:∀(i j:Int) (t u:Tok) (s:Shared) (Q:Value->Shared->Prop) (E:Value->Shared->Prop),C i j->Q (.int (g i j) s.toks) { s with toks:=s.toks + 1 }->wpAny (model X.prog X.w) X.A (f (.int i t) (.int j u)) Q E s) :
 OpR X f (rI C λi j=>.int (g i j)):=by
 intro pins s σ H x y v u Q I rx ry h;obtain ⟨i,j,rfl,rfl,hc,q⟩:=h;obtain ⟨t,rfl⟩:=rx;obtain ⟨t',rfl⟩:=ry;exact rule i j t t' s _ _ hc ⟨.int (g i j),H,I.tok _,⟨_,rfl⟩,q⟩
theorem Wl {g:Int->Int->Int}
 (rule:∀(i j:Int) (t u:Tok) (s:Shared) (Q:Value->Shared->Prop) (E:Value->Shared->Prop),Q (.int (g i j) s.toks) { s with toks:=s.toks + 1 }->wpAny (model X.prog X.w) X.A (f (.int i t) (.int j u)) Q E s) :
 OpR X f (rI0 λi j=>.int (g i j)):=by
 intro pins s σ H x y v u Q I rx ry h;obtain ⟨i,j,rfl,rfl,q⟩:=h;obtain ⟨t,rfl⟩:=rx;obtain ⟨t',rfl⟩:=ry;exact rule i j t t' s _ _ ⟨.int (g i j),H,I.tok _,⟨_,rfl⟩,q⟩
theorem Nl {g:Int->Int->Bool}
 (rule:∀(i j:Int) (t u:Tok) (s:Shared) (Q:Value->Shared->Prop) (E:Value->Shared->Prop),Q (.bool (g i j)) s->wpAny (model X.prog X.w) X.A (f (.int i t) (.int j u)) Q E s) :
 OpR X f (rI0 λi j=>.bl (g i j)):=by
 intro pins s σ H x y v u Q I rx ry h;obtain ⟨i,j,rfl,rfl,q⟩:=h;obtain ⟨t,rfl⟩:=rx;obtain ⟨t',rfl⟩:=ry;exact rule i j t t' s _ _ ⟨.bl (g i j),H,I,rfl,q⟩
def Vb (i j:Int):Prop:=0 < j/\j < 1073741824
def Vc (i j:Int):Prop:=0<=j/\j<=1000000/\i.natAbs < 2 ^ 64
def CMul (i j:Int):Prop:=(-(2 ^ 64) < i/\i < 2 ^ 64)\/(-(2 ^ 64) < j/\j < 2 ^ 64)
theorem CMul.ok {i j:Int}(h:CMul i j):IntMulOk i j:=by
 rcases h with ⟨h1,h2⟩ | ⟨h1,h2⟩
 ·exact .of_left (intBits_le_64 h1 h2)
 ·exact .of_right (intBits_le_64 h1 h2)
theorem two_pow_nn (k:Nat):(0:Int)<=2 ^ k:=by
 rw [two_pow_cast];exact Int.natCast_nonneg _
theorem op_add:OpR X (binaryOp .Add) (rI0 λi j=>.int (i + j)):=Wl λ_ _ _ _ _ _ _ q=>add_int q
theorem Wv:OpR X (binaryOp .Sub) (rI0 λi j=>.int (i - j)):=Wl λ_ _ _ _ _ _ _ q=>sub_int q
theorem Wq:OpR X (binaryOp .Mult) (rI CMul λi j=>.int (i * j)):=opI λ_ _ _ _ _ _ _ hc q=>mul_int q hc.ok
theorem T4:OpR X (binaryOp .FloorDiv) (rI Vb λi j=>.int (i / j)):=opI λi j _ _ _ _ _ hc q=>by
 have h1:(0:Int) < j:=hc.1;have h2:j < 1073741824:=hc.2;exact floordiv_int (by lia) (by rw [Int.fdiv_eq_ediv_of_nonneg i (by lia)];exact q) (.inl (PyProof.noPylong_small (by lia)))
theorem Wp:OpR X (binaryOp .Mod) (rI (λ_ j=>0 < j) λi j=>.int (i % j)):=opI λi j _ _ _ _ _ hc q=>by
 have h1:(0:Int) < j:=hc;exact mod_int' (by lia) (by rw [Int.fmod_eq_emod_of_nonneg i (by lia)];exact q)
theorem Ws:OpR X (binaryOp .Pow) (rI Vc λi j=>.int (i ^ j.toNat)):=opI λ_ _ _ _ _ _ _ hc q=>pow_int_small hc.1 hc.2.1 hc.2.2 q
theorem Wu:OpR X (binaryOp .RShift) (rI (λ_ j=>0<=j) λi j=>.int (i / 2 ^ j.toNat)):=opI λi j _ _ _ _ _ hc q=>
 rshift_int hc (by rw [Int.fdiv_eq_ediv_of_nonneg i (two_pow_nn _)];exact q)
theorem unI {f:Value->Sem Value}{g:Int->Int}
 (rule:∀(i:Int) (t:Tok) (s:Shared) (Q:Value->Shared->Prop) (E:Value->Shared->Prop),Q (.int (g i) s.toks) { s with toks:=s.toks + 1 }->wpAny (model X.prog X.w) X.A (f (.int i t)) Q E s) :
 UnR X f (rU λi=>.int (g i)):=by
 intro pins s σ H x v Q I rx h;obtain ⟨i,rfl,q⟩:=h;obtain ⟨t,rfl⟩:=rx;exact rule i t s _ _ ⟨.int (g i),H,I.tok _,⟨_,rfl⟩,q⟩
theorem PD:UnR X (unaryOp .USub) (rU λi=>.int (-i)):=unI λ_ _ _ _ _ q=>neg_int q
end
variable {r':R2}{op:CmpOp}{us:List Value}
section
variable {X:Cx}{a b c:Expr}{ta tb tc:TE}{pos:Pos}
theorem op_lt:OpR X (compareOp .Lt) (rI0 λi j=>.bl (decide (i < j))):=Nl λ_ _ _ _ _ _ _ q=>lt_int q
theorem op_le:OpR X (compareOp .LtE) (rI0 λi j=>.bl (decide (i<=j))):=Nl λ_ _ _ _ _ _ _ q=>le_int q
theorem op_gt:OpR X (compareOp .Gt) (rI0 λi j=>.bl (decide (j < i))):=Nl λ_ _ _ _ _ _ _ q=>gt_int q
theorem op_ge:OpR X (compareOp .GtE) (rI0 λi j=>.bl (decide (j<=i))):=Nl λ_ _ _ _ _ _ _ q=>ge_int q
theorem OpR.or (h:OpR X f r)(h':OpR X f r'):OpR X f (λx y H Q=>r x y H Q\/r' x y H Q):=by
 intro pins s σ H x y v u Q I rx ry q;rcases q with q | q
 ·exact h pins s σ H x y v u Q I rx ry q
 ·exact h' pins s σ H x y v u Q I rx ry q
theorem Ca (b:Expr){op:CmpOp}(h:op≠.In:=by decide)(h2:op≠.NotIn:=by decide):behindInMarks op b=false:=by
 have e1:(op == CmpOp.In)=false:=by cases op <;> first | rfl | exact absurd rfl h
 have e2:(op == CmpOp.NotIn)=false:=by cases op <;> first | rfl | exact absurd rfl h2
 cases b <;> simp [behindInMarks,e1,e2]
theorem Ub (ho:OpR X (compareOp op) r)(ha:PE X a ta)(hb:PE X b tb)(hm:behindInMarks op b=false):PE X (.Compare a [op] [b] pos) (tOp r ta tb):=by
 intro pins s σ H Q I h;exact wpAny_Compare1 (P5 ha hb I h λv u s2 x y H2 I2 rx ry q=>ho pins s2 σ H2 x y v u Q I2 rx ry q) hm
def Sv (t:TE):TT:=λσ H Q=>t σ H λx H'=>∃k,x = .bl k/\Q k H'
theorem Up (ho:OpR X (compareOp op) r)(ha:PE X a ta)(hb:PE X b tb)(hm:behindInMarks op b=false):PT X (.Compare a [op] [b] pos) (Sv (tOp r ta tb)):=by
 intro pins s σ H Q I h;refine wpAny_isTrue_Compare1 (thn (ha pins s σ H _ I h) λv s1 ⟨x,H1,I1,r1,q1⟩=>thn (hb pins s1 σ H1 _ I1 q1) λu s2 ⟨y,H2,I2,r2,q2⟩=>
  thn (ho pins s2 σ H2 x y v u _ I2 r1 r2 q2) λc s3 ⟨z,H3,I3,r3,k,e,q3⟩=>?_) hm
 subst e
 cases r3
 exact wpAny_truthy_bool ⟨H3,I3,q3⟩
def LA (r r':R2)(ta tb tc:TE):TE:=λσ H Q=>ta σ H λx H1=>tb σ H1 λy H2=>r x y H2 λz H3=>∃k,z = .bl k/\
 (if k=true then tc σ H3 λw' H4=>r' y w' H4 Q else Q (.bl false) H3)
theorem QT {op':CmpOp}(ho:OpR X (compareOp op) r)(ho':OpR X (compareOp op') r')(ha:PE X a ta)(hb:PE X b tb)(hc:PE X c tc)
 (hm:lastMarks [op,op'] [b,c]=false:=by with_unfolding_all rfl):PE X (.Compare a [op,op'] [b,c] pos) (LA r r' ta tb tc):=by
 intro pins s σ H Q I h;refine Compare_chain (thn (ha pins s σ H _ I h) λv s1 ⟨x,H1,I1,r1,q1⟩=>chain_link (thn (hb pins s1 σ H1 _ I1 q1) λu s2 ⟨y,H2,I2,r2,q2⟩=>
  thn (ho pins s2 σ H2 x y v u _ I2 r1 r2 q2) λd s3 ⟨z,H3,I3,r3,k,e,q3⟩=>?_)) hm
 subst e
 cases r3
 refine wpAny_truthy_bool ?_
 cases k with
 | false=>exact ite_ff ⟨.bl false,H3,I3,rfl,q3⟩
 | true=>exact ite_tt (chain_last (thn (hc pins s3 σ H3 _ I3 q3) λw' s4 z9=>by obtain ⟨z',H4,I4,r4,q4⟩:=z9;exact ho' pins s4 σ H4 y z' u w' Q I4 r2 r4 q4))
theorem Q3 {op':CmpOp}(ho:OpR X (compareOp op) r)(ho':OpR X (compareOp op') r')(ha:PE X a ta)(hb:PE X b tb)(hc:PE X c tc)
 (hm:lastMarks [op,op'] [b,c]=false:=by with_unfolding_all rfl):PT X (.Compare a [op,op'] [b,c] pos) (Sv (LA r r' ta tb tc)):=by
 intro pins s σ H Q I h;refine isTrue_chain (thn (ha pins s σ H _ I h) λv s1 ⟨x,H1,I1,r1,q1⟩=>test_link (thn (hb pins s1 σ H1 _ I1 q1) λu s2 ⟨y,H2,I2,r2,q2⟩=>
  thn (ho pins s2 σ H2 x y v u _ I2 r1 r2 q2) λd s3 ⟨z,H3,I3,r3,k,e,q3⟩=>?_)) hm
 subst e
 cases r3
 refine wpAny_truthy_bool ?_
 cases k with
 | false=>
   obtain ⟨k',e',q'⟩:=q3
   cases e'
   exact ite_ff ⟨H3,I3,q'⟩
 | true=>
   refine ite_tt (test_last (thn (hc pins s3 σ H3 _ I3 q3) λw' s4 ⟨z',H4,I4,r4,q4⟩=>thn (ho' pins s4 σ H4 y z' u w' _ I4 r2 r4 q4) λd' s5 z9=>?_));obtain ⟨z2,H5,I5,r5,k2,e2,q5⟩:=z9;subst e2
   cases r5
   exact wpAny_truthy_bool ⟨H5,I5,q5⟩
theorem Gs:(sizeLine:Nat) < 2 ^ 63:=by rw [sizeLine_eq];decide
theorem op_add_str:OpR X (binaryOp .Add) (λx y H Q=>∃i j,x = .str i/\y = .str j/\i.length + j.length<=sizeLine/\Q (.str (i++j)) H):=by
 intro pins s σ H x y v u Q I rx ry h;obtain ⟨i,j,rfl,rfl,hz,q⟩:=h;obtain ⟨t,rfl⟩:=rx;obtain ⟨t',rfl⟩:=ry;exact add_str (λt' tk=>⟨.str (i++j),H,I.tok _,⟨_,rfl⟩,q⟩) hz
theorem F5 {x:V}(r:Vals [x] us):∃u,us=[u]/\RelV x u:=by
 cases r with
 | cons r1 r2=>cases r2;exact ⟨_,rfl,r1⟩
theorem Hh {x y:V}(r:Vals [x,y] us):∃u w',us=[u,w']/\RelV x u/\RelV y w':=by
 cases r with
 | cons r1 r2=>
   cases r2 with
   | cons r3 r4=>cases r4;exact ⟨_,_,rfl,r1,r3⟩
theorem N3 (hc:X.calm=true):BY X (.builtin "min") (λxs H Q=>∃i j,xs=[.int i,.int j]/\Q (.int (if j < i then j else i)) H):=by
 intro pins s σ H xs us Q I r h;obtain ⟨i,j,rfl,q⟩:=h;obtain ⟨u,w',rfl,⟨t,rfl⟩,⟨t',rfl⟩⟩:=Hh r;refine min_two_ints (I.ok.hd hc) λh' tk k=>⟨_,H,I.kept k,?_,q⟩
 by_cases hj:j < i
 ·rw [if_pos hj,if_pos hj];exact ⟨_,rfl⟩
 ·rw [if_neg hj,if_neg hj];exact ⟨_,rfl⟩
theorem N0:BY X (.type "int") (λxs H Q=>(∃i,xs=[.int i]/\Q (.int i) H)\/∃k,xs=[.bl k]/\Q (.int (if k then 1 else 0)) H):=by
 intro pins s σ H xs us Q I r h;rcases h with ⟨i,rfl,q⟩ | ⟨k,rfl,q⟩
 ·obtain ⟨u,rfl,t,rfl⟩:=F5 r;exact call_int_int ⟨.int i,H,I,⟨_,rfl⟩,q⟩
 ·obtain ⟨u,rfl,r1⟩:=F5 r
  cases r1
  exact call_int_bool ⟨.int (if k then 1 else 0),H,I.tok _,⟨_,rfl⟩,q⟩
theorem Qa:BY X (.builtin "ord") (λxs H Q=>∃x,xs=[.str x]/\x.length=1/\Q (.int (x.cps.getD 0 0:Nat)) H):=by
 intro pins s σ H xs us Q I r h;obtain ⟨x,rfl,hz,q⟩:=h;obtain ⟨u,rfl,t,rfl⟩:=F5 r;exact ord_of_one hz ⟨.int _,H,I.tok _,⟨_,rfl⟩,q⟩
def Ve (K:PySem.W.Frag)(x:V)(H:Hp)(n:Nat):Prop:=
 match x with
 | .str y=>y.length<=sizeLine/\n=y.length
 | .byt y=>y.size<=sizeLine/\n=y.size
 | .ref p=>(∃xs,SqL K H p xs/\n=xs.length)\/∃xs,SqT K H p xs/\n=xs.length
 | _=>False
theorem P9:BY X (.builtin "len") (λxs H Q=>∃x n,xs=[x]/\Ve X.K x H n/\Q (.int n) H):=by
 intro pins s σ H xs us Q I r h;obtain ⟨x,n,rfl,e,q⟩:=h;obtain ⟨u,rfl,rx⟩:=F5 r;have hl:=Gs;have hs:sizeLine=16777216:=sizeLine_eq
 cases x with
 | str y=>
   obtain ⟨t,rfl⟩:=rx;obtain ⟨hy,e'⟩:y.length<=sizeLine/\n=y.length:=e;subst e';exact len_str (by lia) ⟨.int _,H,I.tok _,⟨_,rfl⟩,q⟩
 | byt y=>
   obtain ⟨t,rfl⟩:=rx;obtain ⟨hy,e'⟩:y.size<=sizeLine/\n=y.size:=e;subst e';exact PySem.W.len_bytes (by lia) ⟨.int _,H,I.tok _,⟨_,rfl⟩,q⟩
 | ref p=>
   cases rx
   have e':(∃xs,SqL X.K H p xs/\n=xs.length)\/∃xs,SqT X.K H p xs/\n=xs.length:=e;rcases e' with ⟨xs,hx,e'⟩ | ⟨xs,hx,e'⟩
   ·subst e';obtain ⟨its,r',pl,hz⟩:=I.list hx;have hlen:=r'.length;exact Calls.call_len_list pl.isList (by simp only [List.size_toArray];lia) ⟨.int xs.length,H,I.tok _,⟨_,by simp only [List.size_toArray];rw [hlen]⟩,q⟩
   ·subst e';obtain ⟨its,r',pl,hz⟩:=I.tuple hx;have hlen:=r'.length;exact len_tuple pl (by simp only [List.size_toArray];lia) ⟨.int xs.length,H,I.tok _,⟨_,by simp only [List.size_toArray];rw [hlen]⟩,q⟩
 | _=>exact (show False from e).elim
end
structure ObjM (h:Heap)(x dx C:Addr)(mA:Str->Option Value):Prop where
 obj:h.get? x=some (PySem.W.instObj C dx)
 ns:h.Ns1 dx mA
 ne:dx≠x
theorem Gu {dx:Addr}{mA:Str->Option Value}(n:h.Ns1 dx mA):∃od,h.get? dx=some od/\∀name,PySem.W.lookIn name od=some (mA name):=by
 obtain ⟨o,es,ep,ho,hd,hk,_,hm⟩:=n;refine ⟨o,ho,λname=>?_⟩;have e:=hm name;unfold nsFind findBy at e;rw [<-Array.find?_toList] at e;unfold PySem.W.lookIn;rw [hd];dsimp only
 split
 ·rename_i y q;rw [q] at e;exact congrArg some e
 ·rename_i q;rw [q] at e;have a:es.toList.any (·.refKey)=false:=by
   rw [List.any_eq_false];intro y hy;obtain ⟨z,t,hkey⟩:=hk y (Array.mem_toList_iff.mp hy);simp [DictEntry.refKey,hkey]
  have a':¬es.toList.any (·.refKey)=true:=by rw [a];exact Bool.false_ne_true
  rw [if_neg a'];exact congrArg some e
variable {C:Addr}
theorem ObjM.look {x dx:Addr}{mA:Str->Option Value}(I:ObjM h x dx C mA):∃od,PySem.W.InstAt h x (PySem.W.instObj C dx) C (some od)/\∀name,PySem.W.lookIn name od=some (mA name):=
 let ⟨od,ho,hl⟩:=Gu I.ns
 ⟨od,⟨I.obj,rfl,rfl,ho⟩,hl⟩
section
variable {prog:Program}{w:World}{A:Around}{E:Value->Shared->Prop}{s:Shared}{K:PySem.W.Frag}{x dx C f:Addr}{mA:Str->Option Value}{name:Str}{v:Value}
end
theorem RelO.some_of {o:Option Value}(r:RelO (some v) o):∃u,o=some u/\RelV v u:=by
 cases o with
 | none=>exact (show False from r).elim
 | some u=>exact ⟨u,rfl,r⟩
theorem OA (r:RelV v u):PySem.W.handedIn u=true:=by
 cases v with
 | non=>cases (show u=Value.none from r);rfl
 | bl b=>cases (show u=Value.bool b from r);rfl
 | int i=>obtain ⟨t,e⟩:=(show ∃t,u=Value.int i t from r);cases e;rfl
 | str x=>obtain ⟨t,e⟩:=(show ∃t,u=Value.str x t from r);cases e;rfl
 | byt b=>obtain ⟨t,e⟩:=(show ∃t,u=Value.bytes b t from r);cases e;rfl
 | flt b=>obtain ⟨t,e⟩:=(show ∃t,u=Value.float b t from r);cases e;rfl
 | ref a=>cases (show u=Value.ref a from r);rfl
 | ty n=>cases (show u=Value.type n from r);rfl
section
variable {P:Program}{w:World}{H H':Hp}{h h':Heap}{a C dx:Addr}{fs fs':List (Str×V)}
theorem Ty (hok:HOk P w H h)(e:H a=some (.ins C dx fs)):∃mA,ObjM h a dx C mA/\(∀f,RelO (fs.lookup f) (mA f))/\PySem.Within mA (fs.map (·.1))/\fs.length<=1000/\H dx=some (.own a):=by
 obtain ⟨d,z,ne,ob,mA,n,r,q⟩:=(show ObjOk P w H h a (.ins C dx fs) from hok a _ e);exact ⟨mA,⟨ob,n,ne⟩,r,q,z,d⟩
end
structure Cls (K:PySem.W.Frag)(C:Addr):Prop where
 pg:PySem.W.plainGet K C Str.empty=true
 hd:PySem.W.hasDictIn K C=true
 po:PySem.W.plainOver K C=true
 sa:PySem.W.findIn K (.ref C) "__setattr__" = some (some (.builtin "object.__setattr__"))
theorem Cls.get (c:Cls K C)(f:Str):PySem.W.plainGet K C f=true:=c.pg
structure Con (K:PySem.W.Frag)(C:Addr)(f:Str)(v:V)(u:Value):Prop where
 at_:PySem.W.findIn K (.ref C) f=some (some u)
 rel:RelV v u
 get:PySem.W.specialIn K u "__get__" = some none
 cp:PySem.W.copiedNames.contains f=false
structure Meth (K:PySem.W.Frag)(C:Addr)(m:Str)(f:Addr):Prop where
 at_:PySem.W.findIn K (.ref C) m=some (some (.ref f))
 fn:PySem.W.isFn K (.ref f)=true
 kp:PySem.W.keepIn K (.ref f)=true
section
variable {X:Cx}{pins:List (Addr×Obj)}{σ:St}{H:Hp}{s:Shared}{a C dx:Addr}{fs:List (Str×V)}{f:Str}{v:V}{A:Around}{E:Value->Shared->Prop}
theorem SH {prog:Program}{env:Env}{f:Str}{pos:Pos}{s:Shared}{Q:Value->Shared->Prop}(hb:attributeBase e f env (eval e env)=eval e env)
 (h:wpAny (model prog w) A (eval e env) (λo s₁=>wpAny (model prog w) A (getAttr o f true) Q E s₁) E s):wpAny (model prog w) A (eval (.Attribute e f pos) env) Q E s:=
 Attribute_any_ h (by rw [arm_eval_Attribute,hb])
end
section
variable {X:Cx}{o e value:Expr}{f:Str}{pos pos' tpos:Pos}{ta tv:TE}
end
section
variable {X:Cx}{pins:List (Addr×Obj)}{σ:St}{H:Hp}{s:Shared}{A:Around}{E:Value->Shared->Prop}{Q:Value->Shared->Prop}{c:Value}{b:Bool}
inductive TyOf (K:PySem.W.Frag)(H:Hp):V->Value->Prop where
 | non:TyOf K H .non (.type "NoneType")
 | bl (x:Bool):TyOf K H (.bl x) (.type "bool")
 | int (i:Int):TyOf K H (.int i) (.type "int")
 | str (x:Str):TyOf K H (.str x) (.type "str")
 | flt (x:UInt64):TyOf K H (.flt x) (.type "float")
 | lst {a:Addr} {xs:List V} (e:H a=some (.lst xs)):TyOf K H (.ref a) (.type "list")
 | frz {a:Addr} {o:Obj} {xs:List V} (e:H a=some (.frz o (.lst xs))):TyOf K H (.ref a) (.type "list")
 | tup {a:Addr} {xs:List V} (e:H a=some (.tup xs)):TyOf K H (.ref a) (.type "tuple")
 | dK {a:Addr} {kvs:List (Key×V)} (e:H a=some (.dK kvs)):TyOf K H (.ref a) (.type "dict")
 | dT {a:Addr} {kvs:List (List Key×V)} (e:H a=some (.dT kvs)):TyOf K H (.ref a) (.type "dict")
 | ins {a C dx:Addr} {fs:List (Str×V)} (e:H a=some (.ins C dx fs)) (cl:Cls K C) (ha:PySem.W.findIn K (.ref C) "__class__" = some (some (.builtin "object.__class__")))
    (hn:PySem.W.specialIn K (.builtin "object.__class__") "__get__" = some (some (.builtin "getset_descriptor.__get__"))) (htk:PySem.W.takesIn K (.builtin "object.__class__")=some true)
    (hm:PySem.W.mroIn K C (.type "object")=some true):TyOf K H (.ref a) (.ref C)
theorem JJ {x:V}{t:Value}(I:Inv X pins σ H s)(rx:RelV x u)(ty:TyOf X.K H x t)(e:PySem.W.kitOne X.K t c=some b)(h:∀tk,Q (.bool b) { s with toks:=tk }) :
 wpAny (model X.prog X.w) A (call (.builtin "isinstance") [u,c]) Q E s:=by
 cases ty with
 | non=>cases (show u=Value.none from rx);exact PySem.W.kia_one PySem.W.kitx_none I.kIn True.intro e (λz=>nomatch z) h
 | bl y=>cases (show u=Value.bool y from rx);exact PySem.W.kia_one PySem.W.kitx_bool I.kIn True.intro e (λz=>nomatch z) h
 | int i=>obtain ⟨t,q⟩:=(show ∃t,u=Value.int i t from rx);cases q;exact PySem.W.kia_one PySem.W.kitx_int I.kIn True.intro e (λz=>nomatch z) h
 | str y=>obtain ⟨t,q⟩:=(show ∃t,u=Value.str y t from rx);cases q;exact PySem.W.kia_one PySem.W.kitx_str I.kIn True.intro e (λz=>nomatch z) h
 | flt y=>obtain ⟨t,q⟩:=(show ∃t,u=Value.float y t from rx);cases q;exact PySem.W.kia_one PySem.W.kitx_float I.kIn True.intro e (λz=>nomatch z) h
 | @lst a xs ea=>
   cases (show u=Value.ref a from rx)
   obtain ⟨_,_,n,_,h1⟩:=(show ObjOk X.prog X.w H s.heap a (.lst xs) from I.hok a _ ea);exact PySem.W.kia_one PySem.W.kitx_list I.kIn ⟨_,h1,rfl⟩ e (λz=>nomatch z) h
 | @frz a ob xs ea=>
   cases (show u=Value.ref a from rx)
   obtain ⟨_,_,_,n,_,h1⟩:=(show ObjOk X.prog X.w H s.heap a (.frz ob (.lst xs)) from I.hok a _ ea);exact PySem.W.kia_one PySem.W.kitx_list I.kIn ⟨_,h1,rfl⟩ e (λz=>nomatch z) h
 | @tup a xs ea=>
   cases (show u=Value.ref a from rx)
   obtain ⟨_,_,_,p⟩:=(show ObjOk X.prog X.w H s.heap a (.tup xs) from I.hok a _ ea);obtain ⟨o,h1,h2,_⟩:=p;exact PySem.W.kia_one PySem.W.kitx_tuple I.kIn ⟨o,h1,h2⟩ e (λz=>nomatch z) h
 | @dK a kvs ea=>
   cases (show u=Value.ref a from rx)
   obtain ⟨_,_,vs,_,p⟩:=(show ObjOk X.prog X.w H s.heap a (.dK kvs) from I.hok a _ ea);obtain ⟨o,es,ep,h1,h2,_⟩:=p;exact PySem.W.kia_one PySem.W.kitx_dict I.kIn ⟨o,h1,h2.1⟩ e (λz=>nomatch z) h
 | @dT a kvs ea=>
   cases (show u=Value.ref a from rx)
   obtain ⟨_,_,xs,_,o,es,ep,h1,h2,_⟩:=(show ObjOk X.prog X.w H s.heap a (.dT kvs) from I.hok a _ ea);exact PySem.W.kia_one PySem.W.kitx_dict I.kIn ⟨o,h1,h2.1⟩ e (λz=>nomatch z) h
 | @ins a C dx fs ea cl ha hn htk hm=>
   cases (show u=Value.ref a from rx)
   obtain ⟨mA,O,_⟩:=Ty I.hok ea;obtain ⟨od,J,_⟩:=O.look;exact PySem.W.kia_one (PySem.W.kitx_own (cl.get _) cl.hd ha hn htk hm) I.kIn J e (λz=>nomatch z) h
end
structure Room (k:Nat)(A:Around):Prop where
 hd:A.handled=none
 dp:A.depth + 3 * k + 5 < recursionLimit
 un:A.units + 16 * k + 200 < cLine
theorem Room.mono {j k:Nat}{A:Around}(r:Room k A)(h:j<=k):Room j A:=⟨r.hd,by have:=r.dp;lia,by have:=r.un;lia⟩
theorem Room.deeper {k:Nat}{A:Around}(r:Room (k + 1) A)(env:Env):Room k (A.deeper env):=
 ⟨r.hd,by have:=r.dp;show A.depth + 1 + 3 * k + 5 < _;lia,by have:=r.un;show A.units + 3 + 16 * k + 200 < _;lia⟩
theorem Nf {A:Around}{kw:List (Str×Value)}:(A.under (.builtin "type.__call__" ⟨.ref C :: us,kw⟩)).depth=A.depth + 1:=by
 first | rfl | simp [Around.under,Code.weight,Code.isCreation,Code.isGuard,Code.isCaller,Code.frames,Code.isFrame,guardIds]
theorem Ng {A:Around}{kw:List (Str×Value)}:(A.under (.builtin "type.__call__" ⟨.ref C :: us,kw⟩)).units=A.units + 1:=by
 first | rfl | simp [Around.under,Code.cUnits,Code.frames,Code.isFrame]
theorem Room.make {k:Nat}{A:Around}(r:Room (k + 1) A)(C:Addr)(us:List Value)(kw:List (Str×Value)):Room k (A.under (.builtin "type.__call__" ⟨.ref C :: us,kw⟩)):=
 ⟨r.hd,by have:=r.dp;rw [Nf];lia,by have:=r.un;rw [Ng];lia⟩
theorem Room.depth {k:Nat}{A:Around}(r:Room k A):A.depth < recursionLimit:=by have:=r.dp;lia
theorem Room.units {k:Nat}{A:Around}(r:Room k A):A.units + 64 < cLine:=by have:=r.un;lia
def Xe:TA:=λ_ H Q=>Q [] H
def Ny (ta:TE)(tr:TA):TA:=λσ H Q=>ta σ H λx H1=>tr σ H1 λxs H2=>Q (x :: xs) H2
section
variable {X:Cx}{e:Expr}{es:List Expr}{te:TE}{t:TA}{pos:Pos}
theorem GD:PA X [] Xe:=λ_ _ _ _ H Q I h=>Calls.spliced_nil ⟨[],H,I,.nil,h⟩
theorem Dr (ha:PE X e te)(hr:PA X es t)(hs:starEach (e :: es) X.env=(false,eval e X.env) :: starEach es X.env:=by rfl):PA X (e :: es) (Ny te t):=by
 intro pos pins s σ H Q I h;rw [hs];show wpAny _ _ (spliced ((false,eval e X.env) :: backTo pos (starEach es X.env))) _ _ s;refine Calls.spliced_cons (thn (ha pins s σ H _ I h) λu s1 z9=>?_);obtain ⟨x,H1,I1,r1,q1⟩:=z9;exact thn (hr pos pins s1 σ H1 _ I1 q1) λus s2 ⟨xs,H2,I2,r2,q2⟩=>⟨x :: xs,H2,I2,.cons r1 r2,q2⟩
def Zl (t:TA):TE:=λσ H Q=>t σ H λxs H1=>xs.length<=sizeLine/\∀p,H1 p=none->Q (.ref p) (upd H1 p (.tup xs))
def Zg (t:TA):TE:=λσ H Q=>t σ H λxs H1=>xs.length<=sizeLine/\∀p,H1 p=none->Q (.ref p) (upd H1 p (.lst xs))
theorem O5 {x1}(h:PA X es t):PE X (.Tuple es x1 pos) (Zl t):=by
 intro pins s σ H Q I hq;refine wpAny_Tuple_spliced (thn (h pos pins s σ H _ I hq) λus s1 z9=>?_);obtain ⟨xs,H1,I1,r,z,q⟩:=z9;refine ⟨by rw [<-r.length];exact z,?_⟩;have hf:H1 s1.heap.objs.size=none:=I1.hok.fresh (Nat.le_refl _);refine ⟨.ref s1.heap.objs.size,upd H1 s1.heap.objs.size (.tup xs),I1.laid (t':=s1.toks) (λb u e=>Heap.get?_push_of_some _ e) (Nat.le_refl _) ?_,rfl,q _ hf⟩;exact ⟨z,us,r,⟨_,Heap.get?_push_size _ rfl,rfl,_,rfl⟩⟩
theorem WC (h:PA X es t):PE X (.List es pos) (Zg t):=by
 intro pins s σ H Q I hq;refine wpAny_List_spliced (thn (h pos pins s σ H _ I hq) λus s1 z9=>?_);obtain ⟨xs,H1,I1,r,z,q⟩:=z9;refine ⟨by rw [<-r.length];exact z,?_⟩;have hf:H1 s1.heap.objs.size=none:=I1.hok.fresh (Nat.le_refl _);refine ⟨.ref s1.heap.objs.size,upd H1 s1.heap.objs.size (.lst xs),I1.laid (t':=s1.toks) (λb u e=>Heap.get?_push_of_some _ e) (Nat.le_refl _) ?_,rfl,q _ hf⟩;exact ⟨z,us,0,r,Heap.get?_push_size _ rfl⟩
end
abbrev Sp:=List V->Hp->VK->XK->Prop
abbrev CXT:=List Env->Hp->Shared->XK->Value->Shared->Prop
structure Env0 (P:Program)(w:World)(K:PySem.W.Frag)(mg:Str->Option Value)(base:Heap)(A:Around)(outer:List Env)(s:Shared)(H:Hp):Prop where
 frames:A.frames=some outer
 mod:Mod K mg base
 bs:∀b o,base.get? b=some o->s.heap.get? b=some o/\H b=none
 bsz:base.objs.size<=s.heap.objs.size
 funs:s.heap.FunFrames base outer
 frf:∀b∈frs outer,H b=none
 hok:HOk P w H s.heap
 bare:AllBare s.gens
def CE (outer:List Env)(P:Program)(w:World)(H:Hp)(s:Shared)(Q:VK)(u:Value)(s':Shared):Prop:=
 ∃v H',s'.os=s.os/\AllBare s'.gens/\Un (frs outer) [] H H' s.heap s'.heap/\HOk P w H' s'.heap/\RelV v u/\Q v H'
def CR (CX:CXT)(outer:List Env)(P:Program)(w:World)(H:Hp)(s:Shared)(Q:VK)(E:XK)(r:Result)(s':Shared):Prop:=
 match r with
 | .ok (.ret u)=>CE outer P w H s Q u s'
 | .ok _=>False
 | .error e=>CX outer H s E e s'
structure FnOk (P:Program)(w:World)(K:PySem.W.Frag)(mg:Str->Option Value)(base:Heap)(CX:CXT)(k:Nat)(f:Addr)(fd:FuncData)(ps:List Str)(sp:Sp):Prop where
 len:∀vs H Q E,sp vs H Q E->vs.length=ps.length
 run:∀(A:Around) (outer:List Env) (s:Shared) (H:Hp) (args:Args) (us:List Value) (vs:List V) (Q:VK) (E:XK),Room k A->Env0 P w K mg base A outer s H->BindsTo s fd args (ps.zip us)->Vals vs us->sp vs H Q E->
  codeAny (model P w) A (.call (.ref f) args) (CR CX outer P w H s Q E) s
variable {mg:Str->Option Value}{base:Heap}
theorem Env0.make {A:Around}{outer:List Env}(e:Env0 P w K mg base A outer s H)(C:Addr)(us:List Value)(kw:List (Str×Value)) :
 Env0 P w K mg base (A.under (.builtin "type.__call__" ⟨.ref C :: us,kw⟩)) outer s H:=⟨by first | exact e.frames | (simpa [Around.under,Code.envs,Code.isFrame,pushEnvs] using e.frames),e.mod,e.bs,e.bsz,e.funs,e.frf,e.hok,e.bare⟩
section
variable {X:Cx}{pins:List (Addr×Obj)}{σ:St}{H:Hp}{s s':Shared}
theorem Inv.env0 (I:Inv X pins σ H s):Env0 X.prog X.w X.K X.mg X.base X.A X.stack s H:=
 ⟨I.ok.frames,I.ok.mod,I.bs,Nat.le_trans I.ok.bsz I.sz,I.stack,I.stkFree,I.hok,I.bare⟩
theorem Inv.after {Q:VK}(I:Inv X pins σ H s)(h:CE X.stack X.prog X.w H s Q u s'):EP X pins σ Q u s':=by
 obtain ⟨v,H',os,bare,un,hok,r,q⟩:=h;obtain ⟨hh,g,d,t,os'⟩:=s';obtain rfl:os'=s.os:=os;exact ⟨v,H',I.call (h':=hh) (g':=g) (d':=d) (t':=t) (ch:=[]) un hok bare (λb z=>absurd z (by simp)),r,q⟩
end
def X4 (sp:Sp)(dvs:List V)(E:XK)(t:TA):TE:=λσ H Q=>t σ H λvs H1=>sp (vs++dvs) H1 Q E
def Binds (K:PySem.W.Frag)(fd:FuncData)(ps:List Str)(ds:List Value):Prop:=
 ∀(s:Shared) (us:List Value),K.In s.heap->(us++ds).length=ps.length->BindsTo s fd ⟨us,[]⟩ (ps.zip (us++ds))
theorem Binds.all {fd:FuncData}{ps:List Str}(h:∀us:List Value,us.length=ps.length->bindArgs fd ⟨us,[]⟩=pure (ps.zip us)):Binds K fd ps []:=λs us _ hl=>by
 rw [List.append_nil] at hl ⊢;exact .of_eq (h us hl)
def Kg (CX:CXT)(X:Cx)(E:XK):Prop:=∀(pins:List (Addr×Obj)) (σ:St) (H:Hp) (s:Shared) (e:Value) (s':Shared),Inv X pins σ H s->CX X.stack H s E e s'->X.xe e s'
section
variable {X:Cx}{CX:CXT}{k:Nat}{f C:Addr}{fd:FuncData}{ps:List Str}{sp:Sp}{dvs:List V}{ds:List Value}{E:XK}{x m:Str}{p pos apos:Pos}{e o:Expr}{es:List Expr}{ta:TE}{t:TA}
theorem W2 {Q:VK}{vs:List V}(F:FnOk X.prog X.w X.K X.mg X.base CX k f fd ps sp)(hr:Room k X.A)(hb:Binds X.K fd ps ds)(hd:Vals dvs ds)(hx:Kg CX X E)
 (I:Inv X pins σ H s) (r:Vals vs us) (h:sp (vs++dvs) H Q E):wpAny (model X.prog X.w) X.A (call (.ref f) us) (EP X pins σ Q) X.xe s:=by
 have r2:Vals (vs++dvs) (us++ds):=r.append hd;have hl:(us++ds).length=ps.length:=by rw [<-r2.length];exact F.len _ _ _ _ h
 refine wpAny_call (codeAny_mono (F.run X.A X.stack s H ⟨us,[]⟩ (us++ds) (vs++dvs) Q E hr I.env0 (hb s us I.kIn hl) r2 h) λr s' hq=>?_)
 cases r with
 | error e=>exact hx pins σ H s e s' I hq
 | ok fl=>
   cases fl with
   | ret u=>exact I.after hq
   | next=>exact False.elim hq
   | brk=>exact False.elim hq
   | cont=>exact False.elim hq
theorem Mr (F:FnOk X.prog X.w X.K X.mg X.base CX k f fd ps sp)(hr:Room k X.A)(hg:Gl X x)(hm:X.mg x=some (.ref f))(hk:PySem.W.keepIn X.K (.ref f)=true)(hb:Binds X.K fd ps ds)(hd:Vals dvs ds)(hx:Kg CX X E)
 (ha:PA X (e :: es) t) (hdb:(x == ("__debug__" : Str))=false:=by decide) (he:starEach (e :: es) X.env=(false,eval e X.env) :: starEach es X.env:=by rfl) (hpl:(backTo pos (starEach es X.env)).any (·.1)=false:=by rfl) :
 PE X (.Call (.Name x p) (e :: es) [] pos) (X4 sp dvs E t):=by
 intro pins s σ H Q I h;refine wpAny_Call_Name_kw (Fr I hg hm ?_ hdb);refine PySem.W.callWith_K (h₀:=X.base) I.ok.mod.kin hk (thn (ha pos pins s σ H _ I h) λus s1 z9=>?_) he hpl;obtain ⟨vs,H1,I1,r,q⟩:=z9;refine ⟨I1.kIn,?_⟩;exact W2 F hr hb hd hx I1 r q
structure Mk (K:PySem.W.Frag)(C f:Addr):Prop where
 makes:PySem.W.makesIn K C=true
 init:PySem.W.findIn K (.ref C) "__init__" = some (some (.ref f))
 fn:PySem.W.isFn K (.ref f)=true
 kp:PySem.W.keepIn K (.ref C)=true
end
section
variable {X:Cx}{CX:CXT}{k:Nat}{f C:Addr}{fd:FuncData}{ps ks:List Str}{sp:Sp}{E:XK}{x m:Str}{p pos apos kpos:Pos}{e o:Expr}{es:List Expr}{kws:List Keyword}{te ta:TE}{t tk:TA}{nm:Option Str}
structure KBinds (K:PySem.W.Frag)(fd:FuncData)(ps ks:List Str)(g:List Value->List Value->List Value)(gV:List V->List V->List V):Prop where
 to:∀(s:Shared) (us ws:List Value),K.In s.heap->(g us ws).length=ps.length->BindsTo s fd ⟨us,ks.zip ws⟩ (ps.zip (g us ws))
 rel:∀{vs:List V} {us:List Value} {zs:List V} {ws:List Value},Vals vs us->Vals zs ws->Vals (gV vs zs) (g us ws)
variable {g:List Value->List Value->List Value}{gV:List V->List V->List V}
end
structure FnScope (N P:List Str)(sc:Scope):Prop where
 kind:sc.kind = .function
 co:sc.isCoroutine=false
 gen:sc.isGenerator=false
 nd:N.Nodup
 pre:N.take P.length=P
 par:∀x∈P,sc.names.lookup x=some .local\/sc.names.lookup x=some .cell
 nofree:∀y∈sc.names,y.2≠.free
theorem JA {kindOf:Str->Option NameKind}{x:Str}:∀{binds:List (Str×Value)} {m:Str->Option Value},(∀v,(x,v)∉binds)->bindL kindOf binds m x=m x
 | [],_,_=>rfl
 | (n,v) :: r,m,h=>by
   unfold bindL;rw [JA λw hw=>h w (List.mem_cons_of_mem _ hw)]
   split
   ·have:x≠n:=by rintro rfl;exact h v List.mem_cons_self
    simp [this]
   ·rfl
theorem Jy {kindOf:Str->Option NameKind}{x:Str}:∀{binds:List (Str×Value)} {m:Str->Option Value},(∀v,(x,v)∉binds)->bindC kindOf binds m x=m x
 | [],_,_=>rfl
 | (n,v) :: r,m,h=>by
   unfold bindC;rw [Jy λw hw=>h w (List.mem_cons_of_mem _ hw)]
   split
   ·rfl
   ·have:x≠n:=by rintro rfl;exact h v List.mem_cons_self
    simp [this]
theorem Jz {kindOf:Str->Option NameKind}{x:Str}{v:Value}:∀{P:List Str} {vs:List Value} {i:Nat} {m:Str->Option Value},P.Nodup->P[i]?=some x->vs[i]?=some v->kindOf x=some .local->
 bindL kindOf (P.zip vs) m x=some v
 | [],_,_,_,_,h,_,_=>by simp at h
 | _ :: _,[],_,_,_,_,h,_=>by simp at h
 | p :: P,w :: vs,0,m,nd,h1,h2,hk=>by
   simp at h1 h2;subst h1;subst h2;show bindL kindOf ((p,w) :: P.zip vs) m p=_;unfold bindL;rw [JA λv hv=>(List.nodup_cons.mp nd).1 (List.of_mem_zip hv).1,if_pos hk];simp
 | p :: P,w :: vs,i + 1,m,nd,h1,h2,hk=>by
   show bindL kindOf ((p,w) :: P.zip vs) m x=_;unfold bindL;exact Jz (i:=i) (List.nodup_cons.mp nd).2 (by simpa using h1) (by simpa using h2) hk
theorem Jx {kindOf:Str->Option NameKind}{x:Str}{v:Value}:∀{P:List Str} {vs:List Value} {i:Nat} {m:Str->Option Value},P.Nodup->P[i]?=some x->vs[i]?=some v->kindOf x≠some .local->
 bindC kindOf (P.zip vs) m x=some v
 | [],_,_,_,_,h,_,_=>by simp at h
 | _ :: _,[],_,_,_,_,h,_=>by simp at h
 | p :: P,w :: vs,0,m,nd,h1,h2,hk=>by
   simp at h1 h2;subst h1;subst h2;show bindC kindOf ((p,w) :: P.zip vs) m p=_;unfold bindC;rw [Jy λv hv=>(List.nodup_cons.mp nd).1 (List.of_mem_zip hv).1,if_neg hk];simp
 | p :: P,w :: vs,i + 1,m,nd,h1,h2,hk=>by
   show bindC kindOf ((p,w) :: P.zip vs) m x=_;unfold bindC;exact Jx (i:=i) (List.nodup_cons.mp nd).2 (by simpa using h1) (by simpa using h2) hk
noncomputable def start (N:List Str)(vs:List V):St:=vs.map some++List.replicate (N.length - vs.length) none
noncomputable def DP (CX:CXT)(P:Program)(w:World)(K:PySem.W.Frag)(mg:Str->Option Value)(base:Heap)(N:List Str)(qual:Str)(scope:Scope)(f:Addr)(cd:Value)(A:Around)(outer:List Env)(s:Shared)(H:Hp)(E:XK):Cx where
 prog:=P
 w:=w
 K:=K
 mg:=mg
 base:=base
 A:=A.deeper (envOfC qual scope s.heap.objs.size f cd)
 N:=N
 s₀:=s
 H₀:=H
 env:=envOfC qual scope s.heap.objs.size f cd
 outer:=outer
 stack:=envOfC qual scope s.heap.objs.size f cd :: outer
 ex:=[]
 calm:=true
 fn:=λ_=>true
 pn:=[]
 xe:=λe s'=>wpAny (model P w) (A.deeper (envOfC qual scope s.heap.objs.size f cd)) (leaving (envOfC qual scope s.heap.objs.size f cd) e) (λ_ s''=>CX outer H s E e s'') (λe' s''=>CX outer H s E e' s'') s'
theorem Kz {sc:Scope}{n:Nat}(h:sc.names.lookup x=some .cell):∃c,(cellsFrom n sc.names []).lookup x=some c:=by
 have q:=PySem.W.cellsFrom_some sc.names n [] (.inl h);exact Option.isSome_iff_exists.mp q
theorem OC {CX:CXT}{N ps:List Str}{qual:Str}{scope:Scope}{f:Addr}{cd:Value}{A:Around}{outer:List Env}{s1:Shared}{E:XK}{vs:List V}
 (S:FnScope N ps scope) (hd:A.handled=none) (e0:Env0 P w K mg base A outer s H) (hl:vs.length=ps.length) (r:Vals vs us)
 (x:InCallC s s.heap.objs.size (bindL (envOfC qual scope s.heap.objs.size f cd).kindOf (ps.zip us) λ_=>none) (cellsFrom (s.heap.objs.size + 1) scope.names []) (bindC (envOfC qual scope s.heap.objs.size f cd).kindOf (ps.zip us) λ_=>none) s1) :
 Inv (DP CX P w K mg base N qual scope f cd A outer s H E) [] (start N vs) H s1:=by
 have hpl:ps.length<=N.length:=by have:=congrArg List.length S.pre;rw [List.length_take] at this;lia
 obtain ⟨h1,tk,rfl,hk⟩:=x.done;have noA:∀b:Addr,b∉(DP CX P w K mg base N qual scope f cd A outer s H E).ex:=λb z=>absurd (show b∈([]:List Addr) from z) (by simp);refine ⟨⟨e0.mod,S.kind,rfl,rfl,Nat.le_refl _,λy z c h1 h2=>?_,λy hy=>?_,λy c _ h=>?_,λ_=>hd,Around.frames_deeper e0.frames,.inr ⟨rfl,rfl⟩,λb z=>absurd z (noA b),e0.bs,e0.bsz,λb _ _=>noA b,λb z=>absurd z (noA b),e0.funs,e0.frf⟩,
  rfl,e0.bare,Un.kept hk,⟨_,x.toInCall.ns,λi y v h1 h2 h3=>?_⟩,λy c h=>⟨_,x.cell y c h⟩,e0.hok.fresh (Nat.le_refl _),λy c h=>?_,λp hp=>absurd (show p∈([]:List (Addr×Obj)) from hp) (by simp),e0.hok.kept hk,?_⟩
 ·exact name_of_addr x.apart (PySem.mem_of_lookup h1) (PySem.mem_of_lookup h2)
 ·have hy:scope.names.lookup y=some .cell\/scope.names.lookup y=some .free:=hy;rcases hy with hy | hy
  ·exact Kz hy
  ·exact absurd rfl (S.nofree _ (PySem.mem_of_lookup hy))
 ·exact Nat.le_of_lt (x.above y c (PySem.mem_of_lookup h))
 ·have hi:i < vs.length:=by
   unfold start at h2
   by_cases hi:i < vs.length
   ·exact hi
   ·rw [List.getElem?_append_right (by simpa using hi)] at h2;rw [List.getElem?_replicate] at h2
    split at h2 <;> cases h2
  have ha:vs[i]?=some v:=by
   unfold start at h2;rw [List.getElem?_append_left (by simpa using hi),List.getElem?_map] at h2
   cases e:vs[i]? with
   | none=>rw [e] at h2;cases h2
   | some a=>rw [e] at h2;cases h2;rfl
  obtain ⟨u,hu,rv⟩:=r.get ha;have hp:ps[i]?=some y:=by
   rw [<-S.pre,List.getElem?_take_of_lt (by lia)];exact h1
  have ndP:ps.Nodup:=by rw [<-S.pre];exact S.nd.sublist (List.take_sublist _ _)
  refine ⟨u,rv,?_⟩;rcases S.par y (List.mem_of_getElem? hp) with k | k
  ·exact .inl ⟨k,Jz ndP hp hu k⟩
  ·obtain ⟨c,e⟩:=Kz (n:=s.heap.objs.size + 1) k;refine .inr ⟨.inl k,c,e,?_⟩;have q:=x.cell y c e;rw [Jx ndP hp hu (by show scope.names.lookup y≠_;rw [k];decide)] at q;exact q
 ·exact e0.hok.fresh (Nat.le_of_lt (x.above y c (PySem.mem_of_lookup h)))
 ·unfold start;show _=N.length;rw [List.length_append,List.length_map,List.length_replicate];lia
theorem R3 {CX:CXT}{k:Nat}{f:Addr}{name qual:Str}{params:Arguments}{body:List Stmt}{scope:Scope}{dV kV doc pm cdv ct oc:Value}{an od:Option Addr}
 {osl:Array (Option Value)} {N ps:List Str} {sp:Sp} (lk:K.lookup f=some ⟨oc,od,.func (PySem.W.fnOf name qual params body scope dV kV doc pm an cdv ct),osl⟩) (hcd:PySem.W.codeIn K cdv qual=true) (S:FnScope N ps scope)
 (len:∀vs H Q E,sp vs H Q E->vs.length=ps.length)
 (hbody:∀(A:Around) (outer:List Env) (s:Shared) (H:Hp) (vs:List V) (Q:VK) (E:XK),Room k (A.deeper (envOfC qual scope s.heap.objs.size f cdv))->sp vs H Q E->
   ∃t,PSs (DP CX P w K mg base N qual scope f cdv A outer s H E) body t/\t { nx:=λ_ H'=>Q .non H',rt:=Q } (start N vs) H) :
 FnOk P w K mg base CX (k + 1) f (PySem.W.fnOf name qual params body scope dV kV doc pm an cdv ct) ps sp:=by
 refine ⟨len,λA outer s H args us vs Q E hr e0 hb r hsp=>?_⟩;have hl:=len _ _ _ _ hsp;have KX:K.In s.heap:=e0.mod.kin.keeps λb o e=>(e0.bs b o e).1;have lim:s.heap.NoLimit:=e0.mod.nolimit.keeps λb o e=>(e0.bs b o e).1;have hkind:∀y∈ps.zip us,scope.names.lookup y.1=some .local\/(scope.names.lookup y.1=some .cell/\((cellsFrom (s.heap.objs.size + 1) scope.names []).lookup y.1).isSome=true):=λz9 hy=>by
  obtain ⟨n,v⟩:=z9;rcases S.par n (List.of_mem_zip hy).1 with q | q
  ·exact .inl q
  ·exact .inr ⟨q,PySem.W.cellsFrom_some _ _ _ (.inl q)⟩
 refine codeAny_call_function hr.depth (KX _ _ lk) rfl S.co S.gen rfl (PySem.W.codeRec_of KX hcd) (hb _ _ _ _ ?_);refine wpAny_newFunctionEnv_cells S.kind hkind λenv he s1 x=>?_;subst he;refine ⟨lim.keeps x.toInCall.keep,codeAny_func ?_⟩;obtain ⟨t,ht,hq⟩:=hbody A outer s H vs Q E (hr.deeper _) hsp;have I:Inv (DP CX P w K mg base N qual scope f cdv A outer s H E) [] (start N vs) H s1:=OC S hr.hd e0 hl r x;refine wpAny_mono (ht [] s1 (start N vs) H _ I hq) (λfl s' hs=>?_) λe s' hs=>hs;have fin:∀{σ':St} {H':Hp} {v:V} {u:Value},Inv (DP CX P w K mg base N qual scope f cdv A outer s H E) [] σ' H' s'->RelV v u->Q v H'->CE outer P w H s Q u s':=
  λ{σ' H' v u} J rv q=>⟨v,H',J.os,J.bare,J.base,J.hok,rv,q⟩
 cases fl with
 | ret u=>
   obtain ⟨v,σ',H',J,rv,q⟩:=hs;exact fin J rv q
 | next=>
   obtain ⟨σ',H',J,q⟩:=hs;exact fin (v:=V.non) (u:=Value.none) J rfl q
 | brk=>
   obtain ⟨_,_,_,q⟩:=hs;exact False.elim q
 | cont=>
   obtain ⟨_,_,_,q⟩:=hs;exact False.elim q
section
variable {X:Cx}{x:Str}{p pos:Pos}{e:Expr}{es:List Expr}{t:TA}{id T:String}{r:List V->Hp->VK->Prop}
def tCB (r:List V->Hp->VK->Prop)(t:TA):TE:=λσ H Q=>t σ H λvs H1=>r vs H1 Q
theorem FV (hc:BY X (.builtin id) r)(hg:Gl X x)(hm:X.mg x=none)(hv:bootBuiltins x=some (.builtin id))(ha:PA X (e :: es) t)(hn:x≠"__name__":=by decide)(hdb:(x == ("__debug__" : Str))=false:=by decide)
 (he:starEach (e :: es) X.env=(false,eval e X.env) :: starEach es X.env:=by rfl) (hpl:(backTo pos (starEach es X.env)).any (·.1)=false:=by rfl):PE X (.Call (.Name x p) (e :: es) [] pos) (tCB r t):=by
 intro pins s σ H Q I h;refine wpAny_Call_Name_kw (EL I hg hm hv ?_ hn hdb);exact PyProof.Rows.callWith_builtin1 (thn (ha pos pins s σ H _ I h) λus s1 z9=>by obtain ⟨vs,H1,I1,r1,q1⟩:=z9;exact hc pins s1 σ H1 vs us Q I1 r1 q1) he hpl
theorem JM (hc:BY X (.type T) r)(hg:Gl X x)(hm:X.mg x=none)(hv:bootBuiltins x=some (.type T))(ha:PA X (e :: es) t)(hn:x≠"__name__":=by decide)(hdb:(x == ("__debug__" : Str))=false:=by decide)
 (he:starEach (e :: es) X.env=(false,eval e X.env) :: starEach es X.env:=by rfl) (hpl:(backTo pos (starEach es X.env)).any (·.1)=false:=by rfl):PE X (.Call (.Name x p) (e :: es) [] pos) (tCB r t):=by
 intro pins s σ H Q I h;refine wpAny_Call_Name_kw (EL I hg hm hv ?_ hn hdb);exact PyProof.Rows.callWith_type1 (thn (ha pos pins s σ H _ I h) λus s1 z9=>by obtain ⟨vs,H1,I1,r1,q1⟩:=z9;exact hc pins s1 σ H1 vs us Q I1 r1 q1) he hpl
end
end L2
namespace HT
open PySem PyProof.Rows
section
open PySem.SeqAt
open PySem.AutoSeq1 (wpAny_loadPart')
open PySem.MeetsSeq PySem.MeetsSeq2 PySem.MeetsSeq3
end
section
variable {prog:Program}{w:World}{A:Around}{E:Value->Shared->Prop}{s:Shared}
theorem SL {t b:Addr}{vs ws:List Value}{Q:Value->Shared->Prop}(ht:IsTup s.heap t vs.toArray)(hb:IsTup s.heap b ws.toArray)(hv:vs≠[])
 (h1:ws=[]->Q (.ref t) s) (h2:ws≠[]->Q (.ref s.heap.objs.size) { s with heap:=s.heap.push { cls:=.type "tuple",data:=.seq (vs++ws).toArray } })
 (hsz:vs.length + ws.length<=sizeLine):wpAny (model prog w) A (binaryOp .Add (.ref t) (.ref b)) Q E s:=by
 obtain ⟨⟨cls,dd,data,sl⟩,ho,hc,n,hd⟩:=id ht;obtain ⟨⟨cls2,dd2,data2,sl2⟩,ho2,hc2,n2,hd2⟩:=id hb;simp only at hc hd hc2 hd2;subst hc hd hc2 hd2;have e:vs.toArray++ws.toArray=(vs++ws).toArray:=by simp
 by_cases hw:ws=[]
 ·exact concat_meets ⟨_,ho,rfl⟩ ⟨_,ho2,rfl⟩ noFill_tuple_add seq_tuple_add PySem.F.slot_tuple_add PySem.F.entry_tuple_add (PySem.F.args_tuple_add_2 _ _)
   (tuple_addW1 t b vs.toArray ws.toArray n n2 dd dd2 sl sl2 (by simpa using hv) (by simp [hw])) ⟨ho,ho2,h1 hw⟩
 ·refine concat_meets ⟨_,ho,rfl⟩ ⟨_,ho2,rfl⟩ noFill_tuple_add seq_tuple_add PySem.F.slot_tuple_add PySem.F.entry_tuple_add (PySem.F.args_tuple_add_2 _ _)
   (tuple_addW2 t b vs.toArray ws.toArray n n2 dd dd2 sl sl2 (by simpa using hv) (by simpa using hw) (by rw [List.size_toArray,List.size_toArray];exact hsz)) ⟨ho,ho2,?_⟩
  rw [e];exact h2 hw
noncomputable def sIx (n d:Nat):Option Int->Nat
 | none=>d
 | some v=>if v < 0 then (v + (n:Int)).toNat else min v.toNat n
theorem W4 (n d:Nat)(hd:d<=n)(o:Option Int):sIx n d o<=n:=by
 cases o with
 | none=>exact hd
 | some v=>
   show (if v < 0 then (v + (n:Int)).toNat else min v.toNat n)<=n
   by_cases hv:v < 0
   ·rw [if_pos hv];lia
   ·rw [if_neg hv];exact Nat.min_le_right _ _
theorem LX (v:Int)(n d:Nat):(if v < 0 then max (v + (n:Int)) 0 else min v (n:Int))=((sIx n d (some v):Nat):Int):=by
 show (if v < 0 then max (v + (n:Int)) 0 else min v (n:Int))=(((if v < 0 then (v + (n:Int)).toNat else min v.toNat n):Nat):Int)
 by_cases hv:v < 0
 ·simp only [if_pos hv];lia
 ·simp only [if_neg hv];lia
theorem MQ (lo hi:Option Int)(n:Nat):Builtin.Slice.sliceAdjust lo hi 1 (n:Int)=(((sIx n 0 lo:Nat):Int),((sIx n n hi:Nat):Int)):=by
 have h1:¬((1:Int) < 0):=by lia
 unfold Builtin.Slice.sliceAdjust;simp only [h1,if_false];refine Prod.ext ?_ ?_
 ·cases lo with
  | none=>rfl
  | some v=>exact LX v n 0
 ·cases hi with
  | none=>rfl
  | some v=>exact LX v n n
theorem Nm (i j:Nat):Builtin.Slice.slicePlaces (i:Int) (j:Int) 1=j - i:=by
 unfold Builtin.Slice.slicePlaces;have h1:(1:Int) > 0:=by lia
 simp only [h1,if_true,Int.ediv_one]
 split <;> lia
theorem IL {v:Value}{o:Option Int}{Q:Option Int->Shared->Prop}(p:IsPart v o)(h:Q o s):wpAny (model prog w) A (Builtin.Slice.slicePartIndex v) Q E s:=by
 cases p with
 | none=>exact slicePart_none h
 | int i t=>exact slicePart_int h
theorem EX {sl:Addr}{vl vu:Value}{lo hi:Option Int}{n:Nat}{Q:Int×Int×Nat->Shared->Prop}(hs:s.heap.IsSliceOf sl vl vu .none)(pl:IsPart vl lo)(pu:IsPart vu hi)
 (h:Q (((sIx n 0 lo:Nat):Int),1,sIx n n hi - sIx n 0 lo) s):wpAny (model prog w) A (Builtin.Slice.sliceApplied (.ref sl) (pure (n:Int))) Q E s:=by
 obtain ⟨os,hos,hcs,hds⟩:=id hs;unfold Builtin.Slice.sliceApplied Builtin.Slice.sliceFields;refine wpAny_bind (wpAny_bind (wpAny_field hos hds (x:=vl) rfl (wpAny_bind (wpAny_field hos hds (x:=vu) rfl (wpAny_bind (wpAny_field hos hds (x:=.none) rfl (wpAny_pure ?_)))))));refine wpAny_bind (slicePart_none ?_);show wpAny _ _ (if ((1:Int) == 0)=true then _ else _) _ _ s;rw [if_neg (by decide)];refine wpAny_bind (IL pl (wpAny_bind (IL pu (wpAny_bind (wpAny_pure ?_)))));show wpAny _ _ (match Builtin.Slice.sliceAdjust lo hi 1 (n:Int) with | (lo,hi)=>pure (lo,(1:Int),Builtin.Slice.slicePlaces lo hi 1)) _ _ s;rw [MQ lo hi n];show wpAny _ _ (pure (((sIx n 0 lo:Nat):Int),(1:Int),Builtin.Slice.slicePlaces ((sIx n 0 lo:Nat):Int) ((sIx n n hi:Nat):Int) 1)) _ _ s;rw [Nm];exact wpAny_pure h
theorem QY (xs:Array Value)(i k:Nat):((List.range k).filterMap λ(m:Nat)=>xs[((i:Int) + (m:Int) * 1).toNat]?).toArray=((xs.toList.drop i).take k).toArray:=by
 have e:(λ(m:Nat)=>xs[((i:Int) + (m:Int) * 1).toNat]?)=λm=>xs[i + m]?:=by
  funext m
  have:((i:Int) + (m:Int) * 1).toNat=i + m:=by lia
  rw [this]
 rw [e];have:=pick_run xs i k;rw [List.filterMap_map] at this;have e2:((λx=>xs[x]?) ∘ λx=>i + x)=λm=>xs[i + m]?:=rfl;rw [e2] at this;rw [this]
theorem Hm {t sl:Addr}{items:Array Value}{vl vu:Value}{lo hi:Option Int}{Q:Value->Shared->Prop}(ht:IsTup s.heap t items)(hs:s.heap.IsSliceOf sl vl vu .none)(pl:IsPart vl lo)(pu:IsPart vu hi)
 (hw:¬(sIx items.size 0 lo=0/\sIx items.size items.size hi=items.size))
 (h:Q (.ref s.heap.objs.size) { s with heap:=s.heap.push { cls:=.type "tuple",data:=.seq ((items.toList.drop (sIx items.size 0 lo)).take (sIx items.size items.size hi - sIx items.size 0 lo)).toArray } })
 (hsz:items.size<=sizeLine):wpAny (model prog w) A (getItem (.ref t) (.ref sl)) Q E s:=by
 have htake:sizeOk (.seq ((items.toList.drop (sIx items.size 0 lo)).take (sIx items.size items.size hi - sIx items.size 0 lo)).toArray):=by
  show ((items.toList.drop (sIx items.size 0 lo)).take (sIx items.size items.size hi - sIx items.size 0 lo)).toArray.size<=sizeLine;rw [List.size_toArray,List.length_take,List.length_drop,Array.length_toList];lia
 have hj:sIx items.size items.size hi<=items.size:=W4 _ _ (Nat.le_refl _) hi;obtain ⟨os,hos,hcs,hds⟩:=id hs;have hTs:s.TypeIs (.ref sl) "slice":=⟨os,hos,hcs⟩;unfold getItem
 try with_reducible refine wpAny_holding ?_
 first | refine wpAny_bind (wpAny_pure ?_) | skip
 refine wpAny_bind (wpAny_sequenceKey ht.typeIs (by decide) ?_);refine wpAny_bind (wpAny_callSpecial?_slot (name:=Str.ofString "__getitem__") ht.typeIs PyProof.Rows.slot_tuple_getitem
  (wpAny_call_entry PyProof.Rows.slot_tuple_getitem ht.typeIs entry_tuple_getitem ?_ (args_tuple_getitem _ _)))
 show wpAny _ _ (Builtin.Tuple.tupleItemsOf (.ref t) >>= _) _ _ s;refine wpAny_bind (tupleItemsOf_ ht ?_);refine wpAny_bind (wpAny_typeOf hTs ?_);rw [if_pos (by decide)];refine wpAny_bind (EX hs pl pu ?_);have hno:¬((((sIx items.size 0 lo:Nat):Int) == 0 && (1:Int) == 1 && (sIx items.size items.size hi - sIx items.size 0 lo) == items.size)=true):=by
  intro q;rw [Bool.and_eq_true,Bool.and_eq_true] at q;have q1:((sIx items.size 0 lo:Nat):Int)=0:=eq_of_beq q.1.1;have q2:sIx items.size items.size hi - sIx items.size 0 lo=items.size:=eq_of_beq q.2;exact hw ⟨by lia,by lia⟩
 show wpAny _ _ (if (((sIx items.size 0 lo:Nat):Int) == 0 && (1:Int) == 1 && (sIx items.size items.size hi - sIx items.size 0 lo) == items.size)=true then _ else _) _ _ s;rw [if_neg hno,QY]
 first
  | exact wpAny_bind (m:=Builtin.Tuple.tupleExact _) (wpAny_newObj_type (wpAny_pure ⟨_,rfl,wpAny_pure h⟩) htake)
  | exact wpAny_bind (m:=Builtin.Tuple.tupleExact _) (wpAny_newObj_type (wpAny_bind (wpAny_pure (wpAny_pure ⟨_,rfl,wpAny_pure h⟩))) htake)
  | exact wpAny_bind (wpAny_bind (m:=Builtin.Tuple.tupleExact _) (wpAny_newObj_type (wpAny_pure (wpAny_pure ⟨_,rfl,wpAny_pure h⟩)) htake))
  | exact wpAny_bind (wpAny_bind (m:=Builtin.Tuple.tupleExact _) (wpAny_newObj_type (wpAny_pure ⟨_,rfl,wpAny_pure h⟩) htake))
end
end HT
namespace L2
open PySem PySem.Spec PyProof.Rows
abbrev TO:=St->Hp->(Option Int->Hp->Prop)->Prop
def PO (X:Cx)(e:Option Expr)(t:TO):Prop:=
 ∀(pins:List (Addr×Obj)) (s:Shared) (σ:St) (H:Hp) (Q:Option Int->Hp->Prop),Inv X pins σ H s->t σ H Q->
  wpAny (model X.prog X.w) X.A (evalPart e X.env) (λu s'=>∃o H',Inv X pins σ H' s'/\IsPart u o/\Q o H') X.xe s
def US:TO:=λ_ H Q=>Q none H
def X9 (t:TE):TO:=λσ H Q=>t σ H λx H1=>∃i,x = .int i/\Q (some i) H1
section
variable {X:Cx}{e:Expr}{te:TE}{lo hi:Option Expr}{tl th:TO}{pos p2:Pos}
theorem Uk:PO X none US:=by
 intro pins s σ H Q I h;rw [evalPart_none];exact wpAny_pure ⟨none,H,I,.none,h⟩
theorem Ul (h:PE X e te):PO X (some e) (X9 te):=by
 intro pins s σ H Q I hw;rw [evalPart_some];refine thn (h pins s σ H _ I hw) λu s1 z9=>?_;obtain ⟨x,H1,I1,r1,q1⟩:=z9;obtain ⟨i,rfl,q⟩:=q1;obtain ⟨t,rfl⟩:=r1;exact ⟨some i,H1,I1,.int i t,q⟩
def SlR (X:Cx)(r:V->Option Int->Option Int->Hp->VK->Prop):Prop:=
 ∀(pins:List (Addr×Obj)) (s:Shared) (σ:St) (H:Hp) (x:V) (v vl vu:Value) (lo hi:Option Int) (sl:Addr) (Q:VK),Inv X pins σ H s->RelV x v->s.heap.IsSliceOf sl vl vu .none->IsPart vl lo->IsPart vu hi->r x lo hi H Q->
  ∃T id,typeLookup (.type T) "__getitem__" = pure (some (.builtin id))/\s.TypeIs v T/\wpAny (model X.prog X.w) X.A (getItem v (.ref sl)) (EP X pins σ Q) X.xe s
theorem SlR.or {r r':V->Option Int->Option Int->Hp->VK->Prop}(h:SlR X r)(h':SlR X r'):SlR X (λx lo hi H Q=>r x lo hi H Q\/r' x lo hi H Q):=by
 intro pins s σ H x v vl vu lo hi sl Q I rx hs pl pu q;rcases q with q | q
 ·exact h pins s σ H x v vl vu lo hi sl Q I rx hs pl pu q
 ·exact h' pins s σ H x v vl vu lo hi sl Q I rx hs pl pu q
def tSl (r:V->Option Int->Option Int->Hp->VK->Prop)(te:TE)(tl th:TO):TE:=λσ H Q=>te σ H λx H1=>tl σ H1 λl H2=>th σ H2 λu H3=>r x l u H3 Q
theorem QV {r:V->Option Int->Option Int->Hp->VK->Prop}(hr:SlR X r)(he:PE X e te)(hl:PO X lo tl)(hu:PO X hi th):PE X (.Subscript e (.Slice lo hi none p2) pos) (tSl r te tl th):=by
 intro pins s σ H Q I h;refine Subscript_ (thn (he pins s σ H _ I h) λv s1 z9=>?_);obtain ⟨x,H1,I1,r1,q1⟩:=z9;refine wpAny_Slice (thn (hl pins s1 σ H1 _ I1 q1) λvl s2 ⟨l,H2,I2,pl,q2⟩=>thn (hu pins s2 σ H2 _ I2 q2) λvu s3 z9=>?_);obtain ⟨u,H3,I3,pu,q3⟩:=z9;rw [evalPart_none];refine wpAny_pure ?_;have I4:Inv X pins σ H3 { s3 with heap:=s3.heap.push { cls:=.type "slice",data:=.fields #[vl,vu,.none] } }:=I3.kept (t':=s3.toks) λb ob q=>Heap.get?_push_of_some _ q;obtain ⟨T,id,hT,ht,hg⟩:=hr pins { s3 with heap:=s3.heap.push { cls:=.type "slice",data:=.fields #[vl,vu,.none] } } σ H3 x v vl vu l u s3.heap.objs.size Q I4 r1 (Heap.IsSliceOf.new ..) pl pu q3;show wpAny (model X.prog X.w) X.A (subscriptTail e (.Slice lo hi none p2) v (.ref s3.heap.objs.size)) (EP X pins σ Q) X.xe { s3 with heap:=s3.heap.push { cls:=.type "slice",data:=.fields #[vl,vu,.none] } };exact tail_any (ops:=[.ref s3.heap.objs.size,v]) ht hT hg (by with_unfolding_all rfl)
def FG (xs:List V)(lo hi:Option Int):List V:=(xs.drop (HT.sIx xs.length 0 lo)).take (HT.sIx xs.length xs.length hi - HT.sIx xs.length 0 lo)
theorem Hn (xs:List V)(lo hi:Option Int):(FG xs lo hi).length<=xs.length:=by
 unfold FG;rw [List.length_take,List.length_drop];lia
def W0 (K:PySem.W.Frag):V->Option Int->Option Int->Hp->VK->Prop:=λx lo hi H Q=>∃a xs,x = .ref a/\SqT K H a xs/\
 ¬(HT.sIx xs.length 0 lo=0/\HT.sIx xs.length xs.length hi=xs.length)/\∀p,H p=none->Q (.ref p) (upd H p (.tup (FG xs lo hi)))
theorem W9:SlR X (W0 X.K):=by
 intro pins s σ H x v vl vu lo hi sl Q I rx hs pl pu h;obtain ⟨a,xs,rfl,hx,hw,q⟩:=h
 cases rx
 obtain ⟨its,r,ht,hz⟩:=I.tuple hx;have hlen:its.toArray.size=xs.length:=by rw [List.size_toArray];exact r.length.symm
 refine ⟨"tuple",_,PyProof.Rows.slot_tuple_getitem.lookup,ht.typeIs,?_⟩;refine HT.Hm ht hs pl pu (by rw [hlen];exact hw) ?_ (by rw [hlen];exact hz);rw [hlen];refine ⟨.ref s.heap.objs.size,_,I.laid (t':=s.toks) (o:=.tup (FG xs lo hi)) (λb ob q=>Heap.get?_push_of_some _ q) (Nat.le_refl _) ?_,rfl,q _ (I.hok.fresh (Nat.le_refl _))⟩;exact ⟨Nat.le_trans (Hn xs lo hi) hz,_,(r.drop (HT.sIx xs.length 0 lo)).take (HT.sIx xs.length xs.length hi - HT.sIx xs.length 0 lo),IsTup.new _ _⟩
def Sg (K:PySem.W.Frag):R2:=λx y H Q=>∃a b xs ys,x = .ref a/\y = .ref b/\SqT K H a xs/\SqT K H b ys/\xs≠[]/\xs.length + ys.length<=sizeLine/\
 (ys=[]->Q (.ref a) H)/\(ys≠[]->∀p,H p=none->Q (.ref p) (upd H p (.tup (xs++ys))))
theorem Vals.nil_iff {xs:List V}{us:List Value}(r:Vals xs us):us=[]↔xs=[]:=by
 cases r with
 | nil=>simp
 | cons _ _=>simp
theorem T3:OpR X (binaryOp .Add) (Sg X.K):=by
 intro pins s σ H x y v u Q I rx ry h;obtain ⟨a,b,xs,ys,rfl,rfl,ha,hb,hx,hz,q1,q2⟩:=h
 cases rx
 cases ry
 obtain ⟨its,r1,p1,_⟩:=I.tuple ha;obtain ⟨its2,r2,p2,_⟩:=I.tuple hb;refine HT.SL p1 p2 (λz=>hx (r1.nil_iff.mp z)) (λz=>⟨.ref a,H,I,rfl,q1 (r2.nil_iff.mp z)⟩) (λz=>?_) (by rw [<-r1.length,<-r2.length];exact hz);refine ⟨.ref s.heap.objs.size,_,I.laid (t':=s.toks) (o:=.tup (xs++ys)) (λb ob q=>Heap.get?_push_of_some _ q) (Nat.le_refl _) ?_,rfl,q2 (λw=>z (r2.nil_iff.mpr w)) _ (I.hok.fresh (Nat.le_refl _))⟩;exact ⟨by rw [List.length_append];exact hz,_,r1.append r2,IsTup.new _ _⟩
end
noncomputable def ixN (n:Nat)(i:Int):Option Nat:=if 0<=i then (if i < n then some i.toNat else none) else if -(n:Int)<=i then some (i + n).toNat else none
def atI {α:Type}(xs:List α)(i:Int):Option α:=(ixN xs.length i).bind λj=>xs[j]?
variable {n:Nat}
theorem Mg {i:Int}{j:Nat}(h:ixN n i=some j):seqIndex? i n=some j/\j < n/\-(n:Int)<=i/\i < n:=by
 unfold ixN at h
 by_cases h0:0<=i
 ·rw [if_pos h0] at h
  by_cases h1:i < n
  ·rw [if_pos h1] at h;have e:i.toNat=j:=Option.some.inj h;exact ⟨by rw [seqIndex_of h0 h1,e],by lia,by lia,h1⟩
  ·rw [if_neg h1] at h;cases h
 ·rw [if_neg h0] at h
  by_cases h1 : -(n:Int)<=i
  ·rw [if_pos h1] at h;have e:(i + n).toNat=j:=Option.some.inj h;exact ⟨by rw [seqIndex_neg (by lia) h1,e],by lia,h1,by lia⟩
  ·rw [if_neg h1] at h;cases h
theorem IR {α:Type}{xs:List α}{i:Int}{v:α}(h:atI xs i=some v):∃j,seqIndex? i xs.length=some j/\xs[j]?=some v/\j < xs.length/\-(xs.length:Int)<=i/\i < xs.length:=by
 unfold atI at h
 cases e:ixN xs.length i with
 | none=>rw [e] at h;cases h
 | some j=>
   rw [e] at h;obtain ⟨h1,h2,h3,h4⟩:=Mg e;exact ⟨j,h1,h,h2,h3,h4⟩
def IP (b:Expr):Prop:=∀o i,subscripted b false o i=operate [o,i] (getItem o i)
def IxR (X:Cx)(r:R2):Prop:=
 ∀(value slice:Expr) (pins:List (Addr×Obj)) (s:Shared) (σ:St) (H:Hp) (x y:V) (v u:Value) (Q:VK),Inv X pins σ H s->RelV x v->RelV y u->r x y H Q->
  subscripted slice false v u=operate [v,u] (getItem v u)->wpAny (model X.prog X.w) X.A (subscriptTail value slice v u) (EP X pins σ Q) X.xe s
def MtR (X:Cx)(id:String)(r:V->List V->Hp->VK->Prop):Prop:=
 ∀(pins:List (Addr×Obj)) (s:Shared) (σ:St) (H:Hp) (x:V) (xs:List V) (v:Value) (us:List Value) (Q:VK),Inv X pins σ H s->RelV x v->Vals xs us->r x xs H Q->
  wpAny (model X.prog X.w) X.A (call (.builtin id) (v :: us)) (EP X pins σ Q) X.xe s
variable {s:Shared}{its:List Value}{x:V}
section
variable {X:Cx}{a b:Expr}{ta tb:TE}{pos:Pos}
theorem IxR.or {r r':R2}(h:IxR X r)(h':IxR X r'):IxR X (λx y H Q=>r x y H Q\/r' x y H Q):=by
 intro value slice pins s σ H x y v u Q I rx ry q hs;rcases q with q | q
 ·exact h value slice pins s σ H x y v u Q I rx ry q hs
 ·exact h' value slice pins s σ H x y v u Q I rx ry q hs
theorem Sc {r:R2}(hr:IxR X r)(ha:PE X a ta)(hb:PE X b tb)(hs:IP b):PE X (.Subscript a b pos) (tOp r ta tb):=by
 intro pins s σ H Q I h;exact Subscript_ (P5 ha hb I h λv u s2 x y H2 I2 rx ry q=>hr a b pins s2 σ H2 x y v u Q I2 rx ry q (hs _ _))
def WT (K:PySem.W.Frag):R2:=λx y H Q=>∃p xs i v,x = .ref p/\y = .int i/\SqL K H p xs/\atI xs i=some v/\Q v H
def WV (K:PySem.W.Frag):R2:=λx y H Q=>∃p xs i v,x = .ref p/\y = .int i/\SqT K H p xs/\atI xs i=some v/\Q v H
def WU:R2:=λx y H Q=>∃z i c,x = .str z/\y = .int i/\z.length<=sizeLine/\atI z.cps.toList i=some c/\Q (.str ⟨#[c]⟩) H
theorem ix_list:IxR X (WT X.K):=by
 intro value slice pins s σ H x y v u Q I rx ry h hs;obtain ⟨p,xs,i,z,rfl,rfl,hq,he,q⟩:=h
 cases rx
 obtain ⟨t,rfl⟩:=ry;obtain ⟨its,r,pl,hz⟩:=I.list hq;obtain ⟨j,h1,h2,h3,h4,h5⟩:=IR he;obtain ⟨w,ew,rw'⟩:=r.get h2;have hl:=r.length;have hn:=Gs;have fin:EP X pins σ Q w s:=⟨z,H,I,rw',q⟩
 by_cases h0:0<=i
 ·have hj:i.toNat=j:=by
   rw [seqIndex_of h0 h5] at h1;exact Option.some.inj h1
  exact item_listR pl.isList h0 (by lia) (by rw [hj];simpa using ew) fin hs
 ·have hj:(i + (its.toArray.size:Int)).toNat=j:=by
   rw [seqIndex_neg (by lia) h4] at h1;rw [List.size_toArray,<-hl];exact Option.some.inj h1
  exact subscriptTail_builtinR (x:=w) pl.isList.typeIs slot_list_getitem.lookup
   (wpAny_getItem_list_neg (Q:=λr s'=>r=w/\EP X pins σ Q r s') pl.isList (by lia) (by rw [List.size_toArray] <;> lia) (by lia) (by rw [hj];simpa using ew) ⟨rfl,fin⟩) hs
theorem ix_tup:IxR X (WV X.K):=by
 intro value slice pins s σ H x y v u Q I rx ry h hs;obtain ⟨p,xs,i,z,rfl,rfl,hq,he,q⟩:=h
 cases rx
 obtain ⟨t,rfl⟩:=ry;obtain ⟨its,r,pl,hz⟩:=I.tuple hq;obtain ⟨j,h1,h2,h3,h4,h5⟩:=IR he;obtain ⟨w,ew,rw'⟩:=r.get h2;have hl:=r.length;have hn:=Gs;have fin:EP X pins σ Q w s:=⟨z,H,I,rw',q⟩;exact subscriptTail_builtinR (x:=w) pl.typeIs slot_tuple_getitem.lookup
  (getItem_tuple (j:=j) (Q:=λr s'=>r=w/\EP X pins σ Q r s') pl (by lia) (by lia) (by rw [List.size_toArray,<-hl];exact h1) (by simpa using ew) ⟨rfl,fin⟩) hs
theorem V4:IxR X WU:=by
 intro value slice pins s σ H x y v u Q I rx ry h hs;obtain ⟨z,i,c,rfl,rfl,hz,he,q⟩:=h;obtain ⟨t,rfl⟩:=rx;obtain ⟨t',rfl⟩:=ry;obtain ⟨j,h1,h2,h3,h4,h5⟩:=IR he;have hl:z.cps.toList.length=z.length:=by simp [Str.length]
 rw [hl] at h1 h4 h5;have hn:=Gs;exact tail_any (typeIs_str s z t) slot_str_getitem.lookup (getItem_str (c:=c) (by
  have e1:decide (i < -(2 ^ 63:Int))=false:=decide_eq_false (by lia);have e2:decide (i ≥ 2 ^ 63)=false:=decide_eq_false (by lia);rw [e1,e2,Bool.or_false]) (by rw [h1];simpa using h2) ⟨.str ⟨#[c]⟩,H,I.tok _,⟨_,rfl⟩,q⟩) hs
def rIx (K:PySem.W.Frag):R2:=λx y H Q=>WT K x y H Q\/WV K x y H Q\/WU x y H Q
theorem V3:IxR X (rIx X.K):=ix_list.or (ix_tup.or V4)
theorem Nh (its:List Value)(n j:Nat)(u:Value):Obj.mapSeq (·.setIfInBounds j u) { cls:=.type "list",data:=.seq its.toArray n } = { cls:=.type "list",data:=.seq (its.set j u).toArray n }:=by
 simp [Obj.mapSeq]
theorem Inv.lst {pins:List (Addr×Obj)}{σ:St}{H:Hp}{s:Shared}{p:Addr}{xs:List V}(I:Inv X pins σ H s)(h:H p=some (.lst xs)) :
 ∃(its:List Value) (n:Nat),Vals xs its/\s.heap.get? p=some { cls:=.type "list",data:=.seq its.toArray n }/\xs.length<=sizeLine:=by
 obtain ⟨z,its,n,r,e⟩:=I.hok p _ h;exact ⟨its,n,r,e,z⟩
theorem Inv.lstUpd {pins:List (Addr×Obj)}{σ:St}{H:Hp}{p:Addr}{xs ys:List V}{its':List Value}{n':Nat}{f:Obj->Obj}(I:Inv X pins σ H s)(h:H p=some (.lst xs))
 (ho:s.heap.get? p=some { cls:=.type "list",data:=.seq its.toArray n }) (hf:f { cls:=.type "list",data:=.seq its.toArray n } = { cls:=.type "list",data:=.seq its'.toArray n' }) (r:Vals ys its') (hz:ys.length<=sizeLine) (t:Nat) :
 Inv X pins σ (upd H p (.lst ys)) { s with heap:=s.heap.update p f,toks:=t }:=by
 have e:(s.heap.update p f).get? p=some { cls:=.type "list",data:=.seq its'.toArray n' }:=by
  rw [Heap.get?_update_self f ho (by rw [hf] <;> rfl),hf]
 refine I.write (x:=p) (e:=p) (by rw [h];trivial) (.inl rfl) (λb u hb q=>(Heap.get?_update_other _ _ (Ne.symm hb)).trans q) ⟨_,e⟩ ?_;exact ⟨hz,its',n',r,e⟩
def XX:V->V->V->Hp->(Hp->Prop)->Prop:=λo i v H Q=>∃p xs k j,o = .ref p/\i = .int k/\H p=some (.lst xs)/\ixN xs.length k=some j/\Q (upd H p (.lst (xs.set j v)))
theorem Lv:P0 X XX:=by
 intro pins s σ H o i v ov iv u Q I ro ri rv h;obtain ⟨p,xs,k,j,rfl,rfl,hp,hj,q⟩:=h
 cases ro
 obtain ⟨t,rfl⟩:=ri;obtain ⟨its,n,r,ho,hz⟩:=I.lst hp;obtain ⟨h1,h2,h3,h4⟩:=Mg hj;have hl:=r.length;have hn:=Gs;have I':Inv X pins σ (upd H p (.lst (xs.set j v))) { s with heap:=s.heap.update p (Obj.mapSeq (·.setIfInBounds j u)) }:=
  I.lstUpd hp ho (Nh its n j u) (r.set rv j) (by rw [List.length_set];exact hz) s.toks
 by_cases h0:0<=k
 ·have hk:k.toNat=j:=by
   rw [seqIndex_of h0 h4] at h1;exact Option.some.inj h1
  exact PySem.W.ki_setAt ho h0 (by lia) (by rw [List.size_toArray,<-hl];exact h4) (by rw [hk];exact ⟨_,I',q⟩)
 ·have hk:(k + (its.toArray.size:Int)).toNat=j:=by
   rw [seqIndex_neg (by lia) h3] at h1;rw [List.size_toArray,<-hl];exact Option.some.inj h1
  exact PySem.W.ki_setBack ho (by lia) (by rw [List.size_toArray,<-hl];exact h3) (by lia) (by rw [hk];exact ⟨_,I',q⟩)
theorem Lx (lo hi:Option Int)(n:Nat):(sliceBounds lo hi none n).1=((HT.sIx n 0 lo:Nat):Int)/\(sliceBounds lo hi none n).2.1=((HT.sIx n n hi:Nat):Int)/\(sliceBounds lo hi none n).2.2=1:=by
 refine ⟨?_,?_,rfl⟩
 ·cases lo with
  | none=>simp [sliceBounds,HT.sIx]
  | some i=>
    simp only [sliceBounds,HT.sIx,Option.getD_none,show (1:Int) > 0 by decide,if_true]
    by_cases h:i < 0
    ·simp only [h,if_true] <;> lia
    ·simp only [h,if_false] <;> lia
 ·cases hi with
  | none=>simp [sliceBounds,HT.sIx]
  | some i=>
    simp only [sliceBounds,HT.sIx,Option.getD_none,show (1:Int) > 0 by decide,if_true]
    by_cases h:i < 0
    ·simp only [h,if_true] <;> lia
    ·simp only [h,if_false] <;> lia
theorem JX (its:List Value)(lo hi:Option Int):slicePick its.toArray lo hi none=((its.drop (HT.sIx its.length 0 lo)).take (HT.sIx its.length its.length hi - HT.sIx its.length 0 lo)).toArray:=by
 obtain ⟨h1,h2,h3⟩:=Lx lo hi its.toArray.size;unfold slicePick;rw [h1,h2,h3];simp only [sliceRange_one,pick_run,List.size_toArray] <;> rfl
def WY (K:PySem.W.Frag):V->Option Int->Option Int->Hp->VK->Prop:=λx lo hi H Q=>∃a xs,x = .ref a/\SqL K H a xs/\∀p,H p=none->Q (.ref p) (upd H p (.lst (FG xs lo hi)))
theorem sl_list:SlR X (WY X.K):=by
 intro pins s σ H x v vl vu lo hi sl Q I rx hs pl pu h;obtain ⟨a,xs,rfl,hx,q⟩:=h
 cases rx
 obtain ⟨its,r,ht,hz⟩:=I.list hx;have hlen:=r.length;refine ⟨"list",_,slot_list_getitem.lookup,ht.isList.typeIs,?_⟩;refine wpAny_getItem_list_slice ht.isList hs pl pu .none (by simp) ?_ (by rw [List.size_toArray] <;> lia);rw [JX,<-hlen];refine ⟨.ref s.heap.objs.size,_,I.laid (t':=s.toks) (o:=.lst (FG xs lo hi)) (λb ob q=>Heap.get?_push_of_some _ q) (Nat.le_refl _) ?_,rfl,q _ (I.hok.fresh (Nat.le_refl _))⟩;exact ⟨Nat.le_trans (Hn xs lo hi) hz,_,0,(r.drop (HT.sIx xs.length 0 lo)).take (HT.sIx xs.length xs.length hi - HT.sIx xs.length 0 lo),Heap.get?_push_size _ rfl⟩
noncomputable def Et:V->Bool
 | .non=>true
 | .bl _=>true
 | .int _=>true
 | .str _=>true
 | _=>false
noncomputable def eqV:V->V->Bool
 | .non,.non=>true
 | .bl a,.bl b=>a == b
 | .bl a,.int b=>(if a then 1 else 0) == b
 | .int a,.bl b=>a == (if b then 1 else 0)
 | .int a,.int b=>a == b
 | .str a,.str b=>a == b
 | _,_=>false
theorem Vw {A:Around}{y:V}{u v:Value}(ry:RelV y u)(rx:RelV x v)(fy:Et y=true)(fx:Et x=true):SeqAt.EqAt A s u v (eqV y x):=by
 cases y with
 | non=>
   cases ry
   cases x with
   | non=>cases rx;exact SeqAt.EqAt.same _
   | bl b=>cases rx;exact SeqAt.EqAt.none_bool b
   | int b=>obtain ⟨t,rfl⟩:=rx;exact SeqAt.EqAt.none_int b t
   | str b=>obtain ⟨t,rfl⟩:=rx;exact SeqAt.EqAt.none_str b t
   | _=>exact absurd (show false=true from fx) Bool.false_ne_true
 | bl a=>
   cases ry
   cases x with
   | non=>cases rx;exact SeqAt.EqAt.bool_none a
   | bl b=>cases rx;exact SeqAt.EqAt.bool_bool a b
   | int b=>obtain ⟨t,rfl⟩:=rx;exact SeqAt.EqAt.bool_int a b t
   | str b=>obtain ⟨t,rfl⟩:=rx;exact SeqAt.EqAt.bool_str a b t
   | _=>exact absurd (show false=true from fx) Bool.false_ne_true
 | int a=>
   obtain ⟨t',rfl⟩:=ry
   cases x with
   | non=>cases rx;exact SeqAt.EqAt.int_none a t'
   | bl b=>cases rx;exact SeqAt.EqAt.int_bool a t' b
   | int b=>obtain ⟨t,rfl⟩:=rx;exact SeqAt.EqAt.int_int a t' b t
   | str b=>obtain ⟨t,rfl⟩:=rx;exact SeqAt.EqAt.int_str a t' b t
   | _=>exact absurd (show false=true from fx) Bool.false_ne_true
 | str a=>
   obtain ⟨t',rfl⟩:=ry
   cases x with
   | non=>cases rx;exact SeqAt.EqAt.str_none a t'
   | bl b=>cases rx;exact SeqAt.EqAt.str_bool a t' b
   | int b=>obtain ⟨t,rfl⟩:=rx;exact SeqAt.EqAt.str_int a t' b t
   | str b=>obtain ⟨t,rfl⟩:=rx;exact SeqAt.EqAt.str_str a t' b t
   | _=>exact absurd (show false=true from fx) Bool.false_ne_true
 | _=>exact absurd (show false=true from fy) Bool.false_ne_true
def eqU (x:V)(u:Value):Bool:=match u with
 | .none=>eqV .non x
 | .bool b=>eqV (.bl b) x
 | .int i _=>eqV (.int i) x
 | .str z _=>eqV (.str z) x
 | _=>false
theorem Od {y:V}{u:Value}(r:RelV y u)(f:Et y=true):eqU x u=eqV y x:=by
 cases y with
 | non=>cases r;rfl
 | bl b=>cases r;rfl
 | int i=>obtain ⟨t,rfl⟩:=r;rfl
 | str z=>obtain ⟨t,rfl⟩:=r;rfl
 | _=>exact absurd (show false=true from f) Bool.false_ne_true
theorem IQ {x:V}:∀{xs:List V} {us:List Value},Vals xs us->xs.all Et=true->us.any (eqU x)=xs.any λy=>eqV y x
 | _,_,.nil,_=>rfl
 | y :: xs,u :: us,.cons r t,f=>by
   rw [List.all_cons,Bool.and_eq_true] at f;rw [List.any_cons,List.any_cons,Od r f.1,IQ t f.2]
theorem HB {A:Around}{s:Shared}{x:V}{v:Value}(rx:RelV x v)(fx:Et x=true):∀{xs:List V} {us:List Value},Vals xs us->xs.all Et=true->∀u∈us,SeqAt.EqAt A s u v (eqU x u)
 | _,_,.nil,_=>λu hu=>by cases hu
 | y :: xs,u :: us,.cons r t,f=>λu' hu=>by
   rw [List.all_cons,Bool.and_eq_true] at f;rcases List.mem_cons.mp hu with rfl | hu
   ·rw [Od r f.1];exact Vw r rx f.1 fx
   ·exact HB rx fx t f.2 u' hu
def inV (x:V)(xs:List V):Bool:=xs.any λy=>eqV y x
def rIn (K:PySem.W.Frag)(neg:Bool):R2:=λx y H Q=>∃p xs,y = .ref p/\(SqL K H p xs\/SqT K H p xs)/\Et x=true/\xs.all Et=true/\Q (.bl (if neg then !inV x xs else inV x xs)) H
theorem O0:OpR X (compareOp .In) (rIn X.K false):=by
 intro pins s σ H x y v u Q I rx ry h;obtain ⟨p,xs,rfl,hq,fx,fs,q⟩:=h
 cases ry
 rcases hq with hq | hq
 ·obtain ⟨its,r,pl,hz⟩:=I.list hq;refine SeqAt.in_listAt (eqU x) pl.isList (λw hw=>HB rx fx r fs w (by simpa using hw)) ⟨.bl _,H,I,rfl,?_⟩;rw [show its.toArray.any (eqU x)=its.any (eqU x) by simp,IQ r fs];exact q
 ·obtain ⟨its,r,pl,hz⟩:=I.tuple hq;refine SeqAt.in_tupleAt (eqU x) pl (λw hw=>HB rx fx r fs w (by simpa using hw)) ⟨.bl _,H,I,rfl,?_⟩;rw [show its.toArray.any (eqU x)=its.any (eqU x) by simp,IQ r fs];exact q
theorem Ky:BY X (.type "list") (λxs H Q=>∃p ys,xs=[.ref p]/\(SqL X.K H p ys\/SqT X.K H p ys)/\∀l,H l=none->Q (.ref l) (upd H l (.lst ys))):=by
 intro pins s σ H xs us Q I r h;obtain ⟨p,ys,rfl,hq,q⟩:=h;obtain ⟨u,rfl,rx⟩:=F5 r
 cases rx
 have fin:∀(its:List Value),Vals ys its->ys.length<=sizeLine->∀(h':Heap) (c':Nat),(∀b o',s.heap.get? b=some o'->h'.get? b=some o')->
  h'.get? s.heap.objs.size=some { cls:=.type "list",dict:=none,data:=.seq its.toArray c',slots:=#[] }->EP X pins σ Q (.ref s.heap.objs.size) { s with heap:=h' }:=λits r' hz h' c' kp e=>
  ⟨.ref s.heap.objs.size,_,I.laid (t':=s.toks) kp (Nat.le_refl _) (show ObjOk X.prog X.w _ h' _ (.lst ys) from ⟨hz,its,c',r',e⟩),rfl,q _ (I.hok.fresh (Nat.le_refl _))⟩
 rcases hq with hq | hq
 ·obtain ⟨its,r',pl,hz⟩:=I.list hq;have hlen:=r'.length;obtain ⟨o,ho,hc,n,hd⟩:=pl.isList;exact call_list_seq p (.inl rfl) ho hc hd (λh' c' kp e=>fin its r' hz h' c' kp e) (by simp only [List.size_toArray] <;> lia)
 ·obtain ⟨its,r',pl,hz⟩:=I.tuple hq;have hlen:=r'.length;obtain ⟨o,ho,hc,n,hd⟩:=pl;exact call_list_seq p (.inr rfl) ho hc hd (λh' c' kp e=>fin its r' hz h' c' kp e) (by simp only [List.size_toArray] <;> lia)
theorem JV:BY X (.type "tuple") (λxs H Q=>∃p ys,xs=[.ref p]/\((SqL X.K H p ys/\∀l,H l=none->Q (.ref l) (upd H l (.tup ys)))\/(SqT X.K H p ys/\Q (.ref p) H))):=by
 intro pins s σ H xs us Q I r h;obtain ⟨p,ys,rfl,h⟩:=h;obtain ⟨u,rfl,rx⟩:=F5 r
 cases rx
 rcases h with ⟨hq,q⟩ | ⟨hq,q⟩
 ·obtain ⟨its,r',pl,hz⟩:=I.list hq;have hlen:=r'.length;refine call_tuple_list pl.isList (λh' kp=>?_) (by simp only [List.size_toArray] <;> lia);have I1:Inv X pins σ H { s with heap:=h' }:=I.kept (t':=s.toks) kp;have I2:Inv X pins σ (upd H h'.objs.size (.tup ys)) { s with heap:=h'.push { cls:=.type "tuple",data:=.seq its.toArray } }:=
   I1.laid (t':=s.toks) (λb o e=>Heap.get?_push_of_some _ e) (Nat.le_refl _) (show ObjOk X.prog X.w _ _ _ (.tup ys) from ⟨hz,its,r',IsTup.new _ _⟩)
  exact ⟨.ref h'.objs.size,_,I2,rfl,q _ (I1.hok.fresh (Nat.le_refl _))⟩
 ·obtain ⟨its,r',pl,hz⟩:=I.tuple hq;exact call_tuple_same pl ⟨.ref p,H,I,rfl,q⟩
def tyV (K:PySem.W.Frag)(T:String)(x:V)(H:Hp):Prop:=match x with
 | .str _=>T = "str"
 | .int _=>T = "int"
 | .ref p=>(T = "list"/\∃xs,SqL K H p xs)\/(T = "tuple"/\∃o,K.lookup p=some o/\o.cls = .type "tuple"/\o.dict=none)\/
    (T = "dict"/\((∃kvs,H p=some (.dK kvs))\/∃kvs,H p=some (.dT kvs)))\/(T = "set"/\∃S n,H p=some (.set S n))
 | _=>False
theorem Xg {pins:List (Addr×Obj)}{σ:St}{H:Hp}{T:String}{v:Value}(I:Inv X pins σ H s)(r:RelV x v)(ty:tyV X.K T x H) :
 s.TypeIs v T/\∀a,v = .ref a->∃ob,s.heap.get? a=some ob/\ob.dict=none:=by
 cases x with
 | str z=>
   obtain ⟨t,rfl⟩:=r
   cases (show T = "str" from ty)
   exact ⟨typeIs_str s z t,λ_ e=>nomatch e⟩
 | int i=>
   obtain ⟨t,rfl⟩:=r
   cases (show T = "int" from ty)
   exact ⟨typeIs_int s i t,λ_ e=>nomatch e⟩
 | ref p=>
   cases r
   rcases ty with ⟨rfl,xs,hq⟩ | ⟨rfl,o,hk,hc,hd⟩ | ⟨rfl,hk⟩ | ⟨rfl,S,n,hk⟩
   ·obtain ⟨its,_,pl,_⟩:=I.list hq;refine ⟨pl.isList.typeIs,λa e=>?_⟩
    cases e
    obtain ⟨o,n,e,c,hd,_⟩:=pl;exact ⟨o,e,hd⟩
   ·refine ⟨⟨o,I.kIn p o hk,hc⟩,λa e=>?_⟩
    cases e
    exact ⟨o,I.kIn _ o hk,hd⟩
   ·have z:∃o,s.heap.get? p=some o/\o.ExactDict:=by
     rcases hk with ⟨kvs,hk⟩ | ⟨kvs,hk⟩
     ·obtain ⟨_,_,_,_,o,_,_,e,ex,_⟩:=I.hok p _ hk;exact ⟨o,e,ex⟩
     ·obtain ⟨_,_,_,_,o,_,_,e,ex,_⟩:=I.hok p _ hk;exact ⟨o,e,ex⟩
    obtain ⟨o,e,ex⟩:=z;refine ⟨⟨o,e,ex.1⟩,λa e2=>?_⟩
    cases e2
    exact ⟨o,e,ex.2.1⟩
   ·obtain ⟨o,_,_,_,e,ex,_⟩:=I.hok p _ hk;refine ⟨⟨o,e,ex.1⟩,λa e2=>?_⟩
    cases e2
    exact ⟨o,e,ex.2.1⟩
 | _=>exact False.elim ty
def tBM (K:PySem.W.Frag)(T:String)(r:V->List V->Hp->VK->Prop)(to:TE)(t:TA):TE:=λσ H Q=>to σ H λx H1=>tyV K T x H1/\t σ H1 λxs H2=>r x xs H2 Q
variable {o e:Expr}{es:List Expr}{to:TE}{t:TA}{name:Str}{apos cpos:Pos}{T id:String}{r:V->List V->Hp->VK->Prop}
theorem ID (pa:PlainAttrs T)(slot:Slot T name id)(hty:typeOf (.builtin id)=pure (.type "method_descriptor"))(hm:MtR X id r)(ho:PE X o to)(ha:PA X (e :: es) t)
 (hbase:attributeBase o name X.env (eval o X.env)=eval o X.env:=by rfl)
 (hfew:((backTo cpos (starEach (e :: es) X.env)).all (λx=>!x.1) && (backToKw cpos (keywordEach [] X.env)).all (λx=>x.1.isSome)
   && decide ((e :: es).length + ([]:List Keyword).length + (if ([]:List Keyword).isEmpty then 0 else 1) < 30))=true:=by rfl)
 (hline:(apos.endLine == cpos.line)=true:=by rfl) (hs:starEach (e :: es) X.env=(false,eval e X.env) :: starEach es X.env:=by rfl) (hplain:(backTo cpos (starEach es X.env)).any (·.1)=false:=by rfl) :
 PE X (.Call (.Attribute o name apos) (e :: es) [] cpos) (tBM X.K T r to t):=by
 intro pins s σ H Q I h;refine wpAny_Call_method_late hbase hfew hline rfl (thn (ho pins s σ H _ I h) λv s1 z9=>?_);obtain ⟨x,H1,I1,r1,ty,q1⟩:=z9;obtain ⟨h1,h2⟩:=Xg I1 r1 ty;refine ⟨T,id,pa,slot,hty,h1,h2,?_⟩;have hA:=ha cpos pins s1 σ H1 _ I1 q1;rw [hs] at hA ⊢;refine Calls.callWith_builtin (by show (false || (backTo cpos (starEach es X.env)).any (·.1))=false;rw [hplain] <;> rfl) (Calls.evalArgs_plain ?_);exact thn hA λus s2 ⟨vs,H2,I2,r2,q2⟩=>hm pins s2 σ H2 x vs v us Q I2 r1 r2 q2
/- xs.append(e),list.index on a module's tuple .. are MtR facts of 06m -/
end
def MtM (X:Cx)(id:String)(r:V->List V->Hp->VK->Prop):Prop:=
 ∀(pins:List (Addr×Obj)) (s:Shared) (σ:St) (H:Hp) (x:V) (xs:List V) (v:Value) (us:List Value) (Q:VK),Inv X pins σ H s->RelV x v->Vals xs us->r x xs H Q->
  wpAny (model X.prog X.w) X.A (call (.builtin id) (v :: us)) (EP X pins σ Q) X.xe s
theorem Vals.one {us:List Value}(h:Vals [x] us):∃u,us=[u]/\RelV x u:=by
 cases h with
 | cons r t=>
   cases t
   exact ⟨_,rfl,r⟩
theorem Vals.rep {xs:List V}{us:List Value}(h:Vals xs us):∀k:Nat,Vals (List.replicate k xs).flatten (List.replicate k us).flatten
 | 0=>.nil
 | k + 1=>by
   rw [List.replicate_succ,List.replicate_succ,List.flatten_cons,List.flatten_cons];exact Vals.append h (Vals.rep h k)
theorem JI (its:List Value):∀(k:Nat) (acc:List Value),
 List.foldl (λx1 x2=>x1++x2) acc.toArray (List.replicate k its.toArray)=(acc++(List.replicate k its).flatten).toArray
 | 0,acc=>by simp
 | k + 1,acc=>by
   have e:acc.toArray++its.toArray=(acc++its).toArray:=by simp
   have e2:(acc++its)++(List.replicate k its).flatten=acc++(List.replicate (k + 1) its).flatten:=by
    rw [List.replicate_succ,List.flatten_cons,List.append_assoc]
   rw [<-e2,<-JI its k (acc++its),<-e,List.replicate_succ,List.foldl_cons]
section
variable {X:Cx}{pins:List (Addr×Obj)}{σ:St}{H:Hp}{s:Shared}{l b:Addr}{xs ys zs:List V}
theorem Inv.lset {its':List Value}{f:Array Value->Array Value}{t':Nat}(I:Inv X pins σ H s)(hH:H l=some (.lst xs))
 (e:s.heap.get? l=some { cls:=.type "list",data:=.seq its.toArray n }) (hf:f its.toArray=its'.toArray) (hv:Vals ys its') (hz:ys.length<=sizeLine) :
 Inv X pins σ (upd H l (.lst ys)) { s with heap:=s.heap.update l (Obj.mapSeq f),toks:=t' }:=by
 have q:=PySem.IsL.update e f;rw [hf] at q;refine I.write (x:=l) (e:=l) (by rw [hH];exact trivial) (.inl rfl) (λb' u hb hu=>(Heap.get?_update_other s.heap (Obj.mapSeq f) (Ne.symm hb)).trans hu) ⟨_,q⟩ ?_;exact ⟨hz,its',_,hv,q⟩
theorem Inv.lnew {t':Nat}(I:Inv X pins σ H s)(hv:Vals ys its)(hz:ys.length<=sizeLine) :
 Inv X pins σ (upd H s.heap.objs.size (.lst ys)) { s with heap:=s.heap.push { cls:=.type "list",data:=.seq its.toArray },toks:=t' }:=
 I.laid (λ_ _ q=>Heap.get?_push_of_some _ q) (Nat.le_refl _) ⟨hz,its,0,hv,Heap.get?_push_size _ rfl⟩
theorem Inv.fresh (I:Inv X pins σ H s):H s.heap.objs.size=none:=I.hok.fresh (Nat.le_refl _)
theorem Inv.lstM (I:Inv X pins σ H s)(hH:H l=some (.lst xs)):xs.length<=sizeLine/\∃(its:List Value) (n:Nat),Vals xs its/\xs.length=its.length/\s.heap.get? l=some { cls:=.type "list",data:=.seq its.toArray n }:=by
 obtain ⟨z,its,n,r,e⟩:=I.hok l _ hH;exact ⟨z,its,n,r,r.length,e⟩
theorem K6 (h:n<=sizeLine):Builtin.List.listTooLong n=false:=by
 unfold Builtin.List.listTooLong;exact decide_eq_false (by lia)
end
section
variable {X:Cx}
def Mt:V->List V->Hp->VK->Prop:=λx vs H Q=>∃l xs y,x = .ref l/\vs=[y]/\H l=some (.lst xs)/\xs.length < sizeLine/\Q .non (upd H l (.lst (xs++[y])))
theorem JK:MtM X "list.append" Mt:=by
 intro pins s σ H x vs v us Q I rx rv h;obtain ⟨l,xs,y,rfl,rfl,hH,hz,q⟩:=h
 cases rx
 obtain ⟨u,rfl,ru⟩:=rv.one;obtain ⟨z,its,n,r,hl,e⟩:=I.lstM hH;refine call_meets F.slot_list_append ⟨_,e,rfl⟩ F.entry_list_append (F.args_list_append_2 _ _) (PySem.list_append l its.toArray n u (by rw [List.size_toArray];lia)) ⟨e,?_⟩;refine ⟨.non,_,I.lset (its':=its++[u]) hH e (by simp) (r.append (.cons ru .nil)) ?_,rfl,q⟩;rw [List.length_append,List.length_singleton];lia
def Mu:V->List V->Hp->VK->Prop:=λx vs H Q=>∃l b xs zs,x = .ref l/\vs=[.ref b]/\H l=some (.lst xs)/\H b=some (.lst zs)/\xs.length + zs.length<=sizeLine/\Q .non (upd H l (.lst (xs++zs)))
theorem OP:MtM X "list.extend" Mu:=by
 intro pins s σ H x vs v us Q I rx rv h;obtain ⟨l,b,xs,zs,rfl,rfl,hH,hB,hz,q⟩:=h
 cases rx
 obtain ⟨u,rfl,ru⟩:=rv.one
 cases ru
 obtain ⟨z,its,n,r,hl,e⟩:=I.lstM hH;obtain ⟨z2,its2,n2,r2,hl2,e2⟩:=I.lstM hB;have hsz:its.toArray.size + its2.toArray.size<=sizeLine:=by rw [List.size_toArray,List.size_toArray];lia
 have hlong:¬(!its.toArray.isEmpty && Builtin.List.listTooLong (its.toArray.size + its2.toArray.size))=true:=by
  rw [K6 hsz,Bool.and_false];exact Bool.false_ne_true
 refine call_meets F.slot_list_extend ⟨_,e,rfl⟩ F.entry_list_extend (F.args_list_extend_2 _ _)
  (AutoSeq1.list_extend_list_list_0 l its.toArray n b its2.toArray n2 hlong (by rw [List.size_toArray];lia) (by lia)) ⟨e,e2,?_⟩
 refine ⟨.non,_,I.lset (its':=its++its2) hH e (by simp) (r.append r2) ?_,rfl,q⟩;rw [List.length_append];lia
def No:R2:=λx y H Q=>∃l b xs zs,x = .ref l/\y = .ref b/\H l=some (.lst xs)/\H b=some (.lst zs)/\xs.length + zs.length<=sizeLine/\∀p,H p=none->Q (.ref p) (upd H p (.lst (xs++zs)))
theorem op_cat:OpR X (binaryOp .Add) No:=by
 intro pins s σ H x y v u Q I rx ry h;obtain ⟨l,b,xs,zs,rfl,rfl,hH,hB,hz,q⟩:=h
 cases rx
 cases ry
 obtain ⟨z,its,n,r,hl,e⟩:=I.lstM hH;obtain ⟨z2,its2,n2,r2,hl2,e2⟩:=I.lstM hB;refine PySem.P.add_list e e2 ?_ (by rw [List.size_toArray,List.size_toArray];lia);have ea:its.toArray++its2.toArray=(its++its2).toArray:=by simp
 rw [ea];exact ⟨.ref _,_,I.lnew (t':=s.toks) (r.append r2) (by rw [List.length_append];lia),rfl,q _ I.fresh⟩
def WW:R2:=λx y H Q=>∃l k xs,x = .ref l/\y = .int k/\H l=some (.lst xs)/\-(2 ^ 63)<=k/\k < 2 ^ 63/\xs.length * k.toNat<=sizeLine/\
 ∀p,H p=none->Q (.ref p) (upd H p (.lst (List.replicate k.toNat xs).flatten))
theorem TH {α:Type}(xs:List α)(k:Nat):(List.replicate k xs).flatten.length=k * xs.length:=by
 induction k with
 | zero=>simp
 | succ k ih=>rw [List.replicate_succ,List.flatten_cons,List.length_append,ih,Nat.succ_mul,Nat.add_comm]
theorem Wt:OpR X (binaryOp .Mult) WW:=by
 intro pins s σ H x y v u Q I rx ry h;obtain ⟨l,k,xs,rfl,rfl,hH,h1,h2,hz,q⟩:=h
 cases rx
 obtain ⟨t,rfl⟩:=ry;obtain ⟨z,its,n,r,hl,e⟩:=I.lstM hH;have hlen:its.toArray.size * k.toNat<=sizeLine:=by rw [List.size_toArray,<-hl];exact hz
 have hcap:¬its.toArray.size * k.toNat > (2 ^ 63 - 1) / 8:=by
  have:(sizeLine:Nat)<=(2 ^ 63 - 1) / 8:=by decide
  lia
 have hfit:¬(!Builtin.List.listFitsIndex k)=true:=by
  rw [fitsIndex_both h1 h2];exact Bool.false_ne_true
 have hlong:¬Builtin.List.listTooLong (its.toArray.size * k.toNat)=true:=by
  rw [K6 hlen];exact Bool.false_ne_true
 have hnew:List.foldl (λx1 x2=>x1++x2) #[] (List.replicate (if its.toArray.isEmpty=true then 0 else k.toNat) its.toArray)=(List.replicate k.toNat its).flatten.toArray:=by
  have f0:∀m:Nat,List.foldl (λx1 x2=>x1++x2) #[] (List.replicate m its.toArray)=(List.replicate m its).flatten.toArray:=λm=>by
   have:=JI its m [];rw [List.nil_append] at this;exact this
  rw [f0]
  cases its with
  | nil=>simp
  | cons a r'=>rw [if_neg (by simp)]
 refine wpAny_binaryOp_repeat_ref (T:="list") (U:="int") (by decide) ⟨_,e,rfl⟩ (λs'=>typeIs_int s' k t) noFill_list_mul F.fills_int_mul F.slot_int_rmul repeat_list F.slot_int_index.lookup
  (call_meets F.slot_int_rmul (typeIs_int s k t) F.entry_int_rmul (F.args_int_rmul_2 _ _) (int___rmul___int_list k t l its.toArray n)
    ⟨e,rfl,⟨_,e,rfl⟩,call_meets F.slot_list_mul ⟨_,e,rfl⟩ F.entry_list_mul (F.args_list_mul_2 _ _) (AutoListH.list___mul___list_int_3 l its.toArray n k t hfit hcap hlong) ⟨e,?_⟩⟩)
 rw [hnew];exact ⟨.ref _,_,I.lnew (t':=s.toks) (r.rep k.toNat) (by rw [TH,Nat.mul_comm];exact hz),rfl,q _ I.fresh⟩
end
section
variable {prog:Program}{w:World}{A:Around}{E:Value->Shared->Prop}{s:Shared}
end
section
variable {X:Cx}
end
end L2
namespace Att
open PySem PySem.W PySem.Calls PyProof.Rows
theorem Ix {P:Params}{h:Heap}:∀(ns:List Int) (vs:List Value),WellAll P h vs (ns.map WData.int)->IntsAre vs ns:=by
 intro ns
 induction ns with
 | nil=>
   intro vs w;rw [List.map_nil] at w
   cases w
   exact .nil
 | cons n ns ih=>
   intro vs w;rw [List.map_cons] at w
   cases w with
   | cons a b=>
     cases a
     exact .cons _ _ (ih _ b)
theorem Pk {l:OpenLaw}{n:Nat}(hn:l.most=some n){P:Params}{h:Heap}{args:List WData}{vals:List Value}
 (hpre:l.row.toRowW.claim.pre args=true) (hwl:WellAll P h vals args) :
 ∃a vs ns,vals=[Value.ref a]/\args=[WData.list (ns.map WData.int)]/\h.get? a=some { cls:=.type "list",data:=.seq vs.toArray }/\IntsAre vs ns/\ns.length<=n:=by
 have hsh:WShape.hasAll [] args [.list .int]=true:=(pre_splitW hpre).1;have hc:l.pre.holds [] { args:=args }=true:=(pre_splitW hpre).2;obtain ⟨d,r,rfl,h1,h2⟩:=hasAllW_cons hsh;obtain rfl:=hasAllW_nil h2;obtain ⟨xs,rfl,h3⟩:=hasW_list h1;obtain ⟨ns,rfl⟩:=items_int h3;have hlen:ns.length<=n:=by
  unfold OpenLaw.pre at hc;have h4:(WTm.not (.lt (.lit (.int (n:Int))) (.len (.arg 0)))).holds [] { args:=[.list (ns.map .int)] }=true:=by
   have h4:=(holds_andW hc).1;rw [hn] at h4;exact h4
  have h5:=condW_of h4 (w_not (w_lt w_lit (w_len_list (w_arg rfl))));rw [List.length_map] at h5;refine Nat.le_of_not_lt λq=>?_;have q':(n:Int) < ((ns.length:Nat):Int):=by lia
  first
   | (rw [decide_eq_true q'] at h5;exact absurd h5 (by decide))
   | (simp at h5;lia)
 cases hwl with
 | cons w1 w2=>
   cases w2
   cases w1 with
   | list ho hall=>exact ⟨_,_,ns,rfl,rfl,ho,Ix ns _ hall,hlen⟩
theorem Pa (l:OpenLaw)(args:List WData):l.row.toRowW.claim.post args (.bool true) args=true:=
 postW_of (r:=l.row.toRowW) (X:=(true == true))
  (show WShape.has [] (.bool true) .bool=true by first | rfl | decide | simp [WShape.has,WShape.arms,WShape.armsAll])
  (show (WTm.eq .res (.lit (.bool true))).value [] { args:=args,res:=some (.bool true),after:=args }=some (.bool (true == true)) from w_eq_bool (w_res rfl) w_lit) rfl
theorem attach_call {l:OpenLaw}{n:Nat}{q:Program}{loose:List Str}{XP:(Str->Option Value)->Heap->Prop}{YP:World->Heap->Prop}{d:DefRec}
 (hn:l.most=some n) (hdf:d.params.defaults=[])
 (call:∀(w:World) (s₀ s₁:Shared) (mg mb:Str->Option Value) (fa:Addr) (o:Obj) (pm cd doc:Value) (a:Addr) (vs:List Value) (ns:List Int),
   Ground q loose [] XP w s₀ mg mb s₁.heap->YP w s₁.heap->
   s₁.heap.get? fa=some o->o.data = .func (docDef d.name d.params d.body d.scope pm cd doc)->s₁.heap.CodeRec cd d.name->mg d.name=some (.ref fa)->
   s₁.heap.get? a=some { cls:=.type "list",data:=.seq vs.toArray }->IntsAre vs ns->ns.length<=n->s₁.gens=#[]->
   codeAny (model l.prog w) callerA (.call (.ref fa) ⟨[.ref a],[]⟩) (λr s'=>r = .ok (.ret (.bool true))/\OldK s₁.heap s'.heap/\s'.os=s₁.os/\AllBare s'.gens) s₁) :
 WalkO q loose XP YP l.row.toRowW d [] (λf vs=>PySem.call f vs):=by
 intro w s₀ s₁ mg mb G Y fa o pm cd doc dV kV ho hd hcd hD hmg hg args vals as hpre hlay hrd hwl hlo;obtain rfl:dV = .none:=Dflts.none hD hdf;obtain rfl:kV = .none:=Dflts.noKw hD;obtain ⟨a,vs,ns,rfl,rfl,hobj,hints,hlen⟩:=Pk hn hpre hwl;refine enter_call (codeAny_mono (call w s₀ s₁ mg mb fa o pm cd doc a vs ns G Y ho (fd_plain hd) hcd hmg hobj hints hlen hg) λr s' hq=>?_);obtain ⟨rfl,h2,h3,h4⟩:=hq;exact ⟨.inl ⟨.bool true,.bool true,[],rfl,λ_=>rfl,.bool true,Pa l _,λ_=>⟨List.Pairwise.nil,λ_ hm=>(nomatch hm)⟩⟩,h2,h3,h4⟩
section
variable {prog:Program}{w:World}{A:Around}{E:Value->Shared->Prop}{s:Shared}{K:Frag}
noncomputable def ad (h:Heap)(L d:Addr):List (Addr×Obj):=(List.range h.objs.size).filterMap λa=>if a=L\/a=d then none else (h.get? a).map λo=>(a,o)
end
end Att
namespace L2
open PySem PySem.Spec PyProof.Rows
theorem JR:∀{vs:List Value} {ns:List Int},IntsAre vs ns->Vals (ns.map V.int) vs
 | _,_,.nil=>.nil
 | _,_,.cons n t h=>.cons ⟨t,rfl⟩ (JR h)
def MM (H:Hp):Prop:=∀b,H b=none\/∃o xs,H b=some (.frz o (.lst xs))
variable {P:Program}{w:World}{fd:FuncData}{x:Str}
theorem QA {K:PySem.W.Frag}{mg mb:Str->Option Value}{CX:CXT}{k:Nat}{fa a:Addr}{sp:Sp}{s₁:Shared}{vs:List Value}{ns:List Int}
 (KX:K.In s₁.heap) (hns:s₁.heap.Ns mainGlobals mg) (hb:s₁.heap.Ns builtinsNs mb) (hbb:∀x:Str,x≠"__name__"->mb x=bootBuiltins x) (hlim:s₁.heap.NoLimit) (hg:s₁.gens=#[])
 (ha:s₁.heap.get? a=some { cls:=.type "list",data:=.seq vs.toArray }) (hi:IntsAre vs ns) (hl:ns.length<=sizeLine) (hr:Room k callerA)
 (F:∀base:Heap,K.In base->base.Ns mainGlobals mg->FnOk P w K mg base CX k fa fd [x] sp) (hbind:∀(s:Shared) (u:Value),BindsTo s fd ⟨[u],[]⟩ [(x,u)])
 (hsp:∀H:Hp,MM H->SqL K H a (ns.map V.int)->sp [.ref a] H (λv _=>v = .bl true) λ_ _ _=>False)
 (hCX:∀H e s',CX [] H s₁ (λ_ _ _=>False) e s'->False) :
 codeAny (model P w) callerA (.call (.ref fa) ⟨[.ref a],[]⟩) (λr s'=>r = .ok (.ret (.bool true))/\OldK s₁.heap s'.heap/\s'.os=s₁.os/\AllBare s'.gens) s₁:=by
 have rv:=JR hi;have lenV:=hi.length
 -- from an abstract heap in which nothing but the script may be tracked
 have core:∀H:Hp,MM H->SqL K H a (ns.map V.int)->HOk P w H s₁.heap->(∀b,H b≠none->b=a)->(H a≠none->K.lookup a=none)->
  codeAny (model P w) callerA (.call (.ref fa) ⟨[.ref a],[]⟩) (λr s'=>r = .ok (.ret (.bool true))/\OldK s₁.heap s'.heap/\s'.os=s₁.os/\AllBare s'.gens) s₁:=by
  intro H hO hS hok hA hK;have base_of:∀{b:Addr} {o:Obj},s₁.heap.get? b=some o->H b=none->(FO s₁.heap H).get? b=some o:=λe n=>Qx e n;have noA:∀{b:Addr} {o:Obj} {es:Array DictEntry} {ep:Nat},s₁.heap.get? b=some o->o.data = .dict es ep->H b=none:=λ{b o es ep} e d=>by
   cases q:H b with
   | none=>rfl
   | some u=>
     have e':b=a:=hA b (by rw [q];simp);subst e';rw [ha] at e;cases e
     have d':Data.seq vs.toArray _=Data.dict es ep:=d
     cases d'
  have nsK:∀{b:Addr} {m:Str->Option Value},s₁.heap.Ns b m->(FO s₁.heap H).Ns b m:=λ{b m} ⟨o,es,ep,e,d,r⟩=>⟨o,es,ep,base_of e (noA e d),d,r⟩;have hKb:K.In (FO s₁.heap H):=λb o e=>base_of (KX b o e) (by
   cases q:H b with
   | none=>rfl
   | some u=>
     have e':b=a:=hA b (by rw [q];simp);subst e';rw [hK (by rw [q];simp)] at e;cases e)
  have hM:Mod K mg (FO s₁.heap H):=⟨hKb,nsK hns,⟨mb,nsK hb,hbb⟩,let ⟨mc,h1,h2⟩:=hlim;⟨mc,nsK h1,h2⟩⟩;have e0:Env0 P w K mg (FO s₁.heap H) callerA [] s₁ H:=⟨rfl,hM,λb o e=>T0 e,Nat.le_of_eq (OB _ _),trivial,λb hb=>absurd (show b∈([]:List Addr) from hb) (by simp),hok,.of_eq hg⟩;refine codeAny_mono ((F _ hKb (nsK hns)).run callerA [] s₁ H ⟨[.ref a],[]⟩ [.ref a] [.ref a] _ _ hr e0 (hbind s₁ (.ref a)) (.cons rfl .nil) (hsp H hO hS)) λr s' h=>?_
  cases r with
  | error e=>exact (hCX H e s' h).elim
  | ok fl=>
    cases fl with
    | next=>exact False.elim h
    | brk=>exact False.elim h
    | cont=>exact False.elim h
    | ret u=>
      obtain ⟨v,H',os,bare,un,hok',r',q⟩:=h;have q':v = .bl true:=q;subst q';obtain rfl:u=Value.bool true:=r';refine ⟨rfl,OldK.of_keep λb o e=>?_,os,bare⟩
      cases q:H b with
      | none=>exact un.keep b o e q (by intro z;exact absurd (show b∈([]:List Addr) from z) (by simp)) (by simp)
      | some u=>
        rcases hO b with z | ⟨ob,xs,z⟩
        ·rw [q] at z;cases z
        ·have z2:=un.frzs b ob _ z;obtain ⟨e1,_⟩:=hok b _ z;obtain ⟨e2,_⟩:=hok' b _ z2;rw [e] at e1;cases e1
         exact e2
 cases hk:K.lookup a with
 | some o=>
   -- the script is one of the module's own objects
   have e:=KX a o hk;rw [ha] at e
   cases e
   refine core (λ_=>none) (λ_=>.inl rfl) (.inr ⟨_,vs.toArray,_,hk,rfl,rfl,rfl,by rw [List.size_toArray,lenV];exact hl,by simpa using rv⟩) (λb u z=>by have z':(none:Option HO)=some u:=z;cases z') (λb z=>absurd rfl z) λz=>absurd rfl z
 | none=>
   refine core (λb=>if b=a then some (.frz { cls:=.type "list",data:=.seq vs.toArray } (.lst (ns.map V.int))) else none) (λb=>?_) (.inl (.inr ⟨{ cls:=.type "list",data:=.seq vs.toArray },if_pos rfl⟩)) (λb u z=>?_) (λb z=>?_) λ_=>hk
   ·by_cases hb:b=a
    ·exact .inr ⟨_,_,if_pos hb⟩
    ·exact .inl (if_neg hb)
   ·by_cases hb:b=a
    ·have z':=(if_pos hb).symm.trans z
     cases z'
     subst hb;exact ⟨ha,by rw [List.length_map];exact hl,vs,_,rv,ha⟩
    ·have z':=(if_neg hb).symm.trans z
     cases z'
   ·by_cases hb:b=a
    ·exact hb
    ·exact absurd (if_neg hb) z
theorem U4 {l:PySem.W.OpenLaw}{n k:Nat}{q:Program}{loose:List Str}{XP:(Str->Option Value)->Heap->Prop}{YP:World->Heap->Prop}{d:DefRec}{K:Params->PySem.W.Frag}{CX:World->CXT}{sp:World->Sp}
 (hn:l.most=some n) (hn2:n<=sizeLine) (hdf:d.params.defaults=[]) (hr:Room k callerA)
 (hY:∀(w:World) (h:Heap),YP w h->(K w.params).In h)
 (F:∀(w:World) (mg:Str->Option Value) (fa:Addr) (h:Heap),(K w.params).In h->h.Ns mainGlobals mg->mg d.name=some (.ref fa)->
   ∃fd:FuncData,(∀(s:Shared) (u:Value),BindsTo s fd ⟨[u],[]⟩ [(x,u)])/\
    ∀base:Heap,(K w.params).In base->base.Ns mainGlobals mg->FnOk l.prog w (K w.params) mg base (CX w) k fa fd [x] (sp w))
 (hsp:∀(w:World) (H:Hp) (a:Addr) (ns:List Int),ns.length<=n->MM H->SqL (K w.params) H a (ns.map V.int)->sp w [.ref a] H (λv _=>v = .bl true) λ_ _ _=>False)
 (hCX:∀(w:World) (H:Hp) (s:Shared) (e:Value) (s':Shared),CX w [] H s (λ_ _ _=>False) e s'->False) :
 PySem.W.WalkO q loose XP YP l.row.toRowW d [] (λf vs=>PySem.call f vs):=by
 refine Att.attach_call hn hdf λw s₀ s₁ mg mb fa o pm cd doc a vs ns G Y ho hd hcd hmg hobj hints hlen hg=>?_;have KX:=hY w _ Y;obtain ⟨fd,hb,hF⟩:=F w mg fa _ KX G.T.g hmg;exact QA KX G.T.g G.T.b G.T.builtins G.T.nolimit hg hobj hints (Nat.le_trans hlen hn2) hr hF hb (λH hO hS=>hsp w H a ns hlen hO hS) λH e s'=>hCX w H s₁ e s'
noncomputable def Dp (s:Stmt):Arguments:=match s with
 | .FunctionDef _ a _ _ _ _ _ _ _ _=>a
 | _=>{ posonlyargs:=[],args:=[],vararg:=none,kwonlyargs:=[],kw_defaults:=[],kwarg:=none,defaults:=[] }
noncomputable def Bk (s:Stmt):List Stmt:=match s with
 | .FunctionDef _ _ b _ _ _ _ _ _ _=>b
 | _=>[]
noncomputable def Ax (s:Stmt):Scope:=match s with
 | .FunctionDef _ _ _ _ _ _ sc _ _ _=>sc
 | _=>{ kind:=.function,names:=[],isGenerator:=false,isCoroutine:=false }
abbrev CX0:CXT:=λ_ _ _ _ _ _=>False
abbrev E0:XK:=λ_ _ _=>False
variable {X:Cx}
theorem Sb:Kg CX0 X E0:=λ_ _ _ _ _ _ _ h=>h.elim
structure Fun (K:PySem.W.Frag)(x qual:Str)(st:Stmt)(f:Addr)(fd:FuncData):Prop where
 ex:∃(oc:Value) (od:Option Addr) (kV doc pm:Value) (an:Option Addr) (cdv ct:Value) (osl:Array (Option Value)),
  fd=PySem.W.fnOf x qual (Dp st) (Bk st) (Ax st) .none kV doc pm an cdv ct/\K.lookup f=some ⟨oc,od,.func fd,osl⟩/\PySem.W.codeIn K cdv qual=true
 kp:PySem.W.keepIn K (.ref f)=true
variable {qual:Str}{f:Addr}
section
variable {P:Program}{w:World}{K:PySem.W.Frag}{mg:Str->Option Value}{base:Heap}
theorem Fun.ok {st:Stmt}{N ps:List Str}{k:Nat}{sp:Sp}(F:Fun K x qual st f fd)(S:FnScope N ps (Ax st))(len:∀vs H Q E,sp vs H Q E->vs.length=ps.length)
 (hbody:∀(cdv:Value) (A:Around) (outer:List Env) (s:Shared) (H:Hp) (vs:List V) (Q:VK) (E:XK),Room k (A.deeper (envOfC qual (Ax st) s.heap.objs.size f cdv))->sp vs H Q E->
   ∃t,PSs (DP CX0 P w K mg base N qual (Ax st) f cdv A outer s H E).nox (Bk st) t/\t { nx:=λ_ H'=>Q .non H',rt:=Q } (start N vs) H):FnOk P w K mg base CX0 (k + 1) f fd ps sp:=by
 obtain ⟨oc,od,kV,doc,pm,an,cdv,ct,osl,rfl,lk,hcd⟩:=F.ex;refine R3 lk hcd S len λA outer s H vs Q E hr hsp=>?_;obtain ⟨t,h,q⟩:=hbody cdv A outer s H vs Q E hr hsp;exact ⟨t,h.nox,q⟩
theorem Fun.binds {st:Stmt}{ps:List Str}(F:Fun K x qual st f fd)
 (h:∀(kV doc pm:Value) (an:Option Addr) (cdv ct:Value) (us:List Value),us.length=ps.length->bindArgs (PySem.W.fnOf x qual (Dp st) (Bk st) (Ax st) .none kV doc pm an cdv ct) ⟨us,[]⟩=pure (ps.zip us)):Binds K fd ps []:=by
 obtain ⟨oc,od,kV,doc,pm,an,cdv,ct,osl,rfl,lk,hcd⟩:=F.ex;exact .all (h kV doc pm an cdv ct)
theorem Ir {st:Stmt}{oc:Value}{od an:Option Addr}{osl:Array (Option Value)}{kV doc pm cdv ct:Value}(l:K.lookup f=some ⟨oc,od,.func (PySem.W.fnOf x qual (Dp st) (Bk st) (Ax st) .none kV doc pm an cdv ct),osl⟩)
 (c:PySem.W.codeIn K cdv qual=true) (k:PySem.W.keepIn K (.ref f)=true):Fun K x qual st f (PySem.W.fnOf x qual (Dp st) (Bk st) (Ax st) .none kV doc pm an cdv ct):=⟨⟨oc,od,kV,doc,pm,an,cdv,ct,osl,rfl,l,c⟩,k⟩
end
section
variable {X:Cx}
end
def ay (H H':Hp):Prop:=∀b o,H b=some o->H' b=some o
section
variable {κ:Type}[DecidableEq κ]
noncomputable def Em (kvs:List (κ×V))(k:κ):Option V:=(kvs.find? λkv=>decide (kv.1=k)).map (·.2)
noncomputable def C6 (kvs:List (κ×V))(k:κ)(v:V):List (κ×V):=
 if (kvs.any λkv=>decide (kv.1=k))=true then kvs.map (λkv=>if kv.1=k then (kv.1,v) else kv) else kvs++[(k,v)]
theorem LF {p:κ×V}{r:List (κ×V)}{k:κ}(e:p.1=k):Em (p :: r) k=some p.2:=by simp [Em,List.find?_cons,e]
theorem LD {p:κ×V}{r:List (κ×V)}{k:κ}(e:¬p.1=k):Em (p :: r) k=Em r k:=by simp [Em,List.find?_cons,e]
theorem Hq (kvs:List (κ×V))(k:κ)(v:V):(C6 kvs k v).length<=kvs.length + 1:=by
 unfold C6
 split
 ·rw [List.length_map];lia
 ·rw [List.length_append,List.length_cons,List.length_nil];lia
theorem KV.val {kvs:List (κ×V)}{vs:List (κ×Value)}(r:KV kvs vs)(k:κ):RelO (Em kvs k) (valueAt vs k):=by
 unfold KV at r
 induction r with
 | nil=>exact True.intro
 | @cons p q ps qs h t ih=>
   obtain ⟨h1,h2⟩:=h
   by_cases e:p.1=k
   ·have e':q.1=k:=h1.symm.trans e;have b:valueAt (q :: qs) k=some q.2:=by simp [valueAt,List.find?_cons,e']
    rw [LF e,b];exact h2
   ·have e':¬q.1=k:=λz=>e (h1.trans z);have b:valueAt (q :: qs) k=valueAt qs k:=by simp [valueAt,List.find?_cons,e']
    rw [LD e,b];exact ih
theorem KV.any {kvs:List (κ×V)}{vs:List (κ×Value)}(r:KV kvs vs)(k:κ):(kvs.any λkv=>decide (kv.1=k))=vs.any λkv=>decide (kv.1=k):=by
 unfold KV at r
 induction r with
 | nil=>rfl
 | cons h t ih=>rw [List.any_cons,List.any_cons,ih,h.1]
theorem KV.repl {kvs:List (κ×V)}{vs:List (κ×Value)}(r:KV kvs vs)(k:κ){y:V}{u:Value}(ry:RelV y u) :
 KV (kvs.map λkv=>if kv.1=k then (kv.1,y) else kv) (vs.map λkv=>if kv.1=k then (kv.1,u) else kv):=by
 unfold KV at r ⊢
 induction r with
 | nil=>exact .nil
 | @cons p q ps qs h t ih=>
   rw [List.map_cons,List.map_cons];refine .cons ?_ ih;obtain ⟨h1,h2⟩:=h
   by_cases e:p.1=k
   ·rw [if_pos e,if_pos (h1.symm.trans e)];exact ⟨h1,ry⟩
   ·rw [if_neg e,if_neg (λz=>e (h1.trans z))];exact ⟨h1,h2⟩
theorem KV.put {kvs:List (κ×V)}{vs:List (κ×Value)}(r:KV kvs vs)(k:κ){y:V}{u:Value}(ry:RelV y u):KV (C6 kvs k y) (stored vs k u):=by
 unfold C6 stored;rw [r.any k]
 by_cases e:(vs.any λkv=>decide (kv.1=k))=true
 ·rw [if_pos e,if_pos e];exact r.repl k ry
 ·rw [if_neg e,if_neg e];exact Paired.snoc r ⟨rfl,ry⟩
theorem KV.length {kvs:List (κ×V)}{vs:List (κ×Value)}(r:KV kvs vs):kvs.length=vs.length:=Paired.length r
end
theorem M9 {k:Key}{u:Value}(r:RelV (kV k) u):(AU P w).is k u=true:=by
 cases k with
 | inl i=>obtain ⟨t,e⟩:=(show ∃t,u=Value.int i t from r);subst e;exact LM P w i t
 | inr x=>obtain ⟨t,e⟩:=(show ∃t,u=Value.str x t from r);subst e;exact LN P w x t
abbrev KT (H:Hp):List (List Key×V)->List (List Key×Addr×Value)->Prop:=Paired λp q=>p.1=q.1/\H q.2.1=some (.tup (p.1.map kV))/\RelV p.2 q.2.2
variable {kvs:List (Key×V)}
section
variable {P:Program}{w:World}{H:Hp}{h:Heap}{a:Addr}
theorem XY {u:HO}(ok:HOk P w H h)(e:Rd H a u):ObjOk P w H h a u:=e.ok ok
theorem Xv (ok:HOk P w H h)(e:Rd H a (.dK kvs)):kvs.length<=sizeLine/\(a == sysModules)=false/\∃vs,KV kvs vs/\h.DictOf (AU P w) a vs:=
 show ObjOk P w H h a (.dK kvs) from XY ok e
theorem GV (ok:HOk P w H h)(e:H a=some (.dK kvs)):kvs.length<=sizeLine/\(a == sysModules)=false/\∃vs,KV kvs vs/\h.DictOf (AU P w) a vs:=Xv ok (.inl e)
end
def DGet (H:Hp)(a:Addr)(y:V)(r:Option V):Prop:=
 (∃kvs k,Rd H a (.dK kvs)/\y=kV k/\r=Em kvs k)\/∃kvs k b,Rd H a (.dT kvs)/\y = .ref b/\H b=some (.tup (k.map kV))/\r=Em kvs k
def au (H:Hp)(a:Addr)(y v:V)(H':Hp):Prop:=
 (∃kvs k,H a=some (.dK kvs)/\y=kV k/\kvs.length < sizeLine/\H'=upd H a (.dK (C6 kvs k v)))\/
 ∃kvs k b,H a=some (.dT kvs)/\y = .ref b/\H b=some (.tup (k.map kV))/\kvs.length < sizeLine/\H'=upd H a (.dT (C6 kvs k v))
theorem DGet.k {H:Hp}{a:Addr}{k:Key}(e:H a=some (.dK kvs)):DGet H a (kV k) (Em kvs k):=.inl ⟨kvs,k,.inl e,rfl,rfl⟩
section
variable {X:Cx}{pins:List (Addr×Obj)}{σ:St}{H:Hp}{s:Shared}{a:Addr}{y v:V}{u r:Value}{o:Option V}{A:Around}{E:Value->Shared->Prop}
theorem Inv.big (I:Inv X pins σ H s):sysModules < s.heap.objs.size:=by
 have h:mainGlobals < s.heap.objs.size:=(I.mod.glob.keeps I.bk).lt;exact Nat.lt_trans (by decide) h
theorem LY {h':Heap}{t':Nat}{ob:HO}(I:Inv X pins σ H s)(mu:Mut (H a))(hs:Heap.SameBut a s.heap h')(he:∃q,h'.get? a=some q)(new:ObjOk X.prog X.w (upd H a ob) h' a ob) :
 Inv X pins σ (upd H a ob) { s with heap:=h',toks:=t' }:=
 I.write (x:=a) (e:=a) mu (.inl rfl) (λb q hb z=>(hs.2 b hb).trans z) he new
theorem N8 {H':Hp}{h':Heap}{vs:List (Key×Value)}(z:kvs.length<=sizeLine)(hd:(a == sysModules)=false)(rel:KV kvs vs)(dd:h'.DictOf (AU P w) a vs) :
 ObjOk P w H' h' a (.dK kvs):=⟨z,hd,vs,rel,dd⟩
end
section
variable {X:Cx}{pins:List (Addr×Obj)}{σ:St}{H:Hp}{s:Shared}{a:Addr}{kvs:List (Key×V)}{k:Key}{u:Value}{A:Around}{E:Value->Shared->Prop}
end
section
variable {X:Cx}{o i e value:Expr}{pos pos' tpos:Pos}{td ty tv:TE}
end
theorem Qe {H:Hp}(h:Heap)(hb:sysModules < h.objs.size):ObjOk P w H (h.push { cls:=.type "dict",data:=.dict #[] }) h.objs.size (.dK []):=
 ⟨Nat.zero_le _,beq_eq_false_iff_ne.mpr (Ne.symm (Nat.ne_of_lt hb)),[],.nil,Heap.DictOf.new h⟩
section
variable {X:Cx}{pos:Pos}
end
def IM:List (TE×TE)->St->Hp->(List (V×V)->Hp->Prop)->Prop
 | [],_,H,Q=>Q [] H
 | (tk,tv) :: r,σ,H,Q=>tk σ H λx H1=>tv σ H1 λy H2=>IM r σ H2 λps H3=>Q ((x,y) :: ps) H3
abbrev VV:List (V×V)->List (Value×Value)->Prop:=Paired λp q=>RelV p.1 q.1/\RelV p.2 q.2
def PPs (X:Cx)(pos:Pos)(keys:List (Option Expr))(values:List Expr)(trs:List (TE×TE)):Prop:=
 ∀(pins:List (Addr×Obj)) (s:Shared) (σ:St) (H:Hp) (Q:List (V×V)->Hp->Prop),Inv X pins σ H s->IM trs σ H Q->
  wpAny (model X.prog X.w) X.A (evalPairs (pairTrees keys values X.env pos)) (λvs s'=>∃ps H',Inv X pins σ H' s'/\VV ps vs/\Q ps H') X.xe s
theorem Um {pos:Pos}:PPs X pos [] [] []:=λpins s σ H Q I h=>pairTrees_nil_walk ⟨[],H,I,.nil,h⟩
theorem QZ {pos:Pos}{k v:Expr}{ks:List (Option Expr)}{vs:List Expr}{tk tv:TE}{trs:List (TE×TE)}(hk:PE X k tk)(hv:PE X v tv)(hr:PPs X pos ks vs trs) :
 PPs X pos (some k :: ks) (v :: vs) ((tk,tv) :: trs):=λpins s σ H Q I h=>
 pairTrees_cons_walk (thn (hk pins s σ H _ I h) λu s1 ⟨x,H1,I1,rx,q1⟩=>thn (hv pins s1 σ H1 _ I1 q1) λw2 s2 ⟨y,H2,I2,ry,q2⟩=>
  thn (hr pins s2 σ H2 _ I2 q2) λws s3 ⟨ps,H3,I3,rel,q3⟩=>⟨(x,y) :: ps,H3,I3,.cons ⟨rx,ry⟩ rel,q3⟩)
def EQ (kvs more:List (Key×V)):List (Key×V):=more.foldl (λacc kv=>C6 acc kv.1 kv.2) kvs
theorem KV.merge:∀{more:List (Key×V)} {rs:List (Key×Value)} {kvs:List (Key×V)} {vs:List (Key×Value)},KV more rs->KV kvs vs->KV (EQ kvs more) (merged vs rs):=by
 intro more rs kvs vs r;unfold KV at r
 induction r generalizing kvs vs with
 | nil=>intro q;exact q
 | @cons p q ps qs h t ih=>
   intro r0;have e:KV (C6 kvs p.1 p.2) (stored vs q.1 q.2):=by
    have:=r0.put p.1 h.2;rw [<-h.1];exact this
   exact ih e
theorem F9:∀(more kvs:List (Key×V)),(EQ kvs more).length<=kvs.length + more.length
 | [],kvs=>by show kvs.length<=kvs.length + 0;lia
 | p :: r,kvs=>by
   have h1:=F9 r (C6 kvs p.1 p.2);have h2:=Hq kvs p.1 p.2;show (EQ (C6 kvs p.1 p.2) r).length<=_;rw [List.length_cons];lia
theorem Ih {P:Program}{w:World}:∀{kvs:List (Key×V)} {ws:List (Value×Value)},VV (kvs.map λkv=>(kV kv.1,kv.2)) ws->∃rs,Carries (AU P w) ws rs/\KV kvs rs
 | [],_,r=>by rw [List.map_nil] at r;cases r;exact ⟨[],True.intro,.nil⟩
 | p :: kvs,_,r=>by
   rw [List.map_cons] at r
   cases r with
   | @cons a b as bs h t=>
     obtain ⟨rs,c,q⟩:=Ih (P:=P) (w:=w) t;obtain ⟨b1,b2⟩:=b;exact ⟨(p.1,b2) :: rs,⟨M9 h.1,rfl,c⟩,.cons ⟨rfl,h.2⟩ q⟩
def X6 (trs:List (TE×TE)):TE:=λσ H Q=>∀p,H p=none->IM trs σ (upd H p (.dK [])) λps H2=>H2 p=some (.dK [])/\∃kvs:List (Key×V),ps=kvs.map (λkv=>(kV kv.1,kv.2))/\kvs.length<=15/\Q (.ref p) (upd H2 p (.dK (EQ [] kvs)))
theorem Ud {pos:Pos}{keys:List (Option Expr)}{values:List Expr}{trs:List (TE×TE)}(h:PPs X pos keys values trs)(hall:keys.all (·.isSome)=true)(hl:keys.length=values.length)(h0:keys≠[])
 (h15:keys.length<=15):PE X (.Dict keys values pos) (X6 trs):=by
 intro pins s σ H Q I q;have hn:=I.hok.fresh (Nat.le_refl s.heap.objs.size);have I1:=I.laid (a:=s.heap.objs.size) (o:=.dK []) (h':=s.heap.push { cls:=.type "dict",data:=.dict #[] }) (t':=s.toks) (λ_ _ q=>Heap.get?_push_of_some _ q) (Nat.le_refl _) (Qe s.heap I.big);refine wpAny_Dict_walk (knd:=AU X.prog X.w) hall hl h0 h15 (thn (h pins _ σ _ _ I1 (q _ hn)) λws s2 z9=>?_);obtain ⟨ps,H2,I2,rel,e,kvs,ep,lk,q2⟩:=z9;subst ep;obtain ⟨rs,c,rk⟩:=Ih (P:=X.prog) (w:=X.w) rel;obtain ⟨z,hd,vs0,r0,dd⟩:=GV I2.hok e
 cases r0
 refine ⟨rs,c,dd,λh' dd' hs=>⟨.ref s.heap.objs.size,_,?_,rfl,q2⟩⟩;have hz:(EQ [] kvs).length<=sizeLine:=by
  have h1:=F9 kvs [];rw [List.length_nil] at h1;rw [sizeLine_eq];lia
 have he:∃q,h'.get? s.heap.objs.size=some q:=let ⟨q,_,_,hq,_⟩:=dd';⟨q,hq⟩;exact LY I2 (by rw [e];exact True.intro) hs he (N8 hz hd (rk.merge .nil) dd')
theorem EF {env:Env}:∀(l:List (Str×NameKind)) (cs:List (Str×Addr)),(∀x c,cs.lookup x=some c->env.cells.lookup x=some c)->(∀y∈l,y.2 = .free->∃c,env.cells.lookup y.1=some c)->
 ∃cl,(forIn l cs λ(x:Str×NameKind) r=>(match x with | (name,kind)=>if (kind == NameKind.free)=true then do let c <-cellOf env name;pure (ForInStep.yield ((name,c) :: r)) else pure (ForInStep.yield r):Sem (ForInStep (List (Str×Addr)))))=pure cl/\
  (∀x c,cl.lookup x=some c->env.cells.lookup x=some c)/\(∀x c,cs.lookup x=some c->∃c',cl.lookup x=some c')/\∀y∈l,y.2 = .free->∃c,cl.lookup y.1=some c
 | [],cs,h,_=>⟨cs,rfl,h,λ_ c e=>⟨c,e⟩,λ_ z=>nomatch z⟩
 | (n,k) :: l,cs,h,hf=>by
   by_cases hk:k = .free
   ·subst hk;obtain ⟨c,hc⟩:=hf (n,.free) List.mem_cons_self rfl;have hc':env.cells.lookup n=some c:=hc;have e:cellOf env n=pure c:=by unfold cellOf;rw [hc']
    obtain ⟨cl,e1,e2,e3,e4⟩:=EF l ((n,c) :: cs) (λx c' q=>by
     rw [List.lookup_cons] at q
     by_cases hx:(x == n)=true
     ·rw [hx] at q;cases q;rw [eq_of_beq hx];exact hc'
     ·rw [Bool.eq_false_iff.mpr hx] at q;exact h x c' q) (λy hy=>hf y (List.mem_cons_of_mem _ hy))
    have self:((n,c) :: cs).lookup n=some c:=by rw [List.lookup_cons,beq_self_eq_true]
    refine ⟨cl,?_,e2,λx c' q=>?_,λy hy hyf=>?_⟩
    ·rw [List.forIn_cons];simp only [beq_self_eq_true,if_true,e];exact e1
    ·by_cases hx:(x == n)=true
     ·rw [eq_of_beq hx];exact e3 n c self
     ·exact e3 x c' (by rw [List.lookup_cons,Bool.eq_false_iff.mpr hx];exact q)
    ·rcases List.mem_cons.mp hy with z | z
     ·subst z;exact e3 n c self
     ·exact e4 y z hyf
   ·have hb:(k == NameKind.free)=false:=by simpa using hk
    obtain ⟨cl,e1,e2,e3,e4⟩:=EF l cs h (λy hy=>hf y (List.mem_cons_of_mem _ hy));refine ⟨cl,?_,e2,e3,λy hy hyf=>?_⟩
    ·rw [List.forIn_cons];simp only [hb,Bool.false_eq_true,if_false];exact e1
    ·rcases List.mem_cons.mp hy with z | z
     ·subst z;exact absurd hyf hk
     ·exact e4 y z hyf
theorem Ij {scope:Scope}{env:Env}(h:∀y∈scope.names,y.2 = .free->∃c,env.cells.lookup y.1=some c) :
 ∃cl,closureFor scope env=pure cl/\(∀x c,cl.lookup x=some c->env.cells.lookup x=some c)/\∀y∈scope.names,y.2 = .free->∃c,cl.lookup y.1=some c:=by
 obtain ⟨cl,e1,e2,_,e4⟩:=EF (env:=env) scope.names [] (λ_ _ q=>nomatch q) h;refine ⟨cl,?_,e2,e4⟩;simp only [closureFor]
 first | (rw [e1];rfl) | (simp only [e1];rfl) | (trace_state;exact e1)
theorem KB {prog:Program}{A:Around}{R:Result->Shared->Prop}{s:Shared}{elt target iter:Expr}{ifs:List Expr}{scope:Scope}{pos:Pos}{it acc:Value}{env:Env}(I:Nat->Shared->Prop)
 (turn:∀n s,I n s->wpAny (model prog w) A (pyNext it) (λr s₁=>match r with
   | none=>R (.ok .next) s₁
   | some v=>wpAny (model prog w) A (letOwnedTupleGo target it v) (λ_ s₁'=>wpAny (model prog w) A (assign target env v) (λ_ s₂=>
      wpAny (model prog w) A (forIn ifs true λc r=>if r=true then do let ok <-isTrue c env (eval c env);pure (ForInStep.yield ok) else pure (ForInStep.yield r)) (λok s₃=>
       if ok=true then wpAny (model prog w) A (eval elt env) (λx s₄=>
        wpAny (model prog w) A (call (.builtin "list.append") [acc,x]) (λ_ s₅=>∃m,m < n/\I m s₅) (λ_ _=>False) s₄) (λ_ _=>False) s₃
       else ∃m,m < n/\I m s₃) (λ_ _=>False) s₂) (λ_ _=>False) s₁') (λ_ _=>False) s₁) (λ_ _=>False) s)
 (n:Nat) (h:I n s) :
 codeAny (model prog w) A (.compLoop (.ListComp elt [⟨target,iter,ifs,0⟩] scope pos) 0 it acc env) R s:=by
 refine codeAny_loop rfl I (λn s hI=>?_) n h;show wpAny _ A ((compTurn (.ListComp elt [⟨target,iter,ifs,0⟩] scope pos) 0 it acc env).onRaise (λx=>do noteFrame x env;theTreesLotGoes x)) _ _ s;refine wpAny_noted ?_;rw [compTurn_list];refine wpAny_bind (wpAny_standAt (wpAny_bind (wpAny_mono (turn n s hI) (λr s₁ h₁=>?_) λ_ _ h'=>h'.elim)))
 cases r with
 | none=>exact wpAny_pure h₁
 | some v=>
   refine wpAny_bind (wpAny_mono h₁ (λ_ s₁' h₁'=>?_) λ_ _ h'=>h'.elim);refine wpAny_bind (wpAny_mono h₁' (λ_ s₂ h₂=>wpAny_bind (wpAny_mono h₂ (λok s₃ h₃=>?_) λ_ _ h'=>h'.elim)) λ_ _ h'=>h'.elim)
   cases ok with
   | false=>exact wpAny_pure ⟨rfl,h₃⟩
   | true=>
     exact wpAny_bind (wpAny_bind (wpAny_mono h₃ (λx s₄ h₄=>wpAny_bind (wpAny_mono h₄ (λ_ s₅ h₅=>wpAny_pure (wpAny_pure ⟨rfl,h₅⟩)) λ_ _ h'=>h'.elim)) λ_ _ h'=>h'.elim))
end L2
set_option maxHeartbeats 2000000
namespace L2
open PySem PySem.Spec PyProof.Rows
noncomputable def BC (X:Cx)(N':List Str)(scope:Scope)(cl:List (Str×Addr))(C:Addr)(s2:Shared)(H2:Hp)(fp:List Addr):Cx where
 prog:=X.prog
 w:=X.w
 K:=X.K
 mg:=X.mg
 base:=X.base
 A:=X.A
 N:=N'
 s₀:=s2
 H₀:=H2
 env:=compEnvC scope cl C X.env
 outer:=X.stack
 stack:=X.stack
 ex:=fp
 fn:=λ_=>false
 calm:=X.calm
 pn:=[]
 xe:=λ_ _=>False
theorem Hr (h:Str->NameKind->NameKind)(x:Str):∀l:List (Str×NameKind),(l.map λp=>(p.1,h p.1 p.2)).lookup x=(l.lookup x).map (h x)
 | []=>rfl
 | (n,k) :: l=>by
   show List.lookup x ((n,h n k) :: _)=_;rw [List.lookup_cons,List.lookup_cons]
   by_cases hx:(x == n)=true
   ·rw [hx,eq_of_beq hx];rfl
   ·rw [Bool.eq_false_iff.mpr hx];exact Hr h x l
theorem Fv (scope:Scope)(env:Env)(x:Str):(relabel scope env).names.lookup x=(scope.names.lookup x).map λk=>if (k == .free && env.scope.kind == .function && env.kindOf x == some .cell)=true then .cell else k:=by
 rw [<-Hr (λn k=>if (k == NameKind.free && env.scope.kind == .function && env.kindOf n == some .cell)=true then .cell else k) x scope.names];unfold relabel;dsimp only
 congr 1
 apply List.map_congr_left;intro p _;obtain ⟨n,k⟩:=p;dsimp only
 split <;> rfl
theorem Ci {x:Str}{k:NameKind}:∀{l:List (Str×NameKind)},l.lookup x=some k->(x,k)∈l
 | (n,k') :: l,h=>by
   rw [List.lookup_cons] at h
   by_cases hx:(x == n)=true
   ·rw [hx] at h;cases h;rw [eq_of_beq hx];exact List.mem_cons_self
   ·rw [Bool.eq_false_iff.mpr hx] at h;exact List.mem_cons_of_mem _ (Ci h)
theorem Lk {scope:Scope}{env:Env}{x:Str}(hcell:∀y∈scope.names,y.2≠.cell)(h:(relabel scope env).names.lookup x=some .cell\/(relabel scope env).names.lookup x=some .free):scope.names.lookup x=some .free:=by
 rw [Fv] at h
 cases e:scope.names.lookup x with
 | none=>rw [e] at h;rcases h with h | h <;> cases h
 | some k=>
   by_cases hk:k = .free
   ·rw [hk]
   ·have hb:(k == NameKind.free)=false:=by simpa using hk
    rw [e] at h;simp only [Option.map_some,hb,Bool.false_and,Bool.false_eq_true,if_false] at h;rcases h with h | h
    ·cases h;exact absurd rfl (hcell _ (Ci e))
    ·cases h;exact absurd rfl hk
def PIf (X:Cx)(ifs:List Expr)(t:TT):Prop:=
 ∀(pins:List (Addr×Obj)) (s:Shared) (σ:St) (H:Hp) (Q:Bool->Hp->Prop),Inv X pins σ H s->t σ H Q->
  wpAny (model X.prog X.w) X.A (forIn ifs true λc r=>if r=true then do let ok <-isTrue c X.env (eval c X.env);pure (ForInStep.yield ok) else pure (ForInStep.yield r)) (TP X pins σ Q) X.xe s
def Ya:TT:=λ_ H Q=>Q true H
theorem Ui {X:Cx}:PIf X [] Ya:=λ_ _ _ H _ I h=>wpAny_tests_nil ⟨H,I,h⟩
theorem Uj {X:Cx}{c:Expr}{t:TT}(h:PT X c t):PIf X [c] t:=λpins s σ H Q I q=>wpAny_tests_one (h pins s σ H Q I q)
def Px (J:It)(g:TG)(tt:TT)(te:TE)(σ₀:St)(H1:Hp)(Fin:List V->Hp->Prop):Prop:=
 ∃W:Nat->Nat->List V->St->Hp->Prop,(∃m,W 0 m [] σ₀ H1)/\∀i m acc σ' H',W i m acc σ' H'->acc.length<=sizeLine/\
  ((J.stop i H'/\Fin acc H')\/
    (J.go i H'/\∀x H2,J.yld i H' x H2->g x σ' H2 λσ3 H3=>tt σ3 H3 λb H4=>if b=true then te σ3 H4 λv H5=>∃m',m' < m/\W (i + 1) m' (acc++[v]) σ3 H5 else ∃m',m' < m/\W (i + 1) m' acc σ3 H4))
def J6 (wi:TI)(g:TG)(tt:TT)(te:TE)(σf:St->St):TE:=λσ H Q=>wi σ H λJ H1=>Px J g tt te (σf σ) H1 λacc H'=>∀p,H' p=none->acc.length<=sizeLine->Q (.ref p) (upd H' p (.lst acc))
structure CmpOk (X:Cx)(scope:Scope)(N':List Str)(σf:St->St):Prop where
 kind:scope.kind = .function
 cell:∀y∈scope.names,y.2≠.cell
 loc:∀y∈scope.names,y.2 = .local->scope.names.lookup y.1=some .local
 free:∀y∈scope.names,y.2 = .free->X.env.kindOf y.1=some .cell\/X.env.kindOf y.1=some .free
 len:∀σ:St,σ.length=X.N.length->(σf σ).length=N'.length
 vals:∀(σ:St) (j:Nat) (x:Str) (v:V),N'[j]?=some x->(σf σ)[j]?=some (some v)->∃i:Nat,X.N[i]?=some x/\σ[i]?=some (some v)/\scope.names.lookup x=some .free
variable {pins:List (Addr×Obj)}{σ:St}{H2:Hp}{s2:Shared}{cl:List (Str×Addr)}{fp:List Addr}
section
variable {X:Cx}{tg elt iter:Expr}{ifs:List Expr}{scope:Scope}{pos:Pos}{N':List Str}{wi:TI}{g:TG}{tt:TT}{te:TE}{σf:St->St}
theorem Vr {C:Addr}(O:CmpOk X scope N' σf)(I2:Inv X pins σ H2 s2)(f2:∀b∈fp,FpOk X pins H2 b)(hC:s2.heap.objs.size<=C)
 (hlt:∀b∈fp,b < s2.heap.objs.size) (e2:∀x c,cl.lookup x=some c->X.env.cells.lookup x=some c) (e4:∀y∈scope.names,y.2 = .free->∃c,cl.lookup y.1=some c):(BC X N' scope cl C s2 H2 fp).Ok where
 mod:=I2.ok.mod
 kind:=O.kind
 glob:=I2.ok.glob
 blt:=I2.ok.blt
 above:=hC
 inj:=λx y c h1 h2=>I2.ok.inj x y c (e2 x c h1) (e2 y c h2)
 has:=λx h=>by
  have q:=Lk (env:=X.env) (x:=x) O.cell h;exact e4 _ (Ci q) rfl
 cab:=λx c h _=>nomatch h
 hd:=I2.ok.hd
 frames:=I2.ok.frames
 stk:=.inl rfl
 exf:=λb hb=>⟨Nat.ne_of_lt (Nat.lt_of_lt_of_le (hlt b hb) hC),λx c e=>(f2 b hb).2.2.2.2.1 x c (e2 x c e)⟩
 bs:=I2.bs
 bsz:=Nat.le_trans I2.ok.bsz I2.sz
 noex:=λb o e hb=>by
  rcases (f2 b hb).2.2.2.1 with z | z
  ·exact I2.ok.noex b o e z
  ·exact absurd (Nat.lt_of_lt_of_le (Heap.lt_size (I2.ok.bs b o e).1) z) (Nat.lt_irrefl _)
 exfs:=λb hb z=>by
  rcases List.mem_cons.mp (I2.stkSub b z) with q | q
  ·exact (f2 b hb).2.1 q
  ·exact (f2 b hb).2.2.1 q
 funs:=I2.stack
 frf:=I2.stkFree
theorem Xc (I2:Inv X pins σ H2 s2){a:Addr}(h:s2.heap.objs.size<=a):a∉frs X.stack:=λhb=>by
 rcases List.mem_cons.mp (I2.stkSub a hb) with q | q
 ·exact absurd (Nat.lt_of_lt_of_le I2.lt h) (by rw [q];exact Nat.lt_irrefl _)
 ·exact I2.nofs h q
theorem Kq {it:Addr}{tn:Nat->Heap->Prop}{J:It}{Fin:List V->Hp->Prop}{RR:Value->Addr->Result->Shared->Prop}{E:Value->Shared->Prop}(O:CmpOk X scope N' σf)(hc:X.calm=true)
 (I2:Inv X pins σ H2 s2) (T:Turn X.prog X.w X.K tg J fp it tn) (st2:tn 0 s2.heap) (f2:∀b∈fp,FpOk X pins H2 b)
 (e2:∀x c,cl.lookup x=some c->X.env.cells.lookup x=some c) (e4:∀y∈scope.names,y.2 = .free->∃c,cl.lookup y.1=some c)
 (hg:∀C,PG (BC X N' scope cl C s2 H2 fp) tg g) (ht:∀C,PIf (BC X N' scope cl C s2 H2 fp) ifs tt) (he:∀C,PE (BC X N' scope cl C s2 H2 fp) elt te)
 (B:Px J g tt te (σf σ) H2 Fin)
 (fin:∀C s' σ' H' acc m,s2.heap.objs.size<=C->C≠s2.heap.objs.size->Inv (BC X N' scope cl C s2 H2 fp) [] σ' H' s'->H' s2.heap.objs.size=none->acc.length<=sizeLine->(∃its n,Vals acc its/\s'.heap.get? s2.heap.objs.size=some { cls:=.type "list",data:=.seq its.toArray n })->Fin acc H'->s'.heap.Ns C m->
   RR (.ref s2.heap.objs.size) C (.ok .next) s') :
 wpAny (model X.prog X.w) X.A (newList []) (λacc s₃=>wpAny (model X.prog X.w) X.A (newFunctionEnv scope X.env.globals cl [] X.env.qual none .none (some X.env)) (λcenv s₄=>
  codeAny (model X.prog X.w) X.A (.compStart (.ListComp elt [⟨tg,iter,ifs,0⟩] scope pos) 0 (.ref it) acc { cenv with scope:=relabel scope X.env }) (RR acc cenv.locals) s₄) E s₃) E s2:=by
 refine wpAny_newObj_type (wpAny_newFunctionEnv O.cell (by intro y hy;simp at hy) (λh₁ hns₁ hsb₁=>?_) O.kind);dsimp only at hns₁ hsb₁ ⊢;generalize hH2:s2.heap.push { cls:=.type "list",dict:=none,data:=.seq ([]:List Value).toArray }=HP at hns₁ hsb₁ ⊢;have hC:HP.objs.size=s2.heap.objs.size + 1:=by rw [<-hH2,Heap.size_push]
 generalize hDD:s2.heap.objs.size=DD at *;generalize hCC:HP.objs.size=CC at *;have hDC:DD≠CC:=by rw [hC];exact Nat.ne_of_lt (Nat.lt_succ_self _)
 have hCle:s2.heap.objs.size<=CC:=by rw [hC,hDD];exact Nat.le_succ _
 have hlt:∀b∈fp,b < s2.heap.objs.size:=λb hb=>by obtain ⟨o,e,_⟩:=T.obj _ _ st2 b hb;exact Heap.lt_size e
 have hlt':∀b∈fp,b < DD:=λb hb=>by rw [<-hDD];exact hlt b hb
 have below:∀b,b < DD->b≠CC/\b≠DD:=λb hb=>⟨by rw [hC];exact Nat.ne_of_lt (Nat.lt_succ_of_lt hb),Nat.ne_of_lt hb⟩;have old:∀b o,s2.heap.get? b=some o->h₁.get? b=some o:=λb o e=>hsb₁.extBut b o (below b (by rw [<-hDD];exact Heap.lt_size e)).1 (Heap.get?_push_of_some _ (hH2 ▸ Heap.get?_push_of_some _ e));have hacc:h₁.get? DD=some { cls:=.type "list",data:=.seq ([]:List Value).toArray }:=by
  refine hsb₁.extBut _ _ hDC (Heap.get?_push_of_some _ ?_);rw [<-hH2,<-hDD];exact Heap.get?_push_size _ rfl
 have ok:=Vr (cl:=cl) (C:=CC) O I2 f2 hCle hlt e2 e4;have hfs:DD∉frs X.stack:=Xc I2 (by rw [hDD];exact Nat.le_refl _);obtain ⟨W,⟨m0,w0⟩,turn⟩:=B
 let X':Cx:=BC X N' scope cl CC s2 H2 fp
 have I0:Inv X' [] (σf σ) H2 { s2 with heap:=h₁,toks:=s2.toks + ([]:List (Str×Value)).length }:=by
  refine ⟨ok,rfl,I2.bare,Un.kept old,⟨_,hns₁,λj x v q1 q2 q3=>?_⟩,λx c e=>?_,I2.hok.fresh hCle,λx c e=>I2.freeC x c (e2 x c e),(λp hp=>nomatch hp),I2.hok.kept old,O.len σ I2.len⟩
  ·obtain ⟨i,n1,n2,n3⟩:=O.vals σ j x v q1 q2;obtain ⟨m,_,hl⟩:=I2.loc;have hfr:=O.free _ (Ci n3) rfl;obtain ⟨u,r,l⟩:=hl i x v n1 n2 (.inr hfr);refine ⟨u,r,?_⟩;rcases l with ⟨k,_⟩ | ⟨_,c,ec,hcell⟩
   ·rcases hfr with z | z <;> (have z':=k.symm.trans z;cases z')
   ·obtain ⟨c',ec'⟩:=e4 _ (Ci n3) rfl;have z:=e2 _ _ ec';have ez:X.env.cells.lookup x=some c':=z;rw [ec] at ez
    cases ez
    refine .inr ⟨?_,c,ec',?_⟩
    ·show (relabel scope X.env).names.lookup x=some .cell\/(relabel scope X.env).names.lookup x=some .free;rw [Fv,n3];simp only [Option.map_some]
     split
     ·exact .inl rfl
     ·exact .inr rfl
    ·obtain ⟨o,ho,hd⟩:=hcell;exact ⟨o,old _ _ ho,hd⟩
  ·obtain ⟨v,o,ho,hd⟩:=I2.cell x c (e2 x c e);exact ⟨v,o,old _ _ ho,hd⟩
 have loop:∀s₃:Shared,s₃ = { s2 with heap:=h₁,toks:=s2.toks + ([]:List (Str×Value)).length }->
  codeAny (model X.prog X.w) X.A (.compLoop (.ListComp elt [⟨tg,iter,ifs,0⟩] scope pos) 0 (.ref it) (.ref DD) (compEnvC scope cl CC X.env)) (RR (.ref DD) CC) s₃:=by
  rintro s₃ rfl;refine KB (λn s'=>∃i acc its nn σ' H',Inv X' [] σ' H' s'/\tn i s'.heap/\(∀b∈fp,H' b=none)/\Vals acc its/\s'.heap.get? DD=some { cls:=.type "list",data:=.seq its.toArray nn }/\H' DD=none/\W i n acc σ' H') ?_ m0
   ⟨0,[],[],0,σf σ,H2,I0,T.keep _ _ _ st2 (λb _ o e=>old b o e),λb hb=>(f2 b hb).1,.nil,hacc,I2.hok.fresh (by rw [hDD];exact Nat.le_refl _),w0⟩
  rintro n s' ⟨i,acc,its,nn,σ3,H3,I3,st3,fr3,hv,hD,hDn,w3⟩;have I3p:Inv X' [(DD,({ cls:=.type "list",data:=.seq its.toArray nn }:Obj))] σ3 H3 s':=I3.pins_of λp hp=>by
   have e:p=(DD,({ cls:=.type "list",data:=.seq its.toArray nn }:Obj)):=by simpa using hp
   subst e;exact ⟨hD,hDn,hDC,hfs,λv z=>nomatch z⟩
  have stat:∀{pins':List (Addr×Obj)} {H':Hp},(∀p∈pins',p.1=DD)->(∀b∈fp,H' b=none)->∀b∈fp,FpOk X' pins' H' b:=λ{pins' H'} hp hn b hb=>
   ⟨hn b hb,(ok.exf b hb).1,ok.exfs b hb,.inl hb,(ok.exf b hb).2,λp hp' z=>by
    have e:p.1=DD:=hp p (by simpa [X',BC] using hp');exact absurd (hlt' b hb) (by rw [<-z,e];exact Nat.lt_irrefl _)⟩
  have one:∀p∈[(DD,({ cls:=.type "list",data:=.seq its.toArray nn }:Obj))],p.1=DD:=λp hp=>by
   have e:p=(DD,({ cls:=.type "list",data:=.seq its.toArray nn }:Obj)):=by simpa using hp
   rw [e]
  obtain ⟨hz,tr⟩:=turn i n acc σ3 H3 w3;rcases tr with ⟨stop,qf⟩ | ⟨go,step⟩
  ·refine thn (T.done X' rfl rfl rfl hc i _ s' σ3 H3 (λ_ _=>False) I3p (stat one fr3) st3 stop) λr s4 z9=>?_;obtain ⟨hr,I4⟩:=z9;subst hr;obtain ⟨m4,hm4,_⟩:=I4.loc;have pD:=(I4.pin (DD,({ cls:=.type "list",data:=.seq its.toArray nn }:Obj)) (by simp [X',BC])).1;have I4':Inv X' [] σ3 H3 s4:=I4.pins_of λp hp=>nomatch hp;exact fin CC s4 σ3 H3 acc m4 (by rw [hDD] at hCle;exact hCle) (Ne.symm hDC) I4' hDn hz ⟨its,nn,hv,pD⟩ qf hm4
  ·refine thn (T.item X' rfl rfl rfl hc i _ s' σ3 H3 (λ_ _=>False) I3p (stat one fr3) st3 go) λr s4 z9=>?_;obtain ⟨u,hr,h4⟩:=z9;subst hr;refine thn h4 λ_ s5 z9=>?_;obtain ⟨x,H5,I5,r5,y5,st5,fr5⟩:=z9;have I5':=I5.pinned (stat one fr5) (T.obj _ _ st5);refine thn (hg CC _ s5 σ3 H5 x u _ I5' r5 (step x H5 y5)) λ_ s6 z9=>?_;obtain ⟨σ6,H6,I6,q6⟩:=z9;refine thn (ht CC _ s6 σ6 H6 _ I6 q6) λb s7 z9=>?_;obtain ⟨H7,I7,q7⟩:=z9;have back:∀{H8:Hp} {s8:Shared},Inv X' ([(DD,({ cls:=.type "list",data:=.seq its.toArray nn }:Obj))]++GG fp s5.heap) σ6 H8 s8->
    s8.heap.get? DD=some { cls:=.type "list",data:=.seq its.toArray nn }/\H8 DD=none/\tn (i + 1) s8.heap/\(∀b∈fp,H8 b=none)/\Inv X' [] σ6 H8 s8:=λ{H8 s8} I8=>by
    have p1:=I8.pin (DD,({ cls:=.type "list",data:=.seq its.toArray nn }:Obj)) (by simp [X',BC]);refine ⟨p1.1,p1.2.1,T.keep _ _ _ st5 λb hb o e=>(I8.pin (b,o) (List.mem_append_right _ (List.mem_append_right _ (Eu hb e)))).1,λb hb=>?_,I8.pins_of λp hp=>nomatch hp⟩;obtain ⟨o,e,_⟩:=T.obj _ _ st5 b hb;exact (I8.pin (b,o) (List.mem_append_right _ (List.mem_append_right _ (Eu hb e)))).2.1
   cases b with
   | false=>
     rw [if_neg Bool.false_ne_true] at q7 ⊢;obtain ⟨m',hm,w7⟩:=q7;obtain ⟨a1,a2,a3,a4,a5⟩:=back I7;exact ⟨m',hm,i + 1,acc,its,nn,σ6,H7,a5,a3,a4,hv,a1,a2,w7⟩
   | true=>
     rw [if_pos rfl] at q7 ⊢;refine thn (he CC _ s7 σ6 H7 _ I7 q7) λy s8 z9=>?_;obtain ⟨v8,H8,I8,r8,m',hm,w8⟩:=z9;obtain ⟨a1,a2,a3,a4,a5⟩:=back I8;have hsz:its.toArray.size<=sizeLine:=by
      have e:=hv.length;simpa [e] using hz
     refine wpAny_list_append_plain (hsz:=hsz) ⟨nn,a1⟩ λh9 hl9 hs9=>?_;obtain ⟨n9,e9⟩:=hl9;have e9':h9.get? DD=some { cls:=.type "list",data:=.seq (its++[y]).toArray n9 }:=by simpa using e9
     refine ⟨m',hm,i + 1,acc++[v8],its++[y],n9,σ6,H8,a5.turned (t':=s8.toks) (h':=h9) (it:=DD) (λb o hb e=>hs9.extBut b o hb e) a2 hDC (.inr (show s2.heap.objs.size<=DD by rw [hDD];exact Nat.le_refl _)) (λx' c e z=>?_) (λp hp=>nomatch hp),T.keep _ _ _ a3 λb hb o e=>hs9.extBut b o (Nat.ne_of_lt (hlt' b hb)) e,a4,hv.append (.cons r8 .nil),e9',a2,w8⟩;obtain ⟨v,o,ho,hd⟩:=I2.cell x' c (e2 x' c e);have:=Heap.lt_size ho;rw [hDD,z] at this;exact Nat.lt_irrefl _ this
 exact codeAny_compStart_list (loop _ rfl) (T.self _ 0 _ _ _ (T.keep _ _ _ st2 λb _ o e=>old b o e) (loop _ rfl))
end
section
variable {X:Cx}{tg elt iter:Expr}{ifs:List Expr}{scope:Scope}{pos:Pos}{N':List Str}{wi:TI}{g:TG}{tt:TT}{te:TE}{σf:St->St}
theorem JE {σ':St}{H':Hp}{s':Shared}{C:Addr}{acc:List V}{its:List Value}{n:Nat}{h':Heap}(I2:Inv X pins σ H2 s2)(f2:∀b∈fp,FpOk X pins H2 b)
 (hC:s2.heap.objs.size<=C) (hCD:C≠s2.heap.objs.size) (I':Inv (BC X N' scope cl C s2 H2 fp) [] σ' H' s') (hDn:H' s2.heap.objs.size=none) (hz:acc.length<=sizeLine) (hv:Vals acc its)
 (hD:s'.heap.get? s2.heap.objs.size=some { cls:=.type "list",data:=.seq its.toArray n }) (hs:Heap.SameBut C s'.heap h') :
 Inv X pins σ (upd H' s2.heap.objs.size (.lst acc)) { s' with heap:=h' }:=by
 have U:=I'.base;have lt:∀b o,s2.heap.get? b=some o->b≠C/\b≠s2.heap.objs.size:=λb o e=>⟨Nat.ne_of_lt (Nat.lt_of_lt_of_le (Heap.lt_size e) hC),Nat.ne_of_lt (Heap.lt_size e)⟩;have neD:∀b u,H' b=some u->b≠s2.heap.objs.size:=λb u e=>Ay e hDn;have neC:∀b u,H' b=some u->b≠C:=λb u e=>Ay e I'.free;refine I2.call' (s':={ s' with heap:=h' }) (ch:=fp) I'.os ⟨λb o e n hb hx=>?_,λb o e n hb hx=>?_,λb o e n hx=>?_,λb o e hx=>?_,λb xs e=>?_,λb o u e=>?_,λb ps e=>?_⟩ ?_ I'.bare λb hb=>⟨(f2 b hb).2.2.2.1,(f2 b hb).2.1,(f2 b hb).2.2.2.2.1,(f2 b hb).2.2.2.2.2⟩
 ·exact hs.extBut b o (lt b o e).1 (U.keep b o e n hb hx)
 ·obtain ⟨sl,q⟩:=U.slot b o e n hb hx;exact ⟨sl,hs.extBut b _ (lt b o e).1 q⟩
 ·rw [Al (lt b o e).2];exact U.free b o e n hx
 ·obtain ⟨o',q⟩:=U.there b o e hx;exact ⟨o',hs.extBut b _ (lt b o e).1 q⟩
 ·have q:=U.tups b xs e;rw [Al (neD b _ q)];exact q
 ·have q:=U.frzs b o u e;rw [Al (neD b _ q)];exact q
 ·obtain ⟨m,q⟩:=U.tbls b ps e;exact ⟨m,by rw [Al (neD b _ q)];exact q⟩
 ·intro b u e
  by_cases hb:b=s2.heap.objs.size
  ·subst hb;rw [Aw] at e
   cases e
   exact ⟨hz,its,n,hv,hs.extBut _ _ (Ne.symm hCD) hD⟩
  ·rw [Al hb] at e;refine (I'.hok b u e).stay (λc v hc q=>hs.extBut c v ?_ q) (λc q=>by rw [Al (neD c _ q)];exact q) λc xs q=>by rw [Al (neD c _ q)];exact q
   rcases hc with z | z
   ·rw [z];exact neC b u e
   ·exact neC c _ z
theorem Uc (O:CmpOk X scope N' σf)(hc:X.calm=true)(hi:PI X tg iter wi)
 (hg:∀cl C s2 H2 fp,PG (BC X N' scope cl C s2 H2 fp) tg g) (ht:∀cl C s2 H2 fp,PIf (BC X N' scope cl C s2 H2 fp) ifs tt) (he:∀cl C s2 H2 fp,PE (BC X N' scope cl C s2 H2 fp) elt te)
 (hs:∀x,foldedSetIterable iter X.env x=pure x:=by intro _;rfl):PE X (.ListComp elt [⟨tg,iter,ifs,0⟩] scope pos) (J6 wi g tt te σf):=by
 intro pins s σ H Q I h;obtain ⟨cl,e1,e2,e4⟩:=Ij (scope:=scope) (env:=X.env) λy hy hf=>I.ok.has y.1 (O.free y hy hf);rw [eval_ListComp];refine wpAny_comprehension_free (use:=none) rfl hs e1 O.kind O.loc (thn (hi pins s σ H _ I h) λv s1 h1=>thn h1 λitv s2 h2=>?_);obtain ⟨it,fp,tn,J,H2,rfl,I2,T,st2,f2,B⟩:=h2;refine Kq (RR:=λacc C=>compPost (model X.prog X.w) X.A X.xe none (EP X pins σ Q) acc C) O hc I2 T st2 f2 e2 e4 (λC=>hg cl C s2 H2 fp) (λC=>ht cl C s2 H2 fp) (λC=>he cl C s2 H2 fp) B ?_;intro C s' σ' H' acc m hC hCD I' hDn hz hL fin hn;obtain ⟨its,n,hv,hD⟩:=hL;refine ⟨m,hn,λh' hs'=>?_⟩;exact ⟨.ref s2.heap.objs.size,upd H' _ (.lst acc),JE I2 f2 hC hCD I' hDn hz hv hD hs',rfl,fin _ hDn hz⟩
theorem Ms {i:Nat}{y:Str}{py spos:Pos}(O:CmpOk X scope N' σf)(hc:X.calm=true)(hN:X.N.Nodup)(hiN:X.N[i]?=some y)(hx:X.env.scope.names.lookup y=some .local)(hi:PI X tg iter wi)
 (hg:∀cl C s2 H2 fp,PG (BC X N' scope cl C s2 H2 fp) tg g) (ht:∀cl C s2 H2 fp,PIf (BC X N' scope cl C s2 H2 fp) ifs tt) (he:∀cl C s2 H2 fp,PE (BC X N' scope cl C s2 H2 fp) elt te)
 (hsw:swapsWith (.ListComp elt [⟨tg,iter,ifs,0⟩] scope pos) (some (.Name y py)) spos.line X.env=pure true:=by rfl)
 (hs:∀x,foldedSetIterable iter X.env x=pure x:=by intro _;rfl):PS X (.Assign [.Name y py] (.ListComp elt [⟨tg,iter,ifs,0⟩] scope pos) spos) (Lz (J6 wi g tt te σf) (Iu i)):=by
 intro pins s σ H D I h;obtain ⟨cl,e1,e2,e4⟩:=Ij (scope:=scope) (env:=X.env) λy hy hf=>I.ok.has y.1 (O.free y hy hf);rw [exec_Assign_Name_used _ _ _ _ hsw];refine wpAny_bind (wpAny_standAt (wpAny_bind ?_));show wpAny _ X.A (do let _ <-comprehension (.ListComp elt [⟨tg,iter,ifs,0⟩] scope pos) scope X.env _ (newList []) false (eval iter X.env) (some (assign (.Name y py) X.env))) _ _ s;refine wpAny_bind (thn (wpAny_comprehension_free (use:=some (assign (.Name y py) X.env)) (Q:=λ_ s'=>SP X pins D .next s') rfl hs e1 O.kind O.loc (thn (hi pins s σ H _ I h) λv s1 h1=>thn h1 λitv s2 h2=>?_)) (λ_ s' hq=>wpAny_pure (wpAny_pure hq)));obtain ⟨it,fp,tn,J,H2,rfl,I2,T,st2,f2,B⟩:=h2;refine Kq (RR:=λacc C=>compPost (model X.prog X.w) X.A X.xe (some (assign (.Name y py) X.env)) (λ_ s'=>SP X pins D .next s') acc C) O hc I2 T st2 f2 e2 e4 (λC=>hg cl C s2 H2 fp) (λC=>ht cl C s2 H2 fp) (λC=>he cl C s2 H2 fp) B ?_;intro C s' σ' H' acc m hC hCD I' hDn hz hL fin hn;obtain ⟨its,n,hv,hD⟩:=hL;show wpAny _ X.A (assign (.Name y py) X.env (.ref s2.heap.objs.size)) _ _ _;have I3:=JE I2 f2 hC hCD I' hDn hz hv hD (Heap.SameBut.refl ..);refine wpAny_assign_Name (JQ I3 hN hiN (.inl hx) (v:=.ref s2.heap.objs.size) rfl (λs4 I4 z9=>?_) (.inr hx));obtain ⟨a,hsb,ha⟩:=z9;have hCL:C≠X.env.locals:=Nat.ne_of_gt (Nat.lt_of_lt_of_le I2.lt hC);have hCc:∀x c,X.env.cells.lookup x=some c->c≠C:=λx c e z=>by
  obtain ⟨v,q⟩:=I2.cell x c e;exact absurd (Nat.lt_of_lt_of_le q.lt (by rw [z];exact hC)) (Nat.lt_irrefl _)
 have hCa:C≠a:=by
  rcases ha with z | z
  ·rw [z];exact hCL
  ·exact λq=>hCc _ _ z q.symm
 refine ⟨m,hn.sameBut hsb hCa,λh' hs'=>?_⟩;have hnC:(upd H' s2.heap.objs.size (.lst acc)) C=none:=by rw [Al hCD];exact I'.free
 refine ⟨_,_,I4.turned (t':=s4.toks) (h':=h') (it:=C) (λb o hb e=>hs'.extBut b o hb e) hnC hCL (.inr (Nat.le_trans I2.sz hC)) hCc (λp hp z=>?_),fin _ hDn hz⟩;exact absurd (Nat.lt_of_lt_of_le (Heap.lt_size (I2.pin p hp).1) (by rw [z];exact hC)) (Nat.lt_irrefl _)
end
end L2
set_option autoImplicit false
namespace F2
open PySem L2 PySem.Spec
inductive D where
 | non | bl (b:Bool) | int (i:Int) | str (x:Str) | tup (xs:List D) | lst (xs:List D) | scr (ns:List Int) | dic | obj (k:Nat) | ty (n:String) | exc (n:Str) (xs:List D)
structure Cf where
 ι:List Addr
 O:Addr->Prop
def Cf.A (c:Cf)(a:Addr):Prop:=a∈c.ι\/c.O a
def Scr (K:PySem.W.Frag)(c:Cf)(H:Hp)(a:Addr)(vs:List V):Prop:=
 ((∃o,H a=some (.frz o (.lst vs)))/\¬c.A a)\/
   ∃(o:Obj) (its:Array Value) (n:Nat),K.lookup a=some o/\o.cls = .type "list"/\o.dict=none/\o.data = .seq its n/\its.size<=sizeLine/\Vals vs its.toList
def XIs (qx:Bool)(x C:Addr)(dx:Option Addr)(h:Heap):Prop:=∃(o:Obj) (vs:Array Value),h.get? x=some o/\o.cls = .ref C/\o.dict=dx/\o.data = .fields vs/\(qx=true->vs[2]?=some .none/\4 < vs.size)
noncomputable def Jd (n:Str):List Str:=if n = "NoTalk" then ["at"] else if n = "Broken" then ["at", "side"] else []
def XFld (c:Cf)(H:Hp)(dx:Option Addr)(ns:List Str)(vs:List V):Prop:=match dx with
 | none=>vs=[]
 | some d=>H d=some (.xd (ns.zip vs))/\¬c.A d
mutual
inductive Rep (K:PySem.W.Frag)(c:Cf)(H:Hp):V->D->Prop where
 | non:Rep K c H .non .non
 | bl (b:Bool):Rep K c H (.bl b) (.bl b)
 | int (i:Int):Rep K c H (.int i) (.int i)
 | str (x:Str):Rep K c H (.str x) (.str x)
 | ty (n:String):Rep K c H (.ty n) (.ty n)
 | tup {a:Addr} {vs:List V} {ds:List D}:H a=some (.tup vs)->¬c.A a->Reps K c H vs ds->Rep K c H (.ref a) (.tup ds)
 | lst {a:Addr} {vs:List V} {ds:List D}:H a=some (.lst vs)->¬c.A a->Reps K c H vs ds->Rep K c H (.ref a) (.lst ds)
 | scr {a:Addr} {ns:List Int}:Scr K c H a (ns.map V.int)->Rep K c H (.ref a) (.scr ns)
 | dic {a:Addr}:H a=some (.dK [])->¬c.A a->Rep K c H (.ref a) .dic
 | obj {a:Addr} {k:Nat}:c.ι[k]?=some a->Rep K c H (.ref a) (.obj k)
 | exc {qx:Bool} {x C:Addr} {dx:Option Addr} {n:Str} {vs:List V} {ds:List D}:PySem.W.nsIn K mainGlobals n=some (some (.ref C))->H x=some (.ext (XIs qx x C dx))->¬c.A x->XFld c H dx (Jd n) vs->Reps K c H vs ds->Rep K c H (.ref x) (.exc n ds)
inductive Reps (K:PySem.W.Frag)(c:Cf)(H:Hp):List V->List D->Prop where
 | nil:Reps K c H [] []
 | cons {v:V} {d:D} {vs:List V} {ds:List D}:Rep K c H v d->Reps K c H vs ds->Reps K c H (v :: vs) (d :: ds)
end
structure Ext (c:Cf)(H:Hp)(c':Cf)(H':Hp):Prop where
 keep:∀b o,H b=some o->¬c.A b->H' b=some o
 av:∀b o,H b=some o->c'.A b->c.A b
 io:∀(k:Nat) (a:Addr),c.ι[k]?=some a->c'.ι[k]?=some a
variable {c:Cf}{H:Hp}
theorem Ext.refl:Ext c H c H:=⟨λ_ _ h _=>h,λ_ _ _ h=>h,λ_ _ h=>h⟩
theorem Ext.trans {c1 c2:Cf}{H1 H2:Hp}(a:Ext c H c1 H1)(b:Ext c1 H1 c2 H2):Ext c H c2 H2:=by
 refine ⟨λx o h n=>?_,λx o h n=>?_,λk x h=>b.io k x (a.io k x h)⟩
 ·exact b.keep x o (a.keep x o h n) λz=>n (a.av x o h z)
 ·by_cases q:c.A x
  ·exact q
  ·exact a.av x o h (b.av x o (a.keep x o h q) n)
variable {K:PySem.W.Frag}{a:Addr}{vs:List V}
theorem Scr.mono {c':Cf}{H':Hp}(e:Ext c H c' H')(h:Scr K c H a vs):Scr K c' H' a vs:=by
 rcases h with ⟨⟨o,h⟩,n⟩ | h
 ·exact .inl ⟨⟨o,e.keep _ _ h n⟩,λz=>n (e.av _ _ h z)⟩
 ·exact .inr h
theorem Scr.sq (h:Scr K c H a vs):SqL K H a vs:=by
 rcases h with ⟨h,_⟩ | h
 ·exact .inl (.inr h)
 ·exact .inr h
theorem XFld.mono {c':Cf}{H':Hp}{dx:Option Addr}{ns:List Str}(e:Ext c H c' H')(h:XFld c H dx ns vs):XFld c' H' dx ns vs:=by
 cases dx with
 | none=>exact h
 | some d=>exact ⟨e.keep _ _ h.1 h.2,λz=>h.2 (e.av _ _ h.1 z)⟩
mutual
theorem Rep.mono {K:PySem.W.Frag}{c c':Cf}{H H':Hp}(e:Ext c H c' H'){v:V}{d:D}(r:Rep K c H v d):Rep K c' H' v d:=by
 cases r with
 | non=>exact .non
 | bl b=>exact .bl b
 | int i=>exact .int i
 | str x=>exact .str x
 | ty n=>exact .ty n
 | tup h n r=>exact .tup (e.keep _ _ h n) (λz=>n (e.av _ _ h z)) (Reps.mono e r)
 | lst h n r=>exact .lst (e.keep _ _ h n) (λz=>n (e.av _ _ h z)) (Reps.mono e r)
 | scr h=>exact .scr (h.mono e)
 | dic h n=>exact .dic (e.keep _ _ h n) (λz=>n (e.av _ _ h z))
 | obj h=>exact .obj (e.io _ _ h)
 | exc g h n f r=>exact .exc g (e.keep _ _ h n) (λz=>n (e.av _ _ h z)) (f.mono e) (Reps.mono e r)
theorem Reps.mono {K:PySem.W.Frag}{c c':Cf}{H H':Hp}(e:Ext c H c' H'){vs:List V}{ds:List D}(r:Reps K c H vs ds):Reps K c' H' vs ds:=by
 cases r with
 | nil=>exact .nil
 | cons h t=>exact .cons (Rep.mono e h) (Reps.mono e t)
end
section
variable {K:PySem.W.Frag}{c:Cf}{H:Hp}
theorem Reps.length:∀{vs:List V} {ds:List D},Reps K c H vs ds->vs.length=ds.length
 | _,_,.nil=>rfl
 | _,_,.cons _ t=>by simp [Reps.length t]
theorem Reps.get:∀{vs:List V} {ds:List D} {i:Nat} {v:V} {d:D},Reps K c H vs ds->vs[i]?=some v->ds[i]?=some d->Rep K c H v d
 | _,_,_,_,_,.nil,e,_=>by simp at e
 | _,_,0,_,_,.cons r _,e,e'=>by simp at e e';subst e e';exact r
 | _,_,i + 1,_,_,.cons _ t,e,e'=>Reps.get (i:=i) t (by simpa using e) (by simpa using e')
theorem Reps.at:∀{vs:List V} {ds:List D} {i:Nat} {d:D},Reps K c H vs ds->ds[i]?=some d->∃v,vs[i]?=some v/\Rep K c H v d
 | _,_,_,_,.nil,e=>by simp at e
 | _,_,0,_,.cons r _,e=>by simp at e;subst e;exact ⟨_,rfl,r⟩
 | _,_,i + 1,_,.cons _ t,e=>by
   obtain ⟨v,h1,h2⟩:=Reps.at (i:=i) t (by simpa using e);exact ⟨v,by simpa using h1,h2⟩
theorem Reps.append {vs ws:List V}{ds es:List D}(r:Reps K c H vs ds)(s:Reps K c H ws es):Reps K c H (vs++ws) (ds++es):=by
 cases r with
 | nil=>exact s
 | cons r t=>exact .cons r (Reps.append t s)
theorem Reps.take:∀{vs:List V} {ds:List D} (n:Nat),Reps K c H vs ds->Reps K c H (vs.take n) (ds.take n)
 | _,_,0,_=>.nil
 | _,_,_ + 1,.nil=>.nil
 | _,_,n + 1,.cons r t=>.cons r (Reps.take n t)
theorem Reps.drop:∀{vs:List V} {ds:List D} (n:Nat),Reps K c H vs ds->Reps K c H (vs.drop n) (ds.drop n)
 | _,_,0,r=>r
 | _,_,_ + 1,.nil=>.nil
 | _,_,n + 1,.cons _ t=>Reps.drop n t
theorem Reps.set {v:V}{d:D}(r:Rep K c H v d):∀{vs:List V} {ds:List D} (i:Nat),Reps K c H vs ds->Reps K c H (vs.set i v) (ds.set i d)
 | _,_,_,.nil=>.nil
 | _,_,0,.cons _ t=>.cons r t
 | _,_,i + 1,.cons q t=>.cons q (Reps.set r i t)
theorem Reps.ints:∀ns:List Int,Reps K c H (ns.map V.int) (ns.map D.int)
 | []=>.nil
 | n :: r=>.cons (.int n) (Reps.ints r)
theorem Reps.rep {vs:List V}{ds:List D}(h:Reps K c H vs ds):∀k:Nat,Reps K c H (List.replicate k vs).flatten (List.replicate k ds).flatten
 | 0=>.nil
 | k + 1=>by
   rw [List.replicate_succ,List.replicate_succ,List.flatten_cons,List.flatten_cons];exact h.append (Reps.rep h k)
end
inductive Ob where
 | lst (xs:List D)
 | dct (kvs:List (Key×D))
 | ins (n:Str) (fs:List (Str×D))
inductive Sl where
 | val (d:D)
 | own (xs:List D)
structure T where
 env:List (Option Sl)
 S:List Ob
def KVR (K:PySem.W.Frag)(c:Cf)(H:Hp):List (Key×V)->List (Key×D)->Prop:=Paired λp q=>p.1=q.1/\Rep K c H p.2 q.2
noncomputable def Vq:List Str:=["Reader", "Side", "Lasting", "Parley", "Listener", "Relay", "Desk"]
noncomputable def atN:List Str:=["grammar", "standing", "wires", "places", "side", "said", "taken", "handed", "left", "right", "under_way", "grammars", "standings", "heard", "left_grammar", "right_grammar", "rows", "pair", "broken", "parley"]
def YQ (K:PySem.W.Frag)(c:Cf)(H:Hp):List (Str×V)->List (Str×D)->Prop:=Paired λp q=>p.1=q.1/\Rep K c H p.2 q.2
def ObR (K:PySem.W.Frag)(c:Cf)(H:Hp)(a:Addr):Ob->Prop
 | .lst ds=>∃vs,H a=some (.lst vs)/\Reps K c H vs ds
 | .dct kvs=>∃us,H a=some (.dK us)/\KVR K c H us kvs
 | .ins n fs=>(n∈Vq/\∀p∈fs,p.1∈atN)/\∃C dx us,PySem.W.nsIn K mainGlobals n=some (some (.ref C))/\H a=some (.ins C dx us)/\YQ K c H us fs
theorem ObR.mono {K:PySem.W.Frag}{c c':Cf}{H H':Hp}{a:Addr}{o:Ob}(e:Ext c H c' H')(h:ObR K c H a o)(ha:H' a=H a):ObR K c' H' a o:=by
 cases o with
 | lst ds=>obtain ⟨vs,h1,h2⟩:=h;exact ⟨vs,ha.trans h1,h2.mono e⟩
 | dct kvs=>obtain ⟨us,h1,h2⟩:=h;exact ⟨us,ha.trans h1,Paired.mapP h2 λ_ _ z=>⟨z.1,z.2.mono e⟩⟩
 | ins n fs=>obtain ⟨h0,C,dx,us,g,h1,h2⟩:=h;exact ⟨h0,C,dx,us,g,ha.trans h1,Paired.mapP h2 λ_ _ z=>⟨z.1,z.2.mono e⟩⟩
theorem ObR.some {o:Ob}(h:ObR K c H a o):∃u,H a=some u:=by
 cases o with
 | lst ds=>obtain ⟨vs,h1,_⟩:=h;exact ⟨_,h1⟩
 | dct kvs=>obtain ⟨us,h1,_⟩:=h;exact ⟨_,h1⟩
 | ins n fs=>obtain ⟨_,_,_,_,_,h1,_⟩:=h;exact ⟨_,h1⟩
structure SInv (K:PySem.W.Frag)(c:Cf)(S:List Ob)(H:Hp):Prop where
 len:c.ι.length=S.length
 nd:c.ι.Nodup
 obs:∀(k:Nat) (a:Addr) (o:Ob),c.ι[k]?=some a->S[k]?=some o->ObR K c H a o
 trk:∀b,c.O b->∃o,H b=some o
 dis:∀b,c.O b->b∉c.ι
variable {S:List Ob}
theorem SInv.trkA (s:SInv K c S H){b:Addr}(h:c.A b):∃o,H b=some o:=by
 rcases h with h | h
 ·obtain ⟨k,hk,e⟩:=List.mem_iff_getElem.mp h;have e1:c.ι[k]?=some b:=by rw [List.getElem?_eq_getElem hk,e]
  have hk':k < S.length:=by rw [<-s.len];exact hk
  exact (s.obs k b _ e1 (List.getElem?_eq_getElem hk')).some
 ·exact s.trk b h
theorem SInv.free (s:SInv K c S H){b:Addr}(h:H b=none):¬c.A b:=λz=>by
 obtain ⟨o,e⟩:=s.trkA z;rw [h] at e;cases e
structure FInv (K:PySem.W.Frag)(Oo:Addr->Prop)(c:Cf)(t:T)(σ:St)(H:Hp):Prop where
 s:SInv K c t.S H
 len:t.env.length=σ.length
 sub:∀b,Oo b->c.O b
 val:∀(i:Nat) (d:D),t.env[i]?=some (some (.val d))->∃v,σ[i]?=some (some v)/\Rep K c H v d
 own:∀(i:Nat) (ds:List D),t.env[i]?=some (some (.own ds))->∃a vs,σ[i]?=some (some (.ref a))/\c.O a/\¬Oo a/\H a=some (.lst vs)/\Reps K c H vs ds
 inj:∀(i j:Nat) (ds es:List D) (a:Addr),t.env[i]?=some (some (.own ds))->t.env[j]?=some (some (.own es))->σ[i]?=some (some (.ref a))->σ[j]?=some (some (.ref a))->i=j
structure Stp (Oo:Addr->Prop)(c:Cf)(H:Hp)(c':Cf)(H':Hp):Prop where
 ext:Ext c H c' H'
 oo:∀b,Oo b->H' b=H b
theorem Stp.refl {Oo:Addr->Prop}{c:Cf}{H:Hp}:Stp Oo c H c H:=⟨.refl,λ_ _=>rfl⟩
theorem Stp.trans {Oo:Addr->Prop}{c c1 c2:Cf}{H H1 H2:Hp}(a:Stp Oo c H c1 H1)(b:Stp Oo c1 H1 c2 H2):Stp Oo c H c2 H2:=
 ⟨a.ext.trans b.ext,λx h=>(b.oo x h).trans (a.oo x h)⟩
section
variable {K:PySem.W.Frag}{Oo:Addr->Prop}{c:Cf}{t:T}{σ:St}{H:Hp}
theorem Ext.laid (s:SInv K c S H){p:Addr}{o:HO}(h:H p=none):Ext c H c (upd H p o):=
 ⟨λb u e _=>by rw [Al (Ay e h)];exact e,λ_ _ _ z=>z,λ_ _ e=>e⟩
theorem SInv.laid {S:List Ob}(s:SInv K c S H){p:Addr}{o:HO}(h:H p=none):SInv K c S (upd H p o):=
 ⟨s.len,s.nd,λk a u e1 e2=>by
  have q:=s.obs k a u e1 e2;obtain ⟨w,hw⟩:=q.some;exact q.mono (Ext.laid s h) (Al (Ay hw h)),
  λb z=>by obtain ⟨u,e⟩:=s.trk b z;exact ⟨u,by rw [Al (Ay e h)];exact e⟩,s.dis⟩
theorem FInv.laid (f:FInv K Oo c t σ H){p:Addr}{o:HO}(h:H p=none):FInv K Oo c t σ (upd H p o):=by
 have e:=Ext.laid (o:=o) f.s h;refine ⟨f.s.laid h,f.len,f.sub,λi d q=>?_,λi ds q=>?_,f.inj⟩
 ·obtain ⟨v,h1,h2⟩:=f.val i d q;exact ⟨v,h1,h2.mono e⟩
 ·obtain ⟨a,vs,h1,h2,h3,h4,h5⟩:=f.own i ds q;exact ⟨a,vs,h1,h2,h3,by rw [Al (Ay h4 h)];exact h4,h5.mono e⟩
theorem FInv.stp_laid (f:FInv K Oo c t σ H){p:Addr}{o:HO}(h:H p=none):Stp Oo c H c (upd H p o):=
 ⟨Ext.laid f.s h,λb z=>by obtain ⟨u,e⟩:=f.s.trk b (f.sub b z);exact Al (Ay e h)⟩
theorem FInv.set (f:FInv K Oo c t σ H){i:Nat}{v:V}{d:D}(r:Rep K c H v d):FInv K Oo c { t with env:=t.env.set i (some (.val d)) } (σ.set i (some v)) H:=by
 have neq:∀{j:Nat} {x:Sl},(t.env.set i (some (.val d)))[j]?=some (some x)->(j=i/\x = .val d/\j < t.env.length)\/(j≠i/\t.env[j]?=some (some x)):=λ{j x} q=>by
  by_cases h:j=i
  ·subst h;rw [List.getElem?_set] at q
   split at q
   ·split at q
    ·next h1=>injection q with q;injection q with q;exact .inl ⟨rfl,q.symm,h1⟩
    ·cases q
   ·next h1=>exact absurd rfl h1
  ·rw [List.getElem?_set_ne (Ne.symm h)] at q;exact .inr ⟨h,q⟩
 refine ⟨f.s,by simp [f.len],f.sub,λj e q=>?_,λj ds q=>?_,λj k ds es a q1 q2 q3 q4=>?_⟩
 ·rcases neq q with ⟨rfl,z,hl⟩ | ⟨h,q⟩
  ·cases z
   exact ⟨v,by rw [List.getElem?_set_self (by rw [<-f.len];exact hl)],r⟩
  ·obtain ⟨u,h1,h2⟩:=f.val j e q;exact ⟨u,by rw [List.getElem?_set_ne (Ne.symm h)];exact h1,h2⟩
 ·rcases neq q with ⟨rfl,z,_⟩ | ⟨h,q⟩
  ·cases z
  ·obtain ⟨a,vs,h1,h2⟩:=f.own j ds q;exact ⟨a,vs,by rw [List.getElem?_set_ne (Ne.symm h)];exact h1,h2⟩
 ·rcases neq q1 with ⟨_,z,_⟩ | ⟨h,q1⟩
  ·cases z
  rcases neq q2 with ⟨_,z,_⟩ | ⟨h',q2⟩
  ·cases z
  rw [List.getElem?_set_ne (Ne.symm h)] at q3;rw [List.getElem?_set_ne (Ne.symm h')] at q4;exact f.inj j k ds es a q1 q2 q3 q4
theorem FInv.setOwn (f:FInv K Oo c t σ H){i:Nat}{p:Addr}{vs:List V}{ds:List D}(h:H p=none)(r:Reps K c H vs ds) :
 ∃c',FInv K Oo c' { t with env:=t.env.set i (some (.own ds)) } (σ.set i (some (.ref p))) (upd H p (.lst vs))/\Stp Oo c H c' (upd H p (.lst vs)):=by
 let c':Cf:=⟨c.ι,λb=>c.O b\/b=p⟩
 have nA:¬c.A p:=f.s.free h;have ext:Ext c H c' (upd H p (.lst vs)):=by
  refine ⟨λb u e _=>by rw [Al (Ay e h)];exact e,λb u e z=>?_,λ_ _ e=>e⟩;rcases z with z | z | z
  ·exact .inl z
  ·exact .inr z
  ·subst z;rw [h] at e;cases e
 have stp:Stp Oo c H c' (upd H p (.lst vs)):=⟨ext,λb z=>by obtain ⟨u,e⟩:=f.s.trk b (f.sub b z);exact Al (Ay e h)⟩;have sinv:SInv K c' t.S (upd H p (.lst vs)):=by
  refine ⟨f.s.len,f.s.nd,λk a u e1 e2=>?_,λb z=>?_,λb z hb=>?_⟩
  ·have q:=f.s.obs k a u e1 e2;obtain ⟨w,hw⟩:=q.some;exact q.mono ext (Al (Ay hw h))
  ·rcases z with z | z
   ·obtain ⟨u,e⟩:=f.s.trk b z;exact ⟨u,by rw [Al (Ay e h)];exact e⟩
   ·subst z;exact ⟨_,Aw⟩
  ·rcases z with z | z
   ·exact f.s.dis b z hb
   ·subst z;exact nA (.inl hb)
 have neq:∀{j:Nat} {x:Sl},(t.env.set i (some (.own ds)))[j]?=some (some x)->(j=i/\x = .own ds/\j < t.env.length)\/(j≠i/\t.env[j]?=some (some x)):=λ{j x} q=>by
  by_cases h:j=i
  ·subst h;rw [List.getElem?_set] at q
   split at q
   ·split at q
    ·next h1=>injection q with q;injection q with q;exact .inl ⟨rfl,q.symm,h1⟩
    ·cases q
   ·next h1=>exact absurd rfl h1
  ·rw [List.getElem?_set_ne (Ne.symm h)] at q;exact .inr ⟨h,q⟩
 have fresh:∀(j:Nat) (es:List D),t.env[j]?=some (some (.own es))->σ[j]?≠some (some (.ref p)):=λj es q z=>by
  obtain ⟨a,vs',h1,_,_,h4,_⟩:=f.own j es q;rw [h1] at z;injection z with z;injection z with z;injection z with z;subst z;rw [h] at h4;cases h4
 refine ⟨c',⟨sinv,by simp [f.len],λb z=>.inl (f.sub b z),λj e q=>?_,λj es q=>?_,λj k ds' es a q1 q2 q3 q4=>?_⟩,stp⟩
 ·rcases neq q with ⟨_,z,_⟩ | ⟨hn,q⟩
  ·cases z
  ·obtain ⟨u,h1,h2⟩:=f.val j e q;exact ⟨u,by rw [List.getElem?_set_ne (Ne.symm hn)];exact h1,h2.mono ext⟩
 ·rcases neq q with ⟨rfl,z,hl⟩ | ⟨hn,q⟩
  ·cases z
   refine ⟨p,vs,by rw [List.getElem?_set_self (by rw [<-f.len];exact hl)],.inr rfl,λz=>?_,Aw,r.mono ext⟩;obtain ⟨u,e⟩:=f.s.trk p (f.sub p z);rw [h] at e;cases e
  ·obtain ⟨a,ws,h1,h2,h3,h4,h5⟩:=f.own j es q;exact ⟨a,ws,by rw [List.getElem?_set_ne (Ne.symm hn)];exact h1,.inl h2,h3,by rw [Al (Ay h4 h)];exact h4,h5.mono ext⟩
 ·rcases neq q1 with ⟨z1,z2,l1⟩ | ⟨n1,r1⟩
  ·rcases neq q2 with ⟨y1,_,_⟩ | ⟨n2,r2⟩
   ·rw [z1,y1]
   ·subst z1;rw [List.getElem?_set_self (by rw [<-f.len];exact l1)] at q3;injection q3 with q3;injection q3 with q3;injection q3 with q3;subst q3
    rw [List.getElem?_set_ne (Ne.symm n2)] at q4;exact absurd q4 (fresh k es r2)
  ·rcases neq q2 with ⟨y1,y2,l2⟩ | ⟨n2,r2⟩
   ·subst y1;rw [List.getElem?_set_self (by rw [<-f.len];exact l2)] at q4;injection q4 with q4;injection q4 with q4;injection q4 with q4;subst q4
    rw [List.getElem?_set_ne (Ne.symm n1)] at q3;exact absurd q3 (fresh j ds' r1)
   ·rw [List.getElem?_set_ne (Ne.symm n1)] at q3;rw [List.getElem?_set_ne (Ne.symm n2)] at q4;exact f.inj j k ds' es a r1 r2 q3 q4
theorem FInv.frz (f:FInv K Oo c t σ H){i:Nat}{ds:List D}(q:t.env[i]?=some (some (.own ds))) :
 ∃c' v,FInv K Oo c' { t with env:=t.env.set i (some (.val (.lst ds))) } σ H/\Stp Oo c H c' H/\σ[i]?=some (some v)/\Rep K c' H v (.lst ds):=by
 obtain ⟨a,vs,h1,h2,h3,h4,h5⟩:=f.own i ds q
 let c':Cf:=⟨c.ι,λb=>c.O b/\b≠a⟩
 have ext:Ext c H c' H:=⟨λ_ _ e _=>e,λb u e z=>z.elim .inl λw=>.inr w.1,λ_ _ e=>e⟩;have sinv:SInv K c' t.S H:=⟨f.s.len,f.s.nd,λk b u e1 e2=>(f.s.obs k b u e1 e2).mono ext rfl,λb z=>f.s.trk b z.1,λb z=>f.s.dis b z.1⟩;have nA:¬c'.A a:=λz=>z.elim (λw=>f.s.dis a h2 w) λw=>w.2 rfl;have hσ:σ.set i (some (.ref a))=σ:=by
  apply List.ext_getElem?;intro j
  by_cases hj:j=i
  ·subst hj;rw [List.getElem?_set_self (by have:=(List.getElem?_eq_some_iff.mp h1).1;exact this),h1]
  ·rw [List.getElem?_set_ne (Ne.symm hj)]
 have r:Rep K c' H (.ref a) (.lst ds):=.lst h4 nA (h5.mono ext);have f0:FInv K Oo c' { t with env:=t.env.set i (some (.val (.lst ds))) } σ H:=by
  have neq:∀{j:Nat} {x:Sl},(t.env.set i (some (.val (.lst ds))))[j]?=some (some x)->(j=i/\x = .val (.lst ds))\/(j≠i/\t.env[j]?=some (some x)):=λ{j x} q=>by
   by_cases h:j=i
   ·subst h;rw [List.getElem?_set] at q
    split at q
    ·split at q
     ·injection q with q;injection q with q;exact .inl ⟨rfl,q.symm⟩
     ·cases q
    ·next h1=>exact absurd rfl h1
   ·rw [List.getElem?_set_ne (Ne.symm h)] at q;exact .inr ⟨h,q⟩
  refine ⟨sinv,by simp [f.len],λb z=>⟨f.sub b z,λw=>h3 (w ▸ z)⟩,λj e q'=>?_,λj es q'=>?_,λj k ds' es b q1 q2 q3 q4=>?_⟩
  ·rcases neq q' with ⟨rfl,z⟩ | ⟨hn,q'⟩
   ·cases z;exact ⟨_,h1,r⟩
   ·obtain ⟨u,w1,w2⟩:=f.val j e q';exact ⟨u,w1,w2.mono ext⟩
  ·rcases neq q' with ⟨_,z⟩ | ⟨hn,q'⟩
   ·cases z
   ·obtain ⟨b,ws,w1,w2,w3,w4,w5⟩:=f.own j es q';refine ⟨b,ws,w1,⟨w2,λz=>?_⟩,w3,w4,w5.mono ext⟩;subst z;exact hn (f.inj j i es ds b q' q w1 h1)
  ·rcases neq q1 with ⟨_,z⟩ | ⟨_,q1⟩
   ·cases z
   rcases neq q2 with ⟨_,z⟩ | ⟨_,q2⟩
   ·cases z
   exact f.inj j k ds' es b q1 q2 q3 q4
 exact ⟨c',_,f0,⟨ext,λ_ _=>rfl⟩,h1,r⟩
theorem FInv.wrOwn (f:FInv K Oo c t σ H){i:Nat}{ds ds':List D}{vs':List V}{a:Addr}(q:t.env[i]?=some (some (.own ds)))(h1:σ[i]?=some (some (.ref a)))(r:Reps K c H vs' ds') :
 FInv K Oo c { t with env:=t.env.set i (some (.own ds')) } σ (upd H a (.lst vs'))/\Stp Oo c H c (upd H a (.lst vs')):=by
 obtain ⟨a',vs,g1,h2,h3,h4,h5⟩:=f.own i ds q;rw [h1] at g1;injection g1 with g1;injection g1 with g1;injection g1 with g1;subst g1
 have ext:Ext c H c (upd H a (.lst vs')):=⟨λb u e n=>by rw [Al (λ(z:b=a)=>n (.inr (by rw [z];exact h2)))];exact e,λ_ _ _ z=>z,λ_ _ e=>e⟩;have stp:Stp Oo c H c (upd H a (.lst vs')):=⟨ext,λb z=>Al λw=>h3 (w ▸ z)⟩;have sinv:SInv K c t.S (upd H a (.lst vs')):=by
  refine ⟨f.s.len,f.s.nd,λk b u e1 e2=>(f.s.obs k b u e1 e2).mono ext (Al λz=>f.s.dis a h2 (z ▸ List.mem_of_getElem? e1)),λb z=>?_,f.s.dis⟩
  by_cases hb:b=a
  ·subst hb;exact ⟨_,Aw⟩
  ·obtain ⟨u,e⟩:=f.s.trk b z;exact ⟨u,by rw [Al hb];exact e⟩
 have neq:∀{j:Nat} {x:Sl},(t.env.set i (some (.own ds')))[j]?=some (some x)->(j=i/\x = .own ds')\/(j≠i/\t.env[j]?=some (some x)):=λ{j x} q=>by
  by_cases h:j=i
  ·subst h;rw [List.getElem?_set] at q
   split at q
   ·split at q
    ·injection q with q;injection q with q;exact .inl ⟨rfl,q.symm⟩
    ·cases q
   ·next h1=>exact absurd rfl h1
  ·rw [List.getElem?_set_ne (Ne.symm h)] at q;exact .inr ⟨h,q⟩
 refine ⟨⟨sinv,by simp [f.len],f.sub,λj e q'=>?_,λj es q'=>?_,λj k es es' b q1 q2 q3 q4=>?_⟩,stp⟩
 ·rcases neq q' with ⟨_,z⟩ | ⟨_,q'⟩
  ·cases z
  ·obtain ⟨u,w1,w2⟩:=f.val j e q';exact ⟨u,w1,w2.mono ext⟩
 ·rcases neq q' with ⟨rfl,z⟩ | ⟨hn,q'⟩
  ·cases z;exact ⟨a,vs',h1,h2,h3,Aw,r.mono ext⟩
  ·obtain ⟨b,ws,w1,w2,w3,w4,w5⟩:=f.own j es q';have hb:b≠a:=λz=>by subst z;exact hn (f.inj j i es ds b q' q w1 h1)
   exact ⟨b,ws,w1,w2,w3,by rw [Al hb];exact w4,w5.mono ext⟩
 ·have old:∀{j:Nat} {x:List D},(t.env.set i (some (.own ds')))[j]?=some (some (.own x))->∃y,t.env[j]?=some (some (.own y)):=λ{j x} q'=>by
   rcases neq q' with ⟨rfl,_⟩ | ⟨_,q'⟩
   ·exact ⟨ds,q⟩
   ·exact ⟨x,q'⟩
  obtain ⟨y1,z1⟩:=old q1;obtain ⟨y2,z2⟩:=old q2;exact f.inj j k y1 y2 b z1 z2 q3 q4
theorem FInv.wrObj (f:FInv K Oo c t σ H){k:Nat}{a:Addr}{o:Ob}{u:HO}(e:c.ι[k]?=some a)(r:∀c' H',Ext c H c' H'->H' a=some u->ObR K c' H' a o) :
 FInv K Oo c { t with S:=t.S.set k o } σ (upd H a u)/\Stp Oo c H c (upd H a u):=by
 have hA:a∈c.ι:=List.mem_of_getElem? e;have ext:Ext c H c (upd H a u):=⟨λb w h n=>by rw [Al (λ(z:b=a)=>n (.inl (by rw [z];exact hA)))];exact h,λ_ _ _ z=>z,λ_ _ e=>e⟩;have neO:∀b,c.O b->b≠a:=λb z w=>f.s.dis b z (w ▸ hA);have stp:Stp Oo c H c (upd H a u):=⟨ext,λb z=>Al (neO b (f.sub b z))⟩;have sinv:SInv K c (t.S.set k o) (upd H a u):=by
  refine ⟨by simp [f.s.len],f.s.nd,λj b o' e1 e2=>?_,λb z=>?_,f.s.dis⟩
  ·by_cases hj:j=k
   ·subst hj;rw [e] at e1;cases e1
    have hl:j < t.S.length:=by rw [<-f.s.len];exact (List.getElem?_eq_some_iff.mp e).1
    rw [List.getElem?_set_self hl] at e2;cases e2
    exact r c _ ext Aw
   ·rw [List.getElem?_set_ne (Ne.symm hj)] at e2;refine (f.s.obs j b o' e1 e2).mono ext (Al λz=>?_);subst z;obtain ⟨l1,g1⟩:=List.getElem?_eq_some_iff.mp e1;obtain ⟨l2,g2⟩:=List.getElem?_eq_some_iff.mp e;exact hj ((List.getElem_inj f.s.nd).mp (g1.trans g2.symm))
  ·obtain ⟨w,h⟩:=f.s.trk b z;exact ⟨w,by rw [Al (neO b z)];exact h⟩
 refine ⟨⟨sinv,f.len,f.sub,λi d q=>?_,λi ds q=>?_,f.inj⟩,stp⟩
 ·obtain ⟨v,h1,h2⟩:=f.val i d q;exact ⟨v,h1,h2.mono ext⟩
 ·obtain ⟨b,vs,h1,h2,h3,h4,h5⟩:=f.own i ds q;exact ⟨b,vs,h1,h2,h3,by rw [Al (neO b h2)];exact h4,h5.mono ext⟩
theorem FInv.newObj (f:FInv K Oo c t σ H){p:Addr}{o:Ob}{u:HO}(h:H p=none)(r:∀c' H',Ext c H c' H'->H' p=some u->ObR K c' H' p o) :
 ∃c',FInv K Oo c' { t with S:=t.S++[o] } σ (upd H p u)/\Stp Oo c H c' (upd H p u)/\c'.ι[t.S.length]?=some p:=by
 let c':Cf:=⟨c.ι++[p],c.O⟩
 have nA:¬c.A p:=f.s.free h;have ext:Ext c H c' (upd H p u):=by
  refine ⟨λb w e _=>by rw [Al (Ay e h)];exact e,λb w e z=>?_,λk a e=>?_⟩
  ·rcases z with z | z
   ·rcases List.mem_append.mp z with z | z
    ·exact .inl z
    ·rw [List.mem_singleton] at z;subst z;rw [h] at e;cases e
   ·exact .inr z
  ·show (c.ι++[p])[k]?=some a;rw [List.getElem?_append_left (List.getElem?_eq_some_iff.mp e).1];exact e
 have stp:Stp Oo c H c' (upd H p u):=⟨ext,λb z=>by obtain ⟨w,e⟩:=f.s.trk b (f.sub b z);exact Al (Ay e h)⟩;have at_:(c.ι++[p])[t.S.length]?=some p:=by rw [<-f.s.len,List.getElem?_append_right (Nat.le_refl _)];simp
 have sinv:SInv K c' (t.S++[o]) (upd H p u):=by
  refine ⟨by simp [c',f.s.len],?_,λj b o' e1 e2=>?_,λb z=>?_,λb z hb=>?_⟩
  ·show (c.ι++[p]).Nodup;exact List.nodup_append.mpr ⟨f.s.nd,by simp,λx hx y hy z=>by rw [List.mem_singleton] at hy;subst z;subst hy;exact nA (.inl hx)⟩
  ·have hlt:j < (t.S++[o]).length:=(List.getElem?_eq_some_iff.mp e2).1
   by_cases hj:j < t.S.length
   ·have e1':c.ι[j]?=some b:=by
     have q:(c.ι++[p])[j]?=some b:=e1;rw [List.getElem?_append_left (by rw [f.s.len];exact hj)] at q;exact q
    rw [List.getElem?_append_left hj] at e2;have q:=f.s.obs j b o' e1' e2;obtain ⟨w,hw⟩:=q.some;exact q.mono ext (Al (Ay hw h))
   ·have hj':j=t.S.length:=by simp at hlt;lia
    subst hj';rw [at_] at e1;cases e1
    rw [List.getElem?_append_right (Nat.le_refl _)] at e2;simp at e2;subst e2;exact r c' _ ext Aw
  ·obtain ⟨w,e⟩:=f.s.trk b z;exact ⟨w,by rw [Al (Ay e h)];exact e⟩
  ·rcases List.mem_append.mp hb with w | w
   ·exact f.s.dis b z w
   ·rw [List.mem_singleton] at w;subst w;exact nA (.inr z)
 refine ⟨c',⟨sinv,f.len,f.sub,λi d q=>?_,λi ds q=>?_,f.inj⟩,stp,at_⟩
 ·obtain ⟨v,h1,h2⟩:=f.val i d q;exact ⟨v,h1,h2.mono ext⟩
 ·obtain ⟨b,vs,h1,h2,h3,h4,h5⟩:=f.own i ds q;exact ⟨b,vs,h1,h2,h3,by rw [Al (Ay h4 h)];exact h4,h5.mono ext⟩
theorem FInv.after (f:FInv K Oo c t σ H){c':Cf}{S':List Ob}{H':Hp}(s:SInv K c' S' H')(st:Stp c.O c H c' H')(ho:∀b,c'.O b↔c.O b):FInv K Oo c' { t with S:=S' } σ H'/\Stp Oo c H c' H':=by
 refine ⟨⟨s,f.len,λb z=>(ho b).mpr (f.sub b z),λi d q=>?_,λi ds q=>?_,f.inj⟩,st.ext,λb z=>st.oo b (f.sub b z)⟩
 ·obtain ⟨v,h1,h2⟩:=f.val i d q;exact ⟨v,h1,h2.mono st.ext⟩
 ·obtain ⟨b,vs,h1,h2,h3,h4,h5⟩:=f.own i ds q;exact ⟨b,vs,h1,(ho b).mpr h2,h3,(st.oo b h2).trans h4,h5.mono st.ext⟩
end
abbrev M (α:Type):=T->Option (α×T)
inductive Out where
 | next | brk | cont | ret (d:D)
noncomputable def ret {α:Type}(a:α):M α:=λt=>some (a,t)
noncomputable def fail {α:Type}:M α:=λ_=>none
noncomputable def bnd {α β:Type}(f:M α)(g:α->M β):M β:=λt=>match f t with
 | some (a,t1)=>g a t1
 | none=>none
variable {t:T}
theorem Af {α β:Type}{f:M α}{g:α->M β}{z:β×T}(h:bnd f g t=some z):∃a t1,f t=some (a,t1)/\g a t1=some z:=by
 unfold bnd at h
 cases e:f t with
 | none=>rw [e] at h;cases h
 | some p=>obtain ⟨a,t1⟩:=p;rw [e] at h;exact ⟨a,t1,rfl,h⟩
noncomputable def LIM:Nat:=100000
theorem BR:LIM<=sizeLine:=by unfold LIM;decide
theorem Vd:LIM < sizeLine:=by unfold LIM;decide
section
variable (K:PySem.W.Frag)
inductive RE (f:M D)(σ:L2.St)(H:Hp)(Q:VK):Prop where
 | mk (Oo:Addr->Prop) (c:Cf) (t:T) (fi:FInv K Oo c t σ H) (r:D) (t':T) (e:f t=some (r,t')) (k:∀v H' c',FInv K Oo c' t' σ H'->Stp Oo c H c' H'->Rep K c' H' v r->Q v H'):RE f σ H Q
inductive RT (f:M Bool)(σ:L2.St)(H:Hp)(Q:Bool->Hp->Prop):Prop where
 | mk (Oo:Addr->Prop) (c:Cf) (t:T) (fi:FInv K Oo c t σ H) (r:Bool) (t':T) (e:f t=some (r,t')) (k:∀H' c',FInv K Oo c' t' σ H'->Stp Oo c H c' H'->Q r H'):RT f σ H Q
inductive RA (f:M (List D))(σ:L2.St)(H:Hp)(Q:List V->Hp->Prop):Prop where
 | mk (Oo:Addr->Prop) (c:Cf) (t:T) (fi:FInv K Oo c t σ H) (r:List D) (t':T) (e:f t=some (r,t')) (k:∀vs H' c',FInv K Oo c' t' σ H'->Stp Oo c H c' H'->Reps K c' H' vs r->Q vs H'):RA f σ H Q
inductive RF (f:M (List D))(σ:L2.St)(H:Hp)(Q:VK):Prop where
 | mk (Oo:Addr->Prop) (c:Cf) (t:T) (fi:FInv K Oo c t σ H) (ds:List D) (t':T) (e:f t=some (ds,t')) (k:∀p vs H' c',FInv K Oo c' t' σ H'->Stp Oo c H c' H'->Reps K c' H' vs ds->H' p=none->Q (.ref p) (upd H' p (.lst vs))):RF f σ H Q
inductive RSg (μ:Cf->Hp->D->(V->Hp->Prop)->Prop)(f:M Out)(E:Ends)(σ:L2.St)(H:Hp):Prop where
 | mk (Oo:Addr->Prop) (c:Cf) (t:T) (fi:FInv K Oo c t σ H) (o:Out) (t':T) (e:f t=some (o,t')) (k:∀σ' H' c',FInv K Oo c' t' σ' H'->Stp Oo c H c' H'->
 match (generalizing:=false) o with
 | .next=>E.nx σ' H'
 | .brk=>E.bk σ' H'
 | .cont=>E.ct σ' H'
 | .ret r=>μ c' H' r E.rt):RSg μ f E σ H
def μR:Cf->Hp->D->(V->Hp->Prop)->Prop:=λc H r rt=>∀v,Rep K c H v r->rt v H
def μF:Cf->Hp->D->(V->Hp->Prop)->Prop:=λc H r rt=>match r with
 | .lst ds=>∀p us,H p=none->Reps K c H us ds->rt (.ref p) (upd H p (.lst us))
 | _=>False
abbrev RS (f:M Out):TS:=RSg K (μR K) f
inductive RG (f:D->M Unit)(v:V)(σ:L2.St)(H:Hp)(Q:L2.St->Hp->Prop):Prop where
 | mk (Oo:Addr->Prop) (c:Cf) (t:T) (d:D) (fi:FInv K Oo c t σ H) (r:Rep K c H v d) (t':T) (e:f d t=some ((),t')) (k:∀σ' H' c',FInv K Oo c' t' σ' H'->Stp Oo c H c' H'->Q σ' H'):RG f v σ H Q
structure ItOk (J:It)(c:Cf)(H:Hp)(ds:List D):Prop where
 go:∀c' H' (i:Nat),Ext c H c' H'->i < ds.length->J.go i H'
 yld:∀c' H' (i:Nat) x H'' d,Ext c H c' H'->ds[i]?=some d->J.yld i H' x H''->H''=H'/\Rep K c' H' x d
 stop:∀c' H',Ext c H c' H'->J.stop ds.length H'
inductive RI (f:M (List D))(σ:L2.St)(H:Hp)(R:It->Hp->Prop):Prop where
 | mk (Oo:Addr->Prop) (c:Cf) (t:T) (fi:FInv K Oo c t σ H) (ds:List D) (t':T) (e:f t=some (ds,t')) (k:∀J H' c',FInv K Oo c' t' σ H'->Stp Oo c H c' H'->ItOk K J c' H' ds->R J H'):RI f σ H R
def Vf (R:V->Hp->VK->Prop)(h:D->M D):Prop:=∀{Oo:Addr->Prop} {c:Cf} {t:T} {σ:L2.St} {H:Hp} {x:V} {dx r:D} {t':T} {Q:VK},FInv K Oo c t σ H->Rep K c H x dx->h dx t=some (r,t')->
 (∀v H' c',FInv K Oo c' t' σ H'->Stp Oo c H c' H'->Rep K c' H' v r->Q v H')->R x H Q
def AR (R:R2)(h:D->D->M D):Prop:=∀{Oo:Addr->Prop} {c:Cf} {t:T} {σ:L2.St} {H:Hp} {x y:V} {dx dy r:D} {t':T} {Q:VK},FInv K Oo c t σ H->Rep K c H x dx->Rep K c H y dy->h dx dy t=some (r,t')->
 (∀v H' c',FInv K Oo c' t' σ H'->Stp Oo c H c' H'->Rep K c' H' v r->Q v H')->R x y H Q
def DM (R:List V->Hp->VK->Prop)(h:List D->M D):Prop:=∀{Oo:Addr->Prop} {c:Cf} {t:T} {σ:L2.St} {H:Hp} {xs:List V} {ds:List D} {r:D} {t':T} {Q:VK},FInv K Oo c t σ H->Reps K c H xs ds->h ds t=some (r,t')->
 (∀v H' c',FInv K Oo c' t' σ H'->Stp Oo c H c' H'->Rep K c' H' v r->Q v H')->R xs H Q
def HW (R:R2)(h:D->D->M (List D)):Prop:=∀{Oo:Addr->Prop} {c:Cf} {t:T} {σ:L2.St} {H:Hp} {x y:V} {dx dy:D} {r:List D} {t':T} {Q:VK},FInv K Oo c t σ H->Rep K c H x dx->Rep K c H y dy->h dx dy t=some (r,t')->
 (∀p vs H' c',FInv K Oo c' t' σ H'->Stp Oo c H c' H'->Reps K c' H' vs r->H' p=none->Q (.ref p) (upd H' p (.lst vs)))->R x y H Q
def JZ (R:List V->Hp->VK->Prop)(h:List D->M (List D)):Prop:=∀{Oo:Addr->Prop} {c:Cf} {t:T} {σ:L2.St} {H:Hp} {xs:List V} {ds r:List D} {t':T} {Q:VK},FInv K Oo c t σ H->Reps K c H xs ds->h ds t=some (r,t')->
 (∀p vs H' c',FInv K Oo c' t' σ H'->Stp Oo c H c' H'->Reps K c' H' vs r->H' p=none->Q (.ref p) (upd H' p (.lst vs)))->R xs H Q
end
variable {tg:Expr}{j i:Nat}{x:Str}{f g w:M D}{h h':D->D->M D}{R R':R2}{op:CmpOp}{σ:L2.St}
section
variable {X:Cx}{e a b:Expr}{pos:Pos}
theorem AD {t t':TE}(h:PE X e t)(i:∀σ H Q,t' σ H Q->t σ H Q):PE X e t':=λpins s σ H Q I q=>h pins s σ H Q I (i σ H Q q)
theorem HS {t t':TT}(h:PT X e t)(i:∀σ H Q,t' σ H Q->t σ H Q):PT X e t':=λpins s σ H Q I q=>h pins s σ H Q I (i σ H Q q)
theorem NT {t t':TT}(h:PW X e t)(i:∀σ H Q,t' σ H Q->t σ H Q):PW X e t':=λw pins s σ H Q I q=>h w pins s σ H Q I (i σ H Q q)
theorem NQ {es:List Expr}{t t':TA}(h:PA X es t)(i:∀σ H Q,t' σ H Q->t σ H Q):PA X es t':=λpos pins s σ H Q I q=>h pos pins s σ H Q I (i σ H Q q)
theorem A3 {st:Stmt}{t t':TS}(h:PS X st t)(i:∀E σ H,t' E σ H->t E σ H):PS X st t':=λpins s σ H E I q=>h pins s σ H E I (i E σ H q)
theorem LU {st:List Stmt}{t t':TS}(h:PSs X st t)(i:∀E σ H,t' E σ H->t E σ H):PSs X st t':=λpins s σ H E I q=>h pins s σ H E I (i E σ H q)
theorem Gc {t t':TG}(h:PG X e t)(i:∀v σ H Q,t' v σ H Q->t v σ H Q):PG X e t':=λpins s σ H v u Q I r q=>h pins s σ H v u Q I r (i v σ H Q q)
theorem Ge {t t':TI}(h:PI X tg e t)(i:∀σ H R,t' σ H R->t σ H R):PI X tg e t':=λpins s σ H R I q=>h pins s σ H R I (i σ H R q)
def fC (d:D):M D:=ret d
theorem Ja {v:V}{d:D}(h:PE X e (tC v))(r:∀c H,Rep X.K c H v d):PE X e (RE X.K (fC d)):=
 AD h λσ H Q z9=>by
  obtain ⟨Oo,c,t,f,r',t',eq,k⟩:=z9
  cases eq
  exact k v H c f .refl (r c H)
theorem VB {i:Int}:PE X (.Constant (.int i) j pos) (RE X.K (fC (.int i))):=Ja WB λ_ _=>.int i
theorem Xx {i:Bool}:PE X (.Constant (.bool i) j pos) (RE X.K (fC (.bl i))):=Ja XN λ_ _=>.bl i
theorem VH {i:Str}:PE X (.Constant (.str i) j pos) (RE X.K (fC (.str i))):=Ja O4 λ_ _=>.str i
theorem VC:PE X (.Constant .none j pos) (RE X.K (fC .non)):=Ja WD λ_ _=>.non
theorem Jb {i:Int}{tk:Tok}(hg:Gl X x)(hm:X.mg x=some (.int i tk))(hd:(x == ("__debug__" : Str))=false:=by decide):PE X (.Name x pos) (RE X.K (fC (.int i))):=
 Ja (Ji hg hm (v:=.int i) ⟨tk,rfl⟩ hd) λ_ _=>.int i
theorem Io {n:String}(hg:Gl X x)(hm:X.mg x=none)(hv:bootBuiltins x=some (.type n))(hn:x≠"__name__":=by decide)(hd:(x == ("__debug__" : Str))=false:=by decide):PE X (.Name x pos) (RE X.K (fC (.ty n))):=
 Ja (Mq hg hm hv (v:=.ty n) rfl hn hd) λ_ _=>.ty n
noncomputable def Ab (i:Nat):M D:=λt=>match t.env[i]? with
 | some (some (.val d))=>some (d,t)
 | some (some (.own ds))=>some (.lst ds,{ t with env:=t.env.set i (some (.val (.lst ds))) })
 | _=>none
theorem M1 {t':T}{r:D}(h:Ab i t=some (r,t')):(t.env[i]?=some (some (.val r))/\t'=t)\/∃ds,t.env[i]?=some (some (.own ds))/\r = .lst ds/\t' = { t with env:=t.env.set i (some (.val (.lst ds))) }:=by
 unfold Ab at h
 cases e:t.env[i]? with
 | none=>rw [e] at h;cases h
 | some o=>
   cases o with
   | none=>rw [e] at h;cases h
   | some sl=>
     cases sl with
     | val d=>rw [e] at h;cases h;exact .inl ⟨rfl,rfl⟩
     | own ds=>rw [e] at h;cases h;exact .inr ⟨ds,rfl,rfl,rfl⟩
theorem VI (i:Nat){x:Str}(hN:X.N[i]?=some x:=by rfl)(hv:Vis X.env.scope x:=by walk_at "h")(hd:(x == ("__debug__" : Str))=false:=by decide)
 (hcd:(x == ("__classdict__" : Str))=false:=by decide):PE X (.Name x pos) (RE X.K (Ab i)):=
 AD (Ec hN hv hd hcd) λσ H Q z9=>by
  obtain ⟨Oo,c,t,f,r,t',eq,k⟩:=z9;rcases M1 eq with ⟨q,rfl⟩ | ⟨ds,q,rfl,rfl⟩
  ·obtain ⟨v,h1,h2⟩:=f.val i r q;exact ⟨v,h1,k v H c f .refl h2⟩
  ·obtain ⟨c',v,f',st,h1,h2⟩:=f.frz q;exact ⟨v,h1,k v H c' f' st h2⟩
def Ac (f g:M D)(h:D->D->M D):M D:=bnd f λx=>bnd g λy=>h x y
theorem RE.two (s:AR K R h){σ:L2.St}{H:Hp}{Q:VK}(q:RE K (Ac f g h) σ H Q):tOp R (RE K f) (RE K g) σ H Q:=by
 obtain ⟨Oo,c,t,fi,r,t',eq,k⟩:=q;obtain ⟨dx,t1,e1,eq⟩:=Af eq;obtain ⟨dy,t2,e2,eq⟩:=Af eq;exact ⟨Oo,c,t,fi,dx,t1,e1,λx H1 c1 f1 s1 rx=>⟨Oo,c1,t1,f1,dy,t2,e2,λy H2 c2 f2 s2 ry=>s f2 (rx.mono s2.ext) ry eq λv H' c' f' s' rv=>k v H' c' f' ((s1.trans s2).trans s') rv⟩⟩
theorem Es {op:Operator}(ho:OpR X (binaryOp op) R)(s:AR X.K R h)(ha:PE X a (RE X.K f))(hb:PE X b (RE X.K g)):PE X (.BinOp a op b pos) (RE X.K (Ac f g h)):=
 AD (Sd ho ha hb) λ_ _ _ q=>RE.two s q
theorem Fp (ho:OpR X (compareOp op) R)(s:AR X.K R h)(ha:PE X a (RE X.K f))(hb:PE X b (RE X.K g))(hm:behindInMarks op b=false):PE X (.Compare a [op] [b] pos) (RE X.K (Ac f g h)):=
 AD (Ub ho ha hb hm) λ_ _ _ q=>RE.two s q
theorem R0 (hr:IxR X R)(s:AR X.K R h)(ha:PE X a (RE X.K f))(hb:PE X b (RE X.K g))(hs:IP b):PE X (.Subscript a b pos) (RE X.K (Ac f g h)):=
 AD (Sc hr ha hb hs) λ_ _ _ q=>RE.two s q
def fUn (f:M D)(h:D->M D):M D:=bnd f h
theorem R1 {op:UnaryOp}{R:V->Hp->VK->Prop}{h:D->M D}(ho:UnR X (unaryOp op) R)(s:Vf X.K R h)(ha:PE X a (RE X.K f)):PE X (.UnaryOp op a pos) (RE X.K (fUn f h)):=
 AD (XQ ho ha) λσ H Q z9=>by
  obtain ⟨Oo,c,t,fi,r,t',eq,k⟩:=z9;obtain ⟨dx,t1,e1,eq⟩:=Af eq;exact ⟨Oo,c,t,fi,dx,t1,e1,λx H1 c1 f1 s1 rx=>s f1 rx eq λv H' c' f' s' rv=>k v H' c' f' (s1.trans s') rv⟩
def toB:D->M Bool
 | .bl b=>ret b
 | _=>fail
def Aj (f:M D):M Bool:=bnd f toB
theorem HL {d:D}{z:Bool×T}(h:toB d t=some z):∃b,d = .bl b/\z=(b,t):=by
 cases d with
 | bl b=>cases h;exact ⟨b,rfl,rfl⟩
 | _=>cases h
theorem RT.val {Q:Bool->Hp->Prop}(q:RT K (Aj f) σ H Q):RE K f σ H λx H1=>∃k,x = .bl k/\Q k H1:=by
 obtain ⟨Oo,c,t,fi,r,t',eq,k⟩:=q;obtain ⟨d,t1,e1,eq⟩:=Af eq;obtain ⟨b,rfl,z⟩:=HL eq
 cases z
 refine ⟨Oo,c,t,fi,_,t',e1,λv H1 c1 f1 s1 rv=>?_⟩
 cases rv
 exact ⟨r,rfl,k H1 c1 f1 s1⟩
theorem VT (h:PE X e (RE X.K f))(he:∀whole,isTrue e X.env whole=(do let v <-whole;standAt e.pos;holding [v] (truthy v)):=by intro _;rfl):PT X e (RT X.K (Aj f)):=
 HS (WM h he) λ_ _ _ q=>RT.val q
theorem DA (ho:OpR X (compareOp op) R)(s:AR X.K R h)(ha:PE X a (RE X.K f))(hb:PE X b (RE X.K g))(hm:behindInMarks op b=false):PT X (.Compare a [op] [b] pos) (RT X.K (Aj (Ac f g h))):=
 HS (Up ho ha hb hm) λσ H Q q=>RE.two s (RT.val q)
def Bw (f g w:M D)(h h':D->D->M D):M D:=bnd f λx=>bnd g λy=>bnd (Aj (h x y)) λk=>if k=true then bnd w λz=>h' y z else ret (.bl false)
theorem RE.chain (s:AR K R h)(s':AR K R' h'){σ:L2.St}{H:Hp}{Q:VK}(q:RE K (Bw f g w h h') σ H Q):LA R R' (RE K f) (RE K g) (RE K w) σ H Q:=by
 obtain ⟨Oo,c,t,fi,r,t',eq,k⟩:=q;obtain ⟨dx,t1,e1,eq⟩:=Af eq;obtain ⟨dy,t2,e2,eq⟩:=Af eq;obtain ⟨kb,t3,e3,eq⟩:=Af eq;obtain ⟨d3,t3',e3',e3⟩:=Af e3;obtain ⟨b3,rfl,z⟩:=HL e3
 cases z
 refine ⟨Oo,c,t,fi,dx,t1,e1,λx H1 c1 f1 s1 rx=>⟨Oo,c1,t1,f1,dy,t2,e2,λy H2 c2 f2 s2 ry=>s f2 (rx.mono s2.ext) ry e3' λv H3 c3 f3 s3 rv=>?_⟩⟩
 cases rv
 refine ⟨kb,rfl,?_⟩
 cases kb with
 | false=>
   rw [if_neg Bool.false_ne_true] at eq ⊢
   cases eq
   exact k _ H3 c3 f3 ((s1.trans s2).trans s3) (.bl false)
 | true=>
   rw [if_pos rfl] at eq ⊢;obtain ⟨dz,t4,e4,eq⟩:=Af eq;exact ⟨Oo,c3,t3,f3,dz,t4,e4,λw' H4 c4 f4 s4 rw'=>s' f4 (ry.mono (s3.trans s4).ext) rw' eq λv H' c' f' s' rv=>k v H' c' f' ((((s1.trans s2).trans s3).trans s4).trans s') rv⟩
theorem KG {d:Expr}{op':CmpOp}(ho:OpR X (compareOp op) R)(ho':OpR X (compareOp op') R')(s:AR X.K R h)(s':AR X.K R' h')(ha:PE X a (RE X.K f))(hb:PE X b (RE X.K g))(hd:PE X d (RE X.K w))
 (hm:lastMarks [op,op'] [b,d]=false:=by with_unfolding_all rfl):PE X (.Compare a [op,op'] [b,d] pos) (RE X.K (Bw f g w h h')):=
 AD (QT ho ho' ha hb hd hm) λ_ _ _ q=>RE.chain s s' q
theorem KR {d:Expr}{op':CmpOp}(ho:OpR X (compareOp op) R)(ho':OpR X (compareOp op') R')(s:AR X.K R h)(s':AR X.K R' h')(ha:PE X a (RE X.K f))(hb:PE X b (RE X.K g))(hd:PE X d (RE X.K w))
 (hm:lastMarks [op,op'] [b,d]=false:=by with_unfolding_all rfl):PT X (.Compare a [op,op'] [b,d] pos) (RT X.K (Aj (Bw f g w h h'))):=
 HS (Q3 ho ho' ha hb hd hm) λσ H Q q=>RE.chain s s' (RT.val q)
def Hx (f g:M Bool):M Bool:=bnd f λk=>if k=true then g else ret false
def fOr (f g:M Bool):M Bool:=bnd f λk=>if k=true then ret true else g
def AS (f:M Bool):M Bool:=bnd f λk=>ret (!k)
def CH (f g:M D):M D:=bnd (Aj f) λk=>if k=true then g else ret (.bl false)
def I9 (f g:M D):M D:=bnd (Aj f) λk=>if k=true then ret (.bl true) else g
def E6 (f:M D):M D:=bnd (Aj f) λk=>ret (.bl (!k))
def fIf (f:M Bool)(g h:M D):M D:=bnd f λk=>if k=true then g else h
variable {f g:M Bool}{u v w:M D}{rest:List Expr}
theorem XF (h:PW X e (RT X.K f)):PT X e (RT X.K f):=h.pt
theorem To (ha:PT X a (RT X.K f)):PW X (.BoolOp .And [a] pos) (RT X.K f):=Uq ha
theorem VW (ha:PT X a (RT X.K f)):PW X (.BoolOp .Or [a] pos) (RT X.K f):=WO ha
theorem VU (ha:PT X a (RT X.K f))(hb:PW X (.BoolOp .And (b :: rest) pos) (RT X.K g)):PW X (.BoolOp .And (a :: b :: rest) pos) (RT X.K (Hx f g)):=
 NT (WN ha hb) λσ H Q z9=>by
  obtain ⟨Oo,c,t,fi,r,t',eq,k⟩:=z9;obtain ⟨kb,t1,e1,eq⟩:=Af eq;refine ⟨Oo,c,t,fi,kb,t1,e1,λH1 c1 f1 s1=>?_⟩
  cases kb with
  | false=>rw [if_neg Bool.false_ne_true] at eq ⊢;cases eq;exact k H1 c1 f1 s1
  | true=>rw [if_pos rfl] at eq ⊢;exact ⟨Oo,c1,t1,f1,r,t',eq,λH2 c2 f2 s2=>k H2 c2 f2 (s1.trans s2)⟩
theorem XG (ha:PT X a (RT X.K f))(hb:PW X (.BoolOp .Or (b :: rest) pos) (RT X.K g)):PW X (.BoolOp .Or (a :: b :: rest) pos) (RT X.K (fOr f g)):=
 NT (XW ha hb) λσ H Q z9=>by
  obtain ⟨Oo,c,t,fi,r,t',eq,k⟩:=z9;obtain ⟨kb,t1,e1,eq⟩:=Af eq;refine ⟨Oo,c,t,fi,kb,t1,e1,λH1 c1 f1 s1=>?_⟩
  cases kb with
  | true=>rw [if_pos rfl] at eq ⊢;cases eq;exact k H1 c1 f1 s1
  | false=>rw [if_neg Bool.false_ne_true] at eq ⊢;exact ⟨Oo,c1,t1,f1,r,t',eq,λH2 c2 f2 s2=>k H2 c2 f2 (s1.trans s2)⟩
theorem VS (ha:PT X a (RT X.K f)):PT X (.UnaryOp .Not a pos) (RT X.K (AS f)):=
 HS (WL ha) λσ H Q z9=>by
  obtain ⟨Oo,c,t,fi,r,t',eq,k⟩:=z9;obtain ⟨kb,t1,e1,eq⟩:=Af eq
  cases eq
  exact ⟨Oo,c,t,fi,kb,_,e1,λH1 c1 f1 s1=>k H1 c1 f1 s1⟩
theorem HM {f:M D}{kb:Bool}{t1:T}(h:Aj f t=some (kb,t1)):f t=some (.bl kb,t1):=by
 obtain ⟨d,t2,e1,e2⟩:=Af h;obtain ⟨b,rfl,z⟩:=HL e2
 cases z
 exact e1
theorem VG {op:PySem.BoolOp}(h:PE X a (RE X.K u)):PE X (.BoolOp op [a] pos) (RE X.K u):=WF h
theorem Vz (ha:PE X a (RE X.K u))(hb:PE X (.BoolOp .And (b :: rest) pos) (RE X.K v)):PE X (.BoolOp .And (a :: b :: rest) pos) (RE X.K (CH u v)):=
 AD (WA ha hb) λσ H Q z9=>by
  obtain ⟨Oo,c,t,fi,r,t',eq,k⟩:=z9;obtain ⟨kb,t1,e1,eq⟩:=Af eq;refine ⟨Oo,c,t,fi,_,t1,HM e1,λx H1 c1 f1 s1 rx=>?_⟩
  cases rx
  refine ⟨kb,rfl,?_⟩
  cases kb with
  | false=>rw [if_neg Bool.false_ne_true] at eq ⊢;cases eq;exact k _ H1 c1 f1 s1 (.bl false)
  | true=>rw [if_pos rfl] at eq ⊢;exact ⟨Oo,c1,t1,f1,r,t',eq,λy H2 c2 f2 s2 ry=>k y H2 c2 f2 (s1.trans s2) ry⟩
theorem Xy (ha:PE X a (RE X.K u))(hb:PE X (.BoolOp .Or (b :: rest) pos) (RE X.K v)):PE X (.BoolOp .Or (a :: b :: rest) pos) (RE X.K (I9 u v)):=
 AD (XO ha hb) λσ H Q z9=>by
  obtain ⟨Oo,c,t,fi,r,t',eq,k⟩:=z9;obtain ⟨kb,t1,e1,eq⟩:=Af eq;refine ⟨Oo,c,t,fi,_,t1,HM e1,λx H1 c1 f1 s1 rx=>?_⟩
  cases rx
  refine ⟨kb,rfl,?_⟩
  cases kb with
  | true=>rw [if_pos rfl] at eq ⊢;cases eq;exact k _ H1 c1 f1 s1 (.bl true)
  | false=>rw [if_neg Bool.false_ne_true] at eq ⊢;exact ⟨Oo,c1,t1,f1,r,t',eq,λy H2 c2 f2 s2 ry=>k y H2 c2 f2 (s1.trans s2) ry⟩
theorem VD (ha:PE X a (RE X.K u)):PE X (.UnaryOp .Not a pos) (RE X.K (E6 u)):=
 AD (WE ha) λσ H Q z9=>by
  obtain ⟨Oo,c,t,fi,r,t',eq,k⟩:=z9;obtain ⟨kb,t1,e1,eq⟩:=Af eq
  cases eq
  refine ⟨Oo,c,t,fi,_,_,HM e1,λx H1 c1 f1 s1 rx=>?_⟩
  cases rx
  exact ⟨kb,rfl,k _ H1 c1 f1 s1 (.bl (!kb))⟩
theorem Qm {d:Expr}(hc:PT X d (RT X.K f))(ha:PE X a (RE X.K u))(hb:PE X b (RE X.K v)):PE X (.IfExp d a b pos) (RE X.K (fIf f u v)):=
 AD (QU hc ha hb) λσ H Q z9=>by
  obtain ⟨Oo,c,t,fi,r,t',eq,k⟩:=z9;obtain ⟨kb,t1,e1,eq⟩:=Af eq;refine ⟨Oo,c,t,fi,kb,t1,e1,λH1 c1 f1 s1=>?_⟩
  cases kb with
  | false=>rw [if_neg Bool.false_ne_true] at eq ⊢;exact ⟨Oo,c1,t1,f1,r,t',eq,λy H2 c2 f2 s2 ry=>k y H2 c2 f2 (s1.trans s2) ry⟩
  | true=>rw [if_pos rfl] at eq ⊢;exact ⟨Oo,c1,t1,f1,r,t',eq,λy H2 c2 f2 s2 ry=>k y H2 c2 f2 (s1.trans s2) ry⟩
end
variable {n:Nat}{p:Pos}
section
variable {X:Cx}{e a b:Expr}{es:List Expr}{pos:Pos}
def Ad:M (List D):=ret []
def Aa (f:M D)(g:M (List D)):M (List D):=bnd f λd=>bnd g λds=>ret (d :: ds)
theorem Vy:PA X [] (RA X.K Ad):=NQ GD λσ H Q z9=>by
 obtain ⟨Oo,c,t,fi,r,t',eq,k⟩:=z9
 cases eq
 exact k [] H c fi .refl .nil
theorem SR {g:M (List D)}(ha:PE X e (RE X.K f))(hr:PA X es (RA X.K g))(hs:starEach (e :: es) X.env=(false,eval e X.env) :: starEach es X.env:=by rfl):PA X (e :: es) (RA X.K (Aa f g)):=
 NQ (Dr ha hr hs) λσ H Q z9=>by
  obtain ⟨Oo,c,t,fi,r,t',eq,k⟩:=z9;obtain ⟨d,t1,e1,eq⟩:=Af eq;obtain ⟨ds,t2,e2,eq⟩:=Af eq
  cases eq
  exact ⟨Oo,c,t,fi,d,t1,e1,λx H1 c1 f1 s1 rx=>⟨Oo,c1,t1,f1,ds,_,e2,λxs H2 c2 f2 s2 rxs=>k _ H2 c2 f2 (s1.trans s2) (.cons (rx.mono s2.ext) rxs)⟩⟩
def lim {α:Type}(n:Nat)(a:α):M α:=λt=>if n<=LIM then some (a,t) else none
theorem CQ {α:Type}{a:α}{z:α×T}(h:lim n a t=some z):n<=LIM/\z=(a,t):=by
 unfold lim at h
 split at h
 ·next h1=>cases h;exact ⟨h1,rfl⟩
 ·cases h
def Az (f:M (List D)):M D:=bnd f λds=>lim ds.length (.tup ds)
theorem Oj {x1:Nat}{f:M (List D)}(h:PA X es (RA X.K f)):PE X (.Tuple es x1 pos) (RE X.K (Az f)):=
 AD (O5 h) λσ H Q z9=>by
  obtain ⟨Oo,c,t,fi,r,t',eq,k⟩:=z9;obtain ⟨ds,t1,e1,eq⟩:=Af eq;obtain ⟨hl,z⟩:=CQ eq
  cases z
  refine ⟨Oo,c,t,fi,ds,_,e1,λxs H1 c1 f1 s1 rxs=>⟨by rw [rxs.length];exact Nat.le_trans hl BR,λp hp=>?_⟩⟩;exact k _ _ c1 (f1.laid hp) (s1.trans (f1.stp_laid hp)) (.tup Aw (f1.s.free hp) (rxs.mono (Ext.laid f1.s hp)))
def As (f:M (List D)):M (List D):=bnd f λds=>lim ds.length ds
theorem VJ {f:M (List D)}(h:PA X es (RA X.K f)):PE X (.List es pos) (RF X.K (As f)):=
 AD (WC h) λσ H Q z9=>by
  obtain ⟨Oo,c,t,fi,r,t',eq,k⟩:=z9;obtain ⟨ds,t1,e1,eq⟩:=Af eq;obtain ⟨hl,z⟩:=CQ eq
  cases z
  exact ⟨Oo,c,t,fi,_,_,e1,λxs H1 c1 f1 s1 rxs=>⟨by rw [rxs.length];exact Nat.le_trans hl BR,λp hp=>k p xs H1 c1 f1 s1 rxs hp⟩⟩
def Ak (f:M (List D)):M D:=bnd f λds=>ret (.lst ds)
theorem SZ {f:M (List D)}(h:PE X e (RF X.K f)):PE X e (RE X.K (Ak f)):=
 AD h λσ H Q z9=>by
  obtain ⟨Oo,c,t,fi,r,t',eq,k⟩:=z9;obtain ⟨ds,t1,e1,eq⟩:=Af eq
  cases eq
  exact ⟨Oo,c,t,fi,ds,_,e1,λp xs H1 c1 f1 s1 rxs hp=>k _ _ c1 (f1.laid hp) (s1.trans (f1.stp_laid hp)) (.lst Aw (f1.s.free hp) (rxs.mono (Ext.laid f1.s hp)))⟩
noncomputable def Ni (o:Ob):M D:=λt=>some (.obj t.S.length,{ t with S:=t.S++[o] })
def EH (f:M (List D)):M D:=bnd f λds=>Ni (.lst ds)
theorem VF {f:M (List D)}(h:PE X e (RF X.K f)):PE X e (RE X.K (EH f)):=
 AD h λσ H Q z9=>by
  obtain ⟨Oo,c,t,fi,r,t',eq,k⟩:=z9;obtain ⟨ds,t1,e1,eq⟩:=Af eq
  cases eq
  refine ⟨Oo,c,t,fi,ds,_,e1,λp xs H1 c1 f1 s1 rxs hp=>?_⟩;obtain ⟨c2,f2,s2,e2⟩:=f1.newObj (o:=.lst ds) (u:=.lst xs) hp λc' H' ex hu=>⟨xs,hu,rxs.mono ex⟩;exact k _ _ c2 f2 (s1.trans s2) (.obj e2)
abbrev Fn:=List D->List Ob->Option (D×List Ob)
inductive spF (K:PySem.W.Frag)(f:Fn)(vs:List V)(H:Hp)(Q:VK)(E:XK):Prop where
 | mk (c:Cf) (ds:List D) (S:List Ob) (si:SInv K c S H) (rs:Reps K c H vs ds) (r:D) (S':List Ob) (e:f ds S=some (r,S')) (k:∀v H' c',SInv K c' S' H'->Stp c.O c H c' H'->(∀b,c'.O b↔c.O b)->Rep K c' H' v r->Q v H'):spF K f vs H Q E
def Ag (g:Fn)(f:M (List D)):M D:=bnd f λds t=>match g ds t.S with
 | some (r,S')=>some (r,{ t with S:=S' })
 | none=>none
theorem JD {g:Fn}{ds:List D}{r:D}{t':T}(h:(match g ds t.S with | some (r,S')=>some (r,{ t with S:=S' }) | none=>none:Option (D×T))=some (r,t')):∃S',g ds t.S=some (r,S')/\t' = { t with S:=S' }:=by
 cases e:g ds t.S with
 | none=>rw [e] at h;cases h
 | some p=>obtain ⟨r',S'⟩:=p;rw [e] at h;cases h;exact ⟨S',rfl,rfl⟩
theorem ST {k:Nat}{fa:Addr}{fd:FuncData}{ps:List Str}{g:Fn}{f:M (List D)}(F:FnOk X.prog X.w X.K X.mg X.base CX0 k fa fd ps (spF X.K g))(hr:Room k X.A)(hg:Gl X x)(hm:X.mg x=some (.ref fa))(hk:PySem.W.keepIn X.K (.ref fa)=true)(hb:Binds X.K fd ps [])
 (ha:PA X (e :: es) (RA X.K f)) (hdb:(x == ("__debug__" : Str))=false:=by decide) (he:starEach (e :: es) X.env=(false,eval e X.env) :: starEach es X.env:=by rfl) (hpl:(backTo pos (starEach es X.env)).any (·.1)=false:=by rfl) :
 PE X (.Call (.Name x p) (e :: es) [] pos) (RE X.K (Ag g f)):=
 AD (Mr F hr hg hm hk hb .nil Sb ha hdb he hpl) λσ H Q z9=>by
  obtain ⟨Oo,c,t,fi,r,t',eq,kk⟩:=z9;obtain ⟨ds,t1,e1,eq⟩:=Af eq;obtain ⟨S',e2,rfl⟩:=JD eq;refine ⟨Oo,c,t,fi,ds,t1,e1,λvs H1 c1 f1 s1 rvs=>?_⟩;show spF X.K g (vs++[]) H1 Q E0;rw [List.append_nil];refine ⟨c1,ds,t1.S,f1.s,rvs,r,S',e2,λv H' c' si st ho rv=>?_⟩;obtain ⟨f2,s2⟩:=f1.after si st ho;exact kk v H' c' f2 (s1.trans s2) rv
def fB (f:M (List D))(h:List D->M D):M D:=bnd f h
theorem RE.callB {f:M (List D)}{h:List D->M D}{R:List V->Hp->VK->Prop}(s:DM K R h){σ:L2.St}{H:Hp}{Q:VK}(q:RE K (fB f h) σ H Q):tCB R (RA K f) σ H Q:=by
 obtain ⟨Oo,c,t,fi,r,t',eq,k⟩:=q;obtain ⟨ds,t1,e1,eq⟩:=Af eq;exact ⟨Oo,c,t,fi,ds,t1,e1,λxs H1 c1 f1 s1 rxs=>s f1 rxs eq λv H' c' f' s' rv=>k v H' c' f' (s1.trans s') rv⟩
def fBF (f:M (List D))(h:List D->M (List D)):M (List D):=bnd f h
theorem RF.callB {f:M (List D)}{h:List D->M (List D)}{R:List V->Hp->VK->Prop}(s:JZ K R h){σ:L2.St}{H:Hp}{Q:VK}(q:RF K (fBF f h) σ H Q):tCB R (RA K f) σ H Q:=by
 obtain ⟨Oo,c,t,fi,r,t',eq,k⟩:=q;obtain ⟨ds,t1,e1,eq⟩:=Af eq;exact ⟨Oo,c,t,fi,ds,t1,e1,λxs H1 c1 f1 s1 rxs=>s f1 rxs eq λp vs H' c' f' s' rv hp=>k p vs H' c' f' (s1.trans s') rv hp⟩
theorem RF.two {h:D->D->M (List D)}(s:HW K R h){σ:L2.St}{H:Hp}{Q:VK}(q:RF K (bnd f λx=>bnd g λy=>h x y) σ H Q):tOp R (RE K f) (RE K g) σ H Q:=by
 obtain ⟨Oo,c,t,fi,r,t',eq,k⟩:=q;obtain ⟨dx,t1,e1,eq⟩:=Af eq;obtain ⟨dy,t2,e2,eq⟩:=Af eq;exact ⟨Oo,c,t,fi,dx,t1,e1,λx H1 c1 f1 s1 rx=>⟨Oo,c1,t1,f1,dy,t2,e2,λy H2 c2 f2 s2 ry=>s f2 (rx.mono s2.ext) ry eq λp vs H' c' f' s' rv hp=>k p vs H' c' f' ((s1.trans s2).trans s') rv hp⟩⟩
end
variable {μ:Cf->Hp->D->(V->Hp->Prop)->Prop}
section
variable {X:Cx}{e a b:Expr}{pos:Pos}{st:Stmt}{sts:List Stmt}
noncomputable def Ae (f g:M Out):M Out:=λt=>match f t with
 | some (.next,t1)=>g t1
 | z=>z
def An:M Out:=ret .next
theorem Tm:PSs X [] (RSg X.K μ An):=LU Uo λE σ H z9=>by
 obtain ⟨Oo,c,t,fi,o,t',eq,k⟩:=z9
 cases eq
 exact k σ H c fi .refl
theorem Qu {μ:Cf->Hp->D->(V->Hp->Prop)->Prop}{f g:M Out}(h1:PS X st (RSg X.K μ f))(h2:PSs X sts (RSg X.K μ g)):PSs X (st :: sts) (RSg X.K μ (Ae f g)):=
 LU (Q2 h1 h2) λE σ H z9=>by
  obtain ⟨Oo,c,t,fi,o,t',eq,k⟩:=z9;unfold Ae at eq
  cases e1:f t with
  | none=>rw [e1] at eq;cases eq
  | some p=>
    obtain ⟨o1,t1⟩:=p;rw [e1] at eq;refine ⟨Oo,c,t,fi,o1,t1,e1,λσ1 H1 c1 f1 s1=>?_⟩
    cases o1 with
    | next=>exact ⟨Oo,c1,t1,f1,o,t',eq,λσ2 H2 c2 f2 s2=>k σ2 H2 c2 f2 (s1.trans s2)⟩
    | brk=>cases eq;exact k σ1 H1 c1 f1 s1
    | cont=>cases eq;exact k σ1 H1 c1 f1 s1
    | ret d=>cases eq;exact k σ1 H1 c1 f1 s1
theorem Tn {μ:Cf->Hp->D->(V->Hp->Prop)->Prop}{f:M Out}(h1:PS X st (RSg X.K μ f)):PSs X [st] (RSg X.K μ f):=Jm h1
def Am (f:M D):M Out:=bnd f λd=>ret (.ret d)
theorem Ox (h:PE X e (RE X.K f)):PS X (.Return (some e) pos) (RS X.K (Am f)):=
 A3 (IE h) λE σ H z9=>by
  obtain ⟨Oo,c,t,fi,o,t',eq,k⟩:=z9;obtain ⟨d,t1,e1,eq⟩:=Af eq
  cases eq
  exact ⟨Oo,c,t,fi,d,_,e1,λv H1 c1 f1 s1 rv=>k σ H1 c1 f1 s1 v rv⟩
def Eo (f:M D):M Out:=bnd f λ_=>ret .next
theorem L8 (h:PE X e (RE X.K f))(hs:swapsWith e none pos.line X.env=pure false:=by rfl):PS X (.Expr e pos) (RSg X.K μ (Eo f)):=
 A3 (Jl h hs) λE σ H z9=>by
  obtain ⟨Oo,c,t,fi,o,t',eq,k⟩:=z9;obtain ⟨d,t1,e1,eq⟩:=Af eq
  cases eq
  exact ⟨Oo,c,t,fi,d,_,e1,λv H1 c1 f1 s1 rv=>k σ H1 c1 f1 s1⟩
def ifS (f:M Bool)(g h:M Out):M Out:=bnd f λk=>if k=true then g else h
theorem XD {f:M Bool}{g h:M Out}{sa sb:List Stmt}(hc:PT X e (RT X.K f))(ha:PSs X sa (RSg X.K μ g))(hb:PSs X sb (RSg X.K μ h)):PS X (.If e sa sb pos) (RSg X.K μ (ifS f g h)):=
 A3 (XU hc ha hb) λE σ H z9=>by
  obtain ⟨Oo,c,t,fi,o,t',eq,k⟩:=z9;obtain ⟨kb,t1,e1,eq⟩:=Af eq;refine ⟨Oo,c,t,fi,kb,t1,e1,λH1 c1 f1 s1=>?_⟩
  cases kb with
  | true=>rw [if_pos rfl] at eq ⊢;exact ⟨Oo,c1,t1,f1,o,t',eq,λσ2 H2 c2 f2 s2=>k σ2 H2 c2 f2 (s1.trans s2)⟩
  | false=>rw [if_neg Bool.false_ne_true] at eq ⊢;exact ⟨Oo,c1,t1,f1,o,t',eq,λσ2 H2 c2 f2 s2=>k σ2 H2 c2 f2 (s1.trans s2)⟩
noncomputable def Ar (i:Nat)(d:D):M Unit:=λt=>some ((),{ t with env:=t.env.set i (some (.val d)) })
def Ao (i:Nat)(f:M D):M Out:=bnd f λd=>bnd (Ar i d) λ_=>ret .next
theorem RS.set {μ:Cf->Hp->D->(V->Hp->Prop)->Prop}{K:PySem.W.Frag}{i:Nat}{f:M D}{E:Ends}{σ:L2.St}{H:Hp}(q:RSg K μ (Ao i f) E σ H):Lz (RE K f) (Iu i) E σ H:=by
 obtain ⟨Oo,c,t,fi,o,t',eq,k⟩:=q;obtain ⟨d,t1,e1,eq⟩:=Af eq
 cases eq
 exact ⟨Oo,c,t,fi,d,t1,e1,λv H1 c1 f1 s1 rv=>k _ H1 c1 (f1.set rv) s1⟩
theorem KQ {pos':Pos}(hN:X.N.Nodup)(hi:X.N[i]?=some x)(hx:Loc X.env.scope x)(he:PE X e (RE X.K f))(hs:swapsWith e (some (.Name x pos')) pos.line X.env=pure false:=by rfl)(hf:X.fn x=true\/X.env.scope.names.lookup x=some .local:=by walk_at "h") :
 PS X (.Assign [.Name x pos'] e pos) (RSg X.K μ (Ao i f)):=A3 (Lh hN hi hx he hs hf) λ_ _ _ q=>RS.set q
def D2 (i:Nat)(f:M (List D)):M Out:=bnd f λds t=>some (.next,{ t with env:=t.env.set i (some (.own ds)) })
theorem RS.own {f:M (List D)}{E:Ends}(q:RSg K μ (D2 i f) E σ H):Lz (RF K f) (Iu i) E σ H:=by
 obtain ⟨Oo,c,t,fi,o,t',eq,k⟩:=q;obtain ⟨ds,t1,e1,eq⟩:=Af eq
 cases eq
 refine ⟨Oo,c,t,fi,ds,t1,e1,λp vs H1 c1 f1 s1 rv hp=>?_⟩;obtain ⟨c2,f2,s2⟩:=f1.setOwn (i:=i) hp rv;exact k _ _ c2 f2 (s1.trans s2)
theorem VQ {f:M (List D)}{pos':Pos}(hN:X.N.Nodup)(hi:X.N[i]?=some x)(hx:Loc X.env.scope x)(he:PE X e (RF X.K f))(hs:swapsWith e (some (.Name x pos')) pos.line X.env=pure false:=by rfl)(hf:X.fn x=true\/X.env.scope.names.lookup x=some .local:=by walk_at "h") :
 PS X (.Assign [.Name x pos'] e pos) (RSg X.K μ (D2 i f)):=A3 (Lh hN hi hx he hs hf) λ_ _ _ q=>RS.own q
theorem Bl (hN:X.N.Nodup)(hi:X.N[i]?=some x)(hx:Loc X.env.scope x)(hf:X.fn x=true\/X.env.scope.names.lookup x=some .local:=by walk_at "h"):PG X (.Name x pos) (RG X.K (Ar i)):=
 Gc (Uf hN hi hx hf) λv σ H Q z9=>by
  obtain ⟨Oo,c,t,d,fi,rv,t',eq,k⟩:=z9
  cases eq
  exact k _ H c (fi.set rv) .refl
def Cd (f:M D)(g:D->M Unit):M Out:=bnd f λd=>bnd (g d) λ_=>ret .next
theorem VP {g:D->M Unit}(he:PE X e (RE X.K f))(hg:PG X tg (RG X.K g))(hs:swapsWithSole [tg] e pos.line X.env=pure false:=by rfl)(hw:swappedStores [tg] e X.env=pure none:=by rfl)(hp:(assignEach [tg] X.env).map (·.2)=[assign tg X.env]:=by rfl) :
 PS X (.Assign [tg] e pos) (RSg X.K μ (Cd f g)):=
 A3 (by first | exact Pb he hg hs hw | exact Pb he hg hs hw hp) λE σ H z9=>by
  obtain ⟨Oo,c,t,fi,o,t',eq,k⟩:=z9;obtain ⟨d,t1,e1,eq⟩:=Af eq;obtain ⟨u,t2,e2,eq⟩:=Af eq
  cases eq
  exact ⟨Oo,c,t,fi,d,t1,e1,λv H1 c1 f1 s1 rv=>⟨Oo,c1,t1,d,f1,rv,_,e2,λσ2 H2 c2 f2 s2=>k σ2 H2 c2 f2 (s1.trans s2)⟩⟩
inductive RGs (K:PySem.W.Frag)(f:List D->M Unit)(vs:List V)(σ:L2.St)(H:Hp)(Q:L2.St->Hp->Prop):Prop where
 | mk (Oo:Addr->Prop) (c:Cf) (t:T) (ds:List D) (fi:FInv K Oo c t σ H) (r:Reps K c H vs ds) (t':T) (e:f ds t=some ((),t')) (k:∀σ' H' c',FInv K Oo c' t' σ' H'->Stp Oo c H c' H'->Q σ' H'):RGs K f vs σ H Q
theorem LS {ts:List Expr}{t t':TGs}(h:PGs X ts t)(i:∀v σ H Q,t' v σ H Q->t v σ H Q):PGs X ts t':=λpins s σ H vs us Q I r q=>h pins s σ H vs us Q I r (i vs σ H Q q)
def CU:List D->M Unit
 | []=>ret ()
 | _=>fail
def AL (f:D->M Unit)(g:List D->M Unit):List D->M Unit
 | d :: ds=>bnd (f d) λ_=>g ds
 | []=>fail
theorem S9:PGs X [] (RGs X.K CU):=LS Ug λvs σ H Q z9=>by
 obtain ⟨Oo,c,t,ds,fi,rv,t',eq,k⟩:=z9
 cases rv with
 | nil=>cases eq;exact ⟨rfl,k σ H c fi .refl⟩
 | cons _ _=>cases eq
theorem RGs.cons {K:PySem.W.Frag}{f:D->M Unit}{g:List D->M Unit}{vs:List V}{σ:L2.St}{H:Hp}{Q:L2.St->Hp->Prop}(q:RGs K (AL f g) vs σ H Q):R4 (RG K f) (RGs K g) vs σ H Q:=by
 obtain ⟨Oo,c,t,ds,fi,rv,t',eq,k⟩:=q
 cases rv with
 | nil=>cases eq
 | cons r rs=>
   obtain ⟨u,t1,e1,eq⟩:=Af eq;exact ⟨_,_,rfl,Oo,c,t,_,fi,r,t1,e1,λσ1 H1 c1 f1 s1=>⟨Oo,c1,t1,_,f1,rs.mono s1.ext,t',eq,λσ2 H2 c2 f2 s2=>k σ2 H2 c2 f2 (s1.trans s2)⟩⟩
def unT (n:Nat)(g:List D->M Unit):D->M Unit
 | .tup ds=>if ds.length=n then g ds else fail
 | _=>fail
def Bm (st:D->M Unit)(b:M Out):List D->M Out
 | []=>ret .next
 | d :: r=>λt=>match st d t with
   | none=>none
   | some (_,t1)=>match b t1 with
     | some (.next,t2)=>Bm st b r t2
     | some (.cont,t2)=>Bm st b r t2
     | some (.brk,t2)=>some (.next,t2)
     | some (.ret x,t2)=>some (.ret x,t2)
     | none=>none
def BD (f:M (List D))(st:D->M Unit)(b:M Out):M Out:=bnd f λds=>Bm st b ds
theorem RS.for {f:M (List D)}{g:D->M Unit}{b:M Out}{E:Ends}(q:RSg K μ (BD f g b) E σ H):Rp (RI K f) (RG K g) (RSg K μ b) E σ H:=by
 obtain ⟨Oo,c,t,fi,o,t',eq,k⟩:=q;obtain ⟨ds,t1,e1,eq⟩:=Af eq;refine ⟨Oo,c,t,fi,ds,t1,e1,λJ H1 c1 f1 s1 it=>?_⟩;refine ⟨λi m σ' H'=>m=ds.length - i/\i<=ds.length/\∃c' t2,FInv K Oo c' t2 σ' H'/\Stp Oo c1 H1 c' H'/\Bm g b (ds.drop i) t2=some (o,t'),⟨_,rfl,Nat.zero_le _,c1,t1,f1,.refl,by rw [List.drop_zero];exact eq⟩,?_⟩;rintro i m σ' H' ⟨rfl,hi,c',t2,f2,s2,e2⟩
 by_cases hlt:i < ds.length
 ·refine .inr ⟨it.go c' H' i s2.ext hlt,λσ3 H3=>∃c3 t3,FInv K Oo c3 t3 σ3 H3/\Stp Oo c1 H1 c3 H3/\Bm g b (ds.drop (i + 1)) t3=some (o,t'),λσ3 H3 h=>⟨ds.length - (i + 1),by lia,rfl,hlt,h⟩,λx H'' hy=>?_⟩;obtain ⟨rfl,rx⟩:=it.yld c' H' i x H'' _ s2.ext (List.getElem?_eq_getElem hlt) hy;rw [List.drop_eq_getElem_cons hlt] at e2;unfold Bm at e2
  cases e3:g ds[i] t2 with
  | none=>rw [e3] at e2;cases e2
  | some p=>
    obtain ⟨u,t3⟩:=p;rw [e3] at e2
    try dsimp only at e2
    refine ⟨Oo,c',t2,_,f2,rx,t3,e3,λσ3 H3 c3 f3 s3=>?_⟩
    cases e4:b t3 with
    | none=>rw [e4] at e2;cases e2
    | some p=>
      obtain ⟨o4,t4⟩:=p;rw [e4] at e2
      try dsimp only at e2
      refine ⟨Oo,c3,t3,f3,o4,t4,e4,λσ5 H5 c5 f5 s5=>?_⟩;have s':=(s2.trans s3).trans s5
      cases o4 with
      | next=>exact ⟨c5,t4,f5,s',e2⟩
      | cont=>exact ⟨c5,t4,f5,s',e2⟩
      | brk=>cases e2;exact k σ5 H5 c5 f5 (s1.trans s')
      | ret r=>cases e2;exact k σ5 H5 c5 f5 (s1.trans s')
 ·have hi':i=ds.length:=by lia
  subst hi';rw [List.drop_length] at e2
  cases e2
  exact .inl ⟨it.stop c' H' s2.ext,k σ' H' c' f2 (s1.trans s2)⟩
theorem Ou {iter:Expr}{body:List Stmt}{f:M (List D)}{g:D->M Unit}{b:M Out}(hp:PassesOwn (model X.prog X.w) X.A X.env X.xe)(hc:X.calm=true)(hi:PI X tg iter (RI X.K f))(hg:PG X tg (RG X.K g))(hb:PSs X body (RSg X.K μ b))
 (hs:∀x,foldedSetIterable iter X.env x=pure x:=by intro _;rfl):PS X (.For tg iter body [] pos) (RSg X.K μ (BD f g b)):=
 A3 (Pc hp hc hi hg hb hs) λ_ _ _ q=>RS.for q
theorem ItOk.lst {K:PySem.W.Frag}{c:Cf}{H:Hp}{p:Addr}{ds:List D}(r:∀c' H',Ext c H c' H'->∃vs,SqL K H' p vs/\Reps K c' H' vs ds):ItOk K (Itl K p) c H ds:=by
 refine ⟨λc' H' i ex hi=>?_,λc' H' i x H'' d ex hd hy=>?_,λc' H' ex=>?_⟩
 ·obtain ⟨vs,h1,h2⟩:=r c' H' ex;obtain ⟨v,e,_⟩:=h2.at (List.getElem?_eq_getElem hi);exact ⟨vs,v,h1,e⟩
 ·obtain ⟨vs,h1,h2⟩:=r c' H' ex;obtain ⟨rfl,h⟩:=hy;exact ⟨rfl,h2.get (h vs h1) hd⟩
 ·obtain ⟨vs,h1,h2⟩:=r c' H' ex;exact ⟨vs,h1,by rw [h2.length];exact Nat.le_refl _⟩
theorem ItOk.tup {K:PySem.W.Frag}{c:Cf}{H:Hp}{p:Addr}{ds:List D}(r:∀c' H',Ext c H c' H'->∃vs,SqT K H' p vs/\Reps K c' H' vs ds):ItOk K (Itt K p) c H ds:=by
 refine ⟨λc' H' i ex hi=>?_,λc' H' i x H'' d ex hd hy=>?_,λc' H' ex=>?_⟩
 ·obtain ⟨vs,h1,h2⟩:=r c' H' ex;obtain ⟨v,e,_⟩:=h2.at (List.getElem?_eq_getElem hi);exact ⟨vs,v,h1,e⟩
 ·obtain ⟨vs,h1,h2⟩:=r c' H' ex;obtain ⟨rfl,h⟩:=hy;exact ⟨rfl,h2.get (h vs h1) hd⟩
 ·obtain ⟨vs,h1,h2⟩:=r c' H' ex;exact ⟨vs,h1,by rw [h2.length];exact Nat.le_refl _⟩
end
theorem FInv.leave {Oo:Addr->Prop}(f:FInv K Oo c t σ H):SInv K ⟨c.ι,Oo⟩ t.S H/\Ext c H ⟨c.ι,Oo⟩ H:=by
 have ext:Ext c H ⟨c.ι,Oo⟩ H:=⟨λ_ _ e _=>e,λb o _ z=>z.elim .inl λw=>.inr (f.sub b w),λ_ _ e=>e⟩;exact ⟨⟨f.s.len,f.s.nd,λk a o e1 e2=>(f.s.obs k a o e1 e2).mono ext rfl,λb z=>f.s.trk b (f.sub b z),λb z=>f.s.dis b (f.sub b z)⟩,ext⟩
noncomputable def env0 (m:Nat)(ds:List D):List (Option Sl):=ds.map (λd=>some (.val d))++List.replicate (m - ds.length) none
def fnOf (n m:Nat)(g:M Out):Fn:=λds S=>if ds.length=n then (match g ⟨env0 m ds,S⟩ with
 | some (.ret r,t)=>some (r,t.S)
 | some (.next,t)=>some (.non,t.S)
 | _=>none) else none
theorem FL {ds:List D}{N:List Str}(s:SInv K c S H)(r:Reps K c H vs ds):FInv K c.O c ⟨env0 N.length ds,S⟩ (L2.start N vs) H:=by
 have hlen:vs.length=ds.length:=r.length;have none_:∀{i:Nat} {x:Sl},(env0 N.length ds)[i]?=some (some x)->∃d,ds[i]?=some d/\x = .val d:=λ{i x} q=>by
  unfold env0 at q
  by_cases hi:i < ds.length
  ·rw [List.getElem?_append_left (by simpa using hi),List.getElem?_map,List.getElem?_eq_getElem hi] at q;simp at q;exact ⟨ds[i],List.getElem?_eq_getElem hi,q.symm⟩
  ·rw [List.getElem?_append_right (by simpa using hi),List.getElem?_replicate] at q
   split at q <;> simp at q
 refine ⟨s,by simp [env0,L2.start,hlen],λ_ z=>z,λi d q=>?_,λi es q=>?_,λi j es _ a q _ _ _=>?_⟩
 ·obtain ⟨d',h1,h2⟩:=none_ q
  cases h2
  obtain ⟨v,h3,h4⟩:=r.at h1;refine ⟨v,?_,h4⟩;unfold L2.start;have hi:=(List.getElem?_eq_some_iff.mp h3).1;rw [List.getElem?_append_left (by simpa using hi),List.getElem?_map,h3];rfl
 ·obtain ⟨_,_,h2⟩:=none_ q;cases h2
 ·obtain ⟨_,_,h2⟩:=none_ q;cases h2
theorem XC {P:Program}{w:World}{mg:Str->Option Value}{base:Heap}{qual:Str}{st:Stmt}{fa:Addr}{fd:FuncData}{N ps:List Str}{k:Nat}{g:M Out}(F:Fun K x qual st fa fd)(S:FnScope N ps (Ax st))
 (hb:∀(cdv:Value) (A:Around) (outer:List Env) (s:Shared) (H:Hp) (E:XK),Room k (A.deeper (PyProof.Rows.envOfC qual (Ax st) s.heap.objs.size fa cdv))->
   PSs (DP CX0 P w K mg base N qual (Ax st) fa cdv A outer s H E).nox (Bk st) (RS K g)):FnOk P w K mg base CX0 (k + 1) fa fd ps (spF K (fnOf ps.length N.length g)):=by
 have hlen:∀{ds:List D} {S:List Ob} {z:D×List Ob},fnOf ps.length N.length g ds S=some z->ds.length=ps.length:=λ{ds S z} h=>by
  unfold fnOf at h
  split at h
  ·next h1=>exact h1
  ·cases h
 refine F.ok S (λvs H Q E h=>?_) (λcdv A outer s H vs Q E hr h=>?_)
 ·obtain ⟨c,ds,S,si,rs,r,S',e,_⟩:=h;rw [rs.length];exact hlen e
 obtain ⟨c,ds,S0,si,rs,r,S',e,kk⟩:=h;refine ⟨RS K g,hb cdv A outer s H E hr,?_⟩;have hl:=hlen e;unfold fnOf at e;rw [if_pos hl] at e
 cases eg:g ⟨env0 N.length ds,S0⟩ with
 | none=>rw [eg] at e;cases e
 | some p=>
   obtain ⟨o,t⟩:=p;rw [eg] at e;refine ⟨c.O,c,_,FL si rs,o,t,eg,λσ' H' c' f' s'=>?_⟩;obtain ⟨si',ext'⟩:=f'.leave;have st':Stp c.O c H ⟨c'.ι,c.O⟩ H':=⟨s'.ext.trans ext',s'.oo⟩
   cases o with
   | next=>cases e;exact kk .non H' _ si' st' (λ_=>Iff.rfl) .non
   | ret d=>cases e;exact λv rv=>kk v H' _ si' st' (λ_=>Iff.rfl) (rv.mono ext')
   | brk=>cases e
   | cont=>cases e
variable {fr:List Nat}
section
variable {X:Cx}{e a b:Expr}{pos:Pos}
def items:D->M (List D)
 | .lst ds=>ret ds
 | .tup ds=>ret ds
 | .scr ns=>ret (ns.map .int)
 | _=>fail
noncomputable def AT (lo:Int)(n:Nat):List D:=(List.range n).map λi=>.int (lo + (i:Nat))
theorem ItOk.rng {lo:Int}:ItOk K (Itr lo n) c H (AT lo n):=by
 refine ⟨λc' H' i ex hi=>?_,λc' H' i x H'' d ex hd hy=>?_,λc' H' ex=>?_⟩
 ·have:i < n:=by simpa [AT] using hi
  exact this
 ·obtain ⟨rfl,rfl⟩:=hy;refine ⟨rfl,?_⟩;have hi:i < n:=by
   have:=(List.getElem?_eq_some_iff.mp hd).1;simpa [AT] using this
  have:d = .int (lo + (i:Nat)):=by
   rw [AT,List.getElem?_map,List.getElem?_range hi] at hd;simpa using hd.symm
  rw [this];exact .int _
 ·show n<=(AT lo n).length;simp [AT]
noncomputable def BL (i:Int):Bool:=decide (-(2 ^ 62)<=i) && decide (i < 2 ^ 62)
def Jn:List D->M (List D)
 | [.int j]=>λt=>if BL j=true then some (AT 0 j.toNat,t) else none
 | _=>fail
def Jo:List D->M (List D)
 | [.int i,.int j]=>λt=>if (BL i && BL j)=true then some (AT i (j - i).toNat,t) else none
 | _=>fail
def BZ (f:M (List D)):M (List D):=bnd f Jn
def E7 (f:M (List D)):M (List D):=bnd f Jo
theorem Ed {i:Int}(h:BL i=true) : -(2 ^ 62)<=i/\i < 2 ^ 62:=by
 unfold BL at h;rw [Bool.and_eq_true] at h;exact ⟨of_decide_eq_true h.1,of_decide_eq_true h.2⟩
theorem On {f:M (List D)}(hg:Gl X "range")(hm:X.mg "range" = none)(ha:PA X [a] (RA X.K f))(hs:starEach [a] X.env=[(false,eval a X.env)]:=by rfl):PI X tg (.Call (.Name "range" p) [a] [] pos) (RI X.K (BZ f)):=
 Ge (O6 hg hm ha hs) λσ H R z9=>by
  obtain ⟨Oo,c,t,fi,ds,t',eq,k⟩:=z9;obtain ⟨xs,t1,e1,eq⟩:=Af eq;refine ⟨Oo,c,t,fi,xs,t1,e1,λvs H1 c1 f1 s1 rv=>?_⟩;unfold Jn at eq
  split at eq
  ·next j=>
   split at eq
   ·next hs=>
    cases eq
    cases rv with
    | cons r rs=>
      cases rs
      cases r
      obtain ⟨h1,h2⟩:=Ed hs;exact ⟨j,rfl,h1,h2,k _ H1 c1 f1 s1 ItOk.rng⟩
   ·cases eq
  ·cases eq
theorem Op {f:M (List D)}(hg:Gl X "range")(hm:X.mg "range" = none)(ha:PA X [a,b] (RA X.K f))(hs:starEach [a,b] X.env=[(false,eval a X.env),(false,eval b X.env)]:=by rfl)(hs2:starEach [b] X.env=[(false,eval b X.env)]:=by rfl):PI X tg (.Call (.Name "range" p) [a,b] [] pos) (RI X.K (E7 f)):=
 Ge (O7 hg hm ha hs hs2) λσ H R z9=>by
  obtain ⟨Oo,c,t,fi,ds,t',eq,k⟩:=z9;obtain ⟨xs,t1,e1,eq⟩:=Af eq;refine ⟨Oo,c,t,fi,xs,t1,e1,λvs H1 c1 f1 s1 rv=>?_⟩;unfold Jo at eq
  split at eq
  ·next i j=>
   split at eq
   ·next hs=>
    cases eq
    rw [Bool.and_eq_true] at hs
    cases rv with
    | cons r rs=>
      cases r
      cases rs with
      | cons r rs=>
        cases rs
        cases r
        obtain ⟨h1,h2⟩:=Ed hs.1;obtain ⟨h3,h4⟩:=Ed hs.2;exact ⟨i,j,rfl,⟨h1,h2,h3,h4⟩,k _ H1 c1 f1 s1 ItOk.rng⟩
   ·cases eq
  ·cases eq
def AX (st:D->M Unit)(tst:M Bool)(elt:M D):List D->M (List D)
 | []=>ret []
 | d :: r=>bnd (st d) λ_=>bnd tst λk=>if k=true then bnd elt λx=>bnd (AX st tst elt r) λxs=>ret (x :: xs) else AX st tst elt r
noncomputable def Yb:Option (Option Sl)->Option Sl
 | some (some (.val d))=>some (.val d)
 | _=>none
def cenv (n:Nat)(fr:List Nat)(env:List (Option Sl)):List (Option Sl):=List.replicate n none++fr.map λi=>Yb env[i]?
noncomputable def EG (n:Nat)(fr:List Nat)(σ:L2.St):L2.St:=List.replicate n none++fr.map λi=>(σ[i]?).join
def AB (n:Nat)(fr:List Nat)(f:M (List D))(st:D->M Unit)(tst:M Bool)(elt:M D):M (List D):=bnd f λds t=>match AX st tst elt ds ⟨cenv n fr t.env,t.S⟩ with
 | some (xs,t')=>if xs.length<=LIM then some (xs,{ t with S:=t'.S }) else none
 | none=>none
theorem Hw {env:List (Option Sl)}{x:Sl}(h:(cenv n fr env)[j]?=some (some x)):∃i d,n<=j/\fr[j - n]?=some i/\env[i]?=some (some (.val d))/\x = .val d:=by
 unfold cenv at h
 by_cases hj:j < n
 ·rw [List.getElem?_append_left (by simpa using hj),List.getElem?_replicate] at h
  split at h <;> simp at h
 ·rw [List.getElem?_append_right (by simpa using hj),List.length_replicate,List.getElem?_map] at h
  cases e:fr[j - n]? with
  | none=>rw [e] at h;simp at h
  | some i=>
    rw [e] at h;simp only [Option.map_some,Option.some.injEq] at h
    cases e2:env[i]? with
    | none=>rw [e2] at h;cases h
    | some o=>
      cases o with
      | none=>rw [e2] at h;cases h
      | some sl=>
        cases sl with
        | own _=>rw [e2] at h;cases h
        | val d=>rw [e2] at h;cases h;exact ⟨i,d,by lia,rfl,e2,rfl⟩
theorem Ip {Oo:Addr->Prop}(f:FInv K Oo c t σ H):FInv K c.O c ⟨cenv n fr t.env,t.S⟩ (EG n fr σ) H:=by
 refine ⟨f.s,by simp [cenv,EG],λ_ z=>z,λj d q=>?_,λj es q=>?_,λj _ es _ _ q _ _ _=>?_⟩
 ·obtain ⟨i,d',h0,h1,h2,h3⟩:=Hw q
  cases h3
  obtain ⟨v,h4,h5⟩:=f.val i d h2;refine ⟨v,?_,h5⟩;unfold EG;rw [List.getElem?_append_right (by simpa using h0),List.length_replicate,List.getElem?_map,h1];simp [h4]
 ·obtain ⟨_,_,_,_,_,h⟩:=Hw q;cases h
 ·obtain ⟨_,_,_,_,_,h⟩:=Hw q;cases h
theorem RF.comp {f:M (List D)}{st:D->M Unit}{tst:M Bool}{elt:M D}{Q:VK}(q:RF K (AB n fr f st tst elt) σ H Q):J6 (RI K f) (RG K st) (RT K tst) (RE K elt) (EG n fr) σ H Q:=by
 obtain ⟨Oo,c,t,fi,xs,t',eq,k⟩:=q;obtain ⟨ds,t1,e1,eq⟩:=Af eq;refine ⟨Oo,c,t,fi,ds,t1,e1,λJ H1 c1 f1 s1 it=>?_⟩
 cases e3:AX st tst elt ds ⟨cenv n fr t1.env,t1.S⟩ with
 | none=>rw [e3] at eq;cases eq
 | some p=>
   obtain ⟨ys,t3⟩:=p;rw [e3] at eq;dsimp only at eq
   split at eq
   case isFalse=>cases eq
   next hl=>
   cases eq
   refine ⟨λi m acc σ' H'=>m=ds.length - i/\i<=ds.length/\∃c' t2 zs rest,FInv K c1.O c' t2 σ' H'/\Stp c1.O c1 H1 c' H'/\Reps K c' H' acc zs/\AX st tst elt (ds.drop i) t2=some (rest,t3)/\xs=zs++rest,
    ⟨_,rfl,Nat.zero_le _,c1,_,[],xs,Ip f1,.refl,.nil,by rw [List.drop_zero];exact e3,rfl⟩,?_⟩
   rintro i m acc σ' H' ⟨rfl,hi,c',t2,zs,rest,f2,s2,ra,e2,ez⟩;have hacc:acc.length<=sizeLine:=by
    have:zs.length<=xs.length:=by rw [ez,List.length_append];exact Nat.le_add_right _ _
    rw [ra.length];exact Nat.le_trans this (Nat.le_trans hl BR)
   refine ⟨hacc,?_⟩
   by_cases hlt:i < ds.length
   ·refine .inr ⟨it.go c' H' i s2.ext hlt,λx H'' hy=>?_⟩;obtain ⟨rfl,rx⟩:=it.yld c' H' i x H'' _ s2.ext (List.getElem?_eq_getElem hlt) hy;rw [List.drop_eq_getElem_cons hlt] at e2;unfold AX at e2;obtain ⟨u,t4,e4,e2⟩:=Af e2;obtain ⟨kb,t5,e5,e2⟩:=Af e2;refine ⟨c1.O,c',t2,_,f2,rx,t4,e4,λσ3 H3 c3 f3 s3=>⟨c1.O,c3,t4,f3,kb,t5,e5,λH4 c4 f4 s4=>?_⟩⟩
    cases kb with
    | false=>
      rw [if_neg Bool.false_ne_true] at e2 ⊢;exact ⟨ds.length - (i + 1),by lia,rfl,hlt,c4,t5,zs,rest,f4,(s2.trans s3).trans s4,ra.mono (s3.trans s4).ext,e2,ez⟩
    | true=>
      rw [if_pos rfl] at e2 ⊢;obtain ⟨x6,t6,e6,e2⟩:=Af e2;obtain ⟨r7,t7,e7,e2⟩:=Af e2
      cases e2
      refine ⟨c1.O,c4,t5,f4,x6,t6,e6,λv H5 c5 f5 s5 rv=>?_⟩;exact ⟨ds.length - (i + 1),by lia,rfl,hlt,c5,t6,zs++[x6],r7,f5,((s2.trans s3).trans s4).trans s5,(ra.mono ((s3.trans s4).trans s5).ext).append (.cons rv .nil),e7,by rw [ez,List.append_assoc];rfl⟩
   ·have hi':i=ds.length:=by lia
    subst hi';rw [List.drop_length] at e2
    cases e2
    refine .inl ⟨it.stop c' H' s2.ext,λp hp _=>?_⟩;obtain ⟨si,ext⟩:=f2.leave;obtain ⟨f6,s6⟩:=f1.after si ⟨s2.ext.trans ext,s2.oo⟩ (λ_=>Iff.rfl);rw [List.append_nil] at ez;subst ez;exact k p acc H' _ f6 (s1.trans s6) (ra.mono ext) hp
end
end F2
namespace F2
open PySem L2 PySem.Spec PySem.SeqAt
def Nk:D->Option Bool
 | .non=>some false
 | .bl _=>some false
 | .int _=>some false
 | .lst _=>some false
 | .tup _=>some false
 | _=>none
noncomputable def eq0:D->D->Option Bool
 | .int a,.int b=>some (a == b)
 | .str a,.str b=>some (a == b)
 | .bl a,.bl b=>some (a == b)
 | .non,.non=>some true
 | .str _,y=>Nk y
 | x,.str _=>Nk x
 | _,_=>none
noncomputable def CL (f:D->D->Option Bool):List D->List D->Option Bool
 | x :: xs,y :: ys=>match f x y,CL f xs ys with
   | some a,some b=>some (a && b)
   | _,_=>none
 | _,_=>some true
def eqN:Nat->D->D->Option Bool
 | 0,x,y=>eq0 x y
 | n + 1,.tup xs,.tup ys=>(CL (eqN n) xs ys).map λb=>b && xs.length == ys.length
 | n + 1,.lst xs,.lst ys=>if xs.length=ys.length then CL (eqN n) xs ys else some false
 | _ + 1,x,y=>eq0 x y
noncomputable def ej (f:D->D->Option Bool)(xs ys:List D)(j:Nat):Bool:=match xs[j]?,ys[j]? with
 | some d,some e=>(f d e).getD true
 | _,_=>true
theorem CM {f:D->D->Option Bool}:∀{xs ys:List D} {b:Bool},CL f xs ys=some b->b=(List.range (min xs.length ys.length)).all (ej f xs ys)/\∀(j:Nat) d e,xs[j]?=some d->ys[j]?=some e->∃k,f d e=some k
 | [],ys,b,h=>by
   have h:some true=some b:=by simpa [CL] using h
   cases h
   refine ⟨by simp,λj d e q _=>by simp at q⟩
 | x :: xs,[],b,h=>by
   have h:some true=some b:=by simpa [CL] using h
   cases h
   refine ⟨by simp,λj d e _ q=>by simp at q⟩
 | x :: xs,y :: ys,b,h=>by
   unfold CL at h
   cases e1:f x y with
   | none=>rw [e1] at h;cases h
   | some a=>
     cases e2:CL f xs ys with
     | none=>rw [e1,e2] at h;cases h
     | some c=>
       rw [e1,e2] at h
       cases h
       obtain ⟨h1,h2⟩:=CM e2;refine ⟨?_,λj d e q1 q2=>?_⟩
       ·have hm:min (x :: xs).length (y :: ys).length=min xs.length ys.length + 1:=by simp [Nat.succ_min_succ]
        rw [hm,List.range_succ_eq_map,List.all_cons,List.all_map,h1];have:ej f (x :: xs) (y :: ys) 0=a:=by simp [ej,e1]
        rw [this];rfl
       ·cases j with
        | zero=>simp at q1 q2;subst q1 q2;exact ⟨a,e1⟩
        | succ j=>exact h2 j d e (by simpa using q1) (by simpa using q2)
variable {P:Program}{w:World}{H:Hp}{vs:List V}
theorem Ce {h:Heap}{a:Addr}(o:HOk P w H h)(e:H a=some (.lst vs)):∃its:List Value,Vals vs its/\h.IsList a its.toArray:=by
 obtain ⟨_,its,n,r,q⟩:=o a _ e;exact ⟨its,r,_,q,rfl,n,rfl⟩
theorem CD {h:Heap}{a:Addr}(o:HOk P w H h)(e:H a=some (.tup vs)):∃its:List Value,Vals vs its/\h.IsTuple a its.toArray:=by
 obtain ⟨_,its,r,q⟩:=o a _ e;exact ⟨its,r,q⟩
theorem FB {its:List Value}{j:Nat}(r:Vals vs its)(h:j < its.toArray.size):∃v,vs[j]?=some v/\RelV v its.toArray[j]:=by
 have h':j < its.length:=by simpa using h
 have hl:j < vs.length:=by rw [r.length];exact h'
 obtain ⟨u,e1,e2⟩:=r.get (List.getElem?_eq_getElem hl);refine ⟨vs[j],List.getElem?_eq_getElem hl,?_⟩;rw [List.getElem?_eq_getElem h'] at e1
 cases e1
 simpa using e2
variable {b:Bool}
theorem Oc {f:D->D->Option Bool}{xs ys:List D}(h:CL f xs ys=some b)(ht:∀(j:Nat) d e k,xs[j]?=some d->ys[j]?=some e->f d e=some k->k=true):b=true:=by
 obtain ⟨h1,h2⟩:=CM h;rw [h1,List.all_eq_true];intro j hj;have hj':=List.mem_range.mp hj;have l1:j < xs.length:=by lia
 have l2:j < ys.length:=by lia
 obtain ⟨k,ek⟩:=h2 j _ _ (List.getElem?_eq_getElem l1) (List.getElem?_eq_getElem l2);have:=ht j _ _ k (List.getElem?_eq_getElem l1) (List.getElem?_eq_getElem l2) ek;unfold ej;rw [List.getElem?_eq_getElem l1,List.getElem?_eq_getElem l2];simp [ek,this]
theorem Gn {x y:D}(e:eq0 x y=some b):(∃i j,x = .int i/\y = .int j/\(i == j)=b)\/(∃i j,x = .str i/\y = .str j/\(i == j)=b)\/(∃i j,x = .bl i/\y = .bl j/\(i == j)=b)\/(x = .non/\y = .non/\true=b)\/(∃i,x = .str i/\Nk y=some b)\/(∃j,y = .str j/\Nk x=some b):=by
 unfold eq0 at e
 split at e
 ·cases e;exact .inl ⟨_,_,rfl,rfl,rfl⟩
 ·cases e;exact .inr (.inl ⟨_,_,rfl,rfl,rfl⟩)
 ·cases e;exact .inr (.inr (.inl ⟨_,_,rfl,rfl,rfl⟩))
 ·cases e;exact .inr (.inr (.inr (.inl ⟨rfl,rfl,rfl⟩)))
 ·exact .inr (.inr (.inr (.inr (.inl ⟨_,rfl,e⟩))))
 ·exact .inr (.inr (.inr (.inr (.inr ⟨_,rfl,e⟩))))
 ·cases e
theorem Gp {n:Nat}{x y:D}(e:eqN n x y=some b):eq0 x y=some b\/(∃m xs ys,n=m + 1/\x = .lst xs/\y = .lst ys/\(if xs.length=ys.length then CL (eqN m) xs ys else some false)=some b)\/∃m xs ys b',n=m + 1/\x = .tup xs/\y = .tup ys/\CL (eqN m) xs ys=some b'/\(b' && xs.length == ys.length)=b:=by
 unfold eqN at e
 split at e
 ·exact .inl e
 ·obtain ⟨b',e1,e2⟩:=Option.map_eq_some_iff.mp e;exact .inr (.inr ⟨_,_,_,b',rfl,rfl,rfl,e1,e2⟩)
 ·exact .inr (.inl ⟨_,_,_,rfl,rfl,rfl,e⟩)
 ·exact .inl e
variable {K:PySem.W.Frag}{c:Cf}
theorem L3:∀(n:Nat) {v:V} {d e:D} {b:Bool},Rep K c H v d->Rep K c H v e->eqN n d e=some b->b=true
 :=by
  intro n
  induction n using Nat.strongRecOn with
  | ind n ih=>
  intro v d e b rd re q;have items:∀{m:Nat} {vs:List V} {ds es:List D} {b':Bool},n=m + 1->Reps K c H vs ds->Reps K c H vs es->CL (eqN m) ds es=some b'->b'=true:=λ{m vs ds es b'} hm r1 r2 e'=>
   Oc e' λj d e k q1 q2 ek=>by
    obtain ⟨v,g1,g2⟩:=r1.at q1;exact ih m (by lia) g2 (r2.get g1 q2) ek
  rcases Gp q with q0 | ⟨m,ds,es,hm,rfl,rfl,q0⟩ | ⟨m,ds,es,b',hm,rfl,rfl,q1,q2⟩
  ·rcases Gn q0 with ⟨i,j,rfl,rfl,rfl⟩ | ⟨i,j,rfl,rfl,rfl⟩ | ⟨i,j,rfl,rfl,rfl⟩ | ⟨rfl,rfl,rfl⟩ | ⟨i,rfl,qz⟩ | ⟨i,rfl,qz⟩
   ·cases rd;cases re;simp
   ·cases rd;cases re;simp
   ·cases rd;cases re;simp
   ·cases rd;cases re;rfl
   ·cases rd;cases re;cases qz
   ·cases re;cases rd;cases qz
  ·cases rd with
   | lst h1 h2 h3=>
     cases re with
     | lst g1 g2 g3=>
       rw [h1] at g1;cases g1
       rw [if_pos (h3.length.symm.trans g3.length)] at q0;exact items hm h3 g3 q0
  ·cases rd with
   | tup h1 h2 h3=>
     cases re with
     | tup g1 g2 g3=>
       rw [h1] at g1;cases g1
       rw [<-q2,items hm h3 g3 q1,h3.length.symm.trans g3.length];simp
theorem GW {s:Shared}(hok:HOk P w H s.heap):∀(n:Nat) {A:Around} {x y:V} {u v:Value} {dx dy:D} {b:Bool},RelV x u->RelV y v->Rep K c H x dx->Rep K c H y dy->eqN n dx dy=some b->A.units + n < cLine->
 RcAt A s u v b/\(EqAt A s u v b)
 :=by
  intro n
  induction n using Nat.strongRecOn with
  | ind n ih=>
  intro A x y u v dx dy b ru rv rx ry e hu;have items:∀{m:Nat} {vs ws:List V} {is js:List Value} {ds es:List D} {b':Bool},n=m + 1->Vals vs is->Vals ws js->Reps K c H vs ds->Reps K c H ws es->CL (eqN m) ds es=some b'->
   ∀j (h1:j < is.toArray.size) (h2:j < js.toArray.size),EqAt A.in1 s is.toArray[j] js.toArray[j] (ej (eqN m) ds es j):=λ{m vs ws is js ds es b'} hm r1 r2 q1 q2 e' j h1 h2=>by
   obtain ⟨v1,a1,a2⟩:=FB r1 h1;obtain ⟨v2,b1,b2⟩:=FB r2 h2;obtain ⟨l1,g1⟩:=List.getElem?_eq_some_iff.mp a1;obtain ⟨l2,g2⟩:=List.getElem?_eq_some_iff.mp b1;have k1:ds[j]?=some (ds[j]'(by rw [<-q1.length];exact l1)):=List.getElem?_eq_getElem _;have k2:es[j]?=some (es[j]'(by rw [<-q2.length];exact l2)):=List.getElem?_eq_getElem _;obtain ⟨kk,ek⟩:=(CM e').2 j _ _ k1 k2;have:ej (eqN m) ds es j=kk:=by unfold ej;rw [k1,k2];simp [ek]
   rw [this];have hu':A.in1.units + m < cLine:=by
    have:A.in1.units=A.units + 1:=by first | rfl | exact Around.units_in1 _ | simp [Around.in1,Around.units]
    lia
   exact (ih m (by lia) a2 b2 (q1.get a1 k1) (q2.get b1 k2) ek hu').2
  have hu0:A.units < cLine:=by lia
  have conc:∀{p q:Addr} {k:Bool},p≠q->RcAt A s (.ref p) (.ref q) k->RcAt A s (.ref p) (.ref q) k/\EqAt A s (.ref p) (.ref q) k:=λhn h=>⟨h,EqAt.of_refs hn h⟩;rcases Gp e with e0 | ⟨m,ds,es,hm,rfl,rfl,e0⟩ | ⟨m,ds,es,b',hm,rfl,rfl,e1,e2⟩
  ·rcases Gn e0 with ⟨i,j,rfl,rfl,rfl⟩ | ⟨i,j,rfl,rfl,rfl⟩ | ⟨i,j,rfl,rfl,rfl⟩ | ⟨rfl,rfl,rfl⟩ | ⟨i,rfl,qz⟩ | ⟨i,rfl,qz⟩
   ·cases rx;cases ry;obtain ⟨t',rfl⟩:=ru;obtain ⟨t,rfl⟩:=rv;exact ⟨RcAt.int_int _ _ _ _,EqAt.int_int _ _ _ _⟩
   ·cases rx;cases ry;obtain ⟨t',rfl⟩:=ru;obtain ⟨t,rfl⟩:=rv;exact ⟨RcAt.str_str _ _ _ _,EqAt.str_str _ _ _ _⟩
   ·cases rx;cases ry;cases ru;cases rv;exact ⟨RcAt.bool_bool _ _,EqAt.bool_bool _ _⟩
   ·cases rx;cases ry;cases ru;cases rv;exact ⟨RcAt.none_none,EqAt.same _⟩
   ·cases rx;obtain ⟨t',rfl⟩:=ru
    cases ry with
    | non=>cases rv;cases qz;exact ⟨RcAt.str_none _ _,EqAt.str_none _ _⟩
    | bl k=>cases rv;cases qz;exact ⟨RcAt.str_bool _ _ _,EqAt.str_bool _ _ _⟩
    | int k=>obtain ⟨t,rfl⟩:=rv;cases qz;exact ⟨RcAt.str_int _ _ _ _,EqAt.str_int _ _ _ _⟩
    | lst h1 h2 h3=>cases rv;obtain ⟨its,r,l⟩:=Ce hok h1;cases qz;exact ⟨RcAt.str_list _ _ l hu0,EqAt.str_list _ _ l hu0⟩
    | tup h1 h2 h3=>cases rv;obtain ⟨its,r,l⟩:=CD hok h1;cases qz;exact ⟨RcAt.str_tuple _ _ l hu0,EqAt.str_tuple _ _ l hu0⟩
    | _=>cases qz
   ·cases ry;obtain ⟨t',rfl⟩:=rv
    cases rx with
    | non=>cases ru;cases qz;exact ⟨RcAt.none_str _ _,EqAt.none_str _ _⟩
    | bl k=>cases ru;cases qz;exact ⟨RcAt.bool_str _ _ _,EqAt.bool_str _ _ _⟩
    | int k=>obtain ⟨t,rfl⟩:=ru;cases qz;exact ⟨RcAt.int_str _ _ _ _,EqAt.int_str _ _ _ _⟩
    | lst h1 h2 h3=>cases ru;obtain ⟨its,r,l⟩:=Ce hok h1;cases qz;exact ⟨RcAt.list_str _ _ l hu0,EqAt.list_str _ _ l hu0⟩
    | tup h1 h2 h3=>cases ru;obtain ⟨its,r,l⟩:=CD hok h1;cases qz;exact ⟨RcAt.tuple_str _ _ l hu0,EqAt.tuple_str _ _ l hu0⟩
    | _=>cases qz
  ·cases rx with
   | @lst p vs _ g1 g2 g3=>
   cases ry with
   | @lst q ws _ h1 h2 h3=>
     cases ru
     cases rv
     obtain ⟨is,r1,l1⟩:=Ce hok g1;obtain ⟨js,r2,l2⟩:=Ce hok h1;have hs1:is.toArray.size=ds.length:=by rw [<-g3.length,r1.length];simp
     have hs2:js.toArray.size=es.length:=by rw [<-h3.length,r2.length];simp
     by_cases hl:ds.length=es.length
     ·rw [if_pos hl] at e0;have hsz:is.toArray.size=js.toArray.size:=by rw [hs1,hs2,hl]
      have rc:=RcAt.lists l1 l2 hsz hu0 (items hm r1 r2 g3 h3 e0);have eb:(List.range is.toArray.size).all (ej (eqN m) ds es)=b:=by rw [(CM e0).1,hs1,<-hl,Nat.min_self]
      rw [eb] at rc
      by_cases hpq:p=q
      ·refine ⟨rc,?_⟩;subst hpq;rw [L3 n (Rep.lst g1 g2 g3) (Rep.lst h1 h2 h3) e];exact EqAt.same _
      ·exact conc hpq rc
     ·rw [if_neg hl] at e0
      cases e0
      have hsz:(is.toArray.size != js.toArray.size)=true:=by rw [hs1,hs2];simpa using hl
      refine conc (λz=>hl ?_) (RcAt.lists_lengths l1 l2 hsz hu0);subst z;rw [g1] at h1;cases h1
      rw [<-g3.length,<-h3.length]
  ·cases rx with
   | @tup p vs _ g1 g2 g3=>
   cases ry with
   | @tup q ws _ h1 h2 h3=>
     cases ru
     cases rv
     obtain ⟨is,r1,l1⟩:=CD hok g1;obtain ⟨js,r2,l2⟩:=CD hok h1;have hs1:is.toArray.size=ds.length:=by rw [<-g3.length,r1.length];simp
     have hs2:js.toArray.size=es.length:=by rw [<-h3.length,r2.length];simp
     have rc:=RcAt.tuples l1 l2 hu0 (items hm r1 r2 g3 h3 e1);have eb:((List.range (min is.toArray.size js.toArray.size)).all (ej (eqN m) ds es) && is.toArray.size == js.toArray.size)=b:=by rw [hs1,hs2,<-(CM e1).1];exact e2
     rw [eb] at rc
     by_cases hpq:p=q
     ·refine ⟨rc,?_⟩;subst hpq;rw [L3 n (Rep.tup g1 g2 g3) (Rep.tup h1 h2 h3) e];exact EqAt.same _
     ·exact conc hpq rc
theorem Mn {s:Shared}(hok:HOk P w H s.heap)(n:Nat){A:Around}{x y:V}{u v:Value}{dx dy:D}{b:Bool}(ru:RelV x u)(rv:RelV y v)(rx:Rep K c H x dx)(ry:Rep K c H y dy)(e:eqN n dx dy=some b)(hu:A.units + n < cLine) :
 RcNeAt A s u v (!b):=by
 have items:∀{m:Nat} {vs ws:List V} {is js:List Value} {ds es:List D} {b':Bool},n=m + 1->Vals vs is->Vals ws js->Reps K c H vs ds->Reps K c H ws es->CL (eqN m) ds es=some b'->
  ∀j (h1:j < is.toArray.size) (h2:j < js.toArray.size),EqAt A.in1 s is.toArray[j] js.toArray[j] (ej (eqN m) ds es j):=λ{m vs ws is js ds es b'} hm r1 r2 q1 q2 e' j h1 h2=>by
  obtain ⟨v1,a1,a2⟩:=FB r1 h1;obtain ⟨v2,b1,b2⟩:=FB r2 h2;obtain ⟨l1,g1⟩:=List.getElem?_eq_some_iff.mp a1;obtain ⟨l2,g2⟩:=List.getElem?_eq_some_iff.mp b1;have k1:ds[j]?=some (ds[j]'(by rw [<-q1.length];exact l1)):=List.getElem?_eq_getElem _;have k2:es[j]?=some (es[j]'(by rw [<-q2.length];exact l2)):=List.getElem?_eq_getElem _;obtain ⟨kk,ek⟩:=(CM e').2 j _ _ k1 k2;have:ej (eqN m) ds es j=kk:=by unfold ej;rw [k1,k2];simp [ek]
  rw [this];have hu':A.in1.units + m < cLine:=by
   have:A.in1.units=A.units + 1:=rfl;lia
  exact (GW hok m a2 b2 (q1.get a1 k1) (q2.get b1 k2) ek hu').2
 have hu0:A.units < cLine:=by lia
 rcases Gp e with e0 | ⟨m,ds,es,hm,rfl,rfl,e0⟩ | ⟨m,ds,es,b',hm,rfl,rfl,e1,e2⟩
 ·rcases Gn e0 with ⟨i,j,rfl,rfl,rfl⟩ | ⟨i,j,rfl,rfl,rfl⟩ | ⟨i,j,rfl,rfl,rfl⟩ | ⟨rfl,rfl,rfl⟩ | ⟨i,rfl,qz⟩ | ⟨i,rfl,qz⟩
  ·cases rx;cases ry;obtain ⟨t',rfl⟩:=ru;obtain ⟨t,rfl⟩:=rv;exact RcNeAt.int_int _ _ _ _
  ·cases rx;cases ry;obtain ⟨t',rfl⟩:=ru;obtain ⟨t,rfl⟩:=rv;exact RcNeAt.str_str _ _ _ _
  ·cases rx;cases ry;cases ru;cases rv;exact RcNeAt.bool_bool _ _
  ·cases rx;cases ry;cases ru;cases rv;exact RcNeAt.none_none
  ·cases rx;obtain ⟨t',rfl⟩:=ru
   cases ry with
   | non=>cases rv;cases qz;exact RcNeAt.str_none _ _
   | bl k=>cases rv;cases qz;exact RcNeAt.str_bool _ _ _
   | int k=>obtain ⟨t,rfl⟩:=rv;cases qz;exact RcNeAt.str_int _ _ _ _
   | lst h1 h2 h3=>cases rv;obtain ⟨its,r,l⟩:=Ce hok h1;cases qz;exact RcNeAt.str_list _ _ l hu0
   | tup h1 h2 h3=>cases rv;obtain ⟨its,r,l⟩:=CD hok h1;cases qz;exact RcNeAt.str_tuple _ _ l hu0
   | _=>cases qz
  ·cases ry;obtain ⟨t',rfl⟩:=rv
   cases rx with
   | non=>cases ru;cases qz;exact RcNeAt.none_str _ _
   | bl k=>cases ru;cases qz;exact RcNeAt.bool_str _ _ _
   | int k=>obtain ⟨t,rfl⟩:=ru;cases qz;exact RcNeAt.int_str _ _ _ _
   | lst h1 h2 h3=>cases ru;obtain ⟨its,r,l⟩:=Ce hok h1;cases qz;exact RcNeAt.list_str _ _ l hu0
   | tup h1 h2 h3=>cases ru;obtain ⟨its,r,l⟩:=CD hok h1;cases qz;exact RcNeAt.tuple_str _ _ l hu0
   | _=>cases qz
 ·cases rx with
  | @lst p vs _ g1 g2 g3=>
  cases ry with
  | @lst q ws _ h1 h2 h3=>
    cases ru
    cases rv
    obtain ⟨is,r1,l1⟩:=Ce hok g1;obtain ⟨js,r2,l2⟩:=Ce hok h1;have hs1:is.toArray.size=ds.length:=by rw [<-g3.length,r1.length];simp
    have hs2:js.toArray.size=es.length:=by rw [<-h3.length,r2.length];simp
    by_cases hl:ds.length=es.length
    ·rw [if_pos hl] at e0;have hsz:is.toArray.size=js.toArray.size:=by rw [hs1,hs2,hl]
     have rc:=RcNeAt.lists l1 l2 hsz hu0 (items hm r1 r2 g3 h3 e0);rw [show (List.range is.toArray.size).all (ej (eqN m) ds es)=b by rw [(CM e0).1,hs1,<-hl,Nat.min_self]] at rc;exact rc
    ·rw [if_neg hl] at e0
     cases e0
     exact RcNeAt.lists_lengths l1 l2 (by rw [hs1,hs2];simpa using hl) hu0
 ·cases rx with
  | @tup p vs _ g1 g2 g3=>
  cases ry with
  | @tup q ws _ h1 h2 h3=>
    cases ru
    cases rv
    obtain ⟨is,r1,l1⟩:=CD hok g1;obtain ⟨js,r2,l2⟩:=CD hok h1;have hs1:is.toArray.size=ds.length:=by rw [<-g3.length,r1.length];simp
    have hs2:js.toArray.size=es.length:=by rw [<-h3.length,r2.length];simp
    have rc:=RcNeAt.tuples l1 l2 hu0 (items hm r1 r2 g3 h3 e1);have eb:((List.range (min is.toArray.size js.toArray.size)).all (ej (eqN m) ds es) && is.toArray.size == js.toArray.size)=b:=by rw [hs1,hs2,<-(CM e1).1];exact e2
    rw [eb] at rc;exact rc
def EQD:Nat:=40
def neD (x y:D):M D:=λt=>(eqN EQD x y).map λb=>(.bl (!b),t)
def Li (K:PySem.W.Frag)(g:Bool->Bool):R2:=λx y H Q=>∃c dx dy b,Rep K c H x dx/\Rep K c H y dy/\eqN EQD dx dy=some b/\Q (.bl (g b)) H
theorem Ld {X:Cx}(hu:X.A.units + 64 < cLine):OpR X (compareOp .Eq) (Li X.K id):=by
 intro pins s σ H x y v u Q I rx ry h;obtain ⟨c,dx,dy,b,q1,q2,e,q⟩:=h;have hu':X.A.units + EQD < cLine:=by unfold EQD;lia
 exact (GW I.hok EQD rx ry q1 q2 e hu').1 X.prog X.w _ _ ⟨.bl b,H,I,rfl,q⟩
theorem Lf {X:Cx}(hu:X.A.units + 64 < cLine):OpR X (compareOp .NotEq) (Li X.K (!·)):=by
 intro pins s σ H x y v u Q I rx ry h;obtain ⟨c,dx,dy,b,q1,q2,e,q⟩:=h;have hu':X.A.units + EQD < cLine:=by unfold EQD;lia
 exact Mn I.hok EQD rx ry q1 q2 e hu' X.prog X.w _ _ ⟨.bl (!b),H,I,rfl,q⟩
end F2
set_option maxHeartbeats 4000000
namespace F2
open PySem L2 PySem.Spec
variable {g:Int->Int->D}{t:T}{z:D×T}{X:Cx}{c:Cf}{H:Hp}
section
variable {K:PySem.W.Frag}
def i2 (g:Int->Int->D):D->D->M D
 | .int i,.int j=>ret (g i j)
 | _,_=>fail
theorem VZ {x y:D}(h:i2 g x y t=some z):∃i j,x = .int i/\y = .int j/\z=(g i j,t):=by
 cases x with
 | int i=>cases y with
   | int j=>cases h;exact ⟨i,j,rfl,rfl,rfl⟩
   | _=>cases h
 | _=>cases h
theorem W5 {gV:Int->Int->V}(hr:∀i j c H,Rep K c H (gV i j) (g i j)):AR K (rI0 gV) (i2 g):=λ{Oo c t σ H x y dx dy r t' Q} f rx ry eq k=>by
 obtain ⟨i,j,rfl,rfl,z⟩:=VZ eq
 cases z
 cases rx
 cases ry
 exact ⟨i,j,rfl,rfl,k _ H c f .refl (hr i j c H)⟩
def i2C (C:Int->Int->Bool)(g:Int->Int->D):D->D->M D
 | .int i,.int j=>λt=>if C i j=true then some (g i j,t) else none
 | _,_=>fail
theorem Tx {C:Int->Int->Bool}{x y:D}(h:i2C C g x y t=some z):∃i j,x = .int i/\y = .int j/\C i j=true/\z=(g i j,t):=by
 cases x with
 | int i=>cases y with
   | int j=>
     unfold i2C at h;dsimp only at h
     by_cases hc:C i j=true
     ·rw [if_pos hc] at h;cases h;exact ⟨i,j,rfl,rfl,hc,rfl⟩
     ·rw [if_neg hc] at h;cases h
   | _=>cases h
 | _=>cases h
theorem EB {P:Int->Int->Prop}{C:Int->Int->Bool}{gV:Int->Int->V}(hP:∀i j,C i j=true->P i j)(hr:∀i j c H,Rep K c H (gV i j) (g i j)):AR K (rI P gV) (i2C C g):=λ{Oo c t σ H x y dx dy r t' Q} f rx ry eq k=>by
 obtain ⟨i,j,rfl,rfl,hc,z⟩:=Tx eq
 cases z
 cases rx
 cases ry
 exact ⟨i,j,rfl,rfl,hP i j hc,k _ H c f .refl (hr i j c H)⟩
def BG:=i2 λi j=>.int (i - j)
noncomputable def J2 (_ j:Int):Bool:=decide (0 < j) && decide (j < 1073741824)
def Ep:=i2C J2 λi j=>.int (i / j)
def C5:=i2C (λ_ j=>decide (0 < j)) λi j=>.int (i % j)
noncomputable def J5 (i j:Int):Bool:=decide (0<=j) && decide (j<=1000000) && decide (i.natAbs < 2 ^ 64)
def GH:=i2C J5 λi j=>.int (i ^ j.toNat)
noncomputable def FT (i j:Int):Bool:=(decide (-(2 ^ 64) < i) && decide (i < 2 ^ 64)) || (decide (-(2 ^ 64) < j) && decide (j < 2 ^ 64))
def Lw:=i2C (λ_ j=>decide (0<=j)) λi j=>.int (i / 2 ^ j.toNat)
theorem UM:AR K (rI0 λi j=>.int (i - j)) BG:=W5 λi j _ _=>.int _
theorem Re:AR K (rI Vb λi j=>.int (i / j)) Ep:=EB (λi j h=>by
 unfold J2 at h;rw [Bool.and_eq_true] at h;exact ⟨of_decide_eq_true h.1,of_decide_eq_true h.2⟩) λi j _ _=>.int _
theorem UG:AR K (rI (λ_ j=>0 < j) λi j=>.int (i % j)) C5:=EB (λi j h=>of_decide_eq_true h) λi j _ _=>.int _
theorem UJ:AR K (rI Vc λi j=>.int (i ^ j.toNat)) GH:=EB (λi j h=>by
 unfold J5 at h;rw [Bool.and_eq_true,Bool.and_eq_true] at h;exact ⟨of_decide_eq_true h.1.1,of_decide_eq_true h.1.2,of_decide_eq_true h.2⟩) λi j _ _=>.int _
theorem UK:AR K (rI (λ_ j=>0<=j) λi j=>.int (i / 2 ^ j.toNat)) Lw:=EB (λi j h=>of_decide_eq_true h) λi j _ _=>.int _
theorem OQ {i j:Int}(h:FT i j=true):CMul i j:=by
 unfold FT at h;rw [Bool.or_eq_true,Bool.and_eq_true,Bool.and_eq_true] at h;rcases h with h | h
 ·exact .inl ⟨of_decide_eq_true h.1,of_decide_eq_true h.2⟩
 ·exact .inr ⟨of_decide_eq_true h.1,of_decide_eq_true h.2⟩
def Gz:D->M D
 | .int i=>ret (.int (-i))
 | _=>fail
theorem MC:Vf K (rU λi=>.int (-i)) Gz:=λ{Oo c t σ H x dx r t' Q} f rx eq k=>by
 cases rx with
 | int i=>cases eq;exact ⟨i,rfl,k _ H c f .refl (.int _)⟩
 | _=>cases eq
def P4:D->D->M D
 | .int i,.int j=>ret (.int (i + j))
 | .str x,.str y=>lim (x.length + y.length) (.str (x++y))
 | .lst xs,.lst ys=>lim (xs.length + ys.length) (.lst (xs++ys))
 | .tup xs,.tup ys=>λt=>if xs.isEmpty=false/\xs.length + ys.length<=LIM then some (.tup (xs++ys),t) else none
 | _,_=>fail
def Ur:R2:=λx y H Q=>∃i j,x = .str i/\y = .str j/\i.length + j.length<=sizeLine/\Q (.str (i++j)) H
def Nn (K:PySem.W.Frag):R2:=λx y H Q=>rI0 (λi j=>.int (i + j)) x y H Q\/(Ur x y H Q\/(No x y H Q\/Sg K x y H Q))
theorem op_add4:OpR X (binaryOp .Add) (Nn X.K):=op_add.or (op_add_str.or (op_cat.or T3))
theorem Ux:AR K (Nn K) P4:=λ{Oo c t σ H x y dx dy r t' Q} f rx ry eq k=>by
 cases rx with
 | int i=>
   cases ry with
   | int j=>cases eq;exact .inl ⟨i,j,rfl,rfl,k _ H c f .refl (.int _)⟩
   | _=>cases eq
 | str i=>
   cases ry with
   | str j=>
     obtain ⟨h,z⟩:=CQ eq
     cases z
     exact .inr (.inl ⟨i,j,rfl,rfl,Nat.le_trans h BR,k _ H c f .refl (.str _)⟩)
   | _=>cases eq
 | @lst a vs ds h1 h2 h3=>
   cases ry with
   | @lst b ws es g1 g2 g3=>
     obtain ⟨h,z⟩:=CQ eq
     cases z
     refine .inr (.inr (.inl ⟨a,b,vs,ws,rfl,rfl,h1,g1,?_,λp hp=>?_⟩))
     ·rw [h3.length,g3.length];exact Nat.le_trans h BR
     ·exact k _ _ c (f.laid hp) (f.stp_laid hp) (.lst Aw (f.s.free hp) ((h3.append g3).mono (Ext.laid f.s hp)))
   | _=>cases eq
 | @tup a vs ds h1 h2 h3=>
   cases ry with
   | @tup b ws es g1 g2 g3=>
     unfold P4 at eq;dsimp only at eq
     split at eq
     ·next h=>
      cases eq
      have hne:vs≠[]:=λz=>by
       have:=h3.length;rw [z] at this;have h0:ds.length=0:=this.symm;have:ds=[]:=List.length_eq_zero_iff.mp h0;rw [this] at h;simp at h
      refine .inr (.inr (.inr ⟨a,b,vs,ws,rfl,rfl,SqT.of h1,SqT.of g1,hne,?_,λz=>?_,λz p hp=>?_⟩))
      ·rw [h3.length,g3.length];exact Nat.le_trans h.2 BR
      ·subst z;have:es=[]:=List.length_eq_zero_iff.mp g3.length.symm;subst this;rw [List.append_nil] at k;exact k _ H c f .refl (.tup h1 h2 h3)
      ·exact k _ _ c (f.laid hp) (f.stp_laid hp) (.tup Aw (f.s.free hp) ((h3.append g3).mono (Ext.laid f.s hp)))
     ·cases eq
   | _=>cases eq
 | _=>cases eq
def Hv:D->D->M (List D)
 | .lst xs,.lst ys=>lim (xs.length + ys.length) (xs++ys)
 | _,_=>fail
theorem Rc:HW K No Hv:=λ{Oo c t σ H x y dx dy r t' Q} f rx ry eq k=>by
 cases rx with
 | @lst a vs ds h1 h2 h3=>
   cases ry with
   | @lst b ws es g1 g2 g3=>
     obtain ⟨h,z⟩:=CQ eq
     cases z
     refine ⟨a,b,vs,ws,rfl,rfl,h1,g1,?_,λp hp=>k p _ H c f .refl (h3.append g3) hp⟩;rw [h3.length,g3.length];exact Nat.le_trans h BR
   | _=>cases eq
 | _=>cases eq
def isC:D->D->M D
 | x,.non=>λt=>some (.bl (match x with | .non=>true | _=>false),t)
 | x,.bl b=>λt=>some (.bl (match x with | .bl c=>c == b | _=>false),t)
 | _,_=>fail
def OE (x y:D):M D:=bnd (isC x y) λd=>match d with | .bl b=>ret (.bl (!b)) | _=>fail
def rIs (g:Bool->Bool):R2:=λx y H Q=>(y = .non\/∃b,y = .bl b)/\Q (.bl (g (decide (x=y)))) H
theorem SI {x y:V}{v u:Value}(rx:RelV x v)(ry:RelV y u)(hy:y = .non\/∃b,y = .bl b):plainIs v u=true/\(v == u)=decide (x=y):=by
 rcases hy with rfl | ⟨b,rfl⟩
 ·cases ry
  cases x with
  | non=>cases rx;exact ⟨rfl,by simp⟩
  | bl _=>cases rx;exact ⟨rfl,by simp⟩
  | int _=>obtain ⟨t,rfl⟩:=rx;exact ⟨rfl,by simp⟩
  | str _=>obtain ⟨t,rfl⟩:=rx;exact ⟨rfl,by simp⟩
  | byt _=>obtain ⟨t,rfl⟩:=rx;exact ⟨rfl,by simp⟩
  | flt _=>obtain ⟨t,rfl⟩:=rx;exact ⟨rfl,by simp⟩
  | ref _=>cases rx;exact ⟨rfl,by simp⟩
  | ty _=>cases rx;exact ⟨rfl,by simp⟩
 ·cases ry
  cases x with
  | non=>cases rx;exact ⟨rfl,by simp⟩
  | bl c=>cases rx;exact ⟨rfl,by simp;cases c <;> cases b <;> rfl⟩
  | int _=>obtain ⟨t,rfl⟩:=rx;exact ⟨rfl,by simp⟩
  | str _=>obtain ⟨t,rfl⟩:=rx;exact ⟨rfl,by simp⟩
  | byt _=>obtain ⟨t,rfl⟩:=rx;exact ⟨rfl,by simp⟩
  | flt _=>obtain ⟨t,rfl⟩:=rx;exact ⟨rfl,by simp⟩
  | ref _=>cases rx;exact ⟨rfl,by simp⟩
  | ty _=>cases rx;exact ⟨rfl,by simp⟩
theorem O1:OpR X (compareOp .Is) (rIs id):=by
 intro pins s σ H x y v u Q I rx ry h;obtain ⟨hy,q⟩:=h;obtain ⟨h1,h2⟩:=SI rx ry hy;exact wpAny_is_plain h1 ⟨.bl _,H,I,by rw [h2];rfl,q⟩
theorem TB {x y:V}{dx dy:D}(rx:Rep K c H x dx)(ry:Rep K c H y dy)(eq:isC dx dy t=some z):(y = .non\/∃b,y = .bl b)/\z=(.bl (decide (x=y)),t):=by
 cases ry with
 | non=>
   refine ⟨.inl rfl,?_⟩
   cases rx <;> (cases eq;first | rfl | simp)
 | bl b=>
   refine ⟨.inr ⟨b,rfl⟩,?_⟩
   cases rx <;> (cases eq;first | rfl | simp)
   next a=>cases a <;> cases b <;> rfl
 | _=>cases eq
theorem Pq:AR K (rIs id) isC:=λ{Oo c t σ H x y dx dy r t' Q} f rx ry eq k=>by
 obtain ⟨h,z⟩:=TB rx ry eq
 cases z
 exact ⟨h,k _ H c f .refl (.bl _)⟩
noncomputable def E8:D->Bool
 | .non=>true | .bl _=>true | .int _=>true | .str _=>true | _=>false
noncomputable def Nv:D->Option (List D)
 | .lst ds=>some ds
 | .tup ds=>some ds
 | _=>none
noncomputable def toV:D->V
 | .bl b=>.bl b | .int i=>.int i | .str x=>.str x | _=>.non
theorem Fw {v:V}{d:D}(r:Rep K c H v d)(h:E8 d=true):v=toV d:=by cases r <;> first | rfl | cases h
theorem EV {c:Cf}{H:Hp}:∀{vs:List V} {ds:List D},Reps K c H vs ds->ds.all E8=true->vs=ds.map toV
 | _,_,.nil,_=>rfl
 | _,_,.cons r t,h=>by
   rw [List.all_cons,Bool.and_eq_true] at h;rw [List.map_cons,Fw r h.1,EV t h.2]
theorem FM:∀d:D,Et (toV d)=true:=λd=>by cases d <;> rfl
def inD (neg:Bool)(x y:D):M D:=λt=>match Nv y with
 | some ds=>if E8 x=true/\ds.all E8=true then some (.bl (if neg then !inV (toV x) (ds.map toV) else inV (toV x) (ds.map toV)),t) else none
 | none=>none
theorem W6 {neg:Bool}:AR K (rIn K neg) (inD neg):=λ{Oo c t σ H x y dx dy r t' Q} f rx ry eq k=>by
 unfold inD at eq
 cases ry with
 | @lst a vs ds h1 h2 h3=>
   dsimp only [Nv] at eq
   split at eq
   ·next h=>
    cases eq
    refine ⟨a,vs,rfl,.inl (SqL.of h1),?_,?_,?_⟩
    ·rw [Fw rx h.1];exact FM _
    ·rw [EV h3 h.2,List.all_map,List.all_eq_true];exact λd _=>FM d
    ·rw [Fw rx h.1,EV h3 h.2];exact k _ H c f .refl (.bl _)
   ·cases eq
 | @tup a vs ds h1 h2 h3=>
   dsimp only [Nv] at eq
   split at eq
   ·next h=>
    cases eq
    refine ⟨a,vs,rfl,.inr (SqT.of h1),?_,?_,?_⟩
    ·rw [Fw rx h.1];exact FM _
    ·rw [EV h3 h.2,List.all_map,List.all_eq_true];exact λd _=>FM d
    ·rw [Fw rx h.1,EV h3 h.2];exact k _ H c f .refl (.bl _)
   ·cases eq
 | _=>cases eq
def ixD:D->D->M D
 | .lst ds,.int i=>λt=>(atI ds i).map λd=>(d,t)
 | .tup ds,.int i=>λt=>(atI ds i).map λd=>(d,t)
 | .scr ns,.int i=>λt=>(atI ns i).map λn=>(.int n,t)
 | .str x,.int i=>λt=>if x.length<=LIM then (atI x.cps.toList i).map λn=>(.str ⟨#[n]⟩,t) else none
 | .obj k,.int i=>λt=>match t.S[k]? with
   | some (.lst ds)=>(atI ds i).map λd=>(d,t)
   | _=>none
 | _,_=>fail
theorem FF {vs:List V}{ds:List D}{i:Int}{d:D}(r:Reps K c H vs ds)(h:atI ds i=some d):∃v,atI vs i=some v/\Rep K c H v d:=by
 unfold atI at h ⊢;obtain ⟨j,h1,h2⟩:=Option.bind_eq_some_iff.mp h;obtain ⟨v,h3,h4⟩:=r.at h2;exact ⟨v,by rw [r.length,h1];exact h3,h4⟩
theorem SG {α β:Type}(g:α->β)(xs:List α)(i:Int):atI (xs.map g) i=(atI xs i).map g:=by
 unfold atI;rw [List.length_map]
 cases ixN xs.length i with
 | none=>rfl
 | some j=>simp
theorem V2 {dx dy r:D}{t':T}(eq:ixD dx dy t=some (r,t')):∃i,dy = .int i/\((∃ds,dx = .lst ds)\/(∃ds,dx = .tup ds)\/(∃ns,dx = .scr ns)\/(∃z,dx = .str z)\/∃k,dx = .obj k):=by
 unfold ixD at eq
 split at eq
 ·exact ⟨_,rfl,.inl ⟨_,rfl⟩⟩
 ·exact ⟨_,rfl,.inr (.inl ⟨_,rfl⟩)⟩
 ·exact ⟨_,rfl,.inr (.inr (.inl ⟨_,rfl⟩))⟩
 ·exact ⟨_,rfl,.inr (.inr (.inr (.inl ⟨_,rfl⟩)))⟩
 ·exact ⟨_,rfl,.inr (.inr (.inr (.inr ⟨_,rfl⟩)))⟩
 ·cases eq
theorem W7:AR K (rIx K) ixD:=λ{Oo c t σ H x y dx dy r t' Q} f rx ry eq k=>by
 obtain ⟨i,rfl,hd⟩:=V2 eq
 cases ry
 rcases hd with ⟨ds,rfl⟩ | ⟨ds,rfl⟩ | ⟨ns,rfl⟩ | ⟨z,rfl⟩ | ⟨kk,rfl⟩
 ·cases rx with
  | @lst a vs _ h1 h2 h3=>
    obtain ⟨d,e1,e2⟩:=Option.map_eq_some_iff.mp eq
    cases e2
    obtain ⟨v,e3,e4⟩:=FF h3 e1;exact .inl ⟨a,vs,i,v,rfl,rfl,SqL.of h1,e3,k _ H c f .refl e4⟩
 ·cases rx with
  | @tup a vs _ h1 h2 h3=>
    obtain ⟨d,e1,e2⟩:=Option.map_eq_some_iff.mp eq
    cases e2
    obtain ⟨v,e3,e4⟩:=FF h3 e1;exact .inr (.inl ⟨a,vs,i,v,rfl,rfl,SqT.of h1,e3,k _ H c f .refl e4⟩)
 ·cases rx with
  | @scr a _ h1=>
    obtain ⟨n,e1,e2⟩:=Option.map_eq_some_iff.mp eq
    cases e2
    exact .inl ⟨a,_,i,.int n,rfl,rfl,h1.sq,by rw [SG,e1];rfl,k _ H c f .refl (.int n)⟩
 ·cases rx
  unfold ixD at eq;dsimp only at eq
  split at eq
  ·next hl=>
   obtain ⟨n,e1,e2⟩:=Option.map_eq_some_iff.mp eq
   cases e2
   exact .inr (.inr ⟨z,i,n,rfl,rfl,Nat.le_trans hl BR,e1,k _ H c f .refl (.str _)⟩)
  ·cases eq
 ·cases rx with
  | @obj a _ h1=>
    unfold ixD at eq;dsimp only at eq
    cases es:t.S[kk]? with
    | none=>rw [es] at eq;cases eq
    | some o=>
      rw [es] at eq
      cases o with
      | dct _ | ins _ _=>cases eq
      | lst ds=>
        obtain ⟨d,e1,e2⟩:=Option.map_eq_some_iff.mp eq
        cases e2
        obtain ⟨vs,g1,g2⟩:=f.s.obs kk a _ h1 es;obtain ⟨v,e3,e4⟩:=FF g2 e1;exact .inl ⟨a,vs,i,v,rfl,rfl,SqL.of g1,e3,k _ H c f .refl e4⟩
end
variable {f:M D}{id:String}{R:List V->Hp->VK->Prop}{x:Str}{p:Pos}
section
variable {X:Cx}{e a b:Expr}{es:List Expr}{pos:Pos}
inductive RO (K:PySem.W.Frag)(f:M (Option Int))(σ:L2.St)(H:Hp)(Q:Option Int->Hp->Prop):Prop where
 | mk (Oo:Addr->Prop) (c:Cf) (t:T) (fi:FInv K Oo c t σ H) (r:Option Int) (t':T) (e:f t=some (r,t')) (k:∀H' c',FInv K Oo c' t' σ H'->Stp Oo c H c' H'->Q r H'):RO K f σ H Q
theorem NS {oe:Option Expr}{t t':TO}(h:PO X oe t)(i:∀σ H Q,t' σ H Q->t σ H Q):PO X oe t':=λpins s σ H Q I q=>h pins s σ H Q I (i σ H Q q)
def fNo:M (Option Int):=ret none
def asI:D->M (Option Int)
 | .int i=>ret (some i)
 | _=>fail
def Bg (f:M D):M (Option Int):=bnd f asI
theorem Th:PO X none (RO X.K fNo):=NS Uk λσ H Q z9=>by
 obtain ⟨Oo,c,t,fi,r,t',eq,k⟩:=z9
 cases eq
 exact k H c fi .refl
theorem Ti (h:PE X e (RE X.K f)):PO X (some e) (RO X.K (Bg f)):=NS (Ul h) λσ H Q z9=>by
 obtain ⟨Oo,c,t,fi,r,t',eq,k⟩:=z9;obtain ⟨d,t1,e1,eq⟩:=Af eq;refine ⟨Oo,c,t,fi,d,t1,e1,λv H1 c1 f1 s1 rv=>?_⟩
 cases rv with
 | int i=>cases eq;exact ⟨i,rfl,k H1 c1 f1 s1⟩
 | _=>cases eq
def P1 (K:PySem.W.Frag)(R:V->Option Int->Option Int->Hp->VK->Prop)(h:D->Option Int->Option Int->M D):Prop:=∀{Oo:Addr->Prop} {c:Cf} {t:T} {σ:L2.St} {H:Hp} {x:V} {dx r:D} {lo hi:Option Int} {t':T} {Q:VK},FInv K Oo c t σ H->Rep K c H x dx->h dx lo hi t=some (r,t')->
 (∀v H' c',FInv K Oo c' t' σ H'->Stp Oo c H c' H'->Rep K c' H' v r->Q v H')->R x lo hi H Q
def fSl (f:M D)(l u:M (Option Int))(h:D->Option Int->Option Int->M D):M D:=bnd f λx=>bnd l λlo=>bnd u λhi=>h x lo hi
theorem Qn {R:V->Option Int->Option Int->Hp->VK->Prop}{h:D->Option Int->Option Int->M D}{l u:M (Option Int)}{lo hi:Option Expr}{p2:Pos}(hr:SlR X R)(s:P1 X.K R h)(he:PE X e (RE X.K f))(hl:PO X lo (RO X.K l))(hu:PO X hi (RO X.K u)):PE X (.Subscript e (.Slice lo hi none p2) pos) (RE X.K (fSl f l u h)):=
 AD (QV hr he hl hu) λσ H Q z9=>by
  obtain ⟨Oo,c,t,fi,r,t',eq,k⟩:=z9;obtain ⟨d,t1,e1,eq⟩:=Af eq;obtain ⟨ol,t2,e2,eq⟩:=Af eq;obtain ⟨oh,t3,e3,eq⟩:=Af eq;exact ⟨Oo,c,t,fi,d,t1,e1,λv H1 c1 f1 s1 rv=>⟨Oo,c1,t1,f1,ol,t2,e2,λH2 c2 f2 s2=>⟨Oo,c2,t2,f2,oh,t3,e3,λH3 c3 f3 s3=>
   s f3 (rv.mono (s2.trans s3).ext) eq λv H' c' f' s' rv'=>k v H' c' f' (((s1.trans s2).trans s3).trans s') rv'⟩⟩⟩
def A7 {α:Type}(xs:List α)(lo hi:Option Int):List α:=(xs.drop (HT.sIx xs.length 0 lo)).take (HT.sIx xs.length xs.length hi - HT.sIx xs.length 0 lo)
def slD:D->Option Int->Option Int->M D
 | .lst ds,lo,hi=>ret (.lst (A7 ds lo hi))
 | .scr ns,lo,hi=>ret (.lst ((A7 ns lo hi).map .int))
 | .tup ds,lo,hi=>λt=>if HT.sIx ds.length 0 lo=0/\HT.sIx ds.length ds.length hi=ds.length then none else some (.tup (A7 ds lo hi),t)
 | _,_,_=>fail
theorem HI {K:PySem.W.Frag}{vs:List V}{ds:List D}(r:Reps K c H vs ds)(lo hi:Option Int):Reps K c H (FG vs lo hi) (A7 ds lo hi):=by
 unfold FG A7;rw [r.length];exact (r.drop _).take _
theorem Qb {α β:Type}(g:α->β)(xs:List α)(lo hi:Option Int):A7 (xs.map g) lo hi=(A7 xs lo hi).map g:=by
 unfold A7;rw [List.length_map,List.map_take,List.map_drop]
theorem N7 (ns:List Int)(lo hi:Option Int):FG (ns.map V.int) lo hi=(A7 ns lo hi).map V.int:=Qb V.int ns lo hi
def Q6 (K:PySem.W.Frag):V->Option Int->Option Int->Hp->VK->Prop:=λx lo hi H Q=>WY K x lo hi H Q\/W0 K x lo hi H Q
theorem sl2:SlR X (Q6 X.K):=sl_list.or W9
theorem W8 {K:PySem.W.Frag}:P1 K (Q6 K) slD:=λ{Oo c t σ H x dx r lo hi t' Q} f rx eq k=>by
 cases rx with
 | @lst p vs ds h1 h2 h3=>
   cases eq
   exact .inl ⟨p,vs,rfl,SqL.of h1,λq hq=>k _ _ c (f.laid hq) (f.stp_laid hq) (.lst Aw (f.s.free hq) ((HI h3 lo hi).mono (Ext.laid f.s hq)))⟩
 | @scr p ns h1=>
   cases eq
   refine .inl ⟨p,_,rfl,h1.sq,λq hq=>k _ _ c (f.laid hq) (f.stp_laid hq) (.lst Aw (f.s.free hq) ?_)⟩;rw [N7];exact Reps.ints _
 | @tup p vs ds h1 h2 h3=>
   unfold slD at eq;dsimp only at eq
   split at eq
   ·cases eq
   ·next hn=>
    cases eq
    exact .inr ⟨p,vs,rfl,SqT.of h1,by rw [h3.length];exact hn,λq hq=>k _ _ c (f.laid hq) (f.stp_laid hq) (.tup Aw (f.s.free hq) ((HI h3 lo hi).mono (Ext.laid f.s hq)))⟩
 | _=>cases eq
theorem Y1 {h:List D->M D}{f:M (List D)}(hc:BY X (.builtin id) R)(s:DM X.K R h)(hg:Gl X x)(hm:X.mg x=none)(hv:bootBuiltins x=some (.builtin id))(ha:PA X (e :: es) (RA X.K f))(hn:x≠"__name__":=by decide)(hdb:(x == ("__debug__" : Str))=false:=by decide)
 (he:starEach (e :: es) X.env=(false,eval e X.env) :: starEach es X.env:=by rfl) (hpl:(backTo pos (starEach es X.env)).any (·.1)=false:=by rfl):PE X (.Call (.Name x p) (e :: es) [] pos) (RE X.K (fB f h)):=
 AD (FV hc hg hm hv ha hn hdb he hpl) λ_ _ _ q=>RE.callB s q
theorem Y2 {h:List D->M D}{f:M (List D)}(hc:BY X (.type id) R)(s:DM X.K R h)(hg:Gl X x)(hm:X.mg x=none)(hv:bootBuiltins x=some (.type id))(ha:PA X (e :: es) (RA X.K f))(hn:x≠"__name__":=by decide)(hdb:(x == ("__debug__" : Str))=false:=by decide)
 (he:starEach (e :: es) X.env=(false,eval e X.env) :: starEach es X.env:=by rfl) (hpl:(backTo pos (starEach es X.env)).any (·.1)=false:=by rfl):PE X (.Call (.Name x p) (e :: es) [] pos) (RE X.K (fB f h)):=
 AD (JM hc hg hm hv ha hn hdb he hpl) λ_ _ _ q=>RE.callB s q
theorem Y3 {h:List D->M (List D)}{f:M (List D)}(hc:BY X (.type id) R)(s:JZ X.K R h)(hg:Gl X x)(hm:X.mg x=none)(hv:bootBuiltins x=some (.type id))(ha:PA X (e :: es) (RA X.K f))(hn:x≠"__name__":=by decide)(hdb:(x == ("__debug__" : Str))=false:=by decide)
 (he:starEach (e :: es) X.env=(false,eval e X.env) :: starEach es X.env:=by rfl) (hpl:(backTo pos (starEach es X.env)).any (·.1)=false:=by rfl):PE X (.Call (.Name x p) (e :: es) [] pos) (RF X.K (fBF f h)):=
 AD (JM hc hg hm hv ha hn hdb he hpl) λ_ _ _ q=>RF.callB s q
theorem M2 {op:Operator}{R:R2}{g:M D}{h:D->D->M (List D)}(ho:OpR X (binaryOp op) R)(s:HW X.K R h)(ha:PE X a (RE X.K f))(hb:PE X b (RE X.K g)):PE X (.BinOp a op b pos) (RF X.K (bnd f λx=>bnd g λy=>h x y)):=
 AD (Sd ho ha hb) λ_ _ _ q=>RF.two s q
end
section
variable {K:PySem.W.Frag}
theorem Ev {xs:List V}{d:D}(r:Reps K c H xs [d]):∃v,xs=[v]/\Rep K c H v d:=by
 cases r with
 | cons r rs=>cases rs;exact ⟨_,rfl,r⟩
theorem IF {xs:List V}{d e:D}(r:Reps K c H xs [d,e]):∃v u,xs=[v,u]/\Rep K c H v d/\Rep K c H u e:=by
 cases r with
 | cons r rs=>
   obtain ⟨u,rfl,q⟩:=Ev rs;exact ⟨_,u,rfl,r,q⟩
def AA:List D->M D
 | [.lst ds]=>ret (.int ds.length)
 | [.tup ds]=>ret (.int ds.length)
 | [.scr ns]=>ret (.int ns.length)
 | [.str x]=>lim x.length (.int x.length)
 | [.obj k]=>λt=>match t.S[k]? with
   | some (.lst ds)=>some (.int ds.length,t)
   | _=>none
 | _=>fail
theorem UD:DM K (λxs H Q=>∃x n,xs=[x]/\Ve K x H n/\Q (.int n) H) AA:=λ{Oo c t σ H xs ds r t' Q} f rx eq k=>by
 match ds,rx,eq with
 | [],_,eq=>cases eq
 | d0 :: _ :: _,_,eq=>cases d0 <;> cases eq
 | [d],rx,eq=>
   obtain ⟨v,rfl,rv⟩:=Ev rx
   cases rv with
   | @lst a vs ds h1 h2 h3=>cases eq;exact ⟨_,ds.length,rfl,.inl ⟨vs,SqL.of h1,h3.length.symm⟩,k _ H c f .refl (.int _)⟩
   | @tup a vs ds h1 h2 h3=>cases eq;exact ⟨_,ds.length,rfl,.inr ⟨vs,SqT.of h1,h3.length.symm⟩,k _ H c f .refl (.int _)⟩
   | @scr a ns h1=>cases eq;exact ⟨_,ns.length,rfl,.inl ⟨_,h1.sq,by simp⟩,k _ H c f .refl (.int _)⟩
   | str x=>
     obtain ⟨hl,z⟩:=CQ eq
     cases z
     exact ⟨_,x.length,rfl,⟨Nat.le_trans hl BR,rfl⟩,k _ H c f .refl (.int _)⟩
   | @obj a kk h1=>
     unfold AA at eq;dsimp only at eq
     cases es:t.S[kk]? with
     | none=>rw [es] at eq;cases eq
     | some o=>
       rw [es] at eq
       cases o with
       | dct _ | ins _ _=>cases eq
       | lst ds=>
         cases eq
         obtain ⟨vs,g1,g2⟩:=f.s.obs kk a _ h1 es;exact ⟨_,ds.length,rfl,.inl ⟨vs,SqL.of g1,g2.length.symm⟩,k _ H c f .refl (.int _)⟩
   | _=>cases eq
noncomputable def tyD:D->Option String
 | .non=>some "NoneType"
 | .bl _=>some "bool"
 | .int _=>some "int"
 | .str _=>some "str"
 | .lst _=>some "list"
 | .tup _=>some "tuple"
 | .dic=>some "dict"
 | _=>none
noncomputable def Dh (n m:String):Option Bool:=match m with
 | "int"=>some (n == "int" || n == "bool")
 | "bool"=>some (n == "bool")
 | "str"=>some (n == "str")
 | "list"=>some (n == "list")
 | "tuple"=>some (n == "tuple")
 | "dict"=>some (n == "dict")
 | _=>none
def AI:List D->M D
 | [d,.ty m]=>λt=>match tyD d with
   | some n=>(Dh n m).map λb=>(.bl b,t)
   | none=>none
 | _=>fail
theorem G8 {d:D}{n m:String}{b:Bool}(h1:tyD d=some n)(h2:Dh n m=some b):PySem.W.kitOne K (.type n) (.type m)=some b:=by
 have hm:m = "int"\/m = "bool"\/m = "str"\/m = "list"\/m = "tuple"\/m = "dict":=by
  unfold Dh at h2
  split at h2 <;> simp_all
 have hn:n = "NoneType"\/n = "bool"\/n = "int"\/n = "str"\/n = "list"\/n = "tuple"\/n = "dict":=by
  cases d <;> simp [tyD] at h1 <;> simp [<-h1]
 rcases hm with rfl | rfl | rfl | rfl | rfl | rfl <;> rcases hn with rfl | rfl | rfl | rfl | rfl | rfl | rfl <;> (cases h2;rfl)
def Q5 (K:PySem.W.Frag):List V->Hp->VK->Prop:=λxs H Q=>∃x n t b,xs=[x,.ty n]/\TyOf K H x t/\PySem.W.kitOne K t (.type n)=some b/\Q (.bl b) H
theorem Kx:BY X (.builtin "isinstance") (Q5 X.K):=by
 intro pins s σ H xs us Q I r h;obtain ⟨x,n,t,b,rfl,ty,e,q⟩:=h;obtain ⟨u,w',rfl,rx,rt⟩:=Hh r
 cases rt
 exact JJ I rx ty e λtk=>⟨.bl b,H,I.tok tk,rfl,q⟩
theorem MB:DM K (Q5 K) AI:=λ{Oo c t σ H xs ds r t' Q} f rx eq k=>by
 unfold AI at eq
 split at eq
 ·next d m=>
  obtain ⟨v,u,rfl,rv,ru⟩:=IF rx
  cases ru
  cases et:tyD d with
  | none=>rw [et] at eq;cases eq
  | some n=>
    rw [et] at eq;obtain ⟨b,e1,e2⟩:=Option.map_eq_some_iff.mp eq
    cases e2
    refine ⟨v,m,.type n,b,rfl,?_,G8 et e1,k _ H c f .refl (.bl b)⟩
    cases rv <;> first | (cases et;first | exact .non | exact .bl _ | exact .int _ | exact .str _ | exact .lst ‹_› | exact .tup ‹_› | exact .dK ‹_›) | cases et
 ·cases eq
def Ju:List D->M D
 | [.lst ds]=>ret (.tup ds)
 | [.tup ds]=>ret (.tup ds)
 | [.obj k]=>λt=>match t.S[k]? with
   | some (.lst ds)=>some (.tup ds,t)
   | _=>none
 | _=>fail
theorem UN:DM K (λxs H Q=>∃p ys,xs=[.ref p]/\((SqL K H p ys/\∀l,H l=none->Q (.ref l) (upd H l (.tup ys)))\/(SqT K H p ys/\Q (.ref p) H))) Ju:=λ{Oo c t σ H xs ds r t' Q} f rx eq k=>by
 match ds,rx,eq with
 | [],_,eq=>cases eq
 | d0 :: _ :: _,_,eq=>cases d0 <;> cases eq
 | [d],rx,eq=>
   obtain ⟨v,rfl,rv⟩:=Ev rx
   cases rv with
   | @lst a vs ds h1 h2 h3=>cases eq;exact ⟨a,vs,rfl,.inl ⟨SqL.of h1,λq hq=>k _ _ c (f.laid hq) (f.stp_laid hq) (.tup Aw (f.s.free hq) (h3.mono (Ext.laid f.s hq)))⟩⟩
   | @tup a vs ds h1 h2 h3=>cases eq;exact ⟨a,vs,rfl,.inr ⟨SqT.of h1,k _ H c f .refl (.tup h1 h2 h3)⟩⟩
   | @obj a kk h1=>
     unfold Ju at eq;dsimp only at eq
     cases es:t.S[kk]? with
     | none=>rw [es] at eq;cases eq
     | some o=>
       rw [es] at eq
       cases o with
       | dct _ | ins _ _=>cases eq
       | lst ds=>
         cases eq
         obtain ⟨vs,g1,g2⟩:=f.s.obs kk a _ h1 es;exact ⟨a,vs,rfl,.inl ⟨SqL.of g1,λq hq=>k _ _ c (f.laid hq) (f.stp_laid hq) (.tup Aw (f.s.free hq) (g2.mono (Ext.laid f.s hq)))⟩⟩
   | _=>cases eq
def Ei:List D->M (List D)
 | [.lst ds]=>ret ds
 | [.tup ds]=>ret ds
 | [.scr ns]=>ret (ns.map .int)
 | [.obj k]=>λt=>match t.S[k]? with
   | some (.lst ds)=>some (ds,t)
   | _=>none
 | _=>fail
theorem UE:JZ K (λxs H Q=>∃p ys,xs=[.ref p]/\(SqL K H p ys\/SqT K H p ys)/\∀l,H l=none->Q (.ref l) (upd H l (.lst ys))) Ei:=λ{Oo c t σ H xs ds r t' Q} f rx eq k=>by
 match ds,rx,eq with
 | [],_,eq=>cases eq
 | d0 :: _ :: _,_,eq=>cases d0 <;> cases eq
 | [d],rx,eq=>
   obtain ⟨v,rfl,rv⟩:=Ev rx
   cases rv with
   | @lst a vs ds h1 h2 h3=>cases eq;exact ⟨a,vs,rfl,.inl (SqL.of h1),λq hq=>k q vs H c f .refl h3 hq⟩
   | @tup a vs ds h1 h2 h3=>cases eq;exact ⟨a,vs,rfl,.inr (SqT.of h1),λq hq=>k q vs H c f .refl h3 hq⟩
   | @scr a ns h1=>cases eq;exact ⟨a,_,rfl,.inl h1.sq,λq hq=>k q _ H c f .refl (Reps.ints ns) hq⟩
   | @obj a kk h1=>
     unfold Ei at eq;dsimp only at eq
     cases es:t.S[kk]? with
     | none=>rw [es] at eq;cases eq
     | some o=>
       rw [es] at eq
       cases o with
       | dct _ | ins _ _=>cases eq
       | lst ds=>
         cases eq
         obtain ⟨vs,g1,g2⟩:=f.s.obs kk a _ h1 es;exact ⟨a,vs,rfl,.inl (SqL.of g1),λq hq=>k q vs H c f .refl g2 hq⟩
   | _=>cases eq
def FP:List D->M D
 | [.int i]=>ret (.int i)
 | [.bl b]=>ret (.int (if b then 1 else 0))
 | _=>fail
theorem UC:DM K (λxs H Q=>(∃i,xs=[.int i]/\Q (.int i) H)\/∃k,xs=[.bl k]/\Q (.int (if k then 1 else 0)) H) FP:=λ{Oo c t σ H xs ds r t' Q} f rx eq k=>by
 match ds,rx,eq with
 | [],_,eq=>cases eq
 | d0 :: _ :: _,_,eq=>cases d0 <;> cases eq
 | [d],rx,eq=>
   obtain ⟨v,rfl,rv⟩:=Ev rx
   cases rv with
   | int i=>cases eq;exact .inl ⟨i,rfl,k _ H c f .refl (.int _)⟩
   | bl b=>cases eq;exact .inr ⟨b,rfl,k _ H c f .refl (.int _)⟩
   | _=>cases eq
def YY:List D->M D
 | [.int i]=>ret (.int (if i < 0 then -i else i))
 | _=>fail
def El:List D->M D
 | [.int i,.int j]=>ret (.int (if j < i then j else i))
 | _=>fail
def Zb:List D->M D
 | [.int i,.int j]=>ret (.int (if j > i then j else i))
 | _=>fail
theorem UF:DM K (λxs H Q=>∃i j,xs=[.int i,.int j]/\Q (.int (if j < i then j else i)) H) El:=λ{Oo c t σ H xs ds r t' Q} f rx eq k=>by
 unfold El at eq
 split at eq
 ·next i j=>
  obtain ⟨v,u,rfl,rv,ru⟩:=IF rx
  cases rv;cases ru;cases eq
  exact ⟨i,j,rfl,k _ H c f .refl (.int _)⟩
 ·cases eq
def Fj:List D->M D
 | [.str x]=>λt=>if x.length=1 then some (.int (x.cps.getD 0 0:Nat),t) else none
 | _=>fail
theorem UI:DM K (λxs H Q=>∃x,xs=[.str x]/\x.length=1/\Q (.int (x.cps.getD 0 0:Nat)) H) Fj:=λ{Oo c t σ H xs ds r t' Q} f rx eq k=>by
 match ds,rx,eq with
 | [],_,eq=>cases eq
 | d0 :: _ :: _,_,eq=>cases d0 <;> cases eq
 | [d],rx,eq=>
   obtain ⟨v,rfl,rv⟩:=Ev rx
   cases rv with
   | str x=>
     unfold Fj at eq;dsimp only at eq
     split at eq
     ·next h=>cases eq;exact ⟨x,rfl,h,k _ H c f .refl (.int _)⟩
     ·cases eq
   | _=>cases eq
end
end F2
namespace L2
open PySem PySem.Spec PyProof.Rows
open AutoSeq1 (wpAny_loadPart')
def Sf (K:PySem.W.Frag):R2:=λx y H Q=>∃a b ys,x = .ref a/\y = .ref b/\SqT K H a []/\SqT K H b ys/\Q (.ref b) H
theorem T2 {X:Cx}:OpR X (binaryOp .Add) (Sf X.K):=by
 intro pins s σ H x y v u Q I rx ry h;obtain ⟨a,b,ys,rfl,rfl,h1,h2,q⟩:=h
 cases rx
 cases ry
 obtain ⟨its,r,⟨⟨cls,dd,data,sl⟩,ho,hc,n,hd⟩,z⟩:=I.tuple h1;obtain ⟨its2,r2,⟨⟨cls2,dd2,data2,sl2⟩,ho2,hc2,n2,hd2⟩,z2⟩:=I.tuple h2;simp only at hc hd hc2 hd2;subst hc hd hc2 hd2
 cases r
 exact concat_meets ⟨_,ho,rfl⟩ ⟨_,ho2,rfl⟩ noFill_tuple_add seq_tuple_add PySem.F.slot_tuple_add PySem.F.entry_tuple_add (PySem.F.args_tuple_add_2 _ _)
  (tuple_addW0 a b #[] its2.toArray n n2 dd dd2 sl sl2 rfl) ⟨ho,ho2,.ref b,H,I,rfl,q⟩
end L2
namespace L2
open PySem PySem.Spec PyProof.Rows
open AutoSeq1 (wpAny_loadPart')
theorem MtM.or {X:Cx}{id:String}{r r':V->List V->Hp->VK->Prop}(h:MtM X id r)(h':MtM X id r'):MtM X id (λx xs H Q=>r x xs H Q\/r' x xs H Q):=by
 intro pins s σ H x xs v us Q I rx rv q;rcases q with q | q
 ·exact h pins s σ H x xs v us Q I rx rv q
 ·exact h' pins s σ H x xs v us Q I rx rv q
section
variable {X:Cx}{a b c d:Expr}{ta tb tc td:TE}{pos:Pos}
end
end L2
namespace F2
open PySem L2 PySem.Spec
section
variable {K:PySem.W.Frag}
def Aq (x y:D):M D:=match x,y with
 | .tup [],.tup ys=>ret (.tup ys)
 | x,y=>P4 x y
def Se (K:PySem.W.Frag):R2:=λx y H Q=>Nn K x y H Q\/Sf K x y H Q
theorem T1 {X:Cx}:OpR X (binaryOp .Add) (Se X.K):=op_add4.or T2
theorem Rb:AR K (Se K) Aq:=λ{Oo c t σ H x y dx dy r t' Q} f rx ry eq k=>by
 unfold Aq at eq
 split at eq
 ·next ys=>
  cases eq
  cases rx with
  | tup h1 h2 h3=>
    cases h3
    cases ry with
    | tup g1 g2 g3=>exact .inr ⟨_,_,_,rfl,rfl,SqT.of h1,SqT.of g1,k _ H c f .refl (.tup g1 g2 g3)⟩
 ·exact .inl (Ux f rx ry eq k)
def QJ:D->D->M D
 | .int i,.int j=>λt=>if FT i j=true then some (.int (i * j),t) else none
 | _,_=>fail
def Nq (K:PySem.W.Frag):R2:=rI CMul (λi j=>.int (i * j))
theorem op_mul3 {X:Cx}:OpR X (binaryOp .Mult) (Nq X.K):=Wq
theorem UH:AR K (Nq K) QJ:=λ{Oo c t σ H x y dx dy r t' Q} f rx ry eq k=>by
 cases rx with
 | int i=>
   cases ry with
   | int j=>
     unfold QJ at eq;dsimp only at eq
     split at eq
     ·next h=>cases eq;exact ⟨i,j,rfl,rfl,OQ h,k _ H c f .refl (.int _)⟩
     ·cases eq
   | _=>cases eq
 | _=>cases eq
end
variable {K:PySem.W.Frag}
section
variable {X:Cx}{e a b:Expr}{pos:Pos}
def B1 (xs:List D):List D->Option (List D)
 | [d]=>if xs.length < LIM then some (xs++[d]) else none
 | _=>none
def Eg (xs:List D):List D->Option (List D)
 | [.lst ys]=>if xs.length + ys.length<=LIM then some (xs++ys) else none
 | _=>none
def ownM (i:Nat)(h:List D->List D->Option (List D))(g:M (List D)):M Out:=λt=>match t.env[i]? with
 | some (some (.own _))=>bnd g (λds t1=>match t1.env[i]? with
   | some (some (.own xs))=>(h xs ds).map λys=>(.next,{ t1 with env:=t1.env.set i (some (.own ys)) })
   | _=>none) t
 | _=>none
def MO (K:PySem.W.Frag)(R:V->List V->Hp->VK->Prop)(h:List D->List D->Option (List D)):Prop:=∀{c:Cf} {S:List Ob} {H:Hp} {a:Addr} {vs us:List V} {xs ds ys:List D} {Q:VK},SInv K c S H->H a=some (.lst vs)->Reps K c H vs xs->Reps K c H us ds->h xs ds=some ys->
 (∀ws,Reps K c H ws ys->Q .non (upd H a (.lst ws)))->R (.ref a) us H Q
theorem My:MO K Mt B1:=λ{c S H a vs us xs ds ys Q} s h r rs e k=>by
 unfold B1 at e
 split at e
 ·next d=>
  split at e
  ·next hl=>
   cases e
   obtain ⟨v,rfl,rv⟩:=Ev rs;exact ⟨a,vs,v,rfl,rfl,h,by rw [r.length];exact Nat.lt_of_lt_of_le hl BR,k _ (r.append (.cons rv .nil))⟩
  ·cases e
 ·cases e
def Si (K:PySem.W.Frag):V->List V->Hp->VK->Prop:=Mu
theorem Mm {X:Cx}:MtM X "list.extend" (Si X.K):=OP
theorem Mz:MO K (Si K) Eg:=λ{c S H a vs us xs ds ys Q} s h r rs e k=>by
 unfold Eg at e
 split at e
 ·split at e
  ·next hl=>
   cases e
   obtain ⟨v,rfl,rv⟩:=Ev rs
   cases rv with
   | lst h1 h2 h3=>exact ⟨a,_,vs,_,rfl,rfl,h,h1,by rw [r.length,h3.length];exact Nat.le_trans hl BR,k _ (r.append h3)⟩
  ·cases e
 ·cases e
theorem RS.ownM {μ:Cf->Hp->D->(V->Hp->Prop)->Prop}{K:PySem.W.Frag}{i:Nat}{h:List D->List D->Option (List D)}{g:M (List D)}{R:V->List V->Hp->VK->Prop}(s:MO K R h){E:Ends}{σ:L2.St}{H:Hp}(q:RSg K μ (F2.ownM i h g) E σ H):Su (tBM K "list" R (Xf i) (RA K g)) E σ H:=by
 obtain ⟨Oo,c,t,fi,o,t',eq,k⟩:=q;unfold F2.ownM at eq
 split at eq
 ·next xs0 e0=>
  obtain ⟨ds,t1,e1,eq⟩:=Af eq;obtain ⟨a,vs0,h1,h2,h3,h4,h5⟩:=fi.own i xs0 e0;refine ⟨.ref a,h1,.inl ⟨rfl,vs0,SqL.of h4⟩,Oo,c,t,fi,ds,t1,e1,λus H1 c1 f1 s1 rus=>?_⟩
  split at eq
  ·next xs ex=>
   obtain ⟨ys,ey,ez⟩:=Option.map_eq_some_iff.mp eq
   cases ez
   obtain ⟨a',vs,g1,g2,g3,g4,g5⟩:=f1.own i xs ex;rw [h1] at g1;injection g1 with g1;injection g1 with g1;injection g1 with g1;subst g1
   refine s f1.s g4 g5 rus ey λws rws=>?_;obtain ⟨f2,s2⟩:=f1.wrOwn ex h1 rws;exact k σ _ c1 f2 (s1.trans s2)
  ·cases eq
 ·cases eq
theorem Os {μ:Cf->Hp->D->(V->Hp->Prop)->Prop}(i:Nat){x:Str}{es:List Expr}{g:M (List D)}{px apos cpos:Pos}(ha:PA X (e :: es) (RA X.K g))(hN:X.N[i]?=some x:=by rfl)(hv:Vis X.env.scope x:=by walk_at "h")(hd:(x == ("__debug__" : Str))=false:=by decide)
 (hcd:(x == ("__classdict__" : Str))=false:=by decide)
 (hbase:attributeBase (.Name x px) "append" X.env (eval (.Name x px) X.env)=eval (.Name x px) X.env:=by rfl)
 (hfew:((backTo cpos (starEach (e :: es) X.env)).all (λx=>!x.1) && (backToKw cpos (keywordEach [] X.env)).all (λx=>x.1.isSome) && decide ((e :: es).length + ([]:List Keyword).length + (if ([]:List Keyword).isEmpty then 0 else 1) < 30))=true:=by rfl)
 (hline:(apos.endLine == cpos.line)=true:=by rfl) (hs:starEach (e :: es) X.env=(false,eval e X.env) :: starEach es X.env:=by rfl) (hplain:(backTo cpos (starEach es X.env)).any (·.1)=false:=by rfl) :
 PS X (.Expr (.Call (.Attribute (.Name x px) "append" apos) (e :: es) [] cpos) pos) (RSg X.K μ (ownM i B1 g)):=
 A3 (Jl (ID PySem.F.plainAttrs_list PySem.F.slot_list_append PySem.F.type_list_append JK (Ec hN hv hd hcd) ha hbase hfew hline hs hplain)) λ_ _ _ q=>RS.ownM My q
theorem Ot {μ:Cf->Hp->D->(V->Hp->Prop)->Prop}(i:Nat){x:Str}{es:List Expr}{g:M (List D)}{px apos cpos:Pos}(ha:PA X (e :: es) (RA X.K g))(hN:X.N[i]?=some x:=by rfl)(hv:Vis X.env.scope x:=by walk_at "h")(hd:(x == ("__debug__" : Str))=false:=by decide)
 (hcd:(x == ("__classdict__" : Str))=false:=by decide)
 (hbase:attributeBase (.Name x px) "extend" X.env (eval (.Name x px) X.env)=eval (.Name x px) X.env:=by rfl)
 (hfew:((backTo cpos (starEach (e :: es) X.env)).all (λx=>!x.1) && (backToKw cpos (keywordEach [] X.env)).all (λx=>x.1.isSome) && decide ((e :: es).length + ([]:List Keyword).length + (if ([]:List Keyword).isEmpty then 0 else 1) < 30))=true:=by rfl)
 (hline:(apos.endLine == cpos.line)=true:=by rfl) (hs:starEach (e :: es) X.env=(false,eval e X.env) :: starEach es X.env:=by rfl) (hplain:(backTo cpos (starEach es X.env)).any (·.1)=false:=by rfl) :
 PS X (.Expr (.Call (.Attribute (.Name x px) "extend" apos) (e :: es) [] cpos) pos) (RSg X.K μ (ownM i Eg g)):=
 A3 (Jl (ID PySem.F.plainAttrs_list PySem.F.slot_list_extend PySem.F.type_list_extend Mm (Ec hN hv hd hcd) ha hbase hfew hline hs hplain)) λ_ _ _ q=>RS.ownM Mz q
def objM (h:List D->List D->Option (List D))(f:M D)(g:M (List D)):M D:=bnd f λo=>match o with
 | .obj k=>λt=>match t.S[k]? with
   | some (.lst _)=>bnd g (λds t1=>match t1.S[k]? with
     | some (.lst xs)=>(h xs ds).map λys=>(.non,{ t1 with S:=t1.S.set k (.lst ys) })
     | _=>none) t
   | _=>none
 | _=>fail
theorem RE.objM {K:PySem.W.Frag}{h:List D->List D->Option (List D)}{f:M D}{g:M (List D)}{R:V->List V->Hp->VK->Prop}(s:MO K R h){σ:L2.St}{H:Hp}{Q:VK}(q:RE K (F2.objM h f g) σ H Q):tBM K "list" R (RE K f) (RA K g) σ H Q:=by
 obtain ⟨Oo,c,t,fi,r,t',eq,k⟩:=q;obtain ⟨o,t0,e0,eq⟩:=Af eq;refine ⟨Oo,c,t,fi,o,t0,e0,λx H0 c0 f0 s0 rx=>?_⟩
 cases rx with
 | @obj a kk hk=>
   dsimp only at eq
   split at eq
   ·next xs0 ex0=>
    obtain ⟨ds,t1,e1,eq⟩:=Af eq;obtain ⟨vs0,g0,g0'⟩:=f0.s.obs kk a _ hk ex0;refine ⟨.inl ⟨rfl,vs0,SqL.of g0⟩,Oo,c0,t0,f0,ds,t1,e1,λus H1 c1 f1 s1 rus=>?_⟩
    split at eq
    ·next xs ex=>
     obtain ⟨ys,ey,ez⟩:=Option.map_eq_some_iff.mp eq
     cases ez
     have hk1:=s1.ext.io _ _ hk;obtain ⟨vs,g1,g2⟩:=f1.s.obs kk a _ hk1 ex;refine s f1.s g1 g2 rus ey λws rws=>?_;obtain ⟨f2,s2⟩:=f1.wrObj (o:=.lst ys) (u:=.lst ws) hk1 λc' H' ext hu=>⟨ws,hu,rws.mono ext⟩;exact k _ _ c1 f2 ((s0.trans s1).trans s2) .non
    ·cases eq
   ·cases eq
 | _=>cases eq
theorem Of {o:Expr}{es:List Expr}{f:M D}{g:M (List D)}{apos cpos:Pos}(ho:PE X o (RE X.K f))(ha:PA X (e :: es) (RA X.K g))
 (hbase:attributeBase o "append" X.env (eval o X.env)=eval o X.env:=by rfl)
 (hfew:((backTo cpos (starEach (e :: es) X.env)).all (λx=>!x.1) && (backToKw cpos (keywordEach [] X.env)).all (λx=>x.1.isSome) && decide ((e :: es).length + ([]:List Keyword).length + (if ([]:List Keyword).isEmpty then 0 else 1) < 30))=true:=by rfl)
 (hline:(apos.endLine == cpos.line)=true:=by rfl) (hs:starEach (e :: es) X.env=(false,eval e X.env) :: starEach es X.env:=by rfl) (hplain:(backTo cpos (starEach es X.env)).any (·.1)=false:=by rfl) :
 PE X (.Call (.Attribute o "append" apos) (e :: es) [] cpos) (RE X.K (objM B1 f g)):=
 AD (ID PySem.F.plainAttrs_list PySem.F.slot_list_append PySem.F.type_list_append JK ho ha hbase hfew hline hs hplain) λ_ _ _ q=>RE.objM My q
def Fk (o i d:D):M Unit:=match o,i with
 | .obj k,.int j=>λt=>match t.S[k]? with
   | some (.lst xs)=>(ixN xs.length j).map λn=>((),{ t with S:=t.S.set k (.lst (xs.set n d)) })
   | _=>none
 | _,_=>fail
def stD (f g:M D)(d:D):M Unit:=bnd f λo=>bnd g λi=>Fk o i d
theorem VL {o i:Expr}{f g:M D}(ho:PE X o (RE X.K f))(hi:PE X i (RE X.K g))
 (ha:∀v,assign (.Subscript o i pos) X.env v=(do
   let ov <-holding [v] (eval o X.env)
   let iv <-holding [v,ov] (eval i X.env)
   standAt pos
   holding [v,ov,iv] (setItem ov iv v)
   release [v,ov,iv] []):=by intro _;rfl):PG X (.Subscript o i pos) (RG X.K (stD f g)):=
 Gc (Lg ho hi Lv ha) λv σ H Q z9=>by
  obtain ⟨Oo,c,t,d,fi,rv,t',eq,k⟩:=z9;obtain ⟨d0,t1,e1,eq⟩:=Af eq;obtain ⟨di,t2,e2,eq⟩:=Af eq;refine ⟨Oo,c,t,fi,_,t1,e1,λx H1 c1 f1 s1 rx=>⟨Oo,c1,t1,f1,di,t2,e2,λy H2 c2 f2 s2 ry=>?_⟩⟩;unfold Fk at eq
  split at eq
  ·cases ry with
   | int j=>
   cases rx with
   | @obj a kk hk=>
     split at eq
     ·next xs ex=>
      obtain ⟨n,en,ez⟩:=Option.map_eq_some_iff.mp eq
      cases ez
      have hk2:=s2.ext.io _ _ hk;obtain ⟨vs,g1,g2⟩:=f2.s.obs _ a _ hk2 ex;refine ⟨a,vs,_,n,rfl,rfl,g1,by rw [g2.length];exact en,?_⟩;have rv2:=rv.mono (s1.trans s2).ext;obtain ⟨f3,s3⟩:=f2.wrObj (o:=.lst (xs.set n d)) (u:=.lst (vs.set n v)) hk2 λc' H' ext hu=>⟨_,hu,(Reps.set rv2 n g2).mono ext⟩;exact k σ _ c2 f3 ((s1.trans s2).trans s3)
     ·cases eq
  ·cases eq
end
variable {H:Hp}
section
variable {X:Cx}{e a b tg iter elt:Expr}{ifs:List Expr}{pos:Pos}{scope:Scope}{N':List Str}{n:Nat}{fr:List Nat}{f:M (List D)}{st:D->M Unit}{tst:M Bool}{el:M D}
def Bq:M Bool:=ret true
theorem Tb:PIf X [] (RT X.K Bq):=λpins s σ H Q I z9=>by
 obtain ⟨Oo,c,t,fi,r,t',eq,k⟩:=z9;exact Ui pins s σ H Q I (by cases eq;exact k H c fi .refl)
theorem Tc {g:M Bool}(h:PT X e (RT X.K g)):PIf X [e] (RT X.K g):=Uj h
theorem B3 (O:CmpOk X scope N' (EG n fr))(hc:X.calm=true)(hi:PI X tg iter (RI X.K f))
 (hg:∀cl C s2 H2 fp,PG (BC X N' scope cl C s2 H2 fp) tg (RG X.K st)) (ht:∀cl C s2 H2 fp,PIf (BC X N' scope cl C s2 H2 fp) ifs (RT X.K tst)) (he:∀cl C s2 H2 fp,PE (BC X N' scope cl C s2 H2 fp) elt (RE X.K el))
 (hs:∀x,foldedSetIterable iter X.env x=pure x:=by intro _;rfl):PE X (.ListComp elt [⟨tg,iter,ifs,0⟩] scope pos) (RF X.K (AB n fr f st tst el)):=
 AD (Uc O hc hi hg ht he hs) λ_ _ _ q=>RF.comp q
theorem RF.ofPure {f:M (List D)}{σ:L2.St}{Q:VK}(q:RE K (Ak f) σ H Q):RF K f σ H Q:=by
 obtain ⟨Oo,c,t,fi,r,t',eq,k⟩:=q;obtain ⟨ds,t1,e1,eq⟩:=Af eq
 cases eq
 exact ⟨Oo,c,t,fi,ds,_,e1,λp xs H1 c1 f1 s1 rxs hp=>k _ _ c1 (f1.laid hp) (s1.trans (f1.stp_laid hp)) (.lst Aw (f1.s.free hp) (rxs.mono (Ext.laid f1.s hp)))⟩
theorem B5 (tgs:List Str)(frn:List (Nat×Str))(hk:scope.kind = .function)(hcell:(scope.names.all λy=>y.2 != .cell)=true)(hloc:(scope.names.all λy=>y.2 != .local || scope.names.lookup y.1 == some .local)=true)
 (hfree:(scope.names.all λy=>y.2 != .free || X.env.kindOf y.1 == some .cell || X.env.kindOf y.1 == some .free)=true)
 (hf:(frn.all λp=>X.N[p.1]? == some p.2 && scope.names.lookup p.2 == some .free)=true):CmpOk X scope (tgs++frn.map (·.2)) (EG tgs.length (frn.map (·.1))):=by
 rw [List.all_eq_true] at hcell hloc hfree hf;refine ⟨hk,λy hy=>by simpa using hcell y hy,λy hy hl=>?_,λy hy hl=>?_,λσ _=>by simp [EG],λσ j x v h1 h2=>?_⟩
 ·have:=hloc y hy;simpa [hl] using this
 ·have:=hfree y hy;simpa [hl] using this
 ·unfold EG at h2
  by_cases hj:j < tgs.length
  ·rw [List.getElem?_append_left (by simpa using hj),List.getElem?_replicate] at h2
   split at h2 <;> simp at h2
  ·rw [List.getElem?_append_right (by simpa using hj),List.length_replicate,List.getElem?_map,List.getElem?_map] at h2;rw [List.getElem?_append_right (by simpa using hj),List.getElem?_map] at h1
   cases e:frn[j - tgs.length]? with
   | none=>rw [e] at h1;cases h1
   | some p=>
     rw [e] at h1 h2;simp only [Option.map_some,Option.some.injEq] at h1 h2;have hp:=hf p (List.mem_of_getElem? e);rw [Bool.and_eq_true] at hp;refine ⟨p.1,by rw [<-h1];simpa using hp.1,?_,by rw [<-h1];simpa using hp.2⟩
     cases e2:σ[p.1]? with
     | none=>rw [e2] at h2;cases h2
     | some o=>rw [e2] at h2;simpa using h2
end
mutual
noncomputable def Bh:D->Bool
 | .tup xs=>EU xs
 | .lst xs=>EU xs
 | .obj _=>false
 | .scr _=>false
 | .exc _ _=>false
 | _=>true
noncomputable def EU:List D->Bool
 | []=>true
 | d :: r=>Bh d && EU r
end
def c0:Cf:=⟨[],λ_=>False⟩
theorem Gg (a:Addr):¬c0.A a:=λh=>h.elim (λz=>nomatch z) λz=>z
mutual
theorem De {K:PySem.W.Frag}{c:Cf}{H:Hp}{v:V}{d:D}(r:Rep K c H v d)(p:Bh d=true):Rep K c0 H v d:=by
 cases r with
 | non=>exact .non
 | bl b=>exact .bl b
 | int i=>exact .int i
 | str x=>exact .str x
 | ty n=>exact .ty n
 | tup h n r=>exact .tup h (Gg _) (He r (by simpa [Bh] using p))
 | lst h n r=>exact .lst h (Gg _) (He r (by simpa [Bh] using p))
 | scr h=>simp [Bh] at p
 | dic h n=>exact .dic h (Gg _)
 | obj h=>simp [Bh] at p
 | exc _ _ _ _ _=>simp [Bh] at p
theorem He {K:PySem.W.Frag}{c:Cf}{H:Hp}{vs:List V}{ds:List D}(r:Reps K c H vs ds)(p:EU ds=true):Reps K c0 H vs ds:=by
 cases r with
 | nil=>exact .nil
 | cons h t=>
   simp only [EU,Bool.and_eq_true] at p;exact .cons (De h p.1) (He t p.2)
end
noncomputable def C7 (S:List Ob):D->D
 | .obj k=>match S[k]? with
   | some (.lst ds)=>.lst ds
   | _=>.obj k
 | d=>d
noncomputable def Qz:D->Bool
 | .obj _=>true
 | _=>false
def eqS (g:Bool->Bool)(x y:D):M D:=λt=>
 if (Qz x || Qz y)=true then (if (Bh (C7 t.S x) && Bh (C7 t.S y))=true then (eqN EQD (C7 t.S x) (C7 t.S y)).map λb=>(.bl (g b),t) else none)
 else (eqN EQD x y).map λb=>(.bl (g b),t)
theorem Lm {c:Cf}{S:List Ob}{v:V}{d:D}(s:SInv K c S H)(r:Rep K c H v d)(p:Bh (C7 S d)=true):Rep K c0 H v (C7 S d):=by
 cases r with
 | @obj a k hk=>
   unfold C7 at p ⊢;dsimp only at p ⊢
   split
   ·next ds e=>
    rw [e] at p;obtain ⟨vs,h1,h2⟩:=s.obs k a _ hk e;exact .lst h1 (Gg _) (He h2 (by simpa [Bh] using p))
   ·next h=>
    split at p
    ·next ds e=>exact absurd e (h ds)
    ·simp [Bh] at p
 | non=>exact .non
 | bl b=>exact .bl b
 | int b=>exact .int b
 | str b=>exact .str b
 | ty b=>exact .ty b
 | tup h n q=>exact De (.tup h n q) p
 | lst h n q=>exact De (.lst h n q) p
 | scr h=>exact De (c:=c) (.scr h) p
 | dic h n=>exact De (.dic h n) p
 | exc a b n f q=>exact De (.exc a b n f q) p
theorem Fz {g:Bool->Bool}:AR K (Li K g) (eqS g):=λ{Oo c t σ H x y dx dy r t' Q} f rx ry eq k=>by
 unfold eqS at eq
 split at eq
 ·split at eq
  ·next hp=>
   rw [Bool.and_eq_true] at hp;obtain ⟨b,e1,e2⟩:=Option.map_eq_some_iff.mp eq
   cases e2
   exact ⟨c0,_,_,b,Lm f.s rx hp.1,Lm f.s ry hp.2,e1,k _ H c f .refl (.bl (g b))⟩
  ·cases eq
 ·obtain ⟨b,e1,e2⟩:=Option.map_eq_some_iff.mp eq
  cases e2
  exact ⟨c,dx,dy,b,rx,ry,e1,k _ H c f .refl (.bl (g b))⟩
theorem OJ {a:Addr}{ns:List Int}{f:Fn}{S':List Ob}(hO:MM H)(hS:SqL K H a (ns.map V.int))(e:f [.scr ns] []=some (.bl true,S')):spF K f [.ref a] H (λv _=>v = .bl true) λ_ _ _=>False:=by
 refine ⟨c0,[.scr ns],[],⟨rfl,List.Pairwise.nil,λk a o h=>by simp [c0] at h,λb z=>z.elim,λb z=>z.elim⟩,.cons (.scr ?_) .nil,.bl true,S',e,λv H' c' _ _ _ rv=>by cases rv;rfl⟩;rcases hS with (h | h) | h
 ·rcases hO a with z | ⟨o,xs,z⟩
  ·rw [z] at h;cases h
  ·rw [z] at h;cases h
 ·exact .inl ⟨h,Gg _⟩
 ·exact .inr h
end F2
namespace L2
open PySem PySem.Spec PyProof.Rows
section
variable {prog:Program}{w:World}{A:Around}{E:Value->Shared->Prop}{s:Shared}
theorem Ik {it l:Addr}{items:Array Value}(hne:l≠it):∀(n i:Nat) (s:Shared) (Q:List Value->Shared->Prop),s.heap.IsListIter it l i->s.heap.IsList l items->i + n<=items.size->
 (∀h',h'.IsListIter it l (i + n)->Heap.SameBut it s.heap h'->Q ((items.toList.drop i).take n) { s with heap:=h' })->wpAny (model prog w) A (draw (.ref it) n) Q E s
 | 0,i,s,Q,hit,_,_,hQ=>wpAny_pure (by simpa using hQ s.heap hit (Heap.SameBut.refl ..))
 | n + 1,i,s,Q,hit,ht,hle,hQ=>by
   have hlt:i < items.size:=by lia
   refine wpAny_bind (wpAny_pyNext_list_item hit ht (x:=items[i]) (by simp [hlt]) λh1 hit1 hs1=>?_);refine wpAny_bind (wpAny_holding (Ik hne n (i + 1) _ _ hit1 (ht.extBut hs1.extBut hne) (by lia) λh2 hit2 hs2=>wpAny_pure ?_));have hd:items.toList.drop i=items[i] :: items.toList.drop (i + 1):=by simp [List.drop_eq_getElem_cons,hlt]
   have:=hQ h2 (by rw [show i + (n + 1)=i + 1 + n by lia];exact hit2) (hs1.trans hs2);rw [hd,List.take_succ_cons] at this;exact this
theorem LC {l:Addr}{items:Array Value}{targets:List (Bool×(Value->Sem Unit))}{Q:Unit->Shared->Prop}(hh:A.handled=none)(ht:s.heap.IsList l items)(hn:targets.length=items.size)(hstar:targets.findIdx? (·.1)=none)
 (h:∀h',Heap.ExtBut s.heap.objs.size s.heap h'->wpAny (model prog w) A (assignInOrder (targets.map (·.2)) items.toList) Q E { s with heap:=h' }):wpAny (model prog w) A (unpack (.ref l) targets) Q E s:=by
 have hlt:l≠s.heap.objs.size:=by obtain ⟨o,ho,_⟩:=ht;exact Nat.ne_of_lt (Heap.lt_size ho)
 unfold unpack;rw [hn,hstar];refine wpAny_bind (wpAny_holding ?_);unfold unpackItems;refine wpAny_bind ?_;unfold notIterableAtAll;refine wpAny_bind (wpAny_specialOf ht.typeIs PySem.F.slot_list_iter.lookup ?_);refine wpAny_pure ?_;simp only [Bool.false_eq_true,if_false];refine wpAny_bind (wpAny_holding (wpAny_pyIter_list ht ?_));have hp:Heap.IsList (s.heap.push { cls:=.type "list_iterator",data:=.fields #[.ref l,.int 0 0] }) l items:=by
  obtain ⟨o,ho,r⟩:=ht;exact ⟨o,Heap.get?_push_of_some _ ho,r⟩
 refine wpAny_bind (wpAny_holding (Ik hlt items.size 0 _ _ ⟨_,Heap.get?_push_size _ rfl,rfl,rfl⟩ hp (by lia) λh1 hit1 hs1=>?_));have hall:List.take items.size (List.drop 0 items.toList)=items.toList:=by
  rw [List.drop_zero];exact List.take_of_length_le (by simp)
 rw [hall];rw [if_neg (by simp)];have ht1:Heap.IsList h1 l items:=hp.extBut hs1.extBut hlt;refine wpAny_bind (wpAny_holding (wpAny_pyNext_list_end hh hit1 ht1 (by simp) λh2 he2=>?_));simp only [Option.isSome_none,Bool.false_eq_true,if_false];exact wpAny_pure (h h2 λb o hb e=>he2 b o hb (hs1.extBut b o hb (Heap.get?_push_of_some _ e)))
end
section
variable {X:Cx}{pos:Pos}
def gUn (K:PySem.W.Frag)(n:Nat)(t:TGs):TG:=λv σ H Q=>∃a xs,v = .ref a/\(SqT K H a xs\/SqL K H a xs)/\xs.length=n/\t xs σ H Q
theorem XR {es:List Expr}{k:Nat}{t:TGs}{n:Nat}(hc:X.calm=true)(h:PGs X es t)
 (hn:(assignEach es X.env).length=n:=by rfl) (hst:(assignEach es X.env).findIdx? (·.1)=none:=by rfl):PG X (.Tuple es k pos) (gUn X.K n t):=by
 intro pins s σ H v u Q I r hw;obtain ⟨a,xs,e1,hq | hq,hl,hw⟩:=hw
 ·exact WG hc h hn hst pins s σ H v u Q I r ⟨a,xs,e1,hq,hl,hw⟩
 ·subst e1
  cases r
  obtain ⟨its,rv,ht,hz⟩:=I.list hq;rw [assign_Tuple];refine wpAny_bind (wpAny_standAt (LC (I.ok.hd hc) ht.isList (by simp [hn,<-hl,rv.length]) hst λh' hx=>?_));have I1:Inv X pins σ H { s with heap:=h' }:=I.kept (t':=s.toks) λb o e=>hx b o (Nat.ne_of_lt (Heap.lt_size e)) e;exact h pins _ σ H xs _ Q I1 (by simpa using rv) hw
end
section
open HT
variable {prog:Program}{w:World}{A:Around}{E:Value->Shared->Prop}{s:Shared}
theorem Ga {t sl:Addr}{items:Array Value}{vl vu:Value}{lo hi:Option Int}{Q:Value->Shared->Prop}(ht:IsTup s.heap t items)(hs:s.heap.IsSliceOf sl vl vu .none)(pl:IsPart vl lo)(pu:IsPart vu hi)
 (hw:sIx items.size 0 lo=0/\sIx items.size items.size hi=items.size) (h:Q (.ref t) s):wpAny (model prog w) A (getItem (.ref t) (.ref sl)) Q E s:=by
 obtain ⟨os,hos,hcs,hds⟩:=id hs;have hTs:s.TypeIs (.ref sl) "slice":=⟨os,hos,hcs⟩;unfold getItem
 try with_reducible refine wpAny_holding ?_
 first | refine wpAny_bind (wpAny_pure ?_) | skip
 refine wpAny_bind (wpAny_sequenceKey ht.typeIs (by decide) ?_);refine wpAny_bind (wpAny_callSpecial?_slot (name:=Str.ofString "__getitem__") ht.typeIs PyProof.Rows.slot_tuple_getitem
  (wpAny_call_entry PyProof.Rows.slot_tuple_getitem ht.typeIs entry_tuple_getitem ?_ (args_tuple_getitem _ _)))
 show wpAny _ _ (Builtin.Tuple.tupleItemsOf (.ref t) >>= _) _ _ s;refine wpAny_bind (tupleItemsOf_ ht ?_);refine wpAny_bind (wpAny_typeOf hTs ?_);rw [if_pos (by decide)];refine wpAny_bind (EX hs pl pu ?_);have hyes:(((sIx items.size 0 lo:Nat):Int) == 0 && (1:Int) == 1 && (sIx items.size items.size hi - sIx items.size 0 lo) == items.size)=true:=by
  rw [hw.1,hw.2];simp
 show wpAny _ _ (if (((sIx items.size 0 lo:Nat):Int) == 0 && (1:Int) == 1 && (sIx items.size items.size hi - sIx items.size 0 lo) == items.size)=true then _ else _) _ _ s;rw [if_pos hyes];refine wpAny_bind (m:=Builtin.Tuple.tupleIsExact _) ?_;unfold Builtin.Tuple.tupleIsExact;refine wpAny_bind (wpAny_typeOf ht.typeIs (wpAny_pure ?_));rw [if_pos (by decide)]
 first
  | exact wpAny_bind (wpAny_rule (wpAny_pure ⟨_,rfl,wpAny_pure h⟩))
  | exact wpAny_bind (wpAny_rule (wpAny_bind (wpAny_pure (wpAny_pure ⟨_,rfl,wpAny_pure h⟩))))
end
section
variable {X:Cx}
def W1 (K:PySem.W.Frag):V->Option Int->Option Int->Hp->VK->Prop:=λx lo hi H Q=>∃a xs,x = .ref a/\SqT K H a xs/\(HT.sIx xs.length 0 lo=0/\HT.sIx xs.length xs.length hi=xs.length)/\Q (.ref a) H
theorem UQ:SlR X (W1 X.K):=by
 intro pins s σ H x v vl vu lo hi sl Q I rx hs pl pu h;obtain ⟨a,xs,rfl,hx,hw,q⟩:=h
 cases rx
 obtain ⟨its,r,ht,hz⟩:=I.tuple hx;have hlen:its.toArray.size=xs.length:=by rw [List.size_toArray];exact r.length.symm
 exact ⟨"tuple",_,PyProof.Rows.slot_tuple_getitem.lookup,ht.typeIs,Ga ht hs pl pu (by rw [hlen];exact hw) ⟨.ref a,H,I,rfl,q⟩⟩
end
noncomputable def Its (z:Str):It:=⟨λi _=>i < z.cps.size,λi H x H'=>H'=H/\∃c,z.cps[i]?=some c/\x = .str ⟨#[c]⟩,λi _=>i=z.cps.size⟩
theorem LB {P:Program}{w:World}{K:PySem.W.Frag}{tg:Expr}{T:String}{x:Str}{t:Tok}(it:Addr)(hT:["enumerate", "zip", "dict_itemiterator", "dict_reverseitemiterator", "odict_iterator", "itertools.zip_longest", "itertools.pairwise"].contains T=false)
 (W:∀A:Around,A.handled=none->Walks P w A it [it] [it] x.cps.size (SignAt x) (λi h=>h.IsStrIter it T x t i))
 (self:∀(A:Around) (i:Nat) (s:Shared) (Q:Value->Shared->Prop) (E:Value->Shared->Prop),s.heap.IsStrIter it T x t i->Q (.ref it) s->wpAny (model P w) A (pyIter (.ref it)) Q E s) :
 Turn P w K tg (Its x) [it] it (λi h=>h.IsStrIter it T x t i) where
 mem:=by simp
 obj:=λi h st b hb=>by
  have e:b=it:=by simpa using hb
  subst e;obtain ⟨o,e,c,d⟩:=st;exact ⟨o,e,λv z=>by rw [d] at z;cases z⟩
 keep:=λi h h' st k=>by
  obtain ⟨o,e,r⟩:=st;exact ⟨o,k it (by simp) o e,r⟩
 item:=by
  intro X hP hw hK hc i pins s σ H E I hf st hg;subst hP hw hK;obtain ⟨f0,f1,f2,f3,f4,f5⟩:=hf it (by simp);refine (W X.A (I.ok.hd hc)).item i s _ _ hg st λv h' tk hv st' kk=>?_;obtain ⟨c,u,hcc,rfl⟩:=hv;have I1:Inv X pins σ H { s with heap:=h',toks:=tk }:=I.turned (λb o hb e=>kk b o (by simpa using hb) e) f0 f1 f3 f4 f5;obtain ⟨o,e,ec,ed⟩:=id st';exact ⟨_,rfl,J3 (s:={ s with heap:=h',toks:=tk }) e ec ed hT ⟨.str ⟨#[c]⟩,H,I1,⟨u,rfl⟩,⟨rfl,c,hcc,rfl⟩,st',λb hb=>(hf b hb).1⟩⟩
 done:=by
  intro X hP hw hK hc i pins s σ H E I hf st hg;subst hP hw hK;obtain ⟨f0,f1,f2,f3,f4,f5⟩:=hf it (by simp);have hg':i=x.cps.size:=hg;subst hg';exact (W X.A (I.ok.hd hc)).done s _ _ st λh' tk kk=>⟨rfl,I.turned (λb o hb e=>kk b o (by simpa using hb) e) f0 f1 f3 f4 f5⟩
 self:=λA i s Q E st h=>self A i s Q E st h
section
variable {X:Cx}{tg:Expr}{pos:Pos}
def Y7 (K:PySem.W.Frag)(tl:TE):TI:=λσ H R=>tl σ H λx H1=>(∃a,x = .ref a/\(∃xs,SqL K H1 a xs)/\R (Itl K a) H1)\/(∃a,x = .ref a/\(∃xs,SqT K H1 a xs)/\R (Itt K a) H1)\/∃z,x = .str z/\R (Its z) H1
theorem WH {l:Expr}{tl:TE}(hl:PE X l tl):PI X tg l (Y7 X.K tl):=by
 intro pins s σ H R I h;refine thn (hl pins s σ H _ I h) λv s1 z9=>?_;obtain ⟨x,H1,I1,r1,q1⟩:=z9;have fp:∀b∈[s1.heap.objs.size],FpOk X pins H1 b:=λb hb=>by
  have e:b=s1.heap.objs.size:=by simpa using hb
  subst e;exact I1.fpOk (Nat.le_refl _) (I1.hok.fresh (Nat.le_refl _))
 rcases q1 with ⟨a,rfl,⟨xs,hq⟩,q⟩ | ⟨a,rfl,⟨xs,hq⟩,q⟩ | ⟨z,rfl,q⟩
 ·cases r1
  obtain ⟨its,rv,p,hz⟩:=I1.list hq;refine wpAny_pyIter_list p.isList ?_;exact ⟨s1.heap.objs.size,[s1.heap.objs.size],_,_,H1,rfl,I1.kept (t':=s1.toks) λb o e=>Heap.get?_push_of_some _ e,PC a _,⟨_,Heap.get?_push_size _ rfl,rfl,rfl⟩,fp,q⟩
 ·cases r1
  obtain ⟨its,rv,p,hz⟩:=I1.tuple hq;refine wpAny_pyIter_tuple (show s1.heap.IsTuple a its.toArray from p) ?_;exact ⟨s1.heap.objs.size,[s1.heap.objs.size],_,_,H1,rfl,I1.kept (t':=s1.toks) λb o e=>Heap.get?_push_of_some _ e,NB a _,⟨_,Heap.get?_push_size _ rfl,rfl,rfl⟩,fp,q⟩
 ·obtain ⟨t,rfl⟩:=r1
  cases ha:z.cps.all (· < 128)
  ·refine wpAny_pyIter_wide ha ?_;exact ⟨s1.heap.objs.size,[s1.heap.objs.size],_,_,H1,rfl,I1.kept (t':=s1.toks) λb o e=>Heap.get?_push_of_some _ e,LB (T:="str_iterator") (x:=z) (t:=t) _ (by decide) (λA hA=>Walks.strWide hA _ z t) (λ_ _ _ _ _ st h=>wpAny_pyIter_striter_wide st h),⟨_,Heap.get?_push_size _ rfl,rfl,rfl⟩,fp,q⟩
  ·refine wpAny_pyIter_ascii ha ?_;exact ⟨s1.heap.objs.size,[s1.heap.objs.size],_,_,H1,rfl,I1.kept (t':=s1.toks) λb o e=>Heap.get?_push_of_some _ e,LB (T:="str_ascii_iterator") (x:=z) (t:=t) _ (by decide) (λA hA=>Walks.strAscii hA _ z t) (λ_ _ _ _ _ st h=>wpAny_pyIter_striter_ascii st h),⟨_,Heap.get?_push_size _ rfl,rfl,rfl⟩,fp,q⟩
def X5:TE:=λ_ H Q=>∀p,H p=none->Q (.ref p) (upd H p (.dK []))
theorem Tz {pins:List (Addr×Obj)}{σ:St}{H:Hp}{s:Shared}(I:Inv X pins σ H s):sysModules < s.heap.objs.size:=by
 have h:mainGlobals < s.heap.objs.size:=(I.mod.glob.keeps I.bk).lt;exact Nat.lt_trans (by decide) h
theorem Ue:PE X (.Dict [] [] pos) X5:=λpins s σ H Q I h=>
 wpAny_Dict_empty ⟨.ref s.heap.objs.size,_,I.laid (a:=s.heap.objs.size) (o:=.dK []) (t':=s.toks) (λ_ _ q=>Heap.get?_push_of_some _ q) (Nat.le_refl _) ⟨Nat.zero_le _,beq_eq_false_iff_ne.mpr (Ne.symm (Nat.ne_of_lt (Tz I))),[],.nil,Heap.DictOf.new s.heap⟩,rfl,h _ (I.hok.fresh (Nat.le_refl _))⟩
def So:R2:=λx y H Q=>∃z k,x = .str z/\y = .int k/\MulOk z k/\Q (.str (Txt.mul z k)) H
theorem T6:OpR X (binaryOp .Mult) So:=by
 intro pins s σ H x y v u Q I rx ry h;obtain ⟨z,k,rfl,rfl,hk,q⟩:=h;obtain ⟨t,rfl⟩:=rx;obtain ⟨t',rfl⟩:=ry;exact SB.mul hk λt2 tk=>⟨.str _,H,I.tok tk,⟨t2,rfl⟩,q⟩
def WZ:V->Option Int->Option Int->Hp->VK->Prop:=λx lo hi H Q=>∃z,x = .str z/\z.length<=sizeLine/\Q (.str (Txt.slice z lo hi)) H
theorem sl_str:SlR X WZ:=by
 intro pins s σ H x v vl vu lo hi sl Q I rx hs pl pu h;obtain ⟨z,rfl,hz,q⟩:=h;obtain ⟨t,rfl⟩:=rx;refine ⟨"str",_,PySem.F.slot_str_getitem.lookup,typeIs_str _ _ _,?_⟩;have part:∀{v:Value} {o:Option Int},IsPart v o->∃l:Option (Int×Tok),v=partValue l/\l.map (·.1)=o:=λ{v o} p=>by
  cases p with
  | none=>exact ⟨none,rfl,rfl⟩
  | int i t=>exact ⟨some (i,t),rfl,rfl⟩
 obtain ⟨l,rfl,el⟩:=part pl;obtain ⟨u,rfl,eu⟩:=part pu;refine wpAny_getItem_str_slice (l:=l) (u:=u) (st:=none) (by obtain ⟨o,h1,h2,h3⟩:=hs;exact ⟨o,h1,h2,h3⟩) rfl ?_;unfold sliceMade slicePicked;rw [el,eu];show (if ((1:Int) == 1 && (Builtin.Str.strSliceIndices lo hi 1 z.length).length == z.length)=true then Made.val (.str z t) else Made.str ⟨((Builtin.Str.strSliceIndices lo hi 1 z.length).filterMap (z.cps[·]?)).toArray⟩).post _ s;have hle:=Txt.slice_le z lo hi;unfold Txt.slice at q hle
 by_cases hc:((1:Int) == 1 && (Builtin.Str.strSliceIndices lo hi 1 z.length).length == z.length)=true
 ·rw [if_pos hc] at q ⊢;exact ⟨.str z,H,I,⟨t,rfl⟩,q⟩
 ·rw [if_neg hc] at q hle ⊢;exact ⟨Nat.le_trans hle hz,.str _,H,I.tok _,⟨_,rfl⟩,q⟩
def FX (g:Int->Int->Bool)(h:List Nat->List Nat->Bool):R2:=λx y H Q=>(∃i j,x = .int i/\y = .int j/\Q (.bl (g i j)) H)\/∃i j,x = .str i/\y = .str j/\Q (.bl (h i.cps.toList j.cps.toList)) H
theorem Le:OpR X (compareOp .Lt) (FX (λi j=>decide (i < j)) λi j=>decide (i < j)):=op_lt.or λpins s σ H x y v u Q I rx ry h=>by
 obtain ⟨i,j,rfl,rfl,q⟩:=h;obtain ⟨t,rfl⟩:=rx;obtain ⟨t',rfl⟩:=ry;exact P.lt_str ⟨.bl _,H,I,rfl,q⟩
theorem ET:OpR X (compareOp .LtE) (FX (λi j=>decide (i<=j)) λi j=>!(decide (j < i))):=op_le.or λpins s σ H x y v u Q I rx ry h=>by
 obtain ⟨i,j,rfl,rfl,q⟩:=h;obtain ⟨t,rfl⟩:=rx;obtain ⟨t',rfl⟩:=ry;exact P.le_str ⟨.bl _,H,I,rfl,q⟩
theorem OZ:OpR X (compareOp .Gt) (FX (λi j=>decide (j < i)) λi j=>decide (j < i)):=op_gt.or λpins s σ H x y v u Q I rx ry h=>by
 obtain ⟨i,j,rfl,rfl,q⟩:=h;obtain ⟨t,rfl⟩:=rx;obtain ⟨t',rfl⟩:=ry;exact P.gt_str ⟨.bl _,H,I,rfl,q⟩
theorem Wo:OpR X (compareOp .GtE) (FX (λi j=>decide (j<=i)) λi j=>!(decide (i < j))):=op_ge.or λpins s σ H x y v u Q I rx ry h=>by
 obtain ⟨i,j,rfl,rfl,q⟩:=h;obtain ⟨t,rfl⟩:=rx;obtain ⟨t',rfl⟩:=ry;exact P.ge_str ⟨.bl _,H,I,rfl,q⟩
end
end L2
namespace F2
open PySem L2 PySem.Spec
def Dc:D->M (List D)
 | .lst ds=>ret ds
 | .scr ns=>ret (ns.map .int)
 | .tup ds=>ret ds
 | .str x=>ret (x.cps.toList.map λc=>.str ⟨#[c]⟩)
 | _=>fail
def BT (f:M D):M (List D):=bnd f Dc
def ER:D->D->M D
 | .str x,.int k=>λt=>if BL k=true/\x.length * k.toNat<=LIM/\k<=LIM/\x.length<=LIM then some (.str (Txt.mul x k),t) else none
 | x,y=>QJ x y
def Bf:D->Option Int->Option Int->M D
 | .str x,lo,hi=>lim x.length (.str (Txt.slice x lo hi))
 | .tup ds,lo,hi=>ret (.tup (A7 ds lo hi))
 | x,lo,hi=>slD x lo hi
def KA (g:Int->Int->Bool)(h:List Nat->List Nat->Bool):D->D->M D
 | .int i,.int j=>ret (.bl (g i j))
 | .str x,.str y=>ret (.bl (h x.cps.toList y.cps.toList))
 | _,_=>fail
def ltA:=KA (λi j=>decide (i < j)) (λi j=>decide (i < j))
def leA:=KA (λi j=>decide (i<=j)) (λi j=>!(decide (j < i)))
def gtA:=KA (λi j=>decide (j < i)) (λi j=>decide (j < i))
def geA:=KA (λi j=>decide (j<=i)) (λi j=>!(decide (i < j)))
def unS (n:Nat)(g:List D->M Unit):D->M Unit
 | .tup ds=>if ds.length=n then g ds else fail
 | .lst ds=>if ds.length=n then g ds else fail
 | _=>fail
def Hy:M D:=fC .dic
def D9 (i:Nat)(g:M D)(d:D):M Unit:=λt=>match t.env[i]? with
 | some (some (.own _))=>bnd g (λj t1=>match j,t1.env[i]? with
   | .int j,some (some (.own xs))=>(ixN xs.length j).map λn=>((),{ t1 with env:=t1.env.set i (some (.own (xs.set n d))) })
   | _,_=>none) t
 | _=>none
variable {tg:Expr}{K:PySem.W.Frag}{n:Nat}{g:List D->M Unit}{es:List Expr}
section
variable {X:Cx}{e a b:Expr}{pos:Pos}{st:Stmt}
theorem Oh:PE X (.Dict [] [] pos) (RE X.K Hy):=AD Ue λσ H Q z9 p hp=>by
 obtain ⟨Oo,c,t,fi,r,t',eq,k⟩:=z9
 cases eq
 exact k _ _ c (fi.laid hp) (fi.stp_laid hp) (.dic Aw (fi.s.free hp))
theorem ItOk.str {K:PySem.W.Frag}{c:Cf}{H:Hp}{x:Str}:ItOk K (Its x) c H (x.cps.toList.map λc=>.str ⟨#[c]⟩):=by
 refine ⟨λc' H' i ex hi=>?_,λc' H' i y H'' d ex hd hy=>?_,λc' H' ex=>?_⟩
 ·show i < x.cps.size;simpa using hi
 ·obtain ⟨rfl,n,hn,rfl⟩:=hy;refine ⟨rfl,?_⟩;have:d = .str ⟨#[n]⟩:=by
   rw [List.getElem?_map] at hd;have hn':x.cps.toList[i]?=some n:=by simpa using hn
   rw [hn'] at hd;simpa using hd.symm
  rw [this];exact .str _
 ·show _=x.cps.size;simp
theorem VN {f:M D}(h:PE X e (RE X.K f)):PI X tg e (RI X.K (BT f)):=
 Ge (WH h) λσ H R z9=>by
  obtain ⟨Oo,c,t,fi,ds,t',eq,k⟩:=z9;obtain ⟨d,t1,e1,eq⟩:=Af eq;refine ⟨Oo,c,t,fi,d,t1,e1,λv H1 c1 f1 s1 rv=>?_⟩
  cases rv with
  | @lst p vs ds' h1 h2 h3=>
    cases eq
    exact .inl ⟨p,rfl,⟨vs,SqL.of h1⟩,k _ H1 c1 f1 s1 (ItOk.lst λc' H' ex=>⟨vs,SqL.of (ex.keep _ _ h1 h2),h3.mono ex⟩)⟩
  | @scr p ns h1=>
    cases eq
    exact .inl ⟨p,rfl,⟨_,h1.sq⟩,k _ H1 c1 f1 s1 (ItOk.lst λc' H' ex=>⟨_,(h1.mono ex).sq,Reps.ints ns⟩)⟩
  | @tup p vs ds' h1 h2 h3=>
    cases eq
    exact .inr (.inl ⟨p,rfl,⟨vs,SqT.of h1⟩,k _ H1 c1 f1 s1 (ItOk.tup λc' H' ex=>⟨vs,SqT.of (ex.keep _ _ h1 h2),h3.mono ex⟩)⟩)
  | str x=>
    cases eq
    exact .inr (.inr ⟨x,rfl,k _ H1 c1 f1 s1 ItOk.str⟩)
  | _=>cases eq
theorem RG.un {v:V}{σ:L2.St}{H:Hp}{Q:L2.St->Hp->Prop}(q:RG K (unS n g) v σ H Q):gUn K n (RGs K g) v σ H Q:=by
 obtain ⟨Oo,c,t,d,fi,rv,t',eq,k⟩:=q
 cases rv with
 | @tup a vs ds h1 h2 h3=>
   unfold unS at eq
   by_cases hn:ds.length=n
   ·dsimp only at eq;rw [if_pos hn] at eq;exact ⟨a,vs,rfl,.inl (SqT.of h1),by rw [h3.length];exact hn,Oo,c,t,ds,fi,h3,t',eq,k⟩
   ·dsimp only at eq;rw [if_neg hn] at eq;cases eq
 | @lst a vs ds h1 h2 h3=>
   unfold unS at eq
   by_cases hn:ds.length=n
   ·dsimp only at eq;rw [if_pos hn] at eq;exact ⟨a,vs,rfl,.inr (SqL.of h1),by rw [h3.length];exact hn,Oo,c,t,ds,fi,h3,t',eq,k⟩
   ·dsimp only at eq;rw [if_neg hn] at eq;cases eq
 | _=>cases eq
theorem XA {k:Nat}(hc:X.calm=true)(h:PGs X es (RGs X.K g))(hn:(assignEach es X.env).length=n:=by rfl)(hst:(assignEach es X.env).findIdx? (·.1)=none:=by rfl):PG X (.Tuple es k pos) (RG X.K (unS n g)):=
 Gc (XR hc h hn hst) λ_ _ _ _ q=>RG.un q
theorem Qp {f:D->M Unit}(h1:PG X e (RG X.K f))(h2:PGs X es (RGs X.K g))(hs:(assignEach (e :: es) X.env).map (·.2)=assign e X.env :: (assignEach es X.env).map (·.2):=by rfl):PGs X (e :: es) (RGs X.K (AL f g)):=
 LS (QW h1 h2 hs) λ_ _ _ _ q=>RGs.cons q
theorem JH (i:Nat){x:Str}{ix:Expr}{g:M D}{px:Pos}(hi:PE X ix (RE X.K g))(hN:X.N[i]?=some x:=by rfl)(hv:Vis X.env.scope x:=by walk_at "h")(hd:(x == ("__debug__" : Str))=false:=by decide)
 (hcd:(x == ("__classdict__" : Str))=false:=by decide)
 (ha:∀v,assign (.Subscript (.Name x px) ix pos) X.env v=(do
   let ov <-holding [v] (eval (.Name x px) X.env)
   let iv <-holding [v,ov] (eval ix X.env)
   standAt pos
   holding [v,ov,iv] (setItem ov iv v)
   release [v,ov,iv] []):=by intro _;rfl):PG X (.Subscript (.Name x px) ix pos) (RG X.K (D9 i g)):=
 Gc (Lg (Ec hN hv hd hcd) hi Lv ha) λv σ H Q z9=>by
  obtain ⟨Oo,c,t,d,fi,rv,t',eq,k⟩:=z9;unfold D9 at eq
  split at eq
  ·next xs0 e0=>
   obtain ⟨j,t1,e1,eq⟩:=Af eq;obtain ⟨a,vs0,h1,h2,h3,h4,h5⟩:=fi.own i xs0 e0;refine ⟨.ref a,h1,Oo,c,t,fi,j,t1,e1,λy H1 c1 f1 s1 ry=>?_⟩
   split at eq
   ·next j' xs ex=>
    obtain ⟨n,en,ez⟩:=Option.map_eq_some_iff.mp eq
    cases ez
    cases ry
    obtain ⟨a',vs,g1,g2,g3,g4,g5⟩:=f1.own i xs ex;rw [h1] at g1;injection g1 with g1;injection g1 with g1;injection g1 with g1;subst g1
    refine ⟨a,vs,j',n,rfl,rfl,g4,by rw [g5.length];exact en,?_⟩;obtain ⟨f2,s2⟩:=f1.wrOwn ex h1 (Reps.set (rv.mono s1.ext) n g5);exact k σ _ c1 f2 (s1.trans s2)
   ·cases eq
  ·cases eq
end
variable {x:Str}
section
variable {K:PySem.W.Frag}
def Sn (K:PySem.W.Frag):R2:=λx y H Q=>Nq K x y H Q\/So x y H Q
theorem T5 {X:Cx}:OpR X (binaryOp .Mult) (Sn X.K):=op_mul3.or T6
theorem LO {k:Int}(h:BL k=true/\x.length * k.toNat<=LIM/\k<=LIM/\x.length<=LIM):MulOk x k:=by
 obtain ⟨g1,g2⟩:=Ed h.1;have hL:LIM=100000:=rfl;refine ⟨?_,λh1 _=>?_,λh1 _=>?_⟩
 ·rw [Bool.or_eq_false_iff];exact ⟨decide_eq_false (by lia),decide_eq_false (by lia)⟩
 ·have h2:k<=100000:=by have:=h.2.2.1;rw [hL] at this;exact this
  have h3:x.length<=100000:=by have:=h.2.2.2;rw [hL] at this;exact this
  have h4:(92233720368547:Int)<=(2 ^ 63 - 1) / k:=by
   rw [Int.le_ediv_iff_mul_le (by lia)];lia
  lia
 ·have h5:=h.2.1;rw [hL] at h5;unfold Builtin.Str.tooLong
  first | exact decide_eq_false (by unfold sizeLine;lia) | (unfold sizeLine;exact decide_eq_false (by lia))
theorem Rh:AR K (Sn K) ER:=λ{Oo c t σ H x y dx dy r t' Q} f rx ry eq k=>by
 unfold ER at eq
 split at eq
 ·next z kk=>
  split at eq
  ·next h=>
   cases eq
   cases rx
   cases ry
   exact .inr ⟨z,kk,rfl,rfl,LO h,k _ H c f .refl (.str _)⟩
  ·cases eq
 ·exact .inl (UH f rx ry eq k)
def WX (K:PySem.W.Frag):V->Option Int->Option Int->Hp->VK->Prop:=λx lo hi H Q=>Q6 K x lo hi H Q\/(WZ x lo hi H Q\/W1 K x lo hi H Q)
theorem sl3 {X:Cx}:SlR X (WX X.K):=sl2.or (sl_str.or UQ)
theorem MW {α:Type}{xs:List α}{lo hi:Option Int}(h:HT.sIx xs.length 0 lo=0/\HT.sIx xs.length xs.length hi=xs.length):A7 xs lo hi=xs:=by
 unfold A7;rw [h.1,h.2];simp
theorem UL:P1 K (WX K) Bf:=λ{Oo c t σ H x dx r lo hi t' Q} f rx eq k=>by
 unfold Bf at eq
 split at eq
 ·next z=>
  obtain ⟨h,e⟩:=CQ eq
  cases e
  cases rx
  exact .inr (.inl ⟨z,rfl,Nat.le_trans h BR,k _ H c f .refl (.str _)⟩)
 ·next ds=>
  cases eq
  cases rx with
  | @tup p vs ds h1 h2 h3=>
    by_cases hw:HT.sIx ds.length 0 lo=0/\HT.sIx ds.length ds.length hi=ds.length
    ·rw [MW hw] at k;exact .inr (.inr ⟨p,vs,rfl,SqT.of h1,by rw [h3.length];exact hw,k _ H c f .refl (.tup h1 h2 h3)⟩)
    ·exact .inl (.inr ⟨p,vs,rfl,SqT.of h1,by rw [h3.length];exact hw,λq hq=>k _ _ c (f.laid hq) (f.stp_laid hq) (.tup Aw (f.s.free hq) ((HI h3 lo hi).mono (Ext.laid f.s hq)))⟩)
 ·exact .inl (W8 f rx eq k)
theorem Hf {g:Int->Int->Bool}{h:List Nat->List Nat->Bool}:AR K (FX g h) (KA g h):=λ{Oo c t σ H x y dx dy r t' Q} f rx ry eq k=>by
 cases rx with
 | int i=>cases ry with
   | int j=>cases eq;exact .inl ⟨i,j,rfl,rfl,k _ H c f .refl (.bl _)⟩
   | _=>cases eq
 | str i=>cases ry with
   | str j=>cases eq;exact .inr ⟨i,j,rfl,rfl,k _ H c f .refl (.bl _)⟩
   | _=>cases eq
 | _=>cases eq
theorem Jr:AR K (FX (λi j=>decide (i < j)) λi j=>decide (i < j)) ltA:=Hf
theorem D5:AR K (FX (λi j=>decide (i<=j)) λi j=>!(decide (j < i))) leA:=Hf
theorem MA:AR K (FX (λi j=>decide (j < i)) λi j=>decide (j < i)) gtA:=Hf
theorem UB:AR K (FX (λi j=>decide (j<=i)) λi j=>!(decide (i < j))) geA:=Hf
end
variable {fa:Addr}{fd:FuncData}
theorem VO {P:Program}{w:World}{mg:Str->Option Value}{base:Heap}{qual:Str}{st:Stmt}{N ps:List Str}{k m:Nat}{g:M Out}(e1:ps.length=n)(e2:N.length=m)(F:Fun K x qual st fa fd)(S:FnScope N ps (Ax st))
 (hb:∀(cdv:Value) (A:Around) (outer:List Env) (s:Shared) (H:Hp) (E:XK),Room k (A.deeper (PyProof.Rows.envOfC qual (Ax st) s.heap.objs.size fa cdv))->
   PSs (DP CX0 P w K mg base N qual (Ax st) fa cdv A outer s H E).nox (Bk st) (RS K g)):FnOk P w K mg base CX0 (k + 1) fa fd ps (spF K (fnOf n m g)):=by
 subst e1 e2;exact XC F S hb
theorem W3 {P:Program}{w:World}{mg:Str->Option Value}{base:Heap}{ps:List Str}{k:Nat}{f g:Fn}(e:f=g)(h:FnOk P w K mg base CX0 k fa fd ps (spF K g)):FnOk P w K mg base CX0 k fa fd ps (spF K f):=by rw [e];exact h
theorem Vm:bootBuiltins "len" = some (.builtin "len"):=by decide +kernel
theorem B2:bootBuiltins "isinstance" = some (.builtin "isinstance"):=by decide +kernel
theorem Vo:bootBuiltins "ord" = some (.builtin "ord"):=by decide +kernel
theorem Vn:bootBuiltins "min" = some (.builtin "min"):=by decide +kernel
theorem NY:bootBuiltins "int" = some (.type "int"):=by decide +kernel
theorem Vp:bootBuiltins "str" = some (.type "str"):=by decide +kernel
theorem SJ:bootBuiltins "bool" = some (.type "bool"):=by decide +kernel
theorem LV:bootBuiltins "list" = some (.type "list"):=by decide +kernel
theorem Kr:bootBuiltins "tuple" = some (.type "tuple"):=by decide +kernel
noncomputable def AO:Expr->Bool
 | .Starred _ _=>true
 | _=>false
theorem AE {e:Expr}{env:Env}(h:AO e=false):starEach (e :: es) env=(false,eval e env) :: starEach es env:=by
 cases e <;> first | rfl | cases h
def Bb (es:List Expr):Bool:=es.all λe=>!AO e
theorem AQ:∀{es:List Expr} {env:Env} {p:Pos},Bb es=true->(backTo p (starEach es env)).any (·.1)=false/\(backTo p (starEach es env)).all (λx=>!x.1)=true
 | [],env,p,_=>⟨rfl,rfl⟩
 | e :: es,env,p,h=>by
   have h':AO e=false/\Bb es=true:=by
    rw [Bb,List.all_cons,Bool.and_eq_true] at h;exact ⟨by simpa using h.1,h.2⟩
   obtain ⟨h1,h2⟩:=AQ (es:=es) (env:=env) (p:=p) h'.2;rw [AE h'.1];refine ⟨?_,?_⟩
   ·show (false || (backTo p (starEach es env)).any (·.1))=false;rw [h1];rfl
   ·show (!false && (backTo p (starEach es env)).all (λx=>!x.1))=true;rw [h2];rfl
variable {f:M (List D)}{p:Pos}{id:String}{R:List V->Hp->VK->Prop}
section
variable {X:Cx}{e a b:Expr}{es:List Expr}{pos:Pos}
theorem KF {f:M D}{g:M (List D)}(ha:PE X e (RE X.K f))(hr:PA X es (RA X.K g))(hs:AO e=false:=by rfl):PA X (e :: es) (RA X.K (Aa f g)):=SR ha hr (AE hs)
theorem Ql {k:Nat}{ps:List Str}{g:Fn}(F:FnOk X.prog X.w X.K X.mg X.base CX0 k fa fd ps (spF X.K g))(hr:Room k X.A)(hg:Gl X x)(hm:X.mg x=some (.ref fa))(hk:PySem.W.keepIn X.K (.ref fa)=true)(hb:Binds X.K fd ps [])
 (ha:PA X (e :: es) (RA X.K f)) (hdb:(x == ("__debug__" : Str))=false:=by decide) (h1:AO e=false:=by rfl) (h2:Bb es=true:=by rfl) :
 PE X (.Call (.Name x p) (e :: es) [] pos) (RE X.K (Ag g f)):=ST F hr hg hm hk hb ha hdb (AE h1) (AQ h2).1
theorem GY {h:List D->M D}(hc:BY X (.builtin id) R)(s:DM X.K R h)(hg:Gl X x)(hm:X.mg x=none)(hv:bootBuiltins x=some (.builtin id))(ha:PA X (e :: es) (RA X.K f))(hn:x≠"__name__":=by decide)(hdb:(x == ("__debug__" : Str))=false:=by decide)
 (h1:AO e=false:=by rfl) (h2:Bb es=true:=by rfl):PE X (.Call (.Name x p) (e :: es) [] pos) (RE X.K (fB f h)):=Y1 hc s hg hm hv ha hn hdb (AE h1) (AQ h2).1
theorem RZ {h:List D->M D}(hc:BY X (.type id) R)(s:DM X.K R h)(hg:Gl X x)(hm:X.mg x=none)(hv:bootBuiltins x=some (.type id))(ha:PA X (e :: es) (RA X.K f))(hn:x≠"__name__":=by decide)(hdb:(x == ("__debug__" : Str))=false:=by decide)
 (h1:AO e=false:=by rfl) (h2:Bb es=true:=by rfl):PE X (.Call (.Name x p) (e :: es) [] pos) (RE X.K (fB f h)):=Y2 hc s hg hm hv ha hn hdb (AE h1) (AQ h2).1
theorem Xz {h:List D->M (List D)}(hc:BY X (.type id) R)(s:JZ X.K R h)(hg:Gl X x)(hm:X.mg x=none)(hv:bootBuiltins x=some (.type id))(ha:PA X (e :: es) (RA X.K f))(hn:x≠"__name__":=by decide)(hdb:(x == ("__debug__" : Str))=false:=by decide)
 (h1:AO e=false:=by rfl) (h2:Bb es=true:=by rfl):PE X (.Call (.Name x p) (e :: es) [] pos) (RF X.K (fBF f h)):=Y3 hc s hg hm hv ha hn hdb (AE h1) (AQ h2).1
theorem M3 (hg:Gl X "range")(hm:X.mg "range" = none)(ha:PA X [a] (RA X.K f))(h1:AO a=false:=by rfl):PI X tg (.Call (.Name "range" p) [a] [] pos) (RI X.K (BZ f)):=On hg hm ha (AE h1)
theorem M4 (hg:Gl X "range")(hm:X.mg "range" = none)(ha:PA X [a,b] (RA X.K f))(h1:AO a=false:=by rfl)(h2:AO b=false:=by rfl):PI X tg (.Call (.Name "range" p) [a,b] [] pos) (RI X.K (E7 f)):=
 Op hg hm ha (by rw [AE h1,AE h2];rfl) (AE h2)
theorem Ol {cpos:Pos}(h1:AO e=false)(h2:Bb es=true)(h3:es.length < 20):((backTo cpos (starEach (e :: es) X.env)).all (λx=>!x.1) && (backToKw cpos (keywordEach [] X.env)).all (λx=>x.1.isSome) && decide ((e :: es).length + ([]:List Keyword).length + (if ([]:List Keyword).isEmpty then 0 else 1) < 30))=true:=by
 rw [(AQ (es:=e :: es) (env:=X.env) (p:=cpos) (by rw [Bb,List.all_cons,h1];exact h2)).2];show (true && true && decide (es.length + 1 + 0 + 0 < 30))=true;simp;lia
theorem M5 {μ:Cf->Hp->D->(V->Hp->Prop)->Prop}(i:Nat){x:Str}{g:M (List D)}{px apos cpos:Pos}(ha:PA X (e :: es) (RA X.K g))(hN:X.N[i]?=some x:=by rfl)(hv:Vis X.env.scope x:=by walk_at "h")(hd:(x == ("__debug__" : Str))=false:=by decide)
 (hcd:(x == ("__classdict__" : Str))=false:=by decide) (hline:(apos.endLine == cpos.line)=true:=by rfl) (h1:AO e=false:=by rfl) (h2:Bb es=true:=by rfl) (h3:es.length < 20:=by decide) :
 PS X (.Expr (.Call (.Attribute (.Name x px) "append" apos) (e :: es) [] cpos) pos) (RSg X.K μ (ownM i B1 g)):=Os i ha hN hv hd hcd rfl (Ol h1 h2 h3) hline (AE h1) (AQ h2).1
theorem M6 {μ:Cf->Hp->D->(V->Hp->Prop)->Prop}(i:Nat){x:Str}{g:M (List D)}{px apos cpos:Pos}(ha:PA X (e :: es) (RA X.K g))(hN:X.N[i]?=some x:=by rfl)(hv:Vis X.env.scope x:=by walk_at "h")(hd:(x == ("__debug__" : Str))=false:=by decide)
 (hcd:(x == ("__classdict__" : Str))=false:=by decide) (hline:(apos.endLine == cpos.line)=true:=by rfl) (h1:AO e=false:=by rfl) (h2:Bb es=true:=by rfl) (h3:es.length < 20:=by decide) :
 PS X (.Expr (.Call (.Attribute (.Name x px) "extend" apos) (e :: es) [] cpos) pos) (RSg X.K μ (ownM i Eg g)):=Ot i ha hN hv hd hcd rfl (Ol h1 h2 h3) hline (AE h1) (AQ h2).1
end
end F2
namespace HT
open PySem PySem.Spec L2 PyProof.Rows
section
variable {prog:Program}{w:World}{A:Around}{E:Value->Shared->Prop}{s:Shared}
end
end HT
namespace L2
open PySem PySem.Spec PyProof.Rows
section
variable {X:Cx}{e ek:Expr}{p2 pos:Pos}{te:TE}{tk:TO}
end
section
variable {X:Cx}
theorem Gj:∀{ys:List Str} {us:List Value},Vals (ys.map V.str) us->CarriedAll us (ys.map PyData.str)
 | [],_,r=>by cases r;exact .nil
 | _ :: _,_,r=>by
   cases r with
   | cons r1 r2=>obtain ⟨t,rfl⟩:=r1;exact .cons (.str _ _) (Gj r2)
def Sm (K:PySem.W.Frag):V->List V->Hp->VK->Prop:=λx xs H Q=>∃z a ys,x = .str z/\xs=[.ref a]/\SqL K H a (ys.map V.str)/\(∀y∈ys,y.length<=8)/\z.length<=8/\ys.length<=1048576/\Q (.str (Txt.join z ys)) H
theorem TQ:MtR X "str.join" (Sm X.K):=by
 intro pins s σ H x xs v us Q I rx rs h;obtain ⟨z,a,ys,rfl,rfl,ha,h1,h2,h3,q⟩:=h;obtain ⟨t,rfl⟩:=rx;obtain ⟨u,rfl,ru⟩:=F5 rs
 cases ru
 obtain ⟨its,r,pl,_⟩:=I.list ha;refine join_madeW (l:=ys) (g:=id) 8 pl.isList (by rw [List.map_id];exact Gj r) h1 h3 (by lia) λt' k=>?_;rw [List.map_id];exact ⟨.str _,H,I.tok _,⟨_,rfl⟩,q⟩
end
section
variable {X:Cx}
end
section
variable {X:Cx}
end
end L2
namespace F2
open PySem L2 PySem.Spec
section
variable {X:Cx}{K:PySem.W.Frag}
noncomputable def E1:List D->Option (List Str)
 | []=>some []
 | .str x :: r=>if x.length<=8 then (E1 r).map (x :: ·) else none
 | _=>none
def joinM (f:M D)(g:M (List D)):M D:=bnd f λo=>bnd g λas=>match o,as with
 | .str z,[.lst ds]=>λt=>match E1 ds with
   | some ys=>if z.length<=8/\ys.length<=1048576 then some (.str (Txt.join z ys),t) else none
   | none=>none
 | _,_=>fail
theorem Ly {c:Cf}{H:Hp}:∀{ds:List D} {vs:List V} {ys:List Str},Reps K c H vs ds->E1 ds=some ys->vs=ys.map V.str/\∀y∈ys,y.length<=8
 | [],_,ys,r,e=>by
   cases r
   cases e
   exact ⟨rfl,λ_ h=>nomatch h⟩
 | d :: ds,_,ys,r,e=>by
   cases r with
   | cons r1 r2=>
     cases r1 with
     | str x=>
       unfold E1 at e
       split at e
       ·next hx=>
        obtain ⟨zs,e1,rfl⟩:=Option.map_eq_some_iff.mp e;obtain ⟨h1,h2⟩:=Ly r2 e1;refine ⟨by rw [h1];rfl,λy hy=>?_⟩;rcases List.mem_cons.mp hy with rfl | hy
        ·exact hx
        ·exact h2 y hy
       ·cases e
     | _=>cases e
theorem RE.joinM {f:M D}{g:M (List D)}{σ:L2.St}{H:Hp}{Q:VK}(q:RE K (F2.joinM f g) σ H Q):tBM K "str" (Sm K) (RE K f) (RA K g) σ H Q:=by
 obtain ⟨Oo,c,t,fi,r,t',eq,k⟩:=q;obtain ⟨d,t1,e1,eq⟩:=Af eq;obtain ⟨as,t2,e2,eq⟩:=Af eq;refine ⟨Oo,c,t,fi,d,t1,e1,λv H1 c1 f1 s1 rv=>?_⟩
 split at eq
 ·next z ds=>
  cases rv
  refine ⟨rfl,Oo,c1,t1,f1,_,t2,e2,λus H2 c2 f2 s2 rus=>?_⟩;obtain ⟨w,rfl,rw'⟩:=Ev rus
  split at eq
  ·next ys ey=>
   split at eq
   ·next hz=>
    cases eq
    cases rw' with
    | @lst p vs ds h1 h2 h3=>
      obtain ⟨h4,h5⟩:=Ly h3 ey;subst h4;exact ⟨_,p,ys,rfl,rfl,SqL.of h1,h5,hz.1,hz.2,k _ _ c2 f2 (s1.trans s2) (.str _)⟩
   ·cases eq
  ·cases eq
 ·cases eq
theorem SY {o e:Expr}{es:List Expr}{f:M D}{g:M (List D)}{apos cpos:Pos}(ho:PE X o (RE X.K f))(ha:PA X (e :: es) (RA X.K g))
 (hbase:attributeBase o "join" X.env (eval o X.env)=eval o X.env:=by rfl)
 (hfew:((backTo cpos (starEach (e :: es) X.env)).all (λx=>!x.1) && (backToKw cpos (keywordEach [] X.env)).all (λx=>x.1.isSome) && decide ((e :: es).length + ([]:List Keyword).length + (if ([]:List Keyword).isEmpty then 0 else 1) < 30))=true:=by rfl)
 (hline:(apos.endLine == cpos.line)=true:=by rfl) (hs:starEach (e :: es) X.env=(false,eval e X.env) :: starEach es X.env:=by rfl) (hplain:(backTo cpos (starEach es X.env)).any (·.1)=false:=by rfl) :
 PE X (.Call (.Attribute o "join" apos) (e :: es) [] cpos) (RE X.K (joinM f g)):=
 AD (ID PySem.F.plainAttrs_str PySem.F.slot_str_join PySem.F.type_str_join TQ ho ha hbase hfew hline hs hplain) λ_ _ _ q=>RE.joinM q
end
end F2
namespace L2
open PySem PySem.Spec PyProof.Rows
def Pd:R2:=λx y H Q=>∃a kvs k v,x = .ref a/\y = .str k/\H a=some (.dK kvs)/\Em kvs (Sum.inr k:Key)=some v/\Q v H
def WP:V->V->V->Hp->(Hp->Prop)->Prop:=λo i v H Q=>∃a kvs k,o = .ref a/\i = .str k/\H a=some (.dK kvs)/\kvs.length < sizeLine/\Q (upd H a (.dK (C6 kvs (Sum.inr k:Key) v)))
section
variable {X:Cx}
theorem V1:IxR X Pd:=by
 intro value slice pins s σ H x y v u Q I rx ry h hs;obtain ⟨a,kvs,k,z,rfl,rfl,e,l,q⟩:=h
 cases rx
 obtain ⟨_,_,vs,rel,dd⟩:=GV I.hok e;have g:DGet H a (kV (Sum.inr k:Key)) (some z):=by rw [<-l];exact DGet.k e
 have hT:=dd.typeIs;unfold subscriptTail;refine wpAny_bind ?_;rw [getitemInPython_of_ne hT.not_modules];refine wpAny_bind (wpAny_specialOf hT PySem.F.slot_dict_getitem.lookup ?_);have get:wpAny (model X.prog X.w) X.A (getItem (.ref a) u) (EP X pins σ Q) X.xe s:=by
  obtain ⟨w',hw,rw'⟩:=RelO.some_of (v:=z) (o:=valueAt vs (Sum.inr k:Key)) (by rw [<-l];exact rel.val _);exact wpAny_getItem_of (M9 (k:=(Sum.inr k:Key)) ry) dd.mapOf hw ⟨z,H,I.tok _,rw',q⟩
 have fin:wpAny (model X.prog X.w) X.A (subscripted slice false (.ref a) u) (λr s₃=>wpAny (model X.prog X.w) X.A (letTemporaryGo value (.ref a) r >>= λ_=>pure r) (EP X pins σ Q) X.xe s₃) X.xe s:=by
  rw [hs];exact wpAny_operating (wpAny_mono get (λr s₃ h₃=>wpAny_bind (wpAny_letTemporaryGo (wpAny_pure h₃))) λ_ _ x=>x)
 first
  | exact wpAny_pure (wpAny_bind fin)
  | exact wpAny_bind (wpAny_pure (wpAny_bind fin))
  | exact wpAny_bind fin
theorem UO:P0 X WP:=by
 intro pins s σ H o i v ov iv u Q I ro ri rv h;obtain ⟨a,kvs,k,rfl,rfl,e,l,q⟩:=h
 cases ro
 obtain ⟨z,hd,vs,rel,dd⟩:=GV I.hok e;have hz:vs.length<=sizeLine:=by rw [<-rel.length];exact z
 have hl:(C6 kvs (Sum.inr k:Key) v).length<=sizeLine:=by have:=Hq kvs (Sum.inr k:Key) v;lia
 refine wpAny_setItem_pairs (hsz:=hz) (M9 (k:=(Sum.inr k:Key)) ri) dd λh' dd' hs=>⟨_,?_,q⟩;have he:∃q,h'.get? a=some q:=let ⟨q,_,_,hq,_⟩:=dd';⟨q,hq⟩;exact LY I (by rw [e];exact True.intro) hs he (N8 hl hd (rel.put _ rv) dd')
end
end L2
namespace F2
open PySem L2 PySem.Spec
noncomputable def BK (kvs:List (Key×D))(k:Key):Option D:=(kvs.find? λkv=>decide (kv.1=k)).map (·.2)
noncomputable def BA (kvs:List (Key×D))(k:Key)(d:D):List (Key×D):=
 if (kvs.any λkv=>decide (kv.1=k))=true then kvs.map (λkv=>if kv.1=k then (kv.1,d) else kv) else kvs++[(k,d)]
def BI:D->D->M D
 | .obj n,.str x=>λt=>match t.S[n]? with
   | some (.dct kvs)=>(BK kvs (.inr x)).map λd=>(d,t)
   | _=>none
 | _,_=>fail
def FA:D->D->D->M Unit
 | .obj n,.str x,d=>λt=>match t.S[n]? with
   | some (.dct kvs)=>if kvs.length < LIM then some ((),{ t with S:=t.S.set n (.dct (BA kvs (.inr x) d)) }) else none
   | _=>none
 | _,_,_=>fail
def FZ (f g:M D)(d:D):M Unit:=bnd f λo=>bnd g λi=>FA o i d
def Da:List (Str×M D)->M (List (Key×D))
 | []=>ret []
 | (k,f) :: r=>bnd f λd=>bnd (Da r) λps=>ret ((.inr k,d) :: ps)
def EA (ps:List (Key×D)):List (Key×D):=ps.foldl (λacc kv=>BA acc kv.1 kv.2) []
def GU (n:Nat)(ps:List (Key×D)):M D:=λt=>match t.S[n]? with
 | some (.dct [])=>if ps.length<=15 then some (.obj n,{ t with S:=t.S.set n (.dct (EA ps)) }) else none
 | _=>none
def FJ (l:List (Str×M D)):M D:=λt=>bnd (Da l) (GU t.S.length) { t with S:=t.S++[.dct []] }
def B6 (i:Nat)(g:M D):M D:=λt=>match t.env[i]? with
 | some (some (.own _))=>bnd g (λj t1=>match j,t1.env[i]? with
   | .int j,some (some (.own xs))=>(atI xs j).map λd=>(d,t1)
   | _,_=>none) t
 | _=>none
section
variable {K:PySem.W.Frag}{c:Cf}{H:Hp}
theorem KVR.get {us:List (Key×V)}{kvs:List (Key×D)}(r:KVR K c H us kvs)(k:Key){d:D}(e:BK kvs k=some d):∃v,Em us k=some v/\Rep K c H v d:=by
 unfold KVR at r
 induction r with
 | nil=>simp [BK] at e
 | @cons p q ps qs h t ih=>
   by_cases hk:p.1=k
   ·have hq:q.1=k:=h.1.symm.trans hk;have:BK (q :: qs) k=some q.2:=by simp [BK,List.find?_cons,hq]
    rw [this] at e;cases e
    exact ⟨p.2,LF hk,h.2⟩
   ·have hq:¬q.1=k:=λz=>hk (h.1.trans z);have:BK (q :: qs) k=BK qs k:=by simp [BK,List.find?_cons,hq]
    rw [this] at e;rw [LD hk];exact ih e
theorem KVR.any {us:List (Key×V)}{kvs:List (Key×D)}(r:KVR K c H us kvs)(k:Key):(us.any λkv=>decide (kv.1=k))=(kvs.any λkv=>decide (kv.1=k)):=by
 unfold KVR at r
 induction r with
 | nil=>rfl
 | @cons p q ps qs h t ih=>rw [List.any_cons,List.any_cons,ih,h.1]
theorem KVR.put {us:List (Key×V)}{kvs:List (Key×D)}(r:KVR K c H us kvs)(k:Key){v:V}{d:D}(rv:Rep K c H v d):KVR K c H (C6 us k v) (BA kvs k d):=by
 unfold C6 BA;rw [r.any k]
 by_cases q:(kvs.any λkv=>decide (kv.1=k))=true
 ·rw [if_pos q,if_pos q];clear q;unfold KVR at r ⊢
  induction r with
  | nil=>exact .nil
  | @cons p q ps qs h t ih=>
    rw [List.map_cons,List.map_cons];refine .cons ?_ ih
    by_cases e:p.1=k
    ·rw [if_pos e,if_pos (h.1.symm.trans e)];exact ⟨h.1,rv⟩
    ·rw [if_neg e,if_neg (λz=>e (h.1.trans z))];exact h
 ·rw [if_neg q,if_neg q];exact Paired.snoc r ⟨rfl,rv⟩
theorem KVR.length {us:List (Key×V)}{kvs:List (Key×D)}(r:KVR K c H us kvs):us.length=kvs.length:=Paired.length r
theorem KVR.mono {c':Cf}{H':Hp}{us:List (Key×V)}{kvs:List (Key×D)}(e:Ext c H c' H')(r:KVR K c H us kvs):KVR K c' H' us kvs:=Paired.mapP r λ_ _ z=>⟨z.1,z.2.mono e⟩
theorem KVR.merge:∀{ps:List (Key×D)} {us:List (Key×V)} {acc:List (Key×D)} {ua:List (Key×V)},KVR K c H us ps->KVR K c H ua acc->KVR K c H (EQ ua us) (ps.foldl (λacc kv=>BA acc kv.1 kv.2) acc):=by
 intro ps us acc ua r;unfold KVR at r
 induction r generalizing acc ua with
 | nil=>intro q;exact q
 | @cons p q ps qs h t ih=>
   intro r0;refine ih ?_;show KVR K c H (C6 ua p.1 p.2) (BA acc q.1 q.2);have:=KVR.put r0 p.1 h.2;rw [<-h.1];exact this
theorem Po:AR K Pd BI:=λ{Oo c t σ H x y dx dy r t' Q} f rx ry eq k=>by
 unfold BI at eq
 split at eq
 ·next n z=>
  cases ry
  cases rx with
  | @obj a kk hk=>
    split at eq
    ·next kvs es=>
     obtain ⟨d,e1,e2⟩:=Option.map_eq_some_iff.mp eq
     cases e2
     obtain ⟨us,g1,g2⟩:=f.s.obs _ a _ hk es;obtain ⟨v,e3,e4⟩:=g2.get _ e1;exact ⟨a,us,z,v,rfl,rfl,g1,e3,k _ H c f .refl e4⟩
    ·cases eq
 ·cases eq
end
section
variable {X:Cx}{pos:Pos}{e:Expr}
theorem Om {o i:Expr}{f g:M D}(ho:PE X o (RE X.K f))(hi:PE X i (RE X.K g))
 (ha:∀v,assign (.Subscript o i pos) X.env v=(do
   let ov <-holding [v] (eval o X.env)
   let iv <-holding [v,ov] (eval i X.env)
   standAt pos
   holding [v,ov,iv] (setItem ov iv v)
   release [v,ov,iv] []):=by intro _;rfl):PG X (.Subscript o i pos) (RG X.K (FZ f g)):=
 Gc (Lg ho hi UO ha) λv σ H Q z9=>by
  obtain ⟨Oo,c,t,d,fi,rv,t',eq,k⟩:=z9;obtain ⟨d0,t1,e1,eq⟩:=Af eq;obtain ⟨di,t2,e2,eq⟩:=Af eq;refine ⟨Oo,c,t,fi,_,t1,e1,λx H1 c1 f1 s1 rx=>⟨Oo,c1,t1,f1,di,t2,e2,λy H2 c2 f2 s2 ry=>?_⟩⟩;unfold FA at eq
  split at eq
  ·next n z dd=>
   cases ry
   cases rx with
   | @obj a kk hk=>
     split at eq
     ·next kvs es=>
      split at eq
      ·next hl=>
       cases eq
       have hk2:=s2.ext.io _ _ hk;obtain ⟨us,g1,g2⟩:=f2.s.obs _ a _ hk2 es;refine ⟨a,us,z,rfl,rfl,g1,by rw [g2.length];exact Nat.lt_trans hl Vd,?_⟩;have rv2:=rv.mono (s1.trans s2).ext;obtain ⟨f3,s3⟩:=f2.wrObj (o:=.dct (BA kvs (.inr z) d)) (u:=.dK (C6 us (.inr z) v)) hk2 λc' H' ext hu=>⟨_,hu,(g2.put _ rv2).mono ext⟩;exact k σ _ c2 f3 ((s1.trans s2).trans s3)
      ·cases eq
     ·cases eq
  ·cases eq
def RP (K:PySem.W.Frag)(f:M (List (Key×D)))(σ:St)(H:Hp)(Q:List (V×V)->Hp->Prop):Prop:=
 ∃Oo c t,FInv K Oo c t σ H/\∃ps t',f t=some (ps,t')/\∀us H' c',FInv K Oo c' t' σ H'->Stp Oo c H c' H'->KVR K c' H' us ps->Q (us.map λkv=>(kV kv.1,kv.2)) H'
def PPf (X:Cx)(pos:Pos)(keys:List (Option Expr))(values:List Expr)(f:M (List (Key×D))):Prop:=
 ∃trs,PPs X pos keys values trs/\∀σ H Q,RP X.K f σ H Q->IM trs σ H Q
theorem Tj:PPf X pos [] [] (Da []):=⟨[],Um,λσ H Q z9=>by
 obtain ⟨Oo,c,t,fi,ps,t',eq,k⟩:=z9
 cases eq
 exact k [] H c fi .refl .nil⟩
theorem Qr {k:Str}{j:Nat}{kp:Pos}{v:Expr}{ks:List (Option Expr)}{vs:List Expr}{f:M D}{r:List (Str×M D)}(hv:PE X v (RE X.K f))(hr:PPf X pos ks vs (Da r)) :
 PPf X pos (some (.Constant (.str k) j kp) :: ks) (v :: vs) (Da ((k,f) :: r)):=by
 obtain ⟨trs,h1,h2⟩:=hr;refine ⟨_,QZ O4 hv h1,λσ H Q z9=>?_⟩;obtain ⟨Oo,c,t,fi,ps,t',eq,kk⟩:=z9;obtain ⟨d,t1,e1,eq⟩:=Af eq;obtain ⟨qs,t2,e2,eq⟩:=Af eq
 cases eq
 refine ⟨Oo,c,t,fi,d,t1,e1,λy H1 c1 f1 s1 ry=>?_⟩;refine h2 σ H1 _ ⟨Oo,c1,t1,f1,qs,_,e2,λus H2 c2 f2 s2 ru=>?_⟩;exact kk ((.inr k,y) :: us) H2 c2 f2 (s1.trans s2) (.cons ⟨rfl,ry.mono s2.ext⟩ ru)
theorem SU {keys:List (Option Expr)}{values:List Expr}{l:List (Str×M D)}(h:PPf X pos keys values (Da l))(hall:keys.all (·.isSome)=true:=by rfl)(hl:keys.length=values.length:=by rfl)(h0:keys≠[]:=by exact List.cons_ne_nil _ _)
 (h15:keys.length<=15:=by exact Nat.le_of_ble_eq_true rfl):PE X (.Dict keys values pos) (RE X.K (FJ l)):=by
 obtain ⟨trs,h1,h2⟩:=h;refine AD (Ud h1 hall hl h0 h15) λσ H Q z9=>?_;obtain ⟨Oo,c,t,fi,r,t',eq,k⟩:=z9;intro p hp;obtain ⟨c1,f1,s1,e1⟩:=fi.newObj (o:=.dct []) (u:=.dK []) hp λc' H' ex hu=>⟨[],hu,.nil⟩;obtain ⟨ps,t2,e2,eq⟩:=Af eq;refine h2 σ _ _ ⟨Oo,c1,_,f1,ps,t2,e2,λus H2 c2 f2 s2 ru=>?_⟩;unfold GU at eq
 split at eq
 ·next es=>
  split at eq
  ·next hl15=>
   cases eq
   have hk2:=s2.ext.io _ _ e1;obtain ⟨u0,g1,g2⟩:=f2.s.obs _ p _ hk2 es
   cases g2
   refine ⟨g1,us,rfl,by rw [ru.length];exact hl15,?_⟩;obtain ⟨f3,s3⟩:=f2.wrObj (o:=.dct (EA ps)) (u:=.dK (EQ [] us)) hk2 λc' H' ext hu=>⟨_,hu,(KVR.merge ru .nil).mono ext⟩;exact k _ _ c2 f3 (s1.trans (s2.trans s3)) (.obj hk2)
  ·cases eq
 ·cases eq
theorem KH (i:Nat){x:Str}{ix:Expr}{g:M D}{px:Pos}(hi:PE X ix (RE X.K g))(hs:IP ix)(hN:X.N[i]?=some x:=by rfl)(hv:Vis X.env.scope x:=by walk_at "h")(hd:(x == ("__debug__" : Str))=false:=by decide)
 (hcd:(x == ("__classdict__" : Str))=false:=by decide):PE X (.Subscript (.Name x px) ix pos) (RE X.K (B6 i g)):=
 AD (Sc ix_list (Ec hN hv hd hcd) hi hs) λσ H Q z9=>by
  obtain ⟨Oo,c,t,fi,r,t',eq,k⟩:=z9;unfold B6 at eq
  split at eq
  ·next xs0 e0=>
   obtain ⟨j,t1,e1,eq⟩:=Af eq;obtain ⟨a,vs0,h1,h2,h3,h4,h5⟩:=fi.own i xs0 e0;refine ⟨.ref a,h1,Oo,c,t,fi,j,t1,e1,λy H1 c1 f1 s1 ry=>?_⟩
   split at eq
   ·next j' xs ex=>
    obtain ⟨d,en,ez⟩:=Option.map_eq_some_iff.mp eq
    cases ez
    cases ry
    obtain ⟨a',vs,g1,g2,g3,g4,g5⟩:=f1.own i xs ex;rw [h1] at g1;injection g1 with g1;injection g1 with g1;injection g1 with g1;subst g1
    obtain ⟨v,e3,e4⟩:=FF g5 en;exact ⟨a,vs,j',v,rfl,rfl,SqL.of g4,e3,k _ H1 c1 f1 s1 e4⟩
   ·cases eq
  ·cases eq
end
end F2
namespace L2
open PySem PySem.Spec PyProof.Rows
section
variable {X:Cx}
end
end L2
namespace F2
open PySem L2 PySem.Spec
section
variable {X:Cx}{pos:Pos}{e:Expr}{es:List Expr}
end
end F2
namespace L2
open PySem PySem.Spec PyProof.Rows
section
variable {prog:Program}{w:World}{A:Around}{I:Addr}{fp wr:List Addr}{G:Array GenState->Array GenState->Prop}{n:Nat}{P:Nat->Value->Prop}{St:Nat->Shared->Prop}
end
section
variable {X:Cx}
end
end L2
namespace F2
open PySem L2 PySem.Spec PyProof.Rows
section
variable {X:Cx}{pos:Pos}{e:Expr}
end
end F2
namespace F2
open PySem L2 PySem.Spec
noncomputable def Cz (f:M Bool)(b:M Out):Nat->M Out
 | 0=>λ_=>none
 | n + 1=>λt=>match f t with
   | none=>none
   | some (false,t1)=>some (.next,t1)
   | some (true,t1)=>match b t1 with
     | some (.next,t2)=>Cz f b n t2
     | some (.cont,t2)=>Cz f b n t2
     | some (.brk,t2)=>some (.next,t2)
     | some (.ret x,t2)=>some (.ret x,t2)
     | none=>none
def J0:Nat:=1000000
def LI (f:M Bool)(b:M Out):M Out:=Cz f b J0
theorem RS.while {μ:Cf->Hp->D->(V->Hp->Prop)->Prop}{K:PySem.W.Frag}{f:M Bool}{b:M Out}{E:Ends}{σ:L2.St}{H:Hp}(q:RSg K μ (LI f b) E σ H):Py (RT K f) (RSg K μ b) E σ H:=by
 obtain ⟨Oo,c,t,fi,o,t',eq,k⟩:=q;refine ⟨λm σ' H'=>∃c' t2,FInv K Oo c' t2 σ' H'/\Stp Oo c H c' H'/\Cz f b m t2=some (o,t'),⟨J0,c,t,fi,.refl,eq⟩,?_⟩;rintro m σ' H' ⟨c',t2,f2,s2,e2⟩
 cases m with
 | zero=>cases e2
 | succ m=>
 rw [Cz] at e2;dsimp only at e2
 cases ef:f t2 with
 | none=>rw [ef] at e2;cases e2
 | some p=>
 obtain ⟨r,t3⟩:=p;rw [ef] at e2;refine ⟨Oo,c',t2,f2,r,t3,ef,λH3 c3 f3 s3=>?_⟩
 cases r with
 | false=>
   cases e2
   exact k σ' H3 c3 f3 (s2.trans s3)
 | true=>
   rw [if_pos rfl];dsimp only at e2;refine ⟨λσ4 H4=>∃c4 t4,FInv K Oo c4 t4 σ4 H4/\Stp Oo c H c4 H4/\Cz f b m t4=some (o,t'),λσ4 H4 h=>⟨m,Nat.lt_succ_self m,h⟩,?_⟩
   cases eb:b t3 with
   | none=>rw [eb] at e2;cases e2
   | some p=>
   obtain ⟨ob,t4⟩:=p;rw [eb] at e2;refine ⟨Oo,c3,t3,f3,ob,t4,eb,λσ4 H4 c4 f4 s4=>?_⟩
   cases ob with
   | next=>exact ⟨c4,t4,f4,(s2.trans s3).trans s4,e2⟩
   | cont=>exact ⟨c4,t4,f4,(s2.trans s3).trans s4,e2⟩
   | brk=>
     cases e2
     exact k σ4 H4 c4 f4 ((s2.trans s3).trans s4)
   | ret x=>
     cases e2
     exact k σ4 H4 c4 f4 ((s2.trans s3).trans s4)
section
variable {X:Cx}{pos:Pos}
theorem Qt {μ:Cf->Hp->D->(V->Hp->Prop)->Prop}{e:Expr}{body:List Stmt}{f:M Bool}{b:M Out}(hp:PassesOwn (model X.prog X.w) X.A X.env X.xe)(hc:PT X e (RT X.K f))(hb:PSs X body (RSg X.K μ b)):PS X (.While e body [] pos) (RSg X.K μ (LI f b)):=
 A3 (Q1 hp hc hb) λ_ _ _ q=>RS.while q
end
end F2
namespace L2
open PySem PySem.Spec PyProof.Rows
end L2
namespace F2
open PySem L2 PySem.Spec
end F2
namespace L2
open PySem PySem.Spec PyProof.Rows
section
variable {X:Cx}{tg:Expr}
end
end L2
namespace F2
open PySem L2 PySem.Spec
section
variable {X:Cx}{pos:Pos}{e:Expr}{es:List Expr}
end
noncomputable def D1 (H:Hp)(a:Addr):Hp:=λb=>if b=a then none else H b
theorem QR {H:Hp}{a:Addr}{o:HO}(h:H a=some o):upd (D1 H a) a o=H:=by
 funext b
 by_cases e:b=a
 ·subst e;rw [Aw];exact h.symm
 ·rw [Al e];unfold D1;rw [if_neg e]
section
variable {K:PySem.W.Frag}{Oo:Addr->Prop}{c:Cf}{t:T}{σ:L2.St}{H:Hp}
theorem FInv.out (f:FInv K Oo c t σ H){i:Nat}{ds:List D}(e:t.env[i]?=some (some (.own ds))){a:Addr}(ha:σ[i]?=some (some (.ref a))) :
 FInv K Oo ⟨c.ι,λb=>c.O b/\b≠a⟩ { t with env:=t.env.set i none } σ (D1 H a)/\Stp Oo c H ⟨c.ι,λb=>c.O b/\b≠a⟩ (D1 H a):=by
 obtain ⟨a',vs,g1,g2,g3,g4,g5⟩:=f.own i ds e;rw [ha] at g1;injection g1 with g1;injection g1 with g1;injection g1 with g1;subst g1
 have ni:a∉c.ι:=f.s.dis a g2;have ext:Ext c H ⟨c.ι,λb=>c.O b/\b≠a⟩ (D1 H a):=by
  refine ⟨λb o hb hn=>?_,λb o hb z=>?_,λk b h=>h⟩
  ·unfold D1;rw [if_neg λz=>hn (by rw [z];exact .inr g2)];exact hb
  ·rcases z with z | z
   ·exact .inl z
   ·exact .inr z.1
 have stp:Stp Oo c H ⟨c.ι,λb=>c.O b/\b≠a⟩ (D1 H a):=⟨ext,λb hb=>by unfold D1;rw [if_neg λz=>g3 (by rw [<-z];exact hb)]⟩;have old:∀{j:Nat} {x:Sl},(t.env.set i none)[j]?=some (some x)->j≠i/\t.env[j]?=some (some x):=λ{j x} q=>by
  by_cases h:j=i
  ·subst h;rw [List.getElem?_set] at q
   split at q
   ·split at q <;> simp at q
   ·contradiction
  ·exact ⟨h,by rw [List.getElem?_set_ne (Ne.symm h)] at q;exact q⟩
 refine ⟨⟨⟨f.s.len,f.s.nd,λk b o e1 e2=>?_,λb hb=>?_,λb hb=>f.s.dis b hb.1⟩,by simpa using f.len,λb hb=>⟨f.sub b hb,λz=>g3 (by rw [<-z];exact hb)⟩,λj d q=>?_,λj es q=>?_,λj k es fs b q1 q2 q3 q4=>?_⟩,stp⟩
 ·refine (f.s.obs k b o e1 e2).mono ext ?_;unfold D1;rw [if_neg λz=>ni (by rw [<-z];exact List.mem_of_getElem? e1)]
 ·obtain ⟨o,ho⟩:=f.s.trk b hb.1;exact ⟨o,by unfold D1;rw [if_neg hb.2];exact ho⟩
 ·obtain ⟨v,h1,h2⟩:=f.val j d (old q).2;exact ⟨v,h1,h2.mono ext⟩
 ·obtain ⟨nj,q'⟩:=old q;obtain ⟨b,us,k1,k2,k3,k4,k5⟩:=f.own j es q';have nb:b≠a:=λz=>nj (f.inj j i es ds a q' e (by rw [k1,z]) ha);exact ⟨b,us,k1,⟨k2,nb⟩,k3,by unfold D1;rw [if_neg nb];exact k4,k5.mono ext⟩
 ·exact f.inj j k es fs b (old q1).2 (old q2).2 q3 q4
end
noncomputable def Fy (i:Nat):M Out:=λt=>match t.env[i]? with
 | some (some (.own xs))=>some (.ret (.lst xs),{ t with env:=t.env.set i none })
 | _=>none
def FY (f:M (List D)):M Out:=bnd f λds=>ret (.ret (.lst ds))
variable {g:Fn}{fa:Addr}{fd:FuncData}
section
variable {X:Cx}{pos:Pos}{e:Expr}{es:List Expr}
theorem Ma {f:M (List D)}(h:PE X e (RF X.K f)):PS X (.Return (some e) pos) (RSg X.K (μF X.K) (FY f)):=
 A3 (IE h) λE σ H z9=>by
  obtain ⟨Oo,c,t,fi,o,t',eq,k⟩:=z9;obtain ⟨ds,t1,e1,eq⟩:=Af eq
  cases eq
  exact ⟨Oo,c,t,fi,ds,_,e1,λp us H1 c1 f1 s1 ru hp=>k σ H1 c1 f1 s1 p us hp ru⟩
theorem Oy (i:Nat){x:Str}{px:Pos}(hN:X.N[i]?=some x:=by rfl)(hv:Vis X.env.scope x:=by walk_at "h")(hd:(x == ("__debug__" : Str))=false:=by decide)
 (hcd:(x == ("__classdict__" : Str))=false:=by decide):PS X (.Return (some (.Name x px)) pos) (RSg X.K (μF X.K) (Fy i)):=
 A3 (IE (Ec hN hv hd hcd)) λE σ H z9=>by
  obtain ⟨Oo,c,t,fi,o,t',eq,k⟩:=z9;unfold Fy at eq
  split at eq
  ·next xs ex=>
   cases eq
   obtain ⟨a,vs,h1,h2,h3,h4,h5⟩:=fi.own i xs ex;refine ⟨.ref a,h1,?_⟩;obtain ⟨f2,s2⟩:=fi.out ex h1;have:=k σ (D1 H a) _ f2 s2 a vs (by unfold D1;rw [if_pos rfl]) (h5.mono s2.ext);rw [QR h4] at this;exact this
  ·cases eq
inductive spFF (K:PySem.W.Frag)(f:Fn)(vs:List V)(H:Hp)(Q:VK)(E:XK):Prop where
 | mk (c:Cf) (ds:List D) (S:List Ob) (si:SInv K c S H) (rp:Reps K c H vs ds) (rs:List D) (S':List Ob) (e:f ds S=some (.lst rs,S')) (k:∀p us H' c',SInv K c' S' H'->Stp c.O c H c' H'->(∀b,c'.O b↔c.O b)->Reps K c' H' us rs->H' p=none->Q (.ref p) (upd H' p (.lst us))):spFF K f vs H Q E
def C9 (g:Fn)(f:M (List D)):M (List D):=bnd f λds t=>match g ds t.S with
 | some (.lst rs,S')=>some (rs,{ t with S:=S' })
 | _=>none
theorem MU {ds:List D}{t:T}{rs:List D}{t':T}(h:(match g ds t.S with | some (.lst rs,S')=>some (rs,{ t with S:=S' }) | _=>none:Option (List D×T))=some (rs,t')):∃S',g ds t.S=some (.lst rs,S')/\t' = { t with S:=S' }:=by
 split at h
 ·next rs' S' e=>cases h;exact ⟨S',e,rfl⟩
 ·cases h
theorem Qo {k:Nat}{ps:List Str}{f:M (List D)}{x:Str}{p:Pos}(F:FnOk X.prog X.w X.K X.mg X.base CX0 k fa fd ps (spFF X.K g))(hr:Room k X.A)(hg:Gl X x)(hm:X.mg x=some (.ref fa))(hk:PySem.W.keepIn X.K (.ref fa)=true)(hb:Binds X.K fd ps [])
 (ha:PA X (e :: es) (RA X.K f)) (hdb:(x == ("__debug__" : Str))=false:=by decide) (h1:AO e=false:=by rfl) (h2:Bb es=true:=by rfl) :
 PE X (.Call (.Name x p) (e :: es) [] pos) (RF X.K (C9 g f)):=
 AD (Mr F hr hg hm hk hb .nil Sb ha hdb (AE h1) (AQ h2).1) λσ H Q z9=>by
  obtain ⟨Oo,c,t,fi,rs,t',eq,kk⟩:=z9;obtain ⟨ds,t1,e1,eq⟩:=Af eq;obtain ⟨S',e2,rfl⟩:=MU eq;refine ⟨Oo,c,t,fi,ds,t1,e1,λvs H1 c1 f1 s1 rvs=>?_⟩;show spFF X.K g (vs++[]) H1 Q E0;rw [List.append_nil];refine ⟨c1,ds,t1.S,f1.s,rvs,rs,S',e2,λp us H' c' si st ho ru hp=>?_⟩;obtain ⟨f2,s2⟩:=f1.after si st ho;exact kk p us H' c' f2 (s1.trans s2) ru hp
end
theorem Tf {P:Program}{w:World}{K:PySem.W.Frag}{mg:Str->Option Value}{base:Heap}{x qual:Str}{st:Stmt}{N ps:List Str}{k n m:Nat}{g:M Out}(e1:ps.length=n)(e2:N.length=m)(F:Fun K x qual st fa fd)(S:FnScope N ps (Ax st))
 (hb:∀(cdv:Value) (A:Around) (outer:List Env) (s:Shared) (H:Hp) (E:XK),Room k (A.deeper (PyProof.Rows.envOfC qual (Ax st) s.heap.objs.size fa cdv))->
   PSs (DP CX0 P w K mg base N qual (Ax st) fa cdv A outer s H E).nox (Bk st) (RSg K (μF K) g)):FnOk P w K mg base CX0 (k + 1) fa fd ps (spFF K (fnOf n m g)):=by
 subst e1 e2;have hlen:∀{ds:List D} {S:List Ob} {z:D×List Ob},fnOf ps.length N.length g ds S=some z->ds.length=ps.length:=λ{ds S z} h=>by
  unfold fnOf at h
  split at h
  ·next h1=>exact h1
  ·cases h
 refine F.ok S (λvs H Q E h=>?_) (λcdv A outer s H vs Q E hr h=>?_)
 ·obtain ⟨c,ds,S,si,rs,r,S',e,_⟩:=h;rw [rs.length];exact hlen e
 obtain ⟨c,ds,S0,si,rs,r,S',e,kk⟩:=h;refine ⟨RSg K (μF K) g,hb cdv A outer s H E hr,?_⟩;have hl:=hlen e;unfold fnOf at e;rw [if_pos hl] at e
 cases eg:g ⟨env0 N.length ds,S0⟩ with
 | none=>rw [eg] at e;cases e
 | some p=>
   obtain ⟨o,t⟩:=p;rw [eg] at e;refine ⟨c.O,c,_,FL si rs,o,t,eg,λσ' H' c' f' s'=>?_⟩;obtain ⟨si',ext'⟩:=f'.leave;have st':Stp c.O c H ⟨c'.ι,c.O⟩ H':=⟨s'.ext.trans ext',s'.oo⟩
   cases o with
   | next=>cases e
   | ret d=>
     cases e
     exact λp us hp ru=>kk p us H' _ si' st' (λ_=>Iff.rfl) (ru.mono ext') hp
   | brk=>cases e
   | cont=>cases e
theorem Uv {P:Program}{w:World}{K:PySem.W.Frag}{mg:Str->Option Value}{base:Heap}{ps:List Str}{k:Nat}{f:Fn}(e:f=g)(h:FnOk P w K mg base CX0 k fa fd ps (spFF K g)):FnOk P w K mg base CX0 k fa fd ps (spFF K f):=by rw [e];exact h
end F2
namespace L2
open PySem PySem.Spec PyProof.Rows
section
variable {X:Cx}
theorem Ua {o:Expr}{to:TE}{apos cpos:Pos}(ho:PE X o to)(hbase:attributeBase o "bit_length" X.env (eval o X.env)=eval o X.env:=by rfl)(hline:(apos.endLine == cpos.line)=true:=by rfl) :
 PE X (.Call (.Attribute o "bit_length" apos) [] [] cpos) (λσ H Q=>to σ H λv H1=>∃i,v = .int i/\Q (.int (Builtin.Int.intBits i:Nat)) H1):=by
 intro pins s σ H Q I h;refine Call_method0 hbase hline (thn (ho pins s σ H _ I h) λu s1 z9=>?_);obtain ⟨v,H1,I1,rv,i,ex,q⟩:=z9;subst ex;obtain ⟨t,rfl⟩:=rv;exact ⟨"int", "int.bit_length",PySem.F.plainAttrs_int,PySem.F.slot_int_bit_length,PySem.F.type_int_bit_length,typeIs_int _ _ _,(λ_ e=>nomatch e),
  method0_gives PySem.F.slot_int_bit_length PySem.F.entry_int_bit_length (typeIs_int _ _ _) (PySem.F.args_int_bit_length_1 _) (PySem.AutoIntG2.int_bit_length_int_0 i t) ⟨.int (Builtin.Int.intBits i:Nat),H1,I1.tok _,⟨_,rfl⟩,q⟩⟩
end
end L2
namespace F2
open PySem L2 PySem.Spec
def Ia:D->M D
 | .int i=>ret (.int (Builtin.Int.intBits i:Nat))
 | _=>fail
section
variable {X:Cx}{pos:Pos}{e:Expr}{es:List Expr}
theorem Og {o:Expr}{f:M D}{apos cpos:Pos}(ho:PE X o (RE X.K f))(hbase:attributeBase o "bit_length" X.env (eval o X.env)=eval o X.env:=by rfl)(hline:(apos.endLine == cpos.line)=true:=by rfl) :
 PE X (.Call (.Attribute o "bit_length" apos) [] [] cpos) (RE X.K (fUn f Ia)):=
 AD (Ua ho hbase hline) λσ H Q z9=>by
  obtain ⟨Oo,c,t,fi,r,t',eq,k⟩:=z9;obtain ⟨d,t1,e1,eq⟩:=Af eq;refine ⟨Oo,c,t,fi,d,t1,e1,λx H1 c1 f1 s1 rx=>?_⟩;unfold Ia at eq
  split at eq
  ·next i=>
   cases eq
   cases rx
   exact ⟨i,rfl,k _ H1 c1 f1 s1 (.int _)⟩
  ·cases eq
end
section
variable {X:Cx}{b elt:Expr}{pos:Pos}
end
end F2
namespace L2
open PySem PySem.Spec PyProof.Rows
theorem Inv.turnedL {X:Cx}{pins:List (Addr×Obj)}{σ:St}{H:Hp}{s:Shared}{h':Heap}{t':Nat}(fp:List Addr)(I:Inv X pins σ H s)(hf:∀b∈fp,FpOk X pins H b)(k:∀b o,b∉fp->s.heap.get? b=some o->h'.get? b=some o):Inv X pins σ H { s with heap:=h',toks:=t' }:=by
 have nit:∀b u,H b=some u->b∉fp:=λb u e z=>by rw [(hf b z).1] at e;cases e
 refine I.step (g':=s.gens) (d':=s.drawn) (ch:=fp) (λb hb=>?_) (λb o _ _ hc e _=>k b o hc e) (λb o _ _ hc e _=>⟨o.slots,k b o hc e⟩) (λ_ _ _ _ n=>n)
  (λb o hc e=>⟨o,k b o hc e⟩) (λ_ _ e=>e) (λ_ _ _ e=>e) (λb ps e=>⟨#[],by rw [e];simp⟩) (λm hm=>?_) (λb u e=>?_) I.bare
 ·obtain ⟨_,h1,_,h3,h4,h5⟩:=hf b hb;exact ⟨h3,h1,h4,h5⟩
 ·obtain ⟨o,es,ep,ho,r⟩:=hm;exact ⟨o,es,ep,k _ o (λz=>(hf _ z).2.1 rfl) ho,r⟩
 ·refine (I.hok b u e).stay (λc v hc q=>k c v ?_ q) (λ_ q=>q) λ_ _ q=>q;rcases hc with z | z
  ·rw [z];exact nit b u e
  ·exact nit c _ z
def Ite (K:PySem.W.Frag)(a:Addr):It:=
 ⟨λi H=>∃xs x,SqL K H a xs/\xs[i]?=some x,λi H x H'=>∃p v,x = .ref p/\H p=none/\(∀xs,SqL K H a xs->xs[i]?=some v)/\H'=upd H p (.tup [.int i,v]),λi H=>∃xs,SqL K H a xs/\xs.length<=i⟩
theorem PB {P:Program}{w:World}{K:PySem.W.Frag}{elts:List Expr}{n:Nat}{pos:Pos}(a e it:Addr)(hne:e≠it):Turn P w K (.Tuple elts n pos) (Ite K a) [e,it] e (λi h=>(∃old,IsEnum h e it i old)/\h.IsListIter it a i) where
 mem:=by simp
 obj:=λi h st b hb=>by
  obtain ⟨⟨old,h1⟩,o,e1,c,d⟩:=st;simp only [List.mem_cons,List.not_mem_nil,or_false] at hb;rcases hb with rfl | rfl
  ·exact ⟨_,h1,λv z=>by have z':Data.fields _=Data.cell v:=z;cases z'⟩
  ·exact ⟨o,e1,λv z=>by rw [d] at z;cases z⟩
 keep:=λi h h' st k=>⟨by obtain ⟨⟨old,h1⟩,_⟩:=st;exact ⟨old,k e (by simp) _ h1⟩,st.2.at λo e=>k it (by simp) o e⟩
 item:=by
  intro X hP hw hK hc i pins s σ H E I hf st hg;subst hP hw hK;obtain ⟨xs,x,hq,hx⟩:=hg;obtain ⟨its,rv,p,hz⟩:=I.list hq;obtain ⟨u,hu,ru⟩:=rv.get hx;obtain ⟨⟨old,st1⟩,st2⟩:=st;refine wpAny_pyNext_enum_item st1 st2 p.isList (x:=u) (by simpa using hu) hne λh' so st2' hT hsz kk=>?_;refine ⟨_,rfl,?_⟩;refine wpAny_letOwnedTupleGo_enum so λh2 st1' sb=>?_;have fe:=hf e (by simp);have fi:=hf it (by simp);have le:e < s.heap.objs.size:=Heap.lt_size st1;have li:it < s.heap.objs.size:=by obtain ⟨o,e1,_,_⟩:=st2;exact Heap.lt_size e1
  have hfr:H s.heap.objs.size=none:=I.hok.fresh (Nat.le_refl _);have h2T:h2.get? s.heap.objs.size=some { cls:=.type "tuple",data:=.seq #[.int (i:Nat) s.toks,u] }:=(sb.2 _ (Nat.ne_of_gt le)).trans hT;have I1:Inv X pins σ (upd H s.heap.objs.size (.tup [.int (i:Nat),x])) { s with heap:=s.heap.push { cls:=.type "tuple",data:=.seq #[.int (i:Nat) s.toks,u] },toks:=s.toks }:=
   I.laid (t':=s.toks) (λb u e=>Heap.get?_push_of_some _ e) (Nat.le_refl _) ⟨by show 2<=sizeLine;decide,[.int (i:Nat) s.toks,u],.cons ⟨_,rfl⟩ (.cons ru .nil),⟨_,Heap.get?_push_size _ rfl,rfl,_,rfl⟩⟩
  have hup:∀b,b≠s.heap.objs.size->upd H s.heap.objs.size (.tup [.int (i:Nat),x]) b=H b:=λb hb=>Al hb;have fp':∀b∈[e,it],FpOk X pins (upd H s.heap.objs.size (.tup [.int (i:Nat),x])) b:=λb hb=>by
   obtain ⟨g0,g1⟩:=hf b hb;refine ⟨?_,g1⟩;rw [hup b ?_];exact g0;simp only [List.mem_cons,List.not_mem_nil,or_false] at hb;rcases hb with rfl | rfl
   ·exact Nat.ne_of_lt le
   ·exact Nat.ne_of_lt li
  refine ⟨.ref s.heap.objs.size,upd H s.heap.objs.size (.tup [.int (i:Nat),x]),?_,rfl,⟨_,x,rfl,hfr,λys hy=>by rw [I.list_inj hy hq];exact hx,rfl⟩,⟨⟨_,by simpa using st1'⟩,?_⟩,λb hb=>(fp' b hb).1⟩
  ·have I2:=Inv.turnedL (h':=h2) (t':=s.toks + 1) [e,it] I1 fp' λb o hb eb=>(by
    simp only [List.mem_cons,List.not_mem_nil,or_false,not_or] at hb;rcases Heap.get?_push_cases eb with ⟨rfl,rfl⟩ | eb'
    ·exact h2T
    ·exact (sb.2 b hb.1).trans (kk b o hb.1 hb.2 eb'))
   exact I2
  ·exact st2'.at λo e1=>(sb.2 it (Ne.symm hne)).trans e1
 done:=by
  intro X hP hw hK hc i pins s σ H E I hf st hg;subst hP hw hK;obtain ⟨xs,hq,hx⟩:=hg;obtain ⟨its,rv,p,hz⟩:=I.list hq;obtain ⟨⟨old,st1⟩,st2⟩:=st;have hl:=rv.length;refine wpAny_pyNext_enum_end (I.ok.hd hc) st1 st2 p.isList (by simp;lia) λh' eb=>⟨rfl,?_⟩;exact Inv.turnedL [e,it] (t':=s.toks) I hf λb o hb e1=>eb b o (λz=>hb (by simp [z])) e1
 self:=λ_ _ _ _ _ st h=>by obtain ⟨⟨old,h1⟩,_⟩:=st;exact wpAny_pyIter_enum h1 h
def R5 (K:PySem.W.Frag)(ta:TA):TI:=λσ H R=>ta σ H λvs H1=>∃a xs,vs=[.ref a]/\SqL K H1 a xs/\R (Ite K a) H1
theorem Uh {X:Cx}{e:Expr}{ta:TA}{elts:List Expr}{n:Nat}{tpos p pos:Pos}(hg:Gl X "enumerate")(hm:X.mg "enumerate" = none)(ha:PA X [e] ta)(hs:starEach [e] X.env=[(false,eval e X.env)]:=by rfl) :
 PI X (.Tuple elts n tpos) (.Call (.Name "enumerate" p) [e] [] pos) (R5 X.K ta):=by
 intro pins s σ H R I h;refine Call_ (EL I hg hm boot_enumerate (PyProof.Rows.callWith_type1 (thn (ha pos pins s σ H _ I h) λus s1 z9=>?_) hs rfl));obtain ⟨vs,H1,I1,r1,q1⟩:=z9;obtain ⟨a,xs,ev,hq,q⟩:=q1;subst ev
 cases r1 with
 | cons r rr=>
   cases rr
   cases r
   obtain ⟨its,rv,pl,hz⟩:=I1.list hq;refine call_enumerate_list pl.isList λh' e1 e2 e3 kk=>?_;refine wpAny_pyIter_enum e1 ?_;have hfp:∀b∈[s1.heap.objs.size + 1,s1.heap.objs.size],FpOk X pins H1 b:=λb hb=>by
    have hb':s1.heap.objs.size<=b:=by
     simp only [List.mem_cons,List.not_mem_nil,or_false] at hb;lia
    exact I1.fpOk hb' (I1.hok.fresh hb')
   exact ⟨s1.heap.objs.size + 1,[s1.heap.objs.size + 1,s1.heap.objs.size],_,_,H1,rfl,I1.kept (t':=s1.toks) kk,PB a (s1.heap.objs.size + 1) s1.heap.objs.size (Nat.succ_ne_self _),⟨⟨_,e1⟩,e2⟩,hfp,q⟩
end L2
namespace F2
open PySem L2 PySem.Spec
structure ItOk2 (K:PySem.W.Frag)(J:It)(c:Cf)(H:Hp)(ds:List D):Prop where
 go:∀c' H' (i:Nat),Ext c H c' H'->i < ds.length->J.go i H'
 yld:∀c' H' (i:Nat) x H'' d,Ext c H c' H'->ds[i]?=some d->J.yld i H' x H''->∃p vs es,x = .ref p/\H' p=none/\H''=upd H' p (.tup vs)/\d = .tup es/\Reps K c' H' vs es
 stop:∀c' H',Ext c H c' H'->J.stop ds.length H'
inductive RI2 (K:PySem.W.Frag)(f:M (List D))(σ:L2.St)(H:Hp)(R:It->Hp->Prop):Prop where
 | mk (Oo:Addr->Prop) (c:Cf) (t:T) (fi:FInv K Oo c t σ H) (ds:List D) (t':T) (e:f t=some (ds,t')) (k:∀J H' c',FInv K Oo c' t' σ H'->Stp Oo c H c' H'->ItOk2 K J c' H' ds->R J H'):RI2 K f σ H R
variable {K:PySem.W.Frag}{f:M (List D)}
theorem RS.for2 {μ:Cf->Hp->D->(V->Hp->Prop)->Prop}{g:D->M Unit}{b:M Out}{E:Ends}{σ:L2.St}{H:Hp}(q:RSg K μ (BD f g b) E σ H):Rp (RI2 K f) (RG K g) (RSg K μ b) E σ H:=by
 obtain ⟨Oo,c,t,fi,o,t',eq,k⟩:=q;obtain ⟨ds,t1,e1,eq⟩:=Af eq;refine ⟨Oo,c,t,fi,ds,t1,e1,λJ H1 c1 f1 s1 it=>?_⟩;refine ⟨λi m σ' H'=>m=ds.length - i/\i<=ds.length/\∃c' t2,FInv K Oo c' t2 σ' H'/\Stp Oo c1 H1 c' H'/\Bm g b (ds.drop i) t2=some (o,t'),⟨_,rfl,Nat.zero_le _,c1,t1,f1,.refl,by rw [List.drop_zero];exact eq⟩,?_⟩;rintro i m σ' H' ⟨rfl,hi,c',t2,f2,s2,e2⟩
 by_cases hlt:i < ds.length
 ·refine .inr ⟨it.go c' H' i s2.ext hlt,λσ3 H3=>∃c3 t3,FInv K Oo c3 t3 σ3 H3/\Stp Oo c1 H1 c3 H3/\Bm g b (ds.drop (i + 1)) t3=some (o,t'),λσ3 H3 h=>⟨ds.length - (i + 1),by lia,rfl,hlt,h⟩,λx H'' hy=>?_⟩;obtain ⟨p,vs,es,rfl,hp,rfl,ed,rx⟩:=it.yld c' H' i x H'' _ s2.ext (List.getElem?_eq_getElem hlt) hy;rw [List.drop_eq_getElem_cons hlt,ed] at e2;unfold Bm at e2
  cases e3:g (.tup es) t2 with
  | none=>rw [e3] at e2;cases e2
  | some p3=>
    obtain ⟨u,t3⟩:=p3;rw [e3] at e2
    try dsimp only at e2
    have s2':Stp Oo c1 H1 c' (upd H' p (.tup vs)):=s2.trans (f2.stp_laid hp);refine ⟨Oo,c',t2,_,f2.laid hp,.tup Aw (f2.s.free hp) (rx.mono (Ext.laid f2.s hp)),t3,e3,λσ3 H3 c3 f3 s3=>?_⟩
    cases e4:b t3 with
    | none=>rw [e4] at e2;cases e2
    | some p4=>
      obtain ⟨o4,t4⟩:=p4;rw [e4] at e2
      try dsimp only at e2
      refine ⟨Oo,c3,t3,f3,o4,t4,e4,λσ5 H5 c5 f5 s5=>?_⟩;have s':=(s2'.trans s3).trans s5
      cases o4 with
      | next=>exact ⟨c5,t4,f5,s',e2⟩
      | cont=>exact ⟨c5,t4,f5,s',e2⟩
      | brk=>cases e2;exact k σ5 H5 c5 f5 (s1.trans s')
      | ret r=>cases e2;exact k σ5 H5 c5 f5 (s1.trans s')
 ·have hi':i=ds.length:=by lia
  subst hi';rw [List.drop_length] at e2
  cases e2
  exact .inl ⟨it.stop c' H' s2.ext,k σ' H' c' f2 (s1.trans s2)⟩
noncomputable def Cq:Nat->List D->List D
 | _,[]=>[]
 | i,d :: r=>.tup [.int (i:Nat),d] :: Cq (i + 1) r
theorem E5:∀(ds:List D) (i:Nat),(Cq i ds).length=ds.length
 | [],_=>rfl
 | d :: r,i=>by rw [Cq,List.length_cons,List.length_cons,E5 r]
theorem Gk:∀(ds:List D) (i j:Nat),(Cq i ds)[j]?=(ds[j]?).map λd=>.tup [.int ((i + j:Nat):Int),d]
 | [],_,_=>by simp [Cq]
 | d :: r,i,0=>rfl
 | d :: r,i,j + 1=>by
   rw [Cq,List.getElem?_cons_succ,List.getElem?_cons_succ,Gk r (i + 1) j]
   congr 1
   funext d
   rw [show i + 1 + j=i + (j + 1) by lia]
def MY:List D->M (List D)
 | [.lst ds]=>ret (Cq 0 ds)
 | _=>fail
def FK (f:M (List D)):M (List D):=bnd f MY
theorem ItOk2.enum {c:Cf}{H:Hp}{p:Addr}{ds:List D}(r:∀c' H',Ext c H c' H'->∃vs,SqL K H' p vs/\Reps K c' H' vs ds):ItOk2 K (Ite K p) c H (Cq 0 ds):=by
 refine ⟨λc' H' i ex hi=>?_,λc' H' i x H'' d ex hd hy=>?_,λc' H' ex=>?_⟩
 ·obtain ⟨vs,h1,h2⟩:=r c' H' ex;rw [E5] at hi;obtain ⟨v,e,_⟩:=h2.at (List.getElem?_eq_getElem hi);exact ⟨vs,v,h1,e⟩
 ·obtain ⟨vs,h1,h2⟩:=r c' H' ex;obtain ⟨q,v,rfl,hq,hs,rfl⟩:=hy;have hv:=hs vs h1;rw [Gk] at hd;obtain ⟨d',e1,rfl⟩:=Option.map_eq_some_iff.mp hd;obtain ⟨v',e2,rv⟩:=h2.at e1;rw [hv] at e2
  cases e2
  rw [Nat.zero_add];exact ⟨q,_,_,rfl,hq,rfl,rfl,.cons (.int _) (.cons rv .nil)⟩
 ·obtain ⟨vs,h1,h2⟩:=r c' H' ex;exact ⟨vs,h1,by rw [E5,h2.length];exact Nat.le_refl _⟩
section
variable {X:Cx}{pos:Pos}{e:Expr}
theorem L9 {μ:Cf->Hp->D->(V->Hp->Prop)->Prop}{tg iter:Expr}{body:List Stmt}{g:D->M Unit}{b:M Out}(hp:PassesOwn (model X.prog X.w) X.A X.env X.xe)(hc:X.calm=true)(hi:PI X tg iter (RI2 X.K f))(hg:PG X tg (RG X.K g))(hb:PSs X body (RSg X.K μ b))
 (hs:∀x,foldedSetIterable iter X.env x=pure x:=by intro _;rfl):PS X (.For tg iter body [] pos) (RSg X.K μ (BD f g b)):=
 A3 (Pc hp hc hi hg hb hs) λ_ _ _ q=>RS.for2 q
theorem Ta {elts:List Expr}{n:Nat}{tpos p:Pos}(hg:Gl X "enumerate")(hm:X.mg "enumerate" = none)(ha:PA X [e] (RA X.K f))(h1:AO e=false:=by rfl):PI X (.Tuple elts n tpos) (.Call (.Name "enumerate" p) [e] [] pos) (RI2 X.K (FK f)):=
 Ge (Uh hg hm ha (AE h1)) λσ H R z9=>by
  obtain ⟨Oo,c,t,fi,ds,t',eq,k⟩:=z9;obtain ⟨xs,t1,e1,eq⟩:=Af eq;refine ⟨Oo,c,t,fi,xs,t1,e1,λvs H1 c1 f1 s1 rv=>?_⟩;unfold MY at eq
  split at eq
  ·next es=>
   cases eq
   cases rv with
   | cons r rs=>
     cases rs
     cases r with
     | @lst a ws _ g1 g2 g3=>exact ⟨a,ws,rfl,SqL.of g1,k _ H1 c1 f1 s1 (ItOk2.enum λc' H' ex=>⟨ws,SqL.of (ex.keep _ _ g1 g2),g3.mono ex⟩)⟩
  ·cases eq
end
def Ll:D->D->M (List D)
 | .lst xs,.int k=>λt=>if BL k=true/\xs.length * k.toNat<=LIM then some ((List.replicate k.toNat xs).flatten,t) else none
 | _,_=>fail
theorem Rj:HW K WW Ll:=λ{Oo c t σ H x y dx dy r t' Q} f rx ry eq k=>by
 cases rx with
 | @lst a vs ds h1 h2 h3=>
   cases ry with
   | int j=>
     unfold Ll at eq;dsimp only at eq
     split at eq
     ·next h=>
      cases eq
      obtain ⟨g1,g2⟩:=Ed h.1;exact ⟨a,j,vs,rfl,rfl,h1,by lia,by lia,by rw [h3.length];exact Nat.le_trans h.2 BR,λp hp=>k p _ H c f .refl (h3.rep _) hp⟩
     ·cases eq
   | _=>cases eq
 | _=>cases eq
end F2
namespace L2
open PySem PySem.Spec PyProof.Rows
section
variable {X:Cx}
end
end L2
namespace F2
open PySem L2 PySem.Spec
section
variable {X:Cx}{pos:Pos}{e:Expr}{es:List Expr}
end
end F2
namespace L2
open PySem PySem.Spec PyProof.Rows
section
variable {X:Cx}{e ek:Expr}{p2 pos:Pos}{te:TE}{tk:TO}
end
end L2
namespace F2
open PySem L2 PySem.Spec
section
variable {X:Cx}
end
end F2
namespace L2
open PySem PySem.Spec PyProof.Rows
section
variable {X:Cx}
end
end L2
namespace F2
open PySem L2 PySem.Spec
section
variable {X:Cx}{pos:Pos}
end
end F2
namespace L2
open PySem PySem.Spec PyProof.Rows
theorem JW {x y:Int}(h0:0 < y)(h1:y < 18446744073709551616):Builtin.divisionGoesByPylong x y=false:=by
 unfold Builtin.divisionGoesByPylong;have hl:y.natAbs.log2 < 64:=(Nat.log2_lt (by lia)).mpr (by show y.natAbs < 2 ^ 64;lia);have e:(y == 0)=false:=by rw [beq_eq_false_iff_ne];lia
 simp only [e,Bool.false_eq_true,if_false];rw [Bool.and_eq_false_iff];left;rw [decide_eq_false_iff_not];lia
def RK (i j:Int):Prop:=0 < j/\j < 18446744073709551616
section
variable {X:Cx}
theorem JB {i:Int}(h:i.natAbs < 2 ^ 512):Builtin.Int.intBits i<=2 ^ 20:=by
 unfold Builtin.Int.intBits
 split
 ·exact Nat.zero_le _
 ·next z=>
  have hz:i.natAbs≠0:=by
   intro e;have:i=0:=by lia
   subst this;exact z rfl
  have:=(Nat.log2_lt hz).mpr h;lia
def RL (i j:Int):Prop:=i.natAbs < 2 ^ 512/\j.natAbs < 2 ^ 512
theorem T7:OpR X (binaryOp .Mult) (rI RL λi j=>.int (i * j)):=opI λ_ _ _ _ _ _ _ hc q=>mul_int q (IntMulOk.of_bits (JB hc.1) (JB hc.2))
theorem QQ:OpR X (binaryOp .FloorDiv) (rI RK λi j=>.int (i / j)):=opI λi j _ _ _ _ _ hc q=>by
 have h1:(0:Int) < j:=hc.1;exact floordiv_int (by lia) (by rw [Int.fdiv_eq_ediv_of_nonneg i (by lia)];exact q) (.inl (JW hc.1 hc.2))
end
end L2
namespace F2
open PySem L2 PySem.Spec
noncomputable def KC (i j:Int):Bool:=decide (0 < j) && decide (j < 18446744073709551616)
def GX:=i2C KC λi j=>.int (i / j)
theorem Pp {K:PySem.W.Frag}:AR K (rI RK λi j=>.int (i / j)) GX:=EB (λi j h=>by
 unfold KC at h;rw [Bool.and_eq_true,decide_eq_true_eq,decide_eq_true_eq] at h;exact h) λ_ _ _ _=>.int _
noncomputable def K3 (i j:Int):Bool:=decide (i.natAbs < 2 ^ 512) && decide (j.natAbs < 2 ^ 512)
def HC:=i2C K3 λi j=>.int (i * j)
theorem Ri {K:PySem.W.Frag}:AR K (rI RL λi j=>.int (i * j)) HC:=EB (λi j h=>by
 unfold K3 at h;rw [Bool.and_eq_true] at h;exact ⟨of_decide_eq_true h.1,of_decide_eq_true h.2⟩) λ_ _ _ _=>.int _
end F2
namespace L2
open PySem PySem.Spec PyProof.Rows
section
variable {X:Cx}
end
section
variable {X:Cx}
end
section
variable {X:Cx}
end
end L2
namespace F2
open PySem L2 PySem.Spec
section
variable {X:Cx}{pos:Pos}{e:Expr}{es:List Expr}
end
end F2
namespace L2
open PySem PySem.Spec PyProof.Rows
section
variable {X:Cx}
end
end L2
namespace F2
open PySem L2 PySem.Spec
def L4:List (Int×M D)->M (List (Key×D))
 | []=>ret []
 | (k,f) :: r=>bnd f λd=>bnd (L4 r) λps=>ret ((.inl k,d) :: ps)
def ac (l:List (Int×M D)):M D:=λt=>bnd (L4 l) (GU t.S.length) { t with S:=t.S++[.dct []] }
noncomputable def Na:List (Key×D)->Option (List Int)
 | []=>some []
 | (.inl k,_) :: r=>(Na r).map (k :: ·)
 | _=>none
section
variable {K:PySem.W.Frag}{c:Cf}{H:Hp}
end
section
variable {X:Cx}{pos:Pos}{e b:Expr}
end
end F2
namespace L2
open PySem PySem.Spec PyProof.Rows
noncomputable def tb (led:Bool)(pl:List Nat):SetTable:={ mask:=7,place:=pl.toArray,dummies:=#[],finger:=0,led:=led,moves:=0,plain:=true }
noncomputable def pls:Nat->List (List Nat)
 | 0=>[[]]
 | k + 1=>(pls k).flatMap λl=>(List.range 8).filterMap λj=>if l.all (· < j) then some (l++[j]) else none
section
variable {P:Program}{w:World}{A:Around}{E:Value->Shared->Prop}{s:Shared}
end
section
variable {P:Program}{w:World}{A:Around}{I:Addr}{fp wr:List Addr}{G:Array GenState->Array GenState->Prop}{n:Nat}{Pr:Nat->Value->Prop}{St:Nat->Shared->Prop}
end
section
variable {P:Program}{w:World}{A:Around}{E:Value->Shared->Prop}{s:Shared}
end
section
variable {prog:Program}{w:World}{A:Around}
end
section
variable {X:Cx}
end
end L2
namespace F2
open PySem L2 PySem.Spec PyProof.Rows
section
variable {X:Cx}{pos:Pos}{e:Expr}
end
end F2
namespace L2
open PySem PySem.Spec PyProof.Rows
section
variable {P:Program}{w:World}{A:Around}{E:Value->Shared->Prop}{s:Shared}
structure ZT (h:Heap)(z TI TO i1 i2 t1 t2:Addr)(n:Nat):Prop where
 zz:IsZip h z TI TO .none
 ti:IsPair h TI (.ref i1) (.ref i2)
 ot:∃a b,IsPair h TO a b
 p1:h.IsTupleIter i1 t1 n
 p2:h.IsTupleIter i2 t2 n
end
section
variable {P:Program}{w:World}{A:Around}{E:Value->Shared->Prop}{s:Shared}
end
def Itz (K:PySem.W.Frag)(a b:Addr):It:=
 ⟨λi H=>∃xs ys x y,SqT K H a xs/\SqT K H b ys/\xs[i]?=some x/\ys[i]?=some y,λi H v H'=>∃p x y,v = .ref p/\H p=none/\(∀xs,SqT K H a xs->xs[i]?=some x)/\(∀ys,SqT K H b ys->ys[i]?=some y)/\H'=upd H p (.tup [x,y]),λi H=>∃xs ys,SqT K H a xs/\SqT K H b ys/\(xs.length<=i\/ys.length<=i)⟩
end L2
namespace F2
open PySem L2 PySem.Spec
noncomputable def Z4:List D->List D->List D
 | x :: xs,y :: ys=>.tup [x,y] :: Z4 xs ys
 | _,_=>[]
theorem RF.comp2 {K:PySem.W.Frag}{n:Nat}{fr:List Nat}{f:M (List D)}{st:D->M Unit}{tst:M Bool}{elt:M D}{σ:L2.St}{H:Hp}{Q:VK}(q:RF K (AB n fr f st tst elt) σ H Q):J6 (RI2 K f) (RG K st) (RT K tst) (RE K elt) (EG n fr) σ H Q:=by
 obtain ⟨Oo,c,t,fi,xs,t',eq,k⟩:=q;obtain ⟨ds,t1,e1,eq⟩:=Af eq;refine ⟨Oo,c,t,fi,ds,t1,e1,λJ H1 c1 f1 s1 it=>?_⟩
 cases e3:AX st tst elt ds ⟨cenv n fr t1.env,t1.S⟩ with
 | none=>rw [e3] at eq;cases eq
 | some p=>
   obtain ⟨ys,t3⟩:=p;rw [e3] at eq;dsimp only at eq
   split at eq
   case isFalse=>cases eq
   next hl=>
   cases eq
   refine ⟨λi m acc σ' H'=>m=ds.length - i/\i<=ds.length/\∃c' t2 zs rest,FInv K c1.O c' t2 σ' H'/\Stp c1.O c1 H1 c' H'/\Reps K c' H' acc zs/\AX st tst elt (ds.drop i) t2=some (rest,t3)/\xs=zs++rest,
    ⟨_,rfl,Nat.zero_le _,c1,_,[],xs,Ip f1,.refl,.nil,by rw [List.drop_zero];exact e3,rfl⟩,?_⟩
   rintro i m acc σ' H' ⟨rfl,hi,c',t2,zs,rest,f2,s2,ra,e2,ez⟩;have hacc:acc.length<=sizeLine:=by
    have:zs.length<=xs.length:=by rw [ez,List.length_append];exact Nat.le_add_right _ _
    rw [ra.length];exact Nat.le_trans this (Nat.le_trans hl BR)
   refine ⟨hacc,?_⟩
   by_cases hlt:i < ds.length
   ·refine .inr ⟨it.go c' H' i s2.ext hlt,λx H'' hy=>?_⟩;obtain ⟨p,vs,es,rfl,hp,rfl,ed,rx⟩:=it.yld c' H' i x H'' _ s2.ext (List.getElem?_eq_getElem hlt) hy;rw [List.drop_eq_getElem_cons hlt,ed] at e2;unfold AX at e2;obtain ⟨u,t4,e4,e2⟩:=Af e2;obtain ⟨kb,t5,e5,e2⟩:=Af e2;have sL:=f2.stp_laid (o:=.tup vs) hp;have s2':=s2.trans sL;have ra':=ra.mono sL.ext;refine ⟨c1.O,c',t2,_,f2.laid hp,.tup Aw (f2.s.free hp) (rx.mono (Ext.laid f2.s hp)),t4,e4,λσ3 H3 c3 f3 s3=>⟨c1.O,c3,t4,f3,kb,t5,e5,λH4 c4 f4 s4=>?_⟩⟩
    cases kb with
    | false=>
      rw [if_neg Bool.false_ne_true] at e2 ⊢;exact ⟨ds.length - (i + 1),by lia,rfl,hlt,c4,t5,zs,rest,f4,(s2'.trans s3).trans s4,ra'.mono (s3.trans s4).ext,e2,ez⟩
    | true=>
      rw [if_pos rfl] at e2 ⊢;obtain ⟨x6,t6,e6,e2⟩:=Af e2;obtain ⟨r7,t7,e7,e2⟩:=Af e2
      cases e2
      refine ⟨c1.O,c4,t5,f4,x6,t6,e6,λv H5 c5 f5 s5 rv=>?_⟩;exact ⟨ds.length - (i + 1),by lia,rfl,hlt,c5,t6,zs++[x6],r7,f5,((s2'.trans s3).trans s4).trans s5,(ra'.mono ((s3.trans s4).trans s5).ext).append (.cons rv .nil),e7,by rw [ez,List.append_assoc];rfl⟩
   ·have hi':i=ds.length:=by lia
    subst hi';rw [List.drop_length] at e2
    cases e2
    refine .inl ⟨it.stop c' H' s2.ext,λp hp _=>?_⟩;obtain ⟨si,ext⟩:=f2.leave;obtain ⟨f6,s6⟩:=f1.after si ⟨s2.ext.trans ext,s2.oo⟩ (λ_=>Iff.rfl);rw [List.append_nil] at ez;subst ez;exact k p acc H' _ f6 (s1.trans s6) (ra.mono ext) hp
section
variable {X:Cx}{e a b tg iter elt:Expr}{ifs:List Expr}{pos:Pos}{scope:Scope}{N':List Str}{n:Nat}{fr:List Nat}{f:M (List D)}{st:D->M Unit}{tst:M Bool}{el:M D}
theorem Qs {μ:Cf->Hp->D->(V->Hp->Prop)->Prop}{i:Nat}{y:Str}{py spos:Pos}(O:CmpOk X scope N' (EG n fr))(hc:X.calm=true)(hN:X.N.Nodup)(hiN:X.N[i]?=some y)(hx:X.env.scope.names.lookup y=some .local)(hi:PI X tg iter (RI2 X.K f))
 (hg:∀cl C s2 H2 fp,PG (BC X N' scope cl C s2 H2 fp) tg (RG X.K st)) (ht:∀cl C s2 H2 fp,PIf (BC X N' scope cl C s2 H2 fp) ifs (RT X.K tst)) (he:∀cl C s2 H2 fp,PE (BC X N' scope cl C s2 H2 fp) elt (RE X.K el))
 (hsw:swapsWith (.ListComp elt [⟨tg,iter,ifs,0⟩] scope pos) (some (.Name y py)) spos.line X.env=pure true:=by rfl)
 (hs:∀x,foldedSetIterable iter X.env x=pure x:=by intro _;rfl):PS X (.Assign [.Name y py] (.ListComp elt [⟨tg,iter,ifs,0⟩] scope pos) spos) (RSg X.K μ (Ao i (Ak (AB n fr f st tst el)))):=
 A3 (Ms O hc hN hiN hx hi hg ht he hsw hs) λE σ H q=>RF.comp2 (RF.ofPure (RS.set q))
end
def Jf:List D->M D
 | [.obj k,.ty m]=>λt=>match t.S[k]? with
   | some (.lst _)=>(Dh "list" m).map λb=>(.bl b,t)
   | _=>none
 | ds=>AI ds
theorem Rg {K:PySem.W.Frag}:DM K (Q5 K) Jf:=λ{Oo c t σ H xs ds r t' Q} f rx eq k=>by
 unfold Jf at eq
 split at eq
 ·next n m=>
  obtain ⟨v,u,rfl,rv,ru⟩:=IF rx
  cases ru
  cases rv with
  | @obj a kk hk=>
  split at eq
  ·next ds es=>
   obtain ⟨b,e1,e2⟩:=Option.map_eq_some_iff.mp eq
   cases e2
   obtain ⟨us,g1,g2⟩:=f.s.obs _ a _ hk es;exact ⟨.ref a,m,.type "list",b,rfl,.lst g1,G8 (d:=.lst []) rfl e1,k _ H c f .refl (.bl b)⟩
  ·cases eq
 ·exact MB f rx eq k
section
variable {X:Cx}{elt:Expr}{pos:Pos}{e:Expr}{es:List Expr}
theorem Oi {o:Expr}{f:M D}{g:M (List D)}{apos cpos:Pos}(ho:PE X o (RE X.K f))(ha:PA X (e :: es) (RA X.K g))
 (hbase:attributeBase o "extend" X.env (eval o X.env)=eval o X.env:=by rfl)
 (hfew:((backTo cpos (starEach (e :: es) X.env)).all (λx=>!x.1) && (backToKw cpos (keywordEach [] X.env)).all (λx=>x.1.isSome) && decide ((e :: es).length + ([]:List Keyword).length + (if ([]:List Keyword).isEmpty then 0 else 1) < 30))=true:=by rfl)
 (hline:(apos.endLine == cpos.line)=true:=by rfl) (hs:starEach (e :: es) X.env=(false,eval e X.env) :: starEach es X.env:=by rfl) (hplain:(backTo cpos (starEach es X.env)).any (·.1)=false:=by rfl) :
 PE X (.Call (.Attribute o "extend" apos) (e :: es) [] cpos) (RE X.K (objM Eg f g)):=
 AD (ID PySem.F.plainAttrs_list PySem.F.slot_list_extend PySem.F.type_list_extend Mm ho ha hbase hfew hline hs hplain) λ_ _ _ q=>RE.objM Mz q
end
end F2
namespace L2
open PySem PySem.Spec PyProof.Rows
section
variable {X:Cx}{pins:List (Addr×Obj)}{σ:St}{H:Hp}{s:Shared}{a:Addr}{kvs:List (Key×V)}{o:Obj}
end
section
variable {X:Cx}
end
section
variable {X:Cx}
end
variable {P:Program}{w:World}{vs:List (Key×Value)}
theorem O2 {P':Program}{w':World}{es:List DictEntry}(h:Pairs (AU P w) es vs):Pairs (AU P' w') es vs:=by
 induction h with
 | nil=>exact .nil
 | cons h1 h2 _ ih=>exact .cons h1 h2 ih
theorem O3 {es:List DictEntry}(h:Pairs (AU P w) es vs):∀e∈es,∃kv∈vs,(AU P w).is kv.1 e.key=true:=by
 induction h with
 | nil=>intro e he;cases he
 | @cons e' kv _ _ h1 h2 _ ih=>
   intro e he;rcases List.mem_cons.mp he with rfl | he
   ·exact ⟨kv,List.mem_cons_self,h1⟩
   ·obtain ⟨kv',m,q⟩:=ih e he;exact ⟨kv',List.mem_cons_of_mem _ m,q⟩
theorem FH {P':Program}{w':World}{h:Heap}{a:Addr}(d:h.DictOf (AU P w) a vs)(hk:∀kv∈vs,∃n:Int,kv.1=Sum.inl n):h.DictOf (AU P' w') a vs:=by
 obtain ⟨o,es,ep,h1,h2,h3,h4,h5,h6⟩:=d;refine ⟨o,es,ep,h1,h2,h3,λe he=>?_,O2 h5,h6⟩;obtain ⟨k,q1,q2⟩:=h4 e he;obtain ⟨kv,m1,m2⟩:=O3 h5 e (by simpa using he);obtain ⟨n,en⟩:=hk kv m1;have ek:k=kv.1:=(AU P w).inj _ _ _ q1 m2;rw [en] at ek;subst ek;exact ⟨.inl n,q1,q2⟩
end L2
namespace F2
open PySem L2 PySem.Spec SeqAt
def NN (K:PySem.W.Frag)(H:Hp)(v w:V):Prop:=∃c dv dw,Rep K c H v dv/\Rep K c H w dw/\eqN EQD dv dw=some true
def Va (K:PySem.W.Frag)(H:Hp)(v w:V):Prop:=NN K H v w\/∃a b us ts,v = .ref a/\w = .ref b/\H a=some (.dK us)/\H b=some (.dK ts)/\us.length=ts.length/\(∀kv∈us,∃n:Int,kv.1=Sum.inl n)/\(∀kv∈ts,∃n:Int,kv.1=Sum.inl n)/\∀kv∈us,∃z,Em ts kv.1=some z/\NN K H kv.2 z
def aD (K:PySem.W.Frag)(b:Bool):R2:=λx y H Q=>∃p q vs ws,x = .ref p/\y = .ref q/\H p=some (.lst vs)/\H q=some (.lst ws)/\vs.length=ws.length/\(∀(j:Nat) v w,vs[j]?=some v->ws[j]?=some w->Va K H v w)/\Q (.bl b) H
theorem Kn:∀n:Nat,(List.range n).all (λ_=>true)=true:=λn=>by simp
def Kl (S:List Ob)(x y:D):Bool:=Bh (C7 S x) && Bh (C7 S y) && decide (eqN EQD (C7 S x) (C7 S y)=some true)
def Z9 (S:List Ob)(x y:D):Bool:=match x,y with
 | .obj m,.obj n=>match S[m]?,S[n]? with
   | some (.dct kvs),some (.dct lvs)=>kvs.length == lvs.length && (Na kvs).isSome && (Na lvs).isSome && kvs.all (λkv=>match BK lvs kv.1 with | some e=>Kl S kv.2 e | none=>false)
   | _,_=>Kl S x y
 | _,_=>Kl S x y
end F2
namespace F2
open PySem L2 PySem.Spec
section
variable {X:Cx}{pos:Pos}
end
end F2
namespace L2
open PySem PySem.Spec PyProof.Rows
structure ZL (h:Heap)(z TI TO i1 i2 t1 t2:Addr)(n:Nat):Prop where
 zz:IsZip h z TI TO .none
 ti:IsPair h TI (.ref i1) (.ref i2)
 ot:∃a b,IsPair h TO a b
 p1:h.IsListIter i1 t1 n
 p2:h.IsListIter i2 t2 n
end L2
namespace F2
open PySem L2 PySem.Spec
section
variable {X:Cx}{a b:Expr}{pos:Pos}
end
end F2
namespace L2
open PySem PySem.Spec PyProof.Rows PySem.W
section
variable {prog:Program}{w:World}{A:Around}{h:Heap}{g:Array GenState}{d:Drawn}{t:Nat}{os:OsState}{R:Result->Shared->Prop}
variable {nm q:Str}{C N fI:Addr}{bs bm bmB:List Value}{hdct:Bool}{sn:List Str}{sub:List Value}{ab:Bool}{col:Option Bool}{dd:Option Addr}{k0 k1 k2 k3 k5:Option Value}{B newId initId:String}{mN:Str->Option Value}
abbrev excObj (C tp:Addr):Obj:={ cls:=.ref C,data:=.fields #[.ref tp,.none,.none,.none,.bool false,.none] }
abbrev G9 (h:Heap)(C:Addr)(us:List Value):Heap:=(h.push { cls:=.type "tuple",data:=.seq us.toArray }).push (excObj C h.objs.size)
theorem QH (F:ExcBaseFacts B newId initId bmB)(T:OwnTail h bmB bm){us:List Value}(hC:h.get? C=some (excClassObj nm q C N bs bm hdct sn sub ab col dd k0 k1 k2 k3 k5 newId))(hn:h.Ns N mN)(hni:mN "__init__" = some (.ref fI))
 (hb:Looks (model prog w) h (bindSpecial (.ref fI) (.ref (h.objs.size + 1))) (.ref fI,[.ref (h.objs.size + 1)])) (hus:us.length<=sizeLine)
 (hq:codeAny (model prog w) (A.under (.builtin "type.__call__" ⟨.ref C :: us,[]⟩)) (.call (.ref fI) ⟨.ref (h.objs.size + 1) :: us,[]⟩) (InitBack (h.objs.size + 1) R) ⟨G9 h C us,g,d,t,os⟩) :
 codeAny (model prog w) A (.call (.ref C) ⟨us,[]⟩) R ⟨h,g,d,t,os⟩:=by
 have c1:=tc_lookup;have c2:=tc_bind (.ref C);have ty:(⟨h,g,d,t,os⟩:Shared).TypeIs (.ref C) "type":=⟨_,hC,rfl⟩;refine codeAny_of_tree ?_;show wpAny _ _ (callAny (.ref C) _) _ _ _
 repeat (any_goals (first
  | assumption
  | with_reducible refine wpAny_loadPart_at hC ?_
  | wp_step))
 refine ⟨rfl,codeAny_call_builtin_at (Code.quiet_builtin _ (by decide +kernel)) entry_typeCall (wpAny_check_type_call_sub hC ?_)⟩
 repeat (first
  | with_reducible refine wpAny_loadPart_at hC ?_
  | with_reducible refine wpAny_madeBy_exc hC ?_
  | wp_step)
 refine codeAny_call_builtin_code (Code.quiet_builtin _ F.quiet) (wpAny_check_new_subT F T hC (codeAny_exc_new_subT F T hC ?_ hus))
 change wpAny _ _ _ _ _ (Shared.mk (G9 h C us) g d t os)
 have kp:∀b o,h.get? b=some o->(G9 h C us).get? b=some o:=λb o e=>Heap.get?_push_of_some _ (Heap.get?_push_of_some _ e);have he:(G9 h C us).get? (h.objs.size + 1)=some { cls:=.ref C,data:=.fields #[.ref h.objs.size,.none,.none,.none,.bool false,.none] }:=by heap_get
 have n1:(G9 h C us).Ns N mN:=hn.keeps kp;have cC:(Value.ref C :: bm).contains (.ref C)=true:=by simp
 unfold isInstance
 repeat (first
  | with_reducible refine wpAny_loadPart_at he ?_
  | (with_reducible refine wpAny_isSubtype_exc (kp _ _ hC) ?_;rw [cC])
  | wp_step)
 show wpAny _ _ (typeLookup (.ref C) _) _ _ _;refine wpAny_typeLookup_tail (kp _ _ hC) n1 (T.keeps kp) F.mroIs F.init.lookup ?_;rw [hni];refine wpAny_holding (wpAny_bind ((hb.keeps kp).at ?_));refine wpAny_bind (wpAny_call (codeAny_mono hq λr s' z=>?_))
 cases r with
 | error e=>exact z
 | ok f=>
   cases f with
   | ret v=>
     obtain ⟨rfl,z⟩:=z;exact wpAny_pure (wpAny_pure z)
   | _=>exact z.elim
end
end L2
namespace L2
open PySem PySem.Spec PyProof.Rows PySem.W PySem.Builtin PySem.Builtin.ObjectAttr
theorem Pe (self:Value):refuseLoop self "__setattr__" [.type "ValueError",.type "Exception",.type "BaseException",.type "object"]=pure ():=by
 kernel_rfl
abbrev Il (C P:Addr):List Value:=[.ref C,.ref P,.type "ValueError",.type "Exception",.type "BaseException",.type "object"]
theorem Nr (self:Value)(C P:Addr):refuseLoop self "__setattr__" (Il C P)=pure ():=by
 rw [Il,refuseLoop_ref,refuseLoop_ref];exact Pe self
section
variable {prog:Program}{w:World}{A:Around}{s:Shared}{K:PySem.W.Frag}{x C P tp:Addr}{R:Result->Shared->Prop}{name:Str}{v:Value}{tk:Tok}{cd:ClassData}
theorem T9 (X:K.In s.heap)(hx:s.heap.get? x=some (excObj C tp))(hc:clsIn K C=some cd)(hmr:cd.mro=Il C P)(ha:findIn K (.ref C) name=some none)
 (h:wpAny (model prog w) A.in1 (storeInOwnDict (.ref x) (.ref C) (.str name tk) name v false) (λfin s'=>match fin with | .done f=>R (.ok f) s' | .again c'=>c'.quiet=true/\codeAny (model prog w) A c' R s') (λe s'=>R (.error e) s') s) :
 codeAny (model prog w) A (.call (.builtin "object.__setattr__") ⟨[.ref x,.str name tk,v],[]⟩) R s:=by
 have SF:=PySem.F.store_object;have I:InstAt s.heap x (excObj C tp) C none:=⟨hx,rfl,rfl,trivial⟩;have ob:Looks (model prog w) s.heap (isInstance (.ref x) (.type "object")) true:=I.type.andThen (looks_mroIn X (by unfold mroIn;rw [hc,Option.bind_some,hmr];rfl));refine codeAny_call_builtin SF.slot.plain SF.entry (@check_slot (model prog w) _ _ s "object.__setattr__" "object" "__setattr__" (.ref x) [.str name tk,v] [] _ SF.kind SF.split ob (SF.args (.ref x) (.str name tk) v) ?_);have mr:Looks (model prog w) s.heap (mroOf (.ref C)) (Il C P):=by rw [<-hmr];exact (looks_clsIn X hc).andThen .now
 rw [osa_eq,refuse_eq];refine wpAny_bind (wpAny_bind (I.type.here (wpAny_bind (mr.here ?_))));rw [Nr];refine wpAny_pure (wpAny_bind (I.type.here (wpAny_bind ((looks_findIn X ha).here ?_))));exact wpAny_bind (wpAny_pure h)
theorem UP {E:Value->Shared->Prop}{Q:Unit->Shared->Prop}(X:K.In s.heap)(hx:s.heap.get? x=some (excObj C tp))(hs:findIn K (.ref C) "__setattr__" = some (some (.builtin "object.__setattr__")))(hc:clsIn K C=some cd)(hmr:cd.mro=Il C P)(hd:cd.hasDict=true)(ha:findIn K (.ref C) name=some none)
 (h:∀h',(∀b o,b≠x->s.heap.get? b=some o->h'.get? b=some o)->h'.get? x=some { excObj C tp with dict:=some s.heap.objs.size }->h'.Ns1 s.heap.objs.size (λy=>if y=name then some v else none)->Q () { s with heap:=h',toks:=s.toks + 2 }) :
 wpAny (model prog w) A (setAttr (.ref x) name v) Q E s:=by
 have I:InstAt s.heap x (excObj C tp) C none:=⟨hx,rfl,rfl,trivial⟩;refine set_plain X I hs (T9 (s:={ s with toks:=s.toks + 1 }) X hx hc hmr ha ?_);refine wpAny_bind (wpAny_pure (wpAny_bind (wpAny_bind (wpAny_loadPart (s:={ s with toks:=s.toks + 1 }) hx (wpAny_bind (Looks.here (s:={ s with toks:=s.toks + 1 }) (looks_clsIn X hc) ?_))))));rw [hd,if_neg (by decide)];show wpAny _ _ (alloc _ >>= λdx=>update x _ >>= λ_=>pure (some dx)) _ _ _;have hx1:(s.heap.push emptyDict).get? x=some (excObj C tp):=Heap.get?_push_of_some _ hx;have hne:s.heap.objs.size≠x:=Nat.ne_of_gt (Heap.lt_size hx);refine wpAny_bind (wpAny_alloc (s:={ s with toks:=s.toks + 1 }) (wpAny_bind (wpAny_update hx1 (wpAny_pure ?_))));have hx2:((s.heap.push emptyDict).update x λo=>{ o with dict:=some s.heap.objs.size }).get? x=some { excObj C tp with dict:=some s.heap.objs.size }:=Heap.get?_update_self _ hx1 rfl;have hk:∀b o,b≠x->s.heap.get? b=some o->((s.heap.push emptyDict).update x λo=>{ o with dict:=some s.heap.objs.size }).get? b=some o:=λb o hb e=>(Heap.get?_update_other _ _ (Ne.symm hb)).trans (Heap.get?_push_of_some _ e);have hdx:((s.heap.push emptyDict).update x λo=>{ o with dict:=some s.heap.objs.size }).get? s.heap.objs.size=some emptyDict:=(Heap.get?_update_other _ _ (Ne.symm hne)).trans (Heap.get?_push_size _ rfl);have n1:((s.heap.push emptyDict).update x λo=>{ o with dict:=some s.heap.objs.size }).Ns1 s.heap.objs.size λ_=>none:=⟨_,#[],_,hdx,rfl,(λe he=>by simp at he),(by simp [UniqKeys]),λ_=>rfl⟩;refine wpAny_bind (wpAny_pure (wpAny_bind ?_));refine wpAny_nsSet1 n1 λh' n2 sb=>?_;obtain ⟨oD,esD,epD,hoD,hdD,hcD⟩:=n2.count (PySem.Within.cons name v (ns:=[]) (λy u=>absurd rfl u));refine wpAny_bind (wpAny_lookBehind hoD (by rw [hdD];exact pastItsLine_dict (Nat.le_trans hcD (by show 1<=_;decide))) ?_);exact wpAny_pure (h h' (λb o hb e=>by
  by_cases hb2:b=s.heap.objs.size
  ·subst hb2;exact absurd (Heap.lt_size e) (Nat.lt_irrefl _)
  ·exact (sb.2 b hb2).trans (hk b o hb e)) ((sb.2 x (Ne.symm hne)).trans hx2) n2)
end
end L2
namespace L2
open PySem PySem.Spec PyProof.Rows PySem.W
variable {qx:Bool}
def XRec (qx:Bool)(h:Heap)(x C:Addr)(dx:Option Addr)(tb:Value):Prop:=∃(o:Obj) (vs:Array Value),h.get? x=some o/\o.cls = .ref C/\o.dict=dx/\o.data = .fields vs/\vs[1]?=some tb/\(qx=true->vs[2]?=some .none/\4 < vs.size)
theorem Vt {qx:Bool}{vs:Array Value}{v:Value}(h:qx=true->vs[2]?=some .none/\4 < vs.size):qx=true->(vs.setIfInBounds 1 v)[2]?=some .none/\4 < (vs.setIfInBounds 1 v).size:=λz=>by
 rw [Array.getElem?_setIfInBounds_ne (by decide),Array.size_setIfInBounds];exact h z
theorem XRec.to {qx:Bool}{h:Heap}{x C:Addr}{dx:Option Addr}{tb:Value}(r:XRec true h x C dx tb):XRec qx h x C dx tb:=by
 obtain ⟨o,vs,h1,h2,h3,h4,h5,h6⟩:=r;exact ⟨o,vs,h1,h2,h3,h4,h5,λ_=>h6 rfl⟩
def XTb (h:Heap)(T:Addr):Prop:=∃(o:Obj) (ts:Array Value),h.get? T=some o/\o.data = .fields ts/\ts[3]?=some .none
structure XKeep (fs ch:List Addr)(h h':Heap):Prop where
 keep:∀b o,b∉ch->b∉fs->h.get? b=some o->h'.get? b=some o
 slot:∀b o,b∉ch->h.get? b=some o->∃sl,h'.get? b=some { o with slots:=sl }
section
variable {M:Model}{A:Around}{E:Value->Shared->Prop}{s:Shared}{env:Env}{outer:List Env}{base:Heap}{L x C:Addr}{dx:Option Addr}{tb:Value}{Q:Unit->Shared->Prop}
theorem K2 {o:Obj}{vs:Array Value}(hd:o.data = .fields vs)(f:Array Value->Array Value):(o.mapFields f).data = .fields (f vs)/\(o.mapFields f).cls=o.cls/\(o.mapFields f).dict=o.dict:=by
 obtain ⟨c,d,dt,sl⟩:=o
 cases hd
 exact ⟨rfl,rfl,rfl⟩
end
end L2
namespace L2
open PySem PySem.Spec PyProof.Rows PySem.W
variable {qx:Bool}
abbrev VE:List Value:=[.type "ValueError",.type "Exception",.type "BaseException",.type "object"]
structure XCl (K:PySem.W.Frag)(C:Addr)(bm:List Value):Prop where
 ex:∃cd dd k0 k1 k2 k3 k5,K.lookup C=some { cls:=.type "type",dict:=dd,data:=.cls cd,slots:=#[k0,k1,k2,k3,some (.builtin "ValueError.__new__"),k5] }/\cd.mro = .ref C :: bm/\cd.hasDel=false/\cd.hasDict=true/\nsOkIn K cd.ns=true
 tl:tailIn K VE bm=true
noncomputable def Ka (K:PySem.W.Frag)(C:Addr)(bm:List Value):Bool:=tailIn K VE bm && match K.lookup C with
 | some ⟨.type "type",_,.cls cd,sl⟩=>(match sl.toList with
   | [_,_,_,_,some (.builtin n),_]=>n == "ValueError.__new__" && cd.mro == .ref C :: bm && !cd.hasDel && cd.hasDict && nsOkIn K cd.ns
   | _=>false)
 | _=>false
variable {K:PySem.W.Frag}{C:Addr}{bm:List Value}
theorem XCl.of_in (q:Ka K C bm=true):XCl K C bm:=by
 unfold Ka at q;rw [Bool.and_eq_true] at q;refine ⟨?_,q.1⟩;have q:=q.2
 split at q
 ·rename_i dd cd sl ho
  split at q
  ·rename_i k0 k1 k2 k3 n k5 hs;simp only [Bool.and_eq_true,beq_iff_eq,Bool.not_eq_true'] at q;obtain ⟨⟨⟨⟨rfl,h1⟩,h2⟩,h3⟩,h4⟩:=q;have hsl:sl=#[k0,k1,k2,k3,some (.builtin "ValueError.__new__"),k5]:=by
    cases sl
    exact congrArg Array.mk hs
   exact ⟨cd,dd,k0,k1,k2,k3,k5,by rw [ho,hsl],h1,h2,h3,h4⟩
  ·cases q
 ·cases q
theorem XCl.obj {K:PySem.W.Frag}{C:Addr}{bm:List Value}{h:Heap}(c:XCl K C bm)(X:K.In h):∃nm q N bs sn sub ab col dd k0 k1 k2 k3 k5,h.get? C=some (excClassObj nm q C N bs bm true sn sub ab col dd k0 k1 k2 k3 k5 "ValueError.__new__")/\h.Ns N (h.nsMap N):=by
 obtain ⟨⟨nm,bs,mro,ns,qn,hd,sn,sub,ab,col,del⟩,dd,k0,k1,k2,k3,k5,h1,h2,h3,h4,h5⟩:=c.ex;dsimp only at h2 h3 h4 h5;subst h2 h3 h4;exact ⟨nm,qn,ns,bs,sn,sub,ab,col,dd,k0,k1,k2,k3,k5,X _ _ h1,.of_isNs (isNs_of_in X h5)⟩
variable {h:Heap}
theorem XCl.tail (c:XCl K C bm)(X:K.In h):OwnTail h VE bm:=tail_of_in X c.tl
theorem XCl.has (c:XCl K C bm)(X:K.In h):(Value.ref C :: bm).contains (.type "BaseException")=true:=by
 rw [List.contains_cons,(c.tail X).hasType (b:=true) (by decide +kernel),Bool.or_true]
section
variable {M:Model}{A:Around}{E:Value->Shared->Prop}{env:Env}{K:PySem.W.Frag}{C:Addr}{bm:List Value}{s:Shared}
theorem Q7 {t:Sem Value}{Q:Flow->Shared->Prop}(c:XCl K C bm)(hh:A.handled=none)
 (h:wpAny M A t (λv s1=>∃x dx,v = .ref x/\K.In s1.heap/\XRec qx s1.heap x C dx .none/\E v s1) E s):wpAny M A (raiseStmt env (some t) none) Q E s:=by
 unfold raiseStmt;refine wpAny_bind (wpAny_mono h (λv s1 q=>?_) λ_ _ z=>z);obtain ⟨x,dx,rfl,X,⟨o,vs,hx,hc,hd,hdt,h1,_⟩,hE⟩:=q;obtain ⟨nm,q,N,bs,sn,sub,ab,col,dd,k0,k1,k2,k3,k5,hC,_⟩:=c.obj X;have hb:=c.has X;obtain ⟨hp,g,d,tk,os⟩:=s1
 repeat (first
  | (with_reducible refine wpAny_loadPart_at hx ?_;rw [hc])
  | with_reducible refine wpAny_loadPart_at hC ?_
  | (with_reducible refine wpAny_isSubtype_exc hC ?_;rw [hb])
  | with_reducible refine wpAny_field hx hdt h1 ?_
  | wp_step)
 exact wpAny_raiseNew_none hh hE
end
def CX1 (qx:Bool)(P:Program)(w:World):CXT:=λouter H s E e s'=>∃(x C:Addr) (dx:Option Addr) (T:Addr) (H':Hp),e = .ref x/\s'.os=s.os/\AllBare s'.gens/\Un (frs outer) [] H H' s.heap s'.heap/\HOk P w H' s'.heap/\
 H' x=some (.ext (F2.XIs qx x C dx))/\s.heap.objs.size<=x/\s.heap.objs.size<=T/\T≠x/\H' T=none/\XRec qx s'.heap x C dx (.ref T)/\XTb s'.heap T/\E (.ref x) dx H'
variable {x:Addr}{dx:Option Addr}
theorem XRec.is {tb:Value}(r:XRec qx h x C dx tb):F2.XIs qx x C dx h:=by
 obtain ⟨o,vs,h1,h2,h3,h4,_,h5⟩:=r;exact ⟨o,vs,h1,h2,h3,h4,h5⟩
theorem XIs.stay {h1 h2:Heap}(r:F2.XIs qx x C dx h1)(k:∀o,h1.get? x=some o->h2.get? x=some o):F2.XIs qx x C dx h2:=by
 obtain ⟨o,vs,e,q⟩:=r;exact ⟨o,vs,k o e,q⟩
theorem Oe {P:Program}{w:World}{H:Hp}(r:F2.XIs qx x C dx h):ObjOk P w H h x (.ext (F2.XIs qx x C dx)):=
 ⟨r,let ⟨o,_,e,_⟩:=r;⟨o,e⟩,λ_ _ q k=>XIs.stay q k⟩
section
variable {X:Cx}{pins:List (Addr×Obj)}{σ:St}{H H':Hp}{s s':Shared}{h':Heap}{x C T:Addr}{dx:Option Addr}{ch:List Addr}
theorem Ru (k:XKeep (frs X.stack) ch s.heap h')(hT:∀b∈ch,b=x\/b=T):Un (frs X.stack) (x :: T :: []) H H s.heap h':=by
 have nch:∀b:Addr,b∉(x :: T :: [])->b∉ch:=λb hb z=>hb (by rcases hT b z with rfl | rfl <;> simp);refine ⟨λb o e n hb hx=>k.keep b o (nch b hx) hb e,λb o e n hb hx=>k.slot b o (nch b hx) e,λb o e n _=>n,λb o e hx=>?_,λ_ _ e=>e,λ_ _ _ e=>e,λb ps e=>⟨#[],by rw [e];simp⟩⟩;obtain ⟨sl,q⟩:=k.slot b o (nch b hx) e;exact ⟨_,q⟩
theorem Inv.left (I:Inv X pins σ H s)(hx:H x=some (.ext (F2.XIs qx x C dx)))(hT:H T=none)(nx:X.s₀.heap.objs.size<=x)(nT:X.s₀.heap.objs.size<=T)(k:XKeep (frs X.stack) ch s.heap h')(hc:∀b∈ch,b=x\/b=T)(r:F2.XIs qx x C dx h')
 (oT:∀y c,X.env.cells.lookup y=some c->c≠T) (lT:T≠X.env.locals) (pT:∀p∈X.pn++pins,p.1≠T):Inv X pins σ H { s with heap:=h' }:=by
 have nfr:∀b u,H b=some u->b∉frs X.stack:=λb u e z=>by rw [I.stkFree b z] at e;cases e
 refine I.call (g':=s.gens) (t':=s.toks) (d':=s.drawn) (ch:=[x,T]) (Ru k hc) (λb u e=>?_) I.bare λb hb=>?_
 ·by_cases hb:b=x
  ·subst hb;rw [hx] at e;cases e;exact Oe r
  ·refine (I.hok b u e).stay (λc v hcc q=>k.keep c v ?_ ?_ q) (λ_ q=>q) λ_ _ q=>q
   ·intro z;rcases hcc with rfl | hcc
    ·rcases hc c z with q | q
     ·exact hb q
     ·rw [q,hT] at e;cases e
    ·rcases hc c z with q | q
     ·rw [q,hx] at hcc;cases hcc
     ·rw [q,hT] at hcc;cases hcc
   ·rcases hcc with rfl | hcc
    ·exact nfr _ _ e
    ·exact nfr _ _ hcc
 ·have q:b=x\/b=T:=by simpa using hb
  rcases q with rfl | rfl
  ·exact ⟨.inr nx,(λz=>by rw [z,I.free] at hx;cases hx),(λy c e z=>by subst z;rw [I.freeC y c e] at hx;cases hx),λp hp z=>by rw [<-z,(I.pin p hp).2.1] at hx;cases hx⟩
  ·exact ⟨.inr nT,lT,oT,pT⟩
theorem Inv.raised (I:Inv X pins σ H s){E:XK}{e:Value}(q:CX1 qx X.prog X.w X.stack H s E e s'):∃(x C:Addr) (dx:Option Addr) (T:Addr) (H':Hp),e = .ref x/\Inv X pins σ H' s'/\H' x=some (.ext (F2.XIs qx x C dx))/\s.heap.objs.size<=x/\s.heap.objs.size<=T/\T≠x/\H' T=none/\XRec qx s'.heap x C dx (.ref T)/\XTb s'.heap T/\E (.ref x) dx H':=by
 obtain ⟨x,C,dx,T,H',he,os,bare,un,hok,hx,nx,nT,ne,hT,r,tb,q⟩:=q;obtain ⟨hh,g,d,t,os'⟩:=s';obtain rfl:os'=s.os:=os;exact ⟨x,C,dx,T,H',he,I.call (h':=hh) (g':=g) (d':=d) (t':=t) (ch:=[]) un hok bare (λb z=>absurd z (by simp)),hx,nx,nT,ne,hT,r,tb,q⟩
theorem Inv.newT (I:Inv X pins σ H s)(h:s.heap.objs.size<=T):T≠X.env.locals/\(∀y c,X.env.cells.lookup y=some c->c≠T)/\∀p∈X.pn++pins,p.1≠T:=by
 have far:∀b o,s.heap.get? b=some o->b≠T:=λb o e z=>absurd (Nat.lt_of_lt_of_le (Heap.lt_size e) h) (by rw [z];exact Nat.lt_irrefl _);refine ⟨λz=>absurd I.lt (by rw [<-z];exact Nat.not_lt.mpr h),λy c e=>?_,λp hp=>far _ _ (I.pin p hp).1⟩;obtain ⟨v,o,ho,_⟩:=I.cell y c e;exact far c o ho
end
section
variable {P:Program}{w:World}{K:PySem.W.Frag}{mg:Str->Option Value}{base:Heap}{N:List Str}{qual:Str}{scope:Scope}{f:Addr}{cd:Value}{A:Around}{outer:List Env}{s₀:Shared}{H₀:Hp}{E:XK}
end
end L2
namespace L2
open PySem PySem.Spec PyProof.Rows PySem.W
noncomputable def exO (x C tp:Addr):HO:=.ext λh=>h.get? x=some (excObj C tp)
noncomputable def M0 (x C tp dx:Addr):HO:=.ext λh=>h.get? x=some { excObj C tp with dict:=some dx }
theorem Vx {P:Program}{w:World}{H:Hp}{h:Heap}{x C tp:Addr}(e:h.get? x=some (excObj C tp)):ObjOk P w H h x (exO x C tp):=⟨e,⟨_,e⟩,λ_ _ p k=>k _ p⟩
theorem SQ {P:Program}{w:World}{H:Hp}{h:Heap}{x C tp dx:Addr}(e:h.get? x=some { excObj C tp with dict:=some dx }):ObjOk P w H h x (M0 x C tp dx):=⟨e,⟨_,e⟩,λ_ _ p k=>k _ p⟩
structure XAt (K:PySem.W.Frag)(C P:Addr)(f:Str):Prop where
 cl:XCl K C (.ref P :: VE)
 set:findIn K (.ref C) "__setattr__" = some (some (.builtin "object.__setattr__"))
 no:findIn K (.ref C) f=some none
theorem XCl.cls {K:PySem.W.Frag}{C:Addr}{bm:List Value}(c:XCl K C bm):∃cd,clsIn K C=some cd/\cd.mro = .ref C :: bm/\cd.hasDict=true:=by
 obtain ⟨cd,dd,k0,k1,k2,k3,k5,h1,h2,_,h4,_⟩:=c.ex;exact ⟨cd,by unfold clsIn;rw [h1],h2,h4⟩
def sXF (K:PySem.W.Frag)(P:Addr)(ta tv:TE)(f:Str):TS:=λD σ H=>tv σ H λy H1=>ta σ H1 λx H2=>∃a C tp,x = .ref a/\H2 a=some (exO a C tp)/\XAt K C P f/\
 ∀dx,H2 dx=none->dx≠a->D.nx σ (upd (upd H2 dx (.xd [(f,y)])) a (M0 a C tp dx))
theorem XV {X:Cx}{P:Addr}{o value:Expr}{ta tv:TE}{f:Str}{pos' pos:Pos}(ha:PE X o ta)(hv:PE X value tv)(hs:swapsWith value (some (.Attribute o f pos')) pos.line X.env=pure false):PS X (.Assign [.Attribute o f pos'] value pos) (sXF X.K P ta tv f):=by
 intro pins s σ H D I h;refine plainObj_wpAny_Assign_Attribute (thn (hv pins s σ H _ I h) λu s1 ⟨y,H1,I1,ry,q⟩=>thn (ha pins s1 σ H1 _ I1 q) λov s2 z9=>?_) hs;obtain ⟨x,H2,I2,rx,a,C,tp,ex,ea,c,q2⟩:=z9;subst ex;obtain rfl:ov=Value.ref a:=rx;obtain ⟨cd,c1,c2,c3⟩:=c.cl.cls;have hx:s2.heap.get? a=some (excObj C tp):=(I2.hok a _ ea).1;refine UP I2.kIn hx c.set c1 c2 c3 c.no λh' k e n=>?_;have fr:=I2.hok.fresh (Nat.le_refl s2.heap.objs.size);have ne:s2.heap.objs.size≠a:=(λz=>by rw [z,ea] at fr;cases fr)
 have nn:∀b u,H2 b=some u->b≠s2.heap.objs.size:=λb u z=>Ay z fr;have na:∀b u,s2.heap.get? b=some u->H2 b=none->b≠a:=λb u _ z w'=>by rw [w',ea] at z;cases z
 refine ⟨σ,_,I2.un (h':=h') (t':=s2.toks + 2) ⟨λb u e1 e2 _ _=>k b u (na b u e1 e2) e1,λb u e1 e2 _ _=>⟨u.slots,k b u (na b u e1 e2) e1⟩,λb u e1 e2 _=>?_,λb u e1 _=>?_,λb xs e1=>?_,λb o' u e1=>?_,λb ps e1=>⟨#[],?_⟩⟩ λb u e1=>?_,q2 s2.heap.objs.size fr ne⟩
 ·rw [Al (na b u e1 e2),Al (Nat.ne_of_lt (Heap.lt_size e1))];exact e2
 ·by_cases hb:b=a
  ·subst hb;exact ⟨_,e⟩
  ·exact ⟨_,k b u hb e1⟩
 ·rw [Al (λz=>by rw [z,ea] at e1;cases e1),Al (nn _ _ e1)];exact e1
 ·rw [Al (λz=>by rw [z,ea] at e1;cases e1),Al (nn _ _ e1)];exact e1
 ·rw [Al (λz=>by rw [z,ea] at e1;cases e1),Al (nn _ _ e1),e1];simp
 ·by_cases hb:b=a
  ·subst hb;rw [Aw] at e1;cases e1;exact SQ e
  ·rw [Al hb] at e1
   by_cases hb2:b=s2.heap.objs.size
   ·subst hb2;rw [Aw] at e1;cases e1
    refine ⟨_,n,λg=>?_⟩
    by_cases hg:g=f
    ·subst hg;simp only [List.lookup,beq_self_eq_true,if_true];exact ry
    ·have hgb:(g == f)=false:=beq_eq_false_iff_ne.mpr hg;simp only [List.lookup,hgb,if_neg hg];trivial
   ·rw [Al hb2] at e1;refine (I2.hok b u e1).stay (λz v hz q=>k z v ?_ q) (λz q=>?_) λz xs q=>?_
    ·rcases hz with rfl | hz
     ·exact hb
     ·intro w';rw [w',ea] at hz;cases hz
    ·rw [Al (λz=>by rw [z,ea] at q;cases q),Al (nn _ _ q)];exact q
    ·rw [Al (λz=>by rw [z,ea] at q;cases q),Al (nn _ _ q)];exact q
variable {qx:Bool}
theorem Nj {K:PySem.W.Frag}{h:Heap}{N:Addr}{m:Str->Option Value}{n:Str}{v:Value}(X:K.In h)(G:h.Ns N m)(e:nsIn K N n=some (some v)):m n=some v:=by
 obtain ⟨o,es,ep,ho,hd,_,hf⟩:=G;unfold nsIn at e
 split at e
 ·next c d es' n' sl q=>
  have z:=X _ _ q;rw [ho] at z
  cases z
  cases hd
  split at e
  ·next en he=>
   rw [<-hf];unfold nsFind findBy;rw [<-Array.find?_toList,he];simpa using e
  ·split at e <;> cases e
 ·cases e
structure XMk (K:PySem.W.Frag)(C P f:Addr):Prop where
 cl:XCl K C (.ref P :: VE)
 init:∃cd,clsIn K C=some cd/\nsIn K cd.ns "__init__" = some (some (.ref f))
 fn:isFn K (.ref f)=true
 kp:keepIn K (.ref C)=true
def spI (K:PySem.W.Frag)(P:Addr)(a:Str):Sp:=λvs H Q _=>∃x C tp v,vs=[.ref x,v]/\H x=some (exO x C tp)/\XAt K C P a/\∀dx,H dx=none->dx≠x->Q .non (upd (upd H dx (.xd [(a,v)])) x (M0 x C tp dx))
section
variable {X:Cx}{k:Nat}{f C P:Addr}{fd:FuncData}{pins:List (Addr×Obj)}{σ:St}{H:Hp}{s:Shared}{Q:Value->Shared->Prop}{us:List Value}{vs:List V}{a:Str}{ps:List Str}{v:V}{u:Value}
theorem Pi (M:XMk X.K C P f)(ha:XAt X.K C P a)(F:FnOk X.prog X.w X.K X.mg X.base CX0 k f fd ps (spI X.K P a))(hr:Room (k + 1) X.A)(hb:Binds X.K fd ps [])(I:Inv X pins σ H s)(r:RelV v u)
 (h:∀s' x dx,Inv X pins σ (upd (upd H dx (.xd [(a,v)])) x (.ext (F2.XIs qx x C (some dx)))) s'->H x=none->H dx=none->dx≠x->s.heap.objs.size<=x->XRec true s'.heap x C (some dx) .none->Q (.ref x) s'):wpAny (model X.prog X.w) X.A (call (.ref C) [u]) Q X.xe s:=by
 obtain ⟨nm,q,N,bs,sn,sub,ab,col,dd,k0,k1,k2,k3,k5,hC,hN⟩:=M.cl.obj I.kIn;have hni:s.heap.nsMap N "__init__" = some (.ref f):=by
  obtain ⟨cd,c1,c2⟩:=M.init;refine Nj I.kIn hN ?_;unfold clsIn at c1
  split at c1
  ·next l=>
   cases c1
   have z:=I.kIn _ _ l;rw [hC] at z
   cases z
   exact c2
  ·cases c1
 have I1:Inv X pins σ (upd H (s.heap.objs.size + 1) (exO (s.heap.objs.size + 1) C s.heap.objs.size)) { s with heap:=G9 s.heap C [u] }:=by
  refine I.laid (t':=s.toks) (λb o e=>Heap.get?_push_of_some _ (Heap.get?_push_of_some _ e)) (Nat.le_succ _) (Vx ?_);show ((s.heap.push _).push _).get? _=_
  heap_get
 have hx0:=I.hok.fresh (Nat.le_succ s.heap.objs.size);have r2:Vals [V.ref (s.heap.objs.size + 1),v] [Value.ref (s.heap.objs.size + 1),u]:=.cons rfl (.cons r .nil);have hsp:spI X.K P a [V.ref (s.heap.objs.size + 1),v] (upd H (s.heap.objs.size + 1) (exO (s.heap.objs.size + 1) C s.heap.objs.size))
  (λw' H'=>w' = .non/\∃dx,H dx=none/\dx≠s.heap.objs.size + 1/\H'=upd (upd H dx (.xd [(a,v)])) (s.heap.objs.size + 1) (M0 (s.heap.objs.size + 1) C s.heap.objs.size dx)) E0:=by
  refine ⟨_,C,s.heap.objs.size,v,rfl,Aw,ha,λdx h1 h2=>⟨rfl,dx,by rw [Al h2] at h1;exact h1,h2,?_⟩⟩
  funext b
  by_cases e1:b=s.heap.objs.size + 1
  ·subst e1;rw [Aw,Aw]
  ·by_cases e2:b=dx
   ·subst e2;rw [Al e1,Al e1,Aw,Aw]
   ·rw [Al e1,Al e1,Al e2,Al e2,Al e1]
 have hl:([Value.ref (s.heap.objs.size + 1),u]++[]).length=ps.length:=by
  have e:=F.len _ _ _ _ hsp;simpa using e
 obtain ⟨hh,g,d,t,os⟩:=s;refine wpAny_call (QH PySem.F.excBase_ValueError (M.cl.tail I.kIn) hC hN hni ((bind_fn I.kIn _ (beq_iff_eq.mp M.fn))) (by show 1<=sizeLine;decide) ?_);refine codeAny_mono (F.run _ X.stack _ _ ⟨[Value.ref (hh.objs.size + 1),u],[]⟩ [Value.ref (hh.objs.size + 1),u] _ _ E0 (hr.make C [u] []) (I1.env0.make C [u] []) (by have:=hb _ [Value.ref (hh.objs.size + 1),u] I1.kIn hl;simpa using this) r2 hsp) λr s' hq'=>?_
 cases r with
 | error e=>exact hq'.elim
 | ok fl=>
   cases fl with
   | ret w'=>
     obtain ⟨v',H',I3,rv,rfl,dx,d1,d2,rfl⟩:=I1.after hq';refine ⟨rv,?_⟩;have hx:=(I3.hok (hh.objs.size + 1) _ Aw).1;have hx:s'.heap.get? (hh.objs.size + 1)=some { excObj C hh.objs.size with dict:=some dx }:=hx;have xr:XRec true s'.heap (hh.objs.size + 1) C (some dx) .none:=⟨_,_,hx,rfl,rfl,rfl,rfl,λ_=>⟨rfl,by show 4 < 6;decide⟩⟩;have I4:=I3.write (x:=hh.objs.size + 1) (e:=hh.objs.size + 1) (o:=.ext (F2.XIs qx (hh.objs.size + 1) C (some dx))) (h':=s'.heap) (t':=s'.toks) (by rw [Aw];trivial) (.inl rfl) (λ_ _ _ z=>z) ⟨_,hx⟩ (Oe xr.to.is);rw [UU] at I4;exact h s' (hh.objs.size + 1) dx I4 hx0 d1 d2 (Nat.le_succ _) xr
   | next=>exact False.elim hq'
   | brk=>exact False.elim hq'
   | cont=>exact False.elim hq'
end
end L2
namespace L2
open PySem PySem.Spec PyProof.Rows PySem.W
variable {qx:Bool}
section
variable {M:Model}{A:Around}{E:Value->Shared->Prop}{K:PySem.W.Frag}{s:Shared}{x C C':Addr}{bm bm':List Value}{dx:Option Addr}{tb:Value}
theorem QI {Q:Bool->Shared->Prop}(c:XCl K C bm)(c':XCl K C' bm')(X:K.In s.heap)(hx:XRec qx s.heap x C dx tb)(h:Q ((Value.ref C :: bm).contains (.ref C')) s):wpAny M A (excMatches (.ref x) (.ref C')) Q E s:=by
 obtain ⟨nm,q,N,bs,sn,sub,ab,col,dd,k0,k1,k2,k3,k5,hC,_⟩:=c.obj X;obtain ⟨nm',q',N',bs',sn',sub',ab',col',dd',k0',k1',k2',k3',k5',hC',_⟩:=c'.obj X;have hb:=c'.has X;obtain ⟨o,vs,ho,hc,hd,hdt,h1⟩:=hx;obtain ⟨hp,g,d,tk,os⟩:=s;have ty:(⟨hp,g,d,tk,os⟩:Shared).TypeIs (.ref C') "type":=⟨_,hC',rfl⟩;have nt:=tc_notTuple
 cases hbb:(Value.ref C :: bm).contains (.ref C') <;> (
  rw [hbb] at h;unfold excMatches
  repeat (first
   | (with_reducible refine wpAny_loadPart_at ho ?_;rw [hc])
   | with_reducible refine wpAny_loadPart_at hC' ?_
   | (with_reducible refine wpAny_isSubtype_exc hC' ?_;rw [hb])
   | (with_reducible refine wpAny_isSubtype_exc hC ?_;rw [hbb])
   | wp_step)
  exact h)
end
end L2
namespace L2
open PySem PySem.Spec PyProof.Rows PySem.W
variable {qx:Bool}
def P3 (h:Heap)(T:Addr)(fl:Value):Prop:=∃(o:Obj) (ts:Array Value),h.get? T=some o/\o.data = .fields ts/\ts[3]?=some fl
section
variable {M:Model}{A:Around}{E:Value->Shared->Prop}{s:Shared}{env:Env}{outer:List Env}{base:Heap}{L x C:Addr}{dx:Option Addr}{tb:Value}{Q:Unit->Shared->Prop}
theorem JF {hadNext:Bool}{hd:Value}(hfr:A.frames=some (env :: outer))(hl:s.heap.FunFrames base (env :: outer))(hf:env.frame=some L)(hx:XRec qx s.heap x C dx tb)
 (h:∀h' T,s.heap.objs.size<=T->T≠x->XRec qx h' x C dx (.ref T)->P3 h' T (rawInt L)->XKeep (frs (env :: outer)) [x] s.heap h'->Q () { s with heap:=h' }) :
 wpAny M A (do let fo <-frameOf env;let at' <-entryPlaceOf L hadNext;let en <-EntryCells.newEntry hd fo .none (rawInt L) .none at';setField (.ref x) 1 en) Q E s:=by
 obtain ⟨ox,vs,gx,cx,dxe,dtx,tbx,xc⟩:=hx;have v1:1 < vs.size:=(Array.getElem?_eq_some_iff.mp tbx).1;have nfr:x∉frs (env :: outer):=λz=>by
  obtain ⟨_,o2,g2,n2⟩:=hl.mem z;rw [gx] at g2;cases g2
  exact n2 vs dtx
 refine wpAny_bind (wpAny_frameOf_fun hfr hl hf λh1 so=>?_);refine wpAny_bind (wpAny_entryPlaceOf λat' ip=>?_);unfold EntryCells.newEntry newFields;refine wpAny_bind (wpAny_newObj_type ?_ (ip.sizeOk5 _ _ _ _ _));generalize hne:(Obj.mk (Value.type "traceback") none (Data.fields ([hd,Value.ref L,Value.none,rawInt L,Value.none]++if at'.isEmpty=true then List.replicate 6 Value.none else at').toArray) #[])=nob;have dn:nob.data = .fields ([hd,Value.ref L,Value.none,rawInt L,Value.none]++if at'.isEmpty=true then List.replicate 6 Value.none else at').toArray:=by rw [<-hne]
 have gx1:h1.get? x=some ox:=(so.2.1 x nfr).trans gx;have gx2:(h1.push nob).get? x=some ox:=Heap.get?_push_of_some _ gx1;have nex:h1.objs.size≠x:=Nat.ne_of_gt (Heap.lt_size gx1);refine wpAny_setField gx2 dtx v1 ?_;obtain ⟨m1,m2,m3⟩:=K2 dtx (·.setIfInBounds 1 (Value.ref h1.objs.size));have gx3:=Heap.get?_update_self (Obj.mapFields (·.setIfInBounds 1 (Value.ref h1.objs.size))) gx2 (Obj.isFreed_of_fields m1);have gT2:(h1.push nob).get? h1.objs.size=some nob:=Heap.get?_push_size h1 (Obj.isFreed_of_fields dn);have gT3:=(Heap.get?_update_other (h1.push nob) (Obj.mapFields (·.setIfInBounds 1 (Value.ref h1.objs.size))) (Ne.symm nex)).trans gT2;have vx:(vs.setIfInBounds 1 (Value.ref h1.objs.size))[1]?=some (.ref h1.objs.size):=by simp [v1]
 have old:∀b o,b≠x->h1.get? b=some o->((h1.push nob).update x (Obj.mapFields (·.setIfInBounds 1 (Value.ref h1.objs.size)))).get? b=some o:=λb o hb e=>by
  rw [Heap.get?_update_other _ _ (Ne.symm hb)];exact Heap.get?_push_of_some _ e
 refine h _ h1.objs.size (Nat.le_of_eq so.1.symm) nex ⟨_,_,gx3,m2.trans cx,m3.trans dxe,m1,vx,Vt xc⟩ ⟨_,_,gT3,dn,?_⟩ ⟨λb o hb hbf e=>old b o (λz=>hb (by simp [z])) ((so.2.1 b hbf).trans e),λb o hb e=>?_⟩
 ·rw [List.getElem?_toArray];rfl
 ·obtain ⟨sl,e1⟩:=so.2.2 b o e;exact ⟨sl,old b _ (λz=>hb (by simp [z])) e1⟩
end
structure XOn (qx:Bool)(X:Cx)(pins:List (Addr×Obj))(H:Hp)(s:Shared)(x C:Addr)(dx:Option Addr)(T:Option Addr)(fl:Value):Prop where
 hx:H x=some (.ext (F2.XIs qx x C dx))
 nx:X.s₀.heap.objs.size<=x
 rc:XRec qx s.heap x C dx (match T with | some a=>.ref a | none=>.none)
 tb:∀a,T=some a->a≠x/\H a=none/\X.s₀.heap.objs.size<=a/\(a≠X.env.locals/\(∀y c,X.env.cells.lookup y=some c->c≠a)/\∀p∈X.pn++pins,p.1≠a)/\P3 s.heap a fl
 fo:fl = .none\/fl=rawInt X.env.locals
section
variable {M:Model}{A:Around}{Er:Value->Shared->Prop}{X:Cx}{pins:List (Addr×Obj)}{σ:St}{H:Hp}{s:Shared}{x C:Addr}{dx T:Option Addr}{fl:Value}{Q:Unit->Shared->Prop}
theorem Hg (fr:Option Addr)(I:Inv X pins σ H s){a:Addr}(o:XOn qx X pins H s x C dx (some a) fl)(hfr:fr=none\/fr=some X.env.locals)
 (k:∀h',Inv X pins σ H { s with heap:=h' }->XOn qx X pins H { s with heap:=h' } x C dx (some a) (fr.elim Value.none λf=>rawInt f)->Q () { s with heap:=h' }):wpAny M A (setFlight (.ref x) fr) Q Er s:=by
 obtain ⟨ox,vs,gx,cx,dxe,dtx,tbx,xc⟩:=id o.rc;obtain ⟨ne,hT,nT,oT,ot,ts,gT,dT,t3⟩:=o.tb a rfl;unfold setFlight;refine wpAny_bind (wpAny_field gx dtx tbx ?_);rw [if_pos (show (Value.ref a != Value.none)=true from rfl)];refine wpAny_setField gT dT (Array.getElem?_eq_some_iff.mp t3).1 ?_;obtain ⟨m1,m2,m3⟩:=K2 dT (·.setIfInBounds 3 (fr.elim Value.none λf=>rawInt f));have gT2:=Heap.get?_update_self (Obj.mapFields (·.setIfInBounds 3 (fr.elim Value.none λf=>rawInt f))) gT (Obj.isFreed_of_fields m1);have oth:∀b,b≠a->(s.heap.update a (Obj.mapFields (·.setIfInBounds 3 (fr.elim Value.none λf=>rawInt f)))).get? b=s.heap.get? b:=λb z=>Heap.get?_update_other _ _ (Ne.symm z);have rc':XRec qx (s.heap.update a (Obj.mapFields (·.setIfInBounds 3 (fr.elim Value.none λf=>rawInt f)))) x C dx (.ref a):=⟨ox,vs,(oth x (Ne.symm ne)).trans gx,cx,dxe,dtx,tbx,xc⟩;refine k _ (I.left o.hx hT o.nx nT (ch:=[a]) ⟨λb u hb _ e=>(oth b (by simpa using hb)).trans e,λb u hb e=>⟨u.slots,(oth b (by simpa using hb)).trans e⟩⟩ (λb hb=>.inr (by simpa using hb)) rc'.is oT.2.1 oT.1 oT.2.2) ⟨o.hx,o.nx,rc',λa' e=>?_,?_⟩
 ·cases e
  exact ⟨ne,hT,nT,oT,_,_,gT2,m1,by rw [Array.getElem?_setIfInBounds_self,if_pos (Array.getElem?_eq_some_iff.mp t3).1]⟩
 ·rcases hfr with rfl | rfl
  ·exact .inl rfl
  ·exact .inr rfl
theorem HE (hA:A.frames=some X.stack)(I:Inv X pins σ H s)(hs:X.stack=X.env :: X.outer)(hf:X.env.frame=some X.env.locals)(o:XOn qx X pins H s x C dx T fl)
 (k:∀h' a,Inv X pins σ H { s with heap:=h' }->XOn qx X pins H { s with heap:=h' } x C dx (some a) (rawInt X.env.locals)->Q () { s with heap:=h' }):wpAny M A (noteFrame (.ref x) X.env) Q Er s:=by
 obtain ⟨ox,vs,gx,cx,dxe,dtx,tbx,xc⟩:=id o.rc;have fin:∀(s1:Shared) (hh:∃h1,s1 = { s with heap:=h1 }) (ch:List Addr) (h':Heap) (a:Addr),Inv X pins σ H s1->s1.heap.objs.size<=a->a≠x->XRec qx h' x C dx (.ref a)->P3 h' a (rawInt X.env.locals)->XKeep (frs (X.env :: X.outer)) [x] s1.heap h'->Q () { s1 with heap:=h' }:=by
  rintro s1 ⟨h1,rfl⟩ ch h' a I1 l1 l2 l3 l4 l5;obtain ⟨o1,o2,o3⟩:=I1.newT l1;have J:=I1.left o.hx (I1.hok.fresh l1) o.nx (Nat.le_trans I1.sz l1) (ch:=[x]) (hs ▸ l5) (λb hb=>.inl (by simpa using hb)) l3.is o2 o1 o3;exact k h' a J ⟨o.hx,o.nx,l3,λa' e=>by cases e;exact ⟨l2,I1.hok.fresh l1,Nat.le_trans I1.sz l1,⟨o1,o2,o3⟩,l4⟩,.inr rfl⟩
 unfold noteFrame;simp only [hf];refine wpAny_bind (wpAny_field gx dtx tbx ?_)
 cases T with
 | none=>
   rw [if_neg (by decide)];exact JF (hA.trans (congrArg some hs)) (hs ▸ I.stack) hf o.rc λh' a l1 l2 l3 l4 l5=>fin s ⟨s.heap,rfl⟩ [] h' a I l1 l2 l3 l4 l5
 | some T₀=>
   obtain ⟨ne,hT,nT,oT,ot,ts,gT,dT,t3⟩:=o.tb T₀ rfl;rw [if_pos (show (Value.ref T₀ != Value.none)=true from rfl)];refine wpAny_bind (wpAny_field gT dT t3 ?_);rcases o.fo with rfl | rfl
   ·rw [if_neg (show ¬((Value.none == rawInt X.env.locals)=true) from by simp [rawInt])];refine wpAny_bind (wpAny_setField gT dT (Array.getElem?_eq_some_iff.mp t3).1 ?_);have oth:∀b,b≠T₀->(s.heap.update T₀ (Obj.mapFields (·.setIfInBounds 3 Value.none))).get? b=s.heap.get? b:=λb z=>Heap.get?_update_other _ _ (Ne.symm z);have rc':XRec qx (s.heap.update T₀ (Obj.mapFields (·.setIfInBounds 3 Value.none))) x C dx (.ref T₀):=⟨ox,vs,(oth x (Ne.symm ne)).trans gx,cx,dxe,dtx,tbx,xc⟩;have J:=I.left o.hx hT o.nx nT (ch:=[T₀]) ⟨λb u hb _ e=>(oth b (by simpa using hb)).trans e,λb u hb e=>⟨u.slots,(oth b (by simpa using hb)).trans e⟩⟩ (λb hb=>.inr (by simpa using hb)) rc'.is oT.2.1 oT.1 oT.2.2;exact JF (s:={ s with heap:=s.heap.update T₀ (Obj.mapFields (·.setIfInBounds 3 Value.none)) }) (hA.trans (congrArg some hs)) (hs ▸ J.stack) hf rc' λh' a l1 l2 l3 l4 l5=>fin _ ⟨_,rfl⟩ [] h' a J l1 l2 l3 l4 l5
   ·rw [if_pos (show (rawInt X.env.locals == rawInt X.env.locals)=true from by first | (simp;done) | exact beq_self_eq_true _)];exact wpAny_pure (k s.heap T₀ I ⟨o.hx,o.nx,o.rc,o.tb,.inr rfl⟩)
end
def XE (qx:Bool)(X:Cx)(E:St->XK):Value->Shared->Prop:=λe s=>∃pins σ H x C dx T fl,e = .ref x/\Inv X pins σ H s/\XOn qx X pins H s x C dx T fl/\E σ (.ref x) dx H
def Ey (CX:CXT)(X:Cx)(E:St->XK):Prop:=∀(pins:List (Addr×Obj)) (σ:St) (H:Hp) (s:Shared) (e:Value) (s':Shared),Inv X pins σ H s->CX X.stack H s (E σ) e s'->X.xe e s'
section
variable {M:Model}{X:Cx}{E:St->XK}
theorem XE.own (hs:X.stack=X.env :: X.outer)(hf:X.env.frame=some X.env.locals):PassesOwn M X.A X.env (XE qx X E):=by
 rintro e s ⟨pins,σ,H,x,C,dx,T,fl,rfl,I,o,q⟩;refine HE I.ok.frames I hs hf o λh' a I' o'=>?_;obtain ⟨ox,vs,gx,cx,dxe,dtx,tbx,xc⟩:=id o'.rc;unfold cameBackBy;refine wpAny_bind (wpAny_field gx dtx tbx ?_);rw [if_neg (show ¬((Value.ref a == Value.none)=true) from by intro z;cases z)]
 rw [hf];exact Hg _ I' o' (.inr rfl) λh'' I'' o''=>⟨pins,σ,H,x,C,dx,some a,_,rfl,I'',o'',q⟩
theorem XE.pass:Ey (CX1 qx X.prog X.w) (X.wish (XE qx X E)) E:=by
 intro pins σ H s e s' I q;obtain ⟨x,C,dx,T,H',rfl,J,hx,nx,nT,ne,hT,r,tb,q⟩:=I.unwish.raised q;exact ⟨pins,σ,H',x,C,dx,some T,.none,rfl,J,⟨hx,Nat.le_trans I.sz nx,r,λa e=>by cases e;exact ⟨ne,hT,Nat.le_trans I.sz nT,I.unwish.newT nT,tb⟩,.inl rfl⟩,q⟩
end
section
variable {P:Program}{w:World}{K:PySem.W.Frag}{mg:Str->Option Value}{base:Heap}
abbrev cxX (qx:Bool)(P:Program)(w:World)(K:PySem.W.Frag)(mg:Str->Option Value)(base:Heap)(N:List Str)(qual:Str)(scope:Scope)(f:Addr)(cd:Value)(A:Around)(outer:List Env)(s:Shared)(H:Hp)(E:XK):Cx:=
 (DP (CX1 qx P w) P w K mg base N qual scope f cd A outer s H E).wish (XE qx (DP (CX1 qx P w) P w K mg base N qual scope f cd A outer s H E) λ_=>E)
theorem XE.leaves {N:List Str}{qual:Str}{scope:Scope}{f:Addr}{cd:Value}{A:Around}{outer:List Env}{s₀:Shared}{H₀:Hp}{E:XK}{e:Value}{s:Shared}
 (h:XE qx (DP (CX1 qx P w) P w K mg base N qual scope f cd A outer s₀ H₀ E) (λ_=>E) e s):(DP (CX1 qx P w) P w K mg base N qual scope f cd A outer s₀ H₀ E).xe e s:=by
 obtain ⟨pins,σ,H,x,C,dx,T,fl,rfl,I,o,q⟩:=h;refine wpAny_bind (HE I.ok.frames I rfl rfl o λh' a I' o'=>?_);refine Hg none I' o' (.inl rfl) λh'' I'' o''=>?_;obtain ⟨ne,hT,nT,oT,tb⟩:=o''.tb a rfl;exact ⟨x,C,dx,a,H,rfl,I''.os,I''.bare,I''.base,I''.hok,o''.hx,o''.nx,nT,ne,hT,o''.rc,tb,q⟩
theorem Fun.okX {x qual:Str}{st:Stmt}{f:Addr}{fd:FuncData}{N ps:List Str}{k:Nat}{sp:Sp}(F:Fun K x qual st f fd)(S:FnScope N ps (Ax st))(len:∀vs H Q E,sp vs H Q E->vs.length=ps.length)
 (hbody:∀(cdv:Value) (A:Around) (outer:List Env) (s:Shared) (H:Hp) (vs:List V) (Q:VK) (E:XK),Room k (A.deeper (envOfC qual (Ax st) s.heap.objs.size f cdv))->sp vs H Q E->
   ∃t,PSs (cxX qx P w K mg base N qual (Ax st) f cdv A outer s H E) (Bk st) t/\t { nx:=λ_ H'=>Q .non H',rt:=Q } (start N vs) H):FnOk P w K mg base (CX1 qx P w) (k + 1) f fd ps sp:=by
 obtain ⟨oc,od,kV,doc,pm,an,cdv,ct,osl,rfl,lk,hcd⟩:=F.ex;refine R3 lk hcd S len λA outer s H vs Q E hr hsp=>?_;obtain ⟨t,h,q⟩:=hbody cdv A outer s H vs Q E hr hsp;exact ⟨t,λpins s1 σ H1 D I hw=>wpAny_mono (h pins s1 σ H1 D (I.wish _) hw) (λ_ _ q=>q.unwish) λ_ _ z=>z.leaves,q⟩
end
section
variable {X:Cx}{CX:CXT}{k:Nat}{f:Addr}{fd:FuncData}{ps:List Str}{sp:Sp}{E:St->XK}{x:Str}{p pos:Pos}{e:Expr}{es:List Expr}{t:TA}
def Xd (sp:Sp)(E:St->XK)(t:TA):TE:=λσ H Q=>t σ H λvs H1=>sp vs H1 Q (E σ)
theorem QS (F:FnOk X.prog X.w X.K X.mg X.base CX k f fd ps sp)(hr:Room k X.A)(hg:Gl X x)(hm:X.mg x=some (.ref f))(hk:PySem.W.keepIn X.K (.ref f)=true)(hb:Binds X.K fd ps [])(hx:Ey CX X E)
 (ha:PA X (e :: es) t) (hdb:(x == ("__debug__" : Str))=false:=by decide) (he:starEach (e :: es) X.env=(false,eval e X.env) :: starEach es X.env:=by rfl) (hpl:(backTo pos (starEach es X.env)).any (·.1)=false:=by rfl) :
 PE X (.Call (.Name x p) (e :: es) [] pos) (Xd sp E t):=by
 intro pins s σ H Q I h;refine wpAny_Call_Name_kw (Fr I hg hm ?_ hdb);refine PySem.W.callWith_K (h₀:=X.base) I.ok.mod.kin hk (thn (ha pos pins s σ H _ I h) λus s1 z9=>?_) he hpl;obtain ⟨vs,H1,I1,r,q⟩:=z9;refine ⟨I1.kIn,?_⟩;have hl:(us++[]).length=ps.length:=by rw [List.append_nil,<-r.length];exact F.len _ _ _ _ q
 refine wpAny_call (codeAny_mono (F.run X.A X.stack s1 H1 ⟨us,[]⟩ us vs Q (E σ) hr I1.env0 (by have:=hb s1 us I1.kIn hl;rwa [List.append_nil] at this) r q) λr s' hq=>?_)
 cases r with
 | error e=>exact hx pins σ H1 s1 e s' I1 hq
 | ok fl=>
   cases fl with
   | ret u=>exact I1.after hq
   | next=>exact False.elim hq
   | brk=>exact False.elim hq
   | cont=>exact False.elim hq
end
end L2
namespace L2
open PySem PySem.Spec PyProof.Rows PySem.W
variable {qx:Bool}
def PM (qx:Bool)(X:Cx)(e:Expr)(C:Addr)(t:St->Hp->(Addr->Option Addr->Hp->Prop)->Prop):Prop:=
 ∀(pins:List (Addr×Obj)) (s:Shared) (σ:St) (H:Hp) (Q:Addr->Option Addr->Hp->Prop),Inv X pins σ H s->t σ H Q->
  wpAny (model X.prog X.w) X.A (eval e X.env) (λv s1=>∃x dx H1,v = .ref x/\Inv X pins σ H1 s1/\H1 x=some (.ext (F2.XIs qx x C dx))/\X.s₀.heap.objs.size<=x/\XRec true s1.heap x C dx .none/\Q x dx H1) X.xe s
def HV (qx:Bool)(X:Cx)(E:St->XK):Prop:=∀(pins:List (Addr×Obj)) (σ:St) (H:Hp) (s:Shared) (x C:Addr) (dx:Option Addr),Inv X pins σ H s->XOn qx X pins H s x C dx none .none->E σ (.ref x) dx H->X.xe (.ref x) s
theorem XE.raises {X:Cx}{E:St->XK}:HV qx (X.wish (XE qx X E)) E:=λpins σ H s x C dx I o q=>⟨pins,σ,H,x,C,dx,none,.none,rfl,I.unwish,⟨o.hx,o.nx,o.rc,o.tb,o.fo⟩,q⟩
theorem Q0 {X:Cx}{e:Expr}{C:Addr}{bm:List Value}{t:St->Hp->(Addr->Option Addr->Hp->Prop)->Prop}{E:St->XK}{pos:Pos}(hc:X.calm=true)(c:XCl X.K C bm)(hx:HV qx X E)(h:PM qx X e C t)
 (ho:evalOpt (some e) X.env=some (eval e X.env):=by rfl):PS X (.Raise (some e) none pos) (λ_ σ H=>t σ H λx dx H1=>E σ (.ref x) dx H1):=by
 intro pins s σ H D I q;rw [arm_exec_Raise,ho];refine wpAny_bind (wpAny_standAt ?_);refine Q7 (qx:=true) c (I.ok.hd hc) ?_;refine wpAny_bind (wpAny_mono (h pins s σ H _ I q) (λv s1 z9=>?_) λ_ _ z=>z);obtain ⟨x,dx,H1,e1,I1,hx1,nx,r,q1⟩:=z9;subst e1;refine wpAny_bind (wpAny_standAt (wpAny_pure ⟨x,dx,rfl,I1.kIn,r,hx pins σ H1 s1 x C dx I1 ⟨hx1,nx,r.to,(λa e=>by cases e),.inl rfl⟩ q1⟩))
section
variable {prog:Program}{w:World}{A:Around}{E:Value->Shared->Prop}{h:Heap}{g:Array GenState}{d:Drawn}{t:Nat}{os:OsState}{Q:Value->Shared->Prop}
variable {nm q:Str}{C N:Addr}{bs bm bmB:List Value}{hdct:Bool}{sn:List Str}{sub:List Value}{ab:Bool}{col:Option Bool}{dd:Option Addr}{k0 k1 k2 k3 k5:Option Value}{B newId initId:String}{mN:Str->Option Value}
end
section
variable {X:Cx}{k:Nat}{f C P:Addr}{fd:FuncData}{a:Str}{ps:List Str}{n:Str}{p pos:Pos}{e:Expr}{es:List Expr}
theorem WJ {t:TA}(M:XMk X.K C P f)(ha:XAt X.K C P a)(F:FnOk X.prog X.w X.K X.mg X.base CX0 k f fd ps (spI X.K P a))(hr:Room (k + 1) X.A)(hb:Binds X.K fd ps [])(hg:Gl X n)(hm:X.mg n=some (.ref C))(hA:PA X [e] t)
 (hdb:(n == ("__debug__" : Str))=false:=by decide) (h1:starEach [e] X.env=[(false,eval e X.env)]:=by rfl) :
 PM qx X (.Call (.Name n p) [e] [] pos) C (λσ H Q=>t σ H λvs H1=>∃v,vs=[v]/\∀x dx,H1 x=none->H1 dx=none->dx≠x->Q x (some dx) (upd (upd H1 dx (.xd [(a,v)])) x (.ext (F2.XIs qx x C (some dx))))):=by
 intro pins s σ H Q I h;refine wpAny_Call_Name_kw (Fr I hg hm ?_ hdb);refine PySem.W.callWith_K (h₀:=X.base) I.ok.mod.kin M.kp (thn (hA pos pins s σ H _ I h) λus s1 z9=>?_) h1 rfl;obtain ⟨vs,H1,I1,r,v,ev,q⟩:=z9;refine ⟨I1.kIn,?_⟩;subst ev
 cases r with
 | cons r0 rs=>
   cases rs
   exact Pi M ha F hr hb I1 r0 λs' x dx I' hx hdx ne nx rc=>⟨x,some dx,_,rfl,I',Aw,Nat.le_trans I1.sz nx,rc,q x dx hx hdx ne⟩
end
end L2
namespace L2
open PySem PySem.Spec PyProof.Rows PySem.W
variable {qx:Bool}
abbrev Cx.mark (X:Cx)(x:Addr):Cx:={ X with A:=X.A.mark (some (.ref x)),calm:=false,xe:=λ_ _=>False }
section
variable {X:Cx}{pins:List (Addr×Obj)}{σ:St}{H:Hp}{s:Shared}{D:Ends}
theorem Inv.mark (I:Inv X pins σ H s)(x:Addr):Inv (X.mark x) pins σ H s:=
 ⟨⟨I.ok.mod,I.ok.kind,I.ok.glob,I.ok.blt,I.ok.above,I.ok.inj,I.ok.has,I.ok.cab,(λz=>by cases z),I.ok.frames,I.ok.stk,I.ok.exf,I.ok.bs,I.ok.bsz,I.ok.noex,I.ok.exfs,I.ok.funs,I.ok.frf⟩,I.os,I.bare,I.base,I.loc,I.cell,I.free,I.freeC,I.pin,I.hok,I.len⟩
theorem Inv.unmark {x:Addr}(J:X.Ok)(I:Inv (X.mark x) pins σ H s):Inv X pins σ H s:=⟨J,I.os,I.bare,I.base,I.loc,I.cell,I.free,I.freeC,I.pin,I.hok,I.len⟩
theorem Inv.repin {pn' pins':List (Addr×Obj)}{xe:Value->Shared->Prop}(I:Inv X pins σ H s)(h:∀p∈pn'++pins',p∈X.pn++pins):Inv { X with pn:=pn',xe:=xe } pins' σ H s:=
 ⟨⟨I.ok.mod,I.ok.kind,I.ok.glob,I.ok.blt,I.ok.above,I.ok.inj,I.ok.has,I.ok.cab,I.ok.hd,I.ok.frames,I.ok.stk,I.ok.exf,I.ok.bs,I.ok.bsz,I.ok.noex,I.ok.exfs,I.ok.funs,I.ok.frf⟩,I.os,I.bare,I.base,I.loc,I.cell,I.free,I.freeC,λp hp=>I.pin p (h p hp),I.hok,I.len⟩
theorem F4 {M:Model}{A:Around}{E:Value->Shared->Prop}{i:Nat}{n:Str}{pos:Pos}{Q:Unit->Shared->Prop}(I:Inv X pins σ H s)(hN:X.N.Nodup)(hi:X.N[i]?=some n)(hk:X.env.scope.names.lookup n=some .local)
 (h:∀s',Inv X pins (σ.set i none) H s'->Q () s'):wpAny M A (do bindName X.env n .none;unbindBehindTheSuite X.env n pos) Q E s:=by
 refine wpAny_bind (wpAny_bindName (F1 (v:=.non) I hN hi (.inl hk) rfl (λs1 I1=>?_) (.inr hk)));unfold unbindBehindTheSuite;have hiσ:i < σ.length:=by rw [I.len];exact (List.getElem?_eq_some_iff.mp hi).1
 obtain ⟨m,hn,hl⟩:=id I1.loc;have hcls:(X.env.scope.kind == .class || (X.env.scope.kind == .module && X.env.locals != X.env.globals))=false:=by rw [I.ok.kind];rfl
 obtain ⟨u0,_,lk⟩:=hl i n .non hi (by rw [List.getElem?_set_self hiσ]) (.inl hk);have hv:m n=some u0:=by
  rcases lk with ⟨_,e⟩ | ⟨k,_⟩
  ·exact e
  ·have k:X.env.scope.names.lookup n=some .cell\/X.env.scope.names.lookup n=some .free:=k;rw [hk] at k;rcases k with k | k <;> cases k
 refine wpAny_onRaise (wpAny_unbindName_local hk hn hv hcls λh' u hn' hs=>?_);have cne:=I1.cne;have tracked:HOk X.prog X.w H h':=λb ob e=>by
  refine (I1.hok b ob e).stay (λc w' hc q=>(hs.2 c ?_).trans q) (λ_ q=>q) λ_ _ q=>q;rintro rfl;rcases hc with rfl | hc
  ·rw [I1.free] at e;cases e
  ·rw [I1.free] at hc;cases hc
 have far:∀b o,X.s₀.heap.get? b=some o->b≠X.env.locals:=λb o e=>Nat.ne_of_lt (Nat.lt_of_lt_of_le (Heap.lt_size e) I1.ok.above);refine h _ ⟨I1.ok,I1.os,I1.bare,⟨λb o e n hb hx=>?_,λb o e n hb hx=>?_,I1.base.free,λb o e hx=>?_,I1.base.tups,I1.base.frzs,I1.base.tbls⟩,⟨_,hn',λj y v' e1 e2 e3=>?_⟩,λy c e=>?_,I1.free,I1.freeC,λp hp=>?_,tracked,by simpa using I.len⟩
 ·exact (hs.2 b (far b o e)).trans (I1.base.keep b o e n hb hx)
 ·obtain ⟨sl,e1⟩:=I1.base.slot b o e n hb hx;exact ⟨sl,(hs.2 b (far b o e)).trans e1⟩
 ·obtain ⟨o',e1⟩:=I1.base.there b o e hx;exact ⟨o',(hs.2 b (far b o e)).trans e1⟩
 ·by_cases hj:j=i
  ·subst hj;rw [List.getElem?_set_self hiσ] at e2
   cases e2
  ·rw [List.getElem?_set_ne (Ne.symm hj)] at e2;obtain ⟨u',r',q⟩:=hl j y v' e1 (by rw [List.getElem?_set_ne (Ne.symm hj)];exact e2) e3;refine ⟨u',r',?_⟩;rcases q with ⟨k,e⟩ | ⟨k,c,e,z⟩
   ·refine .inl ⟨k,?_⟩;have:y≠n:=λe=>hj (HD hN e1 (e ▸ hi));simp [this,e]
   ·exact .inr ⟨k,c,e,z.sameBut hs (cne y c e)⟩
 ·obtain ⟨w',z⟩:=I1.cell y c e;exact ⟨w',z.sameBut hs (cne y c e)⟩
 ·obtain ⟨e,n,ne,nf,d⟩:=I1.pin p hp;exact ⟨(hs.2 p.1 ne).trans e,n,ne,nf,d⟩
end
def PH (qx:Bool)(X:Cx)(hs:List ExceptHandler)(th:Addr->Addr->Option Addr->TS):Prop:=∀(pins:List (Addr×Obj)) (s:Shared) (σ:St) (H:Hp) (x C:Addr) (dx:Option Addr) (T:Addr) (D:Ends),Inv X pins σ H s->XOn qx X pins H s x C dx (some T) .none->th x C dx D σ H->
 wpAny (model X.prog X.w) X.A (handleBy (.ref x) X.env hs) (SP X pins D) X.xe s
noncomputable def Ends.unset (D:Ends)(i:Nat):Ends:={ nx:=λσ H=>D.nx (σ.set i none) H,rt:=D.rt,bk:=λσ H=>D.bk (σ.set i none) H,ct:=λσ H=>D.ct (σ.set i none) H }
section
variable {X:Cx}{n v:Str}{C':Addr}{bm':List Value}{p pos:Pos}{b₀:Stmt}{suite:List Stmt}{rest:List ExceptHandler}{ts:Addr->TS}{tr:Addr->Addr->Option Addr->TS}{i:Nat}
def Ze (K:PySem.W.Frag)(C':Addr)(i:Nat)(ts:Addr->TS)(tr:Addr->Addr->Option Addr->TS):Addr->Addr->Option Addr->TS:=λx C dx D σ H=>∃bm,XCl K C bm/\
 if (Value.ref C :: bm).contains (.ref C')=true then ts x (D.unset i) (σ.set i (some (.ref x))) H else tr x C dx D σ H
theorem XS (hg:Gl X n)(hm:X.mg n=some (.ref C'))(c':XCl X.K C' bm')(hN:X.N.Nodup)(hi:X.N[i]?=some v)(hl:X.env.scope.names.lookup v=some .local)(hb:∀x,PSs (X.mark x) (b₀ :: suite) (ts x))(hr:PH qx X rest tr)
 (hdb:(n == ("__debug__" : Str))=false:=by decide):PH qx X (.ExceptHandler (some (.Name n p)) (some v) (b₀ :: suite) pos :: rest) (Ze X.K C' i ts tr):=by
 intro pins s σ H x C dx T D I o ⟨bm,c,q⟩;have Im:=I.mark x;refine wpAny_handleBy_cons (codeAny_handlers_test (Fr Im hg hm ?_ hdb)) (by intro z;cases z)
 refine QI c c' I.kIn o.rc ?_
 cases hc:(Value.ref C :: bm).contains (.ref C') with
 | false=>
   rw [hc,if_neg (by decide)] at q;exact hr pins s σ H x C dx T D I o q
 | true=>
   rw [hc,if_pos rfl] at q;refine codeAny_handlers_suite_as ?_;refine Hg none I o (.inl rfl) λh1 I1 o1=>?_;refine F1 (v:=.ref x) I1 hN hi (.inl hl) rfl (λs2 I2=>?_) (.inr hl);refine wpAny_mono (hb x pins s2 _ H _ (I2.mark x) q) (λf s3 z=>?_) λ_ _ z=>z.elim;show wpAny _ _ _ _ _ _;have J:=I.ok
   cases f with
   | next=>obtain ⟨σ',H',I',q'⟩:=z;exact F4 (I'.unmark J) hN hi hl λs4 I4=>⟨_,H',I4,q'⟩
   | brk=>obtain ⟨σ',H',I',q'⟩:=z;exact F4 (I'.unmark J) hN hi hl λs4 I4=>⟨_,H',I4,q'⟩
   | cont=>obtain ⟨σ',H',I',q'⟩:=z;exact F4 (I'.unmark J) hN hi hl λs4 I4=>⟨_,H',I4,q'⟩
   | ret u=>obtain ⟨w,σ',H',I',r,q'⟩:=z;exact F4 (I'.unmark J) hN hi hl λs4 I4=>⟨w,_,H',I4,r,q'⟩
theorem WK {body:List Stmt}{h₀:ExceptHandler}{hs:List ExceptHandler}{tb:(St->XK)->TS}{th:Addr->Addr->Option Addr->TS}(h1:X.stack=X.env :: X.outer)(h2:X.env.frame=some X.env.locals)
 (hb:∀(pn:List (Addr×Obj)) (E:St->XK),PSs { X with pn:=pn,xe:=XE qx { X with pn:=pn } E } body (tb E)) (hh:PH qx X (h₀ :: hs) th) :
 PS X (.Try body (h₀ :: hs) [] [] pos) (λD σ H=>tb (λσ' v dx H'=>∀x C,v = .ref x->H' x=some (.ext (F2.XIs qx x C dx))->(∃h,F2.XIs qx x C dx h)->th x C dx D σ' H') D σ H):=by
 intro pins s σ H D I q;refine wpAny_Try_except ?_;refine wpAny_mono (hb (X.pn++pins) _ [] s σ H D (I.repin λp hp=>by simpa using hp) q) (λf s1 z=>?_) λe s1 z=>?_
 ·have back:∀{σ':St} {H':Hp},Inv { X with pn:=X.pn++pins,xe:=XE qx { X with pn:=X.pn++pins } (λσ' v dx H'=>∀x C,v = .ref x->H' x=some (.ext (F2.XIs qx x C dx))->(∃h,F2.XIs qx x C dx h)->th x C dx D σ' H') } [] σ' H' s1->Inv X pins σ' H' s1:=λJ=>J.repin (X:={ X with pn:=X.pn++pins,xe:=_ }) (pn':=X.pn) (pins':=pins) (xe:=X.xe) λp hp=>by simpa using hp
  cases f with
  | next=>obtain ⟨σ',H',J,q'⟩:=z;exact wpAny_execs_nil ⟨σ',H',back J,q'⟩
  | brk=>obtain ⟨σ',H',J,q'⟩:=z;exact ⟨σ',H',back J,q'⟩
  | cont=>obtain ⟨σ',H',J,q'⟩:=z;exact ⟨σ',H',back J,q'⟩
  | ret u=>obtain ⟨w,σ',H',J,r,q'⟩:=z;exact ⟨w,σ',H',back J,r,q'⟩
 ·obtain ⟨pins',σ',H',x,C,dx,T,fl,rfl,J,o,q'⟩:=z;have J1:Inv X pins σ' H' s1:=J.repin (X:={ X with pn:=X.pn++pins }) (pn':=X.pn) (pins':=pins) (xe:=X.xe) λp hp=>by
   simp only [List.mem_append] at hp ⊢;exact .inl hp
  have o1:XOn qx X pins H' s1 x C dx T fl:=⟨o.hx,o.nx,o.rc,λa e=>by
   obtain ⟨z1,z2,z3,⟨y1,y2,y3⟩,z5⟩:=o.tb a e;exact ⟨z1,z2,z3,⟨y1,y2,λp hp=>y3 p (by simp only [List.mem_append] at hp ⊢;exact .inl hp)⟩,z5⟩,o.fo⟩
  refine HE J1.ok.frames J1 h1 h2 o1 λh' a I' o'=>Hg none I' o' (.inl rfl) λh'' I'' o''=>?_;exact hh pins _ σ' H' x C dx a D I'' o'' (q' x C rfl o.hx ⟨_,o.rc.is⟩)
end
end L2
namespace F2
open PySem L2 PySem.Spec
variable {qx:Bool}
noncomputable def A8:D->Bool
 | .exc _ _=>true
 | _=>false
def exE (E:XK)(v:V)(H:Hp):Prop:=∀x dx,v = .ref x->E (.ref x) dx H
section
variable (K:PySem.W.Frag)
inductive RX (E:L2.St->XK)(f:M D)(σ:L2.St)(H:Hp)(Q:VK):Prop where
 | mk (Oo:Addr->Prop) (c:Cf) (t:T) (fi:FInv K Oo c t σ H) (r:D) (t':T) (e:f t=some (r,t')) (k:∀v H' c',FInv K Oo c' t' σ H'->Stp Oo c H c' H'->Rep K c' H' v r->if A8 r=true then exE (E σ) v H' else Q v H'):RX E f σ H Q
def μX (E:XK):Cf->Hp->D->(V->Hp->Prop)->Prop:=λc H r rt=>∀v,Rep K c H v r->if A8 r=true then exE E v H else rt v H
inductive RSX (E:L2.St->XK)(f:M Out)(D:Ends)(σ:L2.St)(H:Hp):Prop where
 | mk (Oo:Addr->Prop) (c:Cf) (t:T) (fi:FInv K Oo c t σ H) (o:Out) (t':T) (e:f t=some (o,t')) (k:∀σ' H' c',FInv K Oo c' t' σ' H'->Stp Oo c H c' H'->
 match (generalizing:=false) o with
 | .next=>D.nx σ' H'
 | .brk=>D.bk σ' H'
 | .cont=>D.ct σ' H'
 | .ret r=>∀v,Rep K c' H' v r->if A8 r=true then exE (E σ') v H' else D.rt v H'):RSX E f D σ H
inductive spX (f:Fn)(vs:List V)(H:Hp)(Q:VK)(E:XK):Prop where
 | mk (c:Cf) (ds:List D) (S:List Ob) (si:SInv K c S H) (rs:Reps K c H vs ds) (r:D) (S':List Ob) (e:f ds S=some (r,S')) (k:∀v H' c',SInv K c' S' H'->Stp c.O c H c' H'->(∀b,c'.O b↔c.O b)->Rep K c' H' v r->if A8 r=true then exE E v H' else Q v H'):spX f vs H Q E
end
def aC (g:Fn):Fn:=λds S=>match g ds S with
 | some (r,S')=>if A8 r=true then none else some (r,S')
 | none=>none
variable {x:Str}{fa:Addr}{fd:FuncData}
section
variable {P:Program}{w:World}{K:PySem.W.Frag}{mg:Str->Option Value}{base:Heap}
theorem Tg {qual:Str}{st:Stmt}{N ps:List Str}{k n m:Nat}{g:M Out}(e1:ps.length=n)(e2:N.length=m)(F:Fun K x qual st fa fd)(S:FnScope N ps (Ax st))
 (hb:∀(cdv:Value) (A:Around) (outer:List Env) (s:Shared) (H:Hp) (E:XK),Room k (A.deeper (PyProof.Rows.envOfC qual (Ax st) s.heap.objs.size fa cdv))->
   Ey (CX1 qx P w) (cxX qx P w K mg base N qual (Ax st) fa cdv A outer s H E) (λ_=>E)->HV qx (cxX qx P w K mg base N qual (Ax st) fa cdv A outer s H E) (λ_=>E)->
   PassesOwn (model P w) (cxX qx P w K mg base N qual (Ax st) fa cdv A outer s H E).A (cxX qx P w K mg base N qual (Ax st) fa cdv A outer s H E).env (cxX qx P w K mg base N qual (Ax st) fa cdv A outer s H E).xe->
   PSs (cxX qx P w K mg base N qual (Ax st) fa cdv A outer s H E) (Bk st) (RSg K (μX K E) g)):FnOk P w K mg base (CX1 qx P w) (k + 1) fa fd ps (spX K (fnOf n m g)):=by
 subst e1 e2;have hlen:∀{ds:List D} {S:List Ob} {z:D×List Ob},fnOf ps.length N.length g ds S=some z->ds.length=ps.length:=λ{ds S z} h=>by
  unfold fnOf at h
  split at h
  ·next h1=>exact h1
  ·cases h
 refine F.okX S (λvs H Q E h=>?_) (λcdv A outer s H vs Q E hr h=>?_)
 ·obtain ⟨c,ds,S,si,rs,r,S',e,_⟩:=h;rw [rs.length];exact hlen e
 obtain ⟨c,ds,S0,si,rs,r,S',e,kk⟩:=h;refine ⟨RSg K (μX K E) g,hb cdv A outer s H E hr XE.pass XE.raises (XE.own rfl rfl),?_⟩;have hl:=hlen e;unfold fnOf at e;rw [if_pos hl] at e
 cases eg:g ⟨env0 N.length ds,S0⟩ with
 | none=>rw [eg] at e;cases e
 | some p=>
   obtain ⟨o,t⟩:=p;rw [eg] at e;refine ⟨c.O,c,_,FL si rs,o,t,eg,λσ' H' c' f' s'=>?_⟩;obtain ⟨si',ext'⟩:=f'.leave;have st':Stp c.O c H ⟨c'.ι,c.O⟩ H':=⟨s'.ext.trans ext',s'.oo⟩
   cases o with
   | next=>cases e;exact kk .non H' _ si' st' (λ_=>Iff.rfl) .non
   | ret d=>cases e;exact λv rv=>kk v H' _ si' st' (λ_=>Iff.rfl) (rv.mono ext')
   | brk=>cases e
   | cont=>cases e
theorem Uw {ps:List Str}{k:Nat}{f g:Fn}(e:f=g)(h:FnOk P w K mg base (CX1 qx P w) k fa fd ps (spX K g)):FnOk P w K mg base (CX1 qx P w) k fa fd ps (spX K f):=by rw [e];exact h
end
section
variable {X:Cx}{e a b:Expr}{es:List Expr}{pos:Pos}{E:L2.St->XK}{st:Stmt}
theorem XZ {E:XK}{f:M Out}(h:PS X st (RSX X.K (λ_=>E) f)):PS X st (RSg X.K (μX X.K E) f):=A3 h λD σ H z9=>by
 obtain ⟨Oo,c,t,fi,o,t',eq,k⟩:=z9;refine ⟨Oo,c,t,fi,o,t',eq,λσ' H' c' f' s'=>?_⟩;have q:=k σ' H' c' f' s'
 cases o <;> exact q
theorem Tp {k:Nat}{ps:List Str}{g:Fn}{f:M (List D)}{p:Pos}(F:FnOk X.prog X.w X.K X.mg X.base (CX1 qx X.prog X.w) k fa fd ps (spX X.K g))(hr:Room k X.A)(hg:Gl X x)(hm:X.mg x=some (.ref fa))(hk:PySem.W.keepIn X.K (.ref fa)=true)(hb:Binds X.K fd ps [])
 (hx:Ey (CX1 qx X.prog X.w) X E) (ha:PA X (e :: es) (RA X.K f)) (hdb:(x == ("__debug__" : Str))=false:=by decide) (h1:AO e=false:=by rfl) (h2:Bb es=true:=by rfl) :
 PE X (.Call (.Name x p) (e :: es) [] pos) (RX X.K E (Ag g f)):=
 AD (QS F hr hg hm hk hb hx ha hdb (AE h1) (AQ h2).1) λσ H Q z9=>by
  obtain ⟨Oo,c,t,fi,r,t',eq,kk⟩:=z9;obtain ⟨ds,t1,e1,eq⟩:=Af eq;obtain ⟨S',e2,rfl⟩:=JD eq;refine ⟨Oo,c,t,fi,ds,t1,e1,λvs H1 c1 f1 s1 rvs=>?_⟩;refine ⟨c1,ds,t1.S,f1.s,rvs,r,S',e2,λv H' c' si st ho rv=>?_⟩;obtain ⟨f2,s2⟩:=f1.after si st ho;exact kk v H' c' f2 (s1.trans s2) rv
def nxD (f:M D):M D:=bnd f λd=>if A8 d=true then fail else ret d
theorem QN {f:M D}{t t':T}{r:D}(h:nxD f t=some (r,t')):f t=some (r,t')/\A8 r=false:=by
 obtain ⟨d,t1,e1,h⟩:=Af h
 by_cases hx:A8 d=true
 ·rw [if_pos hx] at h;cases h
 ·rw [if_neg hx] at h;cases h;exact ⟨e1,by simpa using hx⟩
theorem V0 {r:D}{A B:Prop}(h:A8 r=false)(q:if A8 r=true then A else B):B:=by rw [if_neg (by rw [h];decide)] at q;exact q
def P8 (g:M D)(h:D->M D):M D:=bnd g λy=>if A8 y=true then ret y else nxD (h y)
def ao (f g:M D)(h:D->D->M D):M D:=bnd f λx=>P8 g λy=>h x y
def ap (f g:M D)(h:D->D->M D):M D:=P8 f λx=>bnd g λy=>h x y
def aa (g:Fn)(f:M D):M D:=P8 f λd t=>match g [d] t.S with
 | some (r,S')=>some (r,{ t with S:=S' })
 | none=>none
def Nw (i:Nat)(f:M D):M Out:=bnd f λd=>if A8 d=true then ret (.ret d) else bnd (Ar i d) λ_=>ret .next
theorem Tl {i:Nat}{f:M D}{pos':Pos}(hN:X.N.Nodup)(hi:X.N[i]?=some x)(hx:Loc X.env.scope x)(he:PE X e (RX X.K E f))(hs:swapsWith e (some (.Name x pos')) pos.line X.env=pure false:=by rfl)(hf:X.fn x=true\/X.env.scope.names.lookup x=some .local:=by walk_at "h") :
 PS X (.Assign [.Name x pos'] e pos) (RSX X.K E (Nw i f)):=A3 (Lh hN hi hx he hs hf) λD σ H z9=>by
 obtain ⟨Oo,c,t,fi,o,t',eq,k⟩:=z9;obtain ⟨d,t1,e1,eq⟩:=Af eq;refine ⟨Oo,c,t,fi,d,t1,e1,λv H1 c1 f1 s1 rv=>?_⟩
 by_cases hx:A8 d=true
 ·rw [if_pos hx] at eq ⊢
  cases eq
  have:=k σ H1 c1 f1 s1 v rv;rw [if_pos hx] at this;exact this
 ·rw [if_neg hx] at eq ⊢
  cases eq
  exact k _ H1 c1 (f1.set rv) s1
def am (f:M D):M Out:=bnd f λd=>if A8 d=true then ret (.ret d) else ret .next
def az (f:M D)(g:D->M Unit):M Out:=bnd f λd=>if A8 d=true then ret (.ret d) else bnd (g d) λ_=>ret .next
theorem Qv {f:M Out}(h:PS X st (RSX X.K E f)):PSs X [st] (RSX X.K E f):=Jm h
end
end F2
namespace L2
open PySem PySem.Spec PyProof.Rows PySem.W PySem.Builtin PySem.Builtin.ObjectAttr
structure XGet (K:PySem.W.Frag)(C:Addr):Prop where
 ga:findIn K (.ref C) "__getattribute__" = some (some (.builtin "BaseException.__getattribute__"))
 gt:findIn K (.ref C) "__getattr__" = some none
 mb:mroIn K C (.type "BaseException")=some true
 mo:mroIn K C (.type "object")=some true
 hd:hasDictIn K C=true
section
variable {prog:Program}{w:World}{A:Around}{E:Value->Shared->Prop}{s:Shared}{K:PySem.W.Frag}{x C:Addr}{ox:Obj}{od:Option Obj}{name:Str}{tk:Tok}{Q:Value->Shared->Prop}{R:Result->Shared->Prop}
theorem JG {fill expr:Bool}(X:K.In s.heap)(I:InstAt s.heap x ox C od)(g:XGet K C)
 (h:codeAny (model prog w) A (.call (.builtin "BaseException.__getattribute__") ⟨[.ref x,.str name tk],[]⟩) (λr s'=>match r with | .ok (.ret v)=>wpAny (model prog w) A (handedOut v) Q E s' | _=>False) s) :
 wpAny (model prog w) A (getAttrBy (.ref x) (.str name tk) fill expr) Q E s:=by
 have L0:=I.type (M:=model prog w);have L1:=looks_findIn (M:=model prog w) X g.ga;have L2:=looks_findIn (M:=model prog w) X g.gt;have ne:(onTheHeap (Value.ref C) && Value.builtin "BaseException.__getattribute__" == Value.builtin "object.__getattribute__")=false:=by
  rw [show (Value.builtin "BaseException.__getattribute__" == Value.builtin "object.__getattribute__")=false from by decide +kernel];rfl
 unfold getAttrBy;refine wpAny_holding (wpAny_bind (L0.here (wpAny_bind (L1.here ?_))));show wpAny _ _ (if (onTheHeap (Value.ref C) && Value.builtin "BaseException.__getattribute__" == Value.builtin "object.__getattribute__")=true then _ else _) _ _ _;rw [if_neg (by rw [ne];decide)];unfold getAttrByItsOwn hookBefore;rw [if_pos (show onTheHeap (Value.ref C)=true from rfl)];refine wpAny_bind (L2.here (wpAny_bind (wpAny_attempt (wpAny_holding ?_))));unfold callGetattribute;rw [if_neg (show ¬((expr && onTheHeap (Value.builtin "BaseException.__getattribute__"))=true) from by cases expr <;> decide)];unfold boundAndCalled;refine wpAny_bind (wpAny_of_eq (PySem.F.excAttr_ValueError.ga.bind _) (wpAny_call (codeAny_mono h λr s' z=>?_)))
 cases r with
 | error e=>exact z.elim
 | ok f=>cases f <;> first | exact z | exact z.elim
theorem KS (X:K.In s.heap)(I:InstAt s.heap x ox C od)(g:XGet K C)
 (h:wpAny (model prog w) A.in1 («object.__getattribute__» ⟨[.ref x,.str name tk],[]⟩) (λfin s'=>match fin with | .done f=>R (.ok f) s' | .again c'=>c'.quiet=true/\codeAny (model prog w) A c' R s') (λe s'=>R (.error e) s') s) :
 codeAny (model prog w) A (.call (.builtin "BaseException.__getattribute__") ⟨[.ref x,.str name tk],[]⟩) R s:=by
 have ob:Looks (model prog w) s.heap (isInstance (.ref x) (.type "BaseException")) true:=I.type.andThen (looks_mroIn X g.mb);refine codeAny_call_builtin PySem.F.excAttr_ValueError.ga.plain PySem.F.entry_bexc_ga (@check_slot (model prog w) _ _ s "BaseException.__getattribute__" "BaseException" "__getattribute__" (.ref x) [.str name tk] [] _ (by decide +kernel) (by decide +kernel) ob (PySem.F.args_bexc_ga (.ref x) (.str name tk)) h)
theorem Qw {v:Value}(X:K.In s.heap)(I:InstAt s.heap x ox C od)(g:XGet K C)(hf:findObj K C od name=some (.value v))(h:R (.ok (.ret v)) s) :
 codeAny (model prog w) A (.call (.builtin "BaseException.__getattribute__") ⟨[.ref x,.str name tk],[]⟩) R s:=by
 refine KS X I g ?_;have L0:=I.type (M:=model prog w);have L1:=looks_find (M:=model prog w) X I hf;refine wpAny_bind (wpAny_pure (wpAny_bind (wpAny_pure (wpAny_bind (L0.here (wpAny_bind (L1.here ?_)))))));exact wpAny_pure h
theorem Tq {gg a:Value}(X:K.In s.heap)(I:InstAt s.heap x ox C od)(g:XGet K C)(hf:findObj K C od name=some (.bind gg a))(h:codeAny (model prog w) A.in1 (.call gg ⟨[a,.ref x,.ref C],[]⟩) (λr s'=>match r with | .ok (.ret v)=>R (.ok (.ret v)) s' | .ok _=>False | .error e=>R (.error e) s') s) :
 codeAny (model prog w) A (.call (.builtin "BaseException.__getattribute__") ⟨[.ref x,.str name tk],[]⟩) R s:=by
 refine KS X I g ?_;have L0:=I.type (M:=model prog w);have L1:=looks_find (M:=model prog w) X I hf;refine wpAny_bind (wpAny_pure (wpAny_bind (wpAny_pure (wpAny_bind (L0.here (wpAny_bind (L1.here ?_)))))));show wpAny _ _ (bindTo gg a (.ref x) (.ref C)) _ _ _;unfold bindTo;refine wpAny_bind (wpAny_holding (wpAny_call (codeAny_mono h λr s' z=>?_)))
 cases r with
 | error e=>exact z
 | ok f=>cases f <;> first | exact wpAny_pure z | exact z.elim
end
end L2
namespace L2
open PySem PySem.Spec PyProof.Rows PySem.W
theorem SM (K:PySem.W.Frag):specialIn K (.builtin "object.__class__") "__get__" = some (some (.builtin "getset_descriptor.__get__")):=by kernel_rfl
theorem N4 (K:PySem.W.Frag):takesIn K (.builtin "object.__class__")=some true:=by kernel_rfl
theorem KJ {K:PySem.W.Frag}{C:Addr}{od:Option Obj}(hc:(clsIn K C).isSome=true)(ha:findIn K (.ref C) "__class__" = some (some (.builtin "object.__class__"))):findObj K C od "__class__" = some (.bind (.builtin "getset_descriptor.__get__") (.builtin "object.__class__")):=by
 obtain ⟨cd,hc⟩:=Option.isSome_iff_exists.mp hc;unfold findObj;rw [hc,Option.bind_some,ha,Option.bind_some];simp [SM,N4]
def RU (x C:Addr)(h:Heap):Prop:=∃ox od,InstAt h x ox C od
theorem KZ {K:PySem.W.Frag}{x C:Addr}(g:XGet K C)(ha:findIn K (.ref C) "__class__" = some (some (.builtin "object.__class__"))):KitX K (.ref x) (.ref C) (RU x C) where
 ty:=λ_ _ _ ⟨_,_,I⟩=>I.type
 it:=λ_ _ X _=>by
  obtain ⟨cd,hc,_⟩:=any_some g.hd;unfold clsIn at hc
  split at hc
  ·next ho=>
   intro A' Q' E' s' k q;unfold isType loadHead;exact wpAny_bind (wpAny_loadPart (k _ _ (X _ _ ho)) (wpAny_pure q))
  ·cases hc
 ne:=λh tp dd its n sl X htp=>by
  obtain ⟨cd,hc,_⟩:=any_some g.hd;refine Bool.eq_false_iff.mpr λq=>?_;have e:C=tp:=Value.ref.inj (beq_iff_eq.mp q);subst e;unfold clsIn at hc
  split at hc
  ·next ho=>
   have z:=(X _ _ ho).symm.trans htp
   cases z
  ·cases hc
 ca:=λ{prog w A E Q s} X z9 k=>by
  obtain ⟨ox,od,I⟩:=z9;obtain ⟨cd,hc,_⟩:=any_some g.hd;unfold getAttr? getAttrBy?;refine wpAny_bind (wpAny_mkText (wpAny_bind (wpAny_attempt ?_)));refine JG (s:={ s with toks:=s.toks + 1 }) X I g (Tq X I g (KJ (by rw [hc];rfl) ha) (class_get (s:={ s with toks:=s.toks + 1 }) X I g.mo ?_));exact handed_on rfl (wpAny_pure k)
end L2
namespace F2
open PySem L2 PySem.Spec PySem.W
variable {qx:Bool}
abbrev AM:List Str:=["NoValue", "Short", "Broken", "NoTalk", "NoName", "NoText", "NoRow"]
structure XM (K:PySem.W.Frag)(mg:Str->Option Value)(P:Addr)(ca:Str->Addr):Prop where
 pm:mg "ParleyError" = some (.ref P)
 pc:XCl K P VE
 ns:∀n∈AM,nsIn K mainGlobals n=some (some (.ref (ca n)))
 ms:∀n∈AM,mg n=some (.ref (ca n))
 cl:∀n∈AM,XCl K (ca n) (.ref P :: VE)
 inj:∀n∈AM,∀m∈AM,ca n=ca m->n=m
 np:∀n∈AM,ca n≠P
 kp:∀n∈AM,keepIn K (.ref (ca n))=true
 gt:∀n∈AM,XGet K (ca n)
 gc:∀n∈AM,findIn K (.ref (ca n)) "__class__" = some (some (.builtin "object.__class__"))
 na:∀n∈AM,findIn K (.ref (ca n)) "at" = some none
 nd:∀n∈AM,findIn K (.ref (ca n)) "side" = some none
noncomputable def Dn (n m:Str):Bool:=m == "ParleyError" || m == "ValueError" || n == m
theorem Dv {a b:Addr}{r:List Value}:(Value.ref a :: r).contains (.ref b)=(a == b || r.contains (.ref b)):=by
 rw [List.contains_cons]
 congr 1
 by_cases h:a=b
 ·subst h;simp
 ·rw [beq_eq_false_iff_ne.mpr h,beq_eq_false_iff_ne.mpr (λz:Value.ref b=Value.ref a=>h (Value.ref.inj z).symm)]
theorem Vh {b:Addr}:VE.contains (.ref b)=false:=rfl
section
variable {K:PySem.W.Frag}{mg:Str->Option Value}{P:Addr}{ca:Str->Addr}
theorem XM.subP (x:XM K mg P ca){n:Str}(hn:n∈AM):(Value.ref (ca n) :: .ref P :: VE).contains (.ref P)=Dn n "ParleyError":=by
 rw [Dv,Dv,beq_self_eq_true,Bool.true_or,Bool.or_true];rfl
theorem XM.subE (x:XM K mg P ca){n m:Str}(hn:n∈AM)(hm:m∈AM):(Value.ref (ca n) :: .ref P :: VE).contains (.ref (ca m))=Dn n m:=by
 rw [Dv,Dv,Vh,beq_eq_false_iff_ne.mpr (Ne.symm (x.np m hm)),Bool.or_false,Bool.or_false];have h1:(m == ("ParleyError" : Str))=false/\(m == ("ValueError" : Str))=false:=by
  simp only [AM,List.mem_cons,List.not_mem_nil,or_false] at hm;rcases hm with rfl | rfl | rfl | rfl | rfl | rfl | rfl <;> exact ⟨by decide,by decide⟩
 unfold Dn;rw [h1.1,h1.2,Bool.false_or,Bool.false_or]
 by_cases h:n=m
 ·subst h;rw [beq_self_eq_true,beq_self_eq_true]
 ·rw [beq_eq_false_iff_ne.mpr h,beq_eq_false_iff_ne.mpr λz=>h (x.inj n hn m hm z)]
theorem XM.of (x:XM K mg P ca){n:Str}{C:Addr}(hn:n∈AM)(h:nsIn K mainGlobals n=some (some (.ref C))):C=ca n:=by
 rw [x.ns n hn] at h;injection h with h;injection h with h;injection h with h
 exact h.symm
end
theorem U9 {q1 q2:Bool}{x C C':Addr}{dx dx':Option Addr}(h:XIs q1 x C dx=XIs q2 x C' dx')(e:∃h,XIs q1 x C dx h):C=C'/\dx=dx':=by
 obtain ⟨hh,o,vs,e1,e2,e3,e4⟩:=e;have q:XIs q2 x C' dx' hh:=by rw [<-h];exact ⟨o,vs,e1,e2,e3,e4⟩
 obtain ⟨o',vs',q1,q2,q3,q4⟩:=q;rw [e1] at q1;cases q1
 rw [e2] at q2;cases q2
 exact ⟨rfl,e3.symm.trans q3⟩
section
variable {X:Cx}{e:Expr}{es:List Expr}{pos p pos2:Pos}{E:L2.St->XK}{P:Addr}{ca:Str->Addr}
def XN1 (prog:Program)(w:World)(K:PySem.W.Frag)(mg:Str->Option Value)(base:Heap)(C P:Addr):Prop:=
 ∃(f:Addr) (fd:FuncData) (ps:List Str),XMk K C P f/\XAt K C P "at"/\Binds K fd ps []/\FnOk prog w K mg base CX0 1 f fd ps (spI K P "at")
def Ft (n:Str)(f:M (List D)):M Out:=bnd f λds=>match ds with
 | [d]=>ret (.ret (.exc n [d]))
 | _=>fail
theorem Ov {f:M (List D)}(x:XM X.K X.mg P ca)(xn:XN1 X.prog X.w X.K X.mg X.base (ca "NoTalk") P)(hr:L2.Room 2 X.A)(hc:X.calm=true)(hx:HV qx X E)(hg:Gl X "NoTalk")(ha:PA X [e] (RA X.K f))
 (h1:AO e=false:=by rfl):PS X (.Raise (some (.Call (.Name "NoTalk" p) [e] [] pos)) none pos2) (RSX X.K E (Ft "NoTalk" f)):=by
 obtain ⟨fa,fd,ps,M,A,B,F⟩:=xn;have hn:("NoTalk" : Str)∈AM:=by decide
 refine A3 (Q0 hc M.cl hx (WJ M A F hr B hg (x.ms _ hn) ha (by decide) (AE h1))) λD σ H z9=>?_;obtain ⟨Oo,c,t,fi,o,t',eq,k⟩:=z9;obtain ⟨ds,t1,e1,eq⟩:=Af eq;refine ⟨Oo,c,t,fi,ds,t1,e1,λvs H1 c1 f1 s1 rvs=>?_⟩
 match ds,rvs,eq with
 | [],_,eq=>cases eq
 | _ :: _ :: _,_,eq=>cases eq
 | [d],.cons (v:=v0) rv .nil,eq=>
   cases eq
   refine ⟨_,rfl,λy dx hy hdx ne=>?_⟩;have f2:=f1.laid (o:=.xd [("at",v0)]) hdx;have hy2:upd H1 dx (.xd [("at",v0)]) y=none:=by rw [Al (Ne.symm ne)];exact hy
   have f3:=f2.laid (o:=.ext (XIs qx y (ca "NoTalk") (some dx))) hy2;have s3:=s1.trans ((f1.stp_laid (o:=.xd [("at",v0)]) hdx).trans (f2.stp_laid (o:=.ext (XIs qx y (ca "NoTalk") (some dx))) hy2));refine k σ _ c1 f3 s3 (.ref y) (.exc (x.ns _ hn) Aw (f2.s.free hy2) ?_ (.cons (rv.mono ((f1.stp_laid hdx).ext.trans (f2.stp_laid hy2).ext)) .nil)) y (some dx) rfl;exact ⟨by rw [Al ne,Aw];rfl,f1.s.free hdx⟩
def XN0 (K:PySem.W.Frag)(C:Addr):Prop:=∃cd,clsIn K C=some cd/\nsIn K cd.ns "__init__" = some none
def ae (n:Str)(f:M (List D)):M Out:=bnd f λds=>if ds.length<=1000 then ret (.ret (.exc n [])) else fail
end
section
variable {X:Cx}{pos p:Pos}{P:Addr}{ca:Str->Addr}{μ:Cf->Hp->D->(V->Hp->Prop)->Prop}
inductive RH (K:PySem.W.Frag)(ca:Str->Addr)(μ:Cf->Hp->D->(V->Hp->Prop)->Prop)(h:D->M Out)(x C:Addr)(dx:Option Addr)(E:Ends)(σ:L2.St)(H:Hp):Prop where
 | mk (Oo:Addr->Prop) (c:Cf) (t:T) (n:Str) (ds:List D) (fi:FInv K Oo c t σ H) (hn:n∈AM) (hC:C=ca n) (rp:Rep K c H (.ref x) (.exc n ds)) (o:Out) (t':T) (e:h (.exc n ds) t=some (o,t')) (k:∀σ' H' c',FInv K Oo c' t' σ' H'->Stp Oo c H c' H'->
   match (generalizing:=false) o with
   | .next=>E.nx σ' H'
   | .brk=>E.bk σ' H'
   | .cont=>E.ct σ' H'
   | .ret r=>μ c' H' r E.rt):RH K ca μ h x C dx E σ H
noncomputable def unE (i:Nat)(t:T):T:={ t with env:=t.env.set i none }
theorem FInv.unset {K:PySem.W.Frag}{Oo:Addr->Prop}{c:Cf}{t:T}{σ:L2.St}{H:Hp}(f:FInv K Oo c t σ H)(i:Nat):FInv K Oo c (unE i t) (σ.set i none) H:=by
 have neq:∀{j:Nat} {x:Sl},(t.env.set i none)[j]?=some (some x)->j≠i/\t.env[j]?=some (some x):=λ{j x} q=>by
  by_cases h:j=i
  ·subst h;rw [List.getElem?_set] at q
   split at q
   ·split at q
    ·injection q with q;cases q
    ·cases q
   ·next h1=>exact absurd rfl h1
  ·rw [List.getElem?_set_ne (Ne.symm h)] at q;exact ⟨h,q⟩
 refine ⟨f.s,by simp [unE,f.len],f.sub,λj e q=>?_,λj ds q=>?_,λj k ds es a q1 q2 q3 q4=>?_⟩
 ·obtain ⟨h,q⟩:=neq q;obtain ⟨u,h1,h2⟩:=f.val j e q;exact ⟨u,by rw [List.getElem?_set_ne (Ne.symm h)];exact h1,h2⟩
 ·obtain ⟨h,q⟩:=neq q;obtain ⟨a,vs,h1,h2⟩:=f.own j ds q;exact ⟨a,vs,by rw [List.getElem?_set_ne (Ne.symm h)];exact h1,h2⟩
 ·obtain ⟨h,q1⟩:=neq q1;obtain ⟨h',q2⟩:=neq q2;rw [List.getElem?_set_ne (Ne.symm h)] at q3;rw [List.getElem?_set_ne (Ne.symm h')] at q4;exact f.inj j k ds es a q1 q2 q3 q4
def hAs (n':Str)(i:Nat)(s:M Out)(r:D->M Out):D->M Out:=λe t=>match e with
 | .exc n ds=>if Dn n n'=true then (match s { t with env:=t.env.set i (some (.val (.exc n ds))) } with
   | some (o,t2)=>some (o,unE i t2)
   | none=>none) else r (.exc n ds) t
 | _=>none
def hNo (n':Str)(s:M Out)(r:D->M Out):D->M Out:=λe t=>match e with
 | .exc n ds=>if Dn n n'=true then s t else r (.exc n ds) t
 | _=>none
noncomputable def VY:D->M Out:=λ_ _=>none
theorem VM:PH qx X [] (RH X.K ca μ VY):=by
 rintro _ _ _ _ _ _ _ _ _ _ _ ⟨_,_,_,_,_,_,_,_,_,_,_,e,_⟩
 cases e
theorem XB {n' v:Str}{C':Addr}{bm':List Value}{i:Nat}{b₀:Stmt}{suite:List Stmt}{rest:List ExceptHandler}{s:M Out}{r:D->M Out}(x:XM X.K X.mg P ca)(hg:Gl X n')(hm:X.mg n'=some (.ref C'))(c':XCl X.K C' bm')(hs:∀n∈AM,(Value.ref (ca n) :: .ref P :: VE).contains (.ref C')=Dn n n')
 (hN:X.N.Nodup) (hi:X.N[i]?=some v) (hl:X.env.scope.names.lookup v=some .local) (hb:∀x,PSs (X.mark x) (b₀ :: suite) (RSg X.K μ s)) (hr:PH qx X rest (RH X.K ca μ r)) (hdb:(n' == ("__debug__" : Str))=false:=by decide) :
 PH qx X (.ExceptHandler (some (.Name n' p)) (some v) (b₀ :: suite) pos :: rest) (RH X.K ca μ (hAs n' i s r)):=by
 intro pins s0 σ H y C dx T D I o q;refine XS hg hm c' hN hi hl hb hr hdb pins s0 σ H y C dx T D I o ?_;obtain ⟨Oo,c,t,n,ds,fi,hn,rfl,rv,o1,t',eq,k⟩:=q;refine ⟨_,x.cl n hn,?_⟩;rw [hs n hn];unfold hAs at eq;dsimp only at eq
 by_cases hb':Dn n n'=true
 ·rw [if_pos hb'] at eq ⊢
  cases e1:s { t with env:=t.env.set i (some (.val (.exc n ds))) } with
  | none=>rw [e1] at eq;cases eq
  | some z=>
    obtain ⟨o2,t2⟩:=z;rw [e1] at eq
    cases eq
    refine ⟨Oo,c,_,fi.set rv,o1,t2,e1,λσ' H' c2 f2 s2=>?_⟩;have:=k _ H' c2 (f2.unset i) s2
    cases o1 <;> exact this
 ·rw [if_neg hb'] at eq ⊢;exact ⟨Oo,c,t,n,ds,fi,hn,rfl,rv,o1,t',eq,k⟩
noncomputable def E2 (b:M Out)(h:D->M Out):M Out:=λt=>match b t with
 | some (.ret (.exc n ds),t1)=>if n∈AM then h (.exc n ds) t1 else none
 | z=>z
theorem VR {body:List Stmt}{h₀:ExceptHandler}{hs:List ExceptHandler}{b:M Out}{h:D->M Out}(x:XM X.K X.mg P ca)(hμ:∀c H r rt,A8 r=false->(∀v,Rep X.K c H v r->rt v H)=μ c H r rt)(h1:X.stack=X.env :: X.outer)(h2:X.env.frame=some X.env.locals)
 (hb:∀(pn:List (Addr×Obj)) (E:L2.St->XK),Ey (CX1 qx X.prog X.w) { X with pn:=pn,xe:=XE qx { X with pn:=pn } E } E->PSs { X with pn:=pn,xe:=XE qx { X with pn:=pn } E } body (RSX X.K E b)) (hh:PH qx X (h₀ :: hs) (RH X.K ca μ h)):PS X (.Try body (h₀ :: hs) [] [] pos) (RSg X.K μ (E2 b h)):=
 A3 (WK h1 h2 (λpn E=>hb pn E (XE.pass (X:={ X with pn:=pn }))) hh) λD σ H z9=>by
  obtain ⟨Oo,c,t,fi,o,t',eq,k⟩:=z9;unfold E2 at eq
  cases e1:b t with
  | none=>rw [e1] at eq;cases eq
  | some z=>
    obtain ⟨o1,t1⟩:=z;rw [e1] at eq;refine ⟨Oo,c,t,fi,o1,t1,e1,λσ1 H1 c1 f1 s1=>?_⟩
    cases o1 with
    | next=>cases eq;exact k σ1 H1 c1 f1 s1
    | brk=>cases eq;exact k σ1 H1 c1 f1 s1
    | cont=>cases eq;exact k σ1 H1 c1 f1 s1
    | ret r=>
      intro v rv
      cases hx:A8 r with
      | false=>
        rw [if_neg (by decide)];have eq':some (Out.ret r,t1)=some (o,t'):=by cases r <;> first | exact eq | cases hx
        cases eq'
        have q:=k σ1 H1 c1 f1 s1;have q:μ c1 H1 r D.rt:=q;rw [<-hμ _ _ _ _ hx] at q;exact q v rv
      | true=>
        rw [if_pos rfl];intro y dx hv y' C hy' hC hex
        cases rv with
        | @exc q0 x0 C0 dx0 n vs ds g hx0 hA fl rs=>
          cases hv
          cases hy'
          dsimp only at eq
          split at eq
          ·next hn=>
           rw [hx0] at hC;injection hC with hC;injection hC with hC
           obtain ⟨e2,e3⟩:=U9 hC.symm hex;have:=x.of hn g;exact ⟨Oo,c1,t1,n,ds,f1,hn,e2.trans this,.exc g hx0 hA fl rs,o,t',eq,λσ' H' c' f' s'=>k σ' H' c' f' (s1.trans s')⟩
          ·cases eq
        | _=>cases hx
end
end F2
namespace F2
open PySem L2 PySem.Spec PySem.W
variable {qx:Bool}
def Fe (n:Str):D->M D
 | .exc m _=>if m∈AM then ret (.bl (Dn m n)) else fail
 | .non=>ret (.bl false)
 | .bl _=>ret (.bl false)
 | .int _=>ret (.bl false)
 | .str _=>ret (.bl false)
 | .lst _=>ret (.bl false)
 | .tup _=>ret (.bl false)
 | .dic=>ret (.bl false)
 | _=>fail
def Np (K:PySem.W.Frag)(c:Value):List V->Hp->VK->Prop:=λxs H Q=>∃x y t b,xs=[x,y]/\(∀u,RelV y u->u=c)/\
 (TyOf K H x t\/∃q0 a C dx,x = .ref a/\t = .ref C/\H a=some (.ext (XIs q0 a C dx))/\(∀d,dx=some d->∃fs,H d=some (.xd fs))/\XGet K C/\findIn K (.ref C) "__class__" = some (some (.builtin "object.__class__")))/\kitOne K t c=some b/\Q (.bl b) H
variable {C:Addr}
theorem SD {X:Cx}{pins:List (Addr×Obj)}{σ:L2.St}{H:Hp}{s:Shared}{a:Addr}{dx:Option Addr}(I:Inv X pins σ H s)(h:H a=some (.ext (XIs qx a C dx)))(hd:∀d,dx=some d->∃fs,H d=some (.xd fs)):RU a C s.heap:=by
 obtain ⟨o,vs,e1,e2,e3,e4,_⟩:=(I.hok a _ h).1;have nc:notCls o=true:=by unfold notCls;rw [e4]
 cases dx with
 | none=>exact ⟨o,none,e1,e2,nc,by rw [e3];trivial⟩
 | some d=>
   obtain ⟨fs,hf⟩:=hd d rfl;obtain ⟨mA,n,_⟩:=(show ObjOk X.prog X.w H s.heap d (.xd fs) from I.hok d _ hf);obtain ⟨od,ho,_⟩:=Gu n;exact ⟨o,some od,e1,e2,nc,by rw [e3];exact ho⟩
theorem JC {X:Cx}{c:Value}:BY X (.builtin "isinstance") (Np X.K c):=by
 intro pins s σ H xs us Q I r h;obtain ⟨x,y,t,b,rfl,hy,ty,e,q⟩:=h;obtain ⟨u,w',rfl,rx,rt⟩:=Hh r
 cases hy _ rt
 rcases ty with ty | ⟨q0,a,C,dx,rfl,rfl,ha,hd,g,gc⟩
 ·exact JJ I rx ty e λtk=>⟨.bl b,H,I.tok tk,rfl,q⟩
 ·cases (show u=Value.ref a from rx)
  exact kia_one (KZ g gc) I.kIn (SD I ha hd) e (λz=>nomatch z) λtk=>⟨.bl b,H,I.tok tk,rfl,q⟩
variable {K:PySem.W.Frag}
theorem Wa {d:D}{T:String}{C':Addr}{bm':List Value}(h:tyD d=some T)(c':XCl K C' bm'):kitOne K (.type T) (.ref C')=some false:=by
 obtain ⟨cd,dd,k0,k1,k2,k3,k5,h1,h2,h3,h4,h5⟩:=c'.ex;have e1:clsIn K C'=some cd:=by unfold clsIn;rw [h1]
 have e2:typeIn K (.ref C')=some (.type "type"):=by
  show (K.lookup C').map _=_;rw [h1];rfl
 have z:((clsIn K C').isSome && typeIn K (.ref C') == some (.type "type"))=true:=by rw [e1,e2,Option.isSome_some,Bool.true_and];decide
 have hT:T = "NoneType"\/T = "bool"\/T = "int"\/T = "str"\/T = "list"\/T = "tuple"\/T = "dict":=by
  cases d <;> simp [tyD] at h <;> simp [<-h]
 unfold kitOne kitCls;rw [if_neg (by intro q;cases beq_iff_eq.mp q)]
 dsimp only;rw [if_pos z];rcases hT with rfl | rfl | rfl | rfl | rfl | rfl | rfl <;> rfl
theorem TD {d:D}{T:String}(h:tyD d=some T):kitOne K (.type T) (.type "ValueError")=some false:=by
 have hT:T = "NoneType"\/T = "bool"\/T = "int"\/T = "str"\/T = "list"\/T = "tuple"\/T = "dict":=by
  cases d <;> simp [tyD] at h <;> simp [<-h]
 rcases hT with rfl | rfl | rfl | rfl | rfl | rfl | rfl <;> rfl
theorem Pu {bm:List Value}(c:XCl K C bm)(v:Value):subIn K (.ref C) v=some ((Value.ref C :: bm).contains v):=by
 obtain ⟨cd,h1,h2,_⟩:=c.cls;show mroIn K C v=_;unfold mroIn;rw [h1,Option.bind_some,h2];rfl
theorem Mi {C':Addr}{bm bm':List Value}(c:XCl K C bm)(c':XCl K C' bm'):kitOne K (.ref C) (.ref C')=some ((Value.ref C :: bm).contains (.ref C')):=by
 obtain ⟨cd,dd,k0,k1,k2,k3,k5,h1,h2,h3,h4,h5⟩:=c'.ex;have e1:clsIn K C'=some cd:=by unfold clsIn;rw [h1]
 have e2:typeIn K (.ref C')=some (.type "type"):=by
  show (K.lookup C').map _=_;rw [h1];rfl
 have z:((clsIn K C').isSome && typeIn K (.ref C') == some (.type "type"))=true:=by rw [e1,e2,Option.isSome_some,Bool.true_and];decide
 unfold kitOne kitCls
 by_cases h:C=C'
 ·subst h;rw [if_pos (by simp)];simp
 ·rw [if_neg (λq=>h (Value.ref.inj (beq_iff_eq.mp q)))];dsimp only;rw [if_pos z];exact Pu c _
theorem XJ {P:Addr}(c:XCl K C (.ref P :: VE)):kitOne K (.ref C) (.type "ValueError")=some true:=by
 unfold kitOne kitCls;rw [if_neg (by intro q;cases beq_iff_eq.mp q)]
 dsimp only;rw [if_pos (by decide +kernel),Pu c];rw [List.contains_cons,List.contains_cons,show VE.contains (.type "ValueError")=true from by decide +kernel,Bool.or_true,Bool.or_true]
section
variable {X:Cx}{P:Addr}{ca:Str->Addr}{a:Expr}{f:M D}{p pos q:Pos}
theorem Mf {n:Str}{c:Value}{y:V}(x:XM X.K X.mg P ca)(hy:∀u,RelV y u->u=c)(k1:∀d T,tyD d=some T->kitOne X.K (.type T) c=some false)(k2:∀m∈AM,kitOne X.K (.ref (ca m)) c=some (Dn m n)){σ:L2.St}{H:Hp}{Q:VK}(h:RE X.K (bnd f (Fe n)) σ H Q) :
 tCB (Np X.K c) (Ny (RE X.K f) (Ny (tC y) Xe)) σ H Q:=by
 obtain ⟨Oo,c0,t,fi,r,t',eq,k⟩:=h;obtain ⟨d,t1,e1,eq⟩:=Af eq;refine ⟨Oo,c0,t,fi,d,t1,e1,λv H1 c1 f1 s1 rv=>?_⟩;show Np X.K c [v,y] H1 Q
 cases rv with
 | @exc q0 x0 C0 dx0 m vs ds g hx0 hA fl rs=>
   unfold Fe at eq;dsimp only at eq
   split at eq
   ·next hm=>
    cases eq
    have hc:=x.of hm g;subst hc;refine ⟨_,_,_,_,rfl,hy,.inr ⟨_,x0,ca m,dx0,rfl,rfl,hx0,λd hd=>?_,x.gt m hm,x.gc m hm⟩,k2 m hm,k _ H1 c1 f1 s1 (.bl _)⟩;subst hd;exact ⟨_,fl.1⟩
   ·cases eq
 | non=>cases eq;exact ⟨_,_,_,_,rfl,hy,.inl .non,k1 .non _ rfl,k _ H1 c1 f1 s1 (.bl _)⟩
 | bl b=>cases eq;exact ⟨_,_,_,_,rfl,hy,.inl (.bl _),k1 (.bl b) _ rfl,k _ H1 c1 f1 s1 (.bl _)⟩
 | int i=>cases eq;exact ⟨_,_,_,_,rfl,hy,.inl (.int _),k1 (.int i) _ rfl,k _ H1 c1 f1 s1 (.bl _)⟩
 | str i=>cases eq;exact ⟨_,_,_,_,rfl,hy,.inl (.str _),k1 (.str i) _ rfl,k _ H1 c1 f1 s1 (.bl _)⟩
 | lst h1 h2 h3=>cases eq;exact ⟨_,_,_,_,rfl,hy,.inl (.lst h1),k1 (.lst []) _ rfl,k _ H1 c1 f1 s1 (.bl _)⟩
 | tup h1 h2 h3=>cases eq;exact ⟨_,_,_,_,rfl,hy,.inl (.tup h1),k1 (.tup []) _ rfl,k _ H1 c1 f1 s1 (.bl _)⟩
 | dic h1 h2=>cases eq;exact ⟨_,_,_,_,rfl,hy,.inl (.dK h1),k1 .dic _ rfl,k _ H1 c1 f1 s1 (.bl _)⟩
 | _=>cases eq
theorem SX {n:Str}(x:XM X.K X.mg P ca)(hn:n∈AM)(hg:Gl X "isinstance")(hm:X.mg "isinstance" = none)(hv:bootBuiltins "isinstance" = some (.builtin "isinstance"))(hgn:Gl X n)(ha:PE X a (RE X.K f))(hdb:(n == ("__debug__" : Str))=false:=by decide)(h1:AO a=false:=by rfl) :
 PE X (.Call (.Name "isinstance" p) [a,.Name n q] [] pos) (RE X.K (bnd f (Fe n))):=
 AD (FV JC hg hm hv (Dr ha (Dr (Ji hgn (x.ms n hn) (v:=.ref (ca n)) rfl hdb) GD (AE (e:=.Name n q) rfl)) (AE h1)) (by decide) (by decide) (AE h1) (AQ (es:=[.Name n q]) rfl).1)
  λσ H Q h=>Mf (n:=n) (c:=.ref (ca n)) (y:=.ref (ca n)) x (λu r=>r) (λd T e=>Wa e (x.cl n hn)) (λm hm=>by rw [Mi (x.cl m hm) (x.cl n hn),x.subE hm hn]) h
theorem SW (x:XM X.K X.mg P ca)(hg:Gl X "isinstance")(hm:X.mg "isinstance" = none)(hv:bootBuiltins "isinstance" = some (.builtin "isinstance"))(hgn:Gl X "ValueError")(hmn:X.mg "ValueError" = none)(hvn:bootBuiltins "ValueError" = some (.type "ValueError"))(ha:PE X a (RE X.K f))(h1:AO a=false:=by rfl) :
 PE X (.Call (.Name "isinstance" p) [a,.Name "ValueError" q] [] pos) (RE X.K (bnd f (Fe "ValueError"))):=
 AD (FV JC hg hm hv (Dr ha (Dr (Mq hgn hmn hvn (v:=.ty "ValueError") rfl (by decide) (by decide)) GD (AE (e:=.Name "ValueError" q) rfl)) (AE h1)) (by decide) (by decide) (AE h1) (AQ (es:=[.Name "ValueError" q]) rfl).1)
  λσ H Q h=>Mf (n:="ValueError") (c:=.type "ValueError") (y:=.ty "ValueError") x (λu r=>r) (λd T e=>TD e) (λm hm=>by rw [XJ (x.cl m hm)];rfl) h
def Ko (nm:Str):D->M D
 | .exc n ds=>if n∈AM then (match ((Jd n).zip ds).lookup nm with
   | some d=>ret d
   | none=>fail) else fail
 | _=>fail
theorem Hs {K:PySem.W.Frag}{c:Cf}{H:Hp}{nm:Str}{d:D}:∀{ns:List Str} {vs:List V} {ds:List D},Reps K c H vs ds->(ns.zip ds).lookup nm=some d->∃v,(ns.zip vs).lookup nm=some v/\Rep K c H v d
 | [],_,_,_,e=>by cases e
 | _ :: _,_,_,.nil,e=>by cases e
 | n :: ns,_,_,.cons (v:=v0) (d:=d0) r rs,e=>by
   by_cases h:nm=n
   ·subst h;simp only [List.zip_cons_cons,List.lookup,beq_self_eq_true,Option.some.injEq] at e ⊢;subst e;exact ⟨v0,rfl,r⟩
   ·have hb:(nm == n)=false:=beq_eq_false_iff_ne.mpr h;simp only [List.zip_cons_cons,List.lookup,hb] at e ⊢;exact Hs rs e
theorem JT:bootBuiltins "ValueError" = some (.type "ValueError"):=by decide +kernel
theorem VA {nm:Str}(x:XM X.K X.mg P ca)(hno:∀n∈AM,findIn X.K (.ref (ca n)) nm=some none)(ha:PE X a (RE X.K f))(hb:attributeBase a nm X.env (eval a X.env)=eval a X.env):PE X (.Attribute a nm pos) (RE X.K (bnd f (Ko nm))):=by
 intro pins s σ H Q I h;obtain ⟨Oo,c0,t,fi,r,t',eq,k⟩:=h;obtain ⟨d,t1,e1,eq⟩:=Af eq;refine SH hb (thn (ha pins s σ H (λv H1=>∃c1,FInv X.K Oo c1 t1 σ H1/\Stp Oo c0 H c1 H1/\Rep X.K c1 H1 v d) I ⟨Oo,c0,t,fi,d,t1,e1,λv H1 c1 f1 s1 rv=>⟨c1,f1,s1,rv⟩⟩) λu s1 z9=>?_);obtain ⟨v,H1,I1,rx,c1,f1,st1,rv⟩:=z9
 cases rv with
 | @exc q0 x0 C0 dx0 m vs ds g hx0 hA fl rs=>
   cases (show u=Value.ref x0 from rx)
   unfold Ko at eq;dsimp only at eq
   split at eq
   ·next hm=>
    have hc:=x.of hm g;subst hc
    cases el:((Jd m).zip ds).lookup nm with
    | none=>rw [el] at eq;cases eq
    | some d'=>
      rw [el] at eq
      cases eq
      obtain ⟨v',l1,r1⟩:=Hs rs el
      cases dx0 with
      | none=>
        have fl:vs=[]:=fl;subst fl;simp at l1
      | some dd=>
        have hdd:H1 dd=some (.xd ((Jd m).zip vs)):=fl.1;obtain ⟨o,vs0,q1,q2,q3,q4,_⟩:=(I1.hok x0 _ hx0).1;have nc:notCls o=true:=by unfold notCls;rw [q4]
        obtain ⟨mA,nA,rA⟩:=(show ObjOk X.prog X.w H1 s1.heap dd (.xd ((Jd m).zip vs)) from I1.hok dd _ hdd);obtain ⟨od,ho,hl⟩:=Gu nA;obtain ⟨u',hu,ru⟩:=RelO.some_of (v:=v') (o:=mA nm) (by rw [<-l1];exact rA nm);have IA:InstAt s1.heap x0 o (ca m) (some od):=⟨q1,q2,nc,by rw [q3];exact ho⟩;unfold getAttr;refine wpAny_bind (wpAny_mkText ?_);refine JG (s:={ s1 with toks:=s1.toks + 1 }) I1.kIn IA (x.gt m hm) (Qw I1.kIn IA (x.gt m hm) (findObj_own (x.gt m hm).hd (hno m hm) rfl (by rw [hl,hu])) ?_);exact handed_on (OA ru) ⟨v',H1,I1.tok _,ru,k v' H1 c1 f1 st1 r1⟩
   ·cases eq
 | _=>cases eq
end
end F2
namespace F2
open PySem L2 PySem.Spec PySem.W
variable {qx:Bool}
def NM (K:PySem.W.Frag)(P c:Addr):Bool:=Ka K c (.ref P :: VE) && keepIn K (.ref c) && findIn K (.ref c) "__getattribute__" == some (some (.builtin "BaseException.__getattribute__")) && findIn K (.ref c) "__getattr__" == some none && mroIn K c (.type "BaseException") == some true
 && mroIn K c (.type "object") == some true && hasDictIn K c && findIn K (.ref c) "__class__" == some (some (.builtin "object.__class__")) && findIn K (.ref c) "at" == some none && findIn K (.ref c) "side" == some none
structure XOne (K:PySem.W.Frag)(P c:Addr):Prop where
 cl:XCl K c (.ref P :: VE)
 kp:keepIn K (.ref c)=true
 gt:XGet K c
 gc:findIn K (.ref c) "__class__" = some (some (.builtin "object.__class__"))
 na:findIn K (.ref c) "at" = some none
 nd:findIn K (.ref c) "side" = some none
variable {K:PySem.W.Frag}{P:Addr}
theorem D7 {c:Addr}(h:NM K P c=true):XOne K P c:=by
 unfold NM at h;simp only [Bool.and_eq_true,beq_iff_eq] at h;obtain ⟨⟨⟨⟨⟨⟨⟨⟨⟨h1,h2⟩,h3⟩,h4⟩,h5⟩,h6⟩,h7⟩,h8⟩,h9⟩,h10⟩:=h;exact ⟨.of_in h1,h2,⟨h3,h4,h5,h6,h7⟩,h8,h9,h10⟩
noncomputable def Fc (c1 c2 c3 c4 c5 c6 c7:Addr):Str->Addr:=λn=>if n = "NoValue" then c1 else if n = "Short" then c2 else if n = "Broken" then c3 else if n = "NoTalk" then c4 else if n = "NoName" then c5 else if n = "NoText" then c6 else c7
theorem Ch {Q:Str->Prop}(h1:Q "NoValue")(h2:Q "Short")(h3:Q "Broken")(h4:Q "NoTalk")(h5:Q "NoName")(h6:Q "NoText")(h7:Q "NoRow"):∀n∈AM,Q n:=by
 intro n hn;simp only [AM,List.mem_cons,List.not_mem_nil,or_false] at hn;rcases hn with rfl | rfl | rfl | rfl | rfl | rfl | rfl <;> assumption
def NL (K:PySem.W.Frag)(P:Addr)(cs:List Addr):Bool:=Ka K P VE && cs.all (NM K P)
theorem YM {h:Heap}{mg:Str->Option Value}{c1 c2 c3 c4 c5 c6 c7:Addr}(X:K.In h)(G:h.Ns mainGlobals mg)(p:nsIn K mainGlobals "ParleyError" = some (some (.ref P)))(a1:nsIn K mainGlobals "NoValue" = some (some (.ref c1)))(a2:nsIn K mainGlobals "Short" = some (some (.ref c2)))
 (a3:nsIn K mainGlobals "Broken" = some (some (.ref c3))) (a4:nsIn K mainGlobals "NoTalk" = some (some (.ref c4))) (a5:nsIn K mainGlobals "NoName" = some (some (.ref c5))) (a6:nsIn K mainGlobals "NoText" = some (some (.ref c6))) (a7:nsIn K mainGlobals "NoRow" = some (some (.ref c7)))
 (q:NL K P [c1,c2,c3,c4,c5,c6,c7]=true) (nd:[P,c1,c2,c3,c4,c5,c6,c7].Nodup):XM K mg P (Fc c1 c2 c3 c4 c5 c6 c7):=by
 unfold NL at q;simp only [List.all_cons,List.all_nil,Bool.and_true,Bool.and_eq_true] at q;obtain ⟨q0,q1,q2,q3,q4,q5,q6,q7⟩:=q;have o1:=D7 q1;have o2:=D7 q2;have o3:=D7 q3;have o4:=D7 q4;have o5:=D7 q5;have o6:=D7 q6;have o7:=D7 q7;have inj:∀n∈AM,∀m∈AM,Fc c1 c2 c3 c4 c5 c6 c7 n=Fc c1 c2 c3 c4 c5 c6 c7 m->n=m:=by
  simp only [List.nodup_cons,List.mem_cons,List.not_mem_nil,or_false,not_or,List.nodup_nil,and_true] at nd;obtain ⟨⟨n1,n2,n3,n4,n5,n6,n7⟩,⟨m12,m13,m14,m15,m16,m17⟩,⟨m23,m24,m25,m26,m27⟩,⟨m34,m35,m36,m37⟩,⟨m45,m46,m47⟩,⟨m56,m57⟩,m67,_⟩:=nd;have h1:Fc c1 c2 c3 c4 c5 c6 c7 "NoValue" = c1:=rfl;have h2:Fc c1 c2 c3 c4 c5 c6 c7 "Short" = c2:=rfl;have h3:Fc c1 c2 c3 c4 c5 c6 c7 "Broken" = c3:=rfl;have h4:Fc c1 c2 c3 c4 c5 c6 c7 "NoTalk" = c4:=rfl;have h5:Fc c1 c2 c3 c4 c5 c6 c7 "NoName" = c5:=rfl;have h6:Fc c1 c2 c3 c4 c5 c6 c7 "NoText" = c6:=rfl;have h7:Fc c1 c2 c3 c4 c5 c6 c7 "NoRow" = c7:=rfl;refine Ch ?_ ?_ ?_ ?_ ?_ ?_ ?_ <;> refine Ch ?_ ?_ ?_ ?_ ?_ ?_ ?_ <;> intro e <;> first | rfl | (exfalso;rw [h1] at e) | (exfalso;rw [h2] at e) | (exfalso;rw [h3] at e) | (exfalso;rw [h4] at e) | (exfalso;rw [h5] at e) | (exfalso;rw [h6] at e) | (exfalso;rw [h7] at e)
  all_goals (first | rw [h1] at e | rw [h2] at e | rw [h3] at e | rw [h4] at e | rw [h5] at e | rw [h6] at e | rw [h7] at e)
  all_goals (first | contradiction | (have e:=e.symm;contradiction))
 refine ⟨mg_of X G p,.of_in q0,Ch a1 a2 a3 a4 a5 a6 a7,Ch (mg_of X G a1) (mg_of X G a2) (mg_of X G a3) (mg_of X G a4) (mg_of X G a5) (mg_of X G a6) (mg_of X G a7),Ch o1.cl o2.cl o3.cl o4.cl o5.cl o6.cl o7.cl,inj,?_,
  Ch o1.kp o2.kp o3.kp o4.kp o5.kp o6.kp o7.kp,Ch o1.gt o2.gt o3.gt o4.gt o5.gt o6.gt o7.gt,Ch o1.gc o2.gc o3.gc o4.gc o5.gc o6.gc o7.gc,Ch o1.na o2.na o3.na o4.na o5.na o6.na o7.na,Ch o1.nd o2.nd o3.nd o4.nd o5.nd o6.nd o7.nd⟩
 simp only [List.nodup_cons,List.mem_cons,List.not_mem_nil,or_false,not_or] at nd;obtain ⟨⟨n1,n2,n3,n4,n5,n6,n7⟩,_⟩:=nd;exact Ch (Ne.symm n1) (Ne.symm n2) (Ne.symm n3) (Ne.symm n4) (Ne.symm n5) (Ne.symm n6) (Ne.symm n7)
noncomputable def Eb (s:Stmt)(k:Nat):Stmt:=match s with
 | .ClassDef _ _ _ body _ _ _ _ _ _ _=>body.getD k (.Pass ⟨0,0,0,0⟩)
 | _=>.Pass ⟨0,0,0,0⟩
noncomputable def KU (K:PySem.W.Frag)(C f:Addr):Bool:=match clsIn K C with
 | some cd=>nsIn K cd.ns "__init__" == some (some (.ref f))
 | none=>false
def XF1 (K:PySem.W.Frag)(C P:Addr)(qual:Str)(st:Stmt):Prop:=∃(f:Addr) (fd:FuncData),XMk K C P f/\XAt K C P "at"/\Binds K fd ["self", "at"] []/\Fun K "__init__" qual st f fd
theorem Xs {C f:Addr}{qual:Str}{st:Stmt}{od an:Option Addr}{sl:Array (Option Value)}{oc kV dc pm cd ct:Value}(o:XOne K P C)(i:KU K C f=true)(hf:isFn K (.ref f)=true)(hs:findIn K (.ref C) "__setattr__" = some (some (.builtin "object.__setattr__")))
 (l:K.lookup f=some ⟨oc,od,.func (PySem.W.fnOf "__init__" qual (Dp st) (Bk st) (Ax st) .none kV dc pm an cd ct),sl⟩) (c:codeIn K cd qual=true) (k:keepIn K (.ref f)=true)
 (hb:∀(kV doc pm:Value) (an:Option Addr) (cdv ct:Value) (us:List Value),us.length=2->bindArgs (PySem.W.fnOf "__init__" qual (Dp st) (Bk st) (Ax st) .none kV doc pm an cdv ct) ⟨us,[]⟩=pure ((["self", "at"]:List Str).zip us)):XF1 K C P qual st:=by
 refine ⟨f,_,⟨o.cl,?_,hf,o.kp⟩,⟨o.cl,hs,o.na⟩,(Ir (st:=st) l c k).binds (ps:=["self", "at"]) hb,Ir (st:=st) l c k⟩;unfold KU at i
 split at i
 ·next cd' e=>exact ⟨cd',e,beq_iff_eq.mp i⟩
 ·cases i
theorem Qy {prog:Program}{w:World}{mg:Str->Option Value}{base:Heap}{C:Addr}{qual:Str}{st:Stmt}{p1 p2 p3 p4:Pos}(hbd:Bk st=[.Assign [.Attribute (.Name "self" p1) "at" p2] (.Name "at" p3) p4])(S:FnScope ["self", "at"] ["self", "at"] (Ax st))
 (s1:(Ax st).names.lookup ("self" : Str)=some NameKind.local) (s2:(Ax st).names.lookup ("at" : Str)=some NameKind.local) (x:XF1 K C P qual st):XN1 prog w K mg base C P:=by
 obtain ⟨f,fd,M,A,B,F⟩:=x;refine ⟨f,fd,_,M,A,B,F.ok (k:=0) S (λvs H Q E h=>?_) λcdv A' outer s H vs Q E hr h=>?_⟩
 ·obtain ⟨y,C',tp,v,rfl,_⟩:=h;rfl
 ·rw [hbd];refine ⟨_,Jm (XV (P:=P) (Ec (i:=0) rfl (.inl s1) (by decide) (by decide)) (Ec (i:=1) rfl (.inl s2) (by decide) (by decide)) rfl),?_⟩;obtain ⟨y,C',tp,v,rfl,hy,ha,k⟩:=h;exact ⟨v,rfl,.ref y,rfl,y,C',tp,rfl,hy,ha,λdx h1 h2=>k dx h1 h2⟩
end F2
namespace F2
open PySem L2 PySem.Spec PySem.W
inductive Kd where
 | pl | fr | ex | er
abbrev okK (k:Kd)(P:Program)(w:World)(K:PySem.W.Frag)(mg:Str->Option Value)(base:Heap)(n:Nat)(fa:Addr)(fd:FuncData)(ps:List Str)(f:Fn):Prop:=match k with
 | .pl=>FnOk P w K mg base CX0 n fa fd ps (spF K f)
 | .fr=>FnOk P w K mg base CX0 n fa fd ps (spFF K f)
 | .ex=>FnOk P w K mg base (CX1 true P w) n fa fd ps (spX K f)
 | .er=>FnOk P w K mg base (CX1 false P w) n fa fd ps (spX K f)
section
variable {X:Cx}{e a b:Expr}{pos:Pos}{f g:M D}
theorem Mb {E:XK}(h:PE X e (RE X.K f)):PS X (.Return (some e) pos) (RSg X.K (μX X.K E) (Am (nxD f))):=
 A3 (IE h) λD σ H z9=>by
  obtain ⟨Oo,c,t,fi,o,t',eq,k⟩:=z9;obtain ⟨d,t1,e1,eq⟩:=Af eq
  cases eq
  obtain ⟨e2,e3⟩:=QN e1;exact ⟨Oo,c,t,fi,d,_,e2,λv H1 c1 f1 s1 rv=>V0 e3 (k σ H1 c1 f1 s1 v rv)⟩
end
theorem Wi {K:PySem.W.Frag}:∀(c:Cf) (H:Hp) (r:D) (rt:V->Hp->Prop),A8 r=false->(∀v,Rep K c H v r->rt v H)=μR K c H r rt:=λ_ _ _ _ _=>rfl
variable {qx:Bool}
def Sk (K:PySem.W.Frag)(cs:List Addr):List V->Hp->VK->Prop:=λxs H Q=>∃q0 a p C dx b,xs=[.ref a,.ref p]/\H p=some (.tup (cs.map V.ref))/\H a=some (.ext (XIs q0 a C dx))/\(∀d,dx=some d->∃fs,H d=some (.xd fs))/\XGet K C/\findIn K (.ref C) "__class__" = some (some (.builtin "object.__class__"))/\kitAny K (.ref C) (cs.map Value.ref)=some b/\Q (.bl b) H
theorem JS:∀{cs:List Addr} {us:List Value},Vals (cs.map V.ref) us->us=cs.map Value.ref
 | [],_,.nil=>rfl
 | c :: cs,_,.cons r rs=>by rw [JS rs,show _=Value.ref c from r];rfl
theorem N2 {X:Cx}{cs:List Addr}:BY X (.builtin "isinstance") (Sk X.K cs):=by
 intro pins s σ H xs us Q I r h;obtain ⟨q0,a,p,C,dx,b,rfl,hp,ha,hd,g,gc,e,q⟩:=h;obtain ⟨u,w',rfl,rx,rt⟩:=Hh r
 cases (show u=Value.ref a from rx)
 cases (show w'=Value.ref p from rt)
 obtain ⟨_,its,rv,hit⟩:=(show ObjOk X.prog X.w H s.heap p (.tup (cs.map V.ref)) from I.hok p _ hp);have hv:=JS rv;subst hv;obtain ⟨o,h1,h2,n,h3⟩:=hit;obtain ⟨oc,od,oda,osl⟩:=o;dsimp only at h2 h3;subst h2 h3;exact kia_tup (KZ g gc) I.kIn (SD I ha hd) h1 e (λz=>nomatch z) λtk=>⟨.bl b,H,I.tok tk,rfl,q⟩
def G0 (ns:List Str):D->M D
 | .exc m _=>if m∈AM then ret (.bl (ns.any λn=>Dn m n)) else fail
 | _=>fail
section
variable {X:Cx}{P:Addr}{ca:Str->Addr}{a:Expr}{es:List Expr}{f:M D}{p pos q:Pos}{i:Nat}{ns:List Str}
def FAC (X:Cx)(ca:Str->Addr)(es:List Expr)(ns:List Str):Prop:=PA X es (λ_ H Q=>Q ((ns.map ca).map V.ref) H)/\∀n∈ns,n∈AM
theorem SS:FAC X ca [] []:=⟨GD,λ_ h=>nomatch h⟩
theorem DR {n:Str}(x:XM X.K X.mg P ca)(hn:n∈AM)(hg:Gl X n)(h:FAC X ca es ns)(hdb:(n == ("__debug__" : Str))=false:=by decide):FAC X ca (.Name n q :: es) (n :: ns):=
 ⟨λpos pins s σ H Q I hq=>Dr (Ji hg (x.ms n hn) (v:=.ref (ca n)) rfl hdb) h.1 (AE (e:=.Name n q) rfl) pos pins s σ H Q I hq,λm hm=>by
  rcases List.mem_cons.mp hm with rfl | hm
  ·exact hn
  ·exact h.2 m hm⟩
theorem Mh {K:PySem.W.Frag}{mg:Str->Option Value}(x:XM K mg P ca){m:Str}(hm:m∈AM):∀{ns:List Str},(∀n∈ns,n∈AM)->kitAny K (.ref (ca m)) ((ns.map ca).map Value.ref)=some (ns.any λn=>Dn m n)
 | [],_=>rfl
 | n :: ns,h=>by
   have hn:=h n List.mem_cons_self;rw [List.map_cons,List.map_cons,kitAny,Mi (x.cl m hm) (x.cl n hn),x.subE hm hn,List.any_cons]
   cases Dn m n with
   | true=>rfl
   | false=>exact Mh x hm λk hk=>h k (List.mem_cons_of_mem _ hk)
theorem SV (x:XM X.K X.mg P ca)(hg:Gl X "isinstance")(hm:X.mg "isinstance" = none)(hv:bootBuiltins "isinstance" = some (.builtin "isinstance"))(hc:FAC X ca es ns)(ha:PE X a (RE X.K f))(hl:ns.length<=1000:=by decide)(h1:AO a=false:=by rfl) :
 PE X (.Call (.Name "isinstance" p) [a,.Tuple es i q] [] pos) (RE X.K (bnd f (G0 ns))):=
 AD (FV (N2 (cs:=ns.map ca)) hg hm hv (Dr ha (Dr (O5 hc.1) GD (AE (e:=.Tuple es i q) rfl)) (AE h1)) (by decide) (by decide) (AE h1) (AQ (es:=[.Tuple es i q]) rfl).1)
  λσ H Q z9=>by
   obtain ⟨Oo,c0,t,fi,r,t',eq,k⟩:=z9;obtain ⟨d,t1,e1,eq⟩:=Af eq;refine ⟨Oo,c0,t,fi,d,t1,e1,λv H1 c1 f1 s1 rv=>⟨by rw [List.length_map,List.length_map];exact Nat.le_trans hl (by decide),λpp hp=>?_⟩⟩;show Sk X.K (ns.map ca) [v,.ref pp] _ Q;have f2:=f1.laid (o:=.tup ((ns.map ca).map V.ref)) hp;have s2:=f1.stp_laid (o:=.tup ((ns.map ca).map V.ref)) hp
   cases rv with
   | @exc q0 x0 C0 dx0 m vs ds g hx0 hA fl rs=>
     unfold G0 at eq;dsimp only at eq
     split at eq
     ·next hm'=>
      cases eq
      have hcc:=x.of hm' g;subst hcc;refine ⟨_,x0,pp,ca m,dx0,_,rfl,Aw,by rw [Al (Ay hx0 hp)];exact hx0,λdd hd=>?_,x.gt m hm',x.gc m hm',Mh x hm' hc.2,k _ _ c1 f2 (s1.trans s2) (.bl _)⟩;subst hd;exact ⟨_,by rw [Al (Ay fl.1 hp)];exact fl.1⟩
     ·cases eq
   | _=>cases eq
end
end F2
namespace F2
open PySem L2 PySem.Spec SeqAt
noncomputable def B0:Nat->D->D->Bool
 | _,.non,.non=>true
 | _,.bl a,.bl b=>a == b
 | _,.int a,.int b=>a == b
 | _,.str a,.str b=>a == b
 | _,.dic,.dic=>true
 | n + 1,.lst xs,.lst ys=>xs.length == ys.length && (xs.zip ys).all λp=>B0 n p.1 p.2
 | n + 1,.tup xs,.tup ys=>xs.length == ys.length && (xs.zip ys).all λp=>B0 n p.1 p.2
 | _,_,_=>false
theorem RV {f:D×D->Bool}:∀{xs ys:List D} {j:Nat} {x y:D},(xs.zip ys).all f=true->xs[j]?=some x->ys[j]?=some y->f (x,y)=true
 | [],_,_,_,_,_,h,_=>by simp at h
 | _ :: _,[],_,_,_,_,_,h=>by simp at h
 | a :: xs,b :: ys,0,x,y,h,h1,h2=>by
   rw [List.zip_cons_cons,List.all_cons,Bool.and_eq_true] at h
   cases h1;cases h2;exact h.1
 | a :: xs,b :: ys,j + 1,x,y,h,h1,h2=>by
   rw [List.zip_cons_cons,List.all_cons,Bool.and_eq_true] at h;exact RV (j:=j) h.2 (by simpa using h1) (by simpa using h2)
variable {K:PySem.W.Frag}
theorem D4 {P:Program}{w:World}{c:Cf}{H:Hp}{s:Shared}(hok:HOk P w H s.heap){A:Around}{x y:V}{u v:Value}{dx dy:D}(ru:RelV x u)(rv:RelV y v)(rx:Rep K c H x dx)(ry:Rep K c H y dy)(e:B0 0 dx dy=true)(hu:A.units + 2 < cLine) :
 RcAt A s u v true/\RcNeAt A s u v false/\EqAt A s u v true:=by
 have flat:eqN 0 dx dy=some true->RcAt A s u v true/\RcNeAt A s u v false/\EqAt A s u v true:=λh=>⟨(GW hok 0 ru rv rx ry h (by lia)).1,Mn hok 0 ru rv rx ry h (by lia),(GW hok 0 ru rv rx ry h (by lia)).2⟩
 cases rx <;> cases ry <;> first
  | (unfold B0 at e;cases e;done)
  | (refine flat ?_;unfold B0 at e;simp only [eqN,eq0];done)
  | (refine flat ?_;unfold B0 at e;simp only [eqN,eq0];rw [e];done)
  | skip
 ·rename_i a h1 h2 b h3 h4
  cases ru;cases rv
  obtain ⟨_,lo1,vs,rel1,d1⟩:=GV hok h1;obtain ⟨_,lo2,ws,rel2,d2⟩:=GV hok h3;have e1:vs=[]:=by have:=rel1.length;cases vs with | nil=>rfl | cons _ _=>cases this
  have e2:ws=[]:=by have:=rel2.length;cases ws with | nil=>rfl | cons _ _=>cases this
  subst e1 e2;have rc:RcAt A s (.ref a) (.ref b) true:=λP' w' E Q hq=>PySem.W.keq_eq (r:=true) (knd:=AU P' w') lo1 lo2 (FH d1 (λ_ z=>nomatch z)) (FH d2 (λ_ z=>nomatch z)) (by lia) (λ_=>.nil) hq;have rn:RcNeAt A s (.ref a) (.ref b) false:=λP' w' E Q hq=>PySem.W.keq_ne (r:=true) (knd:=AU P' w') lo1 lo2 (FH d1 (λ_ z=>nomatch z)) (FH d2 (λ_ z=>nomatch z)) (by lia) (λ_=>.nil) hq;refine ⟨rc,rn,?_⟩
  by_cases hab:a=b
  ·subst hab;exact EqAt.same _
  ·exact EqAt.of_refs hab rc
theorem Ra {P:Program}{w:World}{c:Cf}{H:Hp}{s:Shared}(hok:HOk P w H s.heap):∀(n:Nat) {A:Around} {x y:V} {u v:Value} {dx dy:D},RelV x u->RelV y v->Rep K c H x dx->Rep K c H y dy->B0 n dx dy=true->A.units + n + 2 < cLine->
 RcAt A s u v true/\RcNeAt A s u v false/\EqAt A s u v true:=by
 intro n
 induction n with
 | zero=>
   intro A x y u v dx dy ru rv rx ry e hu;exact D4 hok ru rv rx ry e (by lia)
 | succ n ih=>
   intro A x y u v dx dy ru rv rx ry e hu;have items:∀{vs ws:List V} {is js:List Value} {ds es:List D},Vals vs is->Vals ws js->Reps K c H vs ds->Reps K c H ws es->((ds.zip es).all λp=>B0 n p.1 p.2)=true->
    ∀j (h1:j < is.toArray.size) (h2:j < js.toArray.size),EqAt A.in1 s is.toArray[j] js.toArray[j] ((λ_=>true) j):=λ{vs ws is js ds es} r1 r2 q1 q2 e' j h1 h2=>by
    obtain ⟨v1,a1,a2⟩:=FB r1 h1;obtain ⟨v2,b1,b2⟩:=FB r2 h2;obtain ⟨l1,g1⟩:=List.getElem?_eq_some_iff.mp a1;obtain ⟨l2,g2⟩:=List.getElem?_eq_some_iff.mp b1;have k1:ds[j]?=some (ds[j]'(by rw [<-q1.length];exact l1)):=List.getElem?_eq_getElem _;have k2:es[j]?=some (es[j]'(by rw [<-q2.length];exact l2)):=List.getElem?_eq_getElem _;exact (ih a2 b2 (q1.get a1 k1) (q2.get b1 k2) (RV e' k1 k2) (by rw [show A.in1.units=A.units + 1 from rfl];lia)).2.2
   cases rx with
   | @lst p vs ds g1 g2 g3=>
     cases ry with
     | @lst q ws es h1 h2 h3=>
       have e:(ds.length == es.length && (ds.zip es).all λp=>B0 n p.1 p.2)=true:=e;rw [Bool.and_eq_true,beq_iff_eq] at e
       cases ru;cases rv
       obtain ⟨is,r1,l1⟩:=Ce hok g1;obtain ⟨js,r2,l2⟩:=Ce hok h1;have hsz:is.toArray.size=js.toArray.size:=by simp [<-r1.length,<-r2.length,g3.length,h3.length,e.1]
       have rc:=RcAt.lists (e:=λ_=>true) l1 l2 hsz (by lia) (items r1 r2 g3 h3 e.2);have rn:=RcNeAt.lists (e:=λ_=>true) l1 l2 hsz (by lia) (items r1 r2 g3 h3 e.2);rw [Kn] at rc rn;refine ⟨rc,rn,?_⟩
       by_cases hpq:p=q
       ·subst hpq;exact EqAt.same _
       ·exact EqAt.of_refs hpq rc
     | _=>cases e
   | @tup p vs ds g1 g2 g3=>
     cases ry with
     | @tup q ws es h1 h2 h3=>
       have e:(ds.length == es.length && (ds.zip es).all λp=>B0 n p.1 p.2)=true:=e;rw [Bool.and_eq_true,beq_iff_eq] at e
       cases ru;cases rv
       obtain ⟨is,r1,l1⟩:=CD hok g1;obtain ⟨js,r2,l2⟩:=CD hok h1;have hsz:is.toArray.size=js.toArray.size:=by simp [<-r1.length,<-r2.length,g3.length,h3.length,e.1]
       have rc:=RcAt.tuples (e:=λ_=>true) l1 l2 (by lia) (items r1 r2 g3 h3 e.2);have rn:=RcNeAt.tuples (e:=λ_=>true) l1 l2 (by lia) (items r1 r2 g3 h3 e.2);rw [Kn,hsz,beq_self_eq_true,Bool.and_true] at rc rn;refine ⟨rc,rn,?_⟩
       by_cases hpq:p=q
       ·subst hpq;exact EqAt.same _
       ·exact EqAt.of_refs hpq rc
     | _=>cases e
   | non=>exact D4 hok ru rv .non ry (by cases dy <;> first | exact e | cases e) (by lia)
   | bl z=>exact D4 hok ru rv (.bl z) ry (by cases dy <;> first | exact e | cases e) (by lia)
   | int z=>exact D4 hok ru rv (.int z) ry (by cases dy <;> first | exact e | cases e) (by lia)
   | str z=>exact D4 hok ru rv (.str z) ry (by cases dy <;> first | exact e | cases e) (by lia)
   | dic z1 z2=>exact D4 hok ru rv (.dic z1 z2) ry (by cases dy <;> first | exact e | cases e) (by lia)
   | _=>cases ry <;> cases e
def WQ (K:PySem.W.Frag)(b:Bool):R2:=λx y H Q=>∃c dx dy,Rep K c H x dx/\Rep K c H y dy/\B0 EQD dx dy=true/\Q (.bl b) H
theorem Wm {X:Cx}(hu:X.A.units + 64 < cLine):OpR X (compareOp .Eq) (WQ X.K true):=by
 intro pins s σ H x y v u Q I rx ry ⟨c,dx,dy,r1,r2,e,q⟩;exact (Ra I.hok EQD rx ry r1 r2 e (by unfold EQD;lia)).1 X.prog X.w _ _ ⟨.bl true,H,I,rfl,q⟩
def eqA (b:Bool)(x y:D):M D:=λt=>if B0 EQD x y=true then some (.bl b,t) else none
theorem Uy {b:Bool}:AR K (WQ K b) (eqA b):=λ{Oo c t σ H x y dx dy r t' Q} f rx ry eq k=>by
 unfold eqA at eq
 split at eq
 ·next h=>cases eq;exact ⟨c,dx,dy,rx,ry,h,k _ H c f .refl (.bl b)⟩
 ·cases eq
end F2
namespace L2
open PySem PySem.Spec PyProof.Rows PySem.W PySem.Builtin PySem.Builtin.ObjectAttr
variable {qx:Bool}
section
variable {prog:Program}{w:World}{A:Around}{s:Shared}{K:PySem.W.Frag}{x C P dx:Addr}{ox:Obj}{od:Option Obj}{R:Result->Shared->Prop}{name:Str}{v:Value}{tk:Tok}{cd:ClassData}
end
section
variable {X:Cx}{k:Nat}{f C P:Addr}{fd:FuncData}{pins:List (Addr×Obj)}{σ:St}{H:Hp}{s:Shared}{Q:Value->Shared->Prop}{us:List Value}{vs:List V}{a b:Str}{ps:List Str}{v v2:V}{u u2:Value}
end
section
variable {X:Cx}{k:Nat}{f C P:Addr}{fd:FuncData}{a b:Str}{ps:List Str}{n:Str}{p pos:Pos}{e e':Expr}
end
end L2
namespace F2
open PySem L2 PySem.Spec PySem.W
variable {qx:Bool}
section
variable {X:Cx}{e e':Expr}{pos p pos2:Pos}{E:L2.St->XK}{P:Addr}{ca:Str->Addr}
def af (n:Str)(f:M (List D)):M Out:=bnd f λds=>match ds with
 | [d,d']=>ret (.ret (.exc n [d,d']))
 | _=>fail
end
end F2
namespace L2
open PySem PySem.Spec PyProof.Rows PySem.W
end L2
namespace F2
open PySem L2 PySem.Spec
section
variable {X:Cx}{a b:Expr}{pos:Pos}
end
end F2
namespace L2
open PySem PySem.Spec PyProof.Rows PySem.W
section
variable {prog:Program}{w:World}{A:Around}{E:Value->Shared->Prop}{env:Env}{K:PySem.W.Frag}{C:Addr}{bm:List Value}{s:Shared}
end
section
variable {X:Cx}{pins:List (Addr×Obj)}{σ:St}{H:Hp}{s s':Shared}{qx:Bool}{x C:Addr}{dx T:Option Addr}{fl:Value}
end
section
variable {X:Cx}{n v:Str}{C' C2:Addr}{bm' bm2:List Value}{p pos p2:Pos}{e cN:Expr}{rest:List ExceptHandler}{t:St->Hp->(Addr->Option Addr->Hp->Prop)->Prop}{tr:Addr->Addr->Option Addr->TS}{i:Nat}{E:St->XK}
end
structure FnOkH (P:Program)(w:World)(K:PySem.W.Frag)(mg:Str->Option Value)(base:Heap)(CX:CXT)(k:Nat)(f:Addr)(fd:FuncData)(ps:List Str)(sp:Sp):Prop where
 len:∀vs H Q E,sp vs H Q E->vs.length=ps.length
 run:∀(z:Addr) (A:Around) (outer:List Env) (s:Shared) (H:Hp) (args:Args) (us:List Value) (vs:List V) (Q:VK) (E:XK),Room k A->Env0 P w K mg base A outer s H->BindsTo s fd args (ps.zip us)->Vals vs us->sp vs H Q E->
  codeAny (model P w) (A.mark (some (.ref z))) (.call (.ref f) args) (CR CX outer P w H s Q E) s
section
variable {qx:Bool}{X:Cx}{k:Nat}{f C P:Addr}{fd:FuncData}{pins:List (Addr×Obj)}{σ:St}{H:Hp}{s:Shared}{Q:Value->Shared->Prop}{us:List Value}{vs:List V}{a b:Str}{ps:List Str}{v v2:V}{u u2:Value}{n:Str}{p pos:Pos}{e e':Expr}
end
end L2
namespace F2
open PySem L2 PySem.Spec PySem.W
section
variable {X:Cx}{pos p p2 p3 p4:Pos}{P:Addr}{ca:Str->Addr}{E:XK}{e e' cN:Expr}
end
end F2
namespace L2
open PySem PySem.Spec PyProof.Rows
section
variable {prog:Program}{w:World}{A:Around}{E:Value->Shared->Prop}{s:Shared}
variable {I:Addr}{fp wr:List Addr}{G:Array GenState->Array GenState->Prop}{n:Nat}{P:Nat->Value->Prop}{St:Nat->Shared->Prop}
def Z8 (prog:Program)(w:World)(h:Heap)(no:List Addr)(k:Key)(x v:Value):Prop:=∃(p:Addr) (o:Obj) (kv:Value) (q:Nat),v = .ref p/\p∉no/\h.get? p=some o/\o.cls = .type "tuple"/\o.data = .seq #[kv,x] q/\(AU prog w).is k kv=true
end
section
variable {X:Cx}
end
end L2
namespace F2
open PySem L2 PySem.Spec PyProof.Rows
section
variable {X:Cx}{pos:Pos}{e:Expr}
end
end F2
namespace L2
open PySem PySem.Spec PyProof.Rows
section
variable {X:Cx}
end
end L2
namespace F2
open PySem L2 PySem.Spec PyProof.Rows
section
variable {K:PySem.W.Frag}
end
section
variable {X:Cx}{pos:Pos}{e:Expr}
end
end F2
namespace F2
open PySem L2 PySem.Spec PySem.W
section
variable {X:Cx}
end
noncomputable def Q4 (f:Str)(v:D):List (Str×D)->List (Str×D)
 | []=>[(f,v)]
 | (g,x) :: r=>if g=f then (g,v) :: r else (g,x) :: Q4 f v r
section
variable {K:PySem.W.Frag}{c:Cf}{H:Hp}
end
noncomputable def KW {α:Type}(d:D)(h:Nat->Str->List (Str×D)->M α):M α:=λt=>match d with
 | .obj k=>match t.S[k]? with
   | some (.ins n fs)=>h k n fs t
   | _=>none
 | _=>none
def aA (f:Str)(a:M D):M D:=bnd a λd=>KW d λ_ _ fs t=>(fs.lookup f).map λv=>(v,t)
def ag (f:Str)(gv ga:M D):M Out:=bnd gv λv=>bnd ga λd=>KW d λk n fs t=>if fs.length < 1000 then some (.next,{ t with S:=t.S.set k (.ins n (Q4 f v fs)) }) else none
def aq (n:Str)(g:Fn)(f:M (List D)):M D:=bnd f λds t=>match g (.obj t.S.length :: ds) (t.S++[.ins n []]) with
 | some (.non,S')=>some (.obj t.S.length,{ t with S:=S' })
 | _=>none
def ar (n:Str)(g:Fn)(o:M D)(f:M (List D)):M D:=bnd o λd=>KW d λ_ n' _=>if n'=n then bnd f λds t=>match g (d :: ds) t.S with
 | some (r,S')=>some (r,{ t with S:=S' })
 | none=>none else fail
end F2
namespace L2
open PySem PySem.Spec PySem.W PyProof.Rows
section
variable {X:Cx}{CX:CXT}{k:Nat}{f C:Addr}{fd:FuncData}{ps:List Str}{sp:Sp}{E:St->XK}{x m:Str}{p pos apos:Pos}{e o:Expr}{es:List Expr}{ta:TE}{t:TA}
structure ByCls (K:PySem.W.Frag)(C:Addr)(m:Str)(f:Addr):Prop where
 ga:specialIn K (.ref C) "__getattribute__" = some (some (.builtin "type.__getattribute__"))
 rd:readsIn K C (.type "type")=true
 at_:(match findCls K (.ref C) (.type "type") m with | some (.val (.ref g))=>g == f | _=>false)=true
 kp:keepIn K (.ref f)=true
end
end L2
namespace F2
open PySem L2 PySem.Spec PySem.W
section
variable {X:Cx}{e o a value:Expr}{es:List Expr}{pos pos' apos p:Pos}{f:Str}{g gv ga:M D}{fl:M (List D)}{C:Addr}
structure MAt (K:PySem.W.Frag)(n m:Str)(C fa:Addr):Prop where
 cl:n∈Vq
 at_:nsIn K mainGlobals n=some (some (.ref C))
 me:Meth K C m fa
 na:m∉atN
section
variable {k:Nat}{fa:Addr}{fd:FuncData}{ps:List Str}{h:Fn}{n m:Str}{qx:Bool}{E:L2.St->XK}
end
end
end F2
namespace F2
open PySem L2 PySem.Spec PyProof.Rows
section
variable {K:PySem.W.Frag}
end
abbrev Gd:=Option (Nat×List D)
def Gon (g:Gd)(S:List Ob):Prop:=∀k xs,g=some (k,xs)->S[k]?=some (.lst xs)
structure ItOk3 (K:PySem.W.Frag)(J:It)(g:Gd)(c:Cf)(H:Hp)(ds:List D):Prop where
 go:∀c' H' S' (i:Nat),Ext c H c' H'->SInv K c' S' H'->Gon g S'->i < ds.length->J.go i H'
 yld:∀c' H' S' (i:Nat) x H'' d,Ext c H c' H'->SInv K c' S' H'->Gon g S'->ds[i]?=some d->J.yld i H' x H''->∃p vs es,x = .ref p/\H' p=none/\H''=upd H' p (.tup vs)/\d = .tup es/\Reps K c' H' vs es
 stop:∀c' H' S',Ext c H c' H'->SInv K c' S' H'->Gon g S'->J.stop ds.length H'
inductive RI3 (K:PySem.W.Frag)(f:M (Gd×List D))(σ:L2.St)(H:Hp)(R:It->Hp->Prop):Prop where
 | mk (Oo:Addr->Prop) (c:Cf) (t:T) (fi:FInv K Oo c t σ H) (p:Gd×List D) (t':T) (e:f t=some (p,t')) (k:∀J H' c',FInv K Oo c' t' σ H'->Stp Oo c H c' H'->ItOk3 K J p.1 c' H' p.2->R J H'):RI3 K f σ H R
section
variable {X:Cx}{e a b tg iter elt:Expr}{ifs:List Expr}{pos:Pos}{scope:Scope}{N':List Str}{n:Nat}{fr:List Nat}{st:D->M Unit}{tst:M Bool}{el:M D}
end
structure ItOkG (K:PySem.W.Frag)(J:It)(g:Gd)(c:Cf)(H:Hp)(ds:List D):Prop where
 go:∀c' H' S' (i:Nat),Ext c H c' H'->SInv K c' S' H'->Gon g S'->i < ds.length->J.go i H'
 yld:∀c' H' S' (i:Nat) x H'' d,Ext c H c' H'->SInv K c' S' H'->Gon g S'->ds[i]?=some d->J.yld i H' x H''->H''=H'/\Rep K c' H' x d
 stop:∀c' H' S',Ext c H c' H'->SInv K c' S' H'->Gon g S'->J.stop ds.length H'
section
variable {X:Cx}{e a b tg iter elt:Expr}{ifs:List Expr}{pos:Pos}{scope:Scope}{N':List Str}{n:Nat}{fr:List Nat}{st:D->M Unit}{tst:M Bool}{el:M D}
end
noncomputable def Bo (S:List Ob):Nat->D->D
 | 0,d=>d
 | n + 1,.obj k=>match S[k]? with
   | some (.lst ds)=>.lst (ds.map (Bo S n))
   | _=>.obj k
 | n + 1,.tup ds=>.tup (ds.map (Bo S n))
 | n + 1,.lst ds=>.lst (ds.map (Bo S n))
 | _ + 1,d=>d
def eqO (g:Bool->Bool)(x y:D):M D:=λt=>if (Bh (Bo t.S 16 x) && Bh (Bo t.S 16 y))=true then (eqN EQD (Bo t.S 16 x) (Bo t.S 16 y)).map λb=>(.bl (g b),t) else none
theorem HH {K:PySem.W.Frag}{c:Cf}{S:List Ob}{H:Hp}(s:SInv K c S H):∀(n:Nat) {v:V} {d:D},Rep K c H v d->Bh (Bo S n d)=true->Rep K c0 H v (Bo S n d)
 | 0,v,d,r,p=>De r (by simpa only [Bo] using p)
 | n + 1,v,d,r,p=>by
   have row:∀{vs:List V} {ds:List D},Reps K c H vs ds->EU (ds.map (Bo S n))=true->Reps K c0 H vs (ds.map (Bo S n)):=by
    intro vs ds q
    induction ds generalizing vs with
    | nil=>intro _;cases q;exact .nil
    | cons d ds ih=>
      intro p
      cases q with
      | cons a b=>
        rw [List.map_cons,EU,Bool.and_eq_true] at p;exact .cons (HH s n a p.1) (ih b p.2)
   cases r with
   | @obj a k hk=>
     unfold Bo at p ⊢
     split
     ·next ds e=>
      rw [e] at p;obtain ⟨vs,h1,h2⟩:=s.obs k a _ hk e;exact .lst h1 (Gg _) (row h2 (by simpa [Bh] using p))
     ·next h=>
      split at p
      ·next ds e=>exact absurd e (h ds)
      ·simp [Bh] at p
   | tup h m q=>rw [Bo] at p ⊢;exact .tup h (Gg _) (row q (by simpa only [Bh] using p))
   | lst h m q=>rw [Bo] at p ⊢;exact .lst h (Gg _) (row q (by simpa only [Bh] using p))
   | non=>exact .non
   | bl b=>exact .bl b
   | int b=>exact .int b
   | str b=>exact .str b
   | ty b=>exact .ty b
   | scr h=>exact De (c:=c) (.scr h) p
   | dic h n=>exact De (.dic h n) p
   | exc a b n f q=>exact De (.exc a b n f q) p
variable {K:PySem.W.Frag}
theorem Uz {g:Bool->Bool}:AR K (Li K g) (eqO g):=λ{Oo c t σ H x y dx dy r t' Q} f rx ry eq k=>by
 unfold eqO at eq
 split at eq
 ·next hp=>
  rw [Bool.and_eq_true] at hp;obtain ⟨b,e1,e2⟩:=Option.map_eq_some_iff.mp eq
  cases e2
  exact ⟨c0,_,_,b,HH f.s 16 rx hp.1,HH f.s 16 ry hp.2,e1,k _ H c f .refl (.bl (g b))⟩
 ·cases eq
theorem M8 {X:Cx}{pins:List (Addr×Obj)}{σ:L2.St}{H:Hp}{s:Shared}{A:Around}{E:Value->Shared->Prop}{Q:Value->Shared->Prop}{b:Bool}{x:V}{u:Value}{T:String}{tp:Addr}{dd:Option Addr}{its:List Value}{n:Nat}{sl:Array (Option Value)}(I:Inv X pins σ H s)(rx:RelV x u)(ty:TyOf X.K H x (.type T))(htp:s.heap.get? tp=some ⟨.type "tuple",dd,.seq its.toArray n,sl⟩)
 (e:PySem.W.kitAny X.K (.type T) its=some b) (h:∀tk,Q (.bool b) { s with toks:=tk }):wpAny (model X.prog X.w) A (call (.builtin "isinstance") [u,.ref tp]) Q E s:=by
 cases ty with
 | non=>cases (show u=Value.none from rx);exact PySem.W.kia_tup PySem.W.kitx_none I.kIn True.intro htp e (λz=>nomatch z) h
 | bl y=>cases (show u=Value.bool y from rx);exact PySem.W.kia_tup PySem.W.kitx_bool I.kIn True.intro htp e (λz=>nomatch z) h
 | int i=>obtain ⟨t,q⟩:=(show ∃t,u=Value.int i t from rx);cases q;exact PySem.W.kia_tup PySem.W.kitx_int I.kIn True.intro htp e (λz=>nomatch z) h
 | str y=>obtain ⟨t,q⟩:=(show ∃t,u=Value.str y t from rx);cases q;exact PySem.W.kia_tup PySem.W.kitx_str I.kIn True.intro htp e (λz=>nomatch z) h
 | flt y=>obtain ⟨t,q⟩:=(show ∃t,u=Value.float y t from rx);cases q;exact PySem.W.kia_tup PySem.W.kitx_float I.kIn True.intro htp e (λz=>nomatch z) h
 | @lst a xs ea=>
   cases (show u=Value.ref a from rx)
   obtain ⟨_,_,n,_,h1⟩:=(show ObjOk X.prog X.w H s.heap a (.lst xs) from I.hok a _ ea);exact PySem.W.kia_tup PySem.W.kitx_list I.kIn ⟨_,h1,rfl⟩ htp e (λz=>nomatch z) h
 | @frz a ob xs ea=>
   cases (show u=Value.ref a from rx)
   obtain ⟨_,_,_,n,_,h1⟩:=(show ObjOk X.prog X.w H s.heap a (.frz ob (.lst xs)) from I.hok a _ ea);exact PySem.W.kia_tup PySem.W.kitx_list I.kIn ⟨_,h1,rfl⟩ htp e (λz=>nomatch z) h
 | @tup a xs ea=>
   cases (show u=Value.ref a from rx)
   obtain ⟨_,_,_,p⟩:=(show ObjOk X.prog X.w H s.heap a (.tup xs) from I.hok a _ ea);obtain ⟨o,h1,h2,_⟩:=p;exact PySem.W.kia_tup PySem.W.kitx_tuple I.kIn ⟨o,h1,h2⟩ htp e (λz=>nomatch z) h
 | @dK a kvs ea=>
   cases (show u=Value.ref a from rx)
   obtain ⟨_,_,vs,_,p⟩:=(show ObjOk X.prog X.w H s.heap a (.dK kvs) from I.hok a _ ea);obtain ⟨o,es,ep,h1,h2,_⟩:=p;exact PySem.W.kia_tup PySem.W.kitx_dict I.kIn ⟨o,h1,h2.1⟩ htp e (λz=>nomatch z) h
 | @dT a kvs ea=>
   cases (show u=Value.ref a from rx)
   obtain ⟨_,_,xs,_,o,es,ep,h1,h2,_⟩:=(show ObjOk X.prog X.w H s.heap a (.dT kvs) from I.hok a _ ea);exact PySem.W.kia_tup PySem.W.kitx_dict I.kIn ⟨o,h1,h2.1⟩ htp e (λz=>nomatch z) h
def Sj (K:PySem.W.Frag):List V->Hp->VK->Prop:=λxs H Q=>∃x p n1 n2 T b,xs=[x,.ref p]/\H p=some (.tup [.ty n1,.ty n2])/\TyOf K H x (.type T)/\PySem.W.kitAny K (.type T) [.type n1,.type n2]=some b/\Q (.bl b) H
theorem N1 {X:Cx}:BY X (.builtin "isinstance") (Sj X.K):=by
 intro pins s σ H xs us Q I r h;obtain ⟨x,p,n1,n2,T,b,rfl,hp,ty,e,q⟩:=h;obtain ⟨u,w',rfl,rx,rt⟩:=Hh r
 cases (show w'=Value.ref p from rt)
 obtain ⟨_,its,rv,hit⟩:=(show ObjOk X.prog X.w H s.heap p (.tup [.ty n1,.ty n2]) from I.hok p _ hp);obtain ⟨u1,u2,rfl,r1,r2⟩:=Hh rv
 cases (show u1=Value.type n1 from r1)
 cases (show u2=Value.type n2 from r2)
 obtain ⟨o,h1,h2,n,h3⟩:=hit;obtain ⟨oc,od,oda,osl⟩:=o;dsimp only at h2 h3;subst h2 h3;exact M8 I rx ty h1 e λtk=>⟨.bl b,H,I.tok tk,rfl,q⟩
def Je:List D->M D
 | [d,.tup [.ty m1,.ty m2]]=>λt=>match d with
   | .obj k=>match t.S[k]? with
     | some (.lst _)=>match Dh "list" m1,Dh "list" m2 with
       | some b1,some b2=>some (.bl (b1 || b2),t)
       | _,_=>none
     | _=>none
   | d=>match tyD d with
     | some n=>match Dh n m1,Dh n m2 with
       | some b1,some b2=>some (.bl (b1 || b2),t)
       | _,_=>none
     | none=>none
 | _=>fail
theorem Mj {d:D}{n m1 m2:String}{b1 b2:Bool}(h:tyD d=some n)(h1:Dh n m1=some b1)(h2:Dh n m2=some b2):PySem.W.kitAny K (.type n) [.type m1,.type m2]=some (b1 || b2):=by
 rw [PySem.W.kitAny,G8 h h1]
 cases b1 with
 | true=>rfl
 | false=>rw [PySem.W.kitAny,G8 h h2];cases b2 <;> rfl
theorem Rf:DM K (Sj K) Je:=λ{Oo c t σ H xs ds r t' Q} f rx eq k=>by
 unfold Je at eq
 split at eq
 ·next d m1 m2=>
  obtain ⟨v,u,rfl,rv,ru⟩:=IF rx
  cases ru with
  | @tup p ws _ g1 g2 g3=>
  obtain ⟨w1,w2,rfl,r1,r2⟩:=IF g3
  cases r1
  cases r2
  split at eq
  ·next kk=>
   cases rv with
   | @obj a _ hk=>
   split at eq
   ·next xs hS=>
    obtain ⟨vs,q1,q2⟩:=f.s.obs kk a _ hk hS
    split at eq
    ·next b1 b2 e1 e2=>
     cases eq
     exact ⟨_,p,m1,m2, "list",_,rfl,g1,.lst q1,Mj (d:=.lst xs) rfl e1 e2,k _ H c f .refl (.bl _)⟩
    ·cases eq
   ·cases eq
  ·next nk=>
   split at eq
   ·next n et=>
    split at eq
    ·next b1 b2 e1 e2=>
     cases eq
     refine ⟨v,p,m1,m2,n,_,rfl,g1,?_,Mj et e1 e2,k _ H c f .refl (.bl _)⟩
     cases rv <;> first | (cases et;first | exact .non | exact .bl _ | exact .int _ | exact .str _ | exact .lst ‹_› | exact .tup ‹_› | exact .dK ‹_›) | cases et
    ·cases eq
   ·cases eq
 ·cases eq
end F2
namespace L2
open PySem PySem.Spec PyProof.Rows
section
variable {X:Cx}{k:Nat}{f l I S:Addr}{fd:FuncData}{ps:List Str}{sp:Sp}{pins:List (Addr×Obj)}{σ:St}{H:Hp}{s:Shared}{Q:VK}{oS oI oS' oI':Obj}{h':Heap}{t':Nat}
end
end L2
namespace F2
open PySem L2 PySem.Spec PySem.W
section
variable {K:PySem.W.Frag}{g:Fn}
end
end F2
namespace F2
open PySem L2 PySem.Spec PyProof.Rows
variable {K:PySem.W.Frag}
section
variable {X:Cx}{e:Expr}{pos:Pos}
theorem Ln {Oo:Addr->Prop}{c:Cf}{t:T}{σ:L2.St}{H:Hp}{x:V}{dx:D}{xs:List D}(f:FInv K Oo c t σ H)(rx:Rep K c H x dx)(e:C7 t.S dx = .lst xs):∃a vs,x = .ref a/\H a=some (.lst vs)/\Reps K c H vs xs:=by
 cases rx with
 | @lst a vs ds h1 h2 h3=>
   cases e
   exact ⟨a,vs,rfl,h1,h3⟩
 | @obj a kk hk=>
   unfold C7 at e;dsimp only at e
   split at e
   ·next es=>
    cases e
    obtain ⟨vs,q1,q2⟩:=f.s.obs _ a _ hk es;exact ⟨a,vs,rfl,q1,q2⟩
   ·cases e
 | _=>cases e
def Ii (x y:D):M (List D):=λt=>match C7 t.S x,C7 t.S y with
 | .lst xs,.lst ys=>lim (xs.length + ys.length) (xs++ys) t
 | _,_=>none
theorem Pn:HW K No Ii:=λ{Oo c t σ H x y dx dy r t' Q} f rx ry eq k=>by
 unfold Ii at eq
 split at eq
 ·next xs ys e1 e2=>
  obtain ⟨h,z⟩:=CQ eq
  cases z
  obtain ⟨a,vs,rfl,h1,h3⟩:=Ln f rx e1;obtain ⟨b,ws,rfl,g1,g3⟩:=Ln f ry e2;refine ⟨a,b,vs,ws,rfl,rfl,h1,g1,?_,λp hp=>k p _ H c f .refl (h3.append g3) hp⟩;rw [h3.length,g3.length];exact Nat.le_trans h BR
 ·cases eq
end
section
variable {X:Cx}{e elt tg iter:Expr}{pos:Pos}{scope:Scope}{N':List Str}{ifs:List Expr}{n:Nat}{fr:List Nat}{f:M (List D)}{st:D->M Unit}{tst:M Bool}{el:M D}
theorem RF.ofObj {f:M (List D)}{σ:L2.St}{H:Hp}{Q:VK}(q:RE K (EH f) σ H Q):RF K f σ H Q:=by
 obtain ⟨Oo,c,t,fi,r,t',eq,k⟩:=q;obtain ⟨ds,t1,e1,eq⟩:=Af eq
 cases eq
 refine ⟨Oo,c,t,fi,ds,_,e1,λp xs H1 c1 f1 s1 rxs hp=>?_⟩;obtain ⟨c2,f2,s2,e2⟩:=f1.newObj (o:=.lst ds) (u:=.lst xs) hp λc' H' ex hu=>⟨xs,hu,rxs.mono ex⟩;exact k _ _ c2 f2 (s1.trans s2) (.obj e2)
end
section
variable {X:Cx}{e:Expr}
end
end F2
namespace L2
open PySem PySem.Spec PyProof.Rows
section
variable {X:Cx}{e el eu ek:Expr}{p2 pos:Pos}{te:TE}{tl tu tk:TO}
end
end L2
namespace F2
open PySem L2 PySem.Spec
end F2
namespace F2
open PySem L2 PySem.Spec PyProof.Rows
section
variable {X:Cx}{elt tg iter:Expr}{pos:Pos}{scope:Scope}{N':List Str}{ifs:List Expr}{n:Nat}{fr:List Nat}{st:D->M Unit}{tst:M Bool}{el:M D}
end
end F2
namespace L2
open PySem PySem.Spec PyProof.Rows
abbrev EnO (h:Heap)(e it:Addr)(i:Int)(x:Value)(a:Addr)(q:Bool):Prop:=h.get? e=some { cls:=.type "enumerate",dict:=none,data:=.fields #[rawInt a,.bool q,.ref it,rawInt i,.none,x],slots:=#[] }
variable {e it:Addr}{i:Nat}
section
variable {prog:Program}{w:World}{A:Around}{E:Value->Shared->Prop}{s:Shared}
theorem Vk {M:Model}{a:Addr}{Q:Option Obj->Shared->Prop}(q:Q (s.heap.get? a) s):wpAny M A (loadIfAlive a) Q E s:=λΓ p hΓ=>q
theorem MZ {l a0:Addr}{items:Array Value}{x old:Value}{q:Bool}{Q:Option Value->Shared->Prop}(he:EnO s.heap e it i old a0 q)(hit:s.heap.IsListIter it l i)(hl:s.heap.IsList l items)(hx:items[i]?=some x)(hne:e≠it)
 (hQ:∀h' old' a' q',EnO h' e it ((i:Int) + 1) old' a' q'->h'.IsListIter it l (i + 1)->h'.get? s.heap.objs.size=some { cls:=.type "tuple",data:=.seq #[.int i s.toks,x] }->(∀b o,b≠e->b≠it->s.heap.get? b=some o->h'.get? b=some o)->Q (some (.ref s.heap.objs.size)) { s with heap:=h',toks:=s.toks + 1 }) :
 wpAny (model prog w) A (pyNext (.ref e)) Q E s:=by
 have hT:s.TypeIs (.ref e) "enumerate":=⟨_,he,rfl⟩;obtain ⟨hp,g,d,tk,os⟩:=s;unfold pyNext;refine wpAny_bind (wpAny_attempt (wpAny_callSpecial?_slot (name:=Str.ofString "__next__") hT F.slot_enumerate_next (wpAny_call_entry F.slot_enumerate_next hT F.entry_enumerate_next ?_ (F.args_enumerate_next_1 _))));show wpAny _ _ (field (.ref e) 2 >>= _) _ _ _;refine wpAny_bind (wpAny_field he rfl (x:=.ref it) rfl ?_);refine wpAny_bind (wpAny_nextOf_list_item hit hl hx λk1 i1 b1=>?_);have b1:Heap.SameBut it hp k1:=b1;have e1:EnO k1 e it i old a0 q:=(b1.2 e hne).trans he;show wpAny _ _ (field (.ref e) 3 >>= _) _ _ ⟨k1,g,d,tk,os⟩;refine wpAny_bind (wpAny_field e1 rfl (x:=rawInt i) rfl ?_);show wpAny _ _ (field (.ref e) 4 >>= _) _ _ ⟨k1,g,d,tk,os⟩;refine wpAny_bind (wpAny_field e1 rfl (x:=.none) rfl ?_);show wpAny _ _ (mkInt i >>= _) _ _ ⟨k1,g,d,tk,os⟩;refine wpAny_bind (wpAny_mkInt ?_);show wpAny _ _ (setField (.ref e) 3 (rawInt ((i:Int) + 1)) >>= _) _ _ ⟨k1,g,d,tk + 1,os⟩;refine wpAny_bind (wpAny_setField_rec e1 (by simp) λk2 e2 b2=>?_);have b2:Heap.SameBut e k1 k2:=b2;have e2:EnO k2 e it ((i:Int) + 1) old a0 q:=e2;show wpAny _ _ (setField (.ref e) 4 .none >>= _) _ _ ⟨k2,g,d,tk + 1,os⟩;refine wpAny_bind (wpAny_setField_rec e2 (by simp) λk3 e3 b3=>?_);have b3:Heap.SameBut e k2 k3:=b3;have e3:EnO k3 e it ((i:Int) + 1) old a0 q:=e3;show wpAny _ _ (newTuple [.int i tk,x] >>= _) _ _ ⟨k3,g,d,tk + 1,os⟩;refine wpAny_bind (wpAny_newTuple ?_);have hsz:k3.objs.size=hp.objs.size:=by rw [b3.1,b2.1,b1.1]
 have e4:EnO (k3.push { cls:=.type "tuple",data:=.seq #[.int i tk,x] }) e it ((i:Int) + 1) old a0 q:=Heap.get?_push_of_some _ e3;generalize hk:k3.push { cls:=.type "tuple",data:=.seq #[.int i tk,x] }=k4 at e4;have t4:k4.get? hp.objs.size=some { cls:=.type "tuple",data:=.seq #[.int i tk,x] }:=by rw [<-hk,<-hsz];exact Heap.get?_push_size _ rfl
 have l4:∀b o,b≠e->b≠it->hp.get? b=some o->k4.get? b=some o:=λb o q1 q2 hb=>by
  rw [<-hk];exact Heap.get?_push_of_some _ (b3.extBut b o q1 (b2.extBut b o q1 (b1.extBut b o q2 hb)))
 have i4:k4.IsListIter it l (i + 1):=by
  rw [<-hk];obtain ⟨o,ho,r⟩:=(i1.extBut b2.extBut (Ne.symm hne)).extBut b3.extBut (Ne.symm hne);exact ⟨o,Heap.get?_push_of_some _ ho,r⟩
 have hel:hp.objs.size≠e:=Nat.ne_of_gt (Heap.lt_size he);show wpAny _ _ (Builtin.SmallTypes.ownedTupleIsFree (.ref e) >>= _) _ _ ⟨k4,g,d,tk + 1,os⟩;rw [hsz];clear hk e3 b3 e2 b2 e1 b1 i1 hsz;refine wpAny_bind ?_;unfold Builtin.SmallTypes.ownedTupleIsFree;refine wpAny_bind (wpAny_field e4 rfl (x:=rawInt a0) rfl ?_);show wpAny _ _ (loadIfAlive ((a0:Int).toNat) >>= _) _ _ ⟨k4,g,d,tk + 1,os⟩;rw [Int.toNat_natCast];refine wpAny_bind (Vk ?_);show wpAny _ _ (if ((k4.get? a0).isNone)=true then _ else _) _ _ ⟨k4,g,d,tk + 1,os⟩
 cases k4.get? a0 with
 | some o0=>
   show wpAny _ _ (field (.ref e) 1 >>= _) _ _ ⟨k4,g,d,tk + 1,os⟩;refine wpAny_bind (wpAny_field e4 rfl (x:=.bool q) rfl ?_)
   cases q with
   | true=>exact wpAny_pure (wpAny_pure ⟨_,rfl,wpAny_pure (hQ k4 _ _ _ e4 i4 t4 l4)⟩)
   | false=>
     show wpAny _ _ (setField (.ref e) 1 (.bool true) >>= _) _ _ ⟨k4,g,d,tk + 1,os⟩;refine wpAny_bind (wpAny_setField_rec e4 (by simp) λk5 e5 b5=>?_);have b5:Heap.SameBut e k4 k5:=b5;have e5:EnO k5 e it ((i:Int) + 1) old a0 true:=e5;exact wpAny_pure (wpAny_pure ⟨_,rfl,wpAny_pure (hQ k5 _ _ _ e5 (i4.extBut b5.extBut (Ne.symm hne)) (b5.extBut _ _ hel t4) λb o q1 q2 hb=>b5.extBut b o q1 (l4 b o q1 q2 hb))⟩)
 | none=>
   refine wpAny_pure ?_;refine wpAny_bind (wpAny_rule ?_);refine wpAny_bind (wpAny_field e4 rfl (x:=old) rfl ?_);refine wpAny_bind (wpAny_setField_rec e4 (by simp) λk5 e5 b5=>?_);have b5:Heap.SameBut e k4 k5:=b5;have e5:EnO k5 e it ((i:Int) + 1) x a0 q:=e5;show wpAny _ _ (Builtin.SmallTypes.ownedTupleHandOut (.ref e) (.ref hp.objs.size) >>= _) _ _ ⟨k5,g,d,tk + 1,os⟩;refine wpAny_bind ?_;unfold Builtin.SmallTypes.ownedTupleHandOut;refine wpAny_bind (wpAny_setField_rec e5 (by simp) λk6 e6 b6=>?_);have b6:Heap.SameBut e k5 k6:=b6;have e6:EnO k6 e it ((i:Int) + 1) x hp.objs.size q:=e6;refine wpAny_setField_rec e6 (by simp) λk7 e7 b7=>?_;have b7:Heap.SameBut e k6 k7:=b7;have e7:EnO k7 e it ((i:Int) + 1) x hp.objs.size false:=e7;refine wpAny_bind (wpAny_letGo (wpAny_pure ⟨_,rfl,wpAny_pure (hQ k7 _ _ _ e7 ?_ ?_ ?_)⟩))
   ·exact ((i4.extBut b5.extBut (Ne.symm hne)).extBut b6.extBut (Ne.symm hne)).extBut b7.extBut (Ne.symm hne)
   ·exact b7.extBut _ _ hel (b6.extBut _ _ hel (b5.extBut _ _ hel t4))
   ·exact λb o q1 q2 hb=>b7.extBut b o q1 (b6.extBut b o q1 (b5.extBut b o q1 (l4 b o q1 q2 hb)))
theorem Oa {l:Addr}{items vs:Array Value}{Q:Option Value->Shared->Prop}(hh:A.handled=none)(he:s.heap.get? e=some { cls:=.type "enumerate",dict:=none,data:=.fields vs,slots:=#[] })(hv:vs[2]?=some (.ref it))(hit:s.heap.IsListIter it l i)(hl:s.heap.IsList l items)(hx:items[i]?=none)
 (hQ:∀h',Heap.ExtBut it s.heap h'->Q none { s with heap:=h' }):wpAny (model prog w) A (pyNext (.ref e)) Q E s:=by
 have hT:s.TypeIs (.ref e) "enumerate":=⟨_,he,rfl⟩;unfold pyNext;refine wpAny_bind (wpAny_attempt (wpAny_callSpecial?_slot (name:=Str.ofString "__next__") hT F.slot_enumerate_next (wpAny_call_entry F.slot_enumerate_next hT F.entry_enumerate_next ?_ (F.args_enumerate_next_1 _))));show wpAny _ _ (field (.ref e) 2 >>= _) _ _ _;refine wpAny_bind (wpAny_field he rfl (x:=.ref it) hv ?_);refine wpAny_bind (wpAny_nextOf_list_end hh hit hl hx λh' x he' hx'=>?_);obtain ⟨o,ho,hc⟩:=hx';refine wpAny_bind (wpAny_isInstance (T:="StopIteration") (b:=true) ⟨o,ho,hc⟩ isSubtype_stop ?_);exact wpAny_pure (hQ _ he')
theorem N9 {vs:Array Value}{Q:Value->Shared->Prop}(he:s.heap.get? e=some { cls:=.type "enumerate",dict:=none,data:=.fields vs,slots:=#[] })(h:Q (.ref e) s):wpAny (model prog w) A (pyIter (.ref e)) Q E s:=by
 have hT:s.TypeIs (.ref e) "enumerate":=⟨_,he,rfl⟩;refine wpAny_pyIter_slot hT F.slot_enumerate_iter (wpAny_call_entry F.slot_enumerate_iter hT F.entry_enumerate_iter ?_ (F.args_enumerate_iter_1 _));exact wpAny_pure ⟨_,rfl, "enumerate",_,hT,F.slot_enumerate_next.lookup,h⟩
end
inductive EnS (h:Heap)(e it:Addr)(i:Nat):Prop where
 | new (old:Value) (z:i=0) (h1:IsEnum h e it i old)
 | out (old:Value) (a0:Addr) (q:Bool) (h1:EnO h e it i old a0 q)
theorem EnS.at_ {h:Heap}(st:EnS h e it i):∃vs:Array Value,h.get? e=some { cls:=.type "enumerate",dict:=none,data:=.fields vs,slots:=#[] }/\vs[2]?=some (.ref it):=by
 cases st with
 | new old z h1=>exact ⟨_,h1,rfl⟩
 | out old a0 q h1=>exact ⟨_,h1,rfl⟩
theorem Nz {P:Program}{w:World}{K:PySem.W.Frag}{y:Str}{pos:Pos}(a e it:Addr)(hne:e≠it):Turn P w K (.Name y pos) (Ite K a) [e,it] e (λi h=>EnS h e it i/\h.IsListIter it a i) where
 mem:=by simp
 obj:=λi h st b hb=>by
  obtain ⟨st,o,e1,c,d⟩:=st;obtain ⟨vs,h1,_⟩:=st.at_;simp only [List.mem_cons,List.not_mem_nil,or_false] at hb;rcases hb with rfl | rfl
  ·exact ⟨_,h1,λv z=>by have z':Data.fields _=Data.cell v:=z;cases z'⟩
  ·exact ⟨o,e1,λv z=>by rw [d] at z;cases z⟩
 keep:=λi h h' st k=>⟨by
  cases st.1 with
  | new old z h1=>exact .new old z (k e (by simp) _ h1)
  | out old a0 q h1=>exact .out old a0 q (k e (by simp) _ h1),st.2.at λo e=>k it (by simp) o e⟩
 item:=by
  intro X hP hw hK hc i pins s σ H E I hf st hg;subst hP hw hK;obtain ⟨xs,x,hq,hx⟩:=hg;obtain ⟨its,rv,p,hz⟩:=I.list hq;obtain ⟨u,hu,ru⟩:=rv.get hx;obtain ⟨st1,st2⟩:=st;obtain ⟨vs0,hv0,_⟩:=st1.at_;have le:e < s.heap.objs.size:=Heap.lt_size hv0;have li:it < s.heap.objs.size:=by obtain ⟨o,e1,_,_⟩:=st2;exact Heap.lt_size e1
  have hfr:H s.heap.objs.size=none:=I.hok.fresh (Nat.le_refl _);have hux:its.toArray[i]?=some u:=by simpa using hu
  have fin:∀h',EnS h' e it (i + 1)->h'.IsListIter it a (i + 1)->h'.get? s.heap.objs.size=some { cls:=.type "tuple",data:=.seq #[.int (i:Nat) s.toks,u] }->(∀b o,b≠e->b≠it->s.heap.get? b=some o->h'.get? b=some o)->
   ∃v,some (Value.ref s.heap.objs.size)=some v/\wpAny (model X.prog X.w) X.A (letOwnedTupleGo (.Name y pos) (.ref e) v) (λ_ s2=>∃x H',Inv X pins σ H' s2/\RelV x v/\(Ite X.K a).yld i H x H'/\(EnS s2.heap e it (i + 1)/\s2.heap.IsListIter it a (i + 1))/\∀b∈[e,it],H' b=none) E { s with heap:=h',toks:=s.toks + 1 }:=by
   intro h' g1 g2 hT kk;refine ⟨_,rfl,wpAny_pure ?_⟩;have I1:Inv X pins σ (upd H s.heap.objs.size (.tup [.int (i:Nat),x])) { s with heap:=s.heap.push { cls:=.type "tuple",data:=.seq #[.int (i:Nat) s.toks,u] },toks:=s.toks }:=
    I.laid (t':=s.toks) (λb u e=>Heap.get?_push_of_some _ e) (Nat.le_refl _) ⟨by show 2<=sizeLine;decide,[.int (i:Nat) s.toks,u],.cons ⟨_,rfl⟩ (.cons ru .nil),⟨_,Heap.get?_push_size _ rfl,rfl,_,rfl⟩⟩
   have fp':∀b∈[e,it],FpOk X pins (upd H s.heap.objs.size (.tup [.int (i:Nat),x])) b:=λb hb=>by
    obtain ⟨g0,g1⟩:=hf b hb;refine ⟨?_,g1⟩;rw [Al ?_];exact g0;simp only [List.mem_cons,List.not_mem_nil,or_false] at hb;rcases hb with rfl | rfl
    ·exact Nat.ne_of_lt le
    ·exact Nat.ne_of_lt li
   refine ⟨.ref s.heap.objs.size,upd H s.heap.objs.size (.tup [.int (i:Nat),x]),?_,rfl,⟨_,x,rfl,hfr,λys hy=>by rw [I.list_inj hy hq];exact hx,rfl⟩,⟨g1,g2⟩,λb hb=>(fp' b hb).1⟩;have I2:=Inv.turnedL (h':=h') (t':=s.toks + 1) [e,it] I1 fp' λb o hb eb=>(by
    simp only [List.mem_cons,List.not_mem_nil,or_false,not_or] at hb;rcases Heap.get?_push_cases eb with ⟨rfl,rfl⟩ | eb'
    ·exact hT
    ·exact kk b o hb.1 hb.2 eb')
   exact I2
  cases st1 with
  | new old z h1=>
    exact wpAny_pyNext_enum_item h1 st2 p.isList (x:=u) hux hne λh' so st2' hT _ kk=>fin h' (.out _ _ _ (by simpa using so)) st2' hT kk
  | out old a0 q h1=>
    exact MZ h1 st2 p.isList (x:=u) hux hne λh' _ _ _ so st2' hT kk=>fin h' (.out _ _ _ (by simpa using so)) st2' hT kk
 done:=by
  intro X hP hw hK hc i pins s σ H E I hf st hg;subst hP hw hK;obtain ⟨xs,hq,hx⟩:=hg;obtain ⟨its,rv,p,hz⟩:=I.list hq;obtain ⟨st1,st2⟩:=st;obtain ⟨vs,h1,h2⟩:=st1.at_;have hl:=rv.length;refine Oa (I.ok.hd hc) h1 h2 st2 p.isList (by simp;lia) λh' eb=>⟨rfl,?_⟩;exact Inv.turnedL [e,it] (t':=s.toks) I hf λb o hb e1=>eb b o (λz=>hb (by simp [z])) e1
 self:=λ_ _ _ _ _ st h=>by obtain ⟨vs,h1,_⟩:=st.1.at_;exact N9 h1 h
theorem QX {X:Cx}{e:Expr}{ta:TA}{y:Str}{tpos p pos:Pos}(hg:Gl X "enumerate")(hm:X.mg "enumerate" = none)(ha:PA X [e] ta)(hs:starEach [e] X.env=[(false,eval e X.env)]:=by rfl) :
 PI X (.Name y tpos) (.Call (.Name "enumerate" p) [e] [] pos) (R5 X.K ta):=by
 intro pins s σ H R I h;refine Call_ (EL I hg hm boot_enumerate (PyProof.Rows.callWith_type1 (thn (ha pos pins s σ H _ I h) λus s1 z9=>?_) hs rfl));obtain ⟨vs,H1,I1,r1,q1⟩:=z9;obtain ⟨a,xs,ev,hq,q⟩:=q1;subst ev
 cases r1 with
 | cons r rr=>
   cases rr
   cases r
   obtain ⟨its,rv,pl,hz⟩:=I1.list hq;refine call_enumerate_list pl.isList λh' e1 e2 e3 kk=>?_;refine wpAny_pyIter_enum e1 ?_;have hfp:∀b∈[s1.heap.objs.size + 1,s1.heap.objs.size],FpOk X pins H1 b:=λb hb=>by
    have hb':s1.heap.objs.size<=b:=by
     simp only [List.mem_cons,List.not_mem_nil,or_false] at hb;lia
    exact I1.fpOk hb' (I1.hok.fresh hb')
   exact ⟨s1.heap.objs.size + 1,[s1.heap.objs.size + 1,s1.heap.objs.size],_,_,H1,rfl,I1.kept (t':=s1.toks) kk,Nz a (s1.heap.objs.size + 1) s1.heap.objs.size (Nat.succ_ne_self _),⟨.new _ rfl e1,e2⟩,hfp,q⟩
end L2
namespace F2
open PySem L2 PySem.Spec SeqAt
theorem Qq {X:Cx}{e:Expr}{pos:Pos}{f:M (List D)}{y:Str}{tpos p:Pos}(hg:Gl X "enumerate")(hm:X.mg "enumerate" = none)(ha:PA X [e] (RA X.K f))(h1:AO e=false:=by rfl):PI X (.Name y tpos) (.Call (.Name "enumerate" p) [e] [] pos) (RI2 X.K (FK f)):=
 Ge (QX hg hm ha (AE h1)) λσ H R z9=>by
  obtain ⟨Oo,c,t,fi,ds,t',eq,k⟩:=z9;obtain ⟨xs,t1,e1,eq⟩:=Af eq;refine ⟨Oo,c,t,fi,xs,t1,e1,λvs H1 c1 f1 s1 rv=>?_⟩;unfold MY at eq
  split at eq
  ·next es=>
   cases eq
   cases rv with
   | cons r rs=>
     cases rs
     cases r with
     | @lst a ws _ g1 g2 g3=>exact ⟨a,ws,rfl,SqL.of g1,k _ H1 c1 f1 s1 (ItOk2.enum λc' H' ex=>⟨ws,SqL.of (ex.keep _ _ g1 g2),g3.mono ex⟩)⟩
  ·cases eq
section
variable {A:Around}{s:Shared}
theorem Rm (b:Str)(u:Tok)(l:Addr)(es:Array DictEntry)(n:Nat)(dd:Option Addr)(sl:Array (Option Value)):Meets (Builtin.«str.__eq__» ⟨[.str b u,.ref l],[]⟩) (λ_ R s=>s.heap.get? l=some { cls:=.type "dict",dict:=dd,data:=.dict es n,slots:=sl }/\R (.ok (.ret .notImplemented)) s):=
 .of_wp λprog w A R s h=>by
  obtain ⟨hp,g,d,tk,os⟩:=s;obtain ⟨hl,h⟩:=h
  wp_walk using AutoSeq1.wpAny_loadPart' hl,wpAny_load hl
  exact ⟨_,rfl,h⟩
theorem Qd (b:Str)(u:Tok)(l:Addr)(es:Array DictEntry)(n:Nat)(dd:Option Addr)(sl:Array (Option Value)):Meets (Builtin.«dict.__eq__» ⟨[.ref l,.str b u],[]⟩) (λ_ R s=>s.heap.get? l=some { cls:=.type "dict",dict:=dd,data:=.dict es n,slots:=sl }/\R (.ok (.ret .notImplemented)) s):=
 .of_wp λprog w A R s h=>by
  obtain ⟨hp,g,d,tk,os⟩:=s;obtain ⟨hl,h⟩:=h;have f1:=F.sub_str_dict
  wp_walk using AutoSeq1.wpAny_loadPart' hl,wpAny_load hl
  exact ⟨_,rfl,h⟩
theorem Us {a:Addr}{es:Array DictEntry}{n:Nat}{dd:Option Addr}{sl:Array (Option Value)}(b:Str)(u:Tok)(ho:s.heap.get? a=some { cls:=.type "dict",dict:=dd,data:=.dict es n,slots:=sl })(hu:A.units < cLine):RcAt A s (.str b u) (.ref a) false:=λprog w E Q h=>
 rc_eq_decline_or (k:=false) (typeIs_str s b u) ⟨_,ho,rfl⟩ (by decide) F.sub_dict_str F.slot_str_eq F.slot_dict_eq_refl
  (λ_ hq=>call_meets F.slot_str_eq (typeIs_str s b u) F.entry_str_eq (F.args_str_eq_2 _ _) (Rm b u a es n dd sl) ⟨ho,hq⟩)
  (λ_ hq=>call_meets F.slot_dict_eq_refl ⟨_,ho,rfl⟩ F.entry_dict_eq (F.args_dict_eq_2 _ _) (Qd b u a es n dd sl) ⟨ho,hq⟩)
  (λ_ hq=>wpAny_of_eq (rfl:isSame (.str b u) (.ref a)=pure false) hq) (.inr hu) h
end
def Sq (K:PySem.W.Frag):R2:=λx y H Q=>∃b a,x = .str b/\y = .ref a/\H a=some (.dK [])/\Q (.bl false) H
theorem T8 {X:Cx}(hu:X.A.units + 64 < cLine):OpR X (compareOp .Eq) (Sq X.K):=by
 intro pins s σ H x y v u Q I rx ry ⟨b,a,e1,e2,h,q⟩;subst e1 e2;obtain ⟨t,rfl⟩:=rx
 cases ry
 obtain ⟨_,lo,vs,rel,o,es,ep,d1,d2,d3,_⟩:=GV I.hok h;obtain ⟨cls,dd,data,sl⟩:=o;have d3:data = .dict es ep:=d3;have hc:cls = .type "dict":=d2.1;subst d3 hc;exact Us b t d1 (by lia) X.prog X.w _ _ ⟨.bl false,H,I,rfl,q⟩
def WR (K:PySem.W.Frag):R2:=λx y H Q=>Sq K x y H Q\/Li K id x y H Q
def eqZ (x y:D):M D:=λt=>match x,y with
 | .str _,.dic=>some (.bl false,t)
 | _,_=>eqS id x y t
theorem UA {K:PySem.W.Frag}:AR K (WR K) eqZ:=λ{Oo c t σ H x y dx dy r t' Q} f rx ry eq k=>by
 unfold eqZ at eq
 split at eq
 ·cases eq
  cases rx with
  | str=>
    cases ry with
    | dic h1 h2=>exact .inl ⟨_,_,rfl,rfl,h1,k _ H c f .refl (.bl false)⟩
 ·exact .inr (Fz f rx ry eq k)
theorem Wn {X:Cx}(hu:X.A.units + 64 < cLine):OpR X (compareOp .Eq) (WR X.K):=(T8 hu).or (Ld hu)
theorem Tk {X:Cx}{elt tg iter:Expr}{pos:Pos}{scope:Scope}{N':List Str}{ifs:List Expr}{n:Nat}{fr:List Nat}{st:D->M Unit}{tst:M Bool}{el:M D}{f:M (List D)}{μ:Cf->Hp->D->(V->Hp->Prop)->Prop}{i:Nat}{y:Str}{py spos:Pos}(O:CmpOk X scope N' (EG n fr))(hc:X.calm=true)(hN:X.N.Nodup)(hiN:X.N[i]?=some y)(hx:X.env.scope.names.lookup y=some .local)(hi:PI X tg iter (RI X.K f))
 (hg:∀cl C s2 H2 fp,PG (BC X N' scope cl C s2 H2 fp) tg (RG X.K st)) (ht:∀cl C s2 H2 fp,PIf (BC X N' scope cl C s2 H2 fp) ifs (RT X.K tst)) (he:∀cl C s2 H2 fp,PE (BC X N' scope cl C s2 H2 fp) elt (RE X.K el))
 (hsw:swapsWith (.ListComp elt [⟨tg,iter,ifs,0⟩] scope pos) (some (.Name y py)) spos.line X.env=pure true:=by rfl)
 (hs:∀x,foldedSetIterable iter X.env x=pure x:=by intro _;rfl):PS X (.Assign [.Name y py] (.ListComp elt [⟨tg,iter,ifs,0⟩] scope pos) spos) (RSg X.K μ (Ao i (EH (AB n fr f st tst el)))):=
 A3 (Ms O hc hN hiN hx hi hg ht he hsw hs) λE σ H q=>RF.comp (RF.ofObj (RS.set q))
end F2
namespace LW
open PySem L2 F2
def Fi:M Out:=
 (Am (CH (fB (Aa (Ab 0) (Aa (fC (.ty "int")) Ad)) AI) (E6 (fB (Aa (Ab 0) (Aa (fC (.ty "bool")) Ad)) AI))))
def CT (Kw:Fn):M Out:=
 (Am (CH (Ag Kw (Aa (Ab 0) Ad)) (Bw (Ab 1) (Ab 0) (Ab 2) leA leA)))
def K1 (IW Ku Kt Kv Bi:Fn):M Out:=
 (Ae (Ao 2 (Ac (Ab 0) (fC (.int 0)) ixD))
 (Ae (ifS (Aj (Ac (Ab 2) (fC (.str "nothing")) (eqS id)))
   (Am (Ac (Ab 1) (fC .non) isC))
   An)
 (Ae (ifS (Aj (Ac (Ab 2) (fC (.str "number")) (eqS id)))
   (Am (Ag Bi (Aa (Ab 1) (Aa (Ac (Ab 0) (fC (.int 1)) ixD) (Aa (Ac (Ab 0) (fC (.int 2)) ixD) Ad)))))
   An)
 (Ae (ifS (Aj (Ac (Ab 2) (fC (.str "text")) (eqS id)))
   (Am (Ag Kv (Aa (Ab 0) (Aa (Ab 1) Ad))))
   An)
 (Ae (ifS (Aj (Ac (Ab 2) (fC (.str "list")) (eqS id)))
   (Am (Ag Kt (Aa (Ab 0) (Aa (Ab 1) Ad))))
   An)
 (Ae (ifS (Aj (Ac (Ab 2) (fC (.str "pair")) (eqS id)))
   (Am (Ag Ku (Aa (Ab 0) (Aa (Ab 1) Ad))))
   An)
 (Am (Ag IW (Aa (Ab 0) (Aa (Ab 1) Ad))))))))))
def Fh (MS:Fn):M Out:=
 (Ae (ifS (fOr (AS (Aj (fB (Aa (Ab 1) (Aa (fC (.ty "str")) Ad)) AI))) (Aj (Ac (fB (Aa (Ab 1) Ad) AA) (Ac (Ab 0) (fC (.int 1)) ixD) gtA)))
   (Am (fC (.bl false)))
   An)
 (Ae (BD (BT (Ab 1)) (Ar 2)
   (ifS (AS (Aj (Ag MS (Aa (fB (Aa (Ab 2) Ad) Fj) Ad))))
   (Am (fC (.bl false)))
   An))
 (Am (fC (.bl true)))))
def Gv:M Out:=
 (Am (CH (Bw (fC (.int 32)) (Ab 0) (fC (.int 126)) leA leA) (Ac (Ab 0) (fC (.int 37)) (eqS λb=>!b))))
def Ff (Do:Fn):M Out:=
 (Ae (ifS (fOr (AS (Aj (fB (Aa (Ab 1) (Aa (fC (.ty "list")) Ad)) AI))) (Aj (Ac (fB (Aa (Ab 1) Ad) AA) (Ac (Ab 0) (fC (.int 2)) ixD) gtA)))
   (Am (fC (.bl false)))
   An)
 (Ae (BD (BT (Ab 1)) (Ar 2)
   (ifS (AS (Aj (Ag Do (Aa (Ac (Ab 0) (fC (.int 1)) ixD) (Aa (Ab 2) Ad)))))
   (Am (fC (.bl false)))
   An))
 (Am (fC (.bl true)))))
def Fg (Do:Fn):M Out:=
 (Ae (ifS (fOr (AS (Aj (fB (Aa (Ab 1) (Aa (fC (.ty "tuple")) Ad)) AI))) (Aj (Ac (fB (Aa (Ab 1) Ad) AA) (fC (.int 2)) (eqS λb=>!b))))
   (Am (fC (.bl false)))
   An)
 (Am (CH (Ag Do (Aa (Ac (Ab 0) (fC (.int 1)) ixD) (Aa (Ac (Ab 1) (fC (.int 0)) ixD) Ad))) (Ag Do (Aa (Ac (Ab 0) (fC (.int 2)) ixD) (Aa (Ac (Ab 1) (fC (.int 1)) ixD) Ad))))))
def Ej (Do Bi:Fn):M Out:=
 (Ae (ifS (fOr (AS (Aj (fB (Aa (Ab 1) (Aa (fC (.ty "tuple")) Ad)) AI))) (Aj (Ac (fB (Aa (Ab 1) Ad) AA) (fC (.int 3)) (eqS λb=>!b))))
   (Am (fC (.bl false)))
   An)
 (Ae (ifS (fOr (AS (Aj (fB (Aa (Ac (Ab 1) (fC (.int 0)) ixD) (Aa (fC (.ty "str")) Ad)) AI))) (Aj (Ac (Ac (Ab 1) (fC (.int 0)) ixD) (fC (.str "of")) (eqS λb=>!b))))
   (Am (fC (.bl false)))
   An)
 (Ae (ifS (AS (Aj (Ag Bi (Aa (Ac (Ab 1) (fC (.int 1)) ixD) (Aa (fC (.int 0)) (Aa (Ac (fB (Aa (Ac (Ab 0) (fC (.int 1)) ixD) Ad) AA) (fC (.int 1)) BG) Ad))))))
   (Am (fC (.bl false)))
   An)
 (Am (Ag Do (Aa (Ac (Ac (Ab 0) (fC (.int 1)) ixD) (Ac (Ab 1) (fC (.int 1)) ixD) ixD) (Aa (Ac (Ab 1) (fC (.int 2)) ixD) Ad)))))))
def EO:M Out:=
 (Am (Ac (Ac (Ac (Ac (Ab 0) (Ac (Ab 1) (fC (.int 0)) ixD) ixD) (fC (.int 1)) ixD) (Ac (Ab 1) (fC (.int 1)) ixD) ixD) (fC (.int 2)) ixD))
def EN (Do IX:Fn):M Out:=
 (Ae (ifS (fOr (AS (Aj (fB (Aa (Ab 1) (Aa (fC (.ty "tuple")) Ad)) AI))) (Aj (Ac (fB (Aa (Ab 1) Ad) AA) (fC (.int 3)) (eqS λb=>!b))))
   (Am (fC .non))
   An)
 (Ae (ifS (fOr (AS (Aj (fB (Aa (Ac (Ab 1) (fC (.int 0)) ixD) (Aa (fC (.ty "str")) Ad)) AI))) (Aj (Ac (Ac (Ab 1) (fC (.int 0)) ixD) (Ac (Ab 0) (fC (.int 0)) ixD) (eqS λb=>!b))))
   (Am (fC .non))
   An)
 (Ae (Ao 2 (Ag IX (Aa (Ab 0) (Aa (Ac (Ab 1) (fC (.int 1)) ixD) Ad))))
 (Ae (ifS (fOr (Aj (Ac (Ab 2) (fC .non) isC)) (AS (Aj (Ag Do (Aa (Ac (Ac (Ac (Ab 0) (fC (.int 1)) ixD) (Ab 2) ixD) (fC (.int 1)) ixD) (Aa (Ac (Ab 1) (fC (.int 2)) ixD) Ad))))))
   (Am (fC .non))
   An)
 (Am (Ab 2))))))
def Cy (LL:Fn):M Out:=
 (Ae (ifS (AS (Aj (fB (Aa (Ab 1) (Aa (fC (.ty "str")) Ad)) AI)))
   (Am (fC .non))
   An)
 (Ae (Ao 2 (Ag LL (Aa (Ab 0) Ad)))
 (Ae (BD (BZ (Aa (fB (Aa (Ab 2) Ad) AA) Ad)) (Ar 3)
   (ifS (Aj (Ac (Ac (Ac (Ab 2) (Ab 3) ixD) (fC (.int 0)) ixD) (Ab 1) (eqS id)))
   (Am (Ab 3))
   An))
 (Am (fC .non)))))
def FS (NZ:Fn):M Out:=
 (Am (fIf (Aj (Ag NZ (Aa (Ab 0) Ad))) (Az Ad) (Ac (Ab 0) (fC (.int 1)) ixD)))
def HA:M Out:=
 (Am (Ac (Ac (Ab 0) (fC (.int 0)) ixD) (fC (.str "end")) (eqS id)))
def DG (Bj IY Ie:Fn):M Out:=
 (Ae (Ao 2 (Ac (Ab 0) (fC (.int 0)) ixD))
 (Ae (ifS (Aj (Ac (Ab 2) (fC (.str "nothing")) (eqS id)))
   (FY (As Ad))
   An)
 (Ae (ifS (Aj (Ac (Ab 2) (fC (.str "number")) (eqS id)))
   (FY (C9 Ie (Aa (Ac (Ab 1) (Ac (Ab 0) (fC (.int 1)) ixD) BG) (Aa (Ag IY (Aa (Ac (Ac (Ab 0) (fC (.int 2)) ixD) (Ac (Ab 0) (fC (.int 1)) ixD) BG) Ad)) Ad))))
   An)
 (Ae (ifS (Aj (Ac (Ab 2) (fC (.str "text")) (eqS id)))
   (FY (bnd (Ak (As (Aa (fB (Aa (Ab 1) Ad) AA) Ad))) λx=>bnd (Ak (AB 1 [] (BT (Ab 1)) (Ar 0) Bq (fB (Aa (Ab 0) Ad) Fj))) λy=>Hv x y))
   An)
 (Ae (ifS (Aj (Ac (Ab 2) (fC (.str "list")) (eqS id)))
   (Ae (D2 3 (As (Aa (fB (Aa (Ab 1) Ad) AA) Ad)))
 (Ae (BD (BT (Ab 1)) (Ar 4)
   (ownM 3 Eg (Aa (Ak (C9 Bj (Aa (Ac (Ab 0) (fC (.int 1)) ixD) (Aa (Ab 4) Ad)))) Ad)))
 (Fy 3)))
   An)
 (Ae (ifS (Aj (Ac (Ab 2) (fC (.str "pair")) (eqS id)))
   (FY (bnd (Ak (C9 Bj (Aa (Ac (Ab 0) (fC (.int 1)) ixD) (Aa (Ac (Ab 1) (fC (.int 0)) ixD) Ad)))) λx=>bnd (Ak (C9 Bj (Aa (Ac (Ab 0) (fC (.int 2)) ixD) (Aa (Ac (Ab 1) (fC (.int 1)) ixD) Ad)))) λy=>Hv x y))
   An)
 (FY (bnd (Ak (As (Aa (Ac (Ab 1) (fC (.int 1)) ixD) Ad))) λx=>bnd (Ak (C9 Bj (Aa (Ac (Ac (Ab 0) (fC (.int 1)) ixD) (Ac (Ab 1) (fC (.int 1)) ixD) ixD) (Aa (Ac (Ab 1) (fC (.int 2)) ixD) Ad)))) λy=>Hv x y))))))))
def Ek:M Out:=
 (Am (Ac (Ac (fUn (Ab 0) Ia) (fC (.int 7)) Aq) (fC (.int 8)) Ep))
def DW (MT:Fn):M Out:=
 (FY (AB 1 [0,1] (E7 (Aa (fC (.int 1)) (Aa (Ac (Ab 1) (fC (.int 1)) Aq) Ad))) (Ar 0) Bq (Ac (Ag MT (Aa (Ab 1) (Aa (Ac (Ab 2) (Ab 0) BG) Ad))) (fC (.int 256)) C5)))
def Gy:M Out:=
 (Am (Ac (Ab 0) (Ac (fC (.int 8)) (Ab 1) ER) Lw))
def EM:M Out:=
 (Ae (Ao 1 (fC (.int 0)))
 (Ae (LI (Aj (Ac (Ab 0) (fC (.int 0)) gtA))
   (Ae (Ao 0 (Ac (Ab 0) (fC (.int 256)) Ep))
 (Ao 1 (Ac (Ab 1) (fC (.int 1)) Aq))))
 (Am (Ab 1))))
def DH (Bj:Fn):M Out:=
 (Am (Ac (Ak (As (Aa (Ab 1) Ad))) (Ak (C9 Bj (Aa (Ac (Ac (Ac (Ab 0) (fC (.int 1)) ixD) (Ab 1) ixD) (fC (.int 1)) ixD) (Aa (Ab 2) Ad)))) Aq))
def Cw:M Out:=
 (Ae (Ao 2 (fC (.int 0)))
 (Ae (ifS (Aj (Ac (Ab 1) (fB (Aa (Ab 0) Ad) AA) ltA))
   (Ao 2 (Ac (Ab 0) (Ab 1) ixD))
   An)
 (Am (FJ [("rest",(Ab 2)),("digits",(I9 (Ac (Ab 1) (fB (Aa (Ab 0) Ad) AA) geA) (Ac (Ab 2) (Ac (fC (.int 10)) (fC (.int 18)) GH) geA))),("count",(Ab 1))]))))
def CI:M Out:=
 (Ae (ifS (Aj (Ac (Ab 0) (fC (.str "digits")) BI))
   (Ae (Ao 2 (Ac (Ac (Ab 0) (fC (.str "rest")) BI) (Ab 1) C5))
 (Ae (Cd (Ac (Ac (Ab 0) (fC (.str "rest")) BI) (Ab 1) GX) (FZ (Ab 0) (fC (.str "rest"))))
 (Am (Ab 2))))
   An)
 (Ae (Cd (Ac (Ac (Ab 0) (fC (.str "count")) BI) (fC (.int 1)) Aq) (FZ (Ab 0) (fC (.str "count"))))
 (Ae (Ao 3 (Ac (Ac (Ac (Ac (Ab 0) (fC (.str "rest")) BI) (fC (.int 999999999989)) C5) (Ac (fC (.int 480007)) (Ac (Ab 0) (fC (.str "count")) BI) HC) Aq) (fC (.int 999999999989)) C5))
 (Ae (Ao 3 (Ac (Ac (Ab 3) (Ab 3) HC) (fC (.int 1000000000039)) C5))
 (Ae (Ao 3 (Ac (Ac (Ac (Ab 3) (fC (.int 290027)) Aq) (Ab 3) HC) (fC (.int 999999999961)) C5))
 (Am (Ac (Ac (Ab 3) (fC (.int 7)) GX) (Ab 1) C5)))))))
def AV (Ai AK:Fn):M Out:=
 (Ae (Ao 2 (Ag Ai (Aa (Ab 0) (Aa (Ac (fC (.int 3)) (Ac (fC (.int 3)) (fB (Aa (Ac (Ab 1) (fC (.int 0)) gtA) Ad) FP) ER) Aq) Ad))))
 (Ae (ifS (Aj (Ac (Ab 2) (fC (.int 0)) (eqS id)))
   (Am (Az (Aa (fC (.str "nothing")) Ad)))
   An)
 (Ae (ifS (Aj (Ac (Ab 2) (fC (.int 1)) (eqS id)))
   (Ae (Ao 3 (Ac (Ak (As (Aa (fC (.int 0)) (Aa (Ac (Ag Ai (Aa (Ab 0) (Aa (fC (.int 9)) Ad))) (fC (.int 4)) BG) (Aa (Ac (Ag Ai (Aa (Ab 0) (Aa (Ac (fC (.int 10)) (fC (.int 16)) GH) Ad))) (Ac (fC (.int 10)) (fC (.int 15)) GH) BG) Ad))))) (Ag Ai (Aa (Ab 0) (Aa (fC (.int 3)) Ad))) ixD))
 (Am (Az (Aa (fC (.str "number")) (Aa (Ab 3) (Aa (Ac (Ab 3) (Ac (Ak (As (Aa (fC (.int 0)) (Aa (fC (.int 1)) (Aa (fC (.int 200)) (Aa (fC (.int 255)) (Aa (fC (.int 256)) (Aa (fC (.int 70000)) (Aa (Ag Ai (Aa (Ab 0) (Aa (Ac (fC (.int 10)) (fC (.int 16)) GH) Ad))) Ad))))))))) (Ag Ai (Aa (Ab 0) (Aa (fC (.int 7)) Ad))) ixD) Aq) Ad))))))
   An)
 (Ae (ifS (Aj (Ac (Ab 2) (fC (.int 2)) (eqS id)))
   (Am (Az (Aa (fC (.str "text")) (Aa (Ac (Ak (As (Aa (fC (.int 0)) (Aa (fC (.int 1)) (Aa (fC (.int 5)) (Aa (fC (.int 250)) Ad)))))) (Ag Ai (Aa (Ab 0) (Aa (fC (.int 4)) Ad))) ixD) Ad))))
   An)
 (Ae (ifS (Aj (Ac (Ab 2) (fC (.int 3)) (eqS id)))
   (Ae (Ao 4 (Ag AK (Aa (Ab 0) (Aa (Ac (Ab 1) (fC (.int 1)) BG) Ad))))
 (Ae (ifS (Aj (Ac (Ac (Ab 4) (fC (.int 0)) ixD) (fC (.str "list")) (eqS id)))
   (Ao 4 (Az (Aa (fC (.str "list")) (Aa (Ac (Ab 4) (fC (.int 1)) ixD) (Aa (fB (Aa (Ac (Ab 4) (fC (.int 2)) ixD) (Aa (fC (.int 6)) Ad)) El) Ad)))))
   An)
 (Am (Az (Aa (fC (.str "list")) (Aa (Ab 4) (Aa (Ac (Ak (As (Aa (fC (.int 0)) (Aa (fC (.int 2)) (Aa (fC (.int 6)) (Aa (fC (.int 250)) Ad)))))) (Ag Ai (Aa (Ab 0) (Aa (fC (.int 4)) Ad))) ixD) Ad)))))))
   An)
 (Ae (ifS (Aj (Ac (Ab 2) (fC (.int 4)) (eqS id)))
   (Am (Az (Aa (fC (.str "pair")) (Aa (Ag AK (Aa (Ab 0) (Aa (Ac (Ab 1) (fC (.int 1)) BG) Ad))) (Aa (Ag AK (Aa (Ab 0) (Aa (Ac (Ab 1) (fC (.int 1)) BG) Ad))) Ad)))))
   An)
 (Am (Az (Aa (fC (.str "choice")) (Aa (fB (Aa (Ak (AB 1 [0,1] (BZ (Aa (Ac (fC (.int 1)) (Ag Ai (Aa (Ab 0) (Aa (fC (.int 3)) Ad))) Aq) Ad)) (Ar 0) Bq (Ag AK (Aa (Ab 1) (Aa (Ac (Ab 2) (fC (.int 1)) BG) Ad))))) Ad) Ju) Ad))))))))))
def AW (Bc Ai:Fn):M Out:=
 (Ae (Ao 2 (Ac (Ab 1) (fC (.int 0)) ixD))
 (Ae (ifS (Aj (Ac (Ab 2) (fC (.str "nothing")) (eqS id)))
   (Am (fC .non))
   An)
 (Ae (ifS (Aj (Ac (Ab 2) (fC (.str "number")) (eqS id)))
   (Am (Ac (Ak (As (Aa (Ac (Ab 1) (fC (.int 1)) ixD) (Aa (Ac (Ab 1) (fC (.int 2)) ixD) (Aa (Ac (Ac (Ab 1) (fC (.int 1)) ixD) (Ag Ai (Aa (Ab 0) (Aa (Ac (Ac (Ac (Ab 1) (fC (.int 2)) ixD) (Ac (Ab 1) (fC (.int 1)) ixD) BG) (fC (.int 1)) Aq) Ad))) Aq) Ad))))) (Ag Ai (Aa (Ab 0) (Aa (fC (.int 3)) Ad))) ixD))
   An)
 (Ae (ifS (Aj (Ac (Ab 2) (fC (.str "text")) (eqS id)))
   (Ae (Ao 3 (Ac (Ak (As (Aa (Ag Ai (Aa (Ab 0) (Aa (fC (.int 7)) Ad))) (Aa (fC (.int 249)) Ad)))) (fB (Aa (Ac (Ag Ai (Aa (Ab 0) (Aa (fC (.int 24)) Ad))) (fC (.int 1)) (eqS id)) Ad) FP) ixD))
 (Ae (Ao 4 (fC (.str " !\"#$&'()*+,-./0123456789:;<=>?@ABCDEFGHIJKLMNOPQRSTUVWXYZ[\\]^_`abcdefghijklmnopqrstuvwxyz{|}~")))
 (Am (joinM (fC (.str "")) (Aa (Ak (AB 1 [4,0] (BZ (Aa (fB (Aa (Ac (Ab 1) (fC (.int 1)) ixD) (Aa (Ab 3) Ad)) El) Ad)) (Ar 0) Bq (Ac (Ab 1) (Ag Ai (Aa (Ab 2) (Aa (fC (.int 94)) Ad))) ixD))) Ad)))))
   An)
 (Ae (ifS (Aj (Ac (Ab 2) (fC (.str "list")) (eqS id)))
   (Am (Ak (AB 1 [0,1] (BZ (Aa (fB (Aa (Ac (Ab 1) (fC (.int 2)) ixD) (Aa (Ag Ai (Aa (Ab 0) (Aa (fC (.int 4)) Ad))) Ad)) El) Ad)) (Ar 0) Bq (Ag Bc (Aa (Ab 1) (Aa (Ac (Ab 2) (fC (.int 1)) ixD) Ad))))))
   An)
 (Ae (ifS (Aj (Ac (Ab 2) (fC (.str "pair")) (eqS id)))
   (Am (Az (Aa (Ag Bc (Aa (Ab 0) (Aa (Ac (Ab 1) (fC (.int 1)) ixD) Ad))) (Aa (Ag Bc (Aa (Ab 0) (Aa (Ac (Ab 1) (fC (.int 2)) ixD) Ad))) Ad))))
   An)
 (Ae (Ao 5 (Ag Ai (Aa (Ab 0) (Aa (fB (Aa (Ac (Ab 1) (fC (.int 1)) ixD) Ad) AA) Ad))))
 (Am (Az (Aa (fC (.str "of")) (Aa (Ab 5) (Aa (Ag Bc (Aa (Ab 0) (Aa (Ac (Ac (Ab 1) (fC (.int 1)) ixD) (Ab 5) ixD) Ad))) Ad))))))))))))
def Di (AF Ks:Fn):M Out:=
 (Ae (Ao 2 (Ac (Ab 0) (fC (.int 0)) ixD))
 (Ae (ifS (Aj (Ac (Ab 2) (fC (.str "nothing")) (eqS id)))
   (Am (Ak (As Ad)))
   An)
 (Ae (ifS (Aj (Ac (Ab 2) (fC (.str "number")) (eqS id)))
   (Ae (Ao 3 (Ac (Ab 1) (Ac (Ab 0) (fC (.int 1)) ixD) BG))
 (Ae (Ao 4 (Ak (As Ad)))
 (Ae (BD (BZ (Aa (Ag Ks (Aa (Ac (Ac (Ab 0) (fC (.int 2)) ixD) (Ac (Ab 0) (fC (.int 1)) ixD) BG) Ad)) Ad)) (Ar 5)
   (Ae (Ao 4 (Ac (Ak (As (Aa (Ac (Ab 3) (fC (.int 256)) C5) Ad))) (Ab 4) Aq))
 (Ao 3 (Ac (Ab 3) (fC (.int 256)) Ep))))
 (Am (Ab 4)))))
   An)
 (Ae (ifS (Aj (Ac (Ab 2) (fC (.str "text")) (eqS id)))
   (Am (Ac (Ak (As (Aa (fB (Aa (Ab 1) Ad) AA) Ad))) (Ak (AB 1 [] (BT (Ab 1)) (Ar 0) Bq (fB (Aa (Ab 0) Ad) Fj))) Aq))
   An)
 (Ae (ifS (Aj (Ac (Ab 2) (fC (.str "list")) (eqS id)))
   (Ae (Ao 4 (Ak (As (Aa (fB (Aa (Ab 1) Ad) AA) Ad))))
 (Ae (BD (BT (Ab 1)) (Ar 6)
   (Ao 4 (Ac (Ab 4) (Ag AF (Aa (Ac (Ab 0) (fC (.int 1)) ixD) (Aa (Ab 6) Ad))) Aq)))
 (Am (Ab 4))))
   An)
 (Ae (ifS (Aj (Ac (Ab 2) (fC (.str "pair")) (eqS id)))
   (Am (Ac (Ag AF (Aa (Ac (Ab 0) (fC (.int 1)) ixD) (Aa (Ac (Ab 1) (fC (.int 0)) ixD) Ad))) (Ag AF (Aa (Ac (Ab 0) (fC (.int 2)) ixD) (Aa (Ac (Ab 1) (fC (.int 1)) ixD) Ad))) Aq))
   An)
 (Am (Ac (Ak (As (Aa (Ac (Ab 1) (fC (.int 1)) ixD) Ad))) (Ag AF (Aa (Ac (Ac (Ab 0) (fC (.int 1)) ixD) (Ac (Ab 1) (fC (.int 1)) ixD) ixD) (Aa (Ac (Ab 1) (fC (.int 2)) ixD) Ad))) Aq))))))))
def CS (Ai AK AN:Fn):M Out:=
 (Ae (Ao 3 (Ak (As (Aa (fC (.str "a")) (Aa (fC (.str "ab")) (Aa (fC (.str "b")) (Aa (fC (.str "ba")) (Aa (fC (.str "abc")) (Aa (fC (.str "zz")) (Aa (fC (.str "hello")) (Aa (fC (.str "x")) (Aa (fC (.str "quit")) (Aa (fC (.str "go")) (Aa (fC (.str "abcdefgh")) (Aa (fC (.str "c")) (Aa (fC (.str "no")) (Aa (fC (.str "abcdefgi")) Ad)))))))))))))))))
 (Ae (D2 4 (As Ad))
 (Ae (BD (BZ (Aa (Ab 2) Ad)) (Ar 5)
   (Ae (Ao 6 (Ag AN (Aa (Ab 0) (Aa (Ac (Ab 1) (Ab 5) Aq) Ad))))
 (ifS (Hx (Aj (Ac (Ag Ai (Aa (Ab 6) (Aa (fC (.int 6)) Ad))) (fC (.int 1)) (eqS id))) (fOr (Aj (Ac (Ab 5) (fC (.int 0)) gtA)) (Aj (Ac (Ag Ai (Aa (Ab 6) (Aa (fC (.int 4)) Ad))) (fC (.int 1)) (eqS id)))))
   (ownM 4 B1 (Aa (Az (Aa (fC (.str "end")) Ad)) Ad))
   (Ae (Ao 7 (Ac (Ak (As (Aa (fC (.str "left")) (Aa (fC (.str "right")) Ad)))) (Ag Ai (Aa (Ab 6) (Aa (fC (.int 2)) Ad))) ixD))
 (Ae (Ao 8 (Ag Ai (Aa (Ab 6) (Aa (fC (.int 14)) Ad))))
 (Ae (D2 9 (As Ad))
 (Ae (BD (BZ (Aa (Ac (Ak (As (Aa (fC (.int 1)) (Aa (fC (.int 2)) (Aa (fC (.int 3)) (Aa (fC (.int 9)) Ad)))))) (Ag Ai (Aa (Ab 6) (Aa (fC (.int 4)) Ad))) ixD) Ad)) (Ar 10)
   (Ae (Ao 11 (Ac (Ak (As (Aa (fB (Aa (Ac (Ab 2) (fC (.int 1)) BG) (Aa (Ac (Ab 5) (fC (.int 1)) Aq) Ad)) El) (Aa (Ag Ai (Aa (Ab 6) (Aa (Ab 2) Ad))) Ad)))) (Ag Ai (Aa (Ab 6) (Aa (fC (.int 2)) Ad))) ixD))
 (ownM 9 B1 (Aa (Az (Aa (Ac (Ab 3) (Ac (Ac (Ab 8) (Ac (fC (.int 3)) (Ab 10) ER) Aq) (fC (.int 14)) C5) ixD) (Aa (Ag AK (Aa (Ab 6) (Aa (Ag Ai (Aa (Ab 6) (Aa (fC (.int 3)) Ad))) Ad))) (Aa (Ab 11) Ad)))) Ad))))
 (ownM 4 B1 (Aa (Az (Aa (Ab 7) (Aa (Ab 9) Ad))) Ad)))))))))
 (Am (Ab 4)))))
def Dj (Ai Ic AN:Fn):M Out:=
 (Ae (Ao 1 (Ag AN (Aa (Ab 0) (Aa (fC (.int 0)) Ad))))
 (Ae (Ao 2 (Ac (fC (.int 1)) (Ag Ai (Aa (Ab 1) (Aa (fC (.int 9)) Ad))) Aq))
 (Ae (Ao 3 (fB (Aa (fC (.int 30)) (Aa (Ac (fC (.int 36)) (Ab 2) Ep) Ad)) El))
 (Am (Ak (AB 1 [0,3,1] (BZ (Aa (Ab 2) Ad)) (Ar 0) Bq (Ag Ic (Aa (Ab 1) (Aa (Ac (fC (.int 2)) (Ac (Ab 2) (Ab 0) ER) Aq) (Aa (Ac (fC (.int 1)) (Ag Ai (Aa (Ab 3) (Aa (Ab 2) Ad))) Aq) Ad))))))))))
def DY (Ef Dg Du:Fn):M Out:=
 (Ae (Ao 2 (FJ [("left",(EH (As Ad))),("right",(EH (As Ad)))]))
 (Ae (Ao 3 (EH (AB 1 [] (BT (Ab 0)) (Ar 0) Bq (fC (.int 0)))))
 (Ae (BD (BZ (Aa (fB (Aa (Ab 1) Ad) AA) Ad)) (Ar 4)
   (Ae (Ao 5 (Ag Du (Aa (Ab 0) (Aa (Ab 3) (Aa (Ac (Ab 1) (Ab 4) ixD) Ad)))))
 (Ae (ifS (Aj (Ac (Ab 5) (fC .non) isC))
   (Ft "NoTalk" (Aa (Ab 4) Ad))
   An)
 (Ae (Ao 6 (Ac (Ac (Ab 1) (Ab 4) ixD) (fC (.int 0)) ixD))
 (Ae (Ao 7 (Ac (Ac (Ab 0) (Ab 6) ixD) (Ac (Ab 3) (Ab 6) ixD) ixD))
 (Ae (Eo (objM Eg (Ac (Ab 2) (Ac (Ab 7) (fC (.int 0)) ixD) BI) (Aa (Ac (Ak (As (Aa (Ab 6) Ad))) (Ag Dg (Aa (Ab 7) (Aa (Ab 5) (Aa (Ac (Ac (Ab 1) (Ab 4) ixD) (fC (.int 3)) ixD) Ad)))) Aq) Ad)))
 (Cd (Ag Ef (Aa (Ac (Ab 0) (Ab 6) ixD) (Aa (Az (Aa (Ac (Ab 3) (Ab 6) ixD) (Aa (Ab 5) Ad))) Ad))) (stD (Ab 3) (Ab 6)))))))))
 (Am (nxD (Az (Aa (Ac (Ab 2) (fC (.str "left")) BI) (Aa (Ac (Ab 2) (fC (.str "right")) BI) Ad))))))))
def DX (JU Bi:Fn):M Out:=
 (Ae (ifS (fOr (AS (Aj (fB (Aa (Ab 2) (Aa (fC (.ty "tuple")) Ad)) AI))) (Aj (Ac (fB (Aa (Ab 2) Ad) AA) (fC (.int 4)) (eqS λb=>!b))))
   (Am (fC .non))
   An)
 (Ae (Ao 3 (Ac (Ab 2) (fC (.int 0)) ixD))
 (Ae (ifS (AS (Aj (Ag Bi (Aa (Ab 3) (Aa (fC (.int 0)) (Aa (Ac (fB (Aa (Ab 0) Ad) AA) (fC (.int 1)) BG) Ad))))))
   (Am (fC .non))
   An)
 (Am (Ag JU (Aa (Ac (Ac (Ab 0) (Ab 3) ixD) (Ac (Ab 1) (Ab 3) ixD) ixD) (Aa (fSl (Ab 2) (Bg (fC (.int 1))) fNo Bf) Ad)))))))
def DC (Bv:Fn):M Out:=
 (Ae (Ao 2 (Ac (Ab 0) (fC (.int 0)) ixD))
 (Ae (ifS (Aj (Ac (Ab 2) (fC (.str "nothing")) (eqS id)))
   (Am (Ac (Ab 1) (fC .non) isC))
   An)
 (Ae (ifS (Aj (Ac (Ab 2) (fC (.str "number")) (eqS id)))
   (Am (CH (fB (Aa (Ab 1) (Aa (fC (.ty "int")) Ad)) AI) (CH (E6 (fB (Aa (Ab 1) (Aa (fC (.ty "bool")) Ad)) AI)) (Bw (Ac (Ab 0) (fC (.int 1)) ixD) (Ab 1) (Ac (Ab 0) (fC (.int 2)) ixD) leA leA))))
   An)
 (Ae (ifS (Aj (Ac (Ab 2) (fC (.str "text")) (eqS id)))
   (Ae (ifS (fOr (AS (Aj (fB (Aa (Ab 1) (Aa (fC (.ty "str")) Ad)) AI))) (Aj (Ac (fB (Aa (Ab 1) Ad) AA) (Ac (Ab 0) (fC (.int 1)) ixD) gtA)))
   (Am (fC (.bl false)))
   An)
 (Am (Ac (Ak (AB 1 [] (BT (Ab 1)) (Ar 0) (fOr (AS (Aj (Bw (fC (.int 32)) (fB (Aa (Ab 0) Ad) Fj) (fC (.int 126)) leA leA))) (Aj (Ac (fB (Aa (Ab 0) Ad) Fj) (fC (.int 37)) (eqS id)))) (Ab 0))) (Ak (As Ad)) (eqS id))))
   An)
 (Ae (ifS (Aj (Ac (Ab 2) (fC (.str "list")) (eqS id)))
   (Ae (ifS (fOr (AS (Aj (fB (Aa (Ab 1) (Aa (fC (.ty "list")) Ad)) AI))) (Aj (Ac (fB (Aa (Ab 1) Ad) AA) (Ac (Ab 0) (fC (.int 2)) ixD) gtA)))
   (Am (fC (.bl false)))
   An)
 (Am (Ac (Ak (AB 1 [0] (BT (Ab 1)) (Ar 0) (AS (Aj (Ag Bv (Aa (Ac (Ab 1) (fC (.int 1)) ixD) (Aa (Ab 0) Ad))))) (Ab 0))) (Ak (As Ad)) (eqS id))))
   An)
 (Ae (ifS (fOr (AS (Aj (fB (Aa (Ab 1) (Aa (fC (.ty "tuple")) Ad)) AI))) (Aj (Ac (fB (Aa (Ab 1) Ad) AA) (Ac (fC (.int 2)) (fB (Aa (Ac (Ab 2) (fC (.str "choice")) (eqS id)) Ad) FP) Aq) (eqS λb=>!b))))
   (Am (fC (.bl false)))
   An)
 (Ae (ifS (Aj (Ac (Ab 2) (fC (.str "pair")) (eqS id)))
   (Am (CH (Ag Bv (Aa (Ac (Ab 0) (fC (.int 1)) ixD) (Aa (Ac (Ab 1) (fC (.int 0)) ixD) Ad))) (Ag Bv (Aa (Ac (Ab 0) (fC (.int 2)) ixD) (Aa (Ac (Ab 1) (fC (.int 1)) ixD) Ad)))))
   An)
 (Ae (ifS (fOr (Aj (Ac (Ac (Ab 1) (fC (.int 0)) ixD) (fC (.str "of")) (eqS λb=>!b))) (fOr (AS (Aj (fB (Aa (Ac (Ab 1) (fC (.int 1)) ixD) (Aa (fC (.ty "int")) Ad)) AI))) (Aj (fB (Aa (Ac (Ab 1) (fC (.int 1)) ixD) (Aa (fC (.ty "bool")) Ad)) AI))))
   (Am (fC (.bl false)))
   An)
 (Am (CH (Bw (fC (.int 0)) (Ac (Ab 1) (fC (.int 1)) ixD) (fB (Aa (Ac (Ab 0) (fC (.int 1)) ixD) Ad) AA) leA ltA) (Ag Bv (Aa (Ac (Ac (Ab 0) (fC (.int 1)) ixD) (Ac (Ab 1) (fC (.int 1)) ixD) ixD) (Aa (Ac (Ab 1) (fC (.int 2)) ixD) Ad)))))))))))))
def DE (AF Bc Ai AN:Fn):M Out:=
 (Ae (D2 3 (bnd (Ak (As (Aa (fC (.int 0)) Ad))) λx=>bnd (fB (Aa (Ab 1) Ad) AA) λy=>Ll x y))
 (Ae (D2 4 (As Ad))
 (Ae (Ao 5 (fC (.int 900)))
 (Ae (BD (E7 (Aa (Ab 2) (Aa (fB (Aa (fC (.int 63)) (Aa (fB (Aa (Ab 0) Ad) AA) Ad)) El) Ad))) (Ar 6)
   (Ae (Ao 7 (Ag AN (Aa (Ab 0) (Aa (Ab 6) Ad))))
 (Ae (Ao 8 (Ag Ai (Aa (Ab 7) (Aa (fB (Aa (Ab 1) Ad) AA) Ad))))
 (ifS (Aj (Ac (fB (Aa (Ac (Ac (Ab 1) (Ab 8) ixD) (B6 3 (Ab 8)) ixD) Ad) AA) (fC (.int 1)) gtA))
   (Ae (Cd (Ac (Ac (Ab 1) (Ab 8) ixD) (B6 3 (Ab 8)) ixD) (unS 2 (AL (Ar 9) (AL (Ar 10) CU))))
 (Ae (Cd (Ac (Ab 10) (Ag Ai (Aa (Ab 7) (Aa (fB (Aa (Ab 10) Ad) AA) Ad))) ixD) (unS 3 (AL (Ar 11) (AL (Ar 12) (AL (Ar 13) CU)))))
 (Ae (Ao 14 (Ag Bc (Aa (Ab 7) (Aa (Ab 12) Ad))))
 (ifS (Aj (Ac (Ac (fC (.int 2)) (fB (Aa (Ag AF (Aa (Ab 12) (Aa (Ab 14) Ad))) Ad) AA) Aq) (Ab 5) leA))
   (Ae (Ao 5 (Ac (Ac (Ab 5) (fC (.int 2)) BG) (fB (Aa (Ag AF (Aa (Ab 12) (Aa (Ab 14) Ad))) Ad) AA) BG))
 (Ae (ownM 4 B1 (Aa (Az (Aa (Ab 8) (Aa (Ab 9) (Aa (Ab 11) (Aa (Ab 14) Ad))))) Ad))
 (Cd (Ab 13) (D9 3 (Ab 8)))))
   An))))
   An))))
 (Am (Ab 4))))))
def DU:M Out:=
 (Am (Ak (AB 1 [] (BT (Ab 0)) (Ar 0) Bq (Ak (AB 1 [] (BT (Ab 0)) (Ar 0) Bq (fIf (Aj (Ac (fB (Aa (Ab 0) Ad) AA) (fC (.int 1)) gtA)) (Az (Aa (Ac (Ab 0) (fC (.int 0)) ixD) (Aa (Ak (fBF (Aa (Ac (Ab 0) (fC (.int 1)) ixD) Ad) Ei)) Ad))) (Ab 0)))))))
def DV (AF Bv:Fn):M Out:=
 (Ae (D2 2 (bnd (Ak (As (Aa (fC (.int 0)) Ad))) λx=>bnd (fB (Aa (Ab 0) Ad) AA) λy=>Ll x y))
 (Ae (Ao 3 (FJ [("left",(Ak (As Ad))),("right",(Ak (As Ad)))]))
 (Ae (BD (FK (Aa (Ab 1) Ad)) (unS 2 (AL (Ar 4) (AL (Ar 5) CU)))
   (Ae (ifS (fOr (AS (Aj (fB (Aa (Ab 5) (Aa (fC (.ty "tuple")) Ad)) AI))) (fOr (Aj (Ac (fB (Aa (Ab 5) Ad) AA) (fC (.int 4)) (eqS λb=>!b))) (fOr (AS (Aj (fB (Aa (Ac (Ab 5) (fC (.int 0)) ixD) (Aa (fC (.ty "int")) Ad)) AI))) (Aj (fB (Aa (Ac (Ab 5) (fC (.int 0)) ixD) (Aa (fC (.ty "bool")) Ad)) AI)))))
   (Am (Ab 4))
   An)
 (Ae (ifS (fOr (AS (Aj (Bw (fC (.int 0)) (Ac (Ab 5) (fC (.int 0)) ixD) (fB (Aa (Ab 0) Ad) AA) leA ltA))) (fOr (Aj (Ac (Ac (Ac (Ac (Ab 0) (Ac (Ab 5) (fC (.int 0)) ixD) ixD) (B6 2 (Ac (Ab 5) (fC (.int 0)) ixD)) ixD) (fC (.int 0)) ixD) (Ac (Ab 5) (fC (.int 1)) ixD) (eqS λb=>!b))) (Aj (Ac (Ac (Ab 5) (fC (.int 1)) ixD) (fC (.str "end")) (eqS id)))))
   (Am (Ab 4))
   An)
 (Ae (Ao 6 (Ak (AB 1 [5] (FK (Aa (Ac (Ac (Ac (Ab 0) (Ac (Ab 5) (fC (.int 0)) ixD) ixD) (B6 2 (Ac (Ab 5) (fC (.int 0)) ixD)) ixD) (fC (.int 1)) ixD) Ad)) (Ar 0) (Aj (Ac (Ac (Ac (Ab 0) (fC (.int 1)) ixD) (fC (.int 0)) ixD) (Ac (Ab 1) (fC (.int 2)) ixD) eqZ)) (Ab 0))))
 (Ae (ifS (fOr (Aj (Ac (Ab 6) (Ak (As Ad)) (eqS id))) (AS (Aj (Ag Bv (Aa (Ac (Ac (Ac (Ab 6) (fC (.int 0)) ixD) (fC (.int 1)) ixD) (fC (.int 1)) ixD) (Aa (Ac (Ab 5) (fC (.int 3)) ixD) Ad))))))
   (Am (Ab 4))
   An)
 (Ae (Cd (Ac (Ab 6) (fC (.int 0)) ixD) (unS 2 (AL (Ar 7) (AL (Ar 8) CU))))
 (Ae (Cd (Ac (Ac (Ac (Ab 3) (Ac (Ab 5) (fC (.int 1)) ixD) BI) (Ak (As (Aa (Ac (Ab 5) (fC (.int 0)) ixD) (Aa (Ab 7) Ad)))) Aq) (Ag AF (Aa (Ac (Ab 8) (fC (.int 1)) ixD) (Aa (Ac (Ab 5) (fC (.int 3)) ixD) Ad))) Aq) (FZ (Ab 3) (Ac (Ab 5) (fC (.int 1)) ixD)))
 (Cd (Ac (Ab 8) (fC (.int 2)) ixD) (D9 2 (Ac (Ab 5) (fC (.int 0)) ixD))))))))))
 (Am (Az (Aa (Ac (Ab 3) (fC (.str "left")) BI) (Aa (Ac (Ab 3) (fC (.str "right")) BI) Ad)))))))
def DF (Ig:Fn):M Out:=
 (Ae (Ao 2 (fC .non))
 (Ae (Ao 3 (fC .non))
 (Ae (E2 (Nw 3 (Ag Ig (Aa (Ab 0) (Aa (Ab 1) Ad)))) (hAs "ParleyError" 4 (Ao 2 (Ab 4)) VY))
 (Ae (ifS (Aj (Ac (Ab 2) (fC .non) isC))
   (Am (Ab 3))
   An)
 (Ae (Ao 5 (Ak (As (Aa (bnd (Ab 2) (G0 ["Broken", "NoName", "NoRow", "NoText", "NoValue", "Short"])) (Aa (E6 (bnd (Ab 2) (Fe "ValueError"))) Ad)))))
 (Ae (ifS (fOr (Aj (Ac (fC (.bl true)) (Ab 5) (inD false))) (AS (Aj (bnd (Ab 2) (Fe "NoTalk")))))
   (Am (fC (.str "other")))
   An)
 (Am (bnd (Ab 2) (Ko "at")))))))))
def C4 (Ai:Fn):M Out:=
 (Ae (Ao 3 (Ag Ai (Aa (Ab 2) (Aa (Ac (fB (Aa (Ab 0) Ad) AA) (fC (.int 1)) Aq) Ad))))
 (Ae (Ao 4 (Ac (Ac (Ab 0) (Ak (As (Aa (Az (Aa (fC (.int 0)) (Aa (fC (.str "left")) (Aa (fC (.str "a")) (Aa (fC .non) Ad))))) Ad))) Aq) (Ab 3) ixD))
 (Ae (Ao 5 (Ac (Ak (As (Aa (fC (.str "left")) (Aa (fC (.str "right")) Ad)))) (fB (Aa (Ac (Ac (Ab 4) (fC (.int 1)) ixD) (fC (.str "left")) (eqS id)) Ad) FP) ixD))
 (Ae (Ao 6 (Ak (As (Aa (Az (Aa (Ac (Ab 4) (fC (.int 0)) ixD) (Aa (Ab 5) (Aa (Ac (Ab 4) (fC (.int 2)) ixD) (Aa (Ac (Ab 4) (fC (.int 3)) ixD) Ad))))) (Aa (Az (Aa (Ac (Ac (Ac (Ab 4) (fC (.int 0)) ixD) (fC (.int 1)) Aq) (Ab 1) C5) (Aa (Ac (Ab 4) (fC (.int 1)) ixD) (Aa (Ac (Ab 4) (fC (.int 2)) ixD) (Aa (Ac (Ab 4) (fC (.int 3)) ixD) Ad))))) Ad)))))
 (Ae (Ao 6 (Ac (Ab 6) (Ak (As (Aa (Az (Aa (Ab 1) (Aa (Ac (Ab 4) (fC (.int 1)) ixD) (Aa (Ac (Ab 4) (fC (.int 2)) ixD) (Aa (Ac (Ab 4) (fC (.int 3)) ixD) Ad))))) (Aa (Az (Aa (fUn (fC (.int 1)) Gz) (Aa (Ac (Ab 4) (fC (.int 1)) ixD) (Aa (Ac (Ab 4) (fC (.int 2)) ixD) (Aa (Ac (Ab 4) (fC (.int 3)) ixD) Ad))))) Ad)))) Aq))
 (Ae (Ao 6 (Ac (Ab 6) (Ak (As (Aa (Az (Aa (Ac (Ab 4) (fC (.int 0)) ixD) (Aa (Ac (Ab 4) (fC (.int 1)) ixD) (Aa (Ac (Ac (Ab 4) (fC (.int 2)) ixD) (fC (.str "a")) Aq) (Aa (Ac (Ab 4) (fC (.int 3)) ixD) Ad))))) (Aa (fSl (Ab 4) (Bg (fC (.int 1))) fNo Bf) (Aa (fC (.int 7)) (Aa (fC .non) (Aa (Ak (fBF (Aa (Ab 4) Ad) Ei)) Ad))))))) Aq))
 (Ae (Ao 6 (Ac (Ab 6) (Ak (AB 1 [4] (BT (Ak (As (Aa (fC (.str "no such")) (Aa (fUn (fC (.int 7)) Gz) (Aa (fC (.bl true)) (Aa (Ak (As Ad)) (Aa (Az (Aa (fC (.str "of")) (Aa (fC (.int 0)) (Aa (fC .non) Ad)))) (Aa (Az (Aa (fC (.int 1)) (Aa (fC (.int 2)) Ad))) (Aa Hy Ad)))))))))) (Ar 0) Bq (Az (Aa (Ac (Ab 1) (fC (.int 0)) ixD) (Aa (Ac (Ab 1) (fC (.int 1)) ixD) (Aa (Ac (Ab 1) (fC (.int 2)) ixD) (Aa (Ab 0) Ad))))))) Aq))
 (Ae (Ao 6 (Ac (Ab 6) (Ak (As (Aa (Az (Aa (Ac (Ab 4) (fC (.int 0)) ixD) (Aa (fC (.str "end")) (Aa (Ac (Ab 4) (fC (.int 2)) ixD) (Aa (Ac (Ab 4) (fC (.int 3)) ixD) Ad))))) (Aa (Az (Aa (Ac (Ac (Ab 4) (fC (.int 0)) ixD) (fC (.int 0)) (eqS id)) (Aa (Ac (Ab 4) (fC (.int 1)) ixD) (Aa (Ac (Ab 4) (fC (.int 2)) ixD) (Aa (Ac (Ab 4) (fC (.int 3)) ixD) Ad))))) (Aa (Ac (Ab 4) (Az (Aa (Ac (Ab 4) (fC (.int 3)) ixD) Ad)) Aq) (Aa (Az Ad) (Aa (fC (.str "")) (Aa Hy Ad)))))))) Aq))
 (Ae (Ao 6 (Ac (Ac (Ab 6) (Ak (AB 1 [4] (BT (Ak (As (Aa (fC (.str "0")) (Aa (fC .non) (Aa (Ak (As Ad)) (Aa (fUn (Ab 1) Gz) Ad))))))) (Ar 0) Bq (Ac (Az (Aa (Ab 0) Ad)) (fSl (Ab 1) (Bg (fC (.int 1))) fNo Bf) Aq))) Aq) (Ak (As (Aa (fC (.str "abcd")) (Aa (Ac (fSl (Ab 4) fNo (Bg (fC (.int 2))) Bf) (Az (Aa (Ak (As (Aa (fC (.str "a")) Ad))) (Aa (fC .non) Ad))) Aq) Ad)))) Aq))
 (Ae (Ao 6 (Ac (Ab 6) (Ak (AB 1 [4] (BT (Ak (As (Aa (fC .non) (Aa (Ak (As Ad)) (Aa (fC (.int 5)) (Aa (fC (.str "")) (Aa (fC (.str "l")) (Aa (fC (.str "Left")) Ad))))))))) (Ar 0) Bq (Az (Aa (Ac (Ab 1) (fC (.int 0)) ixD) (Aa (Ab 0) (Aa (Ac (Ab 1) (fC (.int 2)) ixD) (Aa (Ac (Ab 1) (fC (.int 3)) ixD) Ad))))))) Aq))
 (Ae (Ao 7 (Ak (As (Aa (Az (Aa (fC (.str "of")) (Aa (fC (.bl true)) (Aa (fC .non) Ad)))) (Aa (Az (Aa (fC (.str "of")) (Aa (fC (.str "0")) (Aa (fC .non) Ad)))) (Aa (Az (Aa (fC (.str "of")) (Aa (Ak (As Ad)) (Aa (fC .non) Ad)))) (Aa (Az (Aa (fC (.str "of")) (Aa (fC (.int 0)) Ad))) (Aa (Ak (As (Aa (fC (.str "of")) (Aa (fC (.int 0)) (Aa (fC .non) Ad))))) (Aa (fC (.str "a\nb")) (Aa (Ak (As (Aa (fC .non) (Aa (fC .non) Ad)))) Ad))))))))))
 (Ae (ifS (Aj (fB (Aa (Ac (Ab 4) (fC (.int 3)) ixD) (Aa (fC (.ty "tuple")) Ad)) AI))
   (Ao 7 (Ac (Ab 7) (Ak (As (Aa (Ak (fBF (Aa (Ac (Ab 4) (fC (.int 3)) ixD) Ad) Ei)) (Aa (Ac (Ac (fSl (Ac (Ab 4) (fC (.int 3)) ixD) fNo (Bg (fC (.int 1))) Bf) (Az (Aa (fC (.bl true)) Ad)) Aq) (fSl (Ac (Ab 4) (fC (.int 3)) ixD) (Bg (fC (.int 2))) fNo Bf) Aq) (Aa (Ac (Ac (fSl (Ac (Ab 4) (fC (.int 3)) ixD) fNo (Bg (fC (.int 1))) Bf) (Az (Aa (Ak (As Ad)) Ad)) Aq) (fSl (Ac (Ab 4) (fC (.int 3)) ixD) (Bg (fC (.int 2))) fNo Bf) Aq) Ad))))) Aq))
   An)
 (Ae (Ao 6 (Ac (Ac (Ab 6) (Ak (AB 1 [4] (BT (Ab 7)) (Ar 0) Bq (Az (Aa (Ac (Ab 1) (fC (.int 0)) ixD) (Aa (Ac (Ab 1) (fC (.int 1)) ixD) (Aa (Ac (Ab 1) (fC (.int 2)) ixD) (Aa (Ab 0) Ad))))))) Aq) (Ak (As (Aa (Az (Aa (Ac (Ab 4) (fC (.int 0)) ixD) (Aa (Ac (Ab 4) (fC (.int 1)) ixD) (Aa (fC (.str "")) (Aa (Ac (Ab 4) (fC (.int 3)) ixD) Ad))))) Ad))) Aq))
 (Ae (Ao 6 (Ac (Ab 6) (Ak (AB 1 [4] (BT (Ak (As (Aa (fC .non) (Aa (Ak (As Ad)) (Aa Hy (Aa (fC (.int 5)) Ad))))))) (Ar 0) Bq (Az (Aa (Ac (Ab 1) (fC (.int 0)) ixD) (Aa (Ac (Ab 1) (fC (.int 1)) ixD) (Aa (Ab 0) (Aa (Ac (Ab 1) (fC (.int 3)) ixD) Ad))))))) Aq))
 (Ae (Ao 8 (Ag Ai (Aa (Ab 2) (Aa (fC (.int 4)) Ad))))
 (Ae (ifS (Aj (Ac (Ab 8) (fC (.int 0)) (eqS id)))
   (Am (Ac (fSl (Ab 0) fNo (Bg (Ab 3)) Bf) (fSl (Ab 0) (Bg (Ac (Ab 3) (fC (.int 1)) Aq)) fNo Bf) Aq))
   An)
 (Ae (ifS (Aj (Ac (Ab 8) (fC (.int 1)) (eqS id)))
   (Am (Ac (Ac (fSl (Ab 0) fNo (Bg (Ab 3)) Bf) (Ak (As (Aa (Ab 4) Ad))) Aq) (fSl (Ab 0) (Bg (Ab 3)) fNo Bf) Aq))
   An)
 (Am (Ac (Ac (fSl (Ab 0) fNo (Bg (Ab 3)) Bf) (Ak (As (Aa (Ac (Ab 6) (Ag Ai (Aa (Ab 2) (Aa (fB (Aa (Ab 6) Ad) AA) Ad))) ixD) Ad))) Aq) (fSl (Ab 0) (Bg (Ac (Ab 3) (fC (.int 1)) Aq)) fNo Bf) Aq)))))))))))))))))))
def A2 (Df:Fn):M Out:=
 (Ae (ifS (Aj (fB (Aa (Ab 0) (Aa (Az (Aa (fC (.ty "list")) (Aa (fC (.ty "tuple")) Ad))) Ad)) Je))
   (Am (Ac (Ak (As (Aa (fB (Aa (Ab 0) (Aa (fC (.ty "list")) Ad)) AI) Ad))) (Ak (AB 1 [] (BT (Ab 0)) (Ar 0) Bq (Ag Df (Aa (Ab 0) Ad)))) Aq))
   An)
 (Am (Ak (As (Aa (fB (Aa (Ab 0) (Aa (fC (.ty "bool")) Ad)) AI) (Aa (fB (Aa (Ab 0) (Aa (fC (.ty "str")) Ad)) AI) Ad))))))
def Dk (Df Gi IU LJ:Fn):M Out:=
 (Ae (Ao 2 (Ag LJ (Aa (Ab 0) (Aa (Ab 1) Ad))))
 (Ae (Ao 3 (Ak (As (Aa (Ag IU (Aa (Ab 0) Ad)) (Aa (Ak (fBF (Aa (Ab 1) Ad) Ei)) Ad)))))
 (Ae (Ao 4 (Ag Gi (Aa (Ac (Ab 3) (fC (.int 0)) ixD) (Aa (Ac (Ab 3) (fC (.int 1)) ixD) Ad))))
 (Ae (ifS (fOr (Aj (fB (Aa (Ab 4) (Aa (fC (.ty "bool")) Ad)) AI)) (fOr (Aj (Ac (Ab 4) (Ab 2) (eqO λb=>!b))) (Aj (Ac (fB (Aa (Ab 4) (Aa (fC (.ty "tuple")) Ad)) AI) (fB (Aa (Ab 2) (Aa (fC (.ty "tuple")) Ad)) AI) (eqS λb=>!b)))))
   (Am (fC (.bl false)))
   An)
 (Ae (ifS (Aj (fB (Aa (Ab 2) (Aa (fC (.ty "tuple")) Ad)) AI))
   (Ae (ifS (fOr (Aj (Ac (Ak (AB 1 [] (BT (Ak (bnd (Ac (Ab 4) (fC (.int 0)) ixD) λx=>bnd (Ac (Ab 4) (fC (.int 1)) ixD) λy=>Ii x y))) (Ar 0) (Aj (fB (Aa (Ab 0) (Aa (fC (.ty "bool")) Ad)) AI)) (Ab 0))) (Ak (As Ad)) (eqS λb=>!b))) (AS (Aj (fB (Aa (Ac (Ab 4) (fC (.int 0)) ixD) (Aa (fC (.ty "list")) Ad)) Jf))))
   (Am (fC (.bl false)))
   An)
 (Ae (Eo (objM B1 (Ac (Ab 4) (fC (.int 0)) ixD) (Aa (fC (.int 1)) Ad)))
 (Ae (ifS (Aj (Ac (Ac (Ab 4) (fC (.int 1)) ixD) (Ac (Ab 2) (fC (.int 1)) ixD) (eqO λb=>!b)))
   (Am (fC (.bl false)))
   An)
 (Ae (Eo (objM B1 (Ac (Ab 4) (fC (.int 1)) ixD) (Aa (fC (.int 1)) Ad)))
 (ifS (fOr (Aj (Ac (Ag Gi (Aa (Ac (Ab 3) (fC (.int 0)) ixD) (Aa (Ac (Ab 3) (fC (.int 1)) ixD) Ad))) (Ab 2) (eqO λb=>!b))) (Aj (Ac (Ab 4) (Az (Aa (Ac (Ac (Ab 2) (fC (.int 0)) ixD) (Ak (As (Aa (fC (.int 1)) Ad))) Aq) (Aa (Ac (Ac (Ab 2) (fC (.int 1)) ixD) (Ak (As (Aa (fC (.int 1)) Ad))) Aq) Ad))) (eqO λb=>!b))))
   (Am (fC (.bl false)))
   An)))))
   An)
 (Am (CH (Ac (Ab 3) (Ak (As (Aa (Ab 0) (Aa (Ab 1) Ad)))) (eqA true)) (Ac (Ag Df (Aa (Ab 3) Ad)) (Ag Df (Aa (Ak (As (Aa (Ab 0) (Aa (Ab 1) Ad)))) Ad)) (eqS id)))))))))
def Gx (Gh IV Ee AN Hu:Fn):M Out:=
 (Ae (Ao 1 (Ag Hu (Aa (Ab 0) Ad)))
 (Ae (Ao 2 (Ag Gh (Aa (Ab 0) (Aa (Ab 1) (Aa (fC (.int 38)) Ad)))))
 (Ae (ifS (fOr (AS (Aj (Ag Ee (Aa (Ab 1) (Aa (Ab 2) Ad))))) (AS (Aj (Ag Ee (Aa (Ab 1) (Aa (Ak (As Ad)) Ad))))))
   (Am (fC (.bl false)))
   An)
 (Ae (Ao 3 (Ag AN (Aa (Ab 0) (Aa (fC (.int 1)) Ad))))
 (Ae (BD (BZ (Aa (fC (.int 3)) Ad)) (Ar 4)
   (ifS (AS (Aj (Ag Ee (Aa (Ab 1) (Aa (Ag IV (Aa (Ab 2) (Aa (fB (Aa (Ab 1) Ad) AA) (Aa (Ab 3) Ad)))) Ad)))))
   (Am (fC (.bl false)))
   An))
 (Am (Ac (Ab 2) (Ag Gh (Aa (Ab 0) (Aa (Ab 1) (Aa (fC (.int 38)) Ad)))) (eqS id))))))))
end LW
namespace F2
open PySem L2
def W {α:Type}(m:M α)(t:T)(P:α->T->Prop):Prop:=∃a t',m t=some (a,t')/\P a t'
def Wf (g:Fn)(ds:List D)(S:List Ob)(P:D->List Ob->Prop):Prop:=∃r S',g ds S=some (r,S')/\P r S'
theorem W.mono {α:Type}{m:M α}{t:T}{P Q:α->T->Prop}(h:W m t P)(i:∀a t',P a t'->Q a t'):W m t Q:=by
 obtain ⟨a,t',e,p⟩:=h;exact ⟨a,t',e,i a t' p⟩
theorem Wf.mono {g:Fn}{ds:List D}{S:List Ob}{P Q:D->List Ob->Prop}(h:Wf g ds S P)(i:∀r S',P r S'->Q r S'):Wf g ds S Q:=by
 obtain ⟨a,t',e,p⟩:=h;exact ⟨a,t',e,i a t' p⟩
section
variable {α β:Type}
theorem Au {m:M α}{t:T}{P:α->T->Prop}{a:α}{t':T}(e:m t=some (a,t')):W m t P↔P a t':=by
 constructor
 ·rintro ⟨a',t1,e',p⟩;rw [e] at e';cases e';exact p
 ·exact λp=>⟨a,t',e,p⟩
theorem Dt {m:M α}{t:T}{P:α->T->Prop}(e:m t=none):W m t P↔False:=by
 constructor
 ·rintro ⟨a',t1,e',p⟩;rw [e] at e';cases e'
 ·exact False.elim
@[simp] theorem W_ret {a:α} {t:T} {P:α->T->Prop}:W (ret a) t P↔P a t:=Au rfl
@[simp] theorem W_fail {t:T} {P:α->T->Prop}:W (fail:M α) t P↔False:=Dt rfl
@[simp] theorem W_bnd {f:M α} {g:α->M β} {t:T} {P:β->T->Prop}:W (bnd f g) t P↔W f t λa t1=>W (g a) t1 P:=by
 constructor
 ·rintro ⟨b,t',e,p⟩;obtain ⟨a,t1,e1,e2⟩:=Af e;exact ⟨a,t1,e1,b,t',e2,p⟩
 ·rintro ⟨a,t1,e1,b,t',e2,p⟩;exact ⟨b,t',by unfold bnd;rw [e1];exact e2,p⟩
@[simp] theorem RQ {c:Prop} [Decidable c] {f g:M α} {t:T} {P:α->T->Prop}:W (if c then f else g) t P↔if c then W f t P else W g t P:=by split <;> rfl
@[simp] theorem aj {n:Nat} {a:α} {t:T} {P:α->T->Prop}:W (lim n a) t P↔n<=LIM/\P a t:=by
 unfold lim;constructor
 ·rintro ⟨a',t',e,p⟩
  split at e
  ·cases e;exact ⟨by assumption,p⟩
  ·cases e
 ·rintro ⟨h,p⟩;exact ⟨a,t,by simp only [h,if_true],p⟩
end
variable {t:T}{env:List (Option Sl)}{S:List Ob}
@[simp] theorem W_fC {d:D} {P:D->T->Prop}:W (fC d) t P↔P d t:=Au rfl
@[simp] theorem NW {i:Nat} {P:D->T->Prop}:W (Ab i) t P↔match t.env[i]? with
 | some (some (.val d))=>P d t
 | some (some (.own ds))=>P (.lst ds) ⟨t.env.set i (some (.val (.lst ds))),t.S⟩
 | _=>False:=by
 cases e:t.env[i]? with
 | none=>exact Dt (by unfold Ab;simp [e])
 | some o=>
   cases o with
   | none=>exact Dt (by unfold Ab;simp [e])
   | some sl=>
     cases sl with
     | val d=>exact Au (by unfold Ab;simp [e])
     | own ds=>exact Au (by unfold Ab;simp [e])
@[simp] theorem W_fBin {f g:M D} {h:D->D->M D} {P:D->T->Prop}:W (Ac f g h) t P↔W f t λx t1=>W g t1 λy t2=>W (h x y) t2 P:=by simp [Ac]
@[simp] theorem W_fUn {f:M D} {h:D->M D} {P:D->T->Prop}:W (fUn f h) t P↔W f t λx t1=>W (h x) t1 P:=by simp [fUn]
@[simp] theorem W_toB {b:Bool} {P:Bool->T->Prop}:W (toB (.bl b)) t P↔P b t:=Au rfl
@[simp] theorem W_fTst {f:M D} {P:Bool->T->Prop}:W (Aj f) t P↔W f t λx t1=>W (toB x) t1 P:=by simp [Aj]
@[simp] theorem W_fChain {f g w:M D} {h h':D->D->M D} {P:D->T->Prop}:W (Bw f g w h h') t P↔W f t λx t1=>W g t1 λy t2=>W (h x y) t2 λk t3=>W (toB k) t3 λk t4=>if k=true then W w t4 λz t5=>W (h' y z) t5 P else P (.bl false) t4:=by
 simp [Bw]
@[simp] theorem W_fAnd {f g:M Bool} {P:Bool->T->Prop}:W (Hx f g) t P↔W f t λk t1=>if k=true then W g t1 P else P false t1:=by simp [Hx]
@[simp] theorem W_fOr {f g:M Bool} {P:Bool->T->Prop}:W (fOr f g) t P↔W f t λk t1=>if k=true then P true t1 else W g t1 P:=by simp [fOr]
@[simp] theorem W_fNot {f:M Bool} {P:Bool->T->Prop}:W (AS f) t P↔W f t λk t1=>P (!k) t1:=by simp [AS]
@[simp] theorem W_fAndV {f g:M D} {P:D->T->Prop}:W (CH f g) t P↔W f t λx t1=>W (toB x) t1 λk t2=>if k=true then W g t2 P else P (.bl false) t2:=by simp [CH]
@[simp] theorem W_fOrV {f g:M D} {P:D->T->Prop}:W (I9 f g) t P↔W f t λx t1=>W (toB x) t1 λk t2=>if k=true then P (.bl true) t2 else W g t2 P:=by simp [I9]
@[simp] theorem W_fNotV {f:M D} {P:D->T->Prop}:W (E6 f) t P↔W f t λx t1=>W (toB x) t1 λk t2=>P (.bl (!k)) t2:=by simp [E6]
@[simp] theorem W_fIf {f:M Bool} {g h:M D} {P:D->T->Prop}:W (fIf f g h) t P↔W f t λk t1=>if k=true then W g t1 P else W h t1 P:=by simp [fIf]
@[simp] theorem W_fNil {P:List D->T->Prop}:W Ad t P↔P [] t:=Au rfl
@[simp] theorem W_fCons {f:M D} {g:M (List D)} {P:List D->T->Prop}:W (Aa f g) t P↔W f t λd t1=>W g t1 λds t2=>P (d :: ds) t2:=by simp [Aa]
@[simp] theorem W_fTup {f:M (List D)} {P:D->T->Prop}:W (Az f) t P↔W f t λds t1=>ds.length<=LIM/\P (.tup ds) t1:=by simp [Az]
@[simp] theorem W_fLst {f:M (List D)} {P:List D->T->Prop}:W (As f) t P↔W f t λds t1=>ds.length<=LIM/\P ds t1:=by simp [As]
@[simp] theorem W_fPure {f:M (List D)} {P:D->T->Prop}:W (Ak f) t P↔W f t λds t1=>P (.lst ds) t1:=by simp [Ak]
@[simp] theorem W_newOb {o:Ob} {P:D->T->Prop}:W (Ni o) t P↔P (.obj t.S.length) ⟨t.env,t.S++[o]⟩:=Au rfl
@[simp] theorem Vj {f:M (List D)} {P:D->T->Prop}:W (EH f) t P↔W f t λds t1=>W (Ni (.lst ds)) t1 P:=by simp [EH]
@[simp] theorem W_fCall {g:Fn} {f:M (List D)} {P:D->T->Prop}:W (Ag g f) t P↔W f t λds t1=>Wf g ds t1.S λr S'=>P r ⟨t1.env,S'⟩:=by
 unfold Ag;rw [W_bnd];constructor
 ·rintro ⟨ds,t1,e1,r,t',e2,p⟩;refine ⟨ds,t1,e1,?_⟩;dsimp only at e2
  cases e:g ds t1.S with
  | none=>rw [e] at e2;cases e2
  | some z=>obtain ⟨r',S'⟩:=z;rw [e] at e2;cases e2;exact ⟨r,_,e,p⟩
 ·rintro ⟨ds,t1,e1,r,S',e2,p⟩;exact ⟨ds,t1,e1,r,_,by simp only [e2],p⟩
@[simp] theorem W_fB {f:M (List D)} {h:List D->M D} {P:D->T->Prop}:W (fB f h) t P↔W f t λds t1=>W (h ds) t1 P:=by simp [fB]
@[simp] theorem W_fBF {f:M (List D)} {h:List D->M (List D)} {P:List D->T->Prop}:W (fBF f h) t P↔W f t λds t1=>W (h ds) t1 P:=by simp [fBF]
@[simp] theorem W_seqS {f g:M Out} {P:Out->T->Prop}:W (Ae f g) t P↔W f t λo t1=>match o with
 | .next=>W g t1 P
 | .brk=>P .brk t1
 | .cont=>P .cont t1
 | .ret d=>P (.ret d) t1:=by
 unfold Ae;constructor
 ·rintro ⟨o,t',e,p⟩;dsimp only at e
  cases e1:f t with
  | none=>rw [e1] at e;cases e
  | some z=>
    obtain ⟨o1,t1⟩:=z;rw [e1] at e;refine ⟨o1,t1,e1,?_⟩
    cases o1 with
    | next=>exact ⟨o,t',e,p⟩
    | brk=>cases e;exact p
    | cont=>cases e;exact p
    | ret d=>cases e;exact p
 ·rintro ⟨o,t1,e,p⟩
  cases o with
  | next=>obtain ⟨o,t',e',p⟩:=p;exact ⟨o,t',by simp only [e];exact e',p⟩
  | brk=>exact ⟨_,_,by simp only [e],p⟩
  | cont=>exact ⟨_,_,by simp only [e],p⟩
  | ret d=>exact ⟨_,_,by simp only [e],p⟩
@[simp] theorem W_skipS {P:Out->T->Prop}:W An t P↔P .next t:=Au rfl
@[simp] theorem W_retS {f:M D} {P:Out->T->Prop}:W (Am f) t P↔W f t λd t1=>P (.ret d) t1:=by simp [Am]
@[simp] theorem W_dropS {f:M D} {P:Out->T->Prop}:W (Eo f) t P↔W f t λd t1=>P .next t1:=by simp [Eo]
@[simp] theorem W_ifS {f:M Bool} {g h:M Out} {P:Out->T->Prop}:W (ifS f g h) t P↔W f t λk t1=>if k=true then W g t1 P else W h t1 P:=by simp [ifS]
@[simp] theorem W_putV {i:Nat} {d:D} {P:Unit->T->Prop}:W (Ar i d) t P↔P () ⟨t.env.set i (some (.val d)),t.S⟩:=Au rfl
@[simp] theorem W_setS {i:Nat} {f:M D} {P:Out->T->Prop}:W (Ao i f) t P↔W f t λd t1=>P .next ⟨t1.env.set i (some (.val d)),t1.S⟩:=by
 simp only [Ao,W_bnd,W_ret,W_putV]
@[simp] theorem W_ownS {i:Nat} {f:M (List D)} {P:Out->T->Prop}:W (D2 i f) t P↔W f t λds t1=>P .next ⟨t1.env.set i (some (.own ds)),t1.S⟩:=by
 unfold D2;rw [W_bnd];have:∀(ds:List D) (t1:T),W (λt:T=>some (Out.next,({ t with env:=t.env.set i (some (.own ds)) }:T))) t1 P↔P .next ⟨t1.env.set i (some (.own ds)),t1.S⟩:=λds t1=>Au rfl;simp only [this]
@[simp] theorem W_asgS {f:M D} {g:D->M Unit} {P:Out->T->Prop}:W (Cd f g) t P↔W f t λd t1=>W (g d) t1 λ_ t2=>P .next t2:=by simp [Cd]
@[simp] theorem W_putNil {P:Unit->T->Prop}:W (CU []) t P↔P () t:=Au rfl
@[simp] theorem W_putCons {f:D->M Unit} {g:List D->M Unit} {d:D} {ds:List D} {P:Unit->T->Prop}:W (AL f g (d :: ds)) t P↔W (f d) t λ_ t1=>W (g ds) t1 P:=by simp [AL]
@[simp] theorem YO {n:Nat} {g:List D->M Unit} {ds:List D} {P:Unit->T->Prop}:W (unS n g (.lst ds)) t P↔ds.length=n/\W (g ds) t P:=by
 unfold unS;simp only [RQ,W_fail];split <;> simp [*]
@[simp] theorem W_unS_tup {n:Nat} {g:List D->M Unit} {ds:List D} {P:Unit->T->Prop}:W (unS n g (.tup ds)) t P↔ds.length=n/\W (g ds) t P:=by
 unfold unS;simp only [RQ,W_fail];split <;> simp [*]
@[simp] theorem W_forS {f:M (List D)} {st:D->M Unit} {b:M Out} {P:Out->T->Prop}:W (BD f st b) t P↔W f t λds t1=>W (Bm st b ds) t1 P:=by simp [BD]
@[simp] theorem W_forL_nil {st:D->M Unit} {b:M Out} {P:Out->T->Prop}:W (Bm st b []) t P↔P .next t:=Au rfl
theorem CA {st:D->M Unit}{b:M Out}{d:D}{r:List D}{P:Out->T->Prop}:W (Bm st b (d :: r)) t P↔W (st d) t λ_ t1=>W b t1 λo t2=>match o with
 | .next=>W (Bm st b r) t2 P
 | .cont=>W (Bm st b r) t2 P
 | .brk=>P .next t2
 | .ret x=>P (.ret x) t2:=by
 constructor
 ·rintro ⟨o,t',e,p⟩;unfold Bm at e
  cases e1:st d t with
  | none=>rw [e1] at e;cases e
  | some z=>
    obtain ⟨u,t1⟩:=z;rw [e1] at e
    try dsimp only at e
    refine ⟨u,t1,e1,?_⟩
    cases e2:b t1 with
    | none=>rw [e2] at e;cases e
    | some z=>
      obtain ⟨o2,t2⟩:=z;rw [e2] at e
      try dsimp only at e
      refine ⟨o2,t2,e2,?_⟩
      cases o2 with
      | next=>exact ⟨o,t',e,p⟩
      | cont=>exact ⟨o,t',e,p⟩
      | brk=>cases e;exact p
      | ret x=>cases e;exact p
 ·rintro ⟨u,t1,e1,o,t2,e2,p⟩
  cases o with
  | next=>obtain ⟨o,t',e',p⟩:=p;exact ⟨o,t',by unfold Bm;simp only [e1,e2];exact e',p⟩
  | cont=>obtain ⟨o,t',e',p⟩:=p;exact ⟨o,t',by unfold Bm;simp only [e1,e2];exact e',p⟩
  | brk=>exact ⟨_,_,by unfold Bm;simp only [e1,e2],p⟩
  | ret x=>exact ⟨_,_,by unfold Bm;simp only [e1,e2],p⟩
theorem En {st:D->M Unit}{b:M Out}{P:Out->T->Prop}(I:List D->T->Prop):∀(ds:List D) (t:T),I ds t->
 (∀d r t,I (d :: r) t->d∈ds->W (st d) t λ_ t1=>W b t1 λo t2=>match o with
   | .next=>I r t2
   | .cont=>I r t2
   | .brk=>P .next t2
   | .ret x=>P (.ret x) t2)->(∀t,I [] t->P .next t)->W (Bm st b ds) t P
 | [],t,h,_,fin=>W_forL_nil.mpr (fin t h)
 | d :: r,t,h,turn,fin=>by
   rw [CA];refine (turn d r t h List.mem_cons_self).mono λ_ t1 h1=>h1.mono λo t2 h2=>?_
   cases o with
   | next=>exact En I r t2 h2 (λd' r' t' h' m=>turn d' r' t' h' (List.mem_cons_of_mem _ m)) fin
   | cont=>exact En I r t2 h2 (λd' r' t' h' m=>turn d' r' t' h' (List.mem_cons_of_mem _ m)) fin
   | brk=>exact h2
   | ret x=>exact h2
@[simp] theorem W_fComp {n:Nat} {fr:List Nat} {f:M (List D)} {st:D->M Unit} {tst:M Bool} {elt:M D} {P:List D->T->Prop}:W (AB n fr f st tst elt) t P↔W f t λds t1=>W (AX st tst elt ds) ⟨cenv n fr t1.env,t1.S⟩ λxs t'=>xs.length<=LIM/\P xs ⟨t1.env,t'.S⟩:=by
 unfold AB;rw [W_bnd];constructor
 ·rintro ⟨ds,t1,e1,xs,t',e2,p⟩;refine ⟨ds,t1,e1,?_⟩;dsimp only at e2
  cases e:AX st tst elt ds ⟨cenv n fr t1.env,t1.S⟩ with
  | none=>rw [e] at e2;cases e2
  | some z=>
    obtain ⟨ys,t3⟩:=z;rw [e] at e2;dsimp only at e2
    split at e2
    ·cases e2;exact ⟨_,_,e,by assumption,p⟩
    ·cases e2
 ·rintro ⟨ds,t1,e1,xs,t',e2,h,p⟩;exact ⟨ds,t1,e1,xs,_,by simp only [e2,h,if_true],p⟩
@[simp] theorem W_compL_nil {st:D->M Unit} {tst:M Bool} {elt:M D} {P:List D->T->Prop}:W (AX st tst elt []) t P↔P [] t:=Au rfl
theorem BS {st:D->M Unit}{tst:M Bool}{elt:M D}{d:D}{r:List D}{P:List D->T->Prop}:W (AX st tst elt (d :: r)) t P↔W (st d) t λ_ t1=>W tst t1 λk t2=>
 if k=true then W elt t2 λx t3=>W (AX st tst elt r) t3 λxs t4=>P (x :: xs) t4 else W (AX st tst elt r) t2 P:=by
 rw [AX];simp
theorem HY {st:D->M Unit}{tst:M Bool}{elt:M D}{P:List D->T->Prop}(I:List D->List D->T->Prop):∀(ds:List D) (acc:List D) (t:T),I acc ds t->
 (∀acc d r t,I acc (d :: r) t->d∈ds->W (st d) t λ_ t1=>W tst t1 λk t2=>if k=true then W elt t2 λx t3=>I (acc++[x]) r t3 else I acc r t2)->
 (∀acc t,I acc [] t->P acc t)->W (AX st tst elt ds) t λxs t'=>P (acc++xs) t'
 | [],acc,t,h,_,fin=>W_compL_nil.mpr (by rw [List.append_nil];exact fin acc t h)
 | d :: r,acc,t,h,turn,fin=>by
   rw [BS];have turn':∀acc d' r' t',I acc (d' :: r') t'->d'∈r->_:=λacc d' r' t' h' m=>turn acc d' r' t' h' (List.mem_cons_of_mem _ m);refine (turn acc d r t h List.mem_cons_self).mono λ_ t1 h1=>h1.mono λk t2 h2=>?_
   cases k with
   | true=>
     rw [if_pos rfl] at h2 ⊢;refine h2.mono λx t3 h3=>(HY I r (acc++[x]) t3 h3 turn' fin).mono λxs t4 h4=>?_;rw [List.append_assoc] at h4;exact h4
   | false=>
     rw [if_neg Bool.false_ne_true] at h2 ⊢;exact HY I r acc t2 h2 turn' fin
theorem Ap {n m:Nat}{g:M Out}{ds:List D}{P:D->List Ob->Prop}(h:ds.length=n)(w:W g ⟨env0 m ds,S⟩ λo t=>match o with
 | .ret r=>P r t.S
 | .next=>P .non t.S
 | _=>False):Wf (fnOf n m g) ds S P:=by
 obtain ⟨o,t,e,p⟩:=w
 cases o with
 | ret r=>exact ⟨r,t.S,by unfold fnOf;rw [if_pos h,e],p⟩
 | next=>exact ⟨.non,t.S,by unfold fnOf;rw [if_pos h,e],p⟩
 | brk=>exact p.elim
 | cont=>exact p.elim
@[simp] theorem W_tTru {P:Bool->T->Prop}:W Bq t P↔P true t:=Au rfl
@[simp] theorem W_fDic {P:D->T->Prop}:W Hy t P↔P .dic t:=Au rfl
end F2
namespace F2
open PySem L2
variable {t:T}{P:D->T->Prop}
theorem HZ {α β:Type}{o:Option β}{g:β->α×T}{Q:α->T->Prop}{m:M α}(e:m t=o.map g):W m t Q↔∃b,o=some b/\Q (g b).1 (g b).2:=by
 constructor
 ·rintro ⟨a,t',e',p⟩;rw [e] at e';obtain ⟨b,h1,h2⟩:=Option.map_eq_some_iff.mp e';exact ⟨b,h1,by rw [h2];exact p⟩
 ·rintro ⟨b,h,p⟩;exact ⟨_,_,by rw [e,h];rfl,p⟩
theorem MP {α:Type}{c:Prop}[Decidable c]{z:α×T}{Q:α->T->Prop}{m:M α}(e:m t=if c then some z else none):W m t Q↔c/\Q z.1 z.2:=by
 constructor
 ·rintro ⟨a,t',e',p⟩;rw [e] at e'
  split at e'
  ·cases e';exact ⟨by assumption,p⟩
  ·cases e'
 ·rintro ⟨h,p⟩;exact ⟨_,_,by rw [e,if_pos h],p⟩
theorem Kk {α β:Type}{o:Option β}(f:β->α){Q:α->T->Prop}{m:M α}(e:m t=o.map λb=>(f b,t)):W m t Q↔∃b,o=some b/\Q (f b) t:=HZ (g:=λb=>(f b,t)) e
theorem GQ {α:Type}{c:Prop}[Decidable c]{a:α}{Q:α->T->Prop}{m:M α}(e:m t=if c then some (a,t) else none):W m t Q↔c/\Q a t:=MP (z:=(a,t)) e
@[simp] theorem W_ix_tup {ds:List D} {i:Int}:W (ixD (.tup ds) (.int i)) t P↔∃d,atI ds i=some d/\P d t:=Kk id rfl
@[simp] theorem W_ix_lst {ds:List D} {i:Int}:W (ixD (.lst ds) (.int i)) t P↔∃d,atI ds i=some d/\P d t:=Kk id rfl
@[simp] theorem W_ix_scr {ns:List Int} {i:Int}:W (ixD (.scr ns) (.int i)) t P↔∃n,atI ns i=some n/\P (.int n) t:=Kk D.int rfl
@[simp] theorem W_ix_str {x:Str} {i:Int}:W (ixD (.str x) (.int i)) t P↔x.length<=LIM/\∃n,atI x.cps.toList i=some n/\P (.str ⟨#[n]⟩) t:=by
 by_cases h:x.length<=LIM
 ·have:ixD (.str x) (.int i) t=(atI x.cps.toList i).map λn=>(.str ⟨#[n]⟩,t):=by simp only [ixD,h,if_true]
  rw [HZ this];simp [h]
 ·rw [Dt (by simp only [ixD,h,if_false])];simp [h]
@[simp] theorem W_ix_obj {k:Nat} {i:Int}:W (ixD (.obj k) (.int i)) t P↔∃ds,t.S[k]?=some (.lst ds)/\∃d,atI ds i=some d/\P d t:=by
 cases e:t.S[k]? with
 | none=>rw [Dt (by simp only [ixD,e])];simp
 | some o=>
   cases o with
   | dct _ | ins _ _=>rw [Dt (by simp only [ixD,e])];simp
   | lst ds=>
     have:ixD (.obj k) (.int i) t=(atI ds i).map λd=>(d,t):=by simp only [ixD,e]
     rw [HZ this];simp
@[simp] theorem MR {α:Type} {a:α} {r:List α}:atI (a :: r) 0=some a:=by simp [atI,ixN]
@[simp] theorem RW {α:Type} {a b:α} {r:List α}:atI (a :: b :: r) 1=some b:=by
 have:(1:Int) < ((a :: b :: r).length:Nat):=by simp;lia
 simp only [atI,ixN,this,if_true,show (0:Int)<=1 by decide];rfl
@[simp] theorem RY {α:Type} {a b c:α} {r:List α}:atI (a :: b :: c :: r) 2=some c:=by
 have:(2:Int) < ((a :: b :: c :: r).length:Nat):=by simp;lia
 simp only [atI,ixN,this,if_true,show (0:Int)<=2 by decide];rfl
theorem IS {α:Type}{xs:List α}{i:Int}(h0:0<=i)(h1:i < xs.length):∃d,atI xs i=some d/\d∈xs/\xs[i.toNat]?=some d:=by
 have hl:i.toNat < xs.length:=by lia
 refine ⟨xs[i.toNat],?_,List.getElem_mem hl,List.getElem?_eq_getElem hl⟩;simp [atI,ixN,h0,h1,hl]
@[simp] theorem W_len_lst {ds:List D}:W (AA [.lst ds]) t P↔P (.int ds.length) t:=Au rfl
@[simp] theorem W_len_tup {ds:List D}:W (AA [.tup ds]) t P↔P (.int ds.length) t:=Au rfl
@[simp] theorem W_len_scr {ds:List Int}:W (AA [.scr ds]) t P↔P (.int ds.length) t:=Au rfl
@[simp] theorem W_len_str {x:Str}:W (AA [.str x]) t P↔x.length<=LIM/\P (.int x.length) t:=by simp [AA]
@[simp] theorem W_isi {d:D} {m:String}:W (AI [d,.ty m]) t P↔∃n,tyD d=some n/\∃b,Dh n m=some b/\P (.bl b) t:=by
 cases e:tyD d with
 | none=>rw [Dt (by simp only [AI,e])];simp
 | some n=>
   have:AI [d,.ty m] t=(Dh n m).map λb=>(.bl b,t):=by simp only [AI,e]
   rw [HZ this];simp
noncomputable def GZ:D->Bool
 | .non=>true
 | _=>false
noncomputable def Y8 (b:Bool):D->Bool
 | .bl c=>c == b
 | _=>false
@[simp] theorem W_is_non {x:D}:W (isC x .non) t P↔P (.bl (GZ x)) t:=Au (by cases x <;> rfl)
@[simp] theorem Z6 {x:D} {b:Bool}:W (isC x (.bl b)) t P↔P (.bl (Y8 b x)) t:=Au (by cases x <;> rfl)
@[simp] theorem Z5 {x y:D}:W (OE x y) t P↔W (isC x y) t λd t1=>W (toB d) t1 λb t2=>P (.bl (!b)) t2:=by
 unfold OE;rw [W_bnd];constructor
 ·exact λh=>h.mono λd t1 h1=>by
   cases d with
   | bl b=>simpa using h1
   | _=>exact (W_fail.mp h1).elim
 ·exact λh=>h.mono λd t1 h1=>by
   cases d with
   | bl b=>simpa using h1
   | _=>obtain ⟨_,_,e,_⟩:=h1;cases e
@[simp] theorem W_add_int {i j:Int}:W (Aq (.int i) (.int j)) t P↔P (.int (i + j)) t:=Au rfl
@[simp] theorem W_sub_int {i j:Int}:W (BG (.int i) (.int j)) t P↔P (.int (i - j)) t:=Au rfl
@[simp] theorem W_lt_int {i j:Int}:W (ltA (.int i) (.int j)) t P↔P (.bl (decide (i < j))) t:=Au rfl
@[simp] theorem W_le_int {i j:Int}:W (leA (.int i) (.int j)) t P↔P (.bl (decide (i<=j))) t:=Au rfl
@[simp] theorem W_gt_int {i j:Int}:W (gtA (.int i) (.int j)) t P↔P (.bl (decide (j < i))) t:=Au rfl
@[simp] theorem W_ge_int {i j:Int}:W (geA (.int i) (.int j)) t P↔P (.bl (decide (j<=i))) t:=Au rfl
@[simp] theorem YV {i j:Str}:W (ltA (.str i) (.str j)) t P↔P (.bl (decide (i.cps.toList < j.cps.toList))) t:=Au rfl
@[simp] theorem YT {i j:Str}:W (gtA (.str i) (.str j)) t P↔P (.bl (decide (j.cps.toList < i.cps.toList))) t:=Au rfl
@[simp] theorem W_neg {i:Int}:W (Gz (.int i)) t P↔P (.int (-i)) t:=Au rfl
@[simp] theorem W_fdiv {i j:Int}:W (Ep (.int i) (.int j)) t P↔(0 < j/\j < 1073741824)/\P (.int (i / j)) t:=by
 rw [MP (m:=Ep (.int i) (.int j)) (c:=J2 i j=true) (z:=(.int (i / j),t)) rfl];simp [J2]
@[simp] theorem W_mod {i j:Int}:W (C5 (.int i) (.int j)) t P↔0 < j/\P (.int (i % j)) t:=by
 rw [MP (m:=C5 (.int i) (.int j)) (c:=decide (0 < j)=true) (z:=(.int (i % j),t)) rfl];simp
@[simp] theorem W_pow {i j:Int}:W (GH (.int i) (.int j)) t P↔J5 i j=true/\P (.int (i ^ j.toNat)) t:=GQ rfl
@[simp] theorem W_mul_int {i j:Int}:W (ER (.int i) (.int j)) t P↔FT i j=true/\P (.int (i * j)) t:=GQ rfl
theorem CW {i j:Int}(h1 : -18446744073709551616 < i)(h2:i < 18446744073709551616):FT i j=true:=by simp [FT,h1,h2]
theorem Dm {k:Int}(h1 : -4611686018427387904<=k)(h2:k < 4611686018427387904):BL k=true:=by simp [BL,h1,h2]
@[simp] theorem W_add_str {x y:Str}:W (Aq (.str x) (.str y)) t P↔x.length + y.length<=LIM/\P (.str (x++y)) t:=by
 have:Aq (.str x) (.str y)=lim (x.length + y.length) (.str (x++y)):=rfl;rw [this];simp
@[simp] theorem W_add_lst {x y:List D}:W (Aq (.lst x) (.lst y)) t P↔x.length + y.length<=LIM/\P (.lst (x++y)) t:=by
 have:Aq (.lst x) (.lst y)=lim (x.length + y.length) (.lst (x++y)):=rfl;rw [this];simp
@[simp] theorem W_add_tup {d:D} {x y:List D}:W (Aq (.tup (d :: x)) (.tup y)) t P↔x.length + 1 + y.length<=LIM/\P (.tup (d :: x++y)) t:=by
 have:Aq (.tup (d :: x)) (.tup y) t=if (d :: x).isEmpty=false/\(d :: x).length + y.length<=LIM then some (.tup (d :: x++y),t) else none:=rfl;rw [MP this];simp
@[simp] theorem W_add_tup0 {y:List D}:W (Aq (.tup []) (.tup y)) t P↔P (.tup y) t:=Au rfl
@[simp] theorem W_cat {x y:List D} {Q:List D->T->Prop}:W (Hv (.lst x) (.lst y)) t Q↔x.length + y.length<=LIM/\Q (x++y) t:=by
 have:Hv (.lst x) (.lst y)=lim (x.length + y.length) (x++y):=rfl;rw [this];simp
@[simp] theorem ai {i:Int}:W (YY [.int i]) t P↔P (.int (if i < 0 then -i else i)) t:=Au rfl
@[simp] theorem W_min {i j:Int}:W (El [.int i,.int j]) t P↔P (.int (if j < i then j else i)) t:=Au rfl
@[simp] theorem ak {i j:Int}:W (Zb [.int i,.int j]) t P↔P (.int (if j > i then j else i)) t:=Au rfl
@[simp] theorem YN {i:Int}:W (FP [.int i]) t P↔P (.int i) t:=Au rfl
@[simp] theorem W_int_bl {b:Bool}:W (FP [.bl b]) t P↔P (.int (if b then 1 else 0)) t:=Au rfl
@[simp] theorem W_ord {x:Str}:W (Fj [.str x]) t P↔x.length=1/\P (.int (x.cps.getD 0 0:Nat)) t:=GQ rfl
@[simp] theorem W_tup_lst {ds:List D}:W (Ju [.lst ds]) t P↔P (.tup ds) t:=Au rfl
@[simp] theorem W_lst_lst {ds:List D} {Q:List D->T->Prop}:W (Ei [.lst ds]) t Q↔Q ds t:=Au rfl
@[simp] theorem W_lst_tup {ds:List D} {Q:List D->T->Prop}:W (Ei [.tup ds]) t Q↔Q ds t:=Au rfl
@[simp] theorem W_eq_str {g:Bool->Bool} {x y:Str}:W (eqS g (.str x) (.str y)) t P↔P (.bl (g (x == y))) t:=Au rfl
@[simp] theorem W_eq_int {g:Bool->Bool} {x y:Int}:W (eqS g (.int x) (.int y)) t P↔P (.bl (g (x == y))) t:=Au rfl
@[simp] theorem W_eq_bl {g:Bool->Bool} {x y:Bool}:W (eqS g (.bl x) (.bl y)) t P↔P (.bl (g (x == y))) t:=Au rfl
@[simp] theorem W_eq_nil {g:Bool->Bool} {x:List D}:W (eqS g (.lst x) (.lst [])) t P↔P (.bl (g x.isEmpty)) t:=by
 refine Au ?_
 cases x <;> rfl
theorem GA {a b:String}:Str.ofString a=Str.ofString b↔a=b:=by
 constructor
 ·intro h;rw [Str.ofString_eq_toList,Str.ofString_eq_toList] at h;injection h with h
  have h:=congrArg Array.toList h;simp only at h;have hinj:∀xs ys:List Char,xs.map Char.toNat=ys.map Char.toNat->xs=ys:=by
   intro xs
   induction xs with
   | nil=>intro ys h;cases ys with | nil=>rfl | cons _ _=>simp at h
   | cons x xs ih=>
     intro ys h
     cases ys with
     | nil=>simp at h
     | cons y ys=>
       simp only [List.map_cons,List.cons.injEq] at h;rw [ih ys h.2,Char.toNat_inj.mp h.1]
  exact String.toList_inj.mp (hinj _ _ (by simpa using h))
 ·exact λh=>by rw [h]
@[simp] theorem Wj {a b:String}:(Str.ofString a == Str.ofString b)=(a == b):=by
 rw [Bool.eq_iff_iff,beq_iff_eq,beq_iff_eq,GA]
@[simp] theorem W_sl_lst {ds:List D} {lo hi:Option Int}:W (Bf (.lst ds) lo hi) t P↔P (.lst (A7 ds lo hi)) t:=Au rfl
@[simp] theorem YW {ds:List Int} {lo hi:Option Int}:W (Bf (.scr ds) lo hi) t P↔P (.lst ((A7 ds lo hi).map .int)) t:=Au rfl
@[simp] theorem YX {x:Str} {lo hi:Option Int}:W (Bf (.str x) lo hi) t P↔x.length<=LIM/\P (.str (Txt.slice x lo hi)) t:=by
 have:Bf (.str x) lo hi=lim x.length (.str (Txt.slice x lo hi)):=rfl;rw [this];simp
@[simp] theorem W_sl_tup {ds:List D} {lo hi:Option Int}:W (Bf (.tup ds) lo hi) t P↔P (.tup (A7 ds lo hi)) t:=Au rfl
@[simp] theorem W_fSl {f:M D} {l u:M (Option Int)} {h:D->Option Int->Option Int->M D}:W (fSl f l u h) t P↔W f t λx t1=>W l t1 λlo t2=>W u t2 λhi t3=>W (h x lo hi) t3 P:=by simp [fSl]
@[simp] theorem W_fNo {Q:Option Int->T->Prop}:W fNo t Q↔Q none t:=Au rfl
@[simp] theorem W_asI {i:Int} {Q:Option Int->T->Prop}:W (asI (.int i)) t Q↔Q (some i) t:=Au rfl
@[simp] theorem W_fPart {f:M D} {Q:Option Int->T->Prop}:W (Bg f) t Q↔W f t λx t1=>W (asI x) t1 Q:=by simp [Bg]
@[simp] theorem W_fItA {f:M D} {Q:List D->T->Prop}:W (BT f) t Q↔W f t λx t1=>W (Dc x) t1 Q:=by simp [BT]
@[simp] theorem W_it_lst {ds:List D} {Q:List D->T->Prop}:W (Dc (.lst ds)) t Q↔Q ds t:=Au rfl
@[simp] theorem W_it_tup {ds:List D} {Q:List D->T->Prop}:W (Dc (.tup ds)) t Q↔Q ds t:=Au rfl
@[simp] theorem YU {ds:List Int} {Q:List D->T->Prop}:W (Dc (.scr ds)) t Q↔Q (ds.map .int) t:=Au rfl
@[simp] theorem W_it_str {x:Str} {Q:List D->T->Prop}:W (Dc (.str x)) t Q↔Q (x.cps.toList.map λc=>.str ⟨#[c]⟩) t:=Au rfl
@[simp] theorem W_fRng1 {f:M (List D)} {Q:List D->T->Prop}:W (BZ f) t Q↔W f t λx t1=>W (Jn x) t1 Q:=by simp [BZ]
@[simp] theorem W_fRng2 {f:M (List D)} {Q:List D->T->Prop}:W (E7 f) t Q↔W f t λx t1=>W (Jo x) t1 Q:=by simp [E7]
@[simp] theorem W_rng1 {j:Int} {Q:List D->T->Prop}:W (Jn [.int j]) t Q↔BL j=true/\Q (AT 0 j.toNat) t:=GQ rfl
@[simp] theorem W_rng2 {i j:Int} {Q:List D->T->Prop}:W (Jo [.int i,.int j]) t Q↔(BL i && BL j)=true/\Q (AT i (j - i).toNat) t:=GQ rfl
@[simp] theorem W_in_lst {neg:Bool} {x:D} {ds:List D}:W (inD neg x (.lst ds)) t P↔(E8 x=true/\ds.all E8=true)/\P (.bl (if neg then !inV (toV x) (ds.map toV) else inV (toV x) (ds.map toV))) t:=GQ rfl
@[simp] theorem W_ownM {i:Nat} {h:List D->List D->Option (List D)} {g:M (List D)} {Q:Out->T->Prop}:W (ownM i h g) t Q↔(∃xs,t.env[i]?=some (some (.own xs)))/\W g t λds t1=>∃xs,t1.env[i]?=some (some (.own xs))/\∃ys,h xs ds=some ys/\Q .next ⟨t1.env.set i (some (.own ys)),t1.S⟩:=by
 constructor
 ·rintro ⟨o,t',e,p⟩;unfold ownM at e
  split at e
  ·next xs e0=>
   refine ⟨⟨xs,e0⟩,?_⟩;obtain ⟨ds,t1,e1,e⟩:=Af e;refine ⟨ds,t1,e1,?_⟩
   split at e
   ·next ys e2=>
    obtain ⟨zs,e3,e4⟩:=Option.map_eq_some_iff.mp e
    cases e4
    exact ⟨ys,e2,zs,e3,p⟩
   ·cases e
  ·cases e
 ·rintro ⟨⟨xs,e0⟩,ds,t1,e1,ys,e2,zs,e3,p⟩;exact ⟨_,_,by unfold ownM bnd;simp only [e0,e1,e2,e3,Option.map_some],p⟩
@[simp] theorem app1_one {xs:List D} {d:D} {ys:List D}:B1 xs [d]=some ys↔xs.length < LIM/\xs++[d]=ys:=by
 unfold B1;split <;> simp [*]
@[simp] theorem W_stD {f g:M D} {d:D} {Q:Unit->T->Prop}:W (stD f g d) t Q↔W f t λo t1=>W g t1 λi t2=>W (Fk o i d) t2 Q:=by simp [stD]
@[simp] theorem W_stOb {k:Nat} {j:Int} {d:D} {Q:Unit->T->Prop}:W (Fk (.obj k) (.int j) d) t Q↔∃xs,t.S[k]?=some (.lst xs)/\∃n,ixN xs.length j=some n/\Q () ⟨t.env,t.S.set k (.lst (xs.set n d))⟩:=by
 cases e:t.S[k]? with
 | none=>rw [Dt (by simp only [Fk,e])];simp
 | some o=>
   cases o with
   | dct _ | ins _ _=>rw [Dt (by simp only [Fk,e])];simp
   | lst ds=>
     have:Fk (.obj k) (.int j) d t=(ixN ds.length j).map λn=>((),{ t with S:=t.S.set k (.lst (ds.set n d)) }):=by simp only [Fk,e]
     rw [HZ this];simp
end F2
namespace F2
open PySem L2
variable {t:T}{P:D->T->Prop}{Q:List D->T->Prop}{R:Out->T->Prop}{B:Bool->T->Prop}{U:Unit->T->Prop}
def DT (k:Bool)(A B:Prop):Prop:=if k=true then A else B
theorem DB {k:Bool}{A B:Prop}(h:k=true)(a:A):DT k A B:=by unfold DT;rw [if_pos h];exact a
theorem C3 {k:Bool}{A B:Prop}(h:k=false)(b:B):DT k A B:=by unfold DT;rw [if_neg (by rw [h];exact Bool.false_ne_true)];exact b
theorem BX {k:Bool}{A B:Prop}(a:k=true->A)(b:k=false->B):DT k A B:=by cases h:k with
 | true=>exact DB rfl (a h)
 | false=>exact C3 rfl (b h)
def HJ (g:M Out)(R:Out->T->Prop)(o:Out)(t1:T):Prop:=match o with
 | .next=>W g t1 R
 | o=>R o t1
variable {t1:T}
theorem Cn {g:M Out}(h:W g t1 R):HJ g R .next t1:=h
theorem Lu {g:M Out}{d:D}(h:R (.ret d) t1):HJ g R (.ret d) t1:=h
theorem ZV {f g:M Out}(h:W f t (HJ g R)):W (Ae f g) t R:=W_seqS.mpr (h.mono λo t1 h1=>by cases o <;> exact h1)
theorem YE (h:R .next t):W An t R:=W_skipS.mpr h
variable {f:M D}
theorem ZU (h:W f t λd t1=>R (.ret d) t1):W (Am f) t R:=W_retS.mpr h
theorem Yl (h:W f t λd t1=>R .next t1):W (Eo f) t R:=W_dropS.mpr h
theorem wIf {f:M Bool}{g h:M Out}(w:W f t λk t1=>DT k (W g t1 R) (W h t1 R)):W (ifS f g h) t R:=W_ifS.mpr w
theorem ZW {i:Nat}(h:W f t λd t1=>R .next ⟨t1.env.set i (some (.val d)),t1.S⟩):W (Ao i f) t R:=W_setS.mpr h
theorem ZR {i:Nat}{f:M (List D)}(h:W f t λd t1=>R .next ⟨t1.env.set i (some (.own d)),t1.S⟩):W (D2 i f) t R:=W_ownS.mpr h
theorem Zp {g:D->M Unit}(h:W f t λd t1=>W (g d) t1 λ_ t2=>R .next t2):W (Cd f g) t R:=W_asgS.mpr h
theorem Zw {f:M (List D)}{st:D->M Unit}{b:M Out}(h:W f t λds t1=>W (Bm st b ds) t1 R):W (BD f st b) t R:=W_forS.mpr h
theorem wC {d:D}(h:P d t):W (fC d) t P:=W_fC.mpr h
theorem Fm {i:Nat}{d:D}(e:t.env[i]?=some (some (.val d)))(h:P d t):W (Ab i) t P:=by rw [NW,e];exact h
variable {ds:List D}
theorem YJ {i:Nat}(e:t.env[i]?=some (some (.own ds)))(h:P (.lst ds) ⟨t.env.set i (some (.val (.lst ds))),t.S⟩):W (Ab i) t P:=by rw [NW,e];exact h
variable {g:M D}
theorem Jv {h:D->D->M D}(w:W f t λx t1=>W g t1 λy t2=>W (h x y) t2 P):W (Ac f g h) t P:=W_fBin.mpr w
theorem wUn {h:D->M D}(w:W f t λx t1=>W (h x) t1 P):W (fUn f h) t P:=W_fUn.mpr w
theorem DK {α β:Type}{f:M α}{g:α->M β}{K:β->T->Prop}(w:W f t λx t1=>W (g x) t1 K):W (bnd f g) t K:=W_bnd.mpr w
theorem NJ {b:Bool}(h:B b t):W (toB (.bl b)) t B:=W_toB.mpr h
theorem NK (h:W f t λx t1=>W (toB x) t1 B):W (Aj f) t B:=W_fTst.mpr h
theorem Xj {w:M D}{h h':D->D->M D}(q:W f t λx t1=>W g t1 λy t2=>W (h x y) t2 λk t3=>W (toB k) t3 λk t4=>DT k (W w t4 λz t5=>W (h' y z) t5 P) (P (.bl false) t4)):W (Bw f g w h h') t P:=W_fChain.mpr q
theorem Zm {f g:M Bool}(h:W f t λk t1=>DT k (W g t1 B) (B false t1)):W (Hx f g) t B:=W_fAnd.mpr h
theorem wOr {f g:M Bool}(h:W f t λk t1=>DT k (B true t1) (W g t1 B)):W (fOr f g) t B:=W_fOr.mpr h
theorem ZP {f:M Bool}(h:W f t λk t1=>B (!k) t1):W (AS f) t B:=W_fNot.mpr h
theorem Yh (h:W f t λx t1=>W (toB x) t1 λk t2=>DT k (W g t2 P) (P (.bl false) t2)):W (CH f g) t P:=W_fAndV.mpr h
theorem Rz (h:W f t λx t1=>W (toB x) t1 λk t2=>DT k (P (.bl true) t2) (W g t2 P)):W (I9 f g) t P:=W_fOrV.mpr h
theorem Yx (h:W f t λx t1=>W (toB x) t1 λk t2=>P (.bl (!k)) t2):W (E6 f) t P:=W_fNotV.mpr h
theorem ZA {f:M Bool}{h:M D}(w:W f t λk t1=>DT k (W g t1 P) (W h t1 P)):W (fIf f g h) t P:=W_fIf.mpr w
theorem LG (h:Q [] t):W Ad t Q:=W_fNil.mpr h
theorem F6 {g:M (List D)}(h:W f t λd t1=>W g t1 λds t2=>Q (d :: ds) t2):W (Aa f g) t Q:=W_fCons.mpr h
def FR (n:Nat)(A:Prop):Prop:=n<=LIM/\A
variable {n:Nat}
theorem AC {A:Prop}(h:n<=LIM)(a:A):FR n A:=⟨h,a⟩
theorem Z2 {f:M (List D)}(h:W f t λds t1=>FR ds.length (P (.tup ds) t1)):W (Az f) t P:=W_fTup.mpr h
theorem ZK {f:M (List D)}(h:W f t λds t1=>FR ds.length (Q ds t1)):W (As f) t Q:=W_fLst.mpr h
theorem YA {f:M (List D)}(h:W f t λds t1=>P (.lst ds) t1):W (Ak f) t P:=W_fPure.mpr h
theorem ZQ {f:M (List D)}(h:W f t λds t1=>P (.obj t1.S.length) ⟨t1.env,t1.S++[.lst ds]⟩):W (EH f) t P:=by rw [Vj];exact h.mono λds t1 h=>W_newOb.mpr h
theorem J7 {g:Fn}{f:M (List D)}(h:W f t λds t1=>Wf g ds t1.S λr S'=>P r ⟨t1.env,S'⟩):W (Ag g f) t P:=W_fCall.mpr h
theorem wB {f:M (List D)}{h:List D->M D}(w:W f t λds t1=>W (h ds) t1 P):W (fB f h) t P:=W_fB.mpr w
theorem wBF {f:M (List D)}{h:List D->M (List D)}(w:W f t λds t1=>W (h ds) t1 Q):W (fBF f h) t Q:=W_fBF.mpr w
theorem D6 {i:Nat}{d:D}(h:U () ⟨t.env.set i (some (.val d)),t.S⟩):W (Ar i d) t U:=W_putV.mpr h
theorem U0 (h:U () t):W (CU []) t U:=W_putNil.mpr h
theorem RB {f:D->M Unit}{g:List D->M Unit}{d:D}(h:W (f d) t λ_ t1=>W (g ds) t1 U):W (AL f g (d :: ds)) t U:=W_putCons.mpr h
theorem Z3 {g:List D->M Unit}(e:ds.length=n)(h:W (g ds) t U):W (unS n g (.tup ds)) t U:=W_unS_tup.mpr ⟨e,h⟩
theorem Yk {fr:List Nat}{f:M (List D)}{st:D->M Unit}{tst:M Bool}{elt:M D}(h:W f t λds t1=>W (AX st tst elt ds) ⟨cenv n fr t1.env,t1.S⟩ λxs t'=>FR xs.length (Q xs ⟨t1.env,t'.S⟩)):W (AB n fr f st tst elt) t Q:=W_fComp.mpr h
theorem GN (h:B true t):W Bq t B:=W_tTru.mpr h
theorem Zr (h:P .dic t):W Hy t P:=W_fDic.mpr h
variable {i:Int}
theorem GL {d:D}(e:atI ds i=some d)(h:P d t):W (ixD (.tup ds) (.int i)) t P:=W_ix_tup.mpr ⟨d,e,h⟩
theorem AH {d:D}(e:atI ds i=some d)(h:P d t):W (ixD (.lst ds) (.int i)) t P:=W_ix_lst.mpr ⟨d,e,h⟩
theorem SA (h:P (.int ds.length) t):W (AA [.lst ds]) t P:=W_len_lst.mpr h
theorem SC (h:P (.int ds.length) t):W (AA [.tup ds]) t P:=W_len_tup.mpr h
theorem Yu {ds:List Int}(h:P (.int ds.length) t):W (AA [.scr ds]) t P:=W_len_scr.mpr h
variable {x:Str}
theorem J8 (e:x.length<=LIM)(h:P (.int x.length) t):W (AA [.str x]) t P:=W_len_str.mpr ⟨e,h⟩
theorem ZD {d:D}{m n:String}{b:Bool}(e:tyD d=some n)(e':Dh n m=some b)(h:P (.bl b) t):W (AI [d,.ty m]) t P:=W_isi.mpr ⟨n,e,b,e',h⟩
theorem ZC {x:D}(h:P (.bl (GZ x)) t):W (isC x .non) t P:=W_is_non.mpr h
variable {j:Int}
theorem Ye (h:P (.int (i + j)) t):W (Aq (.int i) (.int j)) t P:=W_add_int.mpr h
theorem YG (h:P (.int (i - j)) t):W (BG (.int i) (.int j)) t P:=W_sub_int.mpr h
theorem ZM (h:P (.bl (decide (i < j))) t):W (ltA (.int i) (.int j)) t P:=W_lt_int.mpr h
theorem ZJ (h:P (.bl (decide (i<=j))) t):W (leA (.int i) (.int j)) t P:=W_le_int.mpr h
theorem Zy (h:P (.bl (decide (j < i))) t):W (gtA (.int i) (.int j)) t P:=W_gt_int.mpr h
theorem Zx (h:P (.bl (decide (j<=i))) t):W (geA (.int i) (.int j)) t P:=W_ge_int.mpr h
theorem ZO (h:P (.int (-i)) t):W (Gz (.int i)) t P:=W_neg.mpr h
theorem Xk (h1:0 < j)(h2:j < 1073741824)(h:P (.int (i / j)) t):W (Ep (.int i) (.int j)) t P:=W_fdiv.mpr ⟨⟨h1,h2⟩,h⟩
theorem NG (h1:0 < j)(h:P (.int (i % j)) t):W (C5 (.int i) (.int j)) t P:=W_mod.mpr ⟨h1,h⟩
theorem ZS (h1:J5 i j=true)(h:P (.int (i ^ j.toNat)) t):W (GH (.int i) (.int j)) t P:=W_pow.mpr ⟨h1,h⟩
theorem Ex (h1:FT i j=true)(h:P (.int (i * j)) t):W (ER (.int i) (.int j)) t P:=W_mul_int.mpr ⟨h1,h⟩
theorem Yg {y:Str}(h:FR (x.length + y.length) (P (.str (x++y)) t)):W (Aq (.str x) (.str y)) t P:=W_add_str.mpr h
variable {y:List D}
theorem Yf {x:List D}(h:FR (x.length + y.length) (P (.lst (x++y)) t)):W (Aq (.lst x) (.lst y)) t P:=W_add_lst.mpr h
theorem Sw {d:D}{x:List D}(h:FR (x.length + 1 + y.length) (P (.tup (d :: x++y)) t)):W (Aq (.tup (d :: x)) (.tup y)) t P:=W_add_tup.mpr h
theorem PN (h:P (.tup y) t):W (Aq (.tup []) (.tup y)) t P:=W_add_tup0.mpr h
theorem Zq {x:List D}(h:FR (x.length + y.length) (Q (x++y) t)):W (Hv (.lst x) (.lst y)) t Q:=W_cat.mpr h
theorem ZN (h:P (.int (if j < i then j else i)) t):W (El [.int i,.int j]) t P:=W_min.mpr h
theorem Yo {i:Bool}(h:P (.int (if i then 1 else 0)) t):W (FP [.bl i]) t P:=W_int_bl.mpr h
theorem LH (e:x.length=1)(h:P (.int (x.cps.getD 0 0:Nat)) t):W (Fj [.str x]) t P:=W_ord.mpr ⟨e,h⟩
theorem YH (h:P (.tup ds) t):W (Ju [.lst ds]) t P:=W_tup_lst.mpr h
theorem Yv (h:Q ds t):W (Ei [.lst ds]) t Q:=W_lst_lst.mpr h
theorem Yw (h:Q ds t):W (Ei [.tup ds]) t Q:=W_lst_tup.mpr h
theorem Rx {g:Bool->Bool}{y:Str}(h:P (.bl (g (x == y))) t):W (eqS g (.str x) (.str y)) t P:=W_eq_str.mpr h
theorem Xl {g:Bool->Bool}{x y:Int}(h:P (.bl (g (x == y))) t):W (eqS g (.int x) (.int y)) t P:=W_eq_int.mpr h
theorem Zt {g:Bool->Bool}{x y:Bool}(h:P (.bl (g (x == y))) t):W (eqS g (.bl x) (.bl y)) t P:=W_eq_bl.mpr h
theorem Xm {g:Bool->Bool}{x:List D}(h:P (.bl (g x.isEmpty)) t):W (eqS g (.lst x) (.lst [])) t P:=W_eq_nil.mpr h
theorem ZY {lo hi:Option Int}(h:P (.lst (A7 ds lo hi)) t):W (Bf (.lst ds) lo hi) t P:=W_sl_lst.mpr h
theorem ZZ {lo hi:Option Int}(h:P (.tup (A7 ds lo hi)) t):W (Bf (.tup ds) lo hi) t P:=W_sl_tup.mpr h
theorem wSl {l u:M (Option Int)}{h:D->Option Int->Option Int->M D}(w:W f t λx t1=>W l t1 λlo t2=>W u t2 λhi t3=>W (h x lo hi) t3 P):W (fSl f l u h) t P:=W_fSl.mpr w
variable {K:Option Int->T->Prop}
theorem wNo (h:K none t):W fNo t K:=W_fNo.mpr h
theorem Zo (h:K (some i) t):W (asI (.int i)) t K:=W_asI.mpr h
theorem Yz (h:W f t λx t1=>W (asI x) t1 K):W (Bg f) t K:=W_fPart.mpr h
theorem ZE (h:W f t λx t1=>W (Dc x) t1 Q):W (BT f) t Q:=W_fItA.mpr h
theorem ZF (h:Q ds t):W (Dc (.lst ds)) t Q:=W_it_lst.mpr h
theorem ZH (h:Q ds t):W (Dc (.tup ds)) t Q:=W_it_tup.mpr h
theorem ZG (h:Q (x.cps.toList.map λc=>.str ⟨#[c]⟩) t):W (Dc (.str x)) t Q:=W_it_str.mpr h
theorem YB {f:M (List D)}(h:W f t λx t1=>W (Jn x) t1 Q):W (BZ f) t Q:=W_fRng1.mpr h
theorem YC {f:M (List D)}(h:W f t λx t1=>W (Jo x) t1 Q):W (E7 f) t Q:=W_fRng2.mpr h
theorem Fl (e:BL j=true)(h:Q (AT 0 j.toNat) t):W (Jn [.int j]) t Q:=W_rng1.mpr ⟨e,h⟩
theorem RC (e:(BL i && BL j)=true)(h:Q (AT i (j - i).toNat) t):W (Jo [.int i,.int j]) t Q:=W_rng2.mpr ⟨e,h⟩
theorem ZB {neg:Bool}{x:D}(e:E8 x=true/\ds.all E8=true)(h:P (.bl (if neg then !inV (toV x) (ds.map toV) else inV (toV x) (ds.map toV))) t):W (inD neg x (.lst ds)) t P:=W_in_lst.mpr ⟨e,h⟩
variable {xs:List D}
theorem Yy {i:Nat}{h:List D->List D->Option (List D)}{g:M (List D)}(e:t.env[i]?=some (some (.own xs)))(w:W g t λds t1=>∃xs,t1.env[i]?=some (some (.own xs))/\∃ys,h xs ds=some ys/\R .next ⟨t1.env.set i (some (.own ys)),t1.S⟩):W (ownM i h g) t R:=W_ownM.mpr ⟨⟨xs,e⟩,w⟩
theorem Zn {i:Nat}{d:D}{A:List D->Prop}(e:t1.env[i]?=some (some (.own xs)))(w:FR (xs.length + 1) (A (xs++[d]))):∃xs,t1.env[i]?=some (some (.own xs))/\∃ys,B1 xs [d]=some ys/\A ys:=
 ⟨xs,e,_,app1_one.mpr ⟨w.1,rfl⟩,w.2⟩
theorem Z0 {d:D}(h:W f t λo t1=>W g t1 λi t2=>W (Fk o i d) t2 U):W (stD f g d) t U:=W_stD.mpr h
theorem YF {k:Nat}{d:D}(e:t.S[k]?=some (.lst xs))(e':ixN xs.length j=some n)(h:U () ⟨t.env,t.S.set k (.lst (xs.set n d))⟩):W (Fk (.obj k) (.int j) d) t U:=W_stOb.mpr ⟨xs,e,n,e',h⟩
end F2
namespace F2
open PySem L2
variable {i:Nat}{g:Bool->Bool}
section
variable {t:T}{P:D->T->Prop}{B:Bool->T->Prop}{Q:List D->T->Prop}
theorem YI {n:Int}{ds:List D}{d:D}(e:t.env[i]?=some (some (.val (.tup ds))))(a:atI ds n=some d)(h:P d t):W (Ac (Ab i) (fC (.int n)) ixD) t P:=Jv (Fm e (wC (GL a h)))
theorem Yt {x y:Str}{ds:List D}(e:t.env[i]?=some (some (.val (.tup (.str y :: ds)))))(h:B (g (y == x)) t):W (Aj (Ac (Ac (Ab i) (fC (.int 0)) ixD) (fC (.str x)) (eqS g))) t B:=NK (Jv (Jv (Fm e (wC (GL MR (wC (Rx (NJ h))))))))
theorem Xr {x y:Str}(e:t.env[i]?=some (some (.val (.str y))))(h:B (g (y == x)) t):W (Aj (Ac (Ab i) (fC (.str x)) (eqS g))) t B:=NK (Jv (Fm e (wC (Rx (NJ h)))))
theorem Xq {x y:Int}(e:t.env[i]?=some (some (.val (.int y))))(h:B (g (y == x)) t):W (Aj (Ac (Ab i) (fC (.int x)) (eqS g))) t B:=NK (Jv (Fm e (wC (Xl (NJ h)))))
theorem UX {g:Fn}{d:D}(e:t.env[i]?=some (some (.val d)))(h:Wf g [d] t.S λr S'=>P r ⟨t.env,S'⟩):W (Ag g (Aa (Ab i) Ad)) t P:=J7 (F6 (Fm e (LG h)))
theorem UY {g:Fn}{j:Nat}{d d':D}(e:t.env[i]?=some (some (.val d)))(e':t.env[j]?=some (some (.val d')))(h:Wf g [d,d'] t.S λr S'=>P r ⟨t.env,S'⟩):W (Ag g (Aa (Ab i) (Aa (Ab j) Ad))) t P:=J7 (F6 (Fm e (F6 (Fm e' (LG h)))))
theorem UZ {g:Fn}{d d':D}(e:t.env[i]?=some (some (.val d)))(h:Wf g [d,d'] t.S λr S'=>P r ⟨t.env,S'⟩):W (Ag g (Aa (Ab i) (Aa (fC d') Ad))) t P:=J7 (F6 (Fm e (F6 (wC (LG h)))))
end
end F2
set_option maxHeartbeats 4000000
namespace LW
open PySem L2 F2
set_option compiler.extract_closed false
local macro_rules | `(tactic| clear 31 $t*)=>`(tactic| with_reducible first $[| refine $t ?_]*)
local macro_rules | `(tactic| clear 32 $t*)=>`(tactic| ((with_reducible first $[| refine' $t ?wv ?_]*);(case wv=>exact rfl)))
local macro_rules | `(tactic| clear 33 $t*)=>`(tactic| ((with_reducible first $[| refine' $t ?wv ?_]*);(case wv=>decide)))
local macro_rules | `(tactic| walk_at "w1")=>`(tactic| first
 | clear 32 Yt Xr UX
 | clear 32 Xq UZ
 | ((with_reducible refine' YI ?wv ?wu ?_);(case wv=>exact rfl);(case wu=>first | exact rfl | exact MR | exact RW | exact RY))
 | ((with_reducible refine' UY ?wv ?wu ?_);(case wv=>exact rfl);(case wu=>exact rfl))
 | clear 31 ZV Cn Lu ZW Jv wC F6 LG wIf NK NJ ZU J7 Rx Xl Zt Ye YG YE wB wBF YA Z2 ZK ZQ Zp Zw Zm wOr ZP Yh Rz Yx ZA Xj wUn ZO ZC ZM ZJ Zy Zx SA SC Yu ZN Yo YH Yv Yw Yg Yf Sw PN Zq Xm wSl wNo Yz Zo ZY ZZ ZE ZF ZH ZG YB YC D6 U0 RB Yk GN Zr ZR DK Yl Z0
 | clear 32 Fm DB Yy Zn
 | clear 32 C3 YJ Z3
 | ((with_reducible first | refine' GL ?wv ?_ | refine' AH ?wv ?_);(case wv=>first | exact rfl | exact MR | exact RW | exact RY))
 | ((with_reducible refine AC ?wv ?_);(case wv=>exact Nat.le_of_ble_eq_true rfl))
 | ((with_reducible refine' ZD ?wv ?wu ?_);(case wv=>exact rfl);(case wu=>exact rfl))
 | ((with_reducible refine Xk ?wv ?wu ?_);(case wv=>decide);(case wu=>decide))
 | clear 33 ZS NG Fl RC)
local macro_rules | `(tactic| right)=>`(tactic| repeat (walk_at "w1"))
structure DeckAt (k c:Nat)(S:List Ob):Prop where
 ne:k≠c
 at_:∃(cells:List Int) (par pos:Int),S[k]?=some (.lst [.obj c,.int par,.int pos])/\S[c]?=some (.lst (cells.map .int))/\cells≠[]/\0<=pos
def ax (k c:Nat)(S S':List Ob):Prop:=S'.length=S.length/\∀j:Nat,j≠k->j≠c->S'[j]?=S[j]?
variable {n:Nat}
theorem Bz {i:Int}(h0:0<=i)(h1:i < n):ixN n i=some i.toNat:=by simp [ixN,h0,h1]
variable {S:List Ob}{o:Ob}
theorem Tr {k:Nat}{o':Ob}(h:S[k]?=some o):(S.set k o')[k]?=some o':=by
 obtain ⟨hl,_⟩:=List.getElem?_eq_some_iff.mp h;exact List.getElem?_set_self hl
inductive Sh where
 | nothing | number (lo hi:Int) | text (m:Int) | list (s:Sh) (m:Int) | pair (s r:Sh) | choice (ss:List Sh)
mutual
noncomputable def Sh.d:Sh->D
 | .nothing=>.tup [.str "nothing"]
 | .number lo hi=>.tup [.str "number",.int lo,.int hi]
 | .text m=>.tup [.str "text",.int m]
 | .list s m=>.tup [.str "list",s.d,.int m]
 | .pair s r=>.tup [.str "pair",s.d,r.d]
 | .choice ss=>.tup [.str "choice",.tup (shD ss)]
noncomputable def shD:List Sh->List D
 | []=>[]
 | s :: r=>s.d :: shD r
end
mutual
noncomputable def Sh.depth:Sh->Nat
 | .nothing=>1
 | .number _ _=>1
 | .text _=>1
 | .list s _=>s.depth + 1
 | .pair s r=>max s.depth r.depth + 1
 | .choice ss=>D8 ss + 1
noncomputable def D8:List Sh->Nat
 | []=>0
 | s :: r=>max s.depth (D8 r)
end
theorem Cj:∀ss:List Sh,(shD ss).length=ss.length
 | []=>rfl
 | s :: r=>by simp [shD,Cj r]
theorem EC:∀(ss:List Sh) (k:Nat),(shD ss)[k]?=(ss[k]?).map Sh.d
 | [],k=>by simp [shD]
 | s :: r,0=>by simp [shD]
 | s :: r,k + 1=>by simp [shD,EC r k]
theorem Cb:∀(ss:List Sh) (k:Nat) (s:Sh),ss[k]?=some s->s.depth<=D8 ss
 | [],k,s,h=>by simp at h
 | s :: r,0,s',h=>by simp at h;subst h;simp [D8];lia
 | s :: r,k + 1,s',h=>by
   have:=Cb r k s' (by simpa using h);simp [D8];lia
theorem Sh.depth_pos (s:Sh):1<=s.depth:=by cases s <;> simp [Sh.depth]
noncomputable def A5 (n:Nat):Bool:=decide (32<=n) && decide (n<=126) && decide (n≠37)
noncomputable def Eh:Str->Bool:=λo=>o == ("of" : Str)
mutual
def Ah:Sh->D->Bool
 | .nothing,d=>GZ d
 | .number lo hi,d=>match d with
   | .int i=>decide (lo<=i) && decide (i<=hi)
   | _=>false
 | .text m,d=>match d with
   | .str x=>decide ((x.length:Int)<=m) && x.cps.toList.all A5
   | _=>false
 | .list s m,d=>match d with
   | .lst ds=>decide ((ds.length:Int)<=m) && ds.all λe=>Ah s e
   | _=>false
 | .pair s r,d=>match d with
   | .tup [a,b]=>Ah s a && Ah r b
   | _=>false
 | .choice ss,d=>match d with
   | .tup [.str o,.int k,x]=>Eh o && (decide (0<=k) && decide (k < ss.length)) && Iq ss k.toNat x
   | _=>false
def Iq:List Sh->Nat->D->Bool
 | [],_,_=>false
 | s :: _,0,d=>Ah s d
 | _ :: r,k + 1,d=>Iq r k d
end
theorem BN:∀(ss:List Sh) (k:Nat) (s:Sh) (d:D),ss[k]?=some s->Iq ss k d=Ah s d
 | [],k,s,d,h=>by simp at h
 | s :: r,0,s',d,h=>by simp at h;subst h;simp [Iq]
 | s :: r,k + 1,s',d,h=>by rw [Iq];exact BN r k s' d (by simpa using h)
mutual
noncomputable def okD:D->Bool
 | .str x=>decide (x.length<=90000)
 | .tup xs=>oks xs
 | .lst xs=>oks xs
 | .obj _=>false
 | .scr _=>false
 | .exc _ _=>false
 | .ty _=>false
 | _=>true
noncomputable def oks:List D->Bool
 | []=>true
 | d :: r=>okD d && oks r
end
theorem Hd:∀{xs:List D},oks xs=true->∀d∈xs,okD d=true
 | x :: r,h,d,m=>by
   rw [oks,Bool.and_eq_true] at h;rcases List.mem_cons.mp m with z | z
   ·subst z;exact h.1
   ·exact Hd h.2 d z
abbrev Pure1 (f:Fn)(ds:List D)(r:D):Prop:=∀S,Wf f ds S λv S'=>v=r/\S'=S
variable {ds:List D}
theorem Pure1.use {f:Fn}{r:D}(h:Pure1 f ds r){S:List Ob}{P:D->List Ob->Prop}(p:P r S):Wf f ds S P:=(h S).mono λ_ _ ⟨e1,e2⟩=>by subst e1 e2;exact p
noncomputable def OD:D->Bool
 | .int _=>true
 | _=>false
theorem KY {d:D}(h:okD d=true):Pure1 (fnOf 1 1 Fi) [d] (.bl (OD d)):=by
 intro S;refine Ap rfl ?_;unfold Fi
 cases d <;> first | (simp [okD] at h;done) | (right;exact ⟨rfl,rfl⟩)
noncomputable def C1 (lo hi:Int):D->Bool
 | .int i=>decide (lo<=i) && decide (i<=hi)
 | _=>false
def LP (f:Fn):Prop:=∀d,okD d=true->Pure1 f [d] (.bl (OD d))
def ED (f:Fn):Prop:=∀d lo hi,okD d=true->Pure1 f [d,.int lo,.int hi] (.bl (C1 lo hi d))
variable {c:Fn}
theorem PX (hc:LP c):ED (fnOf 3 3 (CT c)):=by
 intro d lo hi h S;refine Ap rfl ?_;unfold CT;right;refine (hc d h).use ?_
 cases d with
 | int i=>
   right;refine BX (λe=>?_) λe=>?_
   ·right;exact ⟨by simp only [C1,e,Bool.true_and],rfl⟩
   ·exact ⟨by simp only [C1,e,Bool.false_and],rfl⟩
 | _=>right;exact ⟨rfl,rfl⟩
def Ki (f:Fn):Prop:=∀n:Nat,Pure1 f [.int n] (.bl (A5 n))
theorem M7:Ki (fnOf 1 1 Gv):=by
 intro n S;refine Ap rfl ?_;unfold Gv;right;have c1:decide ((32:Int)<=n)=decide (32<=n):=decide_eq_decide.mpr (by lia);have c2:decide ((n:Int)<=126)=decide (n<=126):=decide_eq_decide.mpr (by lia);have c3:(!((n:Int) == 37))=decide (n≠37):=by
  by_cases h:n=37
  ·subst h;rfl
  ·have:¬((n:Int)=37):=by lia
   simp [h,this]
 rw [c1];refine BX (λe=>?_) λe=>?_
 ·right;rw [c2];refine BX (λe'=>?_) λe'=>?_
  ·right;exact ⟨by simp only [A5,e,e',c3,Bool.true_and],rfl⟩
  ·exact ⟨by simp only [A5,e,e',Bool.false_and,Bool.and_false],rfl⟩
 ·right;exact ⟨by simp only [A5,e,Bool.false_and],rfl⟩
def Kj (f:Fn):Prop:=∀m d,okD d=true->Pure1 f [(Sh.text m).d,d] (.bl (Ah (.text m) d))
theorem KO (hc:Ki c):Kj (fnOf 2 3 (Fh c)):=by
 intro m d h S;refine Ap rfl ?_;unfold Fh;rw [Sh.d]
 cases d with
 | str x=>
   have hx:x.length<=LIM:=Nat.le_trans (by simpa [okD] using h) (show 90000<=LIM by decide);right;refine J8 hx ?_;right;refine BX (λe=>?_) λe=>?_
   ·right;have:¬((x.length:Int)<=m):=by have:=of_decide_eq_true e;lia
    exact ⟨by simp [Ah,this],rfl⟩
   ·right;have e':(x.length:Int)<=m:=by have:=of_decide_eq_false e;lia
    refine En (λr t=>t.S=S/\∃cs:List Nat,r=cs.map (λc=>D.str ⟨#[c]⟩)/\(x.cps.toList.all A5=cs.all A5)/\∃z,t.env=[some (.val (.tup [.str "text",.int m])),some (.val (.str x)),z]) _ _ ⟨rfl,x.cps.toList,rfl,rfl,_,rfl⟩ ?_ ?_
    ·rintro d r t ⟨hs,cs,hr,hall,z,ht⟩ _;obtain ⟨env,S2⟩:=t;subst hs ht
     cases cs with
     | nil=>simp at hr
     | cons c cs=>
       simp only [List.map_cons,List.cons.injEq] at hr;obtain ⟨rfl,rfl⟩:=hr;right;refine LH rfl ?_;right;refine (hc c).use ?_;right;refine BX (λq=>?_) λq=>?_
       ·right;have q':A5 c=false:=by simpa using q
        refine ⟨?_,rfl⟩;simp only [Ah,hall,List.all_cons,q',Bool.false_and,Bool.and_false]
       ·right;have q':A5 c=true:=by simpa using q
        exact ⟨rfl,cs,rfl,by rw [hall,List.all_cons,q',Bool.true_and],_,rfl⟩
    ·rintro t ⟨hs,cs,hr,hall,z,ht⟩;obtain ⟨env,S2⟩:=t;subst hs ht;have:cs=[]:=by cases cs with | nil=>rfl | cons _ _=>simp at hr
     subst this;right;exact ⟨by simp [Ah,e',hall],rfl⟩
 | obj _=>simp [okD] at h
 | scr _=>simp [okD] at h
 | ty _=>simp [okD] at h
 | exc _ _=>simp [okD] at h
 | _=>right;exact ⟨by simp [Ah],rfl⟩
def Fo (f:Fn)(n:Nat):Prop:=∀s:Sh,s.depth<=n->∀d,okD d=true->Pure1 f [s.d,d] (.bl (Ah s d))
def NP (f:Fn)(n:Nat):Prop:=∀(s:Sh) (m:Int),s.depth<=n->∀d,okD d=true->Pure1 f [(Sh.list s m).d,d] (.bl (Ah (.list s m) d))
theorem KM (hc:Fo c n):NP (fnOf 2 3 (Ff c)) n:=by
 intro s m hs d h S;refine Ap rfl ?_;unfold Ff;rw [Sh.d]
 cases d with
 | lst ds=>
   have hx:∀d∈ds,okD d=true:=Hd (by simpa [okD] using h);right;refine BX (λe=>?_) λe=>?_
   ·right;have:¬((ds.length:Int)<=m):=by have:=of_decide_eq_true e;lia
    exact ⟨by simp [Ah,this],rfl⟩
   ·right;have e':(ds.length:Int)<=m:=by have:=of_decide_eq_false e;lia
    refine En (λr t=>t.S=S/\(ds.all (λe=>Ah s e)=r.all λe=>Ah s e)/\∃z,t.env=[some (.val (.tup [.str "list",s.d,.int m])),some (.val (.lst ds)),z]) _ _ ⟨rfl,rfl,_,rfl⟩ ?_ ?_
    ·rintro d r t ⟨hS,hall,z,ht⟩ hm;obtain ⟨env,S2⟩:=t;subst hS ht;right;refine (hc s hs d (hx d hm)).use ?_;right;refine BX (λq=>?_) λq=>?_
     ·right;have q':Ah s d=false:=by simpa using q
      refine ⟨?_,rfl⟩;simp only [Ah,hall,List.all_cons,q',Bool.false_and,Bool.and_false]
     ·right;have q':Ah s d=true:=by simpa using q
      exact ⟨rfl,by rw [hall,List.all_cons,q',Bool.true_and],_,rfl⟩
    ·rintro t ⟨hS,hall,z,ht⟩;obtain ⟨env,S2⟩:=t;subst hS ht;right;exact ⟨by simp only [Ah,e',decide_true,hall,List.all_nil,Bool.true_and],rfl⟩
 | obj _=>simp [okD] at h
 | scr _=>simp [okD] at h
 | ty _=>simp [okD] at h
 | exc _ _=>simp [okD] at h
 | _=>right;exact ⟨by simp [Ah],rfl⟩
def NU (f:Fn)(n:Nat):Prop:=∀(s r:Sh),s.depth<=n->r.depth<=n->∀d,okD d=true->Pure1 f [(Sh.pair s r).d,d] (.bl (Ah (.pair s r) d))
theorem KN (hc:Fo c n):NU (fnOf 2 2 (Fg c)) n:=by
 intro s r hs hr d h S;refine Ap rfl ?_;unfold Fg;rw [Sh.d]
 cases d with
 | tup ds=>
   have hx:∀d∈ds,okD d=true:=Hd (by simpa [okD] using h);right
   match ds,hx with
   | [],_=>right;exact ⟨by simp [Ah],rfl⟩
   | [a],_=>right;exact ⟨by simp [Ah],rfl⟩
   | [a,b],hx=>
     right;refine (hc s hs a (hx a (by simp))).use ?_;right;refine BX (λe=>?_) λe=>?_
     ·right;refine (hc r hr b (hx b (by simp))).use ?_;exact ⟨by simp only [Ah,e,Bool.true_and],rfl⟩
     ·exact ⟨by simp only [Ah,e,Bool.false_and],rfl⟩
   | a :: b :: e :: l,_=>
     refine DB ?_ ?_
     ·show (!(((a :: b :: e :: l).length:Int) == 2))=true;simp;lia
     right;exact ⟨by simp [Ah],rfl⟩
 | obj _=>simp [okD] at h
 | scr _=>simp [okD] at h
 | ty _=>simp [okD] at h
 | exc _ _=>simp [okD] at h
 | _=>right;exact ⟨by simp [Ah],rfl⟩
def Kb (f:Fn)(n:Nat):Prop:=∀(ss:List Sh),D8 ss<=n->∀d,okD d=true->Pure1 f [(Sh.choice ss).d,d] (.bl (Ah (.choice ss) d))
theorem Jc {c':Fn}(hc:Fo c n)(hw:ED c'):Kb (fnOf 2 2 (Ej c c')) n:=by
 intro ss hs d h S;refine Ap rfl ?_;unfold Ej;rw [Sh.d]
 cases d with
 | tup ds=>
   have hx:∀d∈ds,okD d=true:=Hd (by simpa [okD] using h);right
   match ds,hx with
   | [],_=>right;exact ⟨by simp [Ah],rfl⟩
   | [a],_=>right;exact ⟨by simp [Ah],rfl⟩
   | [a,b],_=>right;exact ⟨by simp [Ah],rfl⟩
   | [a,b,e],hx=>
     right;have ha:=hx a (by simp)
     cases a with
     | str o=>
       right;refine BX (λq=>?_) λq=>?_
       ·right;have q':Eh o=false:=by simpa [Eh] using q
        refine ⟨?_,rfl⟩
        cases b <;> simp only [Ah,q',Bool.false_and]
       ·right;have q':Eh o=true:=by simpa [Eh] using q
        refine (hw b 0 _ (hx b (by simp))).use ?_;right
        cases b with
        | int k=>
          refine BX (λq=>?_) λq=>?_
          ·right;refine ⟨?_,rfl⟩;have:(decide (0<=k) && decide (k < (ss.length:Int)))=false:=by
            have q2:k < 0\/((shD ss).length:Int) - 1 < k:=by simpa [C1] using q
            rw [Cj] at q2;simp;lia
           simp only [Ah,this,Bool.false_and,Bool.and_false]
          ·have q2:0<=k/\k<=((shD ss).length:Int) - 1:=by simpa [C1] using q
           have q3:=q2;rw [Cj] at q3;have hk:k.toNat < ss.length:=by lia
           have e1:ss[k.toNat]?=some ss[k.toNat]:=List.getElem?_eq_getElem hk;have e2:atI (shD ss) k=some (ss[k.toNat]).d:=by
            unfold atI;rw [Cj,Bz q3.1 (by lia)];simp [EC,e1]
           right;refine GL e2 ?_;right;refine (hc _ (Nat.le_trans (Cb ss _ _ e1) hs) e (hx e (by simp))).use ?_;refine ⟨?_,rfl⟩;have:(decide (0<=k) && decide (k < (ss.length:Int)))=true:=by simp;lia
           simp only [Ah,q',this,Bool.true_and,BN ss _ _ e e1]
        | _=>
          right;exact ⟨by simp [Ah],rfl⟩
     | obj _=>simp [okD] at ha
     | scr _=>simp [okD] at ha
     | ty _=>simp [okD] at ha
     | exc _ _=>simp [okD] at ha
     | _=>right;exact ⟨by simp [Ah],rfl⟩
   | a :: b :: e :: f :: l,_=>
     refine DB ?_ ?_
     ·show (!(((a :: b :: e :: f :: l).length:Int) == 3))=true;simp;lia
     right;exact ⟨by simp [Ah],rfl⟩
 | obj _=>simp [okD] at h
 | scr _=>simp [okD] at h
 | ty _=>simp [okD] at h
 | exc _ _=>simp [okD] at h
 | _=>right;exact ⟨by simp [Ah],rfl⟩
variable {cp ct cw:Fn}
theorem Te {cc cl:Fn}(h1:Kb cc n)(h2:NU cp n)(h3:NP cl n)(h4:Kj ct)(h5:ED cw):Fo (fnOf 2 3 (K1 cc cp cl ct cw)) (n + 1):=by
 intro s hs d h S;refine Ap rfl ?_;unfold K1
 cases s with
 | nothing=>
   rw [Sh.d];right;exact ⟨by rw [Ah],rfl⟩
 | number lo hi=>
   rw [Sh.d];right;refine (h5 d lo hi h).use ⟨?_,rfl⟩
   cases d <;> simp [Ah,C1]
 | text m=>
   rw [Sh.d];right;exact (h4 m d h).use ⟨rfl,rfl⟩
 | list s m=>
   rw [Sh.depth] at hs;have q:=h3 s m (by lia) d h;rw [Sh.d] at q ⊢;right;exact q.use ⟨rfl,rfl⟩
 | pair s r=>
   rw [Sh.depth] at hs;have q:=h2 s r (by lia) (by lia) d h;rw [Sh.d] at q ⊢;right;exact q.use ⟨rfl,rfl⟩
 | choice ss=>
   rw [Sh.depth] at hs;have q:=h1 ss (by lia) d h;rw [Sh.d] at q ⊢;right;exact q.use ⟨rfl,rfl⟩
theorem Cm (x:Str):x.length=x.cps.toList.length:=by simp [Str.length]
theorem NX (x y:Str):(x++y).cps.toList=x.cps.toList++y.cps.toList:=by
 show (x.cps++y.cps).toList=_;simp
variable {fr:List (Option Sl)}{z:Option Sl}
theorem Ck {f:D->D}{elt:M D}(h:∀d∈ds,W elt ⟨some (.val d) :: fr,S⟩ λx t'=>x=f d/\t'=⟨some (.val d) :: fr,S⟩) :
 W (AX (Ar 0) Bq elt ds) ⟨z :: fr,S⟩ λxs t'=>xs=ds.map f/\t'.S=S:=by
 refine (HY (P:=λxs t'=>xs=ds.map f/\t'.S=S) (λacc r t=>acc++r.map f=ds.map f/\∃z,t=⟨z :: fr,S⟩) ds [] _ ⟨rfl,z,rfl⟩ ?_ ?_).mono λxs t' h=>h
 ·rintro acc d r t ⟨h1,z,rfl⟩ hm;refine D6 (GN ?_);rw [if_pos rfl];refine (h d hm).mono λx t' z9=>?_;obtain ⟨e1,e2⟩:=z9;subst e1 e2;exact ⟨by rw [List.append_assoc];exact h1,_,rfl⟩
 ·rintro acc t ⟨h1,z,rfl⟩;exact ⟨by simpa using h1,rfl⟩
theorem Ds {p:D->Bool}{tst:M Bool}(h:∀d∈ds,W tst ⟨some (.val d) :: fr,S⟩ λb t'=>b=p d/\t'=⟨some (.val d) :: fr,S⟩) :
 W (AX (Ar 0) tst (Ab 0) ds) ⟨z :: fr,S⟩ λxs t'=>xs=ds.filter p/\t'.S=S:=by
 refine (HY (P:=λxs t'=>xs=ds.filter p/\t'.S=S) (λacc r t=>acc++r.filter p=ds.filter p/\∃z,t=⟨z :: fr,S⟩) ds [] _ ⟨rfl,z,rfl⟩ ?_ ?_).mono λxs t' h=>h
 ·rintro acc d r t ⟨h1,z,rfl⟩ hm;refine D6 ((h d hm).mono λb t' z9=>?_);obtain ⟨e1,e2⟩:=z9;subst e1 e2
  by_cases hp:p d=true
  ·rw [if_pos hp];refine Fm (d:=d) rfl ⟨?_,_,rfl⟩;rw [List.filter_cons,if_pos hp] at h1;rw [List.append_assoc];exact h1
  ·rw [if_neg hp];rw [List.filter_cons,if_neg hp] at h1;exact ⟨h1,_,rfl⟩
 ·rintro acc t ⟨h1,z,rfl⟩;exact ⟨by simpa using h1,rfl⟩
mutual
noncomputable def sz:D->Nat
 | .tup xs=>szs xs + 1
 | .lst xs=>szs xs + 1
 | _=>1
noncomputable def szs:List D->Nat
 | []=>0
 | d :: r=>sz d + szs r
end
mutual
noncomputable def wf:Sh->Bool
 | .nothing=>true
 | .number lo hi=>decide (-1000000000000000000 < lo) && decide (lo<=hi) && decide (hi < 1000000000000000000)
 | .text m=>decide (0<=m) && decide (m<=250)
 | .list s m=>decide (0<=m) && decide (m<=250) && wf s
 | .pair s r=>wf s && wf r
 | .choice ss=>decide (1<=ss.length) && decide (ss.length<=9) && wfs ss
noncomputable def wfs:List Sh->Bool
 | []=>true
 | s :: r=>wf s && wfs r
end
mutual
noncomputable def cnt:Sh->Nat
 | .list s _=>cnt s + 1
 | .pair s r=>cnt s + cnt r + 1
 | .choice ss=>Vs ss + 1
 | _=>1
noncomputable def Vs:List Sh->Nat
 | []=>0
 | s :: r=>cnt s + Vs r
end
theorem CF:∀{ss:List Sh},wfs ss=true->∀s∈ss,wf s=true
 | x :: r,h,s,m=>by
   rw [wfs,Bool.and_eq_true] at h;rcases List.mem_cons.mp m with z | z
   ·subst z;exact h.1
   ·exact CF h.2 s z
theorem PV:∀{ss:List Sh},(∀s∈ss,wf s=true)->wfs ss=true
 | [],_=>rfl
 | x :: r,h=>by rw [wfs,h x List.mem_cons_self,PV λs m=>h s (List.mem_cons_of_mem _ m)];rfl
theorem HK:∀ss:List Sh,shD ss=ss.map Sh.d
 | []=>rfl
 | s :: r=>by rw [shD,HK r];rfl
theorem JO:∀{ss:List Sh} {s:Sh},s∈ss->s.depth<=D8 ss
 | x :: r,s,m=>by
   rw [D8];rcases List.mem_cons.mp m with z | z
   ·subst z;lia
   ·have:=JO z;lia
variable {xs:List D}
theorem GF {i:Int}(h0:0<=i)(h1:i < xs.length){p:D->Prop}(h:∀d∈xs,p d):∃d,atI xs i=some d/\p d:=by
 obtain ⟨d,e,m,_⟩:=IS h0 h1;exact ⟨d,e,h d m⟩
def MK (k c l:Nat)(S S':List Ob):Prop:=S'.length=S.length/\∀j:Nat,j≠k->j≠c->j≠l->S'[j]?=S[j]?
noncomputable def Nx (deep:Int):Int:=if deep < 2 then 0 else 2 * deep + 4
def bd (deep x:Int):Int:=if deep < 2 then 1 else max x 1 + Nx deep - (if deep + 1<=x then 1 else 0)
def tb (deep y i:Int):Int:=if deep=2 then i else if i=0 then 0 else y + Nx (deep - 1) + i - 1 - (if deep<=y then 1 else 0)
structure ShapeRes (k c l:Nat)(S:List Ob)(deep x:Int)(s:Sh)(S':List Ob):Prop where
 w:wf s=true
 dep:(s.depth:Int)<=max deep 1
 lft:S'[l]?=some (.lst [.int (x - cnt s)])
 one:x<=1->cnt s=1
 few:(cnt s:Int)<=max x 1 + Nx deep
 deck:DeckAt k c S'
 kp:MK k c l S S'
 few2:(cnt s:Int)<=bd deep x
noncomputable def signs94:Str:=" !\"#$&'()*+,-./0123456789:;<=>?@ABCDEFGHIJKLMNOPQRSTUVWXYZ[\\]^_`abcdefghijklmnopqrstuvwxyz{|}~"
theorem Rl {i:Int}(h0:0<=i)(h1:i < 94):∃n,atI signs94.cps.toList i=some n/\A5 n=true:=by
 have hl:signs94.cps.toList.length=94:=by decide +kernel
 have ha:signs94.cps.toList.all A5=true:=by decide +kernel
 obtain ⟨n,e,m,_⟩:=IS (xs:=signs94.cps.toList) h0 (by rw [hl];exact h1);exact ⟨n,e,List.all_eq_true.mp ha n m⟩
structure Sep (ks:List (Nat×Nat)):Prop where
 sep:∀p∈ks,∀q∈ks,p=q\/(q.1≠p.1/\q.1≠p.2/\q.2≠p.1/\q.2≠p.2)
mutual
noncomputable def dpt:D->Nat
 | .lst ds=>Qf ds + 1
 | .tup ds=>Qf ds + 1
 | _=>1
noncomputable def Qf:List D->Nat
 | []=>0
 | d :: r=>max (dpt d) (Qf r)
end
mutual
noncomputable def smD:D->Bool
 | .str x=>decide (x.length<=300)
 | .int i=>decide (-1000000000000000000000000 < i) && decide (i < 1000000000000000000000000)
 | .tup xs=>decide (xs.length<=300) && sms xs
 | .lst xs=>decide (xs.length<=300) && sms xs
 | .obj _=>false
 | .scr _=>false
 | .ty _=>false
 | .exc _ _=>false
 | _=>true
noncomputable def sms:List D->Bool
 | []=>true
 | d :: r=>smD d && sms r
end
theorem Go {f:D->D->Option Bool}:∀{xs:List D},(∀d∈xs,f d d=some true)->CL f xs xs=some true
 | [],_=>rfl
 | x :: r,h=>by
   rw [CL,h x List.mem_cons_self,Go λd m=>h d (List.mem_cons_of_mem _ m)];rfl
variable {f:M D}{t:T}{P:D->T->Prop}
theorem Ys {g:M (List D)}(h:W f t λo t1=>W g t1 λas t2=>∃z ds ys,o = .str z/\as=[.lst ds]/\E1 ds=some ys/\(z.length<=8/\ys.length<=1048576)/\P (.str (Txt.join z ys)) t2):W (joinM f g) t P:=by
 refine DK (h.mono λo t1 h1=>DK (h1.mono λas t2 h2=>?_));obtain ⟨z,ds,ys,rfl,rfl,e,hl,p⟩:=h2;refine ⟨_,_,?_,p⟩;simp only [e];rw [if_pos hl]
theorem GK:∀ns:List Nat,E1 (ns.map λn=>D.str ⟨#[n]⟩)=some (ns.map λn=>(⟨#[n]⟩:Str))
 | []=>rfl
 | n :: r=>by
   rw [List.map_cons,E1,if_pos (Nat.le_of_ble_eq_true rfl),GK r];rfl
theorem Iv:∀(ns:List Nat) (acc:Array Nat),((ns.map λn=>(⟨#[n]⟩:Str)).foldl (λacc p=>acc++(Str.ofString "").cps++p.cps) acc).toList=acc.toList++ns
 | [],acc=>by simp
 | n :: r,acc=>by
   have e:(Str.ofString "").cps=#[]:=by decide +kernel
   rw [List.map_cons,List.foldl_cons,Iv r,e];simp
theorem Iy (ns:List Nat):(Txt.join (Str.ofString "") (ns.map λn=>(⟨#[n]⟩:Str))).cps.toList=ns:=by
 show (List.foldl (λ(acc:Array Nat) (p:Str)=>acc++(Str.ofString "").cps++p.cps) (((ns.map λn=>(⟨#[n]⟩:Str)).headD Str.empty).cps) ((ns.map λn=>(⟨#[n]⟩:Str)).drop 1)).toList=ns
 cases ns with
 | nil=>rfl
 | cons n r=>
   rw [List.map_cons,List.drop_one,List.tail_cons,Iv];rfl
structure ValueRes (k c l:Nat)(S:List Ob)(s:Sh)(r:D)(S':List Ob):Prop where
 fit:Ah s r=true
 lft:∃a b:Int,S'[l]?=some (.lst [.int a,.int b])
 deck:DeckAt k c S'
 kp:MK k c l S S'
theorem Hl {f:M (List D)}{P:Out->T->Prop}(h:W f t λds t1=>P (.ret (.lst ds)) t1):W (FY f) t P:=W_bnd.mpr (h.mono λ_ _ p=>W_ret.mpr p)
theorem FD {g:Fn}{f:M (List D)}{P:List D->T->Prop}(h:W f t λds t1=>Wf g ds t1.S λr S'=>∃rs,r = .lst rs/\P rs ⟨t1.env,S'⟩):W (C9 g f) t P:=by
 refine W_bnd.mpr (h.mono λds t1 z9=>?_);obtain ⟨r,S',e,rs,er,p⟩:=z9;subst er;exact ⟨rs,⟨t1.env,S'⟩,by simp only [e],p⟩
variable {i:Nat}
theorem U3 {P:Out->T->Prop}(e:t.env[i]?=some (some (.own xs)))(h:P (.ret (.lst xs)) ⟨t.env.set i none,t.S⟩):W (Fy i) t P:=⟨_,_,by simp only [Fy,e],h⟩
theorem Yj {i:Int}(h:P (.int (Builtin.Int.intBits i:Nat)) t):W (Ia (.int i)) t P:=⟨_,_,rfl,h⟩
theorem ZX {i j:Int}(h0:0<=j)(h:P (.int (i / 2 ^ j.toNat)) t):W (Lw (.int i) (.int j)) t P:=⟨_,_,by simp [Lw,i2C,h0],h⟩
variable {t1:T}
theorem Zv {ys:List D}{A:List D->Prop}(e:t1.env[i]?=some (some (.own xs)))(l:xs.length + ys.length<=LIM)(w:A (xs++ys)):∃xs,t1.env[i]?=some (some (.own xs))/\∃zs,Eg xs [.lst ys]=some zs/\A zs:=
 ⟨xs,e,xs++ys,by simp [Eg,l],w⟩
theorem Ht {f:M Bool}{b:M Out}{P:Out->T->Prop}(I:Nat->T->Prop)(turn:∀n t,I n t->W f t λk t1=>match k with
 | true=>∃m,n=m + 1/\W b t1 λo t2=>match o with
   | .next=>I m t2
   | .cont=>I m t2
   | .brk=>P .next t2
   | .ret x=>P (.ret x) t2
 | false=>P .next t1):∀(fuel n:Nat) (t:T),n < fuel->I n t->W (Cz f b fuel) t P
 | 0,n,t,h,_=>absurd h (Nat.not_lt_zero _)
 | fuel + 1,n,t,h,i=>by
   obtain ⟨k,t1,e1,p⟩:=turn n t i
   cases k with
   | false=>exact ⟨_,_,by simp only [Cz,e1],p⟩
   | true=>
     obtain ⟨m,rfl,o,t2,e2,p⟩:=p
     cases o with
     | next=>obtain ⟨o,t',e',p⟩:=Ht I turn fuel m t2 (by lia) p;exact ⟨o,t',by simp only [Cz,e1,e2];exact e',p⟩
     | cont=>obtain ⟨o,t',e',p⟩:=Ht I turn fuel m t2 (by lia) p;exact ⟨o,t',by simp only [Cz,e1,e2];exact e',p⟩
     | brk=>exact ⟨_,_,by simp only [Cz,e1,e2],p⟩
     | ret x=>exact ⟨_,_,by simp only [Cz,e1,e2],p⟩
noncomputable def wid (n:Nat):Nat:=if n=0 then 0 else n.log2 / 8 + 1
theorem OM (h:2<=n):n.log2=(n / 2).log2 + 1:=by rw [Nat.log2_def,if_pos h]
theorem QF (h:n < 2):n.log2=0:=by rw [Nat.log2_def,if_neg (by lia)]
theorem K0:∀(k:Nat) {n:Nat},2 ^ k<=n->n.log2=(n / 2 ^ k).log2 + k
 | 0,n,_=>by rw [Nat.pow_zero,Nat.div_one,Nat.add_zero]
 | k + 1,n,h=>by
   have h2:2 ^ k * 2<=n:=by rw [<-Nat.pow_succ];exact h
   have h3:2<=n / 2 ^ k:=(Nat.le_div_iff_mul_le (Nat.pow_pos (by decide))).mpr (by rw [Nat.mul_comm];exact h2);rw [K0 k (Nat.le_trans (Nat.le_mul_of_pos_right _ (by decide)) h2),OM h3,Nat.div_div_eq_div_mul,<-Nat.pow_succ,Nat.add_assoc,Nat.add_comm 1 k]
theorem QD (h:256<=n):n.log2=(n / 256).log2 + 8:=K0 8 h
theorem QE (h:n < 256):n.log2 < 8:=by
 by_cases z:n=0
 ·subst z;rw [QF (by lia)];lia
 ·exact (Nat.log2_lt z).mpr h
theorem HQ (h:0 < n):wid n=wid (n / 256) + 1:=by
 unfold wid;rw [if_neg (by lia)]
 by_cases z:n < 256
 ·have:=QE z;rw [if_pos (by lia)];lia
 ·rw [if_neg (by lia),QD (by lia)];lia
theorem GO:∀(k n:Nat),n < 256 ^ k->wid n<=k
 | 0,n,h=>by
   have:n=0:=by simpa using h
   subst this;decide
 | k + 1,n,h=>by
   by_cases z:n=0
   ·subst z;exact Nat.zero_le _
   ·rw [HQ (by lia)];have:=GO k (n / 256) (Nat.div_lt_of_lt_mul (by rw [Nat.pow_succ] at h;lia));lia
theorem P6 (n:Nat):((Builtin.Int.intBits (n:Int):Nat) + 7) / 8=wid n:=by
 unfold Builtin.Int.intBits wid
 by_cases z:n=0
 ·subst z;rfl
 ·have:((n:Int) == 0)=false:=by simp;exact z
  rw [this,if_neg (by simp),if_neg z,Int.natAbs_natCast];lia
noncomputable def nb:Nat->Nat->List D
 | 0,_=>[]
 | w + 1,n=>nb w (n / 256)++[.int ((n % 256:Nat):Int)]
theorem K5:∀w n,(nb w n).length=w
 | 0,n=>rfl
 | w + 1,n=>by rw [nb,List.length_append,K5];rfl
theorem OU:∀w n:Nat,(List.range w).map (λk=>D.int ((n / 2 ^ (8 * (w - 1 - k)) % 256:Nat):Int))=nb w n
 | 0,n=>rfl
 | w + 1,n=>by
   rw [List.range_succ,List.map_append,nb,<-OU w (n / 256)]
   congr 1
   ·refine List.map_congr_left λk hk=>?_;rw [List.mem_range] at hk;have e:8 * (w + 1 - 1 - k)=8 + 8 * (w - 1 - k):=by lia
    rw [e,Nat.pow_add,Nat.div_div_eq_div_mul]
   ·simp
mutual
def Av:Sh->D->List D
 | .nothing,_=>[]
 | .number lo hi,d=>match d with
   | .int i=>nb (wid (hi - lo).toNat) (i - lo).toNat
   | _=>[]
 | .text _,d=>match d with
   | .str x=>.int (x.length:Nat) :: x.cps.toList.map λn=>D.int (n:Nat)
   | _=>[]
 | .list s _,d=>match d with
   | .lst ds=>.int (ds.length:Nat) :: (ds.map λd=>Av s d).flatten
   | _=>[]
 | .pair s r,d=>match d with
   | .tup [a,b]=>Av s a++Av r b
   | _=>[]
 | .choice ss,d=>match d with
   | .tup [_,.int k,x]=>.int k :: Ib ss k.toNat x
   | _=>[]
def Ib:List Sh->Nat->D->List D
 | [],_,_=>[]
 | s :: _,0,d=>Av s d
 | _ :: r,k + 1,d=>Ib r k d
end
theorem Ea:∀(ss:List Sh) (k:Nat) (s:Sh) (d:D),ss[k]?=some s->Ib ss k d=Av s d
 | [],k,s,d,h=>by simp at h
 | s :: r,0,s',d,h=>by simp at h;subst h;simp [Ib]
 | s :: r,k + 1,s',d,h=>by rw [Ib];exact Ea r k s' d (by simpa using h)
def BP (f:Fn)(n:Nat):Prop:=∀(s:Sh),s.depth<=n->wf s=true->∀d,Ah s d=true->(Av s d).length<=LIM->Pure1 f [s.d,d] (.lst (Av s d))
def Ke (f:Fn):Prop:=∀(n j:Nat),j<=1000->Pure1 f [.int n,.int j] (.int ((n / 2 ^ (8 * j):Nat):Int))
theorem TF:Ke (fnOf 2 2 Gy):=by
 intro n j hj S;refine Ap rfl ?_;unfold Gy;right;refine Ex (CW (by decide) (by decide)) ?_;refine ZX (by lia) ?_;refine ⟨?_,rfl⟩;have:(8 * (j:Int)).toNat=8 * j:=by lia
 rw [this];simp
def H9 (f:Fn):Prop:=∀n:Nat,n < 256 ^ 9->Pure1 f [.int n] (.int (wid n:Nat))
theorem RD:H9 (fnOf 1 1 Ek):=by
 intro n _ S;refine Ap rfl ?_;unfold Ek;right;refine Yj ?_;right;refine ⟨?_,rfl⟩;rw [<-P6];simp
def Kf (f:Fn):Prop:=∀(n w:Nat),w<=1000->Pure1 f [.int n,.int w] (.lst (nb w n))
theorem Mw (i:Int)(n:Nat):AT i n=(List.range n).map λk:Nat=>D.int (i + k):=by
 rfl
theorem TZ (hc:Ke c):Kf (fnOf 2 2 (DW c)):=by
 intro n w hw S;have hL:LIM=100000:=rfl;refine Ap rfl ?_;unfold DW;refine Hl ?_;right;refine RC (by rw [Dm (by decide) (by decide),Dm (by lia) (by lia)];rfl) ?_;refine (Ck (f:=λd=>match d with | .int k=>.int ((n / 2 ^ (8 * (w - k.toNat)) % 256:Nat):Int) | _=>d) (fr:=[some (.val (.int n)),some (.val (.int w))]) ?_).mono ?_
 ·intro d m;rw [Mw] at m;obtain ⟨k,hk,rfl⟩:=List.mem_map.mp m;rw [List.mem_range] at hk;right;have e:((w:Int) - (1 + (k:Int)))=((w - (1 + k):Nat):Int):=by lia
  rw [e];refine (hc n (w - (1 + k)) (by lia)).use ?_;right;refine ⟨?_,rfl⟩;have e2:(1 + (k:Int)).toNat=1 + k:=by lia
  dsimp only;rw [e2];simp
 ·rintro xs t' ⟨rfl,hS⟩;have hn:((w:Int) + 1 - 1).toNat=w:=by lia
  rw [Mw,hn];refine AC (by simp only [List.length_map,List.length_range,hL];lia) ?_;refine ⟨?_,hS⟩;rw [<-OU w n,List.map_map]
  congr 1
  refine List.map_congr_left λk hk=>?_;rw [List.mem_range] at hk;have e2:(1 + (k:Int)).toNat=1 + k:=by lia
  have e3:w - (1 + k)=w - 1 - k:=by lia
  simp only [Function.comp,e2,e3]
theorem TN:H9 (fnOf 1 2 EM):=by
 intro n hb S;have hn:wid n < J0:=Nat.lt_of_le_of_lt (GO 9 n hb) (by decide);refine Ap rfl ?_;unfold EM;right;refine Ht (λk t=>∃m:Nat,k=wid m/\t=⟨[some (.val (.int m)),some (.val (.int ((wid n - wid m:Nat):Int)))],S⟩/\wid m<=wid n) ?_ J0 (wid n) _ hn ⟨n,rfl,by rw [Nat.sub_self];rfl,Nat.le_refl _⟩;rintro k t ⟨m,rfl,rfl,hm⟩;right
 by_cases z:0 < m
 ·rw [decide_eq_true (by lia:(0:Int) < m)];refine ⟨_,HQ z,?_⟩;have:=HQ z;right;refine ⟨m / 256,rfl,?_,by lia⟩;have e:((wid n - wid (m / 256):Nat):Int)=((wid n - wid m:Nat):Int) + 1:=by lia
  rw [e];rfl
 ·have:m=0:=by lia
  subst this;rw [decide_eq_false (by lia)];right;exact ⟨by simp [wid],rfl⟩
variable {lo hi:Int}
theorem MD (h:wf (.number lo hi)=true):(hi - lo).toNat < 256 ^ 9:=by
 simp only [wf,Bool.and_eq_true,decide_eq_true_eq] at h;have:(256:Nat) ^ 9=4722366482869645213696:=by decide
 lia
theorem N6 (x:Str):(x.cps.toList.map λc=>D.str ⟨#[c]⟩).map (λd=>match d with | .str y=>D.int (y.cps.getD 0 0:Nat) | _=>d)=x.cps.toList.map λn=>D.int (n:Nat):=by
 rw [List.map_map];refine List.map_congr_left λn _=>?_;rfl
variable {cn:Fn}
theorem Td (hc:BP c n)(hw:H9 cw)(hn:Kf cn):BP (fnOf 2 5 (DG c cw cn)) (n + 1):=by
 intro s hs hwf d hf hlen S;have hL:LIM=100000:=rfl;refine Ap rfl ?_;unfold DG
 cases s with
 | nothing=>
   rw [Sh.d];right;refine Hl ?_;right;exact ⟨by rw [Av],rfl⟩
 | number lo hi=>
   have hsp:=MD hwf;have hwd:=GO 9 _ hsp;simp only [wf,Bool.and_eq_true,decide_eq_true_eq] at hwf
   cases d <;> simp [Ah] at hf
   rename_i i;rw [Sh.d];right;refine Hl (FD ?_);right;have e1:hi - lo=(((hi - lo).toNat:Nat):Int):=by lia
   have e2:i - lo=(((i - lo).toNat:Nat):Int):=by lia
   rw [e1,e2];refine (hw _ hsp).use ?_;right;refine (hn _ _ (by lia)).use ?_;exact ⟨_,rfl,by rw [Av],rfl⟩
 | text q=>
   simp only [wf,Bool.and_eq_true,decide_eq_true_eq] at hwf
   cases d <;> simp [Ah] at hf
   rename_i x;rw [Sh.d];right;refine Hl ?_;refine DK ?_;right;refine J8 (by rw [hL];lia) ?_;right;refine (Ck (f:=λd=>match d with | .str y=>D.int (y.cps.getD 0 0:Nat) | _=>d) (fr:=[]) ?_).mono ?_
   ·intro d m;obtain ⟨k,hk,rfl⟩:=List.mem_map.mp m;right;refine LH rfl ?_;exact ⟨rfl,rfl⟩
   ·rintro xs t' ⟨rfl,hS⟩;rw [N6];have hl:x.cps.toList.length<=250:=by rw [<-Cm];lia
    refine AC (by rw [List.length_map,hL];lia) ?_;right;refine AC (by simp only [List.length_map,List.length_cons,List.length_nil,hL];lia) ?_;exact ⟨by rw [Av];rfl,hS⟩
 | list s q=>
   simp only [wf,Bool.and_eq_true,decide_eq_true_eq] at hwf;rw [Sh.depth] at hs
   cases d <;> simp only [Ah,Bool.false_eq_true] at hf
   rename_i ds;rw [Bool.and_eq_true,decide_eq_true_eq,List.all_eq_true] at hf;rw [Av] at hlen ⊢;rw [Sh.d];right;refine En (λr t=>∃(z:Option Sl) (acc:List D),t=⟨[some (.val (.tup [.str "list",s.d,.int q])),some (.val (.lst ds)),some (.val (.str "list")),some (.own acc),z],S⟩/\acc++(r.map λd=>Av s d).flatten = .int (ds.length:Nat) :: (ds.map λd=>Av s d).flatten) _ _ ⟨_,_,rfl,rfl⟩ ?_ ?_
   ·rintro d r t ⟨z,acc,rfl,hacc⟩ m;rw [List.map_cons,List.flatten_cons,<-List.append_assoc] at hacc;have hl:acc.length + (Av s d).length<=LIM:=by
     have:=congrArg List.length hacc;rw [List.length_append,List.length_append] at this;lia
    right;refine FD ?_;right;refine (hc s (Nat.le_of_succ_le_succ hs) hwf.2 d (hf.2 d m) (Nat.le_trans (Nat.le_add_left _ _) hl)).use ⟨_,rfl,?_⟩;right;refine Zv rfl hl ?_;exact ⟨_,_,rfl,hacc⟩
   ·rintro t ⟨z,acc,rfl,hacc⟩;rw [List.map_nil,List.flatten_nil,List.append_nil] at hacc;right;refine U3 rfl ?_;exact ⟨by rw [hacc],rfl⟩
 | pair s r=>
   simp only [wf,Bool.and_eq_true] at hwf;rw [Sh.depth] at hs;unfold Ah at hf
   split at hf
   case h_2=>cases hf
   case h_1 a b=>
    rw [Bool.and_eq_true] at hf;rw [Av] at hlen ⊢;rw [List.length_append] at hlen;rw [Sh.d];right;refine Hl ?_;refine DK ?_;right;refine FD ?_;right;refine (hc s (Nat.le_trans (Nat.le_max_left _ _) (Nat.le_of_succ_le_succ hs)) hwf.1 a hf.1 (Nat.le_trans (Nat.le_add_right _ _) hlen)).use ⟨_,rfl,?_⟩;refine DK ?_;right;refine FD ?_;right;refine (hc r (Nat.le_trans (Nat.le_max_right _ _) (Nat.le_of_succ_le_succ hs)) hwf.2 b hf.2 (Nat.le_trans (Nat.le_add_left _ _) hlen)).use ⟨_,rfl,?_⟩;right;refine AC hlen ?_;exact ⟨rfl,rfl⟩
 | choice ss=>
   simp only [wf,Bool.and_eq_true,decide_eq_true_eq] at hwf;rw [Sh.depth] at hs;unfold Ah at hf
   split at hf
   case h_2=>cases hf
   case h_1 o k x=>
    simp only [Bool.and_eq_true,decide_eq_true_eq] at hf;obtain ⟨⟨ho,k0,k1⟩,hf⟩:=hf;have hk:k.toNat < ss.length:=by lia
    have e1:ss[k.toNat]?=some ss[k.toNat]:=List.getElem?_eq_getElem hk;have hl:=Cj ss;have e2:atI (shD ss) k=some (ss[k.toNat]).d:=by
     unfold atI;rw [Bz k0 (by lia)];show (shD ss)[k.toNat]?=_;rw [EC,e1];rfl
    rw [BN ss _ _ _ e1] at hf;rw [Av] at hlen ⊢;rw [Ea ss _ _ _ e1] at hlen ⊢;rw [List.length_cons] at hlen;rw [Sh.d];right;refine Hl ?_;right;refine FD ?_;right;refine GL e2 ?_;right;refine (hc _ (Nat.le_trans (Cb ss _ _ e1) (Nat.le_of_succ_le_succ hs)) (CF hwf.2 _ (List.getElem_mem hk)) x hf (Nat.le_of_succ_le hlen)).use ⟨_,rfl,?_⟩;right;refine AC (by simp only [List.length_cons,List.length_nil];lia) ?_;exact ⟨rfl,rfl⟩
variable {h:D->M Out}
section
variable {t:T}{P:D->T->Prop}{R:Out->T->Prop}
def Rt (h:D->M Out)(R:Out->T->Prop)(o:Out)(t1:T):Prop:=match o with
 | .ret (.exc n ds)=>n∈AM/\W (h (.exc n ds)) t1 R
 | o=>R o t1
theorem Z1 {b:M Out}(w:W b t (Rt h R)):W (E2 b h) t R:=by
 obtain ⟨o,t1,e,q⟩:=w;have rest:∀d,A8 d=false->o = .ret d->W (E2 b h) t R:=λd hd ho=>by
  subst ho;refine ⟨.ret d,t1,?_,?_⟩
  ·unfold E2;rw [e];cases d <;> first | rfl | cases hd
  ·cases d <;> first | exact q | cases hd
 cases o with
 | next=>exact ⟨.next,t1,by unfold E2;rw [e],q⟩
 | brk=>exact ⟨.brk,t1,by unfold E2;rw [e],q⟩
 | cont=>exact ⟨.cont,t1,by unfold E2;rw [e],q⟩
 | ret d=>
   cases d with
   | exc n ds=>
     obtain ⟨hn,o2,t2,e2,q2⟩:=q;exact ⟨o2,t2,by unfold E2;rw [e];dsimp only;rw [if_pos hn,e2],q2⟩
   | _=>exact rest _ rfl rfl
theorem Pz (q:R .next t1):Rt h R .next t1:=q
theorem UT {n:Str}(e:n∈AM)(q:W (h (.exc n ds)) t1 R):Rt h R (.ret (.exc n ds)) t1:=⟨e,q⟩
def xK (d:D)(A B:Prop):Prop:=if A8 d=true then A else B
theorem YL {d:D}{A B:Prop}(e:A8 d=false)(b:B):xK d A B:=by unfold xK;rw [if_neg (by rw [e];decide)];exact b
theorem YK {d:D}{A B:Prop}(e:A8 d=true)(a:A):xK d A B:=by unfold xK;rw [if_pos e];exact a
theorem YD (w:W f t λd t1=>xK d (R (.ret d) t1) (R .next ⟨t1.env.set i (some (.val d)),t1.S⟩)):W (Nw i f) t R:=by
 refine DK (w.mono λd t1 q=>?_);unfold xK at q
 split at q
 ·next h=>rw [if_pos h];exact ⟨_,_,rfl,q⟩
 ·next h=>rw [if_neg h];exact ⟨_,_,rfl,q⟩
theorem wNx (w:W f t λd t1=>A8 d=false/\P d t1):W (nxD f) t P:=by
 refine DK (w.mono λd t1 z9=>?_);obtain ⟨h,q⟩:=z9;rw [if_neg (by rw [h];decide)];exact ⟨_,_,rfl,q⟩
theorem U1 {n:Str}{f:M (List D)}(w:W f t λds t1=>∃d,ds=[d]/\R (.ret (.exc n [d])) t1):W (Ft n f) t R:=
 DK (w.mono λds t1 ⟨d,e,q⟩=>by subst e;exact ⟨_,_,rfl,q⟩)
theorem U2 {n:Str}(w:W f t λd t1=>R (.ret (.exc n [d])) t1):W (Ft n (Aa f Ad)) t R:=U1 (F6 (w.mono λd t1 q=>LG ⟨d,rfl,q⟩))
theorem Zz {n n':Str}{s:M Out}{r:D->M Out}(e:Dn n n'=true)(w:W s { t with env:=t.env.set i (some (.val (.exc n ds))) } λo t2=>R o (unE i t2)):W (hAs n' i s r (.exc n ds)) t R:=by
 obtain ⟨o,t2,e1,q⟩:=w;exact ⟨o,unE i t2,by unfold hAs;dsimp only;rw [if_pos e,e1],q⟩
theorem Yr {m n:Str}(e:m∈AM)(q:P (.bl (Dn m n)) t):W (Fe n (.exc m ds)) t P:=⟨_,_,by unfold Fe;dsimp only;rw [if_pos e];rfl,q⟩
theorem Yi {m n:Str}{d:D}(e:m∈AM)(l:((Jd m).zip ds).lookup n=some d)(q:P d t):W (Ko n (.exc m ds)) t P:=⟨_,_,by unfold Ko;dsimp only;rw [if_pos e,l];rfl,q⟩
end
local macro_rules | `(tactic| walk_at "x1")=>`(tactic| first
 | walk_at "w1" | clear 31 Z1 YD wNx Pz | clear 33 UT | clear 32 YL | clear 32 YK | clear 31 U2 | clear 33 Zz | clear 33 Yr | ((with_reducible refine' Yi ?wv ?wu ?_);(case wv=>decide);(case wu=>exact rfl)))
local macro_rules | `(tactic| left)=>`(tactic| repeat (walk_at "x1"))
inductive Rd where
 | done (v:D)
 | need (ok:Nat->Bool) (nx:Nat->Rd)
inductive RR where
 | told (v:D) (a:Nat)
 | short
 | broken (a:Nat)
noncomputable def Rd.run:Rd->List Nat->Nat->RR
 | .done v,_,a=>.told v a
 | .need ok nx,w,a=>match w[a]? with
   | none=>.short
   | some b=>if ok b=true then (nx b).run w (a + 1) else .broken a
noncomputable def Rd.bnd:Rd->(D->Rd)->Rd
 | .done v,k=>k v
 | .need ok nx,k=>.need ok λb=>(nx b).bnd k
def RR.thn (r:RR)(w:List Nat)(k:D->Rd):RR:=match r with
 | .told v a=>(k v).run w a
 | .short=>.short
 | .broken a=>.broken a
def Rd.good:Rd->Prop
 | .done _=>True
 | .need ok nx=>(ok 0=true\/ok 32=true)/\∀b,ok b=true->(nx b).good
noncomputable def Wy (lo:Int)(M:Nat):Nat->Nat->Rd
 | 0,x=>.done (.int (lo + x))
 | r + 1,x=>.need (λb=>decide (x * 256 + b<=M / 2 ^ (8 * r))) λb=>Wy lo M r (x * 256 + b)
def Wz:Nat->List Nat->Rd
 | 0,cs=>.done (.str ⟨cs.toArray⟩)
 | n + 1,cs=>.need A5 λc=>Wz n (cs++[c])
def Wx (p:Rd):Nat->List D->Rd
 | 0,ds=>.done (.lst ds)
 | n + 1,ds=>p.bnd λv=>Wx p n (ds++[v])
def pSh:Nat->Sh->Rd
 | 0,_=>.done .non
 | _ + 1,.nothing=>.done .non
 | _ + 1,.number lo hi=>Wy lo (hi - lo).toNat (wid (hi - lo).toNat) 0
 | _ + 1,.text q=>.need (λb=>decide ((b:Int)<=q)) λb=>Wz b []
 | n + 1,.list s q=>.need (λb=>decide ((b:Int)<=q)) λb=>Wx (pSh n s) b []
 | n + 1,.pair s r=>(pSh n s).bnd λv=>(pSh n r).bnd λu=>.done (.tup [v,u])
 | n + 1,.choice ss=>.need (λb=>decide (b < ss.length)) λb=>(pSh n (ss.getD b .nothing)).bnd λv=>.done (.tup [.str "of",.int b,v])
mutual
noncomputable def plD:D->Bool
 | .lst xs=>pls xs
 | .tup xs=>pls xs
 | .obj _=>false
 | .scr _=>false
 | .ty _=>false
 | .exc _ _=>false
 | .dic=>false
 | _=>true
noncomputable def pls:List D->Bool
 | []=>true
 | d :: r=>plD d && pls r
end
theorem Qc {k:Int}(h0:0<=k)(h1:k<=xs.length):A7 xs none (some k)=xs.take k.toNat:=by
 have:HT.sIx xs.length xs.length (some k)=k.toNat:=by simp only [HT.sIx];rw [if_neg (by lia)];lia
 unfold A7;rw [this];simp [HT.sIx]
noncomputable def pos (i:Int):Int:=if 0 < i then i else 0
structure ValueRes2 (k c l:Nat)(S:List Ob)(s:Sh)(a b:Int)(r:D)(S':List Ob):Prop where
 fit:Ah s r=true
 lft:∃a' b':Int,S'[l]?=some (.lst [.int a',.int b'])/\((Av s r).length:Int)<=9 * (a - a') + (pos b - pos b')/\pos b'<=pos b/\1<=a - a'/\a - a'<=cnt s + (14 * (s.depth:Int)) * pos a
 deck:DeckAt k c S'
 kp:MK k c l S S'
mutual
noncomputable def szE:D->Nat
 | .lst xs=>1 + Ro xs
 | .tup xs=>1 + Ro xs
 | _=>1
noncomputable def Ro:List D->Nat
 | []=>0
 | d :: r=>szE d + Ro r
end
structure VOk (s:Sh)(v:D):Prop where
 fit:Ah s v=true
 len:(Av s v).length<=14809
local macro_rules | `(tactic| walk_at "y1")=>`(tactic| first
 | walk_at "x1")
local macro_rules | `(tactic| symm)=>`(tactic| repeat (walk_at "y1"))
noncomputable def wD (w:List Nat):List D:=w.map λ(n:Nat)=>D.int (n:Int)
abbrev exS:D:=.exc "Short" []
abbrev exB (a:Nat):D:=.exc "Broken" [.int (a:Int),.non]
noncomputable def rrD:RR->D
 | .told v b=>.tup [v,.int (b:Int)]
 | .short=>exS
 | .broken a=>exB a
def RX (c:Fn)(s:Sh)(p:Rd):Prop:=∀(w:List Nat) (a:Nat),a<=w.length->Pure1 c [s.d,.lst (wD w),.int (a:Int)] (rrD (p.run w a))
noncomputable def seg (w:List Nat)(a b:Nat):List Nat:=(w.drop a).take (b - a)
variable {x:Str}
theorem CZ {kvs:List (Key×D)}{d:D}(e:t.S[n]?=some (.dct kvs))(e2:BK kvs (.inr x)=some d)(h:P d t):W (BI (.obj n) (.str x)) t P:=
 ⟨d,t,by simp only [BI,e,e2];rfl,h⟩
variable {U:Unit->T->Prop}
theorem PQ {g:M D}{d:D}(h:W f t λo t1=>W g t1 λi t2=>W (FA o i d) t2 U):W (FZ f g d) t U:=DK (h.mono λo t1 h1=>DK h1)
theorem HN {d:D}{kvs:List (Key×D)}(e:t.S[n]?=some (.dct kvs))(hl:kvs.length < LIM)(h:U () ⟨t.env,t.S.set n (.dct (BA kvs (.inr x) d))⟩):W (FA (.obj n) (.str x) d) t U:=
 ⟨(),_,by simp only [FA,e,if_pos hl],h⟩
theorem E3 {g:M D}{xs0:List D}(e:t.env[i]?=some (some (.own xs0)))(h:W g t λj t1=>∃n xs d,j = .int n/\t1.env[i]?=some (some (.own xs))/\atI xs n=some d/\P d t1):W (B6 i g) t P:=by
 obtain ⟨j,t1,e1,n,xs,d,rfl,e2,e3,p⟩:=h;refine ⟨d,t1,?_,p⟩;unfold B6;simp only [e];show bnd g _ t=_;unfold bnd;simp only [e1,e2,e3];rfl
theorem PR {g:M D}{d:D}{xs0:List D}(e:t.env[i]?=some (some (.own xs0)))(h:W g t λj t1=>∃n xs k,j = .int n/\t1.env[i]?=some (some (.own xs))/\ixN xs.length n=some k/\U () { t1 with env:=t1.env.set i (some (.own (xs.set k d))) }):W (D9 i g d) t U:=by
 obtain ⟨j,t1,e1,n,xs,k,rfl,e2,e3,p⟩:=h;refine ⟨(),_,?_,p⟩;unfold D9;simp only [e];show bnd g _ t=_;unfold bnd;simp only [e1,e2,e3];rfl
theorem ND {l:List (Str×M D)}(h:W (Da l) ⟨t.env,t.S++[.dct []]⟩ λps t1=>t1.S[t.S.length]?=some (.dct [])/\ps.length<=15/\P (.obj t.S.length) ⟨t1.env,t1.S.set t.S.length (.dct (EA ps))⟩):W (FJ l) t P:=by
 obtain ⟨ps,t1,e1,e2,e3,p⟩:=h;refine ⟨_,_,?_,p⟩;unfold FJ bnd;simp only [e1];unfold GU;simp only [e2,if_pos e3]
theorem GM {Q:List (Key×D)->T->Prop}(h:Q [] t):W (Da []) t Q:=⟨_,_,rfl,h⟩
theorem Cc {k:Str}{r:List (Str×M D)}{Q:List (Key×D)->T->Prop}(h:W f t λd t1=>W (Da r) t1 λps t2=>Q ((.inr k,d) :: ps) t2):W (Da ((k,f) :: r)) t Q:=
 DK (h.mono λd t1 h1=>DK (h1.mono λps t2 h2=>⟨_,_,rfl,h2⟩))
structure St where
 rest:Int
 mixed:Bool
 turn:Int
noncomputable def St.ob (s:St):Ob:=.dct [(.inr (Str.ofString "rest"),.int s.rest),(.inr (Str.ofString "mixed"),.bl s.mixed),(.inr (Str.ofString "turn"),.int s.turn)]
noncomputable def take (s:St)(m:Int):Int×St:=
 if s.mixed=false then (s.rest % m,⟨s.rest / m,s.mixed,s.turn⟩)
 else
  let stir:=(s.rest % 2147483579 + 70001 * (s.turn + 1)) % 2147483579
  let rest:=(stir * stir % 2147483563 * 50021 + 7) % 2147483579
  (rest / 5 % m,⟨rest,s.mixed,s.turn + 1⟩)
theorem EW (a:Int)(n:Nat):(AT a n).length=n:=by simp [AT]
inductive GS where
 | fin
 | st (side:Str) (ws:List (Str×Sh×Int))
def wdD (w:Str×Sh×Int):D:=.tup [.str w.1,w.2.1.d,.int w.2.2]
def GS.d:GS->D
 | .fin=>.tup [.str (Str.ofString "end")]
 | .st side ws=>.tup [.str side,.lst (ws.map wdD)]
noncomputable def GS.isFin:GS->Bool
 | .fin=>true
 | _=>false
variable {j:Nat}
theorem Q8 {a:Int}{d:D}{r:List D}(e:d :: r=(AT a n).drop j):d = .int (a + j)/\r=(AT a n).drop (j + 1)/\j < n:=by
 have hj:j < (AT a n).length:=by
  rcases Nat.lt_or_ge j (AT a n).length with h | h
  ·exact h
  ·rw [List.drop_eq_nil_of_le h] at e;cases e
 rw [List.drop_eq_getElem_cons hj] at e;injection e with e1 e2
 rw [EW] at hj;refine ⟨?_,e2,hj⟩;rw [e1];simp [AT]
structure WOk (n:Int)(w:Str×Sh×Int):Prop where
 ok:wf w.2.1=true
 dep:w.2.1.depth<=3
 lo:0<=w.2.2
 hi:w.2.2 < n
 nm:w.1.length<=90000
inductive GSOk (n:Int):GS->Prop
 | fin:GSOk n .fin
 | st {side:Str} {ws:List (Str×Sh×Int)}:(side=Str.ofString "left"\/side=Str.ofString "right")->0 < ws.length->ws.length<=9->(ws.map (·.1)).Nodup->(∀w∈ws,WOk n w)->GSOk n (.st side ws)
structure GOk (g:List GS):Prop where
 ne:0 < g.length
 le:g.length<=30
 all:∀x∈g,GSOk g.length x
def IN (f:Fn):Prop:=∀(n:Int) (x:GS),GSOk n x->Pure1 f [x.d] (.bl x.isFin)
theorem OF:IN (fnOf 1 1 HA):=by
 intro n x hx S;refine Ap rfl ?_;unfold HA
 cases hx with
 | fin=>
   rw [GS.d];right;exact ⟨by simp [GS.isFin],rfl⟩
 | st hs _ _ _ _=>
   rw [GS.d];right;refine ⟨?_,rfl⟩;rcases hs with rfl | rfl <;> simp [GS.isFin]
def GS.words:GS->D
 | .fin=>.tup []
 | .st _ ws=>.lst (ws.map wdD)
noncomputable def GS.ws:GS->List (Str×Sh×Int)
 | .fin=>[]
 | .st _ ws=>ws
def GR (f:Fn):Prop:=∀(n:Int) (x:GS),GSOk n x->Pure1 f [x.d] x.words
theorem RJ {ce:Fn}(he:IN ce):GR (fnOf 1 1 (FS ce)):=by
 intro n x hx S;refine Ap rfl ?_;unfold FS
 cases x with
 | fin=>
   right;refine (he n .fin hx).use ?_;right;exact ⟨rfl,rfl⟩
 | st side ws=>
   right;refine (he n (.st side ws) hx).use ?_;rw [GS.d];right;exact ⟨rfl,rfl⟩
noncomputable def Dd:Option Nat->D
 | some i=>.int i
 | none=>.non
def Kh (f:Fn):Prop:=∀(n:Int) (x:GS) (nm:Str),GSOk n x->Pure1 f [x.d,.str nm] (Dd (x.ws.findIdx? λw=>w.1 == nm))
variable {α:Type}
theorem KI {p:α->Bool}{l:List α}(h:∀i (hi:i < l.length),i < j->p l[i]=false){x:α}(hx:l[j]?=some x)(hp:p x=true):l.findIdx? p=some j:=by
 obtain ⟨hj,e⟩:=List.getElem?_eq_some_iff.mp hx;rw [List.findIdx?_eq_some_iff_getElem];exact ⟨hj,by rw [e];exact hp,λi hi=>by simpa using h i (by lia) hi⟩
theorem Jj (hw:GR cw):Kh (fnOf 2 4 (Cy cw)):=by
 intro n x nm hx S;refine Ap rfl ?_;unfold Cy;right;refine (hw n x hx).use ?_;have key:∀(ws:List (Str×Sh×Int)) (d:D),ws.length<=9->(∀(t:T) (P:D->T->Prop),P (.int ws.length) t->W (AA [d]) t P)->(∀(t:T) (P:D->T->Prop) (i:Nat) (w:Str×Sh×Int),ws[i]?=some w->P (wdD w) t->W (ixD d (.int i)) t P)->
  W (Ae (BD (BZ (Aa (fB (Aa (Ab 2) Ad) AA) Ad)) (Ar 3)
  (ifS (Aj (Ac (Ac (Ac (Ab 2) (Ab 3) ixD) (fC (.int 0)) ixD) (Ab 1) (eqS id)))
  (Am (Ab 3))
  An))
 (Am (fC .non))) ⟨[some (.val x.d),some (.val (.str nm)),some (.val d),none],S⟩ λo t=>match o with
   | .ret r=>r=Dd (ws.findIdx? λw=>w.1 == nm)/\t.S=S
   | .next=>D.non=Dd (ws.findIdx? λw=>w.1 == nm)/\t.S=S
   | _=>False:=by
   intro ws d hl len ix;right;refine len _ _ ?_;right;refine Fl (Dm (by lia) (by lia)) ?_;refine En (λr t=>∃(j:Nat) (e3:Option Sl),(∀i (hi:i < ws.length),i < j->(ws[i].1 == nm)=false)/\j<=ws.length/\r=(AT 0 ((ws.length:Nat):Int).toNat).drop j/\t=⟨[some (.val x.d),some (.val (.str nm)),some (.val d),e3],S⟩) _ _ ⟨0,none,λi hi h=>absurd h (by lia),by lia,rfl,rfl⟩ ?_ ?_
   ·rintro d' r t ⟨j,e3,hj,hjl,hr,rfl⟩ _;obtain ⟨rfl,hr',hjn⟩:=Q8 hr;rw [Int.toNat_natCast] at hjn;have e:ws[j]?=some ws[j]:=List.getElem?_eq_getElem hjn;rw [Int.zero_add];right;refine ix _ _ j _ e ?_;unfold wdD;right;refine BX (λq=>?_) λq=>?_
    ·right;refine ⟨?_,rfl⟩;rw [KI hj e q];rfl
    ·right;refine ⟨j + 1,_,λi hi hij=>?_,by lia,hr',rfl⟩;rcases Nat.lt_or_ge i j with h | h
     ·exact hj i hi h
     ·have:i=j:=by lia
      subst this;exact q
   ·rintro t ⟨j,e3,hj,hjl,hr,rfl⟩;have hj':j=ws.length:=by
     have:=congrArg List.length hr;rw [List.length_nil,List.length_drop,EW,Int.toNat_natCast] at this;lia
    subst hj';right;refine ⟨?_,rfl⟩;rw [List.findIdx?_eq_none_iff.mpr]
    ·rfl
    ·intro w hw';obtain ⟨i,hi,rfl⟩:=List.mem_iff_getElem.mp hw';exact hj i hi hi
 cases hx with
 | fin=>
   refine Cn ?_;refine key [] (.tup []) (by decide) (λt P h=>SC h) λt P i w e h=>?_;simp at e
 | @st side ws h1 h2 h3 h4 h5=>
   refine Cn ?_;refine key ws (.lst (ws.map wdD)) h3 (λt P h=>SA (by rw [List.length_map];exact h)) λt P i w e h=>?_;obtain ⟨hi,_⟩:=List.getElem?_eq_some_iff.mp e;refine AH ?_ h;unfold atI;rw [Bz (by lia) (by rw [List.length_map];lia)];show (ws.map wdD)[(i:Int).toNat]?=_;rw [Int.toNat_natCast,List.getElem?_map,e];rfl
noncomputable def GS.side:GS->Str
 | .fin=>Str.ofString "end"
 | .st s _=>s
noncomputable def A0 (g:List GS)(q:Nat):GS:=g.getD q .fin
def AJ (g:List GS)(q p:Nat):Str×Sh×Int:=(A0 g q).ws.getD p (Str.ofString "",.nothing,0)
def BB (g:List GS)(q p:Nat):Nat:=(AJ g q p).2.2.toNat
def Zc (g:List GS)(q p:Nat)(v:D):D:=.tup [.str (A0 g q).side,.str (AJ g q p).1,v]
abbrev Mv:=Nat×D
def Iz (g:List GS):Nat->List Mv->Nat
 | q,[]=>q
 | q,(p,_) :: r=>Iz g (BB g q p) r
def R8 (g:List GS):Nat->List Mv->List D
 | _,[]=>[]
 | q,(p,v) :: r=>Zc g q p v :: R8 g (BB g q p) r
structure MvOk (g:List GS)(q:Nat)(p:Nat)(v:D):Prop where
 lt:q < g.length
 pl:p < (A0 g q).ws.length
 fit:Ah (AJ g q p).2.1 v=true
def okQ (g:List GS):Nat->List Mv->Prop
 | _,[]=>True
 | q,(p,v) :: r=>MvOk g q p v/\okQ g (BB g q p) r
theorem Ez {g:List GS}(h:GOk g){q:Nat}(hq:q < g.length):GSOk g.length (A0 g q):=by
 unfold A0;rw [List.getD_eq_getElem?_getD,List.getElem?_eq_getElem hq];exact h.all _ (List.getElem_mem hq)
theorem Cv {g:List GS}{q:Nat}(hq:q < g.length):atI (g.map GS.d) q=some (A0 g q).d:=by
 unfold atI;rw [Bz (by lia) (by rw [List.length_map];lia)];show (g.map GS.d)[(q:Int).toNat]?=_;unfold A0;rw [Int.toNat_natCast,List.getElem?_map,List.getD_eq_getElem?_getD,List.getElem?_eq_getElem hq];rfl
variable {p:Nat}
theorem F0 {g:List GS}{q:Nat}(hp:p < (A0 g q).ws.length):∃side ws,A0 g q = .st side ws/\p < ws.length/\ws[p]?=some (AJ g q p):=by
 unfold AJ
 cases e:A0 g q with
 | fin=>rw [e] at hp;simp [GS.ws] at hp
 | st side ws=>
   rw [e] at hp;have hp:p < ws.length:=hp;refine ⟨side,ws,rfl,hp,?_⟩;show ws[p]?=some (ws.getD p _);rw [List.getD_eq_getElem?_getD,List.getElem?_eq_getElem hp];rfl
theorem GP {ws:List (Str×Sh×Int)}{w:Str×Sh×Int}(e:ws[p]?=some w):atI (ws.map wdD) p=some (wdD w):=by
 obtain ⟨hp,_⟩:=List.getElem?_eq_some_iff.mp e;unfold atI;rw [Bz (by lia) (by rw [List.length_map];lia)];show (ws.map wdD)[(p:Int).toNat]?=_;rw [Int.toNat_natCast,List.getElem?_map,e];rfl
theorem DL {g:List GS}(h:GOk g){q p:Nat}(hq:q < g.length)(hp:p < (A0 g q).ws.length):WOk g.length (AJ g q p):=by
 obtain ⟨side,ws,e,hp',e2⟩:=F0 hp;have:=Ez h hq;rw [e] at this
 cases this with
 | st _ _ _ _ h5=>exact h5 _ (List.mem_of_getElem? e2)
theorem Jh:∀{xs:List D},(∀d∈xs,okD d=true)->oks xs=true
 | [],_=>by rw [oks]
 | d :: r,h=>by rw [oks,h d List.mem_cons_self,Jh λx m=>h x (List.mem_cons_of_mem _ m)];rfl
def Gb (f:Fn):Prop:=∀(g:List GS) (q p:Nat),GOk g->q < g.length->p < (A0 g q).ws.length->Pure1 f [.lst (g.map GS.d),.tup [.int q,.int p]] (.int (BB g q p))
theorem TR:Gb (fnOf 2 2 EO):=by
 intro g q p hg hq hp S;refine Ap rfl ?_;unfold EO;obtain ⟨side,ws,e,hpl,ew⟩:=F0 hp;have hw:=DL hg hq hp;have hlo:=hw.lo;right;refine AH (Cv hq) ?_;rw [e,GS.d];right;refine AH (GP ew) ?_;unfold wdD;right;refine ⟨?_,rfl⟩;unfold BB
 congr 1
 lia
abbrev kR:Key:=.inr (Str.ofString "rest")
abbrev kM:Key:=.inr (Str.ofString "mixed")
abbrev kC:Key:=.inr (Str.ofString "count")
abbrev XT (a b c:D):List (Key×D):=[(kR,a),(kM,b),(kC,c)]
def Room (k r:Nat)(S:List Ob):Prop:=∃(a c:Int) (b:Bool),S[k]?=some (.dct (XT (.int a) (.bl b) (.int c)))/\0<=c/\c + r<=1000000000000000000000000000000
theorem NH {i j:Int}(h1:i.natAbs < 2 ^ 512)(h2:j.natAbs < 2 ^ 512)(h:P (.int (i * j)) t):W (HC (.int i) (.int j)) t P:=
 ⟨_,_,by simp only [HC,i2C,K3,decide_eq_true h1,decide_eq_true h2];rfl,h⟩
theorem Sy {i j:Int}(h1:0 < j)(h2:j < 18446744073709551616)(h:P (.int (i / j)) t):W (GX (.int i) (.int j)) t P:=
 ⟨_,_,by simp only [GX,i2C,KC,decide_eq_true h1,decide_eq_true h2];rfl,h⟩
theorem IB {i:Int}(h0:0<=i)(h:i < 10000000000000000000000000000000000000000000000000000000000000000000000000000000):i.natAbs < 2 ^ 512:=by
 have:(10000000000000000000000000000000000000000000000000000000000000000000000000000000:Nat)<=2 ^ 512:=by decide
 lia
theorem BF {k:Nat}{o':Ob}(h:S[k]?=some o):(S.set k o')[k]?=some o':=Tr h
theorem DO {x:Ob}:(S++[x])[S.length]?=some x:=by simp
noncomputable def cs:Nat->Nat
 | 0=>10
 | d + 1=>10 + 3 * cs d
theorem Xu (d:Nat):10<=cs d:=by cases d <;> simp [cs]
variable {m:Nat}
theorem EY (h:n<=m)(hm:m<=1000:=by decide):BL (n:Int)=true:=Dm (by lia) (by lia)
variable {ss:List Sh}
theorem Y0 (h:∀x∈ss,x.depth<=n):(Sh.choice ss).depth<=n + 1:=by
 rw [Sh.depth];refine Nat.succ_le_succ ?_
 induction ss with
 | nil=>rw [D8];exact Nat.zero_le _
 | cons x r ih=>rw [D8];exact Nat.max_le.mpr ⟨h x List.mem_cons_self,ih λy m=>h y (List.mem_cons_of_mem _ m)⟩
structure Drawn (k r:Nat)(dp:Nat)(v:D)(S':List Ob):Prop where
 ex:∃s:Sh,v=s.d/\s.depth<=dp/\wf s=true
 pool:Room k r S'
theorem Vv {s:Sh}{q:Int}(h:(Sh.list s q).depth<=m + 1):s.depth<=m:=by rw [Sh.depth] at h;exact Nat.le_of_succ_le_succ h
theorem Qh {a b:Sh}(h:(Sh.pair a b).depth<=m + 1):a.depth<=m/\b.depth<=m:=by rw [Sh.depth] at h;lia
theorem MX (h:(Sh.choice ss).depth<=m + 1):∀x∈ss,x.depth<=m:=λx hx=>by rw [Sh.depth] at h;exact Nat.le_trans (JO hx) (Nat.le_of_succ_le_succ h)
theorem X1 {k:Nat}(h:k < ss.length):atI (shD ss) (k:Int)=some (ss[k]).d:=by
 unfold atI;rw [Bz (by lia) (by rw [Cj];lia)];show (shD ss)[(k:Int).toNat]?=_;rw [Int.toNat_natCast,EC,List.getElem?_eq_getElem h];rfl
noncomputable def vB:Nat->Nat
 | 0=>10
 | m + 1=>10 + vB m * 3
theorem OV (h:wf (.number lo hi)=true):lo<=hi/\0 < hi - lo + 1/\hi - lo + 1 < 4611686018427387904/\wid (hi - lo).toNat<=8:=by
 simp only [wf,Bool.and_eq_true,decide_eq_true_eq] at h;refine ⟨by lia,by lia,by lia,GO 8 _ ?_⟩;have:(256:Nat) ^ 8=18446744073709551616:=by decide
 lia
theorem TY {g:Int}(z0:0<=g)(z1:g < hi - lo + 1):lo<=lo + g/\lo + g<=hi:=by lia
theorem R7 {g q:Int}(c:Nat)(g0:0<=g)(q0:0<=q)(g1:g < (c:Int) + 1):∃m:Nat,(if g < q then g else q)=m/\m<=c/\(m:Int)<=q:=⟨(if g < q then g else q).toNat,by split <;> lia⟩
structure Val (k r:Nat)(s:Sh)(c:Nat)(v:D)(S':List Ob):Prop where
 fit:Ah s v=true
 len:(Av s v).length<=c
 pool:Room k r S'
def okB (g:List GS):Nat->List Mv->Prop
 | _,[]=>True
 | q,(p,v) :: r=>(Av (AJ g q p).2.1 v).length<=400/\okB g (BB g q p) r
structure TOk (g:List GS)(mv:List Mv):Prop where
 ok:okQ g 0 mv
 bd:okB g 0 mv
 len:mv.length<=60
theorem NI {k:Nat}{h:List D->List D->Option (List D)}{g:M (List D)}(w:W f t λo t1=>o = .obj k/\∃xs0,t1.S[k]?=some (.lst xs0)/\W g t1 λds t2=>∃xs ys,t2.S[k]?=some (.lst xs)/\h xs ds=some ys/\P .non ⟨t2.env,t2.S.set k (.lst ys)⟩):W (objM h f g) t P:=by
 unfold objM;refine W_bnd.mpr (w.mono λo t1 z9=>?_);obtain ⟨e,xs0,e1,w⟩:=z9;subst e;obtain ⟨ds,t2,e2,xs,ys,e3,e4,p⟩:=w;refine ⟨_,_,?_,p⟩;simp only [e1,bnd,e2,e3,e4];rfl
def F7 (g:List GS)(sd:Str):Nat->List Mv->List D
 | _,[]=>[]
 | q,(p,v) :: r=>(if (A0 g q).side=sd then .int p :: Av (AJ g q p).2.1 v else [])++F7 g sd (BB g q p) r
abbrev kL:Key:=.inr (Str.ofString "left")
abbrev kRt:Key:=.inr (Str.ofString "right")
theorem kLR:¬kL=kRt:=by intro h;injection h with h;rw [GA] at h;exact absurd h (by decide)
theorem kRL:¬kRt=kL:=λh=>kLR h.symm
theorem sLR:¬Str.ofString "left" = Str.ofString "right":=λh=>kLR (congrArg Sum.inr h)
variable {a b:D}
theorem TJ:BK [(kL,a),(kRt,b)] kL=some a:=by simp [BK,List.find?_cons]
theorem TK:BK [(kL,a),(kRt,b)] kRt=some b:=by
 unfold BK;rw [List.find?_cons,show decide (kL=kRt)=false from decide_eq_false kLR];simp [List.find?_cons]
theorem QG:EA [(kL,a),(kRt,b)]=[(kL,a),(kRt,b)]:=by
 unfold EA;simp only [List.foldl_cons,List.foldl_nil];have e1:BA [] kL a=[(kL,a)]:=by simp [BA]
 rw [e1];unfold BA;rw [if_neg (by simp only [List.any_cons,List.any_nil,Bool.or_false,decide_eq_true_eq];exact kLR)];rfl
theorem TL {d:D}:BA [(kL,a),(kRt,b)] kL d=[(kL,d),(kRt,b)]:=by
 unfold BA;rw [if_pos (by simp)];simp only [List.map_cons,List.map_nil,if_true,if_neg kRL]
theorem TM {d:D}:BA [(kL,a),(kRt,b)] kRt d=[(kL,a),(kRt,d)]:=by
 unfold BA;rw [if_pos (by simp)];simp only [List.map_cons,List.map_nil,if_true,if_neg kLR]
abbrev sL:Str:=Str.ofString "left"
abbrev sR:Str:=Str.ofString "right"
structure Wr (K A B:Nat)(S:List Ob)(xs ys:List D):Prop where
 k:S[K]?=some (.dct [(kL,.obj A),(kRt,.obj B)])
 a:S[A]?=some (.lst xs)
 b:S[B]?=some (.lst ys)
 ab:A≠B
 ka:K≠A
 kb:K≠B
def FrO (F:List (Nat×Ob))(k:Nat)(S:List Ob):Prop:=∀p∈F,p.1≠k/\S[p.1]?=some p.2
def aw (F:List (Nat×Ob))(S:List Ob):Prop:=∀p∈F,S[p.1]?=some p.2
def Xt (F:List (Nat×Ob))(k r:Nat)(S:List Ob):Prop:=Room k r S/\FrO F k S
structure ValF (F:List (Nat×Ob))(k r:Nat)(s:Sh)(c:Nat)(v:D)(S':List Ob):Prop where
 fit:Ah s v=true
 len:(Av s v).length<=c
 pool:Xt F k r S'
noncomputable def GS.sd:GS->Str
 | .fin=>Str.ofString "end"
 | .st s _=>s
inductive Odd (x:GS):D->Prop
 | non:Odd x .non
 | lst {ds:List D}:Odd x (.lst ds)
 | two {a b:D}:Odd x (.tup [a,b])
 | four {a b c d:D}:Odd x (.tup [a,b,c,d])
 | sideN {b c:D}:Odd x (.tup [.non,b,c])
 | side {s:Str} {b c:D}:¬s=x.sd->Odd x (.tup [.str s,b,c])
 | nmN {s:Str} {c:D}:Odd x (.tup [.str s,.non,c])
 | nmI {s:Str} {i:Int} {c:D}:Odd x (.tup [.str s,.int i,c])
 | nm {s nm:Str} {c:D}:(x.ws.findIdx? λw=>w.1 == nm)=none->Odd x (.tup [.str s,.str nm,c])
 | val {s nm:Str} {c:D} {p:Nat} {w:Str×Sh×Int}:(x.ws.findIdx? λw=>w.1 == nm)=some p->x.ws[p]?=some w->okD c=true->Ah w.2.1 c=false->Odd x (.tup [.str s,.str nm,c])
def Rq (n:Nat)(d:D):Prop:=∀m,n<=m->eqN m d d=some true
theorem Rq.mono {d:D}(h:Rq n d)(e:n<=m):Rq m d:=λk hk=>h k (Nat.le_trans e hk)
theorem GI {i:Int}:Rq n (.int i):=λm _=>by cases m <;> (show some (i == i)=some true;rw [beq_self_eq_true])
theorem Nt {i:Bool}:Rq n (.bl i):=λm _=>by cases m <;> (show some (i == i)=some true;rw [beq_self_eq_true])
theorem II {i:Str}:Rq n (.str i):=λm _=>by cases m <;> (show some (i == i)=some true;rw [beq_self_eq_true])
theorem Ph:Rq n .non:=λm _=>by cases m <;> rfl
theorem Lr (h:∀x∈xs,Rq n x):Rq (n + 1) (.tup xs):=λm hm=>by
 obtain ⟨k,rfl⟩:∃k,m=k + 1:=Nat.exists_eq_add_of_le' (by lia);have e:CL (eqN k) xs xs=some true:=Go λx hx=>h x hx k (by lia);rw [eqN,e];simp
theorem GJ (h:∀x∈xs,Rq n x):Rq (n + 1) (.lst xs):=λm hm=>by
 obtain ⟨k,rfl⟩:∃k,m=k + 1:=Nat.exists_eq_add_of_le' (by lia);rw [eqN,if_pos rfl];exact Go λx hx=>h x hx k (by lia)
def mB:Nat->Nat
 | 0=>0
 | m + 1=>10 + vB m * 2 + mB m * 2
structure Mis (n:Nat)(s:Sh)(v:D):Prop where
 ok:okD v=true
 no:Ah s v=false
 rq:Rq n v
structure Fit (n:Nat)(s:Sh)(v:D):Prop where
 ok:okD v=true
 fit:Ah s v=true
 rq:Rq n v
def Gr (S S':List Ob):Prop:=S.length<=S'.length/\∀i,i < S.length->S'[i]?=S[i]?
theorem Gr.trans {S S1 S2:List Ob}(a:Gr S S1)(b:Gr S1 S2):Gr S S2:=⟨Nat.le_trans a.1 b.1,λi h=>(b.2 i (Nat.lt_of_lt_of_le h a.1)).trans (a.2 i h)⟩
theorem Gr.app {ex:List Ob}:Gr S (S++ex):=⟨by rw [List.length_append];lia,λi h=>List.getElem?_append_left h⟩
theorem Gr.set {S S':List Ob}{k:Nat}{o:Ob}(a:Gr S S')(h:S.length<=k):Gr S (S'.set k o):=⟨by rw [List.length_set];exact a.1,λi hi=>by rw [List.getElem?_set_ne (by lia)];exact a.2 i hi⟩
variable {S':List Ob}
theorem Gr.get {k:Nat}(a:Gr S S')(h:S[k]?=some o):S'[k]?=some o:=by rw [a.2 k (List.getElem?_eq_some_iff.mp h).1];exact h
abbrev lr (a b:D):List (Key×D):=[(kL,a),(kRt,b)]
abbrev dW (l r:List Nat):List (Key×D):=lr (.lst (wD l)) (.lst (wD r))
abbrev dP (a b:Nat):List (Key×D):=lr (.int a) (.int b)
noncomputable def onS {α:Type}(s:Str)(a b:α):α:=if s=sL then a else b
variable {s:Str}
theorem Wc (h:s=sL\/s=sR):BK (lr a b) (.inr s)=some (onS s a b):=by
 unfold onS;rcases h with rfl | rfl
 ·rw [if_pos rfl];exact TJ
 ·rw [if_neg (Ne.symm sLR)];exact TK
theorem We {d:D}(h:s=sL\/s=sR):BA (lr a b) (.inr s) d=lr (onS s d a) (onS s b d):=by
 unfold onS;rcases h with rfl | rfl
 ·rw [if_pos rfl,if_pos rfl];exact TL
 ·rw [if_neg (Ne.symm sLR),if_neg (Ne.symm sLR)];exact TM
inductive Sr where
 | stop
 | brk (k:Nat) (s:Str)
 | next (m:D) (h a b:Nat)
def Wg (side:Str)(ws:List (Str×Sh×Int))(w:List Nat)(p:Nat):RR×Nat:=match w[p]? with
 | none=>(.short,0)
 | some c=>match ws[c]? with
   | none=>(.broken p,0)
   | some wd=>((pSh 3 wd.2.1).run w (p + 1),c)
def X2 (g:List GS)(wl wr:List Nat)(h a b:Nat):Sr:=match A0 g h with
 | .fin=>.stop
 | .st side ws=>match Wg side ws (onS side wl wr) (onS side a b) with
   | (.short,_)=>.stop
   | (.broken k,_)=>.brk k side
   | (.told v e,c)=>.next (.tup [.str side,.str (ws.getD c (Str.ofString "",.nothing,0)).1,v]) (ws.getD c (Str.ofString "",.nothing,0)).2.2.toNat (onS side e a) (onS side b e)
abbrev Rs:=List D×Nat×Nat×Nat×Option (Nat×Str)
def J9 (g:List GS)(wl wr:List Nat):Nat->Nat->Nat->Nat->List D->Rs
 | 0,h,a,b,t=>(t,h,a,b,none)
 | f + 1,h,a,b,t=>match X2 g wl wr h a b with
   | .stop=>(t,h,a,b,none)
   | .brk k s=>(t,h,a,b,some (k,s))
   | .next m h' a' b'=>J9 g wl wr f h' a' b' (t++[m])
structure Pl (g:List GS)(wl wr:List Nat)(h a b:Nat):Prop where
 h:h < g.length
 a:a<=wl.length
 b:b<=wr.length
def Wir (S:List Ob)(d:D)(w:List Nat):Prop:=d = .lst (wD w)\/∃k,d = .obj k/\S[k]?=some (.lst (wD w))
def PureS (S:List Ob)(f:Fn)(ds:List D)(r:D):Prop:=Wf f ds S λr' S'=>r'=r/\S'=S
theorem PureS.use {f:Fn}{r:D}(h:PureS S f ds r){P:D->List Ob->Prop}(p:P r S):Wf f ds S P:=h.mono λ_ _ ⟨e1,e2⟩=>by subst e1 e2;exact p
def isB (l:List D):Prop:=∀d∈l,∃x:Nat,d = .int (x:Int)/\x < 256
theorem Me {a b:List D}(ha:isB a)(hb:isB b):isB (a++b):=λd h=>(List.mem_append.mp h).elim (ha d) (hb d)
theorem FQ {x:Nat}{b:List D}(hx:x < 256)(hb:isB b):isB (.int (x:Int) :: b):=λd h=>by
 rcases List.mem_cons.mp h with rfl | h
 ·exact ⟨x,rfl,hx⟩
 ·exact hb d h
theorem OT:∀(w n:Nat),isB (nb w n)
 | 0,n=>λd h=>nomatch h
 | w + 1,n=>Me (OT w _) (FQ (Nat.mod_lt _ (by decide)) λd h=>nomatch h)
theorem EE:∀(n:Nat) (s:Sh),s.depth<=n->wf s=true->∀v,Ah s v=true->isB (Av s v)
 | 0,s,h,_,_,_=>absurd s.depth_pos (by lia)
 | n + 1,s,hs,hw,v,hf=>by
   cases s with
   | nothing=>rw [Av];exact λd h=>nomatch h
   | number lo hi=>
     cases v <;> simp [Ah] at hf
     rw [Av];exact OT _ _
   | text q=>
     simp only [wf,Bool.and_eq_true,decide_eq_true_eq] at hw
     cases v <;> simp only [Ah,Bool.false_eq_true] at hf
     rename_i x;simp only [Bool.and_eq_true,decide_eq_true_eq,List.all_eq_true] at hf;rw [Av];refine FQ (by lia) λd h=>?_;obtain ⟨c,hc,rfl⟩:=List.mem_map.mp h;have:=hf.2 c hc;simp only [A5,Bool.and_eq_true,decide_eq_true_eq] at this;exact ⟨c,rfl,by lia⟩
   | list s q=>
     simp only [wf,Bool.and_eq_true,decide_eq_true_eq] at hw;rw [Sh.depth] at hs
     cases v <;> simp only [Ah,Bool.false_eq_true] at hf
     rename_i ds;simp only [Bool.and_eq_true,decide_eq_true_eq,List.all_eq_true] at hf;rw [Av];refine FQ (by lia) λd h=>?_;obtain ⟨l,hl,hd⟩:=List.mem_flatten.mp h;obtain ⟨e,he,rfl⟩:=List.mem_map.mp hl;exact EE n s (by lia) hw.2 e (hf.2 e he) d hd
   | pair s r=>
     simp only [wf,Bool.and_eq_true] at hw;rw [Sh.depth] at hs;unfold Ah at hf
     split at hf
     ·rw [Bool.and_eq_true] at hf;rw [Av];exact Me (EE n s (by lia) hw.1 _ hf.1) (EE n r (by lia) hw.2 _ hf.2)
     ·cases hf
   | choice ss=>
     simp only [wf,Bool.and_eq_true,decide_eq_true_eq] at hw;rw [Sh.depth] at hs;unfold Ah at hf
     split at hf
     ·next o k x=>
      simp only [Bool.and_eq_true,decide_eq_true_eq] at hf;obtain ⟨j,rfl⟩:=Int.eq_ofNat_of_zero_le hf.1.2.1;have hj:j < ss.length:=by have:=hf.1.2.2;lia
      have e1:ss[j]?=some ss[j]:=List.getElem?_eq_getElem hj;have h2:=hf.2;rw [Int.toNat_natCast,BN ss _ _ _ e1] at h2;rw [Av,Int.toNat_natCast,Ea ss _ _ _ e1];exact FQ (by lia) (EE n _ (Nat.le_trans (Cb ss _ _ e1) (by lia)) (CF hw.2 _ (List.getElem_mem hj)) x h2)
     ·cases hf
theorem FE {l:List α}{ι f:α->D}{elt:M D}(h:∀a∈l,W elt ⟨some (.val (ι a)) :: fr,S⟩ λx t'=>x=f a/\t'=⟨some (.val (ι a)) :: fr,S⟩) :
 W (AX (Ar 0) Bq elt (l.map ι)) ⟨z :: fr,S⟩ λxs t'=>xs=l.map f/\t'.S=S:=by
 induction l generalizing z with
 | nil=>exact W_compL_nil.mpr ⟨rfl,rfl⟩
 | cons a r ih=>
   rw [List.map_cons,BS];refine D6 (GN ?_);rw [if_pos rfl];refine (h a List.mem_cons_self).mono λx t' z9=>?_;obtain ⟨e1,e2⟩:=z9;subst e1 e2;refine (ih (z:=some (.val (ι a))) λb hb=>h b (List.mem_cons_of_mem _ hb)).mono λxs t' z9=>?_;obtain ⟨e1,e2⟩:=z9;subst e1;exact ⟨rfl,e2⟩
structure Mvs (g:List GS)(wl wr:List Nat)(mv:List Mv)(h a b:Nat)(t:List D):Prop where
 t:t=R8 g 0 mv
 ok:okQ g 0 mv
 h:Iz g 0 mv=h
 a:F7 g sL 0 mv=wD (wl.take a)
 b:F7 g sR 0 mv=wD (wr.take b)
def Agr (c:Nat)(w w2:List Nat):Prop:=∀i,i < c->w2[i]?=w[i]?
abbrev Fu (wl wr:List Nat):Nat:=wl.length + wr.length + 1
def Rch (g:List GS)(vl vr:List Nat)(tk:List D)(h a b:Nat):Prop:=Pl g vl vr h a b/\∀xl xr:List Nat,J9 g (vl++xl) (vr++xr) (Fu (vl++xl) (vr++xr)) 0 0 0 []=J9 g (vl++xl) (vr++xr) (Fu (vl++xl) (vr++xr)) h a b tk
def Fed (g:List GS)(vl vr:List Nat)(tk:List D)(h a b:Nat)(fl:D):Prop:=Rch g vl vr tk h a b/\match J9 g vl vr (Fu vl vr) 0 0 0 [] with
 | (t',h',a',b',none)=>tk=t'/\h=h'/\a=a'/\b=b'/\fl = .non
 | (_,_,_,_,some (k,s))=>fl = .tup [.int (k:Nat),.str s]
inductive NR where
 | stop
 | brk (k:Nat)
 | msg (k:Nat) (m:D) (th e:Nat)
def nxR (gs:List (List GS))(w:List Nat)(side:Str)(p:Nat)(st:List Nat):NR:=match w[p]? with
 | none=>.stop
 | some k=>match gs[k]? with
   | none=>.brk p
   | some g=>match A0 g (st.getD k 0) with
     | .fin=>.brk p
     | .st s ws=>if s=side then match Wg side ws w (p + 1) with
        | (.short,_)=>.stop
        | (.broken j,_)=>.brk j
        | (.told v e,c)=>.msg k (.tup [.str side,.str (ws.getD c (Str.ofString "",.nothing,0)).1,v]) (ws.getD c (Str.ofString "",.nothing,0)).2.2.toNat e
       else .stop
noncomputable def sd (s:Bool):Str:=if s=true then sL else sR
structure Ls where
 p:Bool->Nat
 st:List Nat
 hd:List (List D)
def Ls.nx (σ:Ls)(gs:List (List GS))(w:Bool->List Nat)(s:Bool):NR:=nxR gs (w s) (sd s) (σ.p s) σ.st
noncomputable def Ls.go (σ:Ls)(s:Bool)(k:Nat)(m:D)(th e:Nat):Ls:=⟨λx=>if x=s then e else σ.p x,σ.st.set k th,σ.hd.set k (σ.hd.getD k []++[m])⟩
def Stp (gs:List (List GS))(w:Bool->List Nat)(σ:Ls)(s:Bool)(τ:Ls):Prop:=∃k m th e,σ.nx gs w s = .msg k m th e/\τ=σ.go s k m th e
inductive Run (gs:List (List GS))(w:Bool->List Nat):Ls->Ls->Prop
 | refl (σ:Ls):Run gs w σ σ
 | step {σ τ ρ:Ls} {s:Bool}:Stp gs w σ s τ->Run gs w τ ρ->Run gs w σ ρ
section
variable {gs:List (List GS)}{w:Bool->List Nat}
def NF (gs:List (List GS))(w:Bool->List Nat)(σ:Ls):Prop:=∀s k m th e,σ.nx gs w s≠.msg k m th e
def Pre (l l':List (List D)):Prop:=l.length=l'.length/\∀k,∃x,l'.getD k []=l.getD k []++x
end
theorem Ss (s:Bool):sd s=sL\/sd s=sR:=by cases s <;> first | exact .inl rfl | exact .inr rfl
section
variable {gs:List (List GS)}{w:Bool->List Nat}
end
noncomputable def ls0 (gs:List (List GS)):Ls:=⟨λ_=>0,gs.map λ_=>0,gs.map λ_=>[]⟩
def End (gs:List (List GS))(w:Bool->List Nat)(σ:Ls):Prop:=Run gs w (ls0 gs) σ/\NF gs w σ
noncomputable def Vl:NR->Option Nat
 | .brk j=>some j
 | _=>none
def Xw (gs:List (List GS))(w:Bool->List Nat)(σ:Ls):Option (Bool×Nat):=match Vl (σ.nx gs w true) with
 | some j=>some (true,j)
 | none=>(Vl (σ.nx gs w false)).map λj=>(false,j)
section
variable {gs:List (List GS)}{w:Bool->List Nat}
end
section
variable {f:Str}{t:T}{P:D->T->Prop}{O:Out->T->Prop}{k:Nat}{n:Str}{fs:List (Str×D)}{v:D}
def aB (f:Str)(d:D):M D:=KW d λ_ _ fs t=>(fs.lookup f).map λv=>(v,t)
def Z7 (f:Str)(v d:D):M Out:=KW d λk n fs t=>if fs.length < 1000 then some (.next,{ t with S:=t.S.set k (.ins n (Q4 f v fs)) }) else none
end
local macro_rules | `(tactic| walk_at "y1")=>`(tactic| first
 | walk_at "x1" | clear 31 PQ)
abbrev rdF (g:List GS)(h W P:Nat):List (Str×D):=[("grammar",.lst (g.map GS.d)),("standing",.int (h:Nat)),("wires",.obj W),("places",.obj P)]
structure Rdr (n0:Nat)(S:List Ob)(k:Nat)(g:List GS)(vl vr:List Nat)(h a b W P l r:Nat):Prop where
 k0:n0<=k
 l0:n0<=l
 r0:n0<=r
 ne:l≠r
 k:S[k]?=some (.ins "Reader" (rdF g h W P))
 w:S[W]?=some (.dct (lr (.obj l) (.obj r)))
 p:S[P]?=some (.dct (dP a b))
 l:S[l]?=some (.lst (wD vl))
 r:S[r]?=some (.lst (wD vr))
def Low (n0:Nat)(S S':List Ob):Prop:=n0<=S'.length/\∀i,i < n0->S'[i]?=S[i]?
theorem A9 {u:Ob}(h:S[i]?=some u)(n:j≠i):(S.set j o)[i]?=some u:=by rw [List.getElem?_set_ne n];exact h
def Kp (k:Nat)(S S':List Ob):Prop:=S.length<=S'.length/\∀i,i < S.length->i≠k->S'[i]?=S[i]?
theorem Kp.refl {k:Nat}:Kp k S S:=⟨Nat.le_refl _,λ_ _ _=>rfl⟩
theorem Kp.setk {k:Nat}(a:Kp k S S'):Kp k S (S'.set k o):=⟨by rw [List.length_set];exact a.1,λi h n=>by rw [List.getElem?_set_ne (Ne.symm n)];exact a.2 i h n⟩
theorem VX {u:Ob}(h:S[i]?=some u):i < S.length:=(List.getElem?_eq_some_iff.mp h).1
def gsD (gs:List (List GS)):D:=.lst (gs.map λg=>.lst (g.map GS.d))
abbrev liF (gs:List (List GS))(W P N H:Nat):List (Str×D):=[("grammars",gsD gs),("wires",.obj W),("places",.obj P),("standings",.obj N),("heard",.obj H)]
def nD (l:List Nat):List D:=l.map λn=>.int (n:Nat)
structure Lis (n0:Nat)(S:List Ob)(gs:List (List GS))(w:Bool->List Nat)(σ:Ls)(k W P N H:Nat)(hs:List Nat):Prop where
 ik:S[k]?=some (.ins "Listener" (liF gs W P N H))
 iw:S[W]?=some (.dct (dW (w true) (w false)))
 ip:S[P]?=some (.dct (dP (σ.p true) (σ.p false)))
 it:S[N]?=some (.lst (nD σ.st))
 ih:S[H]?=some (.lst (hs.map .obj))
 hl:hs.length=gs.length
 hh:∀(i h:Nat),hs[i]?=some h->S[h]?=some (.lst (σ.hd.getD i []))
 nd:hs.Nodup
 nN:N∉hs
 nH:H∉hs
 ne:N≠H
 lP:n0<=P
 lN:n0<=N
 lh:∀h∈hs,n0<=h
 ls:σ.st.length=gs.length
 lo:∀(i:Nat) (g:List GS),gs[i]?=some g->σ.st.getD i 0 < g.length
 ld:σ.hd.length=gs.length
 fw:∀i,2 * (σ.hd.getD i []).length<=σ.p true + σ.p false
theorem lrF (F:Bool->D)(s:Bool):BK (lr (F true) (F false)) (.inr (sd s))=some (F s):=by
 rw [Wc (Ss s)]
 cases s <;> rfl
theorem CK {d:D}(h:ds[i]?=some d):atI ds (i:Int)=some d:=by
 unfold atI;rw [Bz (by lia) (by have:=(List.getElem?_eq_some_iff.mp h).1;lia)];show ds[(i:Int).toNat]?=_;rw [Int.toNat_natCast];exact h
theorem IC {l:List Nat}(h:i < l.length):(nD l)[i]?=some (.int ((l.getD i 0:Nat):Int)):=by
 unfold nD;rw [List.getElem?_map,List.getElem?_eq_getElem h,List.getD_eq_getElem?_getD,List.getElem?_eq_getElem h];rfl
theorem Ry {k:Nat}{d:D}(e:t.S[k]?=some (.lst ds))(h:ds[i]?=some d)(p:P d t):F2.W (ixD (.obj k) (.int (i:Int))) t P:=W_ix_obj.mpr ⟨ds,e,d,CK h,p⟩
section
variable {n0:Nat}{S:List Ob}{gs:List (List GS)}{w:Bool->List Nat}{σ:Ls}{k W P N H:Nat}{hs:List Nat}
end
theorem MH {g:M D}(h:F2.W f ⟨t.env,t.S++[.dct []]⟩ λa t1=>F2.W g t1 λb t2=>t2.S[t.S.length]?=some (.dct [])/\P (.obj t.S.length) ⟨t2.env,t2.S.set t.S.length (.dct (lr a b))⟩):F2.W (FJ [("left",f),("right",g)]) t P:=by
 refine ND (Cc (h.mono λa t1 h1=>Cc (h1.mono λb t2 h2=>GM ⟨h2.1,by show 2<=15;decide,?_⟩)));rw [show EA [(Sum.inr (Str.ofString "left"),a),(Sum.inr (Str.ofString "right"),b)]=lr a b from QG];exact h2.2
structure HrdAt (S:List Ob)(H:Nat)(hs:List Nat)(hd:List (List D)):Prop where
 ih:S[H]?=some (.lst (hs.map .obj))
 hl:hs.length=hd.length
 hh:∀(i h:Nat),hs[i]?=some h->S[h]?=some (.lst (hd.getD i []))
def JY (f:Fn):Prop:=∀(g:List GS) (q p:Nat) (v:D),GOk g->MvOk g q p v->(Av (AJ g q p).2.1 v).length<=50000->Pure1 f [(A0 g q).d,.int p,v] (.lst (.int p :: Av (AJ g q p).2.1 v))
theorem Wh (hc:BP c 3):JY (fnOf 3 3 (DH c)):=by
 intro g q p v hg hm hb S;have hL:LIM=100000:=rfl;refine Ap rfl ?_;unfold DH;obtain ⟨side,ws,e,hpl,ew⟩:=F0 hm.pl;have hw:=DL hg hm.lt hm.pl;have hfit:=hm.fit;rw [e,GS.d];right;refine FD ?_;right;refine AH (GP ew) ?_;unfold wdD;right;refine (hc _ hw.dep hw.ok v hfit (by lia)).use ?_;refine ⟨_,rfl,?_⟩;right;refine AC (by rw [hL];show 1 + _<=_;lia) ?_;exact ⟨rfl,rfl⟩
def At (w:List Nat)(a:Nat)(xs:List D):Prop:=∃p q,wD w=p++(xs++q)/\p.length=a
theorem TC {o:Str}(h:Eh o=true):o=Str.ofString "of":=by
 unfold Eh at h;simpa using h
theorem Yq {m:Str}{ns:List Str}(e:m∈AM)(q:P (.bl (ns.any λn=>Dn m n)) t):W (G0 ns (.exc m ds)) t P:=⟨_,_,by unfold G0;dsimp only;rw [if_pos e];rfl,q⟩
def Gw (S S':List Ob):Prop:=S.length<=S'.length/\∀i,i < S.length->S'[i]?=S[i]?
mutual
inductive Ow (S:List Ob):D->D->List Nat->Prop
 | non:Ow S .non .non []
 | int (i:Int):Ow S (.int i) (.int i) []
 | str (x:Str):Ow S (.str x) (.str x) []
 | tup {ds vs:List D} {fp:List Nat}:Ows S ds vs fp->Ow S (.tup ds) (.tup vs) fp
 | obj {k:Nat} {ds vs:List D} {fp:List Nat}:S[k]?=some (.lst ds)->Ows S ds vs fp->k∉fp->Ow S (.obj k) (.lst vs) (k :: fp)
inductive Ows (S:List Ob):List D->List D->List Nat->Prop
 | nil:Ows S [] [] []
 | cons {d v:D} {fp fp':List Nat} {ds vs:List D}:Ow S d v fp->Ows S ds vs fp'->(∀k∈fp,k∉fp')->Ows S (d :: ds) (v :: vs) (fp++fp')
end
def prt (g:List GS)(mv:List Mv)(i:Nat):List D:=match mv[i]? with
 | some (p,v)=>.int (p:Int) :: Av (AJ g (Iz g 0 (mv.take i)) p).2.1 v
 | none=>[]
structure Due (g:List GS)(mv:List Mv)(rl rr k:Nat):Prop where
 le:k<=mv.length
 a:(F7 g sL 0 (mv.take k)).length<=rl
 b:(F7 g sR 0 (mv.take k)).length<=rr
 z:k=mv.length\/(k < mv.length/\onS (A0 g (Iz g 0 (mv.take k))).side rl rr < onS (A0 g (Iz g 0 (mv.take k))).side (F7 g sL 0 (mv.take k)).length (F7 g sR 0 (mv.take k)).length + (prt g mv k).length)
noncomputable def nvO:Nat->D->Bool
 | _,.non=>true
 | _,.int _=>true
 | _,.str _=>true
 | n + 1,.lst xs=>decide (xs.length<=1000) && xs.all (nvO n)
 | n + 1,.tup xs=>decide (xs.length<=1000) && xs.all (nvO n)
 | _,_=>false
theorem EI:∀(n:Nat) (s:Sh),s.depth<=n->wf s=true->∀v,Ah s v=true->nvO n v=true
 | 0,s,h,_,_,_=>absurd s.depth_pos (by lia)
 | n + 1,s,hs,hw,v,hf=>by
   cases s with
   | nothing=>cases v <;> simp [Ah,GZ] at hf;rfl
   | number lo hi=>cases v <;> simp [Ah] at hf;rfl
   | text q=>cases v <;> simp only [Ah,Bool.false_eq_true] at hf;rfl
   | list s q=>
     simp only [wf,Bool.and_eq_true,decide_eq_true_eq] at hw;rw [Sh.depth] at hs
     cases v <;> simp only [Ah,Bool.false_eq_true] at hf
     rename_i ds;simp only [Bool.and_eq_true,decide_eq_true_eq,List.all_eq_true] at hf;rw [nvO,Bool.and_eq_true,decide_eq_true_eq,List.all_eq_true];exact ⟨by lia,λd hd=>EI n s (by lia) hw.2 d (hf.2 d hd)⟩
   | pair s r=>
     simp only [wf,Bool.and_eq_true] at hw;rw [Sh.depth] at hs;unfold Ah at hf
     split at hf
     ·rw [Bool.and_eq_true] at hf;have h1:=EI n s (by lia) hw.1 _ hf.1;have h2:=EI n r (by lia) hw.2 _ hf.2;simp [nvO,h1,h2]
     ·cases hf
   | choice ss=>
     simp only [wf,Bool.and_eq_true,decide_eq_true_eq] at hw;rw [Sh.depth] at hs;unfold Ah at hf
     split at hf
     ·next o k x=>
      simp only [Bool.and_eq_true,decide_eq_true_eq] at hf;obtain ⟨j,rfl⟩:=Int.eq_ofNat_of_zero_le hf.1.2.1;have hj:j < ss.length:=by have:=hf.1.2.2;lia
      have e1:ss[j]?=some ss[j]:=List.getElem?_eq_getElem hj;have h2:=hf.2;rw [Int.toNat_natCast,BN ss _ _ _ e1] at h2;have h3:=EI n _ (Nat.le_trans (Cb ss _ _ e1) (by lia)) (CF hw.2 _ (List.getElem_mem hj)) x h2;have g1:∀o:Str,nvO n (.str o)=true:=λo=>by cases n <;> rfl
      have g2:∀i:Int,nvO n (.int i)=true:=λo=>by cases n <;> rfl
      simp [nvO,h3,g1,g2]
     ·cases hf
theorem K7:∀(n:Nat) (v:D),nvO n v=true->nvO (n + 1) v=true
 | 0,v,h=>by cases v <;> first | rfl | (simp [nvO] at h;done)
 | n + 1,v,h=>by
   cases v <;> first | rfl | (simp [nvO] at h;done) | skip
   all_goals
    rw [nvO,Bool.and_eq_true,List.all_eq_true] at h;rw [nvO,Bool.and_eq_true,List.all_eq_true];exact ⟨h.1,λd hd=>K7 n d (h.2 d hd)⟩
theorem Mo {n:Nat}{v:D}(h:nvO n v=true):∀m,nvO (n + m) v=true
 | 0=>h
 | m + 1=>K7 _ _ (Mo h m)
theorem Lq:∀(n:Nat) (v:D),nvO n v=true->Rq n v
 | 0,v,h=>by cases v <;> first | exact Ph | exact GI | exact II | (simp [nvO] at h;done)
 | n + 1,v,h=>by
   cases v <;> first | exact Ph | exact GI | exact II | (simp [nvO] at h;done) | skip
   ·rw [nvO,Bool.and_eq_true,List.all_eq_true] at h;exact Lr λx hx=>Lq n x (h.2 x hx)
   ·rw [nvO,Bool.and_eq_true,List.all_eq_true] at h;exact GJ λx hx=>Lq n x (h.2 x hx)
theorem Yp {d:D}{n m1 m2:String}{b1 b2:Bool}(h0:Qz d=false)(h1:tyD d=some n)(h2:Dh n m1=some b1)(h3:Dh n m2=some b2)(h:P (.bl (b1 || b2)) t):W (Je [d,.tup [.ty m1,.ty m2]]) t P:=by
 refine ⟨_,_,?_,h⟩
 cases d <;> first | (simp only [Je,h1,h2,h3];done) | cases h0
local macro_rules | `(tactic| walk_at "y1")=>`(tactic| first
 | walk_at "x1" | ((with_reducible refine' Yp ?wv ?wu ?wt ?ws ?_);(case wv=>exact rfl);(case wu=>exact rfl);(case wt=>exact rfl);(case ws=>exact rfl)))
def YS (m:D):Prop:=∃s n v,m = .tup [.str (sd s),.str n,v]/\nvO 3 v=true
def ah (l:List (List D)):Prop:=∀i,∀m∈l.getD i [],YS m
section
variable {gs:List (List GS)}{w:Bool->List Nat}
end
structure Sx where
 rest:Int
 dig:Bool
 cnt:Int
noncomputable def sxL (a b c:D):List (Key×D):=[(.inr (Str.ofString "rest"),a),(.inr (Str.ofString "digits"),b),(.inr (Str.ofString "count"),c)]
def Sx.l (s:Sx):List (Key×D):=sxL (.int s.rest) (.bl s.dig) (.int s.cnt)
theorem Jt {c:D}:BK (sxL a b c) (.inr (Str.ofString "rest"))=some a:=rfl
theorem Pw {c:D}:BK (sxL a b c) (.inr (Str.ofString "digits"))=some b:=rfl
theorem Pv {c:D}:BK (sxL a b c) (.inr (Str.ofString "count"))=some c:=rfl
theorem Rn {c d:D}:BA (sxL a b c) (.inr (Str.ofString "rest")) d=sxL d b c:=rfl
theorem UR {c d:D}:BA (sxL a b c) (.inr (Str.ofString "count")) d=sxL a b d:=rfl
def SxB (r:Nat)(s:Sx):Prop:=0<=s.cnt/\s.cnt + r<=1000000000000000000000000000000
def DrawD (f:Fn):Prop:=∀(s:Sx) (m:Int) (r:Nat),SxB (r + 1) s->0 < m->m < 4611686018427387904->∃(x:Int) (s':Sx),0<=x/\x < m/\SxB r s'/\∀(S:List Ob) (K:Nat),S[K]?=some (.dct s.l)->Wf f [.obj K,.int m] S λq S'=>q = .int x/\S'=S.set K (.dct s'.l)
theorem Qg:DrawD (fnOf 2 4 CI):=by
 intro s m r ⟨c0,c1⟩ hm0 hm1;obtain ⟨a,b,c⟩:=s;dsimp only at c0 c1
 cases b with
 | true=>
   refine ⟨a % m,⟨a / m,true,c⟩,Int.emod_nonneg _ (by lia),Int.emod_lt_of_pos _ hm0,⟨c0,by dsimp only;lia⟩,λS K hS=>?_⟩;refine Ap rfl ?_;unfold CI;symm;refine CZ hS Pw ?_;symm;refine CZ hS Jt ?_;symm;refine NG hm0 ?_;symm;refine CZ hS Jt ?_;symm;refine Sy hm0 (by lia) ?_;symm;refine HN hS (by show 3 < 100000;decide) ?_;rw [show BA (Sx.l ⟨a,true,c⟩) (.inr (Str.ofString "rest")) (.int (a / m))=Sx.l ⟨a / m,true,c⟩ from Rn];symm;exact ⟨rfl,rfl⟩
 | false=>
   obtain ⟨x1,hx1⟩:∃x1,x1=(a % 999999999989 + 480007 * (c + 1)) % 999999999989:=⟨_,rfl⟩;obtain ⟨x2,hx2⟩:∃x2,x2=x1 * x1 % 1000000000039:=⟨_,rfl⟩;obtain ⟨x3,hx3⟩:∃x3,x3=(x2 + 290027) * x2 % 999999999961:=⟨_,rfl⟩;have a1:0<=x1:=by rw [hx1];exact Int.emod_nonneg _ (by decide)
   have b1:x1 < 999999999989:=by rw [hx1];exact Int.emod_lt_of_pos _ (by decide)
   have a2:0<=x2:=by rw [hx2];exact Int.emod_nonneg _ (by decide)
   have b2:x2 < 1000000000039:=by rw [hx2];exact Int.emod_lt_of_pos _ (by decide)
   refine ⟨x3 / 7 % m,⟨a,false,c + 1⟩,Int.emod_nonneg _ (by lia),Int.emod_lt_of_pos _ hm0,⟨by dsimp only;lia,by dsimp only;lia⟩,λS K hS=>?_⟩;refine Ap rfl ?_;unfold CI;symm;refine CZ hS Pw ?_;symm;refine CZ hS Pv ?_;symm;refine HN hS (by show 3 < 100000;decide) ?_;rw [show BA (Sx.l ⟨a,false,c⟩) (.inr (Str.ofString "count")) (.int (c + 1))=Sx.l ⟨a,false,c + 1⟩ from UR];have g1:(S.set K (.dct (Sx.l ⟨a,false,c + 1⟩)))[K]?=some (.dct (Sx.l ⟨a,false,c + 1⟩)):=BF hS;symm;refine CZ g1 Jt ?_;symm;refine CZ g1 Pv ?_;symm;refine NH (by decide) (IB (show (0:Int)<=c + 1 by lia) (show c + 1 < 10000000000000000000000000000000000000000000000000000000000000000000000000000000 by lia)) ?_;symm;rw [<-hx1];refine NH (IB (by lia) (by lia)) (IB (by lia) (by lia)) ?_;symm;rw [<-hx2];refine NH (IB (by lia) (by lia)) (IB (by lia) (by lia)) ?_;symm;rw [<-hx3];refine Sy (by decide) (by decide) ?_;symm;refine NG hm0 ?_;symm;exact ⟨rfl,rfl⟩
def C8 (f:Fn):Prop:=∀(ns:List Int) (k:Nat),ns.length<=63->k<=1000->∃s:Sx,SxB 900000000000000000000000000000 s/\∀S:List Ob,Wf f [.scr ns,.int (k:Nat)] S λq S'=>q = .obj S.length/\S'=S++[.dct s.l]
theorem Pt:C8 (fnOf 2 3 Cw):=by
 intro ns k hl hk
 by_cases z:k < ns.length
 ·refine ⟨⟨ns[k],decide (1000000000000000000<=ns[k]),k⟩,⟨by dsimp only;lia,by dsimp only;lia⟩,λS=>?_⟩;refine Ap rfl ?_;unfold Cw;symm;refine DB (decide_eq_true (by lia)) ?_;symm;refine W_ix_scr.mpr ⟨ns[k],?_,?_⟩
  ·unfold atI;rw [Bz (by lia) (by lia)];show ns[(k:Int).toNat]?=_;rw [Int.toNat_natCast,List.getElem?_eq_getElem z]
  ·symm;refine ND ?_;refine Cc ?_;symm;refine Cc ?_;refine Rz ?_;symm;refine C3 (decide_eq_false (by lia)) ?_;symm;refine Cc ?_;symm;refine GM ?_;refine ⟨DO,by show 3<=15;decide,rfl,?_⟩;show (S++[Ob.dct []]).set S.length _=_;rw [List.set_append_right _ _ (Nat.le_refl _),Nat.sub_self];rfl
 ·refine ⟨⟨0,true,k⟩,⟨by dsimp only;lia,by dsimp only;lia⟩,λS=>?_⟩;refine Ap rfl ?_;unfold Cw;symm;refine C3 (decide_eq_false (by lia)) ?_;symm;refine ND ?_;refine Cc ?_;symm;refine Cc ?_;refine Rz ?_;symm;refine DB (decide_eq_true (by lia)) ?_;refine Cc ?_;symm;refine GM ?_;refine ⟨DO,by show 3<=15;decide,rfl,?_⟩;show (S++[Ob.dct []]).set S.length _=_;rw [List.set_append_right _ _ (Nat.le_refl _),Nat.sub_self];rfl
theorem Dy:A7 xs none (some (n:Int))=xs.take n:=by
 by_cases h:n<=xs.length
 ·rw [Qc (by lia) (by lia),Int.toNat_natCast]
 ·have:HT.sIx xs.length xs.length (some (n:Int))=xs.length:=by simp only [HT.sIx];rw [if_neg (by lia)];lia
  unfold A7;rw [this];simp only [HT.sIx,List.drop_zero,Nat.sub_zero];rw [List.take_length,List.take_of_length_le (by lia)]
def StK (K r:Nat)(S S':List Ob):Prop:=Kp K S S'/\∃s:Sx,S'[K]?=some (.dct s.l)/\SxB r s
theorem Kp.trans {k:Nat}{S S1 S2:List Ob}(a:Kp k S S1)(b:Kp k S1 S2):Kp k S S2:=⟨Nat.le_trans a.1 b.1,λi h n=>(b.2 i (Nat.lt_of_lt_of_le h a.1) n).trans (a.2 i h n)⟩
theorem Gr.kp {k:Nat}{S1:List Ob}(a:Gr S S1):Kp k S S1:=⟨a.1,λi h _=>a.2 i h⟩
def Fst (gs:List (List GS))(w:Bool->List Nat)(σ:Ls)(S:List Ob)(a b:D):Prop:=match Xw gs w σ with
 | some (s,j)=>a = .non/\b = .tup [.str (sd s),.int (j:Nat)]
 | none=>∃H hs,a = .tup [.obj H,.tup [.int (σ.p true:Nat),.int (σ.p false:Nat)]]/\b = .non/\HrdAt S H hs σ.hd
theorem SxB.mono {r r':Nat}{s:Sx}(h:SxB r s)(e:r'<=r):SxB r' s:=⟨h.1,by have:=h.2;lia⟩
def Dw (f:Fn)(as:List D)(s:Sx)(v:D)(s':Sx):Prop:=∀(S:List Ob) (K:Nat),K < S.length->Wf f (.obj K :: as) (S.set K (.dct s.l)) λq S'=>q=v/\S'=S.set K (.dct s'.l)
variable {v:D}
theorem Dw.use {f:Fn}{as:List D}{s s':Sx}(h:Dw f as s v s'){S:List Ob}{K:Nat}(hK:K < S.length){P:D->List Ob->Prop}(p:P v (S.set K (.dct s'.l))):Wf f (.obj K :: as) (S.set K (.dct s.l)) P:=(h S K hK).mono λq S' ⟨e1,e2⟩=>by subst e1 e2;exact p
def CV (f:Fn):Prop:=∀(s:Sx) (m:Int) (r:Nat),SxB (r + 1) s->0 < m->m < 4611686018427387904->∃(x:Int) (s':Sx),0<=x/\x < m/\SxB r s'/\Dw f [.int m] s (.int x) s'
theorem FI {f:Fn}(h:DrawD f):CV f:=λs m r hs h0 h1=>by
 obtain ⟨x,s',x0,x1,b,d⟩:=h s m r hs h0 h1;refine ⟨x,s',x0,x1,b,λS K hK=>?_⟩;refine (d _ K (List.getElem?_set_self hK)).mono λq S' ⟨e1,e2⟩=>⟨e1,?_⟩;rw [e2,List.set_set]
def CJ (f:Fn)(n:Nat):Prop:=∀(d:Nat) (s:Sx) (r:Nat),d < n->SxB (r + cs d) s->∃(sh:Sh) (s':Sx),sh.depth<=d + 1/\wf sh=true/\SxB r s'/\Dw f [.int (d:Nat)] s sh.d s'
noncomputable def IZ:Sh->Sh
 | .list s q=>.list s (if 6 < q then 6 else q)
 | .nothing=>.nothing
 | .number a b=>.number a b
 | .text m=>.text m
 | .pair a b=>.pair a b
 | .choice ss=>.choice ss
theorem MV (s:Sh):(IZ s).depth=s.depth:=by cases s <;> rfl
theorem SK {s:Sh}(h:wf s=true):wf (IZ s)=true:=by
 cases s with
 | list s q=>
   rw [IZ];simp only [wf,Bool.and_eq_true,decide_eq_true_eq] at h ⊢;refine ⟨⟨?_,?_⟩,h.2⟩ <;> (split <;> lia)
 | _=>exact h
theorem IG {cr:Fn}{n e:Nat}(hr:CJ cr n)(he:e < n):∀(m:Nat) (s:Sx) (r:Nat),SxB (r + m * cs e) s->∃(ss:List Sh) (s':Sx),ss.length=m/\(∀x∈ss,x.depth<=e + 1/\wf x=true)/\SxB r s'/\∀(l:List D) (S:List Ob) (K:Nat) (z:Option Sl),l.length=m->K < S.length->F2.W (AX (Ar 0) Bq (Ag cr (Aa (Ab 1) (Aa (Ac (Ab 2) (fC (.int 1)) BG) Ad))) l) ⟨[z,some (.val (.obj K)),some (.val (.int ((e + 1:Nat):Int)))],S.set K (.dct s.l)⟩ λq t'=>q=ss.map Sh.d/\t'.S=S.set K (.dct s'.l)
 | 0,s,r,hs=>⟨[],s,rfl,(λ_ h=>nomatch h),hs.mono (by lia),λl S K z hl hK=>by
   have:l=[]:=List.eq_nil_of_length_eq_zero hl;subst this;exact W_compL_nil.mpr ⟨rfl,rfl⟩⟩
 | m + 1,s,r,hs=>by
   obtain ⟨sh,s1,h1,h2,b1,d1⟩:=hr e s (r + m * cs e) he (hs.mono (by rw [Nat.succ_mul];lia));obtain ⟨ss,s2,g1,g2,b2,d2⟩:=IG hr he m s1 r b1;refine ⟨sh :: ss,s2,by rw [List.length_cons,g1],λx hx=>?_,b2,λl S K z hl hK=>?_⟩
   ·rcases List.mem_cons.mp hx with rfl | hx
    ·exact ⟨h1,h2⟩
    ·exact g2 x hx
   cases l with
   | nil=>cases hl
   | cons d l=>
     rw [BS];refine D6 (GN ?_);rw [if_pos rfl];symm;rw [show ((e + 1:Nat):Int) - 1=(e:Nat) by lia];refine d1.use hK ?_;symm;refine (d2 l S K _ (Nat.succ.inj hl) hK).mono λq t' z9=>?_;obtain ⟨e1,e2⟩:=z9;subst e1;exact ⟨rfl,e2⟩
theorem Ps {cr:Fn}(ht:CV ct)(hr:n=0\/CJ cr n):CJ (fnOf 2 5 (AV ct cr)) (n + 1):=by
 intro d s r hd p0;have hcs:=Xu d;obtain ⟨i,s1,i0,i1,b1,d1⟩:=ht s (if d=0 then 3 else 6) (r + (cs d - 1)) (p0.mono (by lia)) (by split <;> decide) (by split <;> decide);have hm:(3:Int) + 3 * (if decide ((0:Int) < (d:Int))=true then 1 else 0)=if d=0 then 3 else 6:=by
  by_cases z:d=0
  ·subst z;rfl
  ·rw [if_neg z,if_pos (decide_eq_true (by lia))];rfl
 by_cases k0:i=0
 ·subst k0;refine ⟨.nothing,s1,by show 1<=_;lia,rfl,b1.mono (by lia),λS K hK=>?_⟩;refine Ap rfl ?_;unfold AV;symm;refine Ex (CW (by decide) (by decide)) ?_;symm;rw [hm];refine d1.use hK ?_;symm;exact ⟨by rw [Sh.d],rfl⟩
 by_cases k1:i=1
 ·subst k1;obtain ⟨a,s2,a0,a1,b2,d2⟩:=ht s1 9 (r + 8) (b1.mono (by lia)) (by decide) (by decide);obtain ⟨b,s3,c0,c1,b3,d3⟩:=ht s2 10000000000000000 (r + 7) b2 (by decide) (by decide);obtain ⟨g,s4,z0,z1,b4,d4⟩:=ht s3 3 (r + 6) b3 (by decide) (by decide);obtain ⟨x,s5,x0,x1,b5,d5⟩:=ht s4 10000000000000000 (r + 5) b4 (by decide) (by decide);obtain ⟨h,s6,h0,h1,b6,d6⟩:=ht s5 7 (r + 4) b5 (by decide) (by decide);obtain ⟨dd,ed,lo,rfl,l0,l1⟩:=GF (xs:=[D.int 0,D.int (a - 4),D.int (b - 1000000000000000)]) z0 (by simpa using z1) (p:=λd=>∃m:Int,d = .int m/\-1000000000000000<=m/\m<=10000000000000000) (by
   simp only [List.forall_mem_cons];exact ⟨⟨_,rfl,by decide,by decide⟩,⟨_,rfl,by lia,by lia⟩,⟨_,rfl,by lia,by lia⟩,λ_ z=>nomatch z⟩)
  obtain ⟨dd,ed2,hi,rfl,m0,m1⟩:=GF (xs:=[D.int 0,D.int 1,D.int 200,D.int 255,D.int 256,D.int 70000,D.int x]) h0 (by simpa using h1) (p:=λd=>∃m:Int,d = .int m/\0<=m/\m<=10000000000000000) (by
   simp only [List.forall_mem_cons];exact ⟨⟨_,rfl,by decide,by decide⟩,⟨_,rfl,by decide,by decide⟩,⟨_,rfl,by decide,by decide⟩,⟨_,rfl,by decide,by decide⟩,⟨_,rfl,by decide,by decide⟩,⟨_,rfl,by decide,by decide⟩,⟨_,rfl,by lia,by lia⟩,λ_ z=>nomatch z⟩)
  refine ⟨.number lo (lo + hi),s6,by show 1<=_;lia,?_,b6.mono (by lia),λS K hK=>?_⟩
  ·simp only [wf,Bool.and_eq_true,decide_eq_true_eq];lia
  refine Ap rfl ?_;unfold AV;symm;refine Ex (CW (by decide) (by decide)) ?_;symm;rw [hm];refine d1.use hK ?_;symm;refine d2.use hK ?_;symm;refine d3.use hK ?_;symm;refine d4.use hK ?_;have e15:(10:Int) ^ (15:Int).toNat=1000000000000000:=by decide
  rw [e15];refine AH ed ?_;symm;refine d5.use hK ?_;symm;refine d6.use hK ?_;refine AH ed2 ?_;symm;exact ⟨by rw [Sh.d],rfl⟩
 by_cases k2:i=2
 ·subst k2;obtain ⟨g,s2,z0,z1,b2,d2⟩:=ht s1 4 (r + 8) (b1.mono (by lia)) (by decide) (by decide);obtain ⟨dd,ed,m,rfl,m0,m1⟩:=GF (xs:=[D.int 0,D.int 1,D.int 5,D.int 250]) z0 (by simpa using z1) (p:=λd=>∃m:Int,d = .int m/\0<=m/\m<=250) (by
   simp only [List.forall_mem_cons];exact ⟨⟨_,rfl,by decide,by decide⟩,⟨_,rfl,by decide,by decide⟩,⟨_,rfl,by decide,by decide⟩,⟨_,rfl,by decide,by decide⟩,λ_ z=>nomatch z⟩)
  refine ⟨.text m,s2,by show 1<=_;lia,?_,b2.mono (by lia),λS K hK=>?_⟩
  ·simp only [wf,Bool.and_eq_true,decide_eq_true_eq];exact ⟨m0,m1⟩
  refine Ap rfl ?_;unfold AV;symm;refine Ex (CW (by decide) (by decide)) ?_;symm;rw [hm];refine d1.use hK ?_;symm;refine d2.use hK ?_;refine AH ed ?_;symm;exact ⟨by rw [Sh.d],rfl⟩
 obtain ⟨e,rfl⟩:∃e,d=e + 1:=⟨d - 1,by
  have:¬d=0:=λz=>by rw [if_pos z] at i1;lia
  lia⟩
 rw [if_neg (show ¬e + 1=0 by lia)] at i1 d1 hm;have hrr:CJ cr n:=hr.resolve_left (by lia);have hen:e < n:=by lia
 have hce:cs (e + 1)=10 + 3 * cs e:=rfl;have he1:((e + 1:Nat):Int) - 1=(e:Nat):=by lia
 by_cases k3:i=3
 ·subst k3;obtain ⟨sh,s2,hdp,hwf,b2,d2⟩:=hrr e s1 (r + 5) hen (b1.mono (by lia));obtain ⟨g,s3,z0,z1,b3,d3⟩:=ht s2 4 (r + 4) b2 (by decide) (by decide);obtain ⟨dd,ed,m,rfl,m0,m1⟩:=GF (xs:=[D.int 0,D.int 2,D.int 6,D.int 250]) z0 (by simpa using z1) (p:=λd=>∃m:Int,d = .int m/\0<=m/\m<=250) (by
   simp only [List.forall_mem_cons];exact ⟨⟨_,rfl,by decide,by decide⟩,⟨_,rfl,by decide,by decide⟩,⟨_,rfl,by decide,by decide⟩,⟨_,rfl,by decide,by decide⟩,λ_ z=>nomatch z⟩)
  refine ⟨.list (IZ sh) m,s3,?_,?_,b3.mono (by lia),λS K hK=>?_⟩
  ·rw [Sh.depth,MV];lia
  ·simp only [wf,Bool.and_eq_true,decide_eq_true_eq];exact ⟨⟨m0,m1⟩,SK hwf⟩
  refine Ap rfl ?_;unfold AV;symm;refine Ex (CW (by decide) (by decide)) ?_;symm;rw [hm];refine d1.use hK ?_;symm;rw [he1];refine d2.use hK ?_
  cases sh with
  | list s0 q=>
    rw [Sh.d];symm;refine d3.use hK ?_;refine AH ed ?_;symm;exact ⟨by simp only [IZ,Sh.d],rfl⟩
  | _=>
    rw [Sh.d];symm;refine d3.use hK ?_;refine AH ed ?_;symm;exact ⟨by simp only [IZ,Sh.d],rfl⟩
 by_cases k4:i=4
 ·subst k4;obtain ⟨sh,s2,hdp,hwf,b2,d2⟩:=hrr e s1 (r + cs e) hen (b1.mono (by lia));obtain ⟨sh3,s3,hdp3,hwf3,b3,d3⟩:=hrr e s2 r hen b2;refine ⟨.pair sh sh3,s3,?_,?_,b3,λS K hK=>?_⟩
  ·rw [Sh.depth];lia
  ·simp only [wf,Bool.and_eq_true];exact ⟨hwf,hwf3⟩
  refine Ap rfl ?_;unfold AV;symm;refine Ex (CW (by decide) (by decide)) ?_;symm;rw [hm];refine d1.use hK ?_;symm;rw [he1];refine d2.use hK ?_;symm;rw [he1];refine d3.use hK ?_;symm;exact ⟨by rw [Sh.d],rfl⟩
 have k5:i=5:=by lia
 subst k5;obtain ⟨g,s2,z0,z1,b2,d2⟩:=ht s1 3 (r + 3 * cs e) (b1.mono (by lia)) (by decide) (by decide);obtain ⟨g,rfl⟩:=Int.eq_ofNat_of_zero_le z0;obtain ⟨ss,s3,hsl,hs1,b3,d3⟩:=IG hrr hen (1 + g) s2 r (b2.mono (by have:(1 + g) * cs e<=3 * cs e:=Nat.mul_le_mul_right _ (by lia);lia));refine ⟨.choice ss,s3,?_,?_,b3,λS K hK=>?_⟩
 ·exact Y0 λx hx=>(hs1 x hx).1
 ·simp only [wf,Bool.and_eq_true,decide_eq_true_eq];exact ⟨⟨by lia,by lia⟩,PV λx hx=>(hs1 x hx).2⟩
 refine Ap rfl ?_;unfold AV;symm;refine Ex (CW (by decide) (by decide)) ?_;symm;rw [hm];refine d1.use hK ?_;symm;refine d2.use hK ?_;symm;refine Fl (by simp [BL];lia) ?_;refine (d3 (AT 0 (1 + (g:Int)).toNat) S K none (by unfold AT;rw [List.length_map,List.length_range];lia) hK).mono λq t' z9=>?_;obtain ⟨e1,e2⟩:=z9;subst e1;refine AC (by rw [List.length_map,hsl];show _<=100000;lia) ?_;symm;refine ⟨?_,e2⟩;rw [Sh.d,HK]
theorem StK.mono {K r r':Nat}{S S1:List Ob}(h:StK K r S S1)(e:r'<=r):StK K r' S S1:=⟨h.1,h.2.imp λs q=>⟨q.1,q.2.mono e⟩⟩
theorem DrawD.use {f:Fn}(h:DrawD f){K r:Nat}{S0 S:List Ob}{m:Int}(many:Int)(d:StK K (r + 1) S0 S){P:D->List Ob->Prop}(p:∀i S',0<=i->i < many->StK K r S0 S'->P (.int i) S')(e:m=many:=by first | rfl | decide)(h1:0 < many:=by decide)(h2:many < 4611686018427387904:=by decide):Wf f [.obj K,.int m] S P:=by
 subst e;obtain ⟨k,s,hK,b⟩:=d;obtain ⟨x,s1,x0,x1,b1,d1⟩:=h s m r b h1 h2;refine (d1 S K hK).mono λq S' z9=>?_;obtain ⟨e1,e2⟩:=z9;subst e1 e2;exact p x _ x0 x1 ⟨k.setk,s1,BF hK,b1⟩
structure ValC (K r:Nat)(S0:List Ob)(s:Sh)(c:Nat)(v:D)(S':List Ob):Prop where
 fit:Ah s v=true
 len:(Av s v).length<=c
 st:StK K r S0 S'
noncomputable def Ww:D->D
 | .str y=>.int (y.cps.getD 0 0:Nat)
 | d=>d
theorem N5 (x:Str):(x.cps.toList.map λc=>D.str ⟨#[c]⟩).map Ww=x.cps.toList.map λn=>D.int (n:Nat):=by
 rw [List.map_map];refine List.map_congr_left λn _=>?_;rfl
variable {cm:Fn}
theorem Nb (hc:BP c n)(hm:H9 cm):BP (fnOf 2 7 (Di c cm)) (n + 1):=by
 intro s hs hwf d hf hlen S;have hL:LIM=100000:=rfl;refine Ap rfl ?_;unfold Di
 cases s with
 | nothing=>
   rw [Sh.d];symm;exact ⟨by rw [Av],rfl⟩
 | number lo hi=>
   have hsp:=MD hwf;have hwd:=GO 9 _ hsp;simp only [wf,Bool.and_eq_true,decide_eq_true_eq] at hwf
   cases d <;> simp [Ah] at hf
   rename_i i;rw [Sh.d];have e1:hi - lo=(((hi - lo).toNat:Nat):Int):=by lia
   have e2:i - lo=(((i - lo).toNat:Nat):Int):=by lia
   symm;rw [e1,e2];refine (hm _ hsp).use ?_;symm;refine Fl (Dm (by lia) (by lia)) ?_;refine En (λr t=>∃(z:Option Sl) (m:Nat) (acc:List D),t=⟨[some (.val (.tup [.str "number",.int lo,.int hi])),some (.val (.int i)),some (.val (.str "number")),some (.val (.int m)),some (.val (.lst acc)),z,none],S⟩/\nb r.length m++acc=nb (wid (hi - lo).toNat) (i - lo).toNat) _ _ ⟨_,_,_,rfl,by simp [AT]⟩ ?_ ?_
   ·rintro d r t ⟨z,m,acc,rfl,hacc⟩ _;rw [List.length_cons,nb,List.append_assoc] at hacc;have hl:acc.length < LIM:=by
     have:=congrArg List.length hacc;simp only [List.length_append,List.length_cons,List.length_nil,K5] at this;lia
    symm;refine AC (by show 1 + acc.length<=100000;rw [hL] at hl;lia) ?_;symm;exact ⟨_,m / 256,_,rfl,hacc⟩
   ·rintro t ⟨z,m,acc,rfl,hacc⟩;rw [List.length_nil,nb,List.nil_append] at hacc;symm;exact ⟨by rw [hacc,Av],rfl⟩
 | text q=>
   simp only [wf,Bool.and_eq_true,decide_eq_true_eq] at hwf
   cases d <;> simp [Ah] at hf
   rename_i x;rw [Sh.d];symm;refine J8 (by rw [hL];lia) ?_;symm;refine (Ck (f:=Ww) (fr:=[]) ?_).mono ?_
   ·intro d m;obtain ⟨k,hk,rfl⟩:=List.mem_map.mp m;symm;refine LH rfl ?_;exact ⟨rfl,rfl⟩
   ·rintro xs t' ⟨rfl,hS⟩;rw [N5];have hl:x.cps.toList.length<=250:=by rw [<-Cm];lia
    refine AC (by rw [List.length_map,hL];lia) ?_;symm;refine AC (by simp only [List.length_map,List.length_cons,List.length_nil,hL];lia) ?_;symm;exact ⟨by rw [Av];rfl,hS⟩
 | list s q=>
   simp only [wf,Bool.and_eq_true,decide_eq_true_eq] at hwf;rw [Sh.depth] at hs
   cases d <;> simp only [Ah,Bool.false_eq_true] at hf
   rename_i ds;rw [Bool.and_eq_true,decide_eq_true_eq,List.all_eq_true] at hf;rw [Av] at hlen ⊢;rw [Sh.d];symm;refine En (λr t=>∃(z:Option Sl) (acc:List D),t=⟨[some (.val (.tup [.str "list",s.d,.int q])),some (.val (.lst ds)),some (.val (.str "list")),none,some (.val (.lst acc)),none,z],S⟩/\acc++(r.map λd=>Av s d).flatten = .int (ds.length:Nat) :: (ds.map λd=>Av s d).flatten) _ _ ⟨_,_,rfl,rfl⟩ ?_ ?_
   ·rintro d r t ⟨z,acc,rfl,hacc⟩ m;rw [List.map_cons,List.flatten_cons,<-List.append_assoc] at hacc;have hl:acc.length + (Av s d).length<=LIM:=by
     have:=congrArg List.length hacc;rw [List.length_append,List.length_append] at this;lia
    symm;refine (hc s (by lia) hwf.2 d (hf.2 d m) (by lia)).use ?_;symm;refine AC hl ?_;exact ⟨_,_,rfl,hacc⟩
   ·rintro t ⟨z,acc,rfl,hacc⟩;rw [List.map_nil,List.flatten_nil,List.append_nil] at hacc;symm;exact ⟨by rw [hacc],rfl⟩
 | pair s r=>
   simp only [wf,Bool.and_eq_true] at hwf;rw [Sh.depth] at hs;unfold Ah at hf
   split at hf
   case h_2=>cases hf
   case h_1 a b=>
    rw [Bool.and_eq_true] at hf;rw [Av] at hlen ⊢;rw [List.length_append] at hlen;rw [Sh.d];symm;refine (hc s (by lia) hwf.1 a hf.1 (by lia)).use ?_;symm;refine (hc r (by lia) hwf.2 b hf.2 (by lia)).use ?_;symm;refine AC (by lia) ?_;symm;exact ⟨rfl,rfl⟩
 | choice ss=>
   simp only [wf,Bool.and_eq_true,decide_eq_true_eq] at hwf;rw [Sh.depth] at hs;unfold Ah at hf
   split at hf
   case h_2=>cases hf
   case h_1 o k x=>
    simp only [Bool.and_eq_true,decide_eq_true_eq] at hf;obtain ⟨⟨ho,k0,k1⟩,hf⟩:=hf;have hk:k.toNat < ss.length:=by lia
    have e1:ss[k.toNat]?=some ss[k.toNat]:=List.getElem?_eq_getElem hk;have hl:=Cj ss;have e2:atI (shD ss) k=some (ss[k.toNat]).d:=by
     unfold atI;rw [Bz k0 (by lia)];show (shD ss)[k.toNat]?=_;rw [EC,e1];rfl
    rw [BN ss _ _ _ e1] at hf;rw [Av] at hlen ⊢;rw [Ea ss _ _ _ e1] at hlen ⊢;rw [List.length_cons] at hlen;rw [Sh.d];symm;refine GL e2 ?_;symm;refine (hc _ (Nat.le_trans (Cb ss _ _ e1) (by lia)) (CF hwf.2 _ (List.getElem_mem hk)) x hf (by lia)).use ?_;symm;refine AC (by simp only [List.length_cons,List.length_nil];lia) ?_;symm;exact ⟨rfl,rfl⟩
noncomputable def nm14:List Str:=[Str.ofString "a",Str.ofString "ab",Str.ofString "b",Str.ofString "ba",Str.ofString "abc",Str.ofString "zz",Str.ofString "hello",Str.ofString "x",Str.ofString "quit",Str.ofString "go",Str.ofString "abcdefgh",Str.ofString "c",Str.ofString "no",Str.ofString "abcdefgi"]
def ES (o k:Nat):Str:=nm14.getD ((o + 3 * k) % 14) (Str.ofString "a")
theorem QL (o k:Nat):(ES o k).length<=90000:=by
 have h:∀i:Fin 14,(nm14.getD i.val (Str.ofString "a")).length<=90000:=by decide +kernel
 exact h ⟨(o + 3 * k) % 14,Nat.mod_lt _ (by decide)⟩
theorem TW (o k:Nat):(ES o k).length<=1000:=by
 have h:∀i:Fin 14,(nm14.getD i.val (Str.ofString "a")).length<=1000:=by decide +kernel
 exact h ⟨(o + 3 * k) % 14,Nat.mod_lt _ (by decide)⟩
structure GSN (n:Int)(x:GS):Prop where
 ok:GSOk n x
 nm:∀w∈x.ws,w.1.length<=1000
structure GON (g:List GS):Prop where
 ok:GOk g
 nm:∀x∈g,∀w∈x.ws,w.1.length<=1000
theorem TV {o:Nat}(ho:o < 14)(hm:m<=9):((List.range m).map (ES o)).Nodup:=by
 have h:∀i:Fin 14,((List.range 9).map (ES i.val)).Nodup:=by decide +kernel
 have e:(List.range m).map (ES o)=((List.range 9).map (ES o)).take m:=by
  rw [<-List.map_take,List.take_range,Nat.min_eq_left hm]
 rw [e];exact (h ⟨o,ho⟩).sublist (List.take_sublist _ _)
theorem TU (o k:Nat):atI (nm14.map D.str) (((o:Int) + 3 * (k:Int)) % 14)=some (.str (ES o k)):=by
 have e:(((o:Int) + 3 * (k:Int)) % 14)=(((o + 3 * k) % 14:Nat):Int):=by lia
 have hl:(nm14.map D.str).length=14:=by decide
 have hk:(o + 3 * k) % 14 < 14:=Nat.mod_lt _ (by decide);rw [e];unfold atI;rw [Bz (by lia) (by rw [hl];lia)];show (nm14.map D.str)[(((o + 3 * k) % 14:Nat):Int).toNat]?=_;rw [Int.toNat_natCast,List.getElem?_map];unfold ES;rw [List.getD_eq_getElem?_getD,List.getElem?_eq_getElem (show (o + 3 * k) % 14 < nm14.length from hk)];rfl
def wdB (Ai AK:Fn):M Out:=
 (Ae (Ao 11 (Ac (Ak (As (Aa (fB (Aa (Ac (Ab 2) (fC (.int 1)) BG) (Aa (Ac (Ab 5) (fC (.int 1)) Aq) Ad)) El) (Aa (Ag Ai (Aa (Ab 6) (Aa (Ab 2) Ad))) Ad)))) (Ag Ai (Aa (Ab 6) (Aa (fC (.int 2)) Ad))) ixD))
 (ownM 9 B1 (Aa (Az (Aa (Ac (Ab 3) (Ac (Ac (Ab 8) (Ac (fC (.int 3)) (Ab 10) ER) Aq) (fC (.int 14)) C5) ixD) (Aa (Ag AK (Aa (Ab 6) (Aa (Ag Ai (Aa (Ab 6) (Aa (fC (.int 3)) Ad))) Ad))) (Aa (Ab 11) Ad)))) Ad)))
variable {cd cs0:Fn}
theorem U7 (hd:CV cd)(hs:CJ cs0 3){many h:Int}{o k:Nat}(m0:1<=many)(m1:many<=30)(h0:0<=h)(h1:h < many)(hk:k<=9)(s:Sx)(r:Nat)(b:SxB (r + 200) s):∃(w:Str×Sh×Int) (s':Sx),w.1=ES o k/\WOk many w/\SxB r s'/\∀(a0 a1 a4 a7 e11:Option Sl) (acc:List D) (S:List Ob) (K:Nat),acc.length<=9->K < S.length->
 F2.W (wdB cd cs0) ⟨[a0,a1,some (.val (.int many)),some (.val (.lst (nm14.map D.str))),a4,some (.val (.int h)),some (.val (.obj K)),a7,some (.val (.int (o:Nat))),some (.own acc),some (.val (.int (k:Nat))),e11],S.set K (.dct s.l)⟩ λout t=>out = .next/\∃f11,t=⟨[a0,a1,some (.val (.int many)),some (.val (.lst (nm14.map D.str))),a4,some (.val (.int h)),some (.val (.obj K)),a7,some (.val (.int (o:Nat))),some (.own (acc++[wdD w])),some (.val (.int (k:Nat))),f11],S.set K (.dct s'.l)⟩:=by
 have hL:LIM=100000:=rfl;obtain ⟨x,s1,x0,x1,b1,d1⟩:=hd s many (r + 199) b (by lia) (by lia);obtain ⟨y,s2,y0,y1,b2,d2⟩:=hd s1 2 (r + 198) b1 (by decide) (by decide);obtain ⟨z,s3,z0,z1,b3,d3⟩:=hd s2 3 (r + 197) b2 (by decide) (by decide);obtain ⟨z,rfl⟩:=Int.eq_ofNat_of_zero_le z0;have hz:z < 3:=by lia
 have hcs:cs z<=130:=by
  have:z=0\/z=1\/z=2:=by lia
  rcases this with rfl | rfl | rfl <;> decide
 obtain ⟨sh,s4,g1,g2,b4,d4⟩:=hs z s3 r hz (b3.mono (by lia));obtain ⟨dd,ed,th,rfl,t0,t1⟩:=GF (xs:=[D.int (if h + 1 < many - 1 then h + 1 else many - 1),D.int x]) y0 (by simpa using y1) (p:=λd=>∃m:Int,d = .int m/\0<=m/\m < many) (by
  simp only [List.forall_mem_cons];exact ⟨⟨_,rfl,by split <;> lia,by split <;> lia⟩,⟨_,rfl,x0,x1⟩,λ_ z=>nomatch z⟩)
 refine ⟨(ES o k,sh,th),s4,rfl,⟨g2,by dsimp only;lia,t0,t1,QL o k⟩,b4,λa0 a1 a4 a7 e11 acc S K hacc hK=>?_⟩;unfold wdB;symm;refine d1.use hK ?_;symm;refine d2.use hK ?_;refine AH ed ?_;symm;refine Ex (CW (by decide) (by decide)) ?_;symm;refine AH (TU o k) ?_;symm;refine d3.use hK ?_;symm;refine d4.use hK ?_;symm;refine AC (by lia) ?_;exact ⟨rfl,_,rfl⟩
theorem IH {cd cs0:Fn}(hd:CV cd)(hs:CJ cs0 3){many h:Int}{o:Nat}(m0:1<=many)(m1:many<=30)(h0:0<=h)(h1:h < many):∀(l:List Nat) (s:Sx) (r:Nat),(∀k∈l,k<=9)->SxB (r + 200 * l.length) s->∃(ws:List (Str×Sh×Int)) (s':Sx),ws.map (·.1)=l.map (ES o)/\(∀w∈ws,WOk many w)/\SxB r s'/\∀(a0 a1 a4 a7 e10 e11:Option Sl) (acc:List D) (S:List Ob) (K:Nat),acc.length + l.length<=9->K < S.length->
 F2.W (Bm (Ar 10) (wdB cd cs0) (l.map λk:Nat=>D.int (k:Int))) ⟨[a0,a1,some (.val (.int many)),some (.val (.lst (nm14.map D.str))),a4,some (.val (.int h)),some (.val (.obj K)),a7,some (.val (.int (o:Nat))),some (.own acc),e10,e11],S.set K (.dct s.l)⟩ λout t=>out = .next/\∃f10 f11,t=⟨[a0,a1,some (.val (.int many)),some (.val (.lst (nm14.map D.str))),a4,some (.val (.int h)),some (.val (.obj K)),a7,some (.val (.int (o:Nat))),some (.own (acc++ws.map wdD)),f10,f11],S.set K (.dct s'.l)⟩
 | [],s,r,hk,b=>⟨[],s,rfl,(λ_ h=>nomatch h),b,λa0 a1 a4 a7 e10 e11 acc S K _ _=>W_forL_nil.mpr ⟨rfl,_,_,by rw [List.map_nil,List.append_nil]⟩⟩
 | k :: l,s,r,hk,b=>by
   rw [List.length_cons] at b;obtain ⟨w,s1,w1,w2,b1,d1⟩:=U7 (o:=o) (k:=k) hd hs m0 m1 h0 h1 (hk k List.mem_cons_self) s (r + 200 * l.length) (b.mono (by lia));obtain ⟨ws,s2,g1,g2,b2,d2⟩:=IH (o:=o) hd hs m0 m1 h0 h1 l s1 r (λj hj=>hk j (List.mem_cons_of_mem _ hj)) b1;refine ⟨w :: ws,s2,by rw [List.map_cons,List.map_cons,w1,g1],λx hx=>?_,b2,λa0 a1 a4 a7 e10 e11 acc S K hl hK=>?_⟩
   ·rcases List.mem_cons.mp hx with rfl | hx
    ·exact w2
    ·exact g2 x hx
   rw [List.length_cons] at hl;rw [List.map_cons,CA];refine D6 ?_;refine (d1 a0 a1 a4 a7 e11 acc S K (by lia) hK).mono λout t z9=>?_;obtain ⟨e1,f11,e2⟩:=z9;subst e1 e2;refine (d2 a0 a1 a4 a7 _ _ (acc++[wdD w]) S K (by rw [List.length_append,List.length_singleton];lia) hK).mono λout t z9=>?_;obtain ⟨e1,f10,f11,e2⟩:=z9;refine ⟨e1,f10,f11,?_⟩;rw [e2,List.append_assoc];rfl
def stB (Ai AK:Fn):M Out:=
 (Ae (Ao 7 (Ac (Ak (As (Aa (fC (.str "left")) (Aa (fC (.str "right")) Ad)))) (Ag Ai (Aa (Ab 6) (Aa (fC (.int 2)) Ad))) ixD))
 (Ae (Ao 8 (Ag Ai (Aa (Ab 6) (Aa (fC (.int 14)) Ad))))
 (Ae (D2 9 (As Ad))
 (Ae (BD (BZ (Aa (Ac (Ak (As (Aa (fC (.int 1)) (Aa (fC (.int 2)) (Aa (fC (.int 3)) (Aa (fC (.int 9)) Ad)))))) (Ag Ai (Aa (Ab 6) (Aa (fC (.int 4)) Ad))) ixD) Ad)) (Ar 10) (wdB Ai AK))
 (ownM 4 B1 (Aa (Az (Aa (Ab 7) (Aa (Ab 9) Ad))) Ad))))))
theorem ME (hd:CV cd)(hs:CJ cs0 3){many h:Int}(m0:1<=many)(m1:many<=30)(h0:0<=h)(h1:h < many)(s:Sx)(b:SxB 3000 s):∃(x:GS) (s':Sx),GSN many x/\∀(a0 a1 e7 e8 e9 e10 e11:Option Sl) (acc:List D) (S:List Ob) (K:Nat),acc.length<=30->K < S.length->
 F2.W (stB cd cs0) ⟨[a0,a1,some (.val (.int many)),some (.val (.lst (nm14.map D.str))),some (.own acc),some (.val (.int h)),some (.val (.obj K)),e7,e8,e9,e10,e11],S.set K (.dct s.l)⟩ λout t=>out = .next/\∃f7 f8 f9 f10 f11,t=⟨[a0,a1,some (.val (.int many)),some (.val (.lst (nm14.map D.str))),some (.own (acc++[x.d])),some (.val (.int h)),some (.val (.obj K)),f7,f8,f9,f10,f11],S.set K (.dct s'.l)⟩:=by
 have hL:LIM=100000:=rfl;obtain ⟨x,s1,x0,x1,b1,d1⟩:=hd s 2 2999 b (by lia) (by lia);obtain ⟨o,s2,o0,o1,b2,d2⟩:=hd s1 14 2998 b1 (by decide) (by decide);obtain ⟨z,s3,z0,z1,b3,d3⟩:=hd s2 4 2997 b2 (by decide) (by decide);obtain ⟨o,rfl⟩:=Int.eq_ofNat_of_zero_le o0;obtain ⟨dd,ed,side,rfl,hside⟩:=GF (xs:=[D.str (Str.ofString "left"),D.str (Str.ofString "right")]) x0 (by simpa using x1) (p:=λd=>∃m:Str,d = .str m/\(m=Str.ofString "left"\/m=Str.ofString "right")) (by
  simp only [List.forall_mem_cons];exact ⟨⟨_,rfl,.inl rfl⟩,⟨_,rfl,.inr rfl⟩,λ_ z=>nomatch z⟩)
 obtain ⟨dd,ed2,n,rfl,n0,n1⟩:=GF (xs:=[D.int 1,D.int 2,D.int 3,D.int 9]) z0 (by simpa using z1) (p:=λd=>∃m:Nat,d = .int (m:Nat)/\1<=m/\m<=9) (by
  simp only [List.forall_mem_cons];exact ⟨⟨1,rfl,by decide,by decide⟩,⟨2,rfl,by decide,by decide⟩,⟨3,rfl,by decide,by decide⟩,⟨9,rfl,by decide,by decide⟩,λ_ z=>nomatch z⟩)
 obtain ⟨ws,s4,w1,w2,b4,d4⟩:=IH (o:=o) hd hs m0 m1 h0 h1 (List.range n) s3 0 (λk hk=>by have:=List.mem_range.mp hk;lia) (b3.mono (by rw [List.length_range];lia));have wl:ws.length=n:=by have:=congrArg List.length w1;rwa [List.length_map,List.length_map,List.length_range] at this
 have hnm:∀w∈ws,w.1.length<=1000:=λw hw=>by
  have:w.1∈ws.map (·.1):=List.mem_map_of_mem hw;rw [w1] at this;obtain ⟨k,_,ek⟩:=List.mem_map.mp this;rw [<-ek];exact TW o k
 refine ⟨.st side ws,s4,⟨.st hside (by lia) (by lia) (by rw [w1];exact TV (by lia) n1) w2,hnm⟩,λa0 a1 e7 e8 e9 e10 e11 acc S K hacc hK=>?_⟩;unfold stB;symm;refine d1.use hK ?_;refine AH ed ?_;symm;refine d2.use hK ?_;symm;refine d3.use hK ?_;refine AH ed2 ?_;symm;refine Fl (EY (m:=9) n1) ?_;rw [show AT 0 ((n:Int)).toNat=(List.range n).map λi:Nat=>D.int (i:Int) by unfold AT;simp];refine (d4 a0 a1 _ _ _ _ [] S K (by rw [List.length_range,List.length_nil];lia) hK).mono λout t z9=>?_;obtain ⟨e1,f10,f11,e2⟩:=z9;subst e1 e2;symm;refine AC (by lia) ?_;exact ⟨rfl,_,_,_,_,_,rfl⟩
theorem Ba:S++[o]=(S++[Ob.dct []]).set S.length o:=by
 rw [List.set_append_right _ _ (Nat.le_refl _),Nat.sub_self];rfl
theorem Bp:S.length < (S++[o]).length:=by rw [List.length_append,List.length_singleton];lia
theorem Kp.gr70 (K:Kp S.length (S++[o]) S'):Gr S S':=by
 obtain ⟨h1,h2⟩:=K;rw [List.length_append,List.length_singleton] at h1 h2;exact ⟨by lia,λi hi=>by rw [h2 i (by lia) (by lia),List.getElem?_append_left hi]⟩
def gB (Ai AK AN:Fn):M Out:=
 (Ae (Ao 6 (Ag AN (Aa (Ab 0) (Aa (Ac (Ab 1) (Ab 5) Aq) Ad))))
 (ifS (Hx (Aj (Ac (Ag Ai (Aa (Ab 6) (Aa (fC (.int 6)) Ad))) (fC (.int 1)) (eqS id))) (fOr (Aj (Ac (Ab 5) (fC (.int 0)) gtA)) (Aj (Ac (Ag Ai (Aa (Ab 6) (Aa (fC (.int 4)) Ad))) (fC (.int 1)) (eqS id)))))
   (ownM 4 B1 (Aa (Az (Aa (fC (.str "end")) Ad)) Ad))
   (stB Ai AK)))
theorem Ts (hd:CV cd)(hs:CJ cs0 3)(ht:C8 ct){ns:List Int}{start many h:Nat}(hn:ns.length<=63)(m0:1<=many)(m1:many<=30)(h1:h < many)(hst:start<=900):∃(x:GS) (s':Sx),GSN (many:Nat) x/\∀(e6 e7 e8 e9 e10 e11:Option Sl) (acc:List D) (S:List Ob),acc.length<=30->
 F2.W (gB cd cs0 ct) ⟨[some (.val (.scr ns)),some (.val (.int (start:Nat))),some (.val (.int (many:Nat))),some (.val (.lst (nm14.map D.str))),some (.own acc),some (.val (.int (h:Nat))),e6,e7,e8,e9,e10,e11],S⟩ λout t=>out = .next/\∃f6 f7 f8 f9 f10 f11,t=⟨[some (.val (.scr ns)),some (.val (.int (start:Nat))),some (.val (.int (many:Nat))),some (.val (.lst (nm14.map D.str))),some (.own (acc++[x.d])),some (.val (.int (h:Nat))),f6,f7,f8,f9,f10,f11],S++[.dct s'.l]⟩:=by
 have hL:LIM=100000:=rfl;obtain ⟨s,b,d⟩:=ht ns (start + h) hn (by lia);have e0:(start:Int) + (h:Int)=((start + h:Nat):Int):=by lia
 obtain ⟨x,s1,x0,x1,b1,d1⟩:=hd s 6 3001 (b.mono (by lia)) (by decide) (by decide)
 by_cases k1:x=1
 ·subst k1
  by_cases k2:0 < h
  ·refine ⟨.fin,s1,⟨.fin,λ_ h=>nomatch h⟩,λe6 e7 e8 e9 e10 e11 acc S hacc=>?_⟩;unfold gB;symm;rw [e0];refine (d S).mono λq S' z9=>?_;obtain ⟨q1,q2⟩:=z9;subst q1 q2;rw [Ba (o:=.dct s.l)];symm;refine d1.use Bp ?_;symm;refine DB (decide_eq_true (by lia)) ?_;symm;refine AC (by lia) ?_;rw [<-Ba (o:=.dct s1.l)];exact ⟨rfl,_,_,_,_,_,_,rfl⟩
  ·have k2:h=0:=by lia
   subst k2;obtain ⟨y,s2,y0,y1,b2,d2⟩:=hd s1 4 3000 b1 (by decide) (by decide)
   by_cases k3:y=1
   ·subst k3;refine ⟨.fin,s2,⟨.fin,λ_ h=>nomatch h⟩,λe6 e7 e8 e9 e10 e11 acc S hacc=>?_⟩;unfold gB;symm;rw [e0];refine (d S).mono λq S' z9=>?_;obtain ⟨q1,q2⟩:=z9;subst q1 q2;rw [Ba (o:=.dct s.l)];symm;refine d1.use Bp ?_;symm;refine d2.use Bp ?_;symm;refine AC (by lia) ?_;rw [<-Ba (o:=.dct s2.l)];exact ⟨rfl,_,_,_,_,_,_,rfl⟩
   ·obtain ⟨g,s3,g1,d3⟩:=ME hd hs (many:=(many:Nat)) (h:=((0:Nat):Int)) (by lia) (by lia) (by lia) (by lia) s2 b2;refine ⟨g,s3,g1,λe6 e7 e8 e9 e10 e11 acc S hacc=>?_⟩;unfold gB;symm;rw [e0];refine (d S).mono λq S' z9=>?_;obtain ⟨q1,q2⟩:=z9;subst q1 q2;rw [Ba (o:=.dct s.l)];symm;refine d1.use Bp ?_;symm;refine d2.use Bp ?_;symm;refine C3 (beq_eq_false_iff_ne.mpr k3) ?_;symm;refine (d3 _ _ _ _ _ _ _ acc _ S.length hacc Bp).mono λout t z9=>?_;obtain ⟨q1,f7,f8,f9,f10,f11,q2⟩:=z9;subst q1 q2;rw [<-Ba (o:=.dct s3.l)];exact ⟨rfl,_,_,_,_,_,_,rfl⟩
 ·obtain ⟨g,s3,g1,d3⟩:=ME hd hs (many:=(many:Nat)) (h:=(h:Nat)) (by lia) (by lia) (by lia) (by lia) s1 (b1.mono (by lia));refine ⟨g,s3,g1,λe6 e7 e8 e9 e10 e11 acc S hacc=>?_⟩;unfold gB;symm;rw [e0];refine (d S).mono λq S' z9=>?_;obtain ⟨q1,q2⟩:=z9;subst q1 q2;rw [Ba (o:=.dct s.l)];symm;refine d1.use Bp ?_;symm;refine C3 (beq_eq_false_iff_ne.mpr k1) ?_;symm;refine (d3 _ _ _ _ _ _ _ acc _ S.length hacc Bp).mono λout t z9=>?_;obtain ⟨q1,f7,f8,f9,f10,f11,q2⟩:=z9;subst q1 q2;rw [<-Ba (o:=.dct s3.l)];exact ⟨rfl,_,_,_,_,_,_,rfl⟩
theorem Mx {cd cs0 ct:Fn}(hd:CV cd)(hs:CJ cs0 3)(ht:C8 ct){ns:List Int}{start many:Nat}(hn:ns.length<=63)(m0:1<=many)(m1:many<=30)(hst:start<=900):∀(l:List Nat),(∀h∈l,h < many)->∃(g:List GS) (os:List Ob),g.length=l.length/\(∀x∈g,GSN (many:Nat) x)/\∀(e5 e6 e7 e8 e9 e10 e11:Option Sl) (acc:List D) (S:List Ob),acc.length + l.length<=30->
 F2.W (Bm (Ar 5) (gB cd cs0 ct) (l.map λk:Nat=>D.int (k:Int))) ⟨[some (.val (.scr ns)),some (.val (.int (start:Nat))),some (.val (.int (many:Nat))),some (.val (.lst (nm14.map D.str))),some (.own acc),e5,e6,e7,e8,e9,e10,e11],S⟩ λout t=>out = .next/\∃f5 f6 f7 f8 f9 f10 f11,t=⟨[some (.val (.scr ns)),some (.val (.int (start:Nat))),some (.val (.int (many:Nat))),some (.val (.lst (nm14.map D.str))),some (.own (acc++g.map GS.d)),f5,f6,f7,f8,f9,f10,f11],S++os⟩
 | [],_=>⟨[],[],rfl,(λ_ h=>nomatch h),λe5 e6 e7 e8 e9 e10 e11 acc S _=>W_forL_nil.mpr ⟨rfl,_,_,_,_,_,_,_,by rw [List.map_nil,List.append_nil,List.append_nil]⟩⟩
 | h :: l,hl=>by
   obtain ⟨x,s1,x1,d1⟩:=Ts hd hs ht hn m0 m1 (hl h List.mem_cons_self) hst;obtain ⟨g,os,g1,g2,d2⟩:=Mx hd hs ht hn m0 m1 hst l λj hj=>hl j (List.mem_cons_of_mem _ hj);refine ⟨x :: g,.dct s1.l :: os,by rw [List.length_cons,List.length_cons,g1],λy hy=>?_,λe5 e6 e7 e8 e9 e10 e11 acc S hacc=>?_⟩
   ·rcases List.mem_cons.mp hy with rfl | hy
    ·exact x1
    ·exact g2 y hy
   rw [List.length_cons] at hacc;rw [List.map_cons,CA];refine D6 ?_;refine (d1 _ _ _ _ _ _ acc S (by lia)).mono λout t z9=>?_;obtain ⟨q1,f6,f7,f8,f9,f10,f11,q2⟩:=z9;subst q1 q2;refine (d2 _ _ _ _ _ _ _ (acc++[x.d]) (S++[.dct s1.l]) (by rw [List.length_append,List.length_singleton];lia)).mono λout t h2=>?_;obtain ⟨q1,f5,f6,f7,f8,f9,f10,f11,q2⟩:=h2;refine ⟨q1,f5,f6,f7,f8,f9,f10,f11,?_⟩;rw [q2,List.append_assoc,List.append_assoc];rfl
def MJ (f:Fn):Prop:=∀(ns:List Int) (start many:Nat),ns.length<=63->1<=many->many<=30->start<=900->∃(g:List GS) (os:List Ob),GON g/\∀S:List Ob,Wf f [.scr ns,.int (start:Nat),.int (many:Nat)] S λq S'=>q = .lst (g.map GS.d)/\S'=S++os
theorem Tt (hd:CV cd)(hs:CJ cs0 3)(ht:C8 ct):MJ (fnOf 3 12 (CS cd cs0 ct)):=by
 intro ns start many hn m0 m1 hst;obtain ⟨g,os,g1,g2,d⟩:=Mx hd hs ht hn m0 m1 hst (List.range many) λh hh=>List.mem_range.mp hh;rw [List.length_range] at g1;refine ⟨g,os,⟨⟨by lia,by lia,by rw [g1];exact λx hx=>(g2 x hx).ok⟩,λx hx=>(g2 x hx).nm⟩,λS=>?_⟩;refine Ap rfl ?_;unfold CS;symm;refine Fl (EY (m:=30) m1) ?_;rw [show AT 0 ((many:Int)).toNat=(List.range many).map λi:Nat=>D.int (i:Int) by unfold AT;simp];refine (d none none none none none none none [] S (by rw [List.length_range,List.length_nil];lia)).mono λout t z9=>?_;obtain ⟨e1,f5,f6,f7,f8,f9,f10,f11,e2⟩:=z9;subst e1 e2;symm;exact ⟨rfl,rfl⟩
theorem Lo {cd cg:Fn}(hd:DrawD cd)(hg:MJ cg){ns:List Int}{room:Nat}(hn:ns.length<=63)(m0:1<=room)(m1:room<=30):∀(l:List Nat) (s:Sx) (r:Nat),(∀k∈l,k<=8)->SxB (r + l.length) s->∃(gs:List (List GS)) (s':Sx),gs.length=l.length/\(∀g∈gs,GON g)/\∀(z:Option Sl) (S:List Ob) (K:Nat),S[K]?=some (.dct s.l)->
 F2.W (AX (Ar 0) Bq (Ag cg (Aa (Ab 1) (Aa (Ac (fC (.int 2)) (Ac (Ab 2) (Ab 0) ER) Aq) (Aa (Ac (fC (.int 1)) (Ag cd (Aa (Ab 3) (Aa (Ab 2) Ad))) Aq) Ad)))) (l.map λk:Nat=>D.int (k:Int))) ⟨[z,some (.val (.scr ns)),some (.val (.int (room:Nat))),some (.val (.obj K))],S⟩ λq t'=>q=gs.map (λg=>.lst (g.map GS.d))/\Kp K S t'.S
 | [],s,r,_,b=>⟨[],s,rfl,(λ_ h=>nomatch h),λz S K _=>W_compL_nil.mpr ⟨rfl,.refl⟩⟩
 | k :: l,s,r,hk,b=>by
   rw [List.length_cons] at b;have hk0:=hk k List.mem_cons_self;obtain ⟨x,s1,x0,x1,b1,d1⟩:=hd s (room:Nat) (r + l.length) b (by lia) (by lia);obtain ⟨x,rfl⟩:=Int.eq_ofNat_of_zero_le x0;have hrk:room * k<=240:=Nat.le_trans (Nat.mul_le_mul m1 hk0) (by decide);obtain ⟨g,os,g1,d2⟩:=hg ns (2 + room * k) (1 + x) hn (by lia) (by lia) (by lia);obtain ⟨gs,s2,g2,g3,d3⟩:=Lo hd hg hn m0 m1 l s1 r (λj hj=>hk j (List.mem_cons_of_mem _ hj)) b1;refine ⟨g :: gs,s2,by rw [List.length_cons,List.length_cons,g2],λy hy=>?_,λz S K hK=>?_⟩
   ·rcases List.mem_cons.mp hy with rfl | hy
    ·exact g1
    ·exact g3 y hy
   rw [List.map_cons,BS];refine D6 (GN ?_);rw [if_pos rfl];symm;refine Ex (CW (by lia) (by lia)) ?_;symm;refine (d1 S K hK).mono λq S' z9=>?_;obtain ⟨q1,q2⟩:=z9;subst q1 q2;symm;rw [show (2:Int) + (room:Int) * (k:Int)=((2 + room * k:Nat):Int) by push_cast;rfl,show (1:Int) + (x:Int)=((1 + x:Nat):Int) by lia];refine (d2 _).mono λq S' z9=>?_;obtain ⟨q1,q2⟩:=z9;subst q1 q2;have hg1:(S.set K (.dct s1.l)++os)[K]?=some (.dct s1.l):=by
    have h1:(S.set K (.dct s1.l))[K]?=some (.dct s1.l):=BF hK;rw [List.getElem?_append_left (VX h1)];exact h1
   have k1:Kp K S (S.set K (.dct s1.l)++os):=⟨by rw [List.length_append,List.length_set];lia,λi h n=>by
    rw [List.getElem?_append_left (by rw [List.length_set];exact h),List.getElem?_set_ne (Ne.symm n)]⟩
   refine (d3 _ _ K hg1).mono λq t' z9=>?_;obtain ⟨q1,q2⟩:=z9;subst q1;exact ⟨rfl,k1.trans q2⟩
def PZ (f:Fn):Prop:=∀(ns:List Int),ns.length<=63->∃gs:List (List GS),1<=gs.length/\gs.length<=9/\(∀g∈gs,GON g)/\∀S:List Ob,Wf f [.scr ns] S λq S'=>q=gsD gs/\Gr S S'
theorem Tv {cg:Fn}(hd:DrawD cd)(hg:MJ cg)(ht:C8 ct):PZ (fnOf 1 4 (Dj cd cg ct)):=by
 intro ns hn;have hL:LIM=100000:=rfl;obtain ⟨s,b,d⟩:=ht ns 0 hn (by lia);obtain ⟨x,s1,x0,x1,b1,d1⟩:=hd s 9 9 (b.mono (by lia)) (by decide) (by decide);obtain ⟨x,rfl⟩:=Int.eq_ofNat_of_zero_le x0;obtain ⟨room,er,r0,r1⟩:∃room:Nat,(if (36:Int) / (1 + (x:Int)) < 30 then (36:Int) / (1 + (x:Int)) else 30)=(room:Nat)/\1<=room/\room<=30:=by
  have h1:4<=(36:Int) / (1 + (x:Int)):=by
   have:(1 + (x:Int)) * 4<=36:=by lia
   exact (Int.le_ediv_iff_mul_le (by lia)).mpr (by lia)
  split
  ·exact ⟨((36:Int) / (1 + (x:Int))).toNat,by lia,by lia,by lia⟩
  ·exact ⟨30,rfl,by decide,by decide⟩
 obtain ⟨gs,s2,g1,g2,d2⟩:=Lo hd hg hn r0 r1 (List.range (1 + x)) s1 0 (λk hk=>by have:=List.mem_range.mp hk;lia) (b1.mono (by rw [List.length_range];lia));rw [List.length_range] at g1;refine ⟨gs,by lia,by lia,g2,λS=>?_⟩;refine Ap rfl ?_;unfold Dj;symm;refine (d S).mono λq S' z9=>?_;obtain ⟨q1,q2⟩:=z9;subst q1 q2;symm;refine (d1 _ S.length DO).mono λq S' z9=>?_;obtain ⟨q1,q2⟩:=z9;subst q1 q2;symm;refine Xk (by lia) (by lia) ?_;symm;rw [er];symm;refine Fl (Dm (by lia) (by lia)) ?_;rw [show AT 0 ((1:Int) + (x:Int)).toNat=(List.range (1 + x)).map λi:Nat=>D.int (i:Int) by unfold AT;rw [show ((1:Int) + (x:Int)).toNat=1 + x by lia];simp];refine (d2 _ _ S.length (BF DO)).mono λq t' z9=>?_;obtain ⟨q1,q2⟩:=z9;subst q1;refine AC (by rw [List.length_map];lia) ?_;symm;exact ⟨rfl,(Kp.refl.setk.trans q2).gr70⟩
noncomputable def gAt (gs:List (List GS))(i:Nat):List GS:=gs.getD i []
noncomputable def hAt (hs:List Nat)(i:Nat):Nat:=hs.getD i 0
def sayD (gs:List (List GS))(hs:List Nat)(i p:Nat)(v:D):D:=.tup [.int (i:Nat),.str (A0 (gAt gs i) (hAt hs i)).side,.str (AJ (gAt gs i) (hAt hs i) p).1,v]
def Jq (gs:List (List GS))(hs:List Nat)(i p:Nat)(v:D):Nat:=(Av (AJ (gAt gs i) (hAt hs i) p).2.1 v).length
inductive Said (gs:List (List GS)):List Nat->List D->Nat->Prop
 | nil:Said gs (List.replicate gs.length 0) [] 0
 | snoc {hs:List Nat} {ds:List D} {n i p:Nat} {v:D}:Said gs hs ds n->i < gs.length->MvOk (gAt gs i) (hAt hs i) p v->Said gs (hs.set i (BB (gAt gs i) (hAt hs i) p)) (ds++[sayD gs hs i p v]) (n + (2 + Jq gs hs i p v))
variable {gs:List (List GS)}
theorem CN (h:∀g∈gs,GOk g){i:Nat}(hi:i < gs.length):GOk (gAt gs i):=by
 unfold gAt;rw [List.getD_eq_getElem?_getD,List.getElem?_eq_getElem hi];exact h _ (List.getElem_mem hi)
theorem Db (hi:i < gs.length):atI (gs.map λg=>D.lst (g.map GS.d)) (i:Int)=some (.lst ((gAt gs i).map GS.d)):=by
 refine CK ?_;unfold gAt;rw [List.getElem?_map,List.getD_eq_getElem?_getD,List.getElem?_eq_getElem hi];rfl
variable {hs:List Nat}
theorem EK (hi:i < hs.length):atI (nD hs) (i:Int)=some (.int ((hAt hs i:Nat):Int)):=CK (IC hi)
theorem Said.len (h:Said gs hs ds n):hs.length=gs.length:=by
 induction h with
 | nil=>rw [List.length_replicate]
 | snoc _ _ _ ih=>rw [List.length_set];exact ih
theorem Said.few (h:Said gs hs ds n):ds.length<=n:=by
 induction h with
 | nil=>exact Nat.zero_le _
 | snoc _ _ _ ih=>rw [List.length_append,List.length_singleton];lia
theorem Mc {x:Nat}(hi:i < hs.length):hAt (hs.set i x) j=if j=i then x else hAt hs j:=by
 unfold hAt;rw [List.getD_eq_getElem?_getD,List.getD_eq_getElem?_getD]
 by_cases q:j=i
 ·subst q;rw [if_pos rfl,List.getElem?_set_self hi];rfl
 ·rw [if_neg q,List.getElem?_set_ne (Ne.symm q)]
theorem Said.lt {gs:List (List GS)}(hg:∀g∈gs,GOk g){hs:List Nat}{ds:List D}{n:Nat}(h:Said gs hs ds n):∀i,i < gs.length->hAt hs i < (gAt gs i).length:=by
 induction h with
 | nil=>
   intro i hi;have e:hAt (List.replicate gs.length 0) i=0:=by
    unfold hAt;rw [List.getD_eq_getElem?_getD,List.getElem?_replicate,if_pos hi];rfl
   rw [e];exact (CN hg hi).ne
 | @snoc hs ds n i p v h0 hi hm ih=>
   intro j hj;rw [Mc (by rw [h0.len];exact hi)]
   by_cases q:j=i
   ·subst q;rw [if_pos rfl];have hw:=DL (CN hg hi) hm.lt hm.pl;have h1:=hw.lo;have h2:=hw.hi;unfold BB;lia
   ·rw [if_neg q];exact ih j hj
theorem K4 (hs:List Nat)(i x:Nat):(nD hs).set i (.int (x:Int))=nD (hs.set i x):=by
 unfold nD;rw [List.map_set]
variable {Q:List D->T->Prop}
theorem MI {k:Int}(h1:BL k=true/\xs.length * k.toNat<=LIM)(h:Q (List.replicate k.toNat xs).flatten t):F2.W (Ll (.lst xs) (.int k)) t Q:=⟨_,_,by show (if _ then _ else _)=_;rw [if_pos h1],h⟩
theorem KP (n:Nat):(List.replicate n [D.int 0]).flatten=nD (List.replicate n 0):=by
 unfold nD
 induction n with
 | zero=>rfl
 | succ n ih=>rw [List.replicate_succ,List.flatten_cons,ih,List.replicate_succ];rfl
def IJ (AF Bc Ai AN:Fn):M Out:=
 (Ae (Ao 7 (Ag AN (Aa (Ab 0) (Aa (Ab 6) Ad))))
 (Ae (Ao 8 (Ag Ai (Aa (Ab 7) (Aa (fB (Aa (Ab 1) Ad) AA) Ad))))
 (ifS (Aj (Ac (fB (Aa (Ac (Ac (Ab 1) (Ab 8) ixD) (B6 3 (Ab 8)) ixD) Ad) AA) (fC (.int 1)) gtA))
   (Ae (Cd (Ac (Ac (Ab 1) (Ab 8) ixD) (B6 3 (Ab 8)) ixD) (unS 2 (AL (Ar 9) (AL (Ar 10) CU))))
 (Ae (Cd (Ac (Ab 10) (Ag Ai (Aa (Ab 7) (Aa (fB (Aa (Ab 10) Ad) AA) Ad))) ixD) (unS 3 (AL (Ar 11) (AL (Ar 12) (AL (Ar 13) CU)))))
 (Ae (Ao 14 (Ag Bc (Aa (Ab 7) (Aa (Ab 12) Ad))))
 (ifS (Aj (Ac (Ac (fC (.int 2)) (fB (Aa (Ag AF (Aa (Ab 12) (Aa (Ab 14) Ad))) Ad) AA) Aq) (Ab 5) leA))
   (Ae (Ao 5 (Ac (Ac (Ab 5) (fC (.int 2)) BG) (fB (Aa (Ag AF (Aa (Ab 12) (Aa (Ab 14) Ad))) Ad) AA) BG))
 (Ae (ownM 4 B1 (Aa (Az (Aa (Ab 8) (Aa (Ab 9) (Aa (Ab 11) (Aa (Ab 14) Ad))))) Ad))
 (Cd (Ab 13) (D9 3 (Ab 8)))))
   An))))
   An)))
inductive SaidF (gs:List (List GS)):List Nat->List D->Nat->List Nat->Prop
 | nil {hs:List Nat}:SaidF gs hs [] 0 hs
 | cons {hs he:List Nat} {ds:List D} {n i p:Nat} {v:D}:hs.length=gs.length->i < gs.length->MvOk (gAt gs i) (hAt hs i) p v->SaidF gs (hs.set i (BB (gAt gs i) (hAt hs i) p)) ds n he->SaidF gs hs (sayD gs hs i p v :: ds) (n + (2 + Jq gs hs i p v)) he
theorem Js {n:Int}{side:Str}{ws:List (Str×Sh×Int)}(h:GSOk n (.st side ws)):∃s,side=sd s:=by
 cases h with
 | st h1 _ _ _ _=>exact h1.elim (λz=>⟨true,z⟩) λz=>⟨false,z⟩
abbrev Wd:=Str×Sh×Int
theorem Iw {ws:List Wd}{nm:Str}(h:(ws.findIdx? λw=>w.1 == nm)=some p):∃w,ws[p]?=some w/\w.1=nm:=by
 obtain ⟨hp,h1,_⟩:=List.findIdx?_eq_some_iff_getElem.mp h;exact ⟨ws[p],List.getElem?_eq_getElem hp,by simpa using h1⟩
structure Msg where
 side:Str
 nm:Str
 v:D
def Jk (ws:List Wd)(m:Msg):Option Nat:=(ws.findIdx? λw=>w.1 == m.nm).bind λp=>(ws[p]?).bind λw=>if Ah w.2.1 m.v=true then some p else none
def plc:GS->Msg->Option Nat
 | .fin,_=>none
 | .st side ws,m=>if m.side=side then Jk ws m else none
theorem E9 {ws:List Wd}{m:Msg}(h:(ws.findIdx? λw=>w.1 == m.nm)=none):Jk ws m=none:=by unfold Jk;rw [h];rfl
theorem Fa {ws:List Wd}{m:Msg}{w:Wd}(h:(ws.findIdx? λw=>w.1 == m.nm)=some p)(e:ws[p]?=some w):Jk ws m=if Ah w.2.1 m.v=true then some p else none:=by unfold Jk;rw [h,Option.bind_some,e,Option.bind_some]
theorem WI {x:GS}{m:Msg}(h:plc x m=some p):p < x.ws.length:=by
 cases x with
 | fin=>cases h
 | st side ws=>
   rw [plc] at h
   by_cases hs:m.side=side
   ·rw [if_pos hs] at h
    cases hfi:ws.findIdx? λw=>w.1 == m.nm with
    | none=>rw [E9 hfi] at h;cases h
    | some q=>
      obtain ⟨w,e,_⟩:=Iw hfi;rw [Fa hfi e] at h
      by_cases hf:Ah w.2.1 m.v=true
      ·rw [if_pos hf] at h;cases h;exact (List.getElem?_eq_some_iff.mp e).1
      ·rw [if_neg hf] at h;cases h
   ·rw [if_neg hs] at h;cases h
noncomputable def hd3:List D->Bool
 | [.str _,_,_]=>true
 | [.int _,_,_]=>true
 | [_,_,_]=>false
 | _=>true
def okG:Nat->D->Bool
 | _,.str x=>decide (x.length<=90000)
 | 0,.lst _=>false
 | 0,.tup _=>false
 | n + 1,.lst xs=>decide (xs.length<=1000) && xs.all (okG n)
 | n + 1,.tup xs=>(decide (xs.length<=1000) && hd3 xs) && xs.all (okG n)
 | _,.obj _=>false
 | _,.scr _=>false
 | _,.ty _=>false
 | _,.exc _ _=>false
 | _,_=>true
theorem B4 (n:Nat)(x:Str):okG n (.str x)=decide (x.length<=90000):=by cases n <;> rw [okG]
theorem Jg (n:Nat)(i:Int):okG n (.int i)=true:=by cases n <;> rfl
theorem OX (n:Nat)(i:Bool):okG n (.bl i)=true:=by cases n <;> rfl
theorem DZ (n:Nat)(xs:List D):okG (n + 1) (.lst xs)=(decide (xs.length<=1000) && xs.all (okG n)):=by rw [okG]
theorem BQ (n:Nat)(xs:List D):okG (n + 1) (.tup xs)=((decide (xs.length<=1000) && hd3 xs) && xs.all (okG n)):=by rw [okG]
theorem GB:∀(n:Nat) (d:D),okG n d=true->okD d=true
 | 0,d,h=>by cases d <;> first | (simp [okG] at h;done) | rfl | (rw [B4] at h;rw [okD];exact h)
 | n + 1,d,h=>by
   cases d <;> first | (simp [okG] at h;done) | rfl | (rw [B4] at h;rw [okD];exact h) | skip
   ·rw [BQ,Bool.and_eq_true,List.all_eq_true] at h;rw [okD];exact Jh λx m=>GB n x (h.2 x m)
   ·rw [DZ,Bool.and_eq_true,List.all_eq_true] at h;rw [okD];exact Jh λx m=>GB n x (h.2 x m)
theorem FU (h:okG n (.tup xs)=true):∃m,n=m + 1/\hd3 xs=true/\∀x∈xs,okG m x=true:=by
 cases n with
 | zero=>cases h
 | succ m=>
   rw [BQ,Bool.and_eq_true,Bool.and_eq_true,List.all_eq_true] at h;exact ⟨m,rfl,h.1.2,h.2⟩
theorem OY (h:okG n (.lst xs)=true):∃m,n=m + 1/\xs.length<=1000/\∀x∈xs,okG m x=true:=by
 cases n with
 | zero=>cases h
 | succ m=>
   rw [DZ,Bool.and_eq_true,List.all_eq_true] at h;exact ⟨m,rfl,of_decide_eq_true h.1,h.2⟩
theorem Fd {α:Type}{p:α->Bool}:∀{l:List α},(l.filter p).isEmpty=l.all λx=>!p x
 | []=>rfl
 | a :: l=>by
   rw [List.filter_cons,List.all_cons]
   cases p a with
   | true=>rfl
   | false=>simpa using Fd (l:=l)
variable {g:Bool->Bool}
theorem Ym {i:Int}(h:P (.bl (g false)) t):F2.W (eqS g (.int i) (.str x)) t P:=⟨_,_,rfl,h⟩
def LF5 (f:Fn)(n:Nat):Prop:=∀s:Sh,s.depth<=n->wf s=true->∀(m:Nat) (d:D),okG m d=true->Pure1 f [s.d,d] (.bl (Ah s d))
theorem Wb (hc:n=0\/LF5 c n):LF5 (fnOf 2 3 (DC c)) (n + 1):=by
 intro s hs hw m d h S;have hL:LIM=100000:=rfl;refine Ap rfl ?_;unfold DC;have rec_:∀{s':Sh} {d':D} {m':Nat},s'.depth<=n->wf s'=true->okG m' d'=true->Pure1 c [s'.d,d'] (.bl (Ah s' d')):=λ{s' d' m'} h1 h2 h3=>by
  rcases hc with rfl | hc
  ·exact absurd s'.depth_pos (by lia)
  ·exact hc s' h1 h2 m' d' h3
 have bad:∀k,okG m (.obj k)=false/\True:=λk=>⟨by cases m <;> rfl,trivial⟩
 cases s with
 | nothing=>
   rw [Sh.d]
   cases d <;> first | (cases m <;> (simp [okG] at h;done)) | (right;exact ⟨by simp [Ah,GZ],rfl⟩)
 | number lo hi=>
   rw [Sh.d]
   cases d <;> first | (cases m <;> (simp [okG] at h;done)) | (right;exact ⟨by simp [Ah],rfl⟩) | skip
   right;refine BX (λq=>?_) λq=>?_
   ·right;exact ⟨by simp only [Ah,q,Bool.true_and],rfl⟩
   ·right;exact ⟨by simp only [Ah,q,Bool.false_and],rfl⟩
 | text b=>
   rw [Sh.d]
   cases d <;> first | (cases m <;> (simp [okG] at h;done)) | (right;exact ⟨by simp [Ah],rfl⟩) | skip
   rename_i x;rw [B4,decide_eq_true_eq] at h;have hx:=h;right;refine J8 (by rw [hL];lia) ?_;right;refine BX (λq=>?_) λq=>?_
   ·have e':¬((x.length:Int)<=b):=by have:=of_decide_eq_true q;lia
    right;exact ⟨by simp [Ah,e'],rfl⟩
   ·have e':(x.length:Int)<=b:=by have:=of_decide_eq_false q;lia
    right;refine (Ds (p:=λd=>match d with | .str y=>!A5 (y.cps.getD 0 0) | _=>false) (fr:=[]) ?_).mono ?_
    ·intro d hd;obtain ⟨ch,hch,rfl⟩:=List.mem_map.mp hd;right;refine LH rfl ?_;have e0:((⟨#[ch]⟩:Str).cps.getD 0 0:Nat)=ch:=rfl;rw [e0];right;refine BX (λq1=>?_) λq1=>?_
     ·right;refine BX (λq2=>?_) λq2=>?_
      ·right;exact ⟨by show true = !A5 ch;simp [A5] at q1 q2 ⊢;lia,rfl⟩
      ·right;refine LH rfl ?_;rw [e0];right;refine ⟨?_,rfl⟩;show id ((ch:Int) == 37) = !A5 ch;simp only [Bool.not_eq_true',Bool.not_eq_false',decide_eq_true_eq,decide_eq_false_iff_not,Bool.not_eq_eq_eq_not,Bool.not_true,Bool.not_false] at q1 q2
       by_cases h37:ch=37
       ·subst h37;rfl
       ·rw [beq_eq_false_iff_ne.mpr (show ((ch:Nat):Int)≠37 by lia)];have:A5 ch=true:=by simp only [A5,Bool.and_eq_true,decide_eq_true_eq];lia
        rw [this];rfl
     ·right;exact ⟨by show true = !A5 ch;simp [A5] at q1 ⊢;lia,rfl⟩
    ·rintro xs t' ⟨rfl,hS⟩;refine AC ?_ ?_
     ·refine Nat.le_trans (List.length_filter_le _ _) ?_;rw [List.length_map,<-Cm,hL];lia
     right;refine ⟨?_,hS⟩;show D.bl _=D.bl _
     congr 1
     rw [Ah];simp only [e',decide_true,Bool.true_and];show (List.filter _ _).isEmpty=_;rw [Fd,List.all_map]
     congr 1
     funext c
     show (!(!A5 c))=A5 c;rw [Bool.not_not]
 | list s b=>
   rw [Sh.depth] at hs;simp only [wf,Bool.and_eq_true,decide_eq_true_eq] at hw;rw [Sh.d]
   cases d <;> first | (cases m <;> (simp [okG] at h;done)) | (right;exact ⟨by simp [Ah],rfl⟩) | skip
   rename_i ds;obtain ⟨m',rfl,hdl,hx⟩:=OY h;right;refine BX (λq=>?_) λq=>?_
   ·right;have:¬((ds.length:Int)<=b):=by have:=of_decide_eq_true q;lia
    exact ⟨by simp [Ah,this],rfl⟩
   ·have e':(ds.length:Int)<=b:=by have:=of_decide_eq_false q;lia
    right;refine (Ds (p:=λd=>!Ah s d) (fr:=[some (.val (.tup [.str (Str.ofString "list"),s.d,.int b]))]) ?_).mono ?_
    ·intro d hd;right;refine (rec_ (by lia) hw.2 (hx d hd)).use ?_;right;exact ⟨rfl,rfl⟩
    ·rintro xs t' ⟨rfl,hS⟩;refine AC (Nat.le_trans (List.length_filter_le _ _) (by rw [hL];lia)) ?_;right;refine ⟨?_,hS⟩;show D.bl _=D.bl _
     congr 1
     rw [Ah];simp only [e',decide_true,Bool.true_and];show (List.filter _ _).isEmpty=_;rw [Fd]
     congr 1
     funext x
     exact Bool.not_not _
 | pair s r=>
   rw [Sh.depth] at hs;simp only [wf,Bool.and_eq_true] at hw;rw [Sh.d]
   cases d <;> first | (cases m <;> (simp [okG] at h;done)) | (right;exact ⟨by simp [Ah],rfl⟩) | skip
   rename_i ds;obtain ⟨m',rfl,hh,hx⟩:=FU h
   match ds,hx with
   | [],_=>right;exact ⟨by simp [Ah],rfl⟩
   | [a],_=>right;exact ⟨by simp [Ah],rfl⟩
   | [a,b],hx=>
     right;refine (rec_ (by lia) hw.1 (hx a (by simp))).use ?_;right;refine BX (λe=>?_) λe=>?_
     ·right;refine (rec_ (by lia) hw.2 (hx b (by simp))).use ?_;exact ⟨by simp only [Ah,e,Bool.true_and],rfl⟩
     ·exact ⟨by simp only [Ah,e,Bool.false_and],rfl⟩
   | a :: b :: e :: l,_=>
     right;exact ⟨by simp [Ah],rfl⟩
 | choice ss=>
   rw [Sh.depth] at hs;simp only [wf,Bool.and_eq_true,decide_eq_true_eq] at hw;rw [Sh.d]
   cases d <;> first | (cases m <;> (simp [okG] at h;done)) | (right;exact ⟨by simp [Ah],rfl⟩) | skip
   rename_i ds;obtain ⟨m',rfl,hh,hx⟩:=FU h
   match ds,hx,hh with
   | [],_,_=>right;exact ⟨by simp [Ah],rfl⟩
   | [a],_,_=>right;exact ⟨by simp [Ah],rfl⟩
   | [a,b],_,_=>right;exact ⟨by simp [Ah],rfl⟩
   | [a,b,e],hx,hh=>
     have hb:=hx b (by simp)
     cases a <;> first | (simp [hd3] at hh;done) | skip
     ·rename_i i;right;refine Ym ?_;right;exact ⟨by simp [Ah],rfl⟩
     ·rename_i o;right;refine BX (λq=>?_) λq=>?_
      ·right;have q':Eh o=false:=by simpa [Eh] using q
       refine ⟨?_,rfl⟩
       cases b <;> simp only [Ah,q',Bool.false_and]
      ·have q':Eh o=true:=by simpa [Eh] using q
       cases b <;> first | (cases m' <;> (simp [okG] at hb;done)) | (right;exact ⟨by simp [Ah],rfl⟩) | skip
       rename_i k;right;refine BX (λq0=>?_) λq0=>?_
       ·right;refine BX (λq1=>?_) λq1=>?_
        ·have k0:0<=k:=of_decide_eq_true q0;have k1:k < ((shD ss).length:Int):=by simpa using q1
         have k2:k < (ss.length:Int):=by rw [Cj] at k1;exact k1
         have hk:k.toNat < ss.length:=by lia
         have e1:ss[k.toNat]?=some ss[k.toNat]:=List.getElem?_eq_getElem hk;have e2:atI (shD ss) k=some (ss[k.toNat]).d:=by
          unfold atI;rw [Bz k0 k1];show (shD ss)[k.toNat]?=_;rw [EC,e1];rfl
         right;refine GL e2 ?_;right;refine (rec_ (Nat.le_trans (Cb ss _ _ e1) (by lia)) (CF hw.2 _ (List.getElem_mem hk)) (hx e (by simp))).use ?_;refine ⟨?_,rfl⟩;simp only [Ah,q',k0,k2,decide_true,Bool.true_and,BN ss _ _ e e1]
        ·right;have k0:0<=k:=of_decide_eq_true q0;have k1:¬k < ((shD ss).length:Int):=by simpa using q1
         rw [Cj] at k1;exact ⟨by simp only [Ah,k1,decide_false,Bool.and_false,Bool.false_and],rfl⟩
       ·right;have k0:¬0<=k:=of_decide_eq_false q0;exact ⟨by simp only [Ah,k0,decide_false,Bool.and_false,Bool.false_and],rfl⟩
   | a :: b :: e :: f :: l,_,_=>
     right;exact ⟨by simp [Ah],rfl⟩
def vdS (x:GS)(a b v:D):Option Nat:=match a,b with
 | .str s,.str n=>plc x ⟨s,n,v⟩
 | _,_=>none
theorem Hi {x:GS}{n:Str}:vdS x (.str s) (.str n) v=plc x ⟨s,n,v⟩:=rfl
structure NamedO (f:Fn):Prop where
 nm:Kh f
 odd:∀(x:GS) (b:D),okD b=true->(∀y,b≠.str y)->Pure1 f [x.d,b] .non
theorem OR (hw:GR cw):NamedO (fnOf 2 4 (Cy cw)):=by
 refine ⟨Jj hw,λx b hb hn S=>?_⟩;refine Ap rfl ?_;unfold Cy
 cases b <;> first | (simp [okD] at hb;done) | (right;exact ⟨rfl,rfl⟩) | exact absurd rfl (hn _)
def NV (f:Fn):Prop:=∀(n:Int) (x:GS) (a b v:D),GSOk n x->okD a=true->okD b=true->okD v=true->Pure1 f [x.d,.tup [a,b,v]] (Dd (vdS x a b v))
theorem FC {x:GS}(h:∀y,b≠.str y):vdS x (.str s) b v=none:=by
 unfold vdS
 cases b <;> first | rfl | exact absurd rfl (h _)
theorem EZ (b:D):(∃y,b = .str y)\/∀y,b≠.str y:=by
 cases b <;> first | exact .inl ⟨_,rfl⟩ | (refine .inr λy z=>?_;cases z)
variable {cf:Fn}
theorem O9 (hf:Fo cf 3)(hp:NamedO cp):NV (fnOf 2 3 (EN cf cp)):=by
 intro n x a b v hx ha hb hv S;refine Ap rfl ?_;unfold EN;rcases EZ a with ⟨s,rfl⟩ | hna
 ·have hpb:∀{P:D->List Ob->Prop},(∀y,b = .str y->P (Dd (x.ws.findIdx? λw=>w.1 == y)) S)->((∀y,b≠.str y)->P .non S)->Wf cp [x.d,b] S P:=λ{P} q1 q2=>by
   rcases EZ b with ⟨y,rfl⟩ | hnb
   ·exact (hp.nm n x y hx).use (q1 y rfl)
   ·exact (hp.odd x b hb hnb).use (q2 hnb)
  cases hx with
  | fin=>
    have e0:vdS .fin (.str s) b v=none:=by
     rcases EZ b with ⟨y,rfl⟩ | hnb
     ·rfl
     ·exact FC hnb
    rw [e0];rw [GS.d] at hpb ⊢;right;refine BX (λq=>?_) λq=>?_
    ·right;exact ⟨rfl,rfl⟩
    ·right;refine hpb (λy _=>?_) λ_=>?_
     ·show HJ _ _ .next ⟨[_,_,some (.val .non)],S⟩;right;exact ⟨rfl,rfl⟩
     ·right;exact ⟨rfl,rfl⟩
  | @st side ws h1 h2 h3 h4 h5=>
    rw [GS.d] at hpb ⊢;right
    by_cases hs:s=side
    ·subst hs;refine C3 (by simp) ?_;right;refine hpb (λy ey=>?_) λhnb=>?_
     ·subst ey;show HJ _ _ .next ⟨[some (.val (.tup [.str s,.lst (ws.map wdD)])),some (.val (.tup [.str s,.str y,v])),some (.val (Dd (ws.findIdx? λw=>w.1 == y)))],S⟩;have e0:vdS (.st s ws) (.str s) (.str y) v=Jk ws ⟨s,y,v⟩:=by rw [Hi,plc,if_pos rfl]
      rw [e0]
      cases hfi:ws.findIdx? λw=>w.1 == y with
      | none=>
        rw [E9 hfi,Dd];right;exact ⟨rfl,rfl⟩
      | some p=>
        obtain ⟨w,ew,_⟩:=Iw hfi;have hw:=h5 w (List.mem_of_getElem? ew);rw [Fa hfi ew,show Dd (some p) = .int p from rfl];right;refine AH (GP ew) ?_;unfold wdD;right;refine (hf w.2.1 hw.dep v hv).use ?_
        cases hff:Ah w.2.1 v with
        | true=>right;exact ⟨rfl,rfl⟩
        | false=>right;exact ⟨rfl,rfl⟩
     ·rw [FC hnb];right;exact ⟨rfl,rfl⟩
    ·have e0:vdS (.st side ws) (.str s) b v=none:=by
      rcases EZ b with ⟨y,rfl⟩ | hnb
      ·rw [Hi,plc,if_neg hs]
      ·exact FC hnb
     rw [e0];refine DB (by simpa using hs) ?_;right;exact ⟨rfl,rfl⟩
 ·have e0:vdS x a b v=none:=by unfold vdS;cases a <;> first | rfl | exact absurd rfl (hna _)
  rw [e0]
  cases a <;> first | (simp [okD] at ha;done) | (right;exact ⟨rfl,rfl⟩) | exact absurd rfl (hna _)
def vd (gs:List (List GS))(hs:List Nat)(d:D):Option (Nat×Nat):=match d with
 | .tup [.int k,a,b,v]=>if 0<=k/\k < gs.length then (vdS (A0 (gAt gs k.toNat) (hAt hs k.toNat)) a b v).map λp=>(k.toNat,p) else none
 | _=>none
def HU (f:Fn):Prop:=∀(gs:List (List GS)) (hs:List Nat) (S:List Ob) (K:Nat) (d:D),(∀g∈gs,GOk g)->gs.length<=9->hs.length=gs.length->(∀i,i < gs.length->hAt hs i < (gAt gs i).length)->okD d=true->S[K]?=some (.lst (nD hs))->PureS S f [gsD gs,.obj K,d] (Dd ((vd gs hs d).map (·.2)))
theorem PF (h:xs.length≠4):vd gs hs (.tup xs)=none:=by
 unfold vd
 split
 ·next e=>cases e;exact absurd rfl h
 ·rfl
theorem PJ {k:D}(h:∀i,k≠.int i):vd gs hs (.tup [k,a,b,v])=none:=by
 unfold vd
 split
 ·next e=>cases e;exact absurd rfl (h _)
 ·rfl
theorem O8 {cs:Fn}(hs0:NV cs)(hw:ED cw):HU (fnOf 3 4 (DX cs cw)):=by
 intro gs hs S K d hg g9 hlen hlt hd hK;have hL:LIM=100000:=rfl;refine Ap rfl ?_;unfold DX
 cases d <;> first | (simp [okD] at hd;done) | (right;exact ⟨rfl,rfl⟩) | skip
 rename_i xs;right
 by_cases hl:xs.length=4
 ·refine C3 (by simp [hl]) ?_;right
  match xs,hl with
  | [k,a,b,v],_=>
    have ho:okD k=true/\okD a=true/\okD b=true/\okD v=true:=by simpa [okD,oks] using hd
    right;unfold gsD;right;rw [List.length_map];refine (hw k 0 _ ho.1).use ?_;right
    by_cases hi:∃i:Int,k = .int i
    ·obtain ⟨i,rfl⟩:=hi
     by_cases hr:0<=i/\i < gs.length
     ·obtain ⟨i,rfl⟩:=Int.eq_ofNat_of_zero_le hr.1;have hi:i < gs.length:=by lia
      refine C3 (by simp [C1];lia) ?_;right;refine AH (Db hi) ?_;right;refine Ry hK (IC (by lia)) ?_;refine AH (Cv (hlt i hi)) ?_;right;refine (hs0 _ _ a b v (Ez (CN hg hi) (hlt i hi)) ho.2.1 ho.2.2.1 ho.2.2.2).use ?_;refine ⟨?_,rfl⟩;show _=Dd (Option.map _ (vd gs hs (.tup [.int (i:Nat),a,b,v])));unfold vd;dsimp only;rw [if_pos (by lia),Option.map_map,Int.toNat_natCast]
      congr 1
      cases vdS (A0 (gAt gs i) (hAt hs i)) a b v <;> rfl
     ·refine DB (by simp [C1];lia) ?_;right;refine ⟨?_,rfl⟩;unfold vd;dsimp only;rw [if_neg hr];rfl
    ·have e0:C1 0 (((gs.length:Nat):Int) - 1) k=false:=by cases k <;> first | rfl | exact absurd ⟨_,rfl⟩ hi
     rw [e0];right;rw [PJ λi z=>hi ⟨i,z⟩];exact ⟨rfl,rfl⟩
 ·refine DB (by simp;lia) ?_;right;rw [PF hl];exact ⟨rfl,rfl⟩
mutual
noncomputable def vz:D->Nat
 | .str x=>1 + x.length
 | .lst xs=>1 + vzs xs
 | .tup xs=>9 + vzs xs
 | _=>9
noncomputable def vzs:List D->Nat
 | []=>0
 | d :: r=>vz d + vzs r
end
theorem L5 {s:Sh}:∀(ds:List D),(∀d∈ds,(Av s d).length<=vz d)->((ds.map λd=>Av s d).flatten).length<=vzs ds
 | [],_=>Nat.zero_le _
 | d :: r,h=>by
   rw [List.map_cons,List.flatten_cons,List.length_append,vzs];exact Nat.add_le_add (h d List.mem_cons_self) (L5 r λx hx=>h x (List.mem_cons_of_mem _ hx))
theorem CB:∀(n:Nat) (s:Sh),s.depth<=n->wf s=true->∀v,Ah s v=true->(Av s v).length<=vz v
 | 0,s,h,_,_,_=>absurd s.depth_pos (by lia)
 | n + 1,s,hs,hw,v,hf=>by
   cases s with
   | nothing=>rw [Av];exact Nat.zero_le _
   | number lo hi=>
     obtain ⟨_,_,_,w3⟩:=OV hw
     cases v <;> simp [Ah] at hf
     rw [Av,K5,vz]
     ·lia
     all_goals intros;contradiction
   | text q=>
     cases v <;> simp only [Ah,Bool.false_eq_true] at hf
     rename_i x;rw [Av,vz,List.length_cons,List.length_map,<-Cm];lia
   | list s q=>
     simp only [wf,Bool.and_eq_true,decide_eq_true_eq] at hw;rw [Sh.depth] at hs
     cases v <;> simp only [Ah,Bool.false_eq_true] at hf
     rename_i ds;simp only [Bool.and_eq_true,decide_eq_true_eq,List.all_eq_true] at hf;rw [Av,vz,List.length_cons];have:=L5 (s:=s) ds λd hd=>CB n s (by lia) hw.2 d (hf.2 d hd);lia
   | pair s r=>
     simp only [wf,Bool.and_eq_true] at hw;rw [Sh.depth] at hs;unfold Ah at hf
     split at hf
     ·next a b=>
      rw [Bool.and_eq_true] at hf;rw [Av,List.length_append,vz,vzs,vzs,vzs];have h1:=CB n s (by lia) hw.1 _ hf.1;have h2:=CB n r (by lia) hw.2 _ hf.2;lia
     ·cases hf
   | choice ss=>
     simp only [wf,Bool.and_eq_true,decide_eq_true_eq] at hw;rw [Sh.depth] at hs;unfold Ah at hf
     split at hf
     ·next o k x=>
      simp only [Bool.and_eq_true,decide_eq_true_eq] at hf;obtain ⟨j,rfl⟩:=Int.eq_ofNat_of_zero_le hf.1.2.1;have hj:j < ss.length:=by have:=hf.1.2.2;lia
      have e1:ss[j]?=some ss[j]:=List.getElem?_eq_getElem hj;have h2:=hf.2;rw [Int.toNat_natCast,BN ss _ _ _ e1] at h2;rw [Av,Int.toNat_natCast,Ea ss _ _ _ e1,List.length_cons,vz,vzs,vzs,vzs,vzs];have h1:=CB n _ (Nat.le_trans (Cb ss _ _ e1) (by lia)) (CF hw.2 _ (List.getElem_mem hj)) x h2;lia
     ·cases hf
noncomputable def d3:D->D
 | .tup [_,_,_,v]=>v
 | _=>.non
noncomputable def DJ (s:Str)(w:List D×List D)(l:List D):List D×List D:=if s=sL then (w.1++l,w.2) else (w.1,w.2++l)
def goB (gs:List (List GS)):List Nat->List D×List D->Nat->List D->Nat ⊕ (List D×List D)
 | _,w,_,[]=>.inr w
 | hs,w,n,d :: r=>match vd gs hs d with
   | none=>.inl n
   | some (i,p)=>goB gs (hs.set i (BB (gAt gs i) (hAt hs i) p)) (DJ (A0 (gAt gs i) (hAt hs i)).side w (.int (i:Nat) :: .int (p:Nat) :: Av (AJ (gAt gs i) (hAt hs i) p).2.1 (d3 d))) (n + 1) r
structure HsOk (gs:List (List GS))(hs:List Nat):Prop where
 len:hs.length=gs.length
 lt:∀i,i < gs.length->hAt hs i < (gAt gs i).length
theorem Gq (hg:∀g∈gs,GOk g):HsOk gs (List.replicate gs.length 0):=⟨(Said.nil (gs:=gs)).len,(Said.nil (gs:=gs)).lt hg⟩
theorem HsOk.next (hg:∀g∈gs,GOk g)(h:HsOk gs hs){i p:Nat}{v:D}(hi:i < gs.length)(hm:MvOk (gAt gs i) (hAt hs i) p v):HsOk gs (hs.set i (BB (gAt gs i) (hAt hs i) p)):=by
 refine ⟨by rw [List.length_set];exact h.len,λj hj=>?_⟩;rw [Mc (by rw [h.len];exact hi)]
 by_cases q:j=i
 ·subst q;rw [if_pos rfl];have hw:=DL (CN hg hi) hm.lt hm.pl;have h1:=hw.lo;have h2:=hw.hi;unfold BB;lia
 ·rw [if_neg q];exact h.lt j hj
theorem Hj (h:HsOk gs hs){d:D}{i p:Nat}(e:vd gs hs d=some (i,p)):i < gs.length/\∃v,d = .tup [.int (i:Nat),.str (A0 (gAt gs i) (hAt hs i)).side,.str (AJ (gAt gs i) (hAt hs i) p).1,v]/\MvOk (gAt gs i) (hAt hs i) p v:=by
 unfold vd at e
 split at e
 ·next k a b v=>
  split at e
  ·next hk=>
   obtain ⟨k,rfl⟩:=Int.eq_ofNat_of_zero_le hk.1;rw [Int.toNat_natCast] at e;have hk':k < gs.length:=by lia
   obtain ⟨p',e1,e2⟩:=Option.map_eq_some_iff.mp e
   cases e2
   refine ⟨hk',v,?_⟩;unfold vdS at e1
   split at e1
   ·next s n=>
    have hpl:=WI e1;obtain ⟨side,ws,egs,hp,ew⟩:=F0 hpl;rw [egs,plc] at e1
    by_cases hs':s=side
    ·rw [if_pos hs'] at e1
     cases hfi:ws.findIdx? λw=>w.1 == n with
     | none=>rw [E9 hfi] at e1;cases e1
     | some q=>
       obtain ⟨w,ew',en⟩:=Iw hfi;rw [Fa hfi ew'] at e1
       by_cases hff:Ah w.2.1 v=true
       ·rw [if_pos hff] at e1
        cases e1
        have:w=AJ (gAt gs i) (hAt hs i) p:=by rw [ew'] at ew;exact Option.some.inj ew
        subst this;refine ⟨?_,h.lt i hk',hpl,hff⟩;rw [egs,<-hs',<-en];rfl
       ·rw [if_neg hff] at e1;cases e1
    ·rw [if_neg hs'] at e1;cases e1
   ·cases e1
  ·cases e
 ·cases e
structure OkB (ds:List D):Prop where
 all:∀d∈ds,okD d=true
 len:ds.length<=1000
 sz:(ds.map λd=>2 + vz (d3 d)).sum<=80000
 one:∀d∈ds,vz (d3 d)<=40000
structure WS (S:List Ob)(W A B N:Nat)(hs:List Nat)(w:List D×List D)(S':List Ob):Prop where
 gr:Gr S S'
 low:S.length<=W/\S.length<=A/\S.length<=B/\S.length<=N
 ne:A≠B/\N≠A/\N≠B/\N≠W/\W≠A/\W≠B
 w0:S'[W]?=some (.dct (lr (.obj A) (.obj B)))
 a0:S'[A]?=some (.lst w.1)
 b0:S'[B]?=some (.lst w.2)
 n0:S'[N]?=some (.lst (nD hs))
def wbB (Ef Dg Du:Fn):M Out:=
 (Ae (Ao 5 (Ag Du (Aa (Ab 0) (Aa (Ab 3) (Aa (Ac (Ab 1) (Ab 4) ixD) Ad)))))
 (Ae (ifS (Aj (Ac (Ab 5) (fC .non) isC))
   (Ft "NoTalk" (Aa (Ab 4) Ad))
   An)
 (Ae (Ao 6 (Ac (Ac (Ab 1) (Ab 4) ixD) (fC (.int 0)) ixD))
 (Ae (Ao 7 (Ac (Ac (Ab 0) (Ab 6) ixD) (Ac (Ab 3) (Ab 6) ixD) ixD))
 (Ae (Eo (objM Eg (Ac (Ab 2) (Ac (Ab 7) (fC (.int 0)) ixD) BI) (Aa (Ac (Ak (As (Aa (Ab 6) Ad))) (Ag Dg (Aa (Ab 7) (Aa (Ab 5) (Aa (Ac (Ac (Ab 1) (Ab 4) ixD) (fC (.int 3)) ixD) Ad)))) Aq) Ad)))
 (Cd (Ag Ef (Aa (Ac (Ab 0) (Ab 6) ixD) (Aa (Az (Aa (Ac (Ab 3) (Ab 6) ixD) (Aa (Ab 5) Ad))) Ad))) (stD (Ab 3) (Ab 6))))))))
def HX (gs:List (List GS))(ds:List D)(S:List Ob)(W A B N:Nat)(hs:List Nat)(w:List D×List D)(j:Nat)(d:D)(o:Out)(t:T):Prop:=
 match vd gs hs d with
 | none=>o = .ret (.exc "NoTalk" [.int (j:Nat)])/\Gr S t.S
 | some (i,p)=>o = .next/\∃S'' f5 f6 f7,WS S W A B N (hs.set i (BB (gAt gs i) (hAt hs i) p)) (DJ (A0 (gAt gs i) (hAt hs i)).side w (.int (i:Nat) :: .int (p:Nat) :: Av (AJ (gAt gs i) (hAt hs i) p).2.1 (d3 d))) S''/\t=⟨[some (.val (gsD gs)),some (.val (.lst ds)),some (.val (.obj W)),some (.val (.obj N)),some (.val (.int (j:Nat))),f5,f6,f7],S''⟩
theorem U5 (hn:Gb cn)(hm:JY cm)(hp:HU cp){gs:List (List GS)}{ds:List D}{S S':List Ob}{W A B N j:Nat}{hs:List Nat}{w:List D×List D}{d:D}{e5 e6 e7:Option Sl}(hg:∀g∈gs,GOk g)(g9:gs.length<=9)(ho:HsOk gs hs)(hd:ds[j]?=some d)(hok:okD d=true)(hw:WS S W A B N hs w S')(hsz:w.1.length + w.2.length + (2 + vz (d3 d))<=80000)(hv0:vz (d3 d)<=40000) :
 F2.W (wbB cn cm cp) ⟨[some (.val (gsD gs)),some (.val (.lst ds)),some (.val (.obj W)),some (.val (.obj N)),some (.val (.int (j:Nat))),e5,e6,e7],S'⟩ (HX gs ds S W A B N hs w j d):=by
 have hL:LIM=100000:=rfl;obtain ⟨C,hC⟩:∃C,C=HX gs ds S W A B N hs w j d:=⟨_,rfl⟩;rw [<-hC];unfold wbB;left;refine AH (CK hd) ?_;left;refine (hp gs hs S' N d hg g9 ho.len ho.lt hok hw.n0).use ?_
 cases ev:vd gs hs d with
 | none=>
   show HJ _ _ .next ⟨[_,_,_,_,_,some (.val .non),_,_],S'⟩;left;subst hC;unfold HX;rw [ev];exact ⟨rfl,hw.gr⟩
 | some ip=>
   obtain ⟨i,p⟩:=ip;obtain ⟨hi,v,rfl,hmv⟩:=Hj ho ev;have hgo:=CN hg hi;have hlt:=ho.lt i hi;have hgs:=Ez hgo hlt;have hwd:=DL hgo hlt hmv.pl;obtain ⟨side,ws,egs,hp',ew⟩:=F0 hmv.pl;rw [egs] at hgs;obtain ⟨s,rfl⟩:=Js hgs;have hbl:(Av (AJ (gAt gs i) (hAt hs i) p).2.1 v).length<=vz v:=CB 3 _ hwd.dep hwd.ok v hmv.fit;have hsz:w.1.length + w.2.length + (2 + vz v)<=80000:=hsz;have hv0:vz v<=40000:=hv0;have hgget:=Cv hlt;rw [egs,GS.d] at hgget;have hmb:=hm (gAt gs i) (hAt hs i) p v hgo hmv (by lia);rw [egs,GS.d] at hmb;have hnx:=hn (gAt gs i) (hAt hs i) p hgo hlt hmv.pl;show HJ _ _ .next ⟨[some (.val (gsD gs)),_,_,_,_,some (.val (.int (p:Nat))),_,_],S'⟩;unfold gsD;left;refine AH (CK hd) ?_;left;refine AH (Db hi) ?_;left;refine Ry hw.n0 (IC (by rw [ho.len];exact hi)) ?_;refine AH hgget ?_;left;refine NI (k:=if s=true then A else B) ?_;left;refine CZ hw.w0 (lrF (λs=>.obj (if s=true then A else B)) s) ?_;have hAB:S'[if s=true then A else B]?=some (.lst (if s=true then w.1 else w.2)):=by cases s;exact hw.b0;exact hw.a0
   refine ⟨rfl,_,hAB,?_⟩;left;refine AH (CK hd) ?_;left;refine hmb.use ?_;left;refine AC (by show 1 + (_ + 1)<=_;lia) ?_;left;have hle:(if s=true then w.1 else w.2).length + (Av (AJ (gAt gs i) (hAt hs i) p).2.1 v).length + 2<=LIM:=by
    rw [hL]
    cases s
    ·show w.2.length + _ + 2<=_;lia
    ·show w.1.length + _ + 2<=_;lia
   refine ⟨_,(if s=true then w.1 else w.2)++(.int (i:Nat) :: .int (p:Nat) :: Av (AJ (gAt gs i) (hAt hs i) p).2.1 v),hAB,?_,?_⟩
   ·show (if _ then _ else _)=_;rw [if_pos (by show _ + (_ + 1 + 1)<=_;lia)];rfl
   have n1:N≠if s=true then A else B:=by cases s;exact hw.ne.2.2.1;exact hw.ne.2.1
   have hW':=A9 (o:=.lst ((if s=true then w.1 else w.2)++(.int (i:Nat) :: .int (p:Nat) :: Av (AJ (gAt gs i) (hAt hs i) p).2.1 v))) hw.w0 (by cases s;exact Ne.symm hw.ne.2.2.2.2.2;exact Ne.symm hw.ne.2.2.2.2.1:(if s=true then A else B)≠W);have hN':=A9 (o:=.lst ((if s=true then w.1 else w.2)++(.int (i:Nat) :: .int (p:Nat) :: Av (AJ (gAt gs i) (hAt hs i) p).2.1 v))) hw.n0 (Ne.symm n1);have hlo:S.length<=if s=true then A else B:=by cases s;exact hw.low.2.2.1;exact hw.low.2.1
   have key:WS S W A B N hs (DJ (sd s) w (.int (i:Nat) :: .int (p:Nat) :: Av (AJ (gAt gs i) (hAt hs i) p).2.1 v)) (S'.set (if s=true then A else B) (.lst ((if s=true then w.1 else w.2)++(.int (i:Nat) :: .int (p:Nat) :: Av (AJ (gAt gs i) (hAt hs i) p).2.1 v)))):=by
    refine ⟨hw.gr.set hlo,hw.low,hw.ne,hW',?_,?_,hN'⟩
    ·cases s
     ·rw [show DJ (sd false) w _=(w.1,w.2++_) from rfl];exact A9 hw.a0 (Ne.symm hw.ne.1)
     ·exact BF hw.a0
    ·cases s
     ·exact BF hw.b0
     ·rw [show DJ (sd true) w _=(w.1++_,w.2) from rfl];exact A9 hw.b0 hw.ne.1
   generalize S'.set (if s=true then A else B) (.lst ((if s=true then w.1 else w.2)++(.int (i:Nat) :: .int (p:Nat) :: Av (AJ (gAt gs i) (hAt hs i) p).2.1 v)))=S2 at key ⊢;refine Cn ?_;left;refine AH (Db hi) ?_;left;refine Ry key.n0 (IC (by rw [ho.len];exact hi)) ?_;left;refine hnx.use ?_;left;refine YF key.n0 (Bz (by lia) (by unfold nD;rw [List.length_map,ho.len];lia)) ?_;rw [Int.toNat_natCast,K4];subst hC;unfold HX;rw [ev];refine ⟨rfl,_,_,_,_,⟨key.gr.set hw.low.2.2.2,hw.low,hw.ne,A9 key.w0 hw.ne.2.2.2.1,?_,?_,BF key.n0⟩,rfl⟩
   ·rw [egs];exact A9 key.a0 hw.ne.2.1
   ·rw [egs];exact A9 key.b0 hw.ne.2.2.1
theorem Pg (a:Int)(n:Nat):AT a (n + 1) = .int a :: AT (a + 1) n:=by
 unfold AT;rw [List.range_succ_eq_map,List.map_cons,List.map_map]
 congr 1
 ·simp
 ·refine List.map_congr_left λk _=>?_;show D.int (a + ((k + 1:Nat):Int)) = .int (a + 1 + k)
  congr 1
  lia
def szB (r:List D):Nat:=(r.map λd=>2 + vz (d3 d)).sum
theorem F3 (d:D)(r:List D):szB (d :: r)=(2 + vz (d3 d)) + szB r:=by unfold szB;rw [List.map_cons,List.sum_cons]
theorem HG {w:List D×List D}{l:List D}:(DJ s w l).1.length + (DJ s w l).2.length=w.1.length + w.2.length + l.length:=by
 unfold DJ
 split
 ·dsimp only;rw [List.length_append];lia
 ·dsimp only;rw [List.length_append];lia
def RN (gs:List (List GS))(ds:List D)(S:List Ob)(W A B N:Nat)(x:Nat ⊕ (List D×List D))(o:Out)(t:T):Prop:=
 match x with
 | .inl n=>o = .ret (.exc "NoTalk" [.int (n:Nat)])/\Gr S t.S
 | .inr w=>o = .next/\∃hs S'' e4 e5 e6 e7,WS S W A B N hs w S''/\t=⟨[some (.val (gsD gs)),some (.val (.lst ds)),some (.val (.obj W)),some (.val (.obj N)),e4,e5,e6,e7],S''⟩
theorem PU {cn cm cp:Fn}(hn:Gb cn)(hm:JY cm)(hp:HU cp){gs:List (List GS)}{ds:List D}{S:List Ob}{W A B N:Nat}(hg:∀g∈gs,GOk g)(g9:gs.length<=9)(hall:∀d∈ds,okD d=true/\vz (d3 d)<=40000):∀(r:List D) (j:Nat) (hs:List Nat) (w:List D×List D) (S':List Ob) (e4 e5 e6 e7:Option Sl),ds.drop j=r->HsOk gs hs->WS S W A B N hs w S'->w.1.length + w.2.length + szB r<=80000->
 F2.W (Bm (Ar 4) (wbB cn cm cp) (AT (j:Int) r.length)) ⟨[some (.val (gsD gs)),some (.val (.lst ds)),some (.val (.obj W)),some (.val (.obj N)),e4,e5,e6,e7],S'⟩ (RN gs ds S W A B N (goB gs hs w j r))
 | [],j,hs,w,S',e4,e5,e6,e7,hd,ho,hw,hsz=>W_forL_nil.mpr ⟨rfl,hs,S',e4,e5,e6,e7,hw,rfl⟩
 | d :: r,j,hs,w,S',e4,e5,e6,e7,hd,ho,hw,hsz=>by
   have hj:ds[j]?=some d:=by rw [<-List.head?_drop,hd];rfl
   have hd2:ds.drop (j + 1)=r:=by rw [<-List.tail_drop,hd];rfl
   have hmem:=List.mem_of_getElem? hj;rw [F3] at hsz;rw [List.length_cons,Pg,CA];refine D6 ?_;refine (U5 hn hm hp hg g9 ho hj (hall d hmem).1 hw (by lia) (hall d hmem).2).mono λo t q=>?_;unfold HX at q;rw [goB]
   cases ev:vd gs hs d with
   | none=>
     rw [ev] at q;obtain ⟨e1,e2⟩:=q;subst e1;exact ⟨rfl,e2⟩
   | some ip=>
     obtain ⟨i,p⟩:=ip;rw [ev] at q;obtain ⟨e1,S'',f5,f6,f7,hw2,e2⟩:=q;subst e1 e2;obtain ⟨hi,v,hdv,hmv⟩:=Hj ho ev;have hwd:=DL (CN hg hi) hmv.lt hmv.pl;have hbl:(Av (AJ (gAt gs i) (hAt hs i) p).2.1 (d3 d)).length<=vz (d3 d):=by rw [hdv];exact CB 3 _ hwd.dep hwd.ok v hmv.fit
     have:=PU hn hm hp hg g9 hall r (j + 1) _ _ S'' (some (.val (.int (j:Nat)))) f5 f6 f7 hd2 (ho.next hg hi hmv) hw2 (by rw [HG];show _ + (_ + 1 + 1) + _<=_;lia);rw [show ((j + 1:Nat):Int)=(j:Int) + 1 by lia] at this;exact this
def Vi (f:Fn):Prop:=∀(gs:List (List GS)) (ds:List D) (S:List Ob),(∀g∈gs,GOk g)->gs.length<=9->OkB ds->Wf f [gsD gs,.lst ds] S λq S'=>Gr S S'/\match goB gs (List.replicate gs.length 0) ([],[]) 0 ds with
 | .inl n=>q = .exc "NoTalk" [.int (n:Nat)]
 | .inr w=>∃A B,A≠B/\S.length<=A/\S.length<=B/\q = .tup [.obj A,.obj B]/\S'[A]?=some (.lst w.1)/\S'[B]?=some (.lst w.2)
theorem U6 (hn:Gb cn)(hm:JY cm)(hp:HU cp):Vi (fnOf 2 8 (DY cn cm cp)):=by
 intro gs ds S hg g9 hd;have hL:LIM=100000:=rfl;refine Ap rfl ?_;unfold DY;left;refine MH ?_;left;refine ⟨by simp,?_⟩;left;unfold gsD;left;refine (FE (l:=gs) (f:=λ_=>.int 0) (fr:=[]) ?_).mono ?_
 ·intro g _;left;exact ⟨rfl,rfl⟩
 rintro xs tc ⟨rfl,hS⟩;refine AC (by rw [List.length_map,hL];lia) ?_;rw [hS];have ez:(gs.map λ_=>D.int 0)=nD (List.replicate gs.length 0):=by
  unfold nD;rw [List.map_replicate,<-List.map_const];rfl
 rw [ez];left;refine Fl (Dm (by lia) (by have:=hd.len;lia)) ?_;rw [Int.toNat_natCast];show F2.W (Bm (Ar 4) (wbB cn cm cp) (AT ((0:Nat):Int) ds.length)) ⟨[some (.val (gsD gs)),some (.val (.lst ds)),some (.val (.obj S.length)),some (.val (.obj ((S++[Ob.dct []]++[Ob.lst []]++[Ob.lst []]).set S.length (.dct (lr (.obj (S++[Ob.dct []]).length) (.obj (S++[Ob.dct []]++[Ob.lst []]).length)))).length)),none,none,none,none],(S++[Ob.dct []]++[Ob.lst []]++[Ob.lst []]).set S.length (.dct (lr (.obj (S++[Ob.dct []]).length) (.obj (S++[Ob.dct []]++[Ob.lst []]).length)))++[.lst (nD (List.replicate gs.length 0))]⟩ _;have lA:(S++[Ob.dct []]).length=S.length + 1:=by simp
 have lB:(S++[Ob.dct []]++[Ob.lst []]).length=S.length + 2:=by simp
 have lN:((S++[Ob.dct []]++[Ob.lst []]++[Ob.lst []]).set S.length (.dct (lr (.obj (S++[Ob.dct []]).length) (.obj (S++[Ob.dct []]++[Ob.lst []]).length)))).length=S.length + 3:=by simp
 have g0:(S++[Ob.dct []]++[Ob.lst []]++[Ob.lst []])[S.length]?=some (.dct []):=by simp
 have gA:(S++[Ob.dct []]++[Ob.lst []]++[Ob.lst []])[S.length + 1]?=some (.lst []):=by simp
 have gB:(S++[Ob.dct []]++[Ob.lst []]++[Ob.lst []])[S.length + 2]?=some (.lst []):=by simp
 have h0:WS S S.length (S.length + 1) (S.length + 2) (S.length + 3) (List.replicate gs.length 0) ([],[]) ((S++[Ob.dct []]++[Ob.lst []]++[Ob.lst []]).set S.length (.dct (lr (.obj (S.length + 1)) (.obj (S.length + 2))))++[.lst (nD (List.replicate gs.length 0))]):=by
  refine ⟨(((Gr.app.trans Gr.app).trans Gr.app).set (Nat.le_refl _)).trans Gr.app,⟨by lia,by lia,by lia,by lia⟩,⟨by lia,by lia,by lia,by lia,by lia,by lia⟩,Gr.app.get (BF g0),Gr.app.get (A9 gA (by lia)),Gr.app.get (A9 gB (by lia)),?_⟩;rw [List.getElem?_append_right (by rw [List.length_set];simp)];rw [List.length_set];simp
 rw [lN,lA,lB];refine (PU hn hm hp hg g9 (λd h=>⟨hd.all d h,hd.one d h⟩) ds 0 _ ([],[]) _ none none none none rfl (Gq hg) h0 (by have:=hd.sz;unfold szB;show 0 + 0 + _<=_;lia)).mono λo t q=>?_;unfold RN at q
 cases e:goB gs (List.replicate gs.length 0) ([],[]) 0 ds with
 | inl n=>
   rw [e] at q;obtain ⟨q1,q2⟩:=q;subst q1;exact ⟨q2,rfl⟩
 | inr w=>
   rw [e] at q;obtain ⟨q1,hs',S'',e4,e5,e6,e7,hw,q2⟩:=q;subst q1 q2;left;refine CZ hw.w0 (lrF (λs=>.obj (if s=true then S.length + 1 else S.length + 2)) true) ?_;left;refine CZ hw.w0 (lrF (λs=>.obj (if s=true then S.length + 1 else S.length + 2)) false) ?_;left;exact ⟨rfl,hw.gr,_,_,hw.ne.1,hw.low.2.1,hw.low.2.2.1,rfl,hw.a0,hw.b0⟩
theorem PP {f:M (List D)}(h:F2.W f t λds t1=>∃xs,ds=[.lst xs]/\Q (Cq 0 xs) t1):F2.W (FK f) t Q:=DK (h.mono λds t1 ⟨xs,e,q⟩=>by subst e;exact ⟨_,_,rfl,q⟩)
noncomputable def eqb (n:Str):D->Bool
 | .str m=>n == m
 | _=>false
theorem SO {n:Str}(h:∀y,b≠.str y):eqb n b=false:=by cases b <;> first | rfl | exact absurd rfl (h _)
def pE (b:D):D->Bool
 | .tup [_,.tup (.str n :: _)]=>eqb n b
 | _=>false
theorem Sa {k:D}{w:Str×Sh×Int}:pE b (.tup [k,wdD w])=eqb w.1 b:=rfl
theorem Gm {b:D}:∀(ws:List (Str×Sh×Int)) (j:Nat),(∀w∈ws,eqb w.1 b=false)->(Cq j (ws.map wdD)).filter (pE b)=[]
 | [],_,_=>rfl
 | w :: r,j,h=>by
   rw [List.map_cons,Cq,List.filter_cons,Sa,if_neg (by rw [h w List.mem_cons_self];decide)];exact Gm r (j + 1) λx hx=>h x (List.mem_cons_of_mem _ hx)
theorem Ho {m:Str}:∀(ws:List (Str×Sh×Int)) (j:Nat),(ws.map (·.1)).Nodup->(Cq j (ws.map wdD)).filter (pE (.str m))=(match ws.findIdx? λw=>w.1 == m with | none=>[] | some p=>[.tup [.int ((j + p:Nat):Int),wdD (ws.getD p (Str.ofString "",.nothing,0))]])
 | [],_,_=>rfl
 | w :: r,j,nd=>by
   rw [List.map_cons,List.nodup_cons] at nd;rw [List.map_cons,Cq,List.filter_cons,Sa,List.findIdx?_cons]
   by_cases h:(w.1 == m)=true
   ·rw [if_pos (show eqb w.1 (.str m)=true from h),if_pos h,Gm r (j + 1) λx hx=>?_]
    ·rfl
    ·show (x.1 == m)=false;refine beq_eq_false_iff_ne.mpr λz=>nd.1 ?_;rw [eq_of_beq h,<-z];exact List.mem_map_of_mem hx
   ·rw [if_neg (show ¬eqb w.1 (.str m)=true from h),if_neg h,Ho r (j + 1) nd.2]
    cases r.findIdx? λw=>w.1 == m with
    | none=>rfl
    | some p=>
      show [D.tup [.int ((j + 1 + p:Nat):Int),_]]=[D.tup [.int ((j + (p + 1):Nat):Int),_]];rw [show j + 1 + p=j + (p + 1) by lia];rfl
theorem Zu {n:Str}(hb:okD b=true)(h:P (.bl (eqb n b)) t):F2.W (eqZ (.str n) b) t P:=by
 cases b <;> first | (simp [okD] at hb;done) | exact ⟨_,_,rfl,h⟩
theorem PK {k:Int}(h:¬(0<=k/\k < gs.length)):vd gs hs (.tup [.int k,a,b,v])=none:=by
 unfold vd;dsimp only;rw [if_neg h]
theorem Yc (h:i < gs.length):vd gs hs (.tup [.int (i:Nat),a,b,v])=(vdS (A0 (gAt gs i) (hAt hs i)) a b v).map λp=>(i,p):=by
 unfold vd;dsimp only;rw [if_pos (by lia),Int.toNat_natCast]
theorem KD {n:Str}(h:eqb n b=true):b = .str n:=by
 cases b <;> first | (simp [eqb] at h;done) | skip
 rename_i m;have:n=m:=eq_of_beq h;rw [this]
theorem Xh {side:Str}{ws:List (Str×Sh×Int)}(h:eqb side a=false):vdS (.st side ws) a b v=none:=by
 rcases EZ a with ⟨s,rfl⟩ | hna
 ·rcases EZ b with ⟨y,rfl⟩ | hnb
  ·rw [Hi,plc,if_neg];intro z;have z:s=side:=z;rw [z] at h;simp [eqb] at h
  ·exact FC hnb
 ·unfold vdS;cases a <;> first | rfl | exact absurd rfl (hna _)
theorem UW:vdS .fin a b v=none:=by
 unfold vdS
 split <;> rfl
structure OkM (d:D):Prop where
 ok:okD d=true
 sd:∀k a b v,d = .tup [k,a,b,v]->a≠.dic/\∃m,okG m v=true
theorem Xp {n:Str}(ha:okD a=true)(hd:a≠.dic)(h:P (.bl (!(eqb n a))) t):F2.W (eqS (λb=>!b) (.str n) a) t P:=by
 cases a <;> first | (simp [okD] at ha;done) | exact absurd rfl hd | exact ⟨_,_,rfl,h⟩
def Qi (AF Bv:Fn):M Out:=
 (Ae (ifS (fOr (AS (Aj (fB (Aa (Ab 5) (Aa (fC (.ty "tuple")) Ad)) AI))) (fOr (Aj (Ac (fB (Aa (Ab 5) Ad) AA) (fC (.int 4)) (eqS λb=>!b))) (fOr (AS (Aj (fB (Aa (Ac (Ab 5) (fC (.int 0)) ixD) (Aa (fC (.ty "int")) Ad)) AI))) (Aj (fB (Aa (Ac (Ab 5) (fC (.int 0)) ixD) (Aa (fC (.ty "bool")) Ad)) AI)))))
 (Am (Ab 4))
 An)
 (Ae (ifS (fOr (AS (Aj (Bw (fC (.int 0)) (Ac (Ab 5) (fC (.int 0)) ixD) (fB (Aa (Ab 0) Ad) AA) leA ltA))) (fOr (Aj (Ac (Ac (Ac (Ac (Ab 0) (Ac (Ab 5) (fC (.int 0)) ixD) ixD) (B6 2 (Ac (Ab 5) (fC (.int 0)) ixD)) ixD) (fC (.int 0)) ixD) (Ac (Ab 5) (fC (.int 1)) ixD) (eqS λb=>!b))) (Aj (Ac (Ac (Ab 5) (fC (.int 1)) ixD) (fC (.str "end")) (eqS id)))))
   (Am (Ab 4))
   An)
 (Ae (Ao 6 (Ak (AB 1 [5] (FK (Aa (Ac (Ac (Ac (Ab 0) (Ac (Ab 5) (fC (.int 0)) ixD) ixD) (B6 2 (Ac (Ab 5) (fC (.int 0)) ixD)) ixD) (fC (.int 1)) ixD) Ad)) (Ar 0) (Aj (Ac (Ac (Ac (Ab 0) (fC (.int 1)) ixD) (fC (.int 0)) ixD) (Ac (Ab 1) (fC (.int 2)) ixD) eqZ)) (Ab 0))))
 (Ae (ifS (fOr (Aj (Ac (Ab 6) (Ak (As Ad)) (eqS id))) (AS (Aj (Ag Bv (Aa (Ac (Ac (Ac (Ab 6) (fC (.int 0)) ixD) (fC (.int 1)) ixD) (fC (.int 1)) ixD) (Aa (Ac (Ab 5) (fC (.int 3)) ixD) Ad))))))
   (Am (Ab 4))
   An)
 (Ae (Cd (Ac (Ab 6) (fC (.int 0)) ixD) (unS 2 (AL (Ar 7) (AL (Ar 8) CU))))
 (Ae (Cd (Ac (Ac (Ac (Ab 3) (Ac (Ab 5) (fC (.int 1)) ixD) BI) (Ak (As (Aa (Ac (Ab 5) (fC (.int 0)) ixD) (Aa (Ab 7) Ad)))) Aq) (Ag AF (Aa (Ac (Ab 8) (fC (.int 1)) ixD) (Aa (Ac (Ab 5) (fC (.int 3)) ixD) Ad))) Aq) (FZ (Ab 3) (Ac (Ab 5) (fC (.int 1)) ixD)))
 (Cd (Ac (Ab 8) (fC (.int 2)) ixD) (D9 2 (Ac (Ab 5) (fC (.int 0)) ixD)))))))))
def HR (gs:List (List GS))(ds:List D)(S':List Ob)(W:Nat)(hs:List Nat)(w:List D×List D)(j:Nat)(d:D)(o:Out)(t:T):Prop:=
 match vd gs hs d with
 | none=>o = .ret (.int (j:Nat))/\t.S=S'
 | some (i,p)=>o = .next/\∃f4 f5 f6 f7 f8,t=⟨[some (.val (gsD gs)),some (.val (.lst ds)),some (.own (nD (hs.set i (BB (gAt gs i) (hAt hs i) p)))),some (.val (.obj W)),f4,f5,f6,f7,f8],S'.set W (.dct (lr (.lst (DJ (A0 (gAt gs i) (hAt hs i)).side w (.int (i:Nat) :: .int (p:Nat) :: Av (AJ (gAt gs i) (hAt hs i) p).2.1 (d3 d))).1) (.lst (DJ (A0 (gAt gs i) (hAt hs i)).side w (.int (i:Nat) :: .int (p:Nat) :: Av (AJ (gAt gs i) (hAt hs i) p).2.1 (d3 d))).2)))⟩
variable {cb:Fn}
theorem Qk (hb:BP cb 3)(hf:LF5 cf 3){gs:List (List GS)}{ds:List D}{S':List Ob}{W j:Nat}{hs:List Nat}{w:List D×List D}{d:D}{e6 e7 e8:Option Sl}(hg:∀g∈gs,GOk g)(g9:gs.length<=9)(ho:HsOk gs hs)(hd:OkM d)(hW:S'[W]?=some (.dct (lr (.lst w.1) (.lst w.2))))(hsz:w.1.length + w.2.length + (2 + vz (d3 d))<=80000) :
 F2.W (Qi cb cf) ⟨[some (.val (gsD gs)),some (.val (.lst ds)),some (.own (nD hs)),some (.val (.obj W)),some (.val (.int (j:Nat))),some (.val d),e6,e7,e8],S'⟩ (HR gs ds S' W hs w j d):=by
 have hL:LIM=100000:=rfl;obtain ⟨C,hC⟩:∃C,C=HR gs ds S' W hs w j d:=⟨_,rfl⟩;rw [<-hC];have fin0:vd gs hs d=none->∀t:T,t.S=S'->C (.ret (.int (j:Nat))) t:=λe t et=>by
  rw [hC];unfold HR;rw [e];exact ⟨rfl,et⟩
 have hok:=hd.ok;unfold Qi
 cases d <;> first | (simp [okD] at hok;done) | (left;exact fin0 rfl _ rfl) | skip
 rename_i xs;left
 by_cases hl:xs.length=4
 rotate_left
 ·refine DB (by simp;lia) ?_;left;exact fin0 (PF hl) _ rfl
 refine C3 (by simp [hl]) ?_
 match xs,hl with
 | [k,a,b,v],_=>
   have hoo:okD k=true/\okD a=true/\okD b=true/\okD v=true:=by simpa [okD,oks] using hok
   obtain ⟨hnd,m,hgv⟩:=hd.sd k a b v rfl;left
   by_cases hki:∃i:Int,k = .int i
   rotate_left
   ·have hk0:=hoo.1
    cases k <;> first | (simp [okD] at hk0;done) | exact absurd ⟨_,rfl⟩ hki | (left;exact fin0 (PJ (by intro i z;cases z)) _ rfl)
   obtain ⟨i,rfl⟩:=hki;left;unfold gsD;left
   by_cases h0:0<=i
   rotate_left
   ·refine C3 (decide_eq_false h0) ?_;left;exact fin0 (PK λz=>h0 z.1) _ rfl
   refine DB (decide_eq_true h0) ?_;left;rw [List.length_map]
   by_cases h1:i < gs.length
   rotate_left
   ·refine DB (by simp;lia) ?_;left;exact fin0 (PK λz=>h1 z.2) _ rfl
   refine C3 (by simp;lia) ?_;left;obtain ⟨i,rfl⟩:=Int.eq_ofNat_of_zero_le h0;have hi:i < gs.length:=by lia
   have hlt:=ho.lt i hi;have hgo:=CN hg hi;have hgs:=Ez hgo hlt;have hgget:=Cv hlt;have hvd:=Yc (hs:=hs) (a:=a) (b:=b) (v:=v) hi;refine AH (Db hi) ?_;left;refine E3 rfl ?_;left;refine ⟨_,_,_,rfl,rfl,EK (by rw [ho.len];exact hi),?_⟩;refine AH hgget ?_
   cases egs:A0 (gAt gs i) (hAt hs i) with
   | fin=>
     rw [egs,UW] at hvd;rw [GS.d];left;refine Xp hoo.2.1 hnd ?_;left;refine BX (λq=>?_) λq=>?_
     ·left;exact fin0 hvd _ rfl
     ·have ea:a = .str (Str.ofString "end"):=KD (by simpa using q);subst ea;left;exact fin0 hvd _ rfl
   | st side ws=>
     rw [egs] at hgs hvd hgget;obtain ⟨s,rfl⟩:=Js hgs;obtain ⟨nd,w9,hws⟩:(ws.map (·.1)).Nodup/\ws.length<=9/\∀w∈ws,WOk (gAt gs i).length w:=by
      cases hgs with
      | st _ _ h3 h4 h5=>exact ⟨h4,h3,h5⟩
     rw [GS.d] at hgget ⊢;left;refine Xp hoo.2.1 hnd ?_;left;refine BX (λq=>?_) λq=>?_
     ·left;rw [Xh (by simpa using q)] at hvd;exact fin0 hvd _ rfl
     have ea:a = .str (sd s):=KD (by simpa using q);subst ea;left;refine C3 (by cases s <;> rfl) ?_;left;refine PP ?_;left;refine AH (Db hi) ?_;left;refine E3 rfl ?_;left;refine ⟨_,_,_,rfl,rfl,EK (by rw [ho.len];exact hi),?_⟩;refine AH hgget ?_;left;refine ⟨_,rfl,?_⟩;refine (Ds (p:=pE b) (fr:=[some (.val (.tup [.int (i:Nat),.str (sd s),b,v]))]) ?_).mono ?_
     ·intro d hd';obtain ⟨q,w',rfl⟩:∃q w',d = .tup [.int q,wdD w']:=by
       obtain ⟨k',hk'⟩:=List.getElem?_of_mem hd';rw [Gk,List.getElem?_map] at hk'
       cases e:ws[k']? with
       | none=>rw [e] at hk';cases hk'
       | some w'=>rw [e] at hk';cases hk';exact ⟨_,w',rfl⟩
      unfold wdD;left;refine Zu hoo.2.2.1 ?_;left;exact ⟨rfl,rfl⟩
     rintro xs tc ⟨rfl,hS⟩;refine AC (Nat.le_trans (List.length_filter_le _ _) (by rw [E5,List.length_map,hL];lia)) ?_;rw [hS];rcases EZ b with ⟨m',rfl⟩ | hnb
     rotate_left
     ·rw [Gm ws 0 λw _=>SO hnb];left;rw [FC hnb] at hvd;exact fin0 hvd _ rfl
     rw [Hi,plc,if_pos rfl] at hvd;rw [Ho ws 0 nd]
     cases hfi:ws.findIdx? λw=>w.1 == m' with
     | none=>
       rw [E9 hfi] at hvd;left;exact fin0 hvd _ rfl
     | some p=>
       obtain ⟨w',ew,en⟩:=Iw hfi;have hwo:=hws w' (List.mem_of_getElem? ew);have egd:ws.getD p (Str.ofString "",.nothing,0)=w':=by rw [List.getD_eq_getElem?_getD,ew];rfl
       rw [Fa hfi ew] at hvd;dsimp only;rw [egd,Nat.zero_add];unfold wdD;left;refine (hf w'.2.1 hwo.dep hwo.ok m v hgv).use ?_
       cases hff:Ah w'.2.1 v with
       | false=>
         rw [hff,if_neg (by decide)] at hvd;left;exact fin0 hvd _ rfl
       | true=>
         rw [hff,if_pos rfl] at hvd;have hpl:p < (A0 (gAt gs i) (hAt hs i)).ws.length:=by rw [egs];exact (List.getElem?_eq_some_iff.mp ew).1
         have ewd:AJ (gAt gs i) (hAt hs i) p=w':=by unfold AJ;rw [egs];exact egd
         have hbl:(Av w'.2.1 v).length<=vz v:=CB 3 _ hwo.dep hwo.ok v hff;have hsz:w.1.length + w.2.length + (2 + vz v)<=80000:=hsz;have hbb:=hb w'.2.1 hwo.dep hwo.ok v hff (by lia);left;refine CZ hW (lrF (λs=>.lst (if s=true then w.1 else w.2)) s) ?_;have hws0:(if s=true then w.1 else w.2).length<=80000:=by cases s;show w.2.length<=_;lia;show w.1.length<=_;lia
         have hws1:(if s=true then w.1 else w.2).length + (Av w'.2.1 v).length<=80000:=by cases s;show w.2.length + _<=_;lia;show w.1.length + _<=_;lia
         left;refine AC (by show _ + 2<=_;lia) ?_;left;refine hbb.use ?_;left;refine AC (by rw [List.length_append];show _ + 2 + _<=_;lia) ?_;left;refine PQ ?_;left;refine HN hW (by show 2 < 100000;decide) ?_;rw [We (Ss s)];refine Cn ?_;left;refine PR rfl ?_;left;refine ⟨_,_,i,rfl,rfl,Bz (by lia) (by unfold nD;rw [List.length_map,ho.len];lia),?_⟩;rw [hC];unfold HR;rw [hvd];dsimp only [Option.map];refine ⟨rfl,some (.val (.int (j:Nat))),some (.val (.tup [.int (i:Nat),.str (sd s),.str m',v])),some (.val (.lst [.tup [.int (p:Nat),.tup [.str w'.1,w'.2.1.d,.int w'.2.2]]])),some (.val (.int (p:Nat))),some (.val (.tup [.str w'.1,w'.2.1.d,.int w'.2.2])),?_⟩;have e3:(nD hs).set i (.int w'.2.2)=nD (hs.set i (BB (gAt gs i) (hAt hs i) p)):=by
          rw [<-K4];unfold BB;rw [ewd]
          congr 2
          have:=hwo.lo;lia
         rw [egs,ewd,<-e3];have e4:∀l:List D,lr (onS (sd s) (D.lst l) (.lst w.1)) (onS (sd s) (.lst w.2) (.lst l))=lr (.lst (if s=true then l else w.1)) (.lst (if s=true then w.2 else l)):=λl=>by cases s <;> rfl
         rw [e4]
         cases s
         ·show (⟨_,S'.set W _⟩:T)=⟨_,S'.set W _⟩;rw [show DJ (GS.st (sd false) ws).side w (.int (i:Nat) :: .int (p:Nat) :: Av w'.2.1 (d3 (.tup [.int (i:Nat),.str (sd false),.str m',v])))=(w.1,w.2++(.int (i:Nat) :: .int (p:Nat) :: Av w'.2.1 v)) from rfl];simp;rfl
         ·show (⟨_,S'.set W _⟩:T)=⟨_,S'.set W _⟩;rw [show DJ (GS.st (sd true) ws).side w (.int (i:Nat) :: .int (p:Nat) :: Av w'.2.1 (d3 (.tup [.int (i:Nat),.str (sd true),.str m',v])))=(w.1++(.int (i:Nat) :: .int (p:Nat) :: Av w'.2.1 v),w.2) from rfl];simp;rfl
def RM (gs:List (List GS))(ds:List D)(S:List Ob)(W:Nat)(x:Nat ⊕ (List D×List D))(o:Out)(t:T):Prop:=
 match x with
 | .inl n=>o = .ret (.int (n:Nat))/\Kp W S t.S
 | .inr w=>o = .next/\∃S'' e2 e4 e5 e6 e7 e8,Kp W S S''/\S''[W]?=some (.dct (lr (.lst w.1) (.lst w.2)))/\t=⟨[some (.val (gsD gs)),some (.val (.lst ds)),e2,some (.val (.obj W)),e4,e5,e6,e7,e8],S''⟩
theorem LZ {cb cf:Fn}(hb:BP cb 3)(hf:LF5 cf 3){gs:List (List GS)}{ds:List D}{W:Nat}{S:List Ob}(hg:∀g∈gs,GOk g)(g9:gs.length<=9):∀(r:List D) (j:Nat) (hs:List Nat) (w:List D×List D) (S':List Ob) (e4 e5 e6 e7 e8:Option Sl),(∀d∈r,OkM d)->HsOk gs hs->Kp W S S'->S'[W]?=some (.dct (lr (.lst w.1) (.lst w.2)))->w.1.length + w.2.length + szB r<=80000->
 F2.W (Bm (unS 2 (AL (Ar 4) (AL (Ar 5) CU))) (Qi cb cf) (Cq j r)) ⟨[some (.val (gsD gs)),some (.val (.lst ds)),some (.own (nD hs)),some (.val (.obj W)),e4,e5,e6,e7,e8],S'⟩ (RM gs ds S W (goB gs hs w j r))
 | [],j,hs,w,S',e4,e5,e6,e7,e8,hall,ho,hk,hW,hsz=>W_forL_nil.mpr ⟨rfl,S',_,e4,e5,e6,e7,e8,hk,hW,rfl⟩
 | d :: r,j,hs,w,S',e4,e5,e6,e7,e8,hall,ho,hk,hW,hsz=>by
   rw [F3] at hsz;rw [Cq,CA];left;refine (Qk hb hf hg g9 ho (hall d List.mem_cons_self) hW (by lia)).mono λo t q=>?_;unfold HR at q;rw [goB]
   cases ev:vd gs hs d with
   | none=>
     rw [ev] at q;obtain ⟨e1,e2⟩:=q;subst e1;exact ⟨rfl,by rw [e2];exact hk⟩
   | some ip=>
     obtain ⟨i,p⟩:=ip;rw [ev] at q;obtain ⟨e1,f4,f5,f6,f7,f8,e2⟩:=q;subst e1 e2;obtain ⟨hi,v,hdv,hmv⟩:=Hj ho ev;have hwd:=DL (CN hg hi) hmv.lt hmv.pl;have hbl:(Av (AJ (gAt gs i) (hAt hs i) p).2.1 (d3 d)).length<=vz (d3 d):=by rw [hdv];exact CB 3 _ hwd.dep hwd.ok v hmv.fit
     exact LZ hb hf hg g9 r (j + 1) _ _ _ f4 f5 f6 f7 f8 (λx hx=>hall x (List.mem_cons_of_mem _ hx)) (ho.next hg hi hmv) hk.setk (BF hW) (by rw [HG];show _ + (_ + 1 + 1) + _<=_;lia)
noncomputable def Qj:Nat ⊕ (List D×List D)->D
 | .inl n=>.int (n:Nat)
 | .inr w=>.tup [.lst w.1,.lst w.2]
structure OkR (ds:List D):Prop where
 b:OkB ds
 m:∀d∈ds,OkM d
abbrev goG (gs:List (List GS))(ds:List D):Nat ⊕ (List D×List D):=goB gs (List.replicate gs.length 0) ([],[]) 0 ds
def ML (f:Fn):Prop:=∀(gs:List (List GS)) (ds:List D) (S:List Ob),(∀g∈gs,GOk g)->gs.length<=9->OkR ds->Wf f [gsD gs,.lst ds] S λq S'=>Gr S S'/\q=Qj (goG gs ds)
theorem QB (hb:BP cb 3)(hf:LF5 cf 3):ML (fnOf 2 9 (DV cb cf)):=by
 intro gs ds S hg g9 hd;have hL:LIM=100000:=rfl;refine Ap rfl ?_;unfold DV;left;unfold gsD;left;rw [List.length_map];refine MI ⟨EY g9,by show 1 * _<=_;lia⟩ ?_;rw [Int.toNat_natCast,KP];left;refine MH ?_;left;refine ⟨DO,?_⟩;left;refine PP ?_;left;refine ⟨_,rfl,?_⟩;have hK:((S++[Ob.dct []]).set S.length (.dct (lr (.lst []) (.lst []))))[S.length]?=some (.dct (lr (.lst []) (.lst []))):=BF DO;refine (LZ hb hf hg g9 (S:=S++[Ob.dct []]) ds 0 _ ([],[]) _ none none none none none hd.m (Gq hg) Kp.refl.setk hK (by have:=hd.b.sz;unfold szB;show 0 + 0 + _<=_;lia)).mono λo t q=>?_;unfold RM at q;show _
 cases e:goB gs (List.replicate gs.length 0) ([],[]) 0 ds with
 | inl n=>
   rw [e] at q;obtain ⟨q1,q2⟩:=q;subst q1;exact ⟨q2.gr70,by unfold goG;rw [e];rfl⟩
 | inr w=>
   rw [e] at q;obtain ⟨q1,S'',e2,e4,e5,e6,e7,e8,hk,hW,q2⟩:=q;subst q1 q2;left;refine CZ hW (lrF (λs=>.lst (if s=true then w.1 else w.2)) true) ?_;left;refine CZ hW (lrF (λs=>.lst (if s=true then w.1 else w.2)) false) ?_;left;exact ⟨hk.gr70,by unfold goG;rw [e];rfl⟩
def LQ (f:Fn):Prop:=∀gs:List (List GS),(∀g∈gs,GOk g)->gs.length<=9->Pure1 f [gsD gs] (gsD gs)
theorem Nc:LQ (fnOf 1 1 DU):=by
 intro gs hg g9 S;have hL:LIM=100000:=rfl;refine Ap rfl ?_;unfold DU gsD;left;refine (FE (l:=gs) (f:=λg=>.lst (g.map GS.d)) (fr:=[]) ?_).mono ?_
 ·intro g hgm;have hgo:=hg g hgm;left;refine (FE (l:=g) (f:=GS.d) (fr:=[]) ?_).mono ?_
  ·intro x hx
   cases hgo.all x hx with
   | fin=>rw [GS.d];left;exact ⟨rfl,rfl⟩
   | st h1 h2 h3 h4 h5=>
     rw [GS.d];left;exact ⟨rfl,rfl⟩
  rintro xs tc ⟨rfl,hS⟩;refine AC (by rw [List.length_map,hL];have:=hgo.le;lia) ?_;rw [hS];left;exact ⟨rfl,rfl⟩
 rintro xs tc ⟨rfl,hS⟩;refine AC (by rw [List.length_map,hL];lia) ?_;rw [hS];left;exact ⟨rfl,rfl⟩
def isI (l:List D):Prop:=∀x∈l,∃i:Int,x = .int i
theorem Fq {a b:List D}(h:isI a)(h2:isI b):isI (a++b):=λx hx=>(List.mem_append.mp hx).elim (h x) (h2 x)
theorem Oz {gs:List (List GS)}(hg:∀g∈gs,GOk g):∀(r:List D) (hs:List Nat) (w:List D×List D) (n:Nat) (w':List D×List D),HsOk gs hs->isI w.1->isI w.2->goB gs hs w n r = .inr w'->isI w'.1/\isI w'.2/\w'.1.length + w'.2.length<=w.1.length + w.2.length + szB r
 | [],hs,w,n,w',ho,h1,h2,e=>by
   rw [goB] at e
   cases e
   exact ⟨h1,h2,Nat.le_add_right _ _⟩
 | d :: r,hs,w,n,w',ho,h1,h2,e=>by
   rw [goB] at e
   cases ev:vd gs hs d with
   | none=>rw [ev] at e;cases e
   | some ip=>
     obtain ⟨i,p⟩:=ip;rw [ev] at e;obtain ⟨hi,v,hdv,hmv⟩:=Hj ho ev;have hwd:=DL (CN hg hi) hmv.lt hmv.pl;have hbl:(Av (AJ (gAt gs i) (hAt hs i) p).2.1 (d3 d)).length<=vz (d3 d):=by rw [hdv];exact CB 3 _ hwd.dep hwd.ok v hmv.fit
     have hI:isI (.int (i:Nat) :: .int (p:Nat) :: Av (AJ (gAt gs i) (hAt hs i) p).2.1 (d3 d)):=by
      intro x hx;rcases List.mem_cons.mp hx with rfl | hx
      ·exact ⟨_,rfl⟩
      rcases List.mem_cons.mp hx with rfl | hx
      ·exact ⟨_,rfl⟩
      rw [hdv] at hx;obtain ⟨n,rfl,_⟩:=EE 3 _ hwd.dep hwd.ok v hmv.fit x hx;exact ⟨_,rfl⟩
     obtain ⟨q1,q2,q3⟩:=Oz hg r _ _ _ w' (ho.next hg hi hmv) (by unfold DJ;split;exact Fq h1 hI;exact h1) (by unfold DJ;split;exact h2;exact Fq h2 hI) e
     refine ⟨q1,q2,?_⟩;rw [HG] at q3;rw [F3];simp only [List.length_cons] at q3;lia
def Vg (S S':List Ob)(q:D):Nat ⊕ (List D×List D)->Prop
 | .inl n=>q = .int (n:Nat)
 | .inr w=>∃A B,A≠B/\S.length<=A/\S.length<=B/\q = .tup [.obj A,.obj B]/\S'[A]?=some (.lst w.1)/\S'[B]?=some (.lst w.2)
def NO (f:Fn):Prop:=∀(gs:List (List GS)) (ds:List D) (S:List Ob),(∀g∈gs,GOk g)->gs.length<=9->OkB ds->Wf f [gsD gs,.lst ds] S λq S'=>Gr S S'/\Vg S S' q (goG gs ds)
theorem OO (hc:Vi c):NO (fnOf 2 6 (DF c)):=by
 intro gs ds S hg g9 hd;refine Ap rfl ?_;unfold DF;left;refine (hc gs ds S hg g9 hd).mono λq S' z9=>?_;obtain ⟨G,h⟩:=z9;unfold goG
 cases e:goB gs (List.replicate gs.length 0) ([],[]) 0 ds with
 | inl n=>
   rw [e] at h;have h:q = .exc "NoTalk" [.int (n:Nat)]:=h;subst h;left;refine Yq (by decide) ?_;left;refine ZB (by decide) ?_;left;exact ⟨G,rfl⟩
 | inr w=>
   rw [e] at h;obtain ⟨A,B,h1,h2,h3,h4,h5,h6⟩:=h;subst h4;left;exact ⟨G,A,B,h1,h2,h3,rfl,h5,h6⟩
noncomputable def okH:Nat->D->Bool
 | 0,.lst _=>false
 | 0,.tup _=>false
 | n + 1,.lst xs=>decide (xs.length<=1000) && xs.all (okH n)
 | n + 1,.tup xs=>decide (xs.length<=1000) && xs.all (okH n)
 | _,.obj _=>false
 | _,.scr _=>false
 | _,.ty _=>false
 | _,.exc _ _=>false
 | _,_=>true
theorem Hb (n:Nat)(xs:List D):okH (n + 1) (.lst xs)=(decide (xs.length<=1000) && xs.all (okH n)):=by rw [okH]
theorem Hc (n:Nat)(xs:List D):okH (n + 1) (.tup xs)=(decide (xs.length<=1000) && xs.all (okH n)):=by rw [okH]
theorem K8 (h:okH n (.tup xs)=true):∃m,n=m + 1/\xs.length<=1000/\∀x∈xs,okH m x=true:=by
 cases n with
 | zero=>cases h
 | succ m=>
   rw [Hc,Bool.and_eq_true,List.all_eq_true] at h;exact ⟨m,rfl,of_decide_eq_true h.1,h.2⟩
theorem JL (h:okH n (.lst xs)=true):∃m,n=m + 1/\xs.length<=1000/\∀x∈xs,okH m x=true:=by
 cases n with
 | zero=>cases h
 | succ m=>
   rw [Hb,Bool.and_eq_true,List.all_eq_true] at h;exact ⟨m,rfl,of_decide_eq_true h.1,h.2⟩
theorem K9:∀(n m:Nat) (d:D),okG n d=true->n<=m->okH m d=true
 | 0,m,d,h,_=>by cases d <;> first | (simp [okG] at h;done) | (cases m <;> rfl)
 | n + 1,m,d,h,hm=>by
   obtain ⟨j,rfl⟩:∃j,m=j + 1:=Nat.exists_eq_add_of_le' (by lia)
   cases d <;> first | (simp [okG] at h;done) | rfl | skip
   ·rw [BQ,Bool.and_eq_true,Bool.and_eq_true,List.all_eq_true] at h;rw [Hc,Bool.and_eq_true,List.all_eq_true];exact ⟨h.1.1,λx hx=>K9 n j x (h.2 x hx) (by lia)⟩
   ·rw [DZ,Bool.and_eq_true,List.all_eq_true] at h;rw [Hb,Bool.and_eq_true,List.all_eq_true];exact ⟨h.1,λx hx=>K9 n j x (h.2 x hx) (by lia)⟩
def LK (f:Fn)(m:Nat):Prop:=∀d,okH m d=true->∃r:List D,Pure1 f [d] (.lst r)/\Rq (m + 1) (.lst r)
theorem OL {c:Fn}{m:Nat}(hc:LK c m):∀(l:List D),(∀d∈l,okH m d=true)->∃rs:List D,rs.length=l.length/\(∀r∈rs,Rq (m + 1) r)/\∀(S:List Ob) (z:Option Sl),F2.W (AX (Ar 0) Bq (Ag c (Aa (Ab 0) Ad)) l) ⟨[z],S⟩ λxs t'=>xs=rs/\t'.S=S
 | [],_=>⟨[],rfl,(λ_ h=>nomatch h),λS z=>W_compL_nil.mpr ⟨rfl,rfl⟩⟩
 | d :: l,h=>by
   obtain ⟨r,p1,q1⟩:=hc d (h d List.mem_cons_self);obtain ⟨rs,p2,q2,w2⟩:=OL hc l λx hx=>h x (List.mem_cons_of_mem _ hx);refine ⟨.lst r :: rs,by rw [List.length_cons,List.length_cons,p2],λx hx=>?_,λS z=>?_⟩
   ·rcases List.mem_cons.mp hx with rfl | hx
    ·exact q1
    ·exact q2 x hx
   rw [BS];refine D6 (GN ?_);rw [if_pos rfl];symm;refine p1.use ?_;symm;refine (w2 S _).mono λxs t' z9=>?_;obtain ⟨e1,e2⟩:=z9;subst e1;exact ⟨rfl,e2⟩
theorem R6 (hc:m=0\/LK c (m - 1)):LK (fnOf 1 1 (A2 c)) m:=by
 have hL:LIM=100000:=rfl;intro d hd;have fin:∀b1 b2:Bool,Rq (m + 1) (.lst [.bl b1,.bl b2]):=λb1 b2=>GJ λx hx=>by
  rcases List.mem_cons.mp hx with rfl | hx
  ·exact Nt
  ·rw [List.mem_singleton] at hx;subst hx;exact Nt
 have sub:∀(b:Bool) (xs:List D),xs.length<=1000->(∀x∈xs,okH (m - 1) x=true)->m≠0->∃rs:List D,rs.length=xs.length/\Rq (m + 1) (.lst (.bl b :: rs))/\∀(S:List Ob) (z:Option Sl),F2.W (AX (Ar 0) Bq (Ag c (Aa (Ab 0) Ad)) xs) ⟨[z],S⟩ λys t'=>ys=rs/\t'.S=S:=λb xs hl hx hm=>by
  obtain ⟨rs,p1,p2,p3⟩:=OL (hc.resolve_left hm) xs hx;refine ⟨rs,p1,GJ λx h=>?_,p3⟩;rcases List.mem_cons.mp h with rfl | h
  ·exact Nt
  ·exact (p2 x h).mono (by lia)
 cases d <;> first | (cases m <;> (simp [okH] at hd;done)) | skip
 case tup xs=>
  obtain ⟨m',rfl,hl,hx⟩:=K8 hd;obtain ⟨rs,p1,p2,p3⟩:=sub false xs hl hx (by lia);refine ⟨_,λS=>?_,p2⟩;refine Ap rfl ?_;unfold A2;symm;refine (p3 S _).mono λys t' z9=>?_;obtain ⟨e1,e2⟩:=z9;subst e1;refine AC (by rw [hL];lia) ?_;symm;refine AC (by show 1 + _<=_;rw [hL];lia) ?_;symm;exact ⟨rfl,e2⟩
 case lst xs=>
  obtain ⟨m',rfl,hl,hx⟩:=JL hd;obtain ⟨rs,p1,p2,p3⟩:=sub true xs hl hx (by lia);refine ⟨_,λS=>?_,p2⟩;refine Ap rfl ?_;unfold A2;symm;refine (p3 S _).mono λys t' z9=>?_;obtain ⟨e1,e2⟩:=z9;subst e1;refine AC (by rw [hL];lia) ?_;symm;refine AC (by show 1 + _<=_;rw [hL];lia) ?_;symm;exact ⟨rfl,e2⟩
 all_goals first
  | exact ⟨_,λS=>Ap rfl (by unfold A2;symm;exact ⟨rfl,rfl⟩),fin false false⟩
  | exact ⟨_,λS=>Ap rfl (by unfold A2;symm;exact ⟨rfl,rfl⟩),fin true false⟩
  | exact ⟨_,λS=>Ap rfl (by unfold A2;symm;exact ⟨rfl,rfl⟩),fin false true⟩
theorem Jw {f:D×D->Bool}:∀{xs:List D},(∀x∈xs,f (x,x)=true)->(xs.zip xs).all f=true
 | [],_=>rfl
 | x :: xs,h=>by
   rw [List.zip_cons_cons,List.all_cons,Bool.and_eq_true];exact ⟨h x List.mem_cons_self,Jw λy hy=>h y (List.mem_cons_of_mem _ hy)⟩
theorem Ew:∀(n m:Nat) (d:D),okH n d=true->n<=m->B0 m d d=true
 | 0,m,d,h,_=>by
   cases d <;> first | (simp [okH] at h;done) | (cases m <;> simp [B0])
 | n + 1,m,d,h,hm=>by
   obtain ⟨j,rfl⟩:∃j,m=j + 1:=Nat.exists_eq_add_of_le' (by lia)
   cases d <;> first | (simp [okH] at h;done) | (simp [B0];done) | skip
   ·rename_i ds;rw [Hc,Bool.and_eq_true,List.all_eq_true] at h;rw [B0,beq_self_eq_true,Bool.true_and];exact Jw λx hx=>Ew n j x (h.2 x hx) (by lia)
   ·rename_i ds;rw [Hb,Bool.and_eq_true,List.all_eq_true] at h;rw [B0,beq_self_eq_true,Bool.true_and];exact Jw λx hx=>Ew n j x (h.2 x hx) (by lia)
theorem Sz {b:Bool}{x y:D}(h:B0 EQD x y=true)(p:P (.bl b) t):F2.W (eqA b x y) t P:=⟨_,_,by unfold eqA;rw [if_pos h],p⟩
theorem Rw {x y d:D}(hx:Bo t.S 16 x=d)(hy:Bo t.S 16 y=d)(hp:Bh d=true)(hr:Rq 16 d)(h:P (.bl (g true)) t):F2.W (eqO g x y) t P:=
 ⟨_,_,by unfold eqO;rw [hx,hy,hp,hr EQD (by decide)];rfl,h⟩
theorem D3 {S:List Ob}{n:Nat}:∀{l:List D},isI l->l.map (Bo S n)=l
 | [],_=>rfl
 | x :: l,h=>by
   obtain ⟨i,rfl⟩:=h x List.mem_cons_self;rw [List.map_cons,D3 λy hy=>h y (List.mem_cons_of_mem _ hy)]
   congr 1
   cases n <;> rfl
theorem FW:∀{l:List D},isI l->EU l=true
 | [],_=>rfl
 | x :: l,h=>by
   obtain ⟨i,rfl⟩:=h x List.mem_cons_self;rw [EU,Bool.and_eq_true];exact ⟨rfl,FW λy hy=>h y (List.mem_cons_of_mem _ hy)⟩
theorem Jp {l:List D}(h:isI l):Rq (n + 1) (.lst l):=GJ λx hx=>by obtain ⟨i,rfl⟩:=h x hx;exact GI
theorem Rv {A B:Nat}{a b:List D}(ha:isI a)(hb:isI b)(eA:t.S[A]?=some (.lst a))(eB:t.S[B]?=some (.lst b))(h:P (.bl (g true)) t):F2.W (eqO g (.tup [.obj A,.obj B]) (.tup [.lst a,.lst b])) t P:=by
 refine Rw (d:=.tup [.lst a,.lst b]) ?_ ?_ ?_ ?_ h
 ·show D.tup [Bo t.S (14 + 1) (.obj A),Bo t.S (14 + 1) (.obj B)]=_;rw [Bo,eA,Bo,eB];dsimp only;rw [D3 ha,D3 hb]
 ·show D.tup [.lst (a.map (Bo t.S 14)),.lst (b.map (Bo t.S 14))]=_;rw [D3 ha,D3 hb]
 ·show (EU a && (EU b && true))=true;rw [FW ha,FW hb];rfl
 ·refine Lr (n:=15) λx hx=>?_;rcases List.mem_cons.mp hx with rfl | hx
  ·exact Jp ha
  ·rw [List.mem_singleton] at hx;subst hx;exact Jp hb
theorem Zs {A:Nat}{a:List D}(ha:isI a)(eA:t.S[A]?=some (.lst a))(h:P (.bl (g true)) t):F2.W (eqO g (.obj A) (.lst a)) t P:=by
 refine Rw (d:=.lst a) ?_ ?_ ?_ ?_ h
 ·show Bo t.S (15 + 1) (.obj A)=_;rw [Bo,eA];dsimp only;rw [D3 ha]
 ·show D.lst (a.map (Bo t.S 15))=_;rw [D3 ha]
 ·exact FW ha
 ·exact Jp ha
theorem Yn {n:Int}(h:P (.bl (g true)) t):F2.W (eqO g (.int n) (.int n)) t P:=Rw (d:=.int n) rfl rfl rfl GI h
theorem Xi {k l:Nat}{ys:List D}(e1:t.S[k]?=some (.lst xs))(e:t.S[l]?=some (.lst ys))(hl:xs.length + ys.length<=LIM)(h:Q (xs++ys) t):F2.W (Ii (.obj k) (.obj l)) t Q:=⟨_,_,by simp only [Ii,C7,e1,e,lim,if_pos hl],h⟩
theorem NE {l:List D}(hr:Rq n (.lst l))(hn:n<=EQD)(h:P (.bl true) t):F2.W (eqS id (.lst l) (.lst l)) t P:=by
 refine ⟨.bl true,t,?_,h⟩;unfold eqS;rw [hr EQD hn];rfl
theorem Xn {k:Nat}(e:t.S[k]?=some (.lst xs))(h:P (.bl true) t):F2.W (Jf [.obj k,.ty "list"]) t P:=⟨_,_,by simp only [Jf,e];rfl,h⟩
theorem Oq {l:List D}:l.filter (λ_=>false)=[]:=by induction l <;> simp_all
def Kc (f:Fn):Prop:=∀(gs:List (List GS)) (ds:List D) (S:List Ob),(∀g∈gs,GOk g)->gs.length<=9->OkR ds->okH 20 (.lst [gsD gs,.lst ds])=true->Wf f [gsD gs,.lst ds] S λq S'=>q = .bl true/\Gr S S'
theorem ON {ck cto cc:Fn}(hk:LK ck 20)(hto:NO cto)(hc:LQ cc)(hd:ML cd):Kc (fnOf 2 5 (Dk ck cto cc cd)):=by
 intro gs ds S hg g9 hr hok;have hL:LIM=100000:=rfl;obtain ⟨r,kp,kq⟩:=hk _ hok;have hlen:=hr.b.len;refine Ap rfl ?_;unfold Dk;left;refine (hd gs ds S hg g9 hr).mono λq S1 z9=>?_;obtain ⟨G1,e1⟩:=z9;subst e1;left;refine (hc gs hg g9).use ?_;left;refine (hto gs ds S1 hg g9 hr.b).mono λq S2 z9=>?_;obtain ⟨G2,hq⟩:=z9
 cases e:goG gs ds with
 | inl n=>
   rw [e] at hq;have hq:q = .int (n:Nat):=hq;subst hq;rw [Qj];left;refine Yn ?_;left;refine Sz (Ew 20 EQD _ hok (by decide)) ?_;left;refine kp.use ?_;left;refine kp.use ?_;left;refine NE kq (by decide) ?_;exact ⟨rfl,G1.trans G2⟩
 | inr w=>
   rw [e] at hq;obtain ⟨A,B,hAB,lA,lB,hq,eA,eB⟩:=hq;subst hq;obtain ⟨i1,i2,il⟩:=Oz hg ds _ ([],[]) _ w (Gq hg) (λx (h:x∈([]:List D))=>nomatch h) (λx (h:x∈([]:List D))=>nomatch h) e;have il:w.1.length + w.2.length<=80000:=by
    have:=hr.b.sz;unfold szB at il;simp only [List.length_nil] at il;lia
   rw [Qj];left;refine Rv i1 i2 eA eB ?_;left;refine Xi eA eB (by rw [hL];lia) ?_;left;refine (Ds (p:=λ_=>false) (fr:=[]) ?_).mono ?_
   ·intro d hd';obtain ⟨i,rfl⟩:=Fq i1 i2 d hd';left;exact ⟨rfl,rfl⟩
   rintro xs tc ⟨rfl,hS⟩;rw [Oq];refine AC (Nat.zero_le _) ?_;rw [hS];left;refine Xn eA ?_;left;refine NI (k:=A) ?_;left;refine ⟨rfl,_,eA,?_⟩;left;refine ⟨_,w.1++[.int 1],eA,by simp only [B1];rw [if_pos (by rw [hL];lia)],?_⟩;have eA2:(S2.set A (.lst (w.1++[.int 1])))[A]?=some (.lst (w.1++[.int 1])):=BF eA;have eB2:(S2.set A (.lst (w.1++[.int 1])))[B]?=some (.lst w.2):=A9 eB hAB;have G3:Gr S (S2.set A (.lst (w.1++[.int 1]))):=(G1.trans G2).set (Nat.le_trans G1.1 lA);refine Cn ?_;dsimp only;generalize S2.set A (.lst (w.1++[.int 1]))=S3 at eA2 eB2 G3 ⊢;left;refine Zs i2 eB2 ?_;left;refine NI (k:=B) ?_;left;refine ⟨rfl,_,eB2,?_⟩;left;refine ⟨_,w.2++[.int 1],eB2,by simp only [B1];rw [if_pos (by rw [hL];lia)],?_⟩;have eB3:(S3.set B (.lst (w.2++[.int 1])))[B]?=some (.lst (w.2++[.int 1])):=BF eB2;have eA3:(S3.set B (.lst (w.2++[.int 1])))[A]?=some (.lst (w.1++[.int 1])):=A9 eA2 (Ne.symm hAB);have G4:Gr S (S3.set B (.lst (w.2++[.int 1]))):=G3.set (Nat.le_trans G1.1 lB);refine Cn ?_;dsimp only;generalize S3.set B (.lst (w.2++[.int 1]))=S4 at eA3 eB3 G4 ⊢;left;refine (hto gs ds S4 hg g9 hr.b).mono λq S5 z9=>?_;obtain ⟨G5,hq⟩:=z9;rw [e] at hq;obtain ⟨A',B',_,_,_,hq,eA',eB'⟩:=hq;subst hq;left;refine Rv i1 i2 eA' eB' ?_;left;have j1:isI (w.1++[.int 1]):=Fq i1 λx hx=>by rw [List.mem_singleton] at hx;exact ⟨_,hx⟩
   have j2:isI (w.2++[.int 1]):=Fq i2 λx hx=>by rw [List.mem_singleton] at hx;exact ⟨_,hx⟩
   refine AC (by show _ + 1<=_;rw [hL];lia) ?_;left;refine AC (by show _ + 1<=_;rw [hL];lia) ?_;left;refine Rv j1 j2 (G5.get eA3) (G5.get eB3) ?_;left;refine Sz (Ew 20 EQD _ hok (by decide)) ?_;left;refine kp.use ?_;left;refine kp.use ?_;left;refine NE kq (by decide) ?_;exact ⟨rfl,G4.trans G5⟩
noncomputable def vD:Nat->Nat
 | 0=>0
 | 1=>250
 | m + 2=>30 + vD (m + 1) * 3
noncomputable def cV:Nat->Nat
 | 0=>300
 | m + 1=>300 + cV m * 3
def Gf (f:Fn)(n:Nat):Prop:=∀(s:Sh) (st:Sx) (r:Nat),s.depth<=n->wf s=true->SxB (r + cV n) st->∃(v:D) (st':Sx),Ah s v=true/\vz v<=vD n/\SxB r st'/\Dw f [s.d] st v st'
theorem NC:∀n,1<=n->250<=vD n
 | 1,_=>by decide
 | n + 2,_=>by rw [vD];have:=NC (n + 1) (by lia);lia
theorem PL {c:Nat}:∀{xs:List D},(∀x∈xs,vz x<=c)->vzs xs<=xs.length * c
 | [],_=>Nat.zero_le _
 | x :: xs,h=>by
   rw [vzs,List.length_cons,Nat.succ_mul];have:=h x List.mem_cons_self;have:=PL λy hy=>h y (List.mem_cons_of_mem _ hy);lia
theorem JN {cv:Fn}{n:Nat}(hv:Gf cv n){s:Sh}(hd:s.depth<=n)(hw:wf s=true){q:Int}:∀(m:Nat) (st:Sx) (r:Nat),SxB (r + m * cV n) st->∃(vs:List D) (st':Sx),vs.length=m/\(∀x∈vs,Ah s x=true/\vz x<=vD n)/\SxB r st'/\∀(l:List D) (S:List Ob) (K:Nat) (z:Option Sl),l.length=m->K < S.length->F2.W (AX (Ar 0) Bq (Ag cv (Aa (Ab 1) (Aa (Ac (Ab 2) (fC (.int 1)) ixD) Ad))) l) ⟨[z,some (.val (.obj K)),some (.val (.tup [.str "list",s.d,.int q]))],S.set K (.dct st.l)⟩ λx t'=>x=vs/\t'.S=S.set K (.dct st'.l)
 | 0,st,r,hs=>⟨[],st,rfl,(λ_ h=>nomatch h),hs.mono (by lia),λl S K z hl hK=>by
   have:l=[]:=List.eq_nil_of_length_eq_zero hl;subst this;exact W_compL_nil.mpr ⟨rfl,rfl⟩⟩
 | m + 1,st,r,hs=>by
   obtain ⟨v,s1,h1,h2,b1,d1⟩:=hv s st (r + m * cV n) hd hw (hs.mono (by rw [Nat.succ_mul];lia));obtain ⟨vs,s2,g1,g2,b2,d2⟩:=JN hv hd hw (q:=q) m s1 r b1;refine ⟨v :: vs,s2,by rw [List.length_cons,g1],λx hx=>?_,b2,λl S K z hl hK=>?_⟩
   ·rcases List.mem_cons.mp hx with rfl | hx
    ·exact ⟨h1,h2⟩
    ·exact g2 x hx
   cases l with
   | nil=>cases hl
   | cons d l=>
     rw [BS];refine D6 (GN ?_);rw [if_pos rfl];left;refine d1.use hK ?_;left;refine (d2 l S K _ (Nat.succ.inj hl) hK).mono λq t' z9=>?_;obtain ⟨e1,e2⟩:=z9;subst e1;exact ⟨rfl,e2⟩
theorem Lp {ct:Fn}(ht:CV ct):∀(m:Nat) (st:Sx) (r:Nat),SxB (r + m) st->∃(ns:List Nat) (st':Sx),ns.length=m/\ns.all A5=true/\SxB r st'/\∀(l:List D) (S:List Ob) (K:Nat) (z:Option Sl),l.length=m->K < S.length->F2.W (AX (Ar 0) Bq (Ac (Ab 1) (Ag ct (Aa (Ab 2) (Aa (fC (.int 94)) Ad))) ixD) l) ⟨[z,some (.val (.str signs94)),some (.val (.obj K))],S.set K (.dct st.l)⟩ λx t'=>x=ns.map (λn=>D.str ⟨#[n]⟩)/\t'.S=S.set K (.dct st'.l)
 | 0,st,r,hs=>⟨[],st,rfl,rfl,hs,λl S K z hl hK=>by
   have:l=[]:=List.eq_nil_of_length_eq_zero hl;subst this;exact W_compL_nil.mpr ⟨rfl,rfl⟩⟩
 | m + 1,st,r,hs=>by
   obtain ⟨i,s1,i0,i1,b1,d1⟩:=ht st 94 (r + m) hs (by decide) (by decide);obtain ⟨c,ec,hc⟩:=Rl i0 i1;obtain ⟨ns,s2,g1,g2,b2,d2⟩:=Lp ht m s1 r b1;refine ⟨c :: ns,s2,by rw [List.length_cons,g1],by rw [List.all_cons,hc,g2];rfl,b2,λl S K z hl hK=>?_⟩
   cases l with
   | nil=>cases hl
   | cons d l=>
     rw [BS];refine D6 (GN ?_);rw [if_pos rfl];left;refine d1.use hK ?_;refine W_ix_str.mpr ⟨by decide +kernel,c,ec,?_⟩;refine (d2 l S K _ (Nat.succ.inj hl) hK).mono λq t' z9=>?_;obtain ⟨e1,e2⟩:=z9;subst e1;exact ⟨rfl,e2⟩
variable {cv:Fn}
theorem UV (ht:CV ct)(hv:m=0\/Gf cv m):Gf (fnOf 2 6 (AW cv ct)) (m + 1):=by
 intro s st r hd hw p0;have hL:LIM=100000:=rfl;have hcv:cV (m + 1)=300 + cV m * 3:=rfl;have hvd:250<=vD (m + 1):=NC _ (by lia);have hvv:∀{s':Sh},s'.depth<=m->Gf cv m/\vD (m + 1)=30 + vD m * 3:=λ{s'} h=>by
  rcases hv with rfl | hv
  ·exact absurd s'.depth_pos (by lia)
  ·refine ⟨hv,?_⟩;obtain ⟨k,rfl⟩:∃k,m=k + 1:=⟨m - 1,by have:=s'.depth_pos;lia⟩;rw [vD]
 cases s with
 | nothing=>
   refine ⟨.non,st,by rw [Ah];rfl,by show 9<=_;lia,p0.mono (by lia),λS K hK=>?_⟩;refine Ap rfl ?_;unfold AW;rw [Sh.d];left;exact ⟨rfl,rfl⟩
 | number lo hi=>
   obtain ⟨w0,w1,w2,w3⟩:=OV hw;obtain ⟨g,s1,z0,z1,b1,d1⟩:=ht st (hi - lo + 1) (r + 9) (p0.mono (by lia)) w1 w2;obtain ⟨i,s2,i0,i1,b2,d2⟩:=ht s1 3 (r + 8) b1 (by decide) (by decide);obtain ⟨d,ed,q,rfl,q0,q1⟩:=GF (xs:=[D.int lo,D.int hi,D.int (lo + g)]) i0 (by simpa using i1) (p:=λd=>∃m:Int,d = .int m/\lo<=m/\m<=hi) (by
    simp only [List.forall_mem_cons];exact ⟨⟨_,rfl,Int.le_refl _,w0⟩,⟨_,rfl,w0,Int.le_refl _⟩,⟨_,rfl,TY z0 z1⟩,λ_ z=>nomatch z⟩)
   refine ⟨.int q,s2,by simp only [Ah,Bool.and_eq_true,decide_eq_true_eq];exact ⟨q0,q1⟩,by show 9<=_;lia,b2.mono (by lia),λS K hK=>?_⟩;refine Ap rfl ?_;unfold AW;rw [Sh.d];left;refine d1.use hK ?_;left;refine d2.use hK ?_;refine AH ed ?_;exact ⟨rfl,rfl⟩
 | pair a b=>
   simp only [wf,Bool.and_eq_true] at hw;obtain ⟨hv,evd⟩:=hvv (Qh hd).1;obtain ⟨v,s1,f1,z1,b1,d1⟩:=hv a st (r + cV m) (Qh hd).1 hw.1 (p0.mono (by lia));obtain ⟨u,s2,g1,z2,b2,d2⟩:=hv b s1 r (Qh hd).2 hw.2 b1;refine ⟨.tup [v,u],s2,by simp only [Ah,f1,g1,Bool.and_self],by rw [vz,vzs,vzs,vzs];lia,b2,λS K hK=>?_⟩;refine Ap rfl ?_;unfold AW;rw [Sh.d];left;refine d1.use hK ?_;left;refine d2.use hK ?_;left;exact ⟨rfl,rfl⟩
 | choice ss=>
   simp only [wf,Bool.and_eq_true,decide_eq_true_eq] at hw;obtain ⟨i,s1,i0,i1,b1,d1⟩:=ht st (ss.length:Int) (r + cV m) (p0.mono (by lia)) (by lia) (by lia);obtain ⟨j,rfl⟩:=Int.eq_ofNat_of_zero_le i0;have hj:j < ss.length:=Int.ofNat_lt.mp i1;have e1:ss[j]?=some ss[j]:=List.getElem?_eq_getElem hj;obtain ⟨hv,evd⟩:=hvv (MX hd _ (List.getElem_mem hj));obtain ⟨v,s2,f1,z1,b2,d2⟩:=hv ss[j] s1 r (MX hd _ (List.getElem_mem hj)) (CF hw.2 _ (List.getElem_mem hj)) b1;have hof:Eh (Str.ofString "of")=true:=by decide +kernel
   refine ⟨.tup [.str (Str.ofString "of"),.int (j:Nat),v],s2,?_,?_,b2,λS K hK=>?_⟩
   ·simp only [Ah,Bool.and_eq_true,decide_eq_true_eq];exact ⟨⟨hof,i0,i1⟩,by rw [Int.toNat_natCast,BN ss _ _ _ e1];exact f1⟩
   ·rw [vz,vzs,vzs,vzs,vzs];have h1:vz (.str (Str.ofString "of"))=3:=rfl;have h2:vz (.int (j:Nat))=9:=rfl;have:=NC m (by have:=(ss[j]).depth_pos;have:=MX hd _ (List.getElem_mem hj);lia);lia
   refine Ap rfl ?_;unfold AW;rw [Sh.d];left;rw [Cj];refine d1.use hK ?_;left;refine GL (X1 hj) ?_;left;refine d2.use hK ?_;left;exact ⟨rfl,rfl⟩
 | list s q=>
   simp only [wf,Bool.and_eq_true,decide_eq_true_eq] at hw;obtain ⟨hv,evd⟩:=hvv (Vv hd);obtain ⟨g,s1,z0,z1,b1,d1⟩:=ht st 4 (r + cV m * 3) (p0.mono (by lia)) (by decide) (by decide);obtain ⟨n,en,n2,nq⟩:=R7 3 z0 hw.1.1 z1;obtain ⟨vs,s2,g1,g2,b2,d2⟩:=JN hv (Vv hd) hw.2 (q:=q) n s1 r (b1.mono (by have:n * cV m<=3 * cV m:=Nat.mul_le_mul_right _ n2;lia));refine ⟨.lst vs,s2,?_,?_,b2,λS K hK=>?_⟩
   ·rw [Ah,Bool.and_eq_true,decide_eq_true_eq,List.all_eq_true];exact ⟨by rw [g1];exact nq,λx hx=>(g2 x hx).1⟩
   ·rw [vz];have h1:=PL (c:=vD m) λx hx=>(g2 x hx).2;have h2:vs.length * vD m<=3 * vD m:=Nat.mul_le_mul_right _ (by lia);lia
   refine Ap rfl ?_;unfold AW;rw [Sh.d];left;refine d1.use hK ?_;left;rw [en];refine Fl (EY n2) ?_;refine (d2 _ S K _ (by rw [EW,Int.toNat_natCast]) hK).mono λx t' z9=>?_;obtain ⟨e1,e2⟩:=z9;subst e1;refine AC (by rw [hL];lia) ?_;exact ⟨rfl,e2⟩
 | text q=>
   simp only [wf,Bool.and_eq_true,decide_eq_true_eq] at hw;obtain ⟨g,s1,z0,z1,b1,d1⟩:=ht st 7 (r + 298) (p0.mono (by lia)) (by decide) (by decide);obtain ⟨g2,s2,y0,y1,b2,d2⟩:=ht s1 24 (r + 297) b1 (by decide) (by decide);obtain ⟨dd,ed,y,rfl,m0,m1⟩:∃d,atI [D.int g,D.int 249] (if id (g2 == 1)=true then 1 else 0)=some d/\∃y:Int,d = .int y/\0<=y/\y<=249:=by
    by_cases w:id (g2 == 1)=true
    ·rw [if_pos w];exact ⟨_,rfl,_,rfl,by decide,by decide⟩
    ·rw [if_neg w];exact ⟨_,rfl,_,rfl,by lia,by lia⟩
   obtain ⟨n,en,n3,nq⟩:=R7 249 m0 hw.1 (by lia);obtain ⟨ns,s3,h1,h2,b3,d3'⟩:=Lp ht n s2 r (b2.mono (by lia));refine ⟨.str (Txt.join (Str.ofString "") (ns.map λn=>(⟨#[n]⟩:Str))),s3,?_,?_,b3,λS K hK=>?_⟩
   ·rw [Ah];simp only [Bool.and_eq_true,decide_eq_true_eq];rw [Cm,Iy,h1];exact ⟨nq,h2⟩
   ·rw [vz,Cm,Iy,h1];lia
   refine Ap rfl ?_;unfold AW;rw [Sh.d];left;refine d1.use hK ?_;left;refine d2.use hK ?_;left;refine AH ed ?_;left;refine Ys ?_;left;rw [en];refine Fl (EY n3) ?_;refine (d3' _ S K _ (by rw [EW,Int.toNat_natCast]) hK).mono λx t' z9=>?_;obtain ⟨e1,e2⟩:=z9;subst e1;refine AC (by rw [List.length_map,hL];lia) ?_;left;refine ⟨_,_,_,rfl,rfl,GK ns,⟨by decide +kernel,by rw [List.length_map];lia⟩,?_⟩;refine Lu ?_;exact ⟨rfl,e2⟩
structure SaidV (gs:List (List GS))(hs:List Nat)(ds:List D)(n:Nat):Prop where
 s:Said gs hs ds n
 k:∀d∈ds,∃i p v hs',d=sayD gs hs' i p v/\i < gs.length/\HsOk gs hs'/\MvOk (gAt gs i) (hAt hs' i) p v/\vz v<=vD 3
theorem Nu (hb:BP cb 3)(hv:Gf cv 3)(hd:CV cd)(ht:C8 ct){ns:List Int}{gs:List (List GS)}{hs:List Nat}{ds:List D}{n k:Nat}(hn:ns.length<=63)(hk:k<=63)(hg:∀g∈gs,GOk g)(g1:1<=gs.length)(g9:gs.length<=9)(h:SaidV gs hs ds n)(h15:n<=900):∃(hs':List Nat) (ds':List D) (n':Nat) (st':Sx),SaidV gs hs' ds' n'/\n'<=900/\ds'.length<=ds.length + 1/\∀(S:List Ob) (a2 e7 e8 e9 e10 e11 e12 e13 e14:Option Sl),
 F2.W (IJ cb cv cd ct) ⟨[some (.val (.scr ns)),some (.val (gsD gs)),a2,some (.own (nD hs)),some (.own ds),some (.val (.int (900 - (n:Int)))),some (.val (.int (k:Nat))),e7,e8,e9,e10,e11,e12,e13,e14],S⟩ λout t=>out = .next/\∃f6 f7 f8 f9 f10 f11 f12 f13 f14,t=⟨[some (.val (.scr ns)),some (.val (gsD gs)),a2,some (.own (nD hs')),some (.own ds'),some (.val (.int (900 - (n':Int)))),f6,f7,f8,f9,f10,f11,f12,f13,f14],S++[.dct st'.l]⟩:=by
 have hL:LIM=100000:=rfl;obtain ⟨s,b,d⟩:=ht ns k hn (by lia);have hds:=h.s.few;have hlen:=h.s.len;have hho:HsOk gs hs:=⟨hlen,h.s.lt hg⟩;obtain ⟨i,s1,i0,i1,b1,d1⟩:=hd s (gs.length:Nat) 99999 (b.mono (by lia)) (by lia) (by lia);obtain ⟨i,rfl⟩:=Int.eq_ofNat_of_zero_le i0;have hi:i < gs.length:=by lia
 have hlt:=h.s.lt hg i hi;have hgo:=CN hg hi;have hgs:=Ez hgo hlt
 cases egs:A0 (gAt gs i) (hAt hs i) with
 | fin=>
   refine ⟨hs,ds,n,s1,h,h15,by lia,λS a2 e7 e8 e9 e10 e11 e12 e13 e14=>?_⟩;unfold IJ gsD;left;refine (d S).mono λq S' z9=>?_;obtain ⟨q1,q2⟩:=z9;subst q1 q2;rw [Ba (o:=.dct s.l)];left;rw [List.length_map];refine d1.use Bp ?_;left;refine AH (Db hi) ?_;left;refine E3 rfl ?_;left;refine ⟨_,_,_,rfl,rfl,EK (by lia),?_⟩;refine AH (Cv hlt) ?_;rw [egs,GS.d];left;rw [<-Ba (o:=.dct s1.l)];exact ⟨rfl,_,_,_,_,_,_,_,_,_,rfl⟩
 | st side ws=>
   rw [egs] at hgs;obtain ⟨w0,w9⟩:0 < ws.length/\ws.length<=9:=by
    cases hgs with
    | st _ h2 h3 _ _=>exact ⟨h2,h3⟩
   obtain ⟨p,s2,p0,p1,b2,d2⟩:=hd s1 (ws.length:Nat) 99998 b1 (by lia) (by lia);obtain ⟨p,rfl⟩:=Int.eq_ofNat_of_zero_le p0;have hp:p < (A0 (gAt gs i) (hAt hs i)).ws.length:=by rw [egs];show p < ws.length;lia
   obtain ⟨side',ws',e1,hp',ew⟩:=F0 hp;rw [egs] at e1;injection e1 with e1 e2
   subst e1 e2;have hw:=DL hgo hlt hp;obtain ⟨v,s3,hfit,hvz,b3,d3'⟩:=hv (AJ (gAt gs i) (hAt hs i) p).2.1 s2 10 hw.dep hw.ok (b2.mono (by decide));have hm:MvOk (gAt gs i) (hAt hs i) p v:=⟨hlt,hp,hfit⟩;have hbl:(Av (AJ (gAt gs i) (hAt hs i) p).2.1 v).length<=vz v:=CB 3 _ hw.dep hw.ok v hfit;have hv3:vD 3=2370:=by decide
   have hbb:=hb _ hw.dep hw.ok v hfit (by rw [hL];lia)
   by_cases hc:2 + (Av (AJ (gAt gs i) (hAt hs i) p).2.1 v).length<=900 - n
   ·refine ⟨hs.set i (BB (gAt gs i) (hAt hs i) p),ds++[sayD gs hs i p v],n + (2 + Jq gs hs i p v),s3,⟨.snoc h.s hi hm,λd hd'=>?_⟩,by unfold Jq;lia,by rw [List.length_append];exact Nat.le_refl _,λS a2 e7 e8 e9 e10 e11 e12 e13 e14=>?_⟩
    ·rcases List.mem_append.mp hd' with hd' | hd'
     ·exact h.k d hd'
     ·rw [List.mem_singleton] at hd';exact ⟨i,p,v,hs,hd',hi,hho,hm,hvz⟩
    unfold IJ gsD;left;refine (d S).mono λq S' z9=>?_;obtain ⟨q1,q2⟩:=z9;subst q1 q2;rw [Ba (o:=.dct s.l)];left;rw [List.length_map];refine d1.use Bp ?_;left;refine AH (Db hi) ?_;left;refine E3 rfl ?_;left;refine ⟨_,_,_,rfl,rfl,EK (by lia),?_⟩;refine AH (Cv hlt) ?_;rw [egs,GS.d];left;refine AH (Db hi) ?_;left;refine E3 rfl ?_;left;refine ⟨_,_,_,rfl,rfl,EK (by lia),?_⟩;refine AH (Cv hlt) ?_;rw [egs,GS.d];left;rw [List.length_map];refine d2.use Bp ?_;refine AH (GP ew) ?_;unfold wdD;left;refine d3'.use Bp ?_;left;refine hbb.use ?_;left;refine DB (decide_eq_true (by lia)) ?_;left;refine hbb.use ?_;left;refine AC (by rw [hL];lia) ?_;left;refine PR rfl ?_;left;refine ⟨_,_,i,rfl,rfl,Bz (by lia) (by unfold nD;rw [List.length_map];lia),?_⟩;rw [<-Ba (o:=.dct s3.l)];refine ⟨rfl,some (.val (.int (k:Nat))),some (.val (.obj S.length)),some (.val (.int (i:Nat))),some (.val (.str side)),some (.val (.lst (ws.map wdD))),some (.val (.str (AJ (gAt gs i) (hAt hs i) p).1)),some (.val (AJ (gAt gs i) (hAt hs i) p).2.1.d),some (.val (.int (AJ (gAt gs i) (hAt hs i) p).2.2)),some (.val v),?_⟩;have e5:(900:Int) - (n:Int) - 2 - ((Av (AJ (gAt gs i) (hAt hs i) p).2.1 v).length:Int)=900 - ((n + (2 + Jq gs hs i p v):Nat):Int):=by unfold Jq;lia
    have e3:(nD hs).set i (.int (AJ (gAt gs i) (hAt hs i) p).2.2)=nD (hs.set i (BB (gAt gs i) (hAt hs i) p)):=by
     rw [<-K4];unfold BB
     congr 2
     have:=hw.lo;lia
    have e4:sayD gs hs i p v = .tup [.int (i:Nat),.str side,.str (AJ (gAt gs i) (hAt hs i) p).1,v]:=by unfold sayD;rw [egs];rfl
    rw [<-e5,<-e3,e4];rfl
   ·refine ⟨hs,ds,n,s3,h,h15,by lia,λS a2 e7 e8 e9 e10 e11 e12 e13 e14=>?_⟩;unfold IJ gsD;left;refine (d S).mono λq S' z9=>?_;obtain ⟨q1,q2⟩:=z9;subst q1 q2;rw [Ba (o:=.dct s.l)];left;rw [List.length_map];refine d1.use Bp ?_;left;refine AH (Db hi) ?_;left;refine E3 rfl ?_;left;refine ⟨_,_,_,rfl,rfl,EK (by lia),?_⟩;refine AH (Cv hlt) ?_;rw [egs,GS.d];left;refine AH (Db hi) ?_;left;refine E3 rfl ?_;left;refine ⟨_,_,_,rfl,rfl,EK (by lia),?_⟩;refine AH (Cv hlt) ?_;rw [egs,GS.d];left;rw [List.length_map];refine d2.use Bp ?_;refine AH (GP ew) ?_;unfold wdD;left;refine d3'.use Bp ?_;left;refine hbb.use ?_;left;refine C3 (decide_eq_false (by lia)) ?_;left;rw [<-Ba (o:=.dct s3.l)];exact ⟨rfl,_,_,_,_,_,_,_,_,_,rfl⟩
theorem IK {cb cv cd ct:Fn}(hb:BP cb 3)(hv:Gf cv 3)(hd:CV cd)(ht:C8 ct){ns:List Int}{gs:List (List GS)}(hn:ns.length<=63)(hg:∀g∈gs,GOk g)(g1:1<=gs.length)(g9:gs.length<=9):∀(l:List Nat) (hs:List Nat) (ds:List D) (n:Nat),(∀k∈l,k<=63)->SaidV gs hs ds n->n<=900->∃(hs':List Nat) (ds':List D) (n':Nat) (os:List Ob),SaidV gs hs' ds' n'/\n'<=900/\ds'.length<=ds.length + l.length/\∀(S:List Ob) (a2 e6 e7 e8 e9 e10 e11 e12 e13 e14:Option Sl),
 F2.W (Bm (Ar 6) (IJ cb cv cd ct) (l.map λk:Nat=>D.int (k:Int))) ⟨[some (.val (.scr ns)),some (.val (gsD gs)),a2,some (.own (nD hs)),some (.own ds),some (.val (.int (900 - (n:Int)))),e6,e7,e8,e9,e10,e11,e12,e13,e14],S⟩ λout t=>out = .next/\∃f6 f7 f8 f9 f10 f11 f12 f13 f14,t=⟨[some (.val (.scr ns)),some (.val (gsD gs)),a2,some (.own (nD hs')),some (.own ds'),some (.val (.int (900 - (n':Int)))),f6,f7,f8,f9,f10,f11,f12,f13,f14],S++os⟩
 | [],hs,ds,n,_,h,h15=>⟨hs,ds,n,[],h,h15,Nat.le_refl _,λS a2 e6 e7 e8 e9 e10 e11 e12 e13 e14=>W_forL_nil.mpr ⟨rfl,_,_,_,_,_,_,_,_,_,by rw [List.append_nil]⟩⟩
 | k :: l,hs,ds,n,hk,h,h15=>by
   obtain ⟨hs1,ds1,n1,st1,q1,q2,q3,w1⟩:=Nu hb hv hd ht hn (hk k List.mem_cons_self) hg g1 g9 h h15;obtain ⟨hs2,ds2,n2,os,r1,r2,r3,w2⟩:=IK hb hv hd ht hn hg g1 g9 l hs1 ds1 n1 (λx hx=>hk x (List.mem_cons_of_mem _ hx)) q1 q2;refine ⟨hs2,ds2,n2,.dct st1.l :: os,r1,r2,by rw [List.length_cons];lia,λS a2 e6 e7 e8 e9 e10 e11 e12 e13 e14=>?_⟩;rw [List.map_cons,CA];refine D6 ?_;refine (w1 S a2 e7 e8 e9 e10 e11 e12 e13 e14).mono λout t h2=>?_;obtain ⟨z1,f6,f7,f8,f9,f10,f11,f12,f13,f14,z2⟩:=h2;subst z1 z2;refine (w2 (S++[.dct st1.l]) a2 f6 f7 f8 f9 f10 f11 f12 f13 f14).mono λout t h2=>?_;obtain ⟨z1,f6,f7,f8,f9,f10,f11,f12,f13,f14,z2⟩:=h2;refine ⟨z1,f6,f7,f8,f9,f10,f11,f12,f13,f14,?_⟩;rw [z2,List.append_assoc];rfl
def MN (f:Fn):Prop:=∀(ns:List Int) (gs:List (List GS)),ns.length<=63->(∀g∈gs,GOk g)->1<=gs.length->gs.length<=9->∃(hs:List Nat) (ds:List D) (n:Nat),SaidV gs hs ds n/\n<=900/\ds.length<=25/\∀S:List Ob,Wf f [.scr ns,gsD gs,.int 38] S λq S'=>Gr S S'/\q = .lst ds
theorem Ut {a:Nat}:AT (a:Int) n=((List.range n).map λk=>a + k).map λk:Nat=>D.int (k:Int):=by
 unfold AT;rw [List.map_map];refine List.map_congr_left λk _=>?_;show D.int ((a:Int) + k)=D.int ((a + k:Nat):Int)
 congr 1
theorem Q9 (hb:BP cb 3)(hv:Gf cv 3)(hd:CV cd)(ht:C8 ct):MN (fnOf 3 15 (DE cb cv cd ct)):=by
 intro ns gs hn hg g1 g9;have hL:LIM=100000:=rfl;obtain ⟨m,hm,hm0⟩:∃m:Nat,(if ((ns.length:Nat):Int) < 63 then ((ns.length:Nat):Int) else 63)=(m:Nat)/\m<=63:=by
  split
  ·exact ⟨ns.length,rfl,by lia⟩
  ·exact ⟨63,rfl,by decide⟩
 obtain ⟨hs,ds,n,os,q1,q2,q3,w⟩:=IK hb hv hd ht hn hg g1 g9 ((List.range (m - 38)).map λk=>38 + k) (List.replicate gs.length 0) [] 0 (λk hk=>by
  obtain ⟨j,hj,rfl⟩:=List.mem_map.mp hk;have:=List.mem_range.mp hj;lia) ⟨.nil,λ_ h=>nomatch h⟩ (by decide)
 refine ⟨hs,ds,n,q1,q2,by rw [List.length_map,List.length_range,List.length_nil] at q3;lia,λS=>?_⟩;refine Ap rfl ?_;unfold DE;left;unfold gsD;left;rw [List.length_map];refine MI ⟨EY g9,by show 1 * _<=_;lia⟩ ?_;rw [Int.toNat_natCast,KP];left;rw [hm];refine RC (by rw [Bool.and_eq_true];exact ⟨by decide,EY hm0⟩) ?_;rw [show (38:Int)=((38:Nat):Int) from rfl,Ut,show (((m:Nat):Int) - ((38:Nat):Int)).toNat=m - 38 by lia];refine (w S _ none none none none none none none none none).mono λout t h2=>?_;obtain ⟨z1,f6,f7,f8,f9,f10,f11,f12,f13,f14,z2⟩:=h2;subst z1 z2;left;exact ⟨.app,rfl⟩
theorem Dl:∀(n m:Nat) (d:D),okG n d=true->n<=m->okG m d=true
 | 0,m,d,h,_=>by cases d <;> first | (simp [okG] at h;done) | (cases m <;> rfl) | (rw [B4] at h ⊢;exact h)
 | n + 1,m,d,h,hm=>by
   obtain ⟨j,rfl⟩:∃j,m=j + 1:=Nat.exists_eq_add_of_le' (by lia)
   cases d <;> first | (simp [okG] at h;done) | rfl | (rw [B4] at h ⊢;exact h) | skip
   ·rw [BQ,Bool.and_eq_true,List.all_eq_true] at h ⊢;exact ⟨h.1,λx hx=>Dl n j x (h.2 x hx) (by lia)⟩
   ·rw [DZ,Bool.and_eq_true,List.all_eq_true] at h ⊢;exact ⟨h.1,λx hx=>Dl n j x (h.2 x hx) (by lia)⟩
theorem DS (h:xs.length≠3):hd3 xs=true:=by
 unfold hd3
 split <;> first | rfl | exact absurd rfl h
theorem EJ:∀(n:Nat) (s:Sh),s.depth<=n->wf s=true->∀v,Ah s v=true->okG n v=true
 | 0,s,h,_,_,_=>absurd s.depth_pos (by lia)
 | n + 1,s,hs,hw,v,hf=>by
   cases s with
   | nothing=>cases v <;> first | rfl | (simp [Ah,GZ] at hf;done)
   | number lo hi=>cases v <;> first | rfl | (simp [Ah] at hf;done)
   | text q=>
     simp only [wf,Bool.and_eq_true,decide_eq_true_eq] at hw
     cases v <;> simp only [Ah,Bool.false_eq_true] at hf
     rename_i x;simp only [Bool.and_eq_true,decide_eq_true_eq] at hf;rw [B4,decide_eq_true_eq];lia
   | list s q=>
     simp only [wf,Bool.and_eq_true,decide_eq_true_eq] at hw;rw [Sh.depth] at hs
     cases v <;> simp only [Ah,Bool.false_eq_true] at hf
     rename_i ds;simp only [Bool.and_eq_true,decide_eq_true_eq,List.all_eq_true] at hf;rw [DZ,Bool.and_eq_true,decide_eq_true_eq,List.all_eq_true];exact ⟨by lia,λx hx=>EJ n s (by lia) hw.2 x (hf.2 x hx)⟩
   | pair s r=>
     simp only [wf,Bool.and_eq_true] at hw;rw [Sh.depth] at hs;unfold Ah at hf
     split at hf
     ·next a b=>
      rw [Bool.and_eq_true] at hf;rw [BQ,Bool.and_eq_true,List.all_eq_true];refine ⟨by rw [DS (by simp)];rfl,λx hx=>?_⟩;rcases List.mem_cons.mp hx with rfl | hx
      ·exact EJ n s (by lia) hw.1 _ hf.1
      ·rw [List.mem_singleton] at hx;subst hx;exact EJ n r (by lia) hw.2 _ hf.2
     ·cases hf
   | choice ss=>
     simp only [wf,Bool.and_eq_true,decide_eq_true_eq] at hw;rw [Sh.depth] at hs;unfold Ah at hf
     split at hf
     ·next o k x=>
      simp only [Bool.and_eq_true,decide_eq_true_eq] at hf;obtain ⟨j,rfl⟩:=Int.eq_ofNat_of_zero_le hf.1.2.1;have hj:j < ss.length:=by have:=hf.1.2.2;lia
      have e1:ss[j]?=some ss[j]:=List.getElem?_eq_getElem hj;have h2:=hf.2;rw [Int.toNat_natCast,BN ss _ _ _ e1] at h2;have hx:=EJ n _ (Nat.le_trans (Cb ss _ _ e1) (by lia)) (CF hw.2 _ (List.getElem_mem hj)) x h2;have ho:o=Str.ofString "of":=TC hf.1.1;subst ho;rw [BQ,Bool.and_eq_true,List.all_eq_true];refine ⟨rfl,λy hy=>?_⟩;simp only [List.mem_cons,List.not_mem_nil,or_false] at hy;rcases hy with rfl | rfl | rfl
      ·rw [B4];rfl
      ·exact Jg _ _
      ·exact hx
     ·cases hf
structure Good (d:D):Prop where
 m:OkM d
 g:okG 12 d=true
 z:vz (d3 d)<=3000
theorem FN {k:D}(hk:okG 11 k=true)(ha:okG 11 a=true)(hd:a≠.dic)(hb:okG 11 b=true)(hv:okG 11 v=true)(hz:vz v<=3000):Good (.tup [k,a,b,v]):=by
 have hg:okG 12 (.tup [k,a,b,v])=true:=by
  rw [BQ,Bool.and_eq_true,List.all_eq_true];refine ⟨by rw [DS (by simp)];rfl,λx hx=>?_⟩;simp only [List.mem_cons,List.not_mem_nil,or_false] at hx;rcases hx with rfl | rfl | rfl | rfl
  ·exact hk
  ·exact ha
  ·exact hb
  ·exact hv
 refine ⟨⟨GB 12 _ hg,λk' a' b' v' e=>?_⟩,hg,hz⟩;injection e with e
 injection e with _ e
 injection e with e1 e
 injection e with _ e
 injection e with e2 _
 subst e1 e2;exact ⟨hd,11,hv⟩
theorem Vu {d:D}(h:∀k a b v,d≠.tup [k,a,b,v]):d3 d = .non:=by
 unfold d3
 split
 ·next e=>exact absurd rfl (h _ _ _ _)
 ·rfl
theorem J4 {d:D}(hg:okG 12 d=true)(h:∀k a b v,d≠.tup [k,a,b,v]):Good d:=
 ⟨⟨GB 12 _ hg,λk a b v e=>absurd e (h k a b v)⟩,hg,by rw [Vu h];decide⟩
def CG (l:List D):Prop:=∀d∈l,Good d
theorem Cp {a b:List D}(h:CG a)(h2:CG b):CG (a++b):=λx hx=>(List.mem_append.mp hx).elim (h x) (h2 x)
theorem DN:CG []:=λ_ h=>nomatch h
theorem E4 {d:D}{l:List D}(h:Good d)(h2:CG l):CG (d :: l):=λx hx=>(List.mem_cons.mp hx).elim (λe=>e ▸ h) (h2 x)
theorem Km {l:List D}{f:D->D}(h:∀d∈l,Good (f d)):CG (l.map f):=λx hx=>by
 obtain ⟨y,hy,rfl⟩:=List.mem_map.mp hx;exact h y hy
theorem MF:∀{l:List D},CG l->szB l<=l.length * 3002
 | [],_=>Nat.zero_le _
 | d :: l,h=>by
   rw [F3,List.length_cons,Nat.succ_mul];have h1:=(h d List.mem_cons_self).z;have h2:=MF λx hx=>h x (List.mem_cons_of_mem _ hx);lia
theorem Lb {l:List D}(h:CG l)(hl:l.length<=26):OkR l:=by
 have hs:=MF h;have:l.length * 3002<=26 * 3002:=Nat.mul_le_mul_right _ hl;unfold szB at hs;exact ⟨⟨λd hd=>(h d hd).m.ok,by lia,by lia,λd hd=>by have:=(h d hd).z;lia⟩,λd hd=>(h d hd).m⟩
structure One (s nm:Str)(v:D):Prop where
 ls:s.length<=1000
 ln:nm.length<=1000
 hv:okG 4 v=true
 hz:vz v<=2370
theorem QP (hg:∀g∈gs,GON g){hs:List Nat}{ds:List D}{n:Nat}(h:SaidV gs hs ds n):∀d∈ds,∃(i:Nat) (s nm:Str) (v:D),d = .tup [.int (i:Nat),.str s,.str nm,v]/\One s nm v:=λd hd=>by
 obtain ⟨i,p,v,hs',e,hi,ho,hm,hz⟩:=h.k d hd;have hgo:GON (gAt gs i):=by
  unfold gAt;rw [List.getD_eq_getElem?_getD,List.getElem?_eq_getElem hi];exact hg _ (List.getElem_mem hi)
 have hlt:=hm.lt;have hgs:=Ez hgo.ok hlt;have hwd:=DL hgo.ok hlt hm.pl;obtain ⟨side,ws,egs,hp,ew⟩:=F0 hm.pl;refine ⟨i,_,_,v,e,?_,?_,Dl 3 4 v (EJ 3 _ hwd.dep hwd.ok v hm.fit) (by lia),hz⟩
 ·rw [egs] at hgs;obtain ⟨s,rfl⟩:=Js hgs;rw [egs];show (sd s).length<=1000
  cases s <;> decide
 ·refine hgo.nm (A0 (gAt gs i) (hAt hs' i)) ?_ _ ?_
  ·unfold A0;rw [List.getD_eq_getElem?_getD,List.getElem?_eq_getElem hlt];exact List.getElem_mem hlt
  ·rw [egs];exact List.mem_of_getElem? ew
theorem Hz {nm:Str}(h:One s nm v):Good (.tup [.int (i:Nat),.str s,.str nm,v]):=
 FN (Jg _ _) (by rw [B4,decide_eq_true_eq];have:=h.ls;lia) (by intro z;cases z) (by rw [B4,decide_eq_true_eq];have:=h.ln;lia) (Dl 4 11 v h.hv (by lia)) (by have:=h.hz;lia)
theorem Dx:A7 xs (some (n:Int)) none=xs.drop n:=by
 by_cases h:n<=xs.length
 ·have e1:HT.sIx xs.length 0 (some (n:Int))=n:=by simp only [HT.sIx];rw [if_neg (by lia)];lia
  unfold A7;rw [e1];simp only [HT.sIx];rw [List.take_of_length_le (by rw [List.length_drop];lia)]
 ·have e1:HT.sIx xs.length 0 (some (n:Int))=xs.length:=by simp only [HT.sIx];rw [if_neg (by lia)];lia
  unfold A7;rw [e1];simp only [HT.sIx];rw [List.drop_of_length_le (Nat.le_refl _),List.drop_of_length_le (by lia),List.take_nil]
noncomputable def Y9:D->Bool
 | .tup _=>true
 | _=>false
theorem Xo (hv:okD v=true)(h:P (.bl (Y9 v)) t):F2.W (AI [v,.ty "tuple"]) t P:=by
 cases v <;> first | (simp [okD] at hv;done) | exact ⟨_,_,rfl,h⟩
def okV (x:D):Prop:=okG 11 x=true/\vz x<=3000
theorem Lc {e:D}(h:okG 4 (.tup xs)=true)(hz:vz (.tup xs)<=2370)(he:okG 10 e=true)(hze:vz e<=9):okV (.tup ((A7 xs none (some 1)++[e])++A7 xs (some 2) none)):=by
 obtain ⟨m,hm,hh,hx⟩:=FU h;have hm:m=3:=by lia
 subst hm;have hx':∀x∈xs,okG 10 x=true:=λx hx0=>Dl 3 10 x (hx x hx0) (by lia);have hlen:xs.length<=1000:=by rw [BQ,Bool.and_eq_true,Bool.and_eq_true,decide_eq_true_eq] at h;exact h.1.1
 rw [show (1:Int)=((1:Nat):Int) from rfl,Dy,show (2:Int)=((2:Nat):Int) from rfl,Dx];rw [vz] at hz;constructor
 ·rw [BQ,Bool.and_eq_true,Bool.and_eq_true,decide_eq_true_eq,List.all_eq_true];refine ⟨⟨?_,?_⟩,λx hx0=>?_⟩
  ·rw [List.length_append,List.length_append,List.length_take,List.length_drop,List.length_singleton];lia
  ·match xs,hh with
   | [],_=>exact DS (by simp)
   | [a],_=>exact DS (by simp)
   | [a,b],_=>exact DS (by simp)
   | [.str _,b,c],_=>rfl
   | [.int _,b,c],_=>rfl
   | a :: b :: c :: d :: l,_=>exact DS (by simp)
  ·rcases List.mem_append.mp hx0 with h1 | h1
   ·rcases List.mem_append.mp h1 with h1 | h1
    ·exact hx' x (List.mem_of_mem_take h1)
    ·rw [List.mem_singleton] at h1;subst h1;exact he
   ·exact hx' x (List.mem_of_mem_drop h1)
 ·match xs,hz with
  | [],hz=>show 9 + (vz e + 0)<=_;lia
  | [a],hz=>show 9 + (vz a + (vz e + 0))<=_;rw [vzs,vzs] at hz;lia
  | a :: b :: l,hz=>show 9 + (vz a + (vz e + vzs l))<=_;rw [vzs,vzs] at hz;lia
theorem V5 {b:Bool}{m1 m2:M Out}{K:Out->T->Prop}(Pm:Out->T->Prop)(h1:b=true->F2.W m1 t Pm)(h2:b=false->F2.W m2 t Pm)(h:∀o t',Pm o t'->K o t'):DT b (F2.W m1 t K) (F2.W m2 t K):=by
 cases b with
 | true=>exact (h1 rfl).mono h
 | false=>exact (h2 rfl).mono h
def LR (f:Fn):Prop:=∀(ds:List D) (many K r:Nat) (S0 S:List Ob),(∀d∈ds,∃(i:Nat) (s nm:Str) (v:D),d = .tup [.int (i:Nat),.str s,.str nm,v]/\One s nm v)->ds.length<=25->1<=many->many<=9->StK K (r + 3) S0 S->Wf f [.lst ds,.int (many:Nat),.obj K] S λq S'=>StK K r S0 S'/\∃L,q = .lst L/\CG L/\L.length<=26
variable {L:List D}
theorem ZI {x:Int}(hG:CG L)(h0:0<=x)(h1:x < L.length)(h:∀d,Good d->P d t):F2.W (ixD (.lst L) (.int x)) t P:=by
 obtain ⟨d,e,m,_⟩:=IS h0 h1;exact AH e (h d (hG d m))
theorem Mp {l:List D}(h:l.all (λx=>okG 11 x && decide (vz x<=3000))=true):∀d∈l,okV d:=λd hd=>by
 have:=List.all_eq_true.mp h d hd;rw [Bool.and_eq_true,decide_eq_true_eq] at this;exact this
noncomputable def R9:List D:=[D.tup [.str "of",.bl true,.non],.tup [.str "of",.str "0",.non],.tup [.str "of",.lst [],.non],.tup [.str "of",.int 0],.lst [.str "of",.int 0,.non],.str "a\nb",.lst [.non,.non]]
theorem Hk {x y:List D}(hl:x.length + y.length<=LIM)(h:P (.tup (x++y)) t):F2.W (Aq (.tup x) (.tup y)) t P:=by
 cases x with
 | nil=>exact PN h
 | cons d x=>exact Sw (AC (by rw [List.length_cons] at hl;exact hl) h)
def P7 (ds:List D)(many K a i:Nat)(s nm:Str)(v sd':D)(L6:List D)(S1:List Ob)(o:Out)(t':T):Prop:=o = .next/\∃L7:List D,(∀x∈L7,okV x)/\L7.length<=10/\t'=⟨[some (.val (.lst ds)),some (.val (.int (many:Nat))),some (.val (.obj K)),some (.val (.int (a:Nat))),some (.val (.tup [.int (i:Nat),.str s,.str nm,v])),some (.val sd'),some (.val (.lst L6)),some (.val (.lst L7)),none],S1⟩
theorem Xa {many K a:Nat}{nm:Str}{sd':D}{L6:List D}{S1:List Ob}(hv:okG 4 (.tup xs)=true)(hz:vz (.tup xs)<=2370):F2.W (Ao 7 (Ac (Ab 7) (Ak (As (Aa (Ak (fBF (Aa (Ac (Ab 4) (fC (.int 3)) ixD) Ad) Ei)) (Aa (Ac (Ac (fSl (Ac (Ab 4) (fC (.int 3)) ixD) fNo (Bg (fC (.int 1))) Bf) (Az (Aa (fC (.bl true)) Ad)) Aq) (fSl (Ac (Ab 4) (fC (.int 3)) ixD) (Bg (fC (.int 2))) fNo Bf) Aq) (Aa (Ac (Ac (fSl (Ac (Ab 4) (fC (.int 3)) ixD) fNo (Bg (fC (.int 1))) Bf) (Az (Aa (Ak (As Ad)) Ad)) Aq) (fSl (Ac (Ab 4) (fC (.int 3)) ixD) (Bg (fC (.int 2))) fNo Bf) Aq) Ad))))) Aq)) ⟨[some (.val (.lst ds)),some (.val (.int (many:Nat))),some (.val (.obj K)),some (.val (.int (a:Nat))),some (.val (.tup [.int (i:Nat),.str s,.str nm,.tup xs])),some (.val sd'),some (.val (.lst L6)),some (.val (.lst R9)),none],S1⟩ (P7 ds many K a i s nm (.tup xs) sd' L6 S1):=by
 have hL:LIM=100000:=rfl;have h1:=Lc (e:=.bl true) hv hz (OX _ _) (by decide);have h2:=Lc (e:=.lst []) hv hz rfl (by decide);have hlen:xs.length<=1000:=by rw [BQ,Bool.and_eq_true,Bool.and_eq_true,decide_eq_true_eq] at hv;exact hv.1.1
 have h0:okV (.lst xs):=by
  obtain ⟨m,hm,_,hx⟩:=FU hv;have hm:m=3:=by lia
  subst hm;constructor
  ·rw [BQ,Bool.and_eq_true,Bool.and_eq_true] at hv;rw [DZ,Bool.and_eq_true,List.all_eq_true];exact ⟨hv.1.1,λx hx0=>Dl 3 10 x (hx x hx0) (by lia)⟩
  ·have e1:vz (.tup xs)=9 + vzs xs:=by rw [vz]
   have e2:vz (.lst xs)=1 + vzs xs:=by rw [vz]
   lia
 have hl7:∀{A B:D},okV A->okV B->∀x∈(R9++[.lst xs,A,B]),okV x:=λ{A B} hA hB x hx=>by
  rcases List.mem_append.mp hx with hx | hx
  ·exact Mp (by decide +kernel) x hx
  ·simp only [List.mem_cons,List.not_mem_nil,or_false] at hx;rcases hx with rfl | rfl | rfl
   ·exact h0
   ·exact hA
   ·exact hB
 have c1:A7 xs none (some 1)=xs.take 1:=by rw [show (1:Int)=((1:Nat):Int) from rfl,Dy]
 have c2:A7 xs (some 2) none=xs.drop 2:=by rw [show (2:Int)=((2:Nat):Int) from rfl,Dx]
 rw [c1,c2] at h1 h2;have l1:(xs.take 1).length<=1000:=by rw [List.length_take];lia
 have l2:(xs.drop 2).length<=1000:=by rw [List.length_drop];lia
 left;rw [c1];refine Hk (by rw [hL];show _ + 1<=_;lia) ?_;left;rw [c2];refine Hk (by rw [List.length_append,hL];show _ + 1 + _<=_;lia) ?_;left;rw [c1];refine Hk (by rw [hL];show _ + 1<=_;lia) ?_;left;rw [c2];refine Hk (by rw [List.length_append,hL];show _ + 1 + _<=_;lia) ?_;left;exact ⟨rfl,_,hl7 h1 h2,Nat.le_of_ble_eq_true rfl,rfl⟩
theorem Yd {m:M α}{P:α->T->Prop}{a0 a1 a2 a3 a4 a5 a7 a8:Option Sl}(e:t=⟨[a0,a1,a2,a3,a4,a5,some (.val (.lst L)),a7,a8],S⟩)(hG:CG L)(hl:L.length<=60)(h:∀L:List D,CG L->L.length<=60->F2.W m ⟨[a0,a1,a2,a3,a4,a5,some (.val (.lst L)),a7,a8],S⟩ P):F2.W m t P:=by
 rw [e];exact h L hG hl
theorem Nd (hd:DrawD cd):LR (fnOf 3 9 (C4 cd)):=by
 intro ds many K r S0 S hall hlen m0 m1 hst;have hL:LIM=100000:=rfl;have hG:CG ds:=λd h=>by obtain ⟨i,s,nm,v,e,ho⟩:=hall d h;rw [e];exact Hz ho
 refine Ap rfl ?_;unfold C4;left;refine hd.use (r:=r + 2) ((ds.length:Nat) + 1:Int) hst (λa S1 a0 a1 p1=>?_) rfl (by lia) (by lia);obtain ⟨a,rfl⟩:=Int.eq_ofNat_of_zero_le a0;left;refine AC (by show _ + 1<=_;rw [hL];lia) ?_;obtain ⟨i,s,nm,v,ea,ho⟩:∃(i:Nat) (s nm:Str) (v:D),atI (ds++[.tup [.int 0,.str (Str.ofString "left"),.str (Str.ofString "a"),.non]]) (a:Int)=some (.tup [.int (i:Nat),.str s,.str nm,v])/\One s nm v:=by
  by_cases h:a < ds.length
  ·obtain ⟨i,s,nm,v,e,ho⟩:=hall ds[a] (List.getElem_mem h);refine ⟨i,s,nm,v,CK ?_,ho⟩;rw [List.getElem?_append_left h,List.getElem?_eq_getElem h,e]
  ·refine ⟨0,Str.ofString "left",Str.ofString "a",.non,CK ?_,⟨by decide,by decide,rfl,by decide⟩⟩;rw [List.getElem?_append_right (by lia),show a - ds.length=0 by lia];rfl
 have hvD:okD v=true:=GB 4 v ho.hv;have gI:∀z:Int,okG 11 (.int z)=true:=λz=>Jg _ _;have gS:okG 11 (.str s)=true:=by rw [B4,decide_eq_true_eq];have:=ho.ls;lia
 have gN:okG 11 (.str nm)=true:=by rw [B4,decide_eq_true_eq];have:=ho.ln;lia
 have gV:okG 11 v=true:=Dl 4 11 v ho.hv (by lia);have zV:vz v<=3000:=by have:=ho.hz;lia
 have dS:(D.str s)≠.dic:=by intro z;cases z
 have al:(nm++Str.ofString "a").length=nm.length + 1:=by rw [Cm,Cm,NX,List.length_append];rfl
 have gNa:okG 11 (.str (nm++Str.ofString "a"))=true:=by rw [B4,decide_eq_true_eq];have:=ho.ln;lia
 have gB:∀z:Bool,okG 11 (.bl z)=true:=λz=>OX _ _;have g3:okG 12 (.tup [.str s,.str nm,v])=true:=by
  rw [BQ,Bool.and_eq_true,List.all_eq_true];refine ⟨rfl,λx hx=>?_⟩;simp only [List.mem_cons,List.not_mem_nil,or_false] at hx;rcases hx with rfl | rfl | rfl
  ·exact gS
  ·exact gN
  ·exact gV
 have g4l:okG 12 (.lst [.int (i:Nat),.str s,.str nm,v])=true:=by
  rw [DZ,Bool.and_eq_true,List.all_eq_true];refine ⟨rfl,λx hx=>?_⟩;simp only [List.mem_cons,List.not_mem_nil,or_false] at hx;rcases hx with rfl | rfl | rfl | rfl
  ·exact gI _
  ·exact gS
  ·exact gN
  ·exact gV
 have g5:okG 12 (.tup [.int (i:Nat),.str s,.str nm,v,v])=true:=by
  rw [BQ,Bool.and_eq_true,List.all_eq_true];refine ⟨by rw [DS (by simp)];rfl,λx hx=>?_⟩;simp only [List.mem_cons,List.not_mem_nil,or_false] at hx;rcases hx with rfl | rfl | rfl | rfl | rfl
  ·exact gI _
  ·exact gS
  ·exact gN
  ·exact gV
  ·exact gV
 left;refine AH ea ?_;left;obtain ⟨sd',es,gS',dS'⟩:∃x:D,atI [D.str (Str.ofString "left"),.str (Str.ofString "right")] (if id (s == Str.ofString "left")=true then 1 else 0)=some x/\okG 11 x=true/\x≠.dic:=by
  by_cases q:id (s == Str.ofString "left")=true
  ·rw [if_pos q];exact ⟨_,rfl,by decide +kernel,by intro z;cases z⟩
  ·rw [if_neg q];exact ⟨_,rfl,by decide +kernel,by intro z;cases z⟩
 refine AH es ?_;left;refine NG (by lia) ?_;left;refine AC (by show _ + 1<=_;have:=ho.ln;rw [hL];lia) ?_;left;refine (Ck (f:=λd=>.tup [.int (i:Nat),.str s,.str nm,d]) (fr:=[some (.val (.tup [.int (i:Nat),.str s,.str nm,v]))]) ?_).mono ?_
 ·intro d _;left;exact ⟨rfl,rfl⟩
 rintro xs tc ⟨rfl,hS⟩;refine AC (by rw [List.length_map];show 7<=_;decide) ?_;rw [hS];left;refine (Ck (f:=λd=>.tup [d,.str s,.str nm,v]) (fr:=[some (.val (.tup [.int (i:Nat),.str s,.str nm,v]))]) ?_).mono ?_
 ·intro d _;left;exact ⟨rfl,rfl⟩
 rintro xs tc ⟨rfl,hS⟩;refine AC (by rw [List.length_map];show 4<=_;decide) ?_;rw [hS];left;rw [show A7 [D.int (i:Nat),.str s,.str nm,v] none (some 2)=[D.int (i:Nat),.str s] from rfl];left;refine (Ck (f:=λd=>.tup [.int (i:Nat),d,.str nm,v]) (fr:=[some (.val (.tup [.int (i:Nat),.str s,.str nm,v]))]) ?_).mono ?_
 ·intro d _;left;exact ⟨rfl,rfl⟩
 rintro xs tc ⟨rfl,hS⟩;refine AC (by rw [List.length_map];show 6<=_;decide) ?_;rw [hS];left;refine Yd rfl ?_ ?_ λL6 h6 n6=>?_
 ·simp only [List.map_cons,List.map_nil]
  repeat' first | refine Cp ?_ ?_ | refine E4 ?_ ?_ | exact DN
  all_goals first
   | exact FN (gI _) gS dS gN gV zV
   | exact FN (gI _) gS' dS' gN gV zV
   | (refine FN ?_ ?_ ?_ ?_ ?_ ?_ <;> first | exact gI _ | exact gS | exact gS' | exact gN | exact gNa | exact gV | exact zV | exact dS | exact dS' | exact gB _ | (intro z;cases z;done) | rfl | decide +kernel)
   | exact J4 g3 (by intro k a b v z;cases z)
   | exact J4 g4l (by intro k a b v z;cases z)
   | exact J4 g5 (by intro k a b v z;cases z)
   | exact J4 (by decide +kernel) (by intro k a b v z;cases z)
 ·exact Nat.le_of_ble_eq_true rfl
 refine Xo hvD ?_;left;refine V5 (P7 ds many K a i s nm v sd' L6 S1) (λq=>?_) (λq=>?_) ?_
 ·clear hS h6 n6;obtain ⟨xs,rfl⟩:∃xs,v = .tup xs:=by cases v <;> first | exact ⟨_,rfl⟩ | cases q
  exact Xa ho.hv ho.hz
 ·left;exact ⟨rfl,_,Mp (by decide +kernel),by decide,rfl⟩
 rintro o t' ⟨rfl,L7,h7,n7,rfl⟩;refine Cn ?_;left;refine (Ck (f:=λd=>.tup [.int (i:Nat),.str s,.str nm,d]) (fr:=[some (.val (.tup [.int (i:Nat),.str s,.str nm,v]))]) ?_).mono ?_
 ·intro d _;left;exact ⟨rfl,rfl⟩
 rintro xs tc ⟨rfl,hS⟩;refine AC (by rw [List.length_map,hL];lia) ?_;rw [hS];left;refine AC (by rw [List.length_map,hL];lia) ?_;left;refine AC (by rw [List.length_append,List.length_map,hL];show _ + 1<=_;lia) ?_;left;refine (Ck (f:=λd=>.tup [.int (i:Nat),.str s,d,v]) (fr:=[some (.val (.tup [.int (i:Nat),.str s,.str nm,v]))]) ?_).mono ?_
 ·intro d _;left;exact ⟨rfl,rfl⟩
 rintro xs tc ⟨rfl,hS⟩;refine AC (by rw [List.length_map];show 4<=_;decide) ?_;rw [hS];left;refine AC (by rw [List.length_append,List.length_append,List.length_map,List.length_map,hL];show _ + 1 + 4<=_;lia) ?_;left;refine hd.use (r:=r + 1) 4 p1 λkd S2 k0 k1 p2=>?_;left;have c1:∀n:Nat,CG (ds.take n)/\(ds.take n).length<=n:=λn=>⟨λd h=>hG d (List.mem_of_mem_take h),by rw [List.length_take];lia⟩;have c2:∀n:Nat,CG (ds.drop n)/\(ds.drop n).length=ds.length - n:=λn=>⟨λd h=>hG d (List.mem_of_mem_drop h),List.length_drop ..⟩;have ale:a<=ds.length:=by lia
 have ea1:((a:Nat):Int) + 1=((a + 1:Nat):Int):=by lia
 by_cases q0:kd=0
 ·subst q0;left;rw [ea1,Dy,Dx];refine AC (by have:=(c1 a).2;have:=(c2 (a + 1)).2;rw [hL];lia) ?_;left;exact ⟨p2.mono (by lia),_,rfl,Cp (c1 a).1 (c2 (a + 1)).1,by rw [List.length_append];have:=(c1 a).2;have:=(c2 (a + 1)).2;lia⟩
 refine C3 (beq_eq_false_iff_ne.mpr q0) ?_;left
 by_cases q1:kd=1
 ·subst q1;left;rw [Dy];refine AC (by have:=(c1 a).2;rw [hL];show _ + 1<=_;lia) ?_;left;rw [Dx];refine AC (by rw [List.length_append];have:=(c1 a).2;have:=(c2 a).2;rw [hL];show _ + 1 + _<=_;lia) ?_;left;exact ⟨p2.mono (by lia),_,rfl,Cp (Cp (c1 a).1 (E4 (Hz ho) DN)) (c2 a).1,by rw [List.length_append,List.length_append];have:=(c1 a).2;have:=(c2 a).2;show _ + 1 + _<=_;lia⟩
 refine C3 (beq_eq_false_iff_ne.mpr q1) ?_;left;rw [Dy];left;have hlb:∀x y:Nat,L6.length + x + 1 + y=L6.length + x + 1 + y:=λ_ _=>rfl;refine hd.use (r:=r) _ p2 (λx S3 x0 x1 p3=>?_) rfl (by simp only [List.length_append,List.length_map,List.length_cons,List.length_nil];lia) (by simp only [List.length_append,List.length_map,List.length_cons,List.length_nil];lia);refine ZI ?_ x0 x1 λd hgd=>?_
 ·refine Cp (Cp (Cp h6 (Km λd hd'=>FN (gI _) gS dS gN (h7 d hd').1 (h7 d hd').2)) (E4 (FN (gI _) gS dS (by decide +kernel) gV zV) DN)) (Km λd hd'=>?_);have hdo:okG 11 d=true:=List.all_eq_true.mp (show ([D.non,.lst [],.dic,.int 5].all λx=>okG 11 x)=true by decide +kernel) d hd';exact FN (gI _) gS dS hdo gV zV
 left;refine AC (by have:=(c1 a).2;rw [hL];show _ + 1<=_;lia) ?_;left;rw [ea1,Dx];refine AC (by rw [List.length_append];have:=(c1 a).2;have:=(c2 (a + 1)).2;rw [hL];show _ + 1 + _<=_;lia) ?_;left;exact ⟨p3,_,rfl,Cp (Cp (c1 a).1 (E4 hgd DN)) (c2 (a + 1)).1,by rw [List.length_append,List.length_append];have:=(c1 a).2;have:=(c2 (a + 1)).2;show _ + 1 + _<=_;lia⟩
theorem CY (n:Nat)(x:Str):okH n (.str x)=true:=by cases n <;> rfl
theorem Fs (n:Nat)(x:Int):okH n (.int x)=true:=by cases n <;> rfl
theorem DI (h:xs.length<=1000)(h2:∀x∈xs,okH n x=true):okH (n + 1) (.tup xs)=true:=by
 rw [Hc,Bool.and_eq_true,decide_eq_true_eq,List.all_eq_true];exact ⟨h,h2⟩
theorem Ha (h:xs.length<=1000)(h2:∀x∈xs,okH n x=true):okH (n + 1) (.lst xs)=true:=by
 rw [Hb,Bool.and_eq_true,decide_eq_true_eq,List.all_eq_true];exact ⟨h,h2⟩
theorem D0:∀(n m:Nat) (d:D),okH n d=true->n<=m->okH m d=true
 | 0,m,d,h,_=>by cases d <;> first | (simp [okH] at h;done) | (cases m <;> rfl)
 | n + 1,m,d,h,hm=>by
   obtain ⟨j,rfl⟩:∃j,m=j + 1:=Nat.exists_eq_add_of_le' (by lia)
   cases d <;> first | (simp [okH] at h;done) | rfl | skip
   ·obtain ⟨_,e,hl,hx⟩:=K8 h
    cases e
    exact DI hl λx hx0=>D0 n j x (hx x hx0) (by lia)
   ·obtain ⟨_,e,hl,hx⟩:=JL h
    cases e
    exact Ha hl λx hx0=>D0 n j x (hx x hx0) (by lia)
theorem GC:∀(n:Nat) (s:Sh),s.depth<=n->wf s=true->okH (2 * n) s.d=true
 | 0,s,h,_=>absurd s.depth_pos (by lia)
 | n + 1,s,hs,hw=>by
   rw [show 2 * (n + 1)=(2 * n + 1) + 1 by lia]
   cases s with
   | nothing=>rw [Sh.d];exact DI (by decide) λx hx=>by rw [List.mem_singleton] at hx;subst hx;exact CY _ _
   | number lo hi=>
     rw [Sh.d];refine DI (by show 3<=_;decide) λx hx=>?_;simp only [List.mem_cons,List.not_mem_nil,or_false] at hx;rcases hx with rfl | rfl | rfl
     ·exact CY _ _
     ·exact Fs _ _
     ·exact Fs _ _
   | text q=>
     rw [Sh.d];refine DI (by show 2<=_;decide) λx hx=>?_;simp only [List.mem_cons,List.not_mem_nil,or_false] at hx;rcases hx with rfl | rfl
     ·exact CY _ _
     ·exact Fs _ _
   | list s q=>
     simp only [wf,Bool.and_eq_true,decide_eq_true_eq] at hw;rw [Sh.depth] at hs;have h1:=GC n s (by lia) hw.2;rw [Sh.d];refine DI (by show 3<=_;decide) λx hx=>?_;simp only [List.mem_cons,List.not_mem_nil,or_false] at hx;rcases hx with rfl | rfl | rfl
     ·exact CY _ _
     ·exact D0 _ _ _ h1 (by lia)
     ·exact Fs _ _
   | pair s r=>
     simp only [wf,Bool.and_eq_true] at hw;rw [Sh.depth] at hs;have h1:=GC n s (by lia) hw.1;have h2:=GC n r (by lia) hw.2;rw [Sh.d];refine DI (by show 3<=_;decide) λx hx=>?_;simp only [List.mem_cons,List.not_mem_nil,or_false] at hx;rcases hx with rfl | rfl | rfl
     ·exact CY _ _
     ·exact D0 _ _ _ h1 (by lia)
     ·exact D0 _ _ _ h2 (by lia)
   | choice ss=>
     simp only [wf,Bool.and_eq_true,decide_eq_true_eq] at hw;have hss:∀s∈ss,s.depth<=n:=λs h=>MX hs s h;rw [Sh.d];refine DI (by show 2<=_;decide) λx hx=>?_;simp only [List.mem_cons,List.not_mem_nil,or_false] at hx;rcases hx with rfl | rfl
     ·exact CY _ _
     ·refine DI (by rw [Cj];lia) λy hy=>?_;rw [HK] at hy;obtain ⟨s,hs',rfl⟩:=List.mem_map.mp hy;exact GC n s (hss s hs') (CF hw.2 _ hs')
theorem Wk (hg:∀g∈gs,GOk g)(g9:gs.length<=9):okH 19 (gsD gs)=true:=by
 unfold gsD;refine Ha (by rw [List.length_map];lia) λx hx=>?_;obtain ⟨g,hgm,rfl⟩:=List.mem_map.mp hx;have hgo:=hg g hgm;refine Ha (by rw [List.length_map];have:=hgo.le;lia) λx hx=>?_;obtain ⟨y,hy,rfl⟩:=List.mem_map.mp hx
 cases hgo.all y hy with
 | fin=>
   rw [GS.d];exact DI (by decide) λx hx=>by rw [List.mem_singleton] at hx;subst hx;exact CY _ _
 | @st side ws h1 h2 h3 h4 h5=>
   rw [GS.d];refine DI (by show 2<=_;decide) λx hx=>?_;simp only [List.mem_cons,List.not_mem_nil,or_false] at hx;rcases hx with rfl | rfl
   ·exact CY _ _
   ·refine Ha (by rw [List.length_map];lia) λx hx=>?_;obtain ⟨w,hw,rfl⟩:=List.mem_map.mp hx;have hwo:=h5 w hw;unfold wdD;refine DI (by show 3<=_;decide) λx hx=>?_;simp only [List.mem_cons,List.not_mem_nil,or_false] at hx;rcases hx with rfl | rfl | rfl
    ·exact CY _ _
    ·exact D0 6 _ _ (GC 3 _ hwo.dep hwo.ok) (by lia)
    ·exact Fs _ _
theorem HF (hg:∀g∈gs,GOk g)(g9:gs.length<=9)(hL:CG L)(hl:L.length<=26):okH 20 (.lst [gsD gs,.lst L])=true:=by
 refine Ha (by show 2<=_;decide) λx hx=>?_;simp only [List.mem_cons,List.not_mem_nil,or_false] at hx;rcases hx with rfl | rfl
 ·exact Wk hg g9
 ·exact Ha (by lia) λx hx=>K9 12 18 x (hL x hx).g (by lia)
theorem Uu (hg:∀g∈gs,GOk g){hs:List Nat}{ds:List D}{n:Nat}(h:SaidV gs hs ds n):Rq 6 (.lst ds):=by
 refine GJ λd hd=>?_;obtain ⟨i,p,v,hs',e,hi,ho,hm,hz⟩:=h.k d hd;have hwd:=DL (CN hg hi) hm.lt hm.pl;rw [e];unfold sayD;refine Lr (n:=4) λx hx=>?_;simp only [List.mem_cons,List.not_mem_nil,or_false] at hx;rcases hx with rfl | rfl | rfl | rfl
 ·exact GI
 ·exact II
 ·exact II
 ·exact Lq 4 _ (Mo (EI 3 _ hwd.dep hwd.ok _ hm.fit) 1)
theorem Xb {K r:Nat}{S0:List Ob}(h:StK K r S0 S)(g:Gr S S'):StK K r S0 S':=by
 obtain ⟨k,s,hK,b⟩:=h;exact ⟨k.trans g.kp,s,g.get hK,b⟩
theorem XL {csd csp cr cgr:Fn}(hs:MN csd)(hsp:LR csp)(hr:Kc cr)(ht:C8 ct)(hgr:PZ cgr){ns:List Int}(hn:ns.length<=63):Wf (fnOf 1 5 (Gx csd csp cr ct cgr)) [.scr ns] [] λq _=>q = .bl true:=by
 obtain ⟨gs,g1,g9,hgn,hgd⟩:=hgr ns hn;have hg:∀g∈gs,GOk g:=λg h=>(hgn g h).ok;obtain ⟨hh,ds,n,hsd,h15,hl,hsw⟩:=hs ns gs hn hg g1 g9;obtain ⟨s,b,hst⟩:=ht ns 1 hn (by lia);have hone:=QP hgn hsd;have hG:CG ds:=λd h=>by obtain ⟨i,s,nm,v,e,ho⟩:=hone d h;rw [e];exact Hz ho
 refine Ap rfl ?_;unfold Gx;left;refine (hgd _).mono λq S1 z9=>?_;obtain ⟨e1,G1⟩:=z9;subst e1;left;refine (hsw _).mono λq S2 z9=>?_;obtain ⟨G2,e1⟩:=z9;subst e1;left;refine (hr gs ds S2 hg g9 (Lb hG (by lia)) (HF hg g9 hG (by lia))).mono λq S3 z9=>?_;obtain ⟨e1,G3⟩:=z9;subst e1;left;refine (hr gs [] S3 hg g9 (Lb DN (by decide)) (HF hg g9 DN (by decide))).mono λq S4 z9=>?_;obtain ⟨e1,G4⟩:=z9;subst e1;left;refine (hst S4).mono λq S5 z9=>?_;obtain ⟨e1,e2⟩:=z9;subst e1 e2;left;refine En (λq t=>∃(S':List Ob) (e4:Option Sl),StK S4.length (3 * q.length) (S4++[.dct s.l]) S'/\t=⟨[some (.val (.scr ns)),some (.val (gsD gs)),some (.val (.lst ds)),some (.val (.obj S4.length)),e4],S'⟩) _ _ ⟨_,none,⟨.refl,s,DO,b.mono (by rw [EW];show 3 * 3<=_;lia)⟩,rfl⟩ ?_ ?_
 ·rintro d q t ⟨S',e4,hk,rfl⟩ _;rw [List.length_cons] at hk;left;unfold gsD;left;rw [List.length_map];refine (hsp ds gs.length S4.length (3 * q.length) _ S' hone hl g1 g9 (hk.mono (by lia))).mono λz S6 z9=>?_;obtain ⟨k6,L,e1,hLG,hLl⟩:=z9;subst e1;left;refine (hr gs L S6 hg g9 (Lb hLG hLl) (HF hg g9 hLG hLl)).mono λz S7 z9=>?_;obtain ⟨e1,G7⟩:=z9;subst e1;left;exact ⟨S7,_,Xb k6 G7,rfl⟩
 ·rintro t ⟨S',e4,hk,rfl⟩;left;refine (hsw _).mono λq S8 z9=>?_;obtain ⟨_,e1⟩:=z9;subst e1;left;refine NE (Uu hg hsd) (by decide) ?_;rfl
end LW
set_option maxHeartbeats 4000000
namespace F2
open PySem L2 PySem.Spec PySem.W
theorem QO {k:Kd}{P:Program}{w:World}{K:PySem.W.Frag}{mg:Str->Option Value}{base:Heap}{n:Nat}{fa:Addr}{fd:FuncData}{ps:List Str}:okK k P w K mg base n fa fd ps (λ_ _=>none):=by
 cases k <;> exact ⟨λvs H Q E h=>(by obtain ⟨c,ds,S,_,_,r,S',e,_⟩:=h;cases e),λA' outer s H args us vs Q E _ _ _ _ h=>(by obtain ⟨c,ds,S,_,_,r,S',e,_⟩:=h;cases e)⟩
theorem us0 {n:Nat}:∀{us:List Value},us.length=n + 1->∃a vs,us=a :: vs/\vs.length=n
 | _ :: _,h=>⟨_,_,rfl,Nat.succ.inj h⟩
variable {us:List Value}
theorem us1 (h:us.length=1):∃a,us=[a]:=by
 obtain ⟨a,vs,rfl,q⟩:=us0 h;exact ⟨a,by rw [List.eq_nil_of_length_eq_zero q]⟩
theorem us2 (h:us.length=2):∃a b,us=[a,b]:=by
 obtain ⟨_,vs,rfl,q⟩:=us0 h;obtain ⟨_,rfl⟩:=us1 q;exact ⟨_,_,rfl⟩
theorem us3 (h:us.length=3):∃a b c,us=[a,b,c]:=by
 obtain ⟨_,vs,rfl,q⟩:=us0 h;obtain ⟨_,_,rfl⟩:=us2 q;exact ⟨_,_,_,rfl⟩
theorem us4 (h:us.length=4):∃a b c d,us=[a,b,c,d]:=by
 obtain ⟨_,vs,rfl,q⟩:=us0 h;obtain ⟨_,_,_,rfl⟩:=us3 q;exact ⟨_,_,_,_,rfl⟩
theorem us5 (h:us.length=5):∃a b c d e,us=[a,b,c,d,e]:=by
 obtain ⟨_,vs,rfl,q⟩:=us0 h;obtain ⟨_,_,_,_,rfl⟩:=us4 q;exact ⟨_,_,_,_,_,rfl⟩
theorem us6 (h:us.length=6):∃a b c d e f,us=[a,b,c,d,e,f]:=by
 obtain ⟨_,vs,rfl,q⟩:=us0 h;obtain ⟨_,_,_,_,_,rfl⟩:=us5 q;exact ⟨_,_,_,_,_,_,rfl⟩
theorem us7 (h:us.length=7):∃a b c d e f g,us=[a,b,c,d,e,f,g]:=by
 obtain ⟨_,vs,rfl,q⟩:=us0 h;obtain ⟨_,_,_,_,_,_,rfl⟩:=us6 q;exact ⟨_,_,_,_,_,_,_,rfl⟩
end F2
namespace K67
open PySem L2 F2 LW
inductive Fx where
 | B9 | AG | Dz | B8 | CO | Ct | Cu | BW | BO | Cg | Bx | Co | Dq | AZ | By | Be | CP | Bn | BH | BE | A1 | AY | Bs | Bt | Cr | A6 | BJ | Bd | A4 | B7 | BU | Cl | Cs | BV | Br | BM | law_
noncomputable def top (i:Nat):Stmt:=PySem.Challenge.pw_wireparley_k67_wires_beside.main.body.getD i (.Pass ⟨0,0,0,0⟩)
noncomputable abbrev nm:Fx->Str
 | .B9=>"is_number"
 | .AG=>"is_number_within"
 | .Dz=>"fits"
 | .B8=>"fits_text"
 | .CO=>"is_sign"
 | .Ct=>"fits_list"
 | .Cu=>"fits_pair"
 | .BW=>"fits_choice"
 | .BO=>"state_next"
 | .Cg=>"place_said"
 | .Bx=>"place_named"
 | .Co=>"words_of"
 | .Dq=>"is_end"
 | .AZ=>"fitting_bytes"
 | .By=>"width_up_to"
 | .Be=>"number_bytes"
 | .CP=>"leading"
 | .Bn=>"message_bytes"
 | .BH=>"wires_beside"
 | .BE=>"place_beside"
 | .A1=>"_law_state"
 | .AY=>"_law_draw"
 | .Bs=>"_law_shape"
 | .Bt=>"_law_value"
 | .Cr=>"_law_many"
 | .A6=>"_law_bytes"
 | .BJ=>"_law_fits"
 | .Bd=>"_law_grammar"
 | .A4=>"_law_grammars"
 | .B7=>"_law_said"
 | .BU=>"_law_copies"
 | .Cl=>"_law_due"
 | .Cs=>"_law_told"
 | .BV=>"_law_spoilt"
 | .Br=>"_law_kinds"
 | .BM=>"_law_right"
 | .law_=>"law"
abbrev st:Fx->Stmt
 | .B9=>top 13
 | .AG=>top 14
 | .Dz=>top 15
 | .B8=>top 16
 | .CO=>top 17
 | .Ct=>top 18
 | .Cu=>top 19
 | .BW=>top 20
 | .BO=>top 22
 | .Cg=>top 23
 | .Bx=>top 24
 | .Co=>top 25
 | .Dq=>top 26
 | .AZ=>top 28
 | .By=>top 29
 | .Be=>top 30
 | .CP=>top 31
 | .Bn=>top 33
 | .BH=>top 35
 | .BE=>top 36
 | .A1=>top 38
 | .AY=>top 39
 | .Bs=>top 40
 | .Bt=>top 41
 | .Cr=>top 42
 | .A6=>top 43
 | .BJ=>top 44
 | .Bd=>top 45
 | .A4=>top 46
 | .B7=>top 47
 | .BU=>top 48
 | .Cl=>top 49
 | .Cs=>top 50
 | .BV=>top 51
 | .Br=>top 52
 | .BM=>top 53
 | .law_=>top 54
noncomputable abbrev ps:Fx->List Str
 | .B9=>["thing"]
 | .AG=>["thing", "low", "high"]
 | .Dz=>["s", "thing"]
 | .B8=>["s", "thing"]
 | .CO=>["number"]
 | .Ct=>["s", "thing"]
 | .Cu=>["s", "thing"]
 | .BW=>["s", "thing"]
 | .BO=>["g", "step"]
 | .Cg=>["state", "thing"]
 | .Bx=>["state", "thing"]
 | .Co=>["state"]
 | .Dq=>["state"]
 | .AZ=>["s", "value"]
 | .By=>["most"]
 | .Be=>["number", "width"]
 | .CP=>["number", "cut"]
 | .Bn=>["state", "place", "value"]
 | .BH=>["grammars", "said"]
 | .BE=>["grammars", "states", "thing"]
 | .A1=>["script", "k"]
 | .AY=>["state", "many"]
 | .Bs=>["state", "deep"]
 | .Bt=>["state", "s"]
 | .Cr=>["span"]
 | .A6=>["s", "value"]
 | .BJ=>["s", "thing"]
 | .Bd=>["script", "start", "many"]
 | .A4=>["script"]
 | .B7=>["script", "grammars", "start"]
 | .BU=>["grammars"]
 | .Cl=>["grammars", "said"]
 | .Cs=>["grammars", "said"]
 | .BV=>["said", "many", "state"]
 | .Br=>["thing"]
 | .BM=>["grammars", "said"]
 | .law_=>["script"]
noncomputable abbrev ns:Fx->List Str
 | .B9=>["thing"]
 | .AG=>["thing", "low", "high"]
 | .Dz=>["s", "thing", "kind"]
 | .B8=>["s", "thing", "sign"]
 | .CO=>["number"]
 | .Ct=>["s", "thing", "part"]
 | .Cu=>["s", "thing"]
 | .BW=>["s", "thing"]
 | .BO=>["g", "step"]
 | .Cg=>["state", "thing", "place"]
 | .Bx=>["state", "thing", "words", "place"]
 | .Co=>["state"]
 | .Dq=>["state"]
 | .AZ=>["s", "value", "kind", "row", "thing"]
 | .By=>["most"]
 | .Be=>["number", "width"]
 | .CP=>["number", "cut"]
 | .Bn=>["state", "place", "value"]
 | .BH=>["grammars", "said", "wires", "states", "number", "place", "k", "state"]
 | .BE=>["grammars", "states", "thing", "k"]
 | .A1=>["script", "k", "rest"]
 | .AY=>["state", "many", "found", "x"]
 | .Bs=>["state", "deep", "kind", "low", "inner"]
 | .Bt=>["state", "s", "kind", "many", "signs", "k"]
 | .Cr=>["span", "many"]
 | .A6=>["s", "value", "kind", "rest", "found", "k", "one"]
 | .BJ=>["s", "thing", "kind"]
 | .Bd=>["script", "start", "many", "names", "g", "h", "state", "side", "off", "words", "k", "then"]
 | .A4=>["script", "state", "many", "room"]
 | .B7=>["script", "grammars", "start", "here", "said", "room", "k", "state", "number", "side", "words", "name", "shape", "then", "value"]
 | .BU=>["grammars"]
 | .Cl=>["grammars", "said", "here", "wires", "number", "one", "found", "place", "word"]
 | .Cs=>["grammars", "said", "caught", "found", "e", "others"]
 | .BV=>["said", "many", "state", "at", "one", "side", "some", "odds", "kind"]
 | .Br=>["thing"]
 | .BM=>["grammars", "said", "due", "handed", "found"]
 | .law_=>["script", "grammars", "said", "state", "k"]
def body (Φ:Fx->Fn):Fx->Fn
 | .B9=>fnOf 1 1 (Fi)
 | .AG=>fnOf 3 3 (CT (Φ .B9))
 | .Dz=>fnOf 2 3 (K1 (Φ .BW) (Φ .Cu) (Φ .Ct) (Φ .B8) (Φ .AG))
 | .B8=>fnOf 2 3 (Fh (Φ .CO))
 | .CO=>fnOf 1 1 (Gv)
 | .Ct=>fnOf 2 3 (Ff (Φ .Dz))
 | .Cu=>fnOf 2 2 (Fg (Φ .Dz))
 | .BW=>fnOf 2 2 (Ej (Φ .Dz) (Φ .AG))
 | .BO=>fnOf 2 2 (EO)
 | .Cg=>fnOf 2 3 (EN (Φ .Dz) (Φ .Bx))
 | .Bx=>fnOf 2 4 (Cy (Φ .Co))
 | .Co=>fnOf 1 1 (FS (Φ .Dq))
 | .Dq=>fnOf 1 1 (HA)
 | .AZ=>fnOf 2 5 (DG (Φ .AZ) (Φ .By) (Φ .Be))
 | .By=>fnOf 1 1 (Ek)
 | .Be=>fnOf 2 2 (DW (Φ .CP))
 | .CP=>fnOf 2 2 (Gy)
 | .Bn=>fnOf 3 3 (DH (Φ .AZ))
 | .BH=>fnOf 2 8 (DY (Φ .BO) (Φ .Bn) (Φ .BE))
 | .BE=>fnOf 3 4 (DX (Φ .Cg) (Φ .AG))
 | .A1=>fnOf 2 3 (Cw)
 | .AY=>fnOf 2 4 (CI)
 | .Bs=>fnOf 2 5 (AV (Φ .AY) (Φ .Bs))
 | .Bt=>fnOf 2 6 (AW (Φ .Bt) (Φ .AY))
 | .Cr=>fnOf 1 2 (EM)
 | .A6=>fnOf 2 7 (Di (Φ .A6) (Φ .Cr))
 | .BJ=>fnOf 2 3 (DC (Φ .BJ))
 | .Bd=>fnOf 3 12 (CS (Φ .AY) (Φ .Bs) (Φ .A1))
 | .A4=>fnOf 1 4 (Dj (Φ .AY) (Φ .Bd) (Φ .A1))
 | .B7=>fnOf 3 15 (DE (Φ .A6) (Φ .Bt) (Φ .AY) (Φ .A1))
 | .BU=>fnOf 1 1 (DU)
 | .Cl=>fnOf 2 9 (DV (Φ .A6) (Φ .BJ))
 | .Cs=>fnOf 2 6 (DF (Φ .BH))
 | .BV=>fnOf 3 9 (C4 (Φ .AY))
 | .Br=>fnOf 1 1 (A2 (Φ .Br))
 | .BM=>fnOf 2 5 (Dk (Φ .Br) (Φ .Cs) (Φ .BU) (Φ .Cl))
 | .law_=>fnOf 1 5 (Gx (Φ .B7) (Φ .BV) (Φ .BM) (Φ .A1) (Φ .A4))
def run:Nat->Fx->Fn
 | 0=>λ_ _ _=>none
 | n + 1=>body (run n)
structure Md (K:PySem.W.Frag)(mg:Str->Option Value)(A:Fx->Addr)(fd:Fx->FuncData):Prop where
 fn:∀x,Fun K (nm x) (nm x) (st x) (A x) (fd x)
 mgs:∀x,mg (nm x)=some (.ref (A x))
 bd:∀x,Binds K (fd x) (ps x) []
 aI:mg "ValueError" = none
 aN:mg "bool" = none
 aH:mg "enumerate" = none
 aO:mg "int" = none
 a9:mg "isinstance" = none
 aS:mg "len" = none
 aL:mg "list" = none
 aR:mg "min" = none
 aU:mg "ord" = none
 aJ:mg "range" = none
 aT:mg "str" = none
 aK:mg "tuple" = none
 aF:∃tk,mg "FIRST_SIGN" = some (.int 32 tk)
 aG:∃tk,mg "LAST_SIGN" = some (.int 126 tk)
 aE:∃tk,mg "PERCENT_SIGN" = some (.int 37 tk)
 xm:∃(P:Addr) (ca:Str->Addr),XM K mg P ca/\XF1 K (ca "NoTalk") P "NoTalk.__init__" (Eb (top 5) 0)/\∀n∈([]:List Str),XN0 K (ca n)
noncomputable abbrev kd:Fx->Kd
 | .B9=>.pl
 | .AG=>.pl
 | .Dz=>.pl
 | .B8=>.pl
 | .CO=>.pl
 | .Ct=>.pl
 | .Cu=>.pl
 | .BW=>.pl
 | .BO=>.pl
 | .Cg=>.pl
 | .Bx=>.pl
 | .Co=>.pl
 | .Dq=>.pl
 | .AZ=>.fr
 | .By=>.pl
 | .Be=>.fr
 | .CP=>.pl
 | .Bn=>.pl
 | .BH=>.ex
 | .BE=>.pl
 | .A1=>.pl
 | .AY=>.pl
 | .Bs=>.pl
 | .Bt=>.pl
 | .Cr=>.pl
 | .A6=>.pl
 | .BJ=>.pl
 | .Bd=>.pl
 | .A4=>.pl
 | .B7=>.pl
 | .BU=>.pl
 | .Cl=>.pl
 | .Cs=>.pl
 | .BV=>.pl
 | .Br=>.pl
 | .BM=>.pl
 | .law_=>.pl
theorem X0:FnScope ["self", "at"] ["self", "at"] (Ax (Eb (top 5) 0)):=⟨rfl,rfl,rfl,by decide +kernel,rfl,by decide +kernel,by decide +kernel⟩
section
variable {P:Program}{w:World}{K:PySem.W.Frag}{mg:Str->Option Value}{base:Heap}{A:Fx->Addr}{fd:Fx->FuncData}{n:Nat}
theorem La {a:Kd}(k:Kd){P:Program}{w:World}{K:PySem.W.Frag}{mg:Str->Option Value}{base:Heap}{n:Nat}{fa:Addr}{fd:FuncData}{ps:List Str}{f:Fn}(h:okK a P w K mg base n fa fd ps f)(e:a=k):okK k P w K mg base n fa fd ps f:=e ▸ h
section
variable {X:Cx}{A:Fx->Addr}{fd:Fx->FuncData}{n k:Nat}{x:Fx}{s:Str}{e:Expr}{es:List Expr}{f:M (List D)}{p pos:Pos}{E:L2.St->XK}
theorem cP (M:Md X.K X.mg A fd)(ih:∀x,okK (kd x) X.prog X.w X.K X.mg X.base k (A x) (fd x) (ps x) (run n x))(hr:Room k X.A)(ha:PA X (e :: es) (RA X.K f))(hk:kd x = .pl)(hs:nm x=s)(hg:Gl X s)(h1:AO e=false)(h2:Bb es=true)(hd:(s == ("__debug__" : Str))=false):PE X (.Call (.Name s p) (e :: es) [] pos) (RE X.K (Ag (run n x) f)):=by subst hs;exact Ql (La .pl (ih x) hk) hr hg (M.mgs x) (Fun.kp (M.fn x)) (M.bd x) ha hd h1 h2
theorem fF (M:Md X.K X.mg A fd)(ih:∀x,okK (kd x) X.prog X.w X.K X.mg X.base k (A x) (fd x) (ps x) (run n x))(hr:Room k X.A)(ha:PA X (e :: es) (RA X.K f))(hk:kd x = .fr)(hs:nm x=s)(hg:Gl X s)(h1:AO e=false)(h2:Bb es=true)(hd:(s == ("__debug__" : Str))=false):PE X (.Call (.Name s p) (e :: es) [] pos) (RF X.K (C9 (run n x) f)):=by subst hs;exact Qo (La .fr (ih x) hk) hr hg (M.mgs x) (Fun.kp (M.fn x)) (M.bd x) ha hd h1 h2
theorem xex (M:Md X.K X.mg A fd)(ih:∀x,okK (kd x) X.prog X.w X.K X.mg X.base k (A x) (fd x) (ps x) (run n x))(hr:Room k X.A)(hp:Ey (CX1 true X.prog X.w) X E)(ha:PA X (e :: es) (RA X.K f))(hk:kd x = .ex)(hs:nm x=s)(hg:Gl X s)(h1:AO e=false)(h2:Bb es=true)(hd:(s == ("__debug__" : Str))=false):PE X (.Call (.Name s p) (e :: es) [] pos) (RX X.K E (Ag (run n x) f)):=by subst hs;exact Tp (La .ex (ih x) hk) hr hg (M.mgs x) (Fun.kp (M.fn x)) (M.bd x) hp ha hd h1 h2
end
seal PA PE PSs PS PT PW PG PI PIf PO PGs PPf PH
theorem sc (x:Fx):FnScope (ns x) (ps x) (Ax (st x)):=by
 cases x <;> exact ⟨rfl,rfl,rfl,by decide +kernel,rfl,by decide +kernel,by decide +kernel⟩
local macro_rules | `(tactic| clear 30 $t)=>`(tactic| with_reducible refine (?_ : $t))
theorem step (M:Md K mg A fd)(ih:∀x,okK (kd x) P w K mg base (n + 2) (A x) (fd x) (ps x) (run n x))(y:Fx):okK (kd y) P w K mg base (n + 2 + 1) (A y) (fd y) (ps y) (run (n + 1) y):=by
 obtain ⟨_,aF⟩:=M.aF;obtain ⟨_,aG⟩:=M.aG;obtain ⟨_,aE⟩:=M.aE;obtain ⟨P',ca,x,xt,x0⟩:=M.xm;have xn:XN1 P w K mg base (ca "NoTalk") P':=Qy rfl X0 rfl rfl xt;have sy:=sc y;have nd:=sy.nd;have mf:=M.fn y
 cases y <;> first | (clear 30 (okK .pl ..);refine W3 (g:=fnOf _ _ _) rfl (VO rfl rfl mf sy (λcdv A' outer s H E hr=>?_))) | (clear 30 (okK .ex ..);refine Uw (g:=fnOf _ _ _) rfl (Tg rfl rfl mf sy (λcdv A' outer s H E hr hp hq ho=>?_))) | (clear 30 (okK .fr ..);refine Uv (g:=fnOf _ _ _) rfl (Tf rfl rfl mf sy (λcdv A' outer s H E hr=>?_)))
 all_goals repeat' first
  | (clear 30 (PA ..);first
    | refine @KF _ _ _ _ _ ?_ ?_ rfl
    | exact Vy
    | refine @KF _ _ _ _ _ Oh ?_ rfl)
  | (clear 30 (PE ..);first
    | (clear 30 (PE _ (.Name ..) ..);first
      | (clear 30 (PE _ _ (RE _ (Ab _)));exact (VI _))
      | (clear 30 (PE _ (.Name _ _) (RE _ (fC (.ty _))));exact (Io rfl M.aK Kr))
      | (clear 30 (PE _ (.Name _ _) (RE _ (fC (.ty _))));exact (Io rfl M.aN SJ))
      | (clear 30 (PE _ (.Name _ _) (RE _ (fC (.ty _))));exact (Io rfl M.aT Vp))
      | (clear 30 (PE _ (.Name _ _) (RE _ (fC (.ty _))));exact (Io rfl M.aL LV))
      | (clear 30 (PE _ (.Name _ _) (RE _ (fC (.ty _))));exact (Io rfl M.aO NY))
      | (clear 30 (PE _ (.Name _ _) (RE _ (fC (.int _))));exact (Jb rfl aF))
      | (clear 30 (PE _ (.Name _ _) (RE _ (fC (.int _))));exact (Jb rfl aG))
      | (clear 30 (PE _ (.Name _ _) (RE _ (fC (.int _))));exact (Jb rfl aE)))
    | (clear 30 (PE _ (.Constant ..) ..);first
      | (clear 30 (PE _ _ (RE _ (fC (.int _))));exact VB)
      | (clear 30 (PE _ _ (RE _ (fC (.str _))));exact VH)
      | (clear 30 (PE _ _ (RE _ (fC .non)));exact VC)
      | (clear 30 (PE _ _ (RE _ (fC (.bl _))));exact Xx))
    | (clear 30 (PE _ (.Subscript ..) ..);first
      | (clear 30 (PE _ _ (RE _ (Ac _ _ ixD)));refine R0 V3 W7 ?_ ?_ (λ_ _=>rfl))
      | (clear 30 (PE _ _ (RE _ (fSl _ _ _ Bf)));refine Qn sl3 UL ?_ ?_ ?_)
      | (clear 30 (PE _ _ (RE _ (Ac _ _ BI)));refine R0 V1 Po ?_ ?_ (λ_ _=>rfl))
      | (clear 30 (PE _ (.Subscript (.Name _ _) _ _) (RE _ (B6 _ _)));refine KH 3 ?_ (λ_ _=>rfl))
      | (clear 30 (PE _ (.Subscript (.Name _ _) _ _) (RE _ (B6 _ _)));refine KH 2 ?_ (λ_ _=>rfl)))
    | (clear 30 (PE _ (.Call ..) ..);first
      | (clear 30 (PE _ _ (RE _ (Ag (run _ _) _)));refine @cP _ _ _ _ _ _ _ _ _ _ _ _ M ih hr ?_ (by rfl) (by rfl) (by rfl) (by rfl) (by rfl) (by decide))
      | (clear 30 (PE _ _ (RE _ (fB _ AA)));refine GY P9 UD rfl M.aS Vm ?_)
      | (clear 30 (PE _ _ (RE _ (fB _ AI)));refine GY Kx MB rfl M.a9 B2 ?_)
      | (clear 30 (PE _ _ (RF _ (C9 (run _ _) _)));refine @fF _ _ _ _ _ _ _ _ _ _ _ _ M ih hr ?_ (by rfl) (by rfl) (by rfl) (by rfl) (by rfl) (by decide))
      | (clear 30 (PE _ _ (RE _ (fB _ El)));refine GY (N3 rfl) UF rfl M.aR Vn ?_)
      | (clear 30 (PE _ _ (RE _ (fB _ Fj)));refine GY Qa UI rfl M.aU Vo ?_)
      | (clear 30 (PE _ _ (RE _ (fB _ FP)));refine RZ N0 UC rfl M.aO NY ?_)
      | (clear 30 (PE _ _ (RF _ (fBF _ Ei)));refine Xz Ky UE rfl M.aL LV ?_)
      | (clear 30 (PE _ _ (RE _ (objM B1 _ _)));refine Of ?_ ?_)
      | (clear 30 (PE _ _ (RE _ (fUn _ Ia)));refine Og ?_)
      | (clear 30 (PE _ _ (RE _ (objM Eg _ _)));refine Oi ?_ ?_)
      | (clear 30 (PE _ _ (RE _ (fB _ Ju)));refine RZ JV UN rfl M.aK Kr ?_)
      | (clear 30 (PE _ _ (RE _ (joinM _ _)));refine SY ?_ ?_)
      | (clear 30 (PE _ _ (RX _ _ (Ag (run _ _) _)));refine @xex _ _ _ _ _ _ _ _ _ _ _ _ _ M ih hr hp ?_ (by rfl) (by rfl) (by rfl) (by rfl) (by rfl) (by decide))
      | (clear 30 (PE _ _ (RE _ (bnd _ (G0 _))));refine SV x rfl M.a9 B2 (DR (n:="Broken") x (by decide) rfl (DR (n:="NoName") x (by decide) rfl (DR (n:="NoRow") x (by decide) rfl (DR (n:="NoText") x (by decide) rfl (DR (n:="NoValue") x (by decide) rfl (DR (n:="Short") x (by decide) rfl SS)))))) ?_)
      | (clear 30 (PE _ _ (RE _ (bnd _ (Fe _))));refine SW x rfl M.a9 B2 rfl M.aI JT ?_)
      | (clear 30 (PE _ _ (RE _ (bnd _ (Fe ("NoTalk" : Str)))));refine SX (n:="NoTalk") x (by decide) rfl M.a9 B2 rfl ?_)
      | (clear 30 (PE _ _ (RE _ (fB _ Je)));refine GY N1 Rf rfl M.a9 B2 ?_)
      | (clear 30 (PE _ _ (RE _ (fB _ Jf)));refine GY Kx Rg rfl M.a9 B2 ?_))
    | (clear 30 (PE _ (.List ..) ..);first
      | refine @VJ _ _ _ _ ?_)
    | (clear 30 (PE _ (.BinOp ..) ..);first
      | (clear 30 (PE _ _ (RE _ (Ac _ _ Aq)));refine Es T1 Rb ?_ ?_)
      | (clear 30 (PE _ _ (RE _ (Ac _ _ BG)));refine Es Wv UM ?_ ?_)
      | (clear 30 (PE _ _ (RE _ (Ac _ _ C5)));refine Es Wp UG ?_ ?_)
      | (clear 30 (PE _ _ (RE _ (Ac _ _ Ep)));refine Es T4 Re ?_ ?_)
      | (clear 30 (PE _ _ (RE _ (Ac _ _ ER)));refine Es T5 Rh ?_ ?_)
      | (clear 30 (PE _ _ (RE _ (Ac _ _ GH)));refine Es Ws UJ ?_ ?_)
      | (clear 30 (PE _ (.BinOp _ .Add _ _) (RF _ _));refine M2 op_cat Rc ?_ ?_)
      | (clear 30 (PE _ _ (RE _ (Ac _ _ HC)));refine Es T7 Ri ?_ ?_)
      | (clear 30 (PE _ _ (RE _ (Ac _ _ GX)));refine Es QQ Pp ?_ ?_)
      | (clear 30 (PE _ (.BinOp _ .Mult _ _) (RF _ _));refine M2 Wt Rj ?_ ?_)
      | (clear 30 (PE _ _ (RE _ (Ac _ _ Lw)));refine Es Wu UK ?_ ?_)
      | (clear 30 (PE _ (.BinOp _ .Add _ _) (RF _ _));refine M2 op_cat Pn ?_ ?_))
    | (clear 30 (PE _ (.Tuple ..) ..);first
      | (clear 30 (PE _ (.Tuple _ _ _) (RE _ (Az _)));refine @Oj _ _ _ _ _ ?_)
      | (clear 30 (PE _ (.Tuple _ _ _) (RE _ (Az _)));refine Oj ?_))
    | (clear 30 (PE _ (.BoolOp ..) ..);first
      | (clear 30 (PE _ _ (RE _ (CH _ _)));refine Vz ?_ ?_)
      | (clear 30 (PE _ _ (RE _ _));refine VG ?_)
      | (clear 30 (PE _ _ (RE _ (I9 _ _)));refine Xy ?_ ?_))
    | (clear 30 (PE _ (.Compare ..) ..);first
      | (clear 30 (PE _ (.Compare _ [.Eq] [_] _) (RE _ (Ac _ _ (eqS _))));refine Fp (Ld hr.units) (Fz (g:=id)) ?_ ?_ (Ca _))
      | (clear 30 (PE _ (.Compare _ [.LtE,.LtE] [_,_] _) (RE _ (Bw _ _ _ _ _)));refine KG ET ET D5 D5 ?_ ?_ ?_)
      | (clear 30 (PE _ _ (RE _ (Ac _ _ isC)));refine Fp O1 Pq ?_ ?_ (Ca _))
      | (clear 30 (PE _ _ (RE _ (Ac _ _ geA)));refine Fp Wo UB ?_ ?_ (Ca _))
      | (clear 30 (PE _ (.Compare _ [.NotEq] [_] _) (RE _ (Ac _ _ (eqS _))));refine Fp (Lf hr.units) (Fz (g:=λb=>!b)) ?_ ?_ (Ca _))
      | (clear 30 (PE _ _ (RE _ (Ac _ _ gtA)));refine Fp OZ MA ?_ ?_ (Ca _))
      | (clear 30 (PE _ (.Compare _ [.LtE,.Lt] [_,_] _) (RE _ (Bw _ _ _ _ _)));refine KG ET Le D5 Jr ?_ ?_ ?_)
      | (clear 30 (PE _ _ (RE _ (Ac _ _ (eqA _))));refine Fp (Wm hr.units) (Uy (b:=true)) ?_ ?_ (Ca _)))
    | (clear 30 (PE _ (.ListComp ..) ..);first
      | (clear 30 (PE _ _ (RF _ (AB _ [4] _ _ _ _)));refine B3 (B5 ["odd"] [(4 , "one")] rfl rfl rfl rfl rfl) rfl ?_ (λ_ _ _ _ _=>?_) (λ_ _ _ _ _=>?_) (λ_ _ _ _ _=>?_))
      | (clear 30 (PE _ (.ListComp _ [⟨(.Name ("sign" : Str) _),_,_,0⟩] _ _) (RF _ (AB _ [] _ _ _ _)));refine B3 (B5 ["sign"] [] rfl rfl rfl rfl rfl) rfl ?_ (λ_ _ _ _ _=>?_) (λ_ _ _ _ _=>?_) (λ_ _ _ _ _=>?_))
      | (clear 30 (PE _ (.ListComp _ [⟨(.Name ("g" : Str) _),_,_,0⟩] _ _) (RF _ (AB _ [] _ _ _ _)));refine B3 (B5 ["g"] [] rfl rfl rfl rfl rfl) rfl ?_ (λ_ _ _ _ _=>?_) (λ_ _ _ _ _=>?_) (λ_ _ _ _ _=>?_))
      | (clear 30 (PE _ (.ListComp _ [⟨(.Name ("k" : Str) _),_,_,0⟩] _ _) (RF _ (AB _ [0,1] _ _ _ _)));refine B3 (B5 ["k"] [(0 , "number") ,(1 , "width")] rfl rfl rfl rfl rfl) rfl ?_ (λ_ _ _ _ _=>?_) (λ_ _ _ _ _=>?_) (λ_ _ _ _ _=>?_))
      | (clear 30 (PE _ (.ListComp _ [⟨(.Name ("k" : Str) _),_,_,0⟩] _ _) (RF _ (AB _ [0,1] _ _ _ _)));refine B3 (B5 ["k"] [(0 , "state") ,(1 , "deep")] rfl rfl rfl rfl rfl) rfl ?_ (λ_ _ _ _ _=>?_) (λ_ _ _ _ _=>?_) (λ_ _ _ _ _=>?_))
      | (clear 30 (PE _ _ (RF _ (AB _ [4,0] _ _ _ _)));refine B3 (B5 ["k"] [(4 , "signs") ,(0 , "state")] rfl rfl rfl rfl rfl) rfl ?_ (λ_ _ _ _ _=>?_) (λ_ _ _ _ _=>?_) (λ_ _ _ _ _=>?_))
      | (clear 30 (PE _ (.ListComp _ [⟨(.Name ("k" : Str) _),_,_,0⟩] _ _) (RF _ (AB _ [0,1] _ _ _ _)));refine B3 (B5 ["k"] [(0 , "state") ,(1 , "s")] rfl rfl rfl rfl rfl) rfl ?_ (λ_ _ _ _ _=>?_) (λ_ _ _ _ _=>?_) (λ_ _ _ _ _=>?_))
      | (clear 30 (PE _ _ (RF _ (AB _ [0] _ _ _ _)));refine B3 (B5 ["one"] [(0 , "s")] rfl rfl rfl rfl rfl) rfl ?_ (λ_ _ _ _ _=>?_) (λ_ _ _ _ _=>?_) (λ_ _ _ _ _=>?_))
      | (clear 30 (PE _ _ (RF _ (AB _ [0,3,1] _ _ _ _)));refine B3 (B5 ["k"] [(0 , "script") ,(3 , "room") ,(1 , "state")] rfl rfl rfl rfl rfl) rfl ?_ (λ_ _ _ _ _=>?_) (λ_ _ _ _ _=>?_) (λ_ _ _ _ _=>?_))
      | (clear 30 (PE _ (.ListComp _ [⟨(.Name ("state" : Str) _),_,_,0⟩] _ _) (RF _ (AB _ [] _ _ _ _)));refine B3 (B5 ["state"] [] rfl rfl rfl rfl rfl) rfl ?_ (λ_ _ _ _ _=>?_) (λ_ _ _ _ _=>?_) (λ_ _ _ _ _=>?_))
      | (clear 30 (PE _ (.ListComp _ [⟨(.Name ("one" : Str) _),_,_,0⟩] _ _) (RF _ (AB _ [] _ _ _ _)));refine B3 (B5 ["one"] [] rfl rfl rfl rfl rfl) rfl ?_ (λ_ _ _ _ _=>?_) (λ_ _ _ _ _=>?_) (λ_ _ _ _ _=>?_))
      | (clear 30 (PE _ (.ListComp _ [⟨(.Name ("x" : Str) _),_,_,0⟩] _ _) (RF _ (AB _ [] _ _ _ _)));refine B3 (B5 ["x"] [] rfl rfl rfl rfl rfl) rfl ?_ (λ_ _ _ _ _=>?_) (λ_ _ _ _ _=>?_) (λ_ _ _ _ _=>?_)))
    | (clear 30 (PE _ (.UnaryOp ..) ..);first
      | (clear 30 (PE _ _ (RE _ (E6 _)));refine VD ?_)
      | (clear 30 (PE _ (.UnaryOp _ _ _) (RE _ (fUn _ Gz)));refine R1 PD MC ?_)
      | (clear 30 (PE _ (.UnaryOp _ _ _) (RE _ (fUn _ Gz)));refine R1 PD MC ?_))
    | (clear 30 (PE _ (.Dict ..) ..);first
      | (clear 30 (PE _ _ (RE _ Hy));exact Oh)
      | refine SU ?_)
    | (clear 30 (PE _ (.IfExp ..) ..);first
      | refine Qm ?_ ?_ ?_)
    | (clear 30 (PE _ (.Attribute ..) ..);first
      | refine VA x x.na ?_ rfl)
    | (clear 30 (PE _ _ (RE _ (Ak _)));refine SZ ?_)
    | (clear 30 (PE _ _ (RE _ (EH _)));refine VF ?_))
  | (clear 30 (PSs ..);first
    | refine @Qu _ _ _ _ _ _ ?_ ?_
    | refine @Tn _ _ _ _ ?_
    | exact Tm
    | refine Qv ?_)
  | (clear 30 (PS ..);first
    | (clear 30 (PS _ (.Return ..) ..);first
      | (clear 30 (PS _ _ (RSg _ (μR _) (Am _)));refine Ox ?_)
      | (clear 30 (PS _ _ (RSg _ (μF _) (FY _)));refine Ma ?_)
      | (clear 30 (PS _ _ (RSg _ (μF _) (Fy _)));exact (Oy _))
      | (clear 30 (PS _ _ (RSg _ (μX _ _) (Am (nxD _))));refine Mb ?_))
    | (clear 30 (PS _ (.If ..) ..);first
      | refine XD ?_ ?_ ?_)
    | (clear 30 (PS _ (.Assign ..) ..);first
      | (clear 30 (PS _ _ (RSg _ _ (Ao _ (EH (AB _ [] _ _ _ _)))));refine Tk (B5 ["g"] [] rfl rfl rfl rfl rfl) rfl nd rfl rfl ?_ (λ_ _ _ _ _=>?_) (λ_ _ _ _ _=>?_) (λ_ _ _ _ _=>?_))
      | (clear 30 (PS _ (.Assign [.Name _ _] _ _) (RSg _ _ (Ao _ _)));refine KQ nd rfl (.inl rfl) ?_)
      | (clear 30 (PS _ _ (RSg _ _ (Cd _ _)));refine VP ?_ ?_)
      | (clear 30 (PS _ _ (RSg _ _ (D2 _ _)));refine VQ nd rfl (.inl rfl) ?_)
      | (clear 30 (PS _ (.Assign [.Name _ _] _ _) (RSg _ _ (Ao _ _)));refine KQ nd rfl (.inr rfl) ?_)
      | (clear 30 (PS _ (.Assign [.Name _ _] _ _) (RSg _ _ (Ao _ _)));refine KQ nd rfl (.inr rfl) ?_)
      | (clear 30 (PS _ _ (RSg _ _ (Ao _ (Ak (AB _ [5] _ _ _ _)))));refine Qs (B5 ["row"] [(5 , "one")] rfl rfl rfl rfl rfl) rfl nd rfl rfl ?_ (λ_ _ _ _ _=>?_) (λ_ _ _ _ _=>?_) (λ_ _ _ _ _=>?_))
      | (clear 30 (PS _ _ (RSX _ _ (Nw _ _)));refine Tl nd rfl (.inl rfl) ?_))
    | (clear 30 (PS _ (.For ..) ..);first
      | (clear 30 (PS _ (.For _ _ _ [] _) (RSg _ _ (BD (FK _) _ _)));refine L9 PassesOwn.never rfl ?_ ?_ ?_)
      | (clear 30 (PS _ (.For _ _ _ [] _) (RSg _ _ (BD _ _ _)));refine Ou PassesOwn.never rfl ?_ ?_ ?_)
      | (clear 30 (PS _ (.For _ _ _ [] _) (RSg _ _ (BD _ _ _)));refine Ou ho rfl ?_ ?_ ?_)
      | (clear 30 (PS _ (.For _ _ _ [] _) (RSg _ _ (BD _ _ _)));refine L9 PassesOwn.never rfl ?_ ?_ ?_))
    | (clear 30 (PS _ (.Expr ..) ..);first
      | (clear 30 (PS _ _ (RSg _ _ (ownM _ B1 _)));refine M5 _ ?_)
      | (clear 30 (PS _ _ (RSg _ _ (Eo _)));refine L8 ?_)
      | (clear 30 (PS _ _ (RSg _ _ (ownM _ Eg _)));refine M6 _ ?_))
    | (clear 30 (PS _ (.Raise ..) ..);first
      | (clear 30 (PS _ _ (RSg _ (μX _ _) (Ft _ _)));refine XZ (Ov x xn (hr.mono (by omega)) rfl hq rfl ?_)))
    | (clear 30 (PS _ (.While ..) ..);first
      | refine Qt PassesOwn.never ?_ ?_)
    | (clear 30 (PS _ (.Try ..) ..);first
      | (clear 30 (PS _ _ (RSg _ (μR _) (E2 _ _)));refine VR (qx:=true) x Wi rfl rfl (λpn E hp=>?_) ?_))
    | refine Ox ?_
    | refine Ma ?_
    | refine Mb ?_
    | refine L8 ?_)
  | (clear 30 (PT ..);first
    | (clear 30 (PT _ (.Compare ..) ..);first
      | (clear 30 (PT _ (.Compare _ [.Eq] [_] _) (RT _ (Aj (Ac _ _ (eqS _)))));refine DA (Ld hr.units) (Fz (g:=id)) ?_ ?_ (Ca _))
      | (clear 30 (PT _ (.Compare _ [.NotEq] [_] _) (RT _ (Aj (Ac _ _ (eqS _)))));refine DA (Lf hr.units) (Fz (g:=λb=>!b)) ?_ ?_ (Ca _))
      | (clear 30 (PT _ _ (RT _ (Aj (Ac _ _ gtA))));refine DA OZ MA ?_ ?_ (Ca _))
      | (clear 30 (PT _ _ (RT _ (Aj (Ac _ _ (eqO _)))));refine DA (Lf hr.units) (Uz (g:=λb=>!b)) ?_ ?_ (Ca _))
      | (clear 30 (PT _ _ (RT _ (Aj (Ac _ _ isC))));refine DA O1 Pq ?_ ?_ (Ca _))
      | (clear 30 (PT _ _ (RT _ (Aj (Ac _ _ ltA))));refine DA Le Jr ?_ ?_ (Ca _))
      | (clear 30 (PT _ (.Compare _ [.LtE,.LtE] [_,_] _) (RT _ (Aj (Bw _ _ _ _ _))));refine KR ET ET D5 D5 ?_ ?_ ?_)
      | (clear 30 (PT _ _ (RT _ (Aj (Ac _ _ leA))));refine DA ET D5 ?_ ?_ (Ca _))
      | (clear 30 (PT _ (.Compare _ [.LtE,.Lt] [_,_] _) (RT _ (Aj (Bw _ _ _ _ _))));refine KR ET Le D5 Jr ?_ ?_ ?_)
      | (clear 30 (PT _ _ (RT _ (Aj (Ac _ _ eqZ))));refine DA (Wn hr.units) UA ?_ ?_ (Ca _))
      | (clear 30 (PT _ _ (RT _ (Aj (Ac _ _ (inD _)))));refine DA O0 W6 ?_ ?_ (by with_unfolding_all rfl)))
    | (clear 30 (PT _ (.UnaryOp ..) ..);first
      | refine VS ?_)
    | (clear 30 (PT _ (.BoolOp ..) ..);first
      | refine XF ?_)
    | (clear 30 (PT _ _ (RT _ (Aj _)));refine VT ?_))
  | (clear 30 (PW ..);first
    | (clear 30 (PW _ (.BoolOp .Or (_ :: _ :: _) _) (RT _ (fOr _ _)));refine XG ?_ ?_)
    | (clear 30 (PW _ (.BoolOp .Or [_] _) (RT _ _));refine VW ?_)
    | (clear 30 (PW _ (.BoolOp .And (_ :: _ :: _) _) (RT _ (Hx _ _)));refine VU ?_ ?_)
    | (clear 30 (PW _ (.BoolOp .And [_] _) (RT _ _));refine To ?_))
  | (clear 30 (PG ..);first
    | (clear 30 (PG _ (.Name ..) ..);first
      | (clear 30 (PG _ (.Name _ _) (RG _ (Ar _)));exact (Bl nd rfl (.inl rfl)))
      | (clear 30 (PG _ (.Name _ _) (RG _ (Ar _)));exact (Bl (by show List.Nodup [("odd" : Str) ,("one" : Str)] ;decide +kernel) rfl (.inl rfl)))
      | (clear 30 (PG _ (.Name _ _) (RG _ (Ar _)));exact (Bl (by show List.Nodup [("sign" : Str)] ;decide +kernel) rfl (.inl rfl)))
      | (clear 30 (PG _ (.Name _ _) (RG _ (Ar _)));exact (Bl (by show List.Nodup [("g" : Str)] ;decide +kernel) rfl (.inl rfl)))
      | (clear 30 (PG _ (.Name _ _) (RG _ (Ar _)));exact (Bl (by show List.Nodup [("k" : Str) ,("number" : Str) ,("width" : Str)] ;decide +kernel) rfl (.inl rfl)))
      | (clear 30 (PG _ (.Name _ _) (RG _ (Ar _)));exact (Bl (by show List.Nodup [("k" : Str) ,("state" : Str) ,("deep" : Str)] ;decide +kernel) rfl (.inl rfl)))
      | (clear 30 (PG _ (.Name _ _) (RG _ (Ar _)));exact (Bl (by show List.Nodup [("k" : Str) ,("signs" : Str) ,("state" : Str)] ;decide +kernel) rfl (.inl rfl)))
      | (clear 30 (PG _ (.Name _ _) (RG _ (Ar _)));exact (Bl (by show List.Nodup [("k" : Str) ,("state" : Str) ,("s" : Str)] ;decide +kernel) rfl (.inl rfl)))
      | (clear 30 (PG _ (.Name _ _) (RG _ (Ar _)));exact (Bl (by show List.Nodup [("one" : Str) ,("s" : Str)] ;decide +kernel) rfl (.inl rfl)))
      | (clear 30 (PG _ (.Name _ _) (RG _ (Ar _)));exact (Bl (by show List.Nodup [("k" : Str) ,("script" : Str) ,("room" : Str) ,("state" : Str)] ;decide +kernel) rfl (.inl rfl)))
      | (clear 30 (PG _ (.Name _ _) (RG _ (Ar _)));exact (Bl (by show List.Nodup [("state" : Str)] ;decide +kernel) rfl (.inl rfl)))
      | (clear 30 (PG _ (.Name _ _) (RG _ (Ar _)));exact (Bl nd rfl (.inr rfl)))
      | (clear 30 (PG _ (.Name _ _) (RG _ (Ar _)));exact (Bl (by show List.Nodup [("row" : Str) ,("one" : Str)] ;decide +kernel) rfl (.inl rfl)))
      | (clear 30 (PG _ (.Name _ _) (RG _ (Ar _)));exact (Bl (by show List.Nodup [("one" : Str)] ;decide +kernel) rfl (.inl rfl)))
      | (clear 30 (PG _ (.Name _ _) (RG _ (Ar _)));exact (Bl (by show List.Nodup [("x" : Str)] ;decide +kernel) rfl (.inl rfl))))
    | (clear 30 (PG _ (.Tuple ..) ..);first
      | refine XA rfl ?_)
    | (clear 30 (PG _ (.Subscript ..) ..);first
      | (clear 30 (PG _ _ (RG _ (FZ _ _)));refine Om ?_ ?_)
      | (clear 30 (PG _ _ (RG _ (stD _ _)));refine VL ?_ ?_)
      | (clear 30 (PG _ (.Subscript (.Name _ _) _ _) (RG _ (D9 _ _)));refine JH 3 ?_)
      | (clear 30 (PG _ (.Subscript (.Name _ _) _ _) (RG _ (D9 _ _)));refine JH 2 ?_)))
  | (clear 30 (PI ..);first
    | (clear 30 (PI _ _ (.Call ..) ..);first
      | (clear 30 (PI _ _ _ (RI _ (BZ _)));refine M3 rfl M.aJ ?_)
      | (clear 30 (PI _ _ _ (RI _ (E7 _)));refine M4 rfl M.aJ ?_))
    | (clear 30 (PI _ (.Tuple ..) ..);first
      | refine Ta rfl M.aH ?_)
    | (clear 30 (PI _ (.Name ..) ..);first
      | refine Qq rfl M.aH ?_)
    | (clear 30 (PI _ _ _ (RI _ (BT _)));refine VN ?_))
  | (clear 30 (PIf ..);first
    | exact Tb
    | (clear 30 (PIf _ [_] (RT _ _));refine Tc ?_))
  | (clear 30 (PO ..);first
    | refine Ti ?_
    | exact Th)
  | (clear 30 (PGs ..);first
    | refine Qp ?_ ?_
    | exact S9)
  | (clear 30 (PPf ..);first
    | refine Qr ?_ ?_
    | exact Tj)
  | (clear 30 (PH ..);first
    | (clear 30 (PH _ _ (.ExceptHandler (some (.Name _ _)) (some _) (_ :: _) _ :: _) (RH _ _ _ (hAs _ _ _ _)));refine XB x rfl x.pm x.pc (λ_ hn=>x.subP hn) nd rfl rfl (λy=>?_) ?_)
    | exact VM)
theorem all_ok (M:Md K mg A fd):∀(n:Nat) (x:Fx),okK (kd x) P w K mg base (n + 2) (A x) (fd x) (ps x) (run n x)
 | 0,x=>QO
 | n + 1,x=>by
   have ih:=all_ok M n;exact step M ih x
end
abbrev fno (x:Fx)(kV dc pm:Value)(an:Option Addr)(cd ct:Value):FuncData:=PySem.W.fnOf (nm x) (nm x) (Dp (st x)) (Bk (st x)) (Ax (st x)) .none kV dc pm an cd ct
structure At (K:PySem.W.Frag)(x:Fx)(f:Addr)(fd:FuncData):Prop where
 a:PySem.W.nsIn K mainGlobals (nm x)=some (some (.ref f))
 fn:Fun K (nm x) (nm x) (st x) f fd
 bd:Binds K fd (ps x) []
 eq:∃kV dc pm an cd ct,fd=fno x kV dc pm an cd ct
theorem at_mk {K:PySem.W.Frag}{x:Fx}{f:Addr}{od an:Option Addr}{sl:Array (Option Value)}{oc kV dc pm cd ct:Value}(a:PySem.W.nsIn K mainGlobals (nm x)=some (some (.ref f)))(l:K.lookup f=some ⟨oc,od,.func (fno x kV dc pm an cd ct),sl⟩)(c:PySem.W.codeIn K cd (nm x)=true)(k:PySem.W.keepIn K (.ref f)=true):∃p:Addr×FuncData,At K x p.1 p.2:=by
 refine ⟨(f,fno x kV dc pm an cd ct),a,Ir (st:=st x) l c k,(Ir (st:=st x) l c k).binds (ps:=ps x) λ_ _ _ _ _ _ us hl=>?_,_,_,_,_,_,_,rfl⟩
 cases x <;> first | (obtain rfl:=List.eq_nil_of_length_eq_zero hl;rfl) | (obtain ⟨_,rfl⟩:=us1 hl;rfl) | (obtain ⟨_,_,rfl⟩:=us2 hl;rfl) | (obtain ⟨_,_,_,rfl⟩:=us3 hl;rfl) | (obtain ⟨_,_,_,_,rfl⟩:=us4 hl;rfl) | (obtain ⟨_,_,_,_,_,rfl⟩:=us5 hl;rfl) | (obtain ⟨_,_,_,_,_,_,rfl⟩:=us6 hl;rfl) | (obtain ⟨_,_,_,_,_,_,_,rfl⟩:=us7 hl;rfl)
theorem xm_all {K:PySem.W.Frag}{h:Heap}{mg:Str->Option Value}{P c1 c2 c3 c4 c5 c6 c7:Addr}{f:Addr}{od an:Option Addr}{sl:Array (Option Value)}{oc kV dc pm cd ct:Value}(X:K.In h)(G:h.Ns mainGlobals mg)(p:PySem.W.nsIn K mainGlobals "ParleyError" = some (some (.ref P)))(a1:PySem.W.nsIn K mainGlobals "NoValue" = some (some (.ref c1)))(a2:PySem.W.nsIn K mainGlobals "Short" = some (some (.ref c2)))(a3:PySem.W.nsIn K mainGlobals "Broken" = some (some (.ref c3)))(a4:PySem.W.nsIn K mainGlobals "NoTalk" = some (some (.ref c4)))(a5:PySem.W.nsIn K mainGlobals "NoName" = some (some (.ref c5)))(a6:PySem.W.nsIn K mainGlobals "NoText" = some (some (.ref c6)))(a7:PySem.W.nsIn K mainGlobals "NoRow" = some (some (.ref c7)))(q:NL K P [c1,c2,c3,c4,c5,c6,c7]=true)(nd:[P,c1,c2,c3,c4,c5,c6,c7].Nodup)(fi:PySem.W.findIn K (.ref c4) "__init__" = some (some (.ref f)))(l:K.lookup f=some ⟨oc,od,.func (PySem.W.fnOf "__init__" "NoTalk.__init__" (Dp (Eb (top 5) 0)) (Bk (Eb (top 5) 0)) (Ax (Eb (top 5) 0)) .none kV dc pm an cd ct),sl⟩)(ii:KU K c4 f=true)(hf:PySem.W.isFn K (.ref f)=true)(hs:PySem.W.findIn K (.ref c4) "__setattr__" = some (some (.builtin "object.__setattr__")))(cc:PySem.W.codeIn K cd "NoTalk.__init__" = true)(k:PySem.W.keepIn K (.ref f)=true):∃(P:Addr) (ca:Str->Addr),XM K mg P ca/\XF1 K (ca "NoTalk") P "NoTalk.__init__" (Eb (top 5) 0)/\∀n∈([]:List Str),XN0 K (ca n):=by
 have x:=YM X G p a1 a2 a3 a4 a5 a6 a7 q nd;refine ⟨P,_,x,Xs (C:=c4) (st:=(Eb (top 5) 0)) ⟨x.cl "NoTalk" (by decide),x.kp "NoTalk" (by decide),x.gt "NoTalk" (by decide),x.gc "NoTalk" (by decide),x.na "NoTalk" (by decide),x.nd "NoTalk" (by decide)⟩ ii hf hs l cc k (λ_ _ _ _ _ _ us hl=>by match us,hl with | [_,_],_=>rfl),?_⟩;intro n hn
 cases hn
theorem fin_mk {K:PySem.W.Frag}{h:Heap}{mg:Str->Option Value}{fa:Addr}(X:K.In h)(G:h.Ns mainGlobals mg)(hmg:mg "law" = some (.ref fa))(H:∀x:Fx,∃p:Addr×FuncData,At K x p.1 p.2)(aI:PySem.W.nsIn K mainGlobals "ValueError" = some none)(aN:PySem.W.nsIn K mainGlobals "bool" = some none)(aH:PySem.W.nsIn K mainGlobals "enumerate" = some none)(aO:PySem.W.nsIn K mainGlobals "int" = some none)(a9:PySem.W.nsIn K mainGlobals "isinstance" = some none)(aS:PySem.W.nsIn K mainGlobals "len" = some none)(aL:PySem.W.nsIn K mainGlobals "list" = some none)(aR:PySem.W.nsIn K mainGlobals "min" = some none)(aU:PySem.W.nsIn K mainGlobals "ord" = some none)(aJ:PySem.W.nsIn K mainGlobals "range" = some none)(aT:PySem.W.nsIn K mainGlobals "str" = some none)(aK:PySem.W.nsIn K mainGlobals "tuple" = some none){aP:Tok}(aF:PySem.W.nsIn K mainGlobals "FIRST_SIGN" = some (some (.int 32 aP))){aQ:Tok}(aG:PySem.W.nsIn K mainGlobals "LAST_SIGN" = some (some (.int 126 aQ))){aM:Tok}(aE:PySem.W.nsIn K mainGlobals "PERCENT_SIGN" = some (some (.int 37 aM)))(xm:∃(P:Addr) (ca:Str->Addr),XM K mg P ca/\XF1 K (ca "NoTalk") P "NoTalk.__init__" (Eb (top 5) 0)/\∀n∈([]:List Str),XN0 K (ca n)):∃(A:Fx->Addr) (fd:Fx->FuncData),Md K mg A fd/\A .law_=fa/\∀(s:Shared) (u:Value),BindsTo s (fd .law_) ⟨[u],[]⟩ [("script",u)]:=by
 obtain ⟨F,hF⟩:=Classical.axiomOfChoice H;refine ⟨λx=>(F x).1,λx=>(F x).2,{ fn:=λx=>(hF x).fn,mgs:=λx=>PySem.W.mg_of X G (hF x).a,bd:=λx=>(hF x).bd,xm:=xm,aI:=PySem.W.mg_none_of X G aI,aN:=PySem.W.mg_none_of X G aN,aH:=PySem.W.mg_none_of X G aH,aO:=PySem.W.mg_none_of X G aO,a9:=PySem.W.mg_none_of X G a9,aS:=PySem.W.mg_none_of X G aS,aL:=PySem.W.mg_none_of X G aL,aR:=PySem.W.mg_none_of X G aR,aU:=PySem.W.mg_none_of X G aU,aJ:=PySem.W.mg_none_of X G aJ,aT:=PySem.W.mg_none_of X G aT,aK:=PySem.W.mg_none_of X G aK,aF:=⟨aP,PySem.W.mg_of X G aF⟩,aG:=⟨aQ,PySem.W.mg_of X G aG⟩,aE:=⟨aM,PySem.W.mg_of X G aE⟩ },?_,λs u=>?_⟩
 ·have e:=hmg.symm.trans (PySem.W.mg_of X G (hF .law_).a)
  cases e
  rfl
 ·obtain ⟨_,_,_,_,_,_,e⟩:=(hF .law_).eq;show BindsTo s (F .law_).2 _ _;rw [e];exact .of_eq rfl
theorem walk {l:PySem.W.OpenLaw}{q:Program}{loose:List Str}{XP:(Str->Option Value)->Heap->Prop}{YP:World->Heap->Prop}{d:DefRec}{K:Params->PySem.W.Frag}(m:Nat)(hm:Room (m + 2) callerA)(hn:l.most=some 63)(hdf:d.params.defaults=[])
 (hY:∀(w:World) (h:Heap),YP w h->(K w.params).In h) (lt:∀ns:List Int,ns.length<=63->∃S',run m .law_ [.scr ns] []=some (.bl true,S'))
 (F:∀(w:World) (mg:Str->Option Value) (fa:Addr) (h:Heap),(K w.params).In h->h.Ns mainGlobals mg->mg d.name=some (.ref fa)->
   ∃(A:Fx->Addr) (fd:Fx->FuncData),Md (K w.params) mg A fd/\A .law_=fa/\∀(s:Shared) (u:Value),BindsTo s (fd .law_) ⟨[u],[]⟩ [("script",u)]) :
 PySem.W.WalkO q loose XP YP l.row.toRowW d [] (λf vs=>PySem.call f vs):=
 L2.U4 (n:=63) (k:=m + 2) (x:="script") (CX:=λ_=>CX0) (sp:=λw=>spF (K w.params) (run m .law_)) hn (by decide) hdf hm hY
  (λw mg fa h KX G hmg=>by obtain ⟨A,fd,M,e,b⟩:=F w mg fa h KX G hmg;subst e;exact ⟨fd .law_,b,λbase _ _=>all_ok M m .law_⟩)
  (λw H a ns hl hO hS=>by obtain ⟨S',e⟩:=lt ns hl;exact OJ hO hS e) λ_ _ _ _ _ z=>z
theorem TX (k:Nat):LP (run (k + 1) .B9):=λd h=>KY h
theorem F8 (k:Nat):ED (run (k + 2) .AG):=PX (TX k)
theorem Rk (k:Nat):Ki (run (k + 1) .CO):=M7
theorem Rr (k:Nat):Kj (run (k + 2) .B8):=KO (Rk k)
theorem KL:∀(n k:Nat),2 * n + 3<=k->Fo (run k .Dz) n
 | 0,k,_=>λs hs=>absurd s.depth_pos (by lia)
 | n + 1,k,h=>by
   obtain ⟨j,rfl⟩:∃j,k=j + 4:=Nat.exists_eq_add_of_le' (by lia);have ih:=KL n (j + 2) (by lia);exact Te (Jc ih (F8 j)) (KN ih) (KM ih) (Rr (j + 1)) (F8 (j + 1))
theorem QC (k:Nat):Ke (run (k + 1) .CP):=TF
theorem QM (k:Nat):Kf (run (k + 2) .Be):=TZ (QC k)
theorem U8 (k:Nat):H9 (run (k + 1) .By):=RD
theorem KK:∀(n k:Nat),n + 3<=k->BP (run k .AZ) n
 | 0,k,_=>λs hs=>absurd s.depth_pos (by lia)
 | n + 1,k,h=>by
   obtain ⟨j,rfl⟩:∃j,k=j + 3:=Nat.exists_eq_add_of_le' (by lia);exact Td (KK n (j + 2) (by lia)) (U8 (j + 1)) (QM j)
theorem QK (k:Nat):Gb (run (k + 1) .BO):=TR
theorem OG (k:Nat):IN (run (k + 1) .Dq):=OF
theorem PY (k:Nat):GR (run (k + 2) .Co):=RJ (OG k)
theorem OS (k:Nat):NamedO (run (k + 3) .Bx):=OR (PY k)
theorem OK:∀(n k:Nat),n + 1<=k->LK (run k .Br) n
 | 0,k,h=>by
   obtain ⟨j,rfl⟩:∃j,k=j + 1:=Nat.exists_eq_add_of_le' (by lia);exact R6 (.inl rfl)
 | n + 1,k,h=>by
   obtain ⟨j,rfl⟩:∃j,k=j + 1:=Nat.exists_eq_add_of_le' (by lia);exact R6 (.inr (OK n j (by lia)))
theorem DQ (k:Nat):DrawD (run (k + 1) .AY):=Qg
theorem Fb (k:Nat):C8 (run (k + 1) .A1):=Pt
theorem JP:∀(n k:Nat),n + 2<=k->CJ (run k .Bs) n
 | 0,k,_=>λd s r hd=>absurd hd (by lia)
 | n + 1,k,h=>by
   obtain ⟨j,rfl⟩:∃j,k=j + 2:=Nat.exists_eq_add_of_le' (by lia);exact Ps (FI (DQ j)) (.inr (JP n (j + 1) (by lia)))
theorem MG:∀(n k:Nat),n + 2<=k->Gf (run k .Bt) n
 | 0,k,_=>λs _ _ hs=>absurd s.depth_pos (by lia)
 | n + 1,k,h=>by
   obtain ⟨j,rfl⟩:∃j,k=j + 2:=Nat.exists_eq_add_of_le' (by lia);exact UV (FI (DQ j)) (.inr (MG n (j + 1) (by lia)))
theorem IT:∀(n k:Nat),n + 2<=k->BP (run k .A6) n
 | 0,k,_=>λs hs=>absurd s.depth_pos (by lia)
 | n + 1,k,h=>by
   obtain ⟨j,rfl⟩:∃j,k=j + 2:=Nat.exists_eq_add_of_le' (by lia);exact Nb (IT n (j + 1) (by lia)) (TN)
theorem Ml:∀(n k:Nat),n + 2<=k->LF5 (run k .BJ) n
 | 0,k,_=>λs hs=>absurd s.depth_pos (by lia)
 | n + 1,k,h=>by
   obtain ⟨j,rfl⟩:∃j,k=j + 1:=Nat.exists_eq_add_of_le' (by lia);exact Wb (.inr (Ml n j (by lia)))
theorem SN:ML (run 98 .Cl):=QB (IT 3 97 (by decide)) (Ml 3 97 (by decide))
theorem Pf:Kc (run 99 .BM):=ON (OK 20 98 (by decide)) (OO (U6 (QK 95) (Wh (KK 3 95 (by decide))) (O8 (O9 (KL 3 94 (by decide)) (OS 91)) (F8 93)))) Nc SN
theorem Tu:MJ (run 98 .Bd):=Tt (FI (DQ 96)) (JP 3 97 (by decide)) (Fb 96)
theorem Tw:PZ (run 99 .A4):=Tv (DQ 97) Tu (Fb 97)
theorem Pj:MN (run 99 .B7):=Q9 (IT 3 98 (by decide)) (MG 3 98 (by decide)) (FI (DQ 97)) (Fb 97)
theorem law_true (ns:List Int)(h:ns.length<=63):∃S',run 100 .law_ [.scr ns] []=some (.bl true,S'):=by
 obtain ⟨r,S',e,p⟩:=XL Pj (Nd (DQ 97)) Pf (Fb 98) Tw h;subst p;exact ⟨S',e⟩
end K67
namespace PySem.W.Fast
def tw10151732540347149663:=0
def tw10175142275525289231:=0
def tw10187173335155758345:=0
def tw1025470884079437962:=0
def tw10320720809277782397:=0
def tw10328223923727916357:=0
def tw10340550637874911655:=0
def tw1043723068502767372:=0
def tw10503275663586708641:=0
def tw10558446347737735822:=0
def tw10664835106692248665:=0
def tw10783472995760622486:=0
def tw10866031946736877606:=0
def tw10990993794648520893:=0
def tw11192762393688401134:=0
def tw11386979318126382791:=0
def tw11463574812517797979:=0
def tw11466316149857638738:=0
def tw11554297800712208863:=0
def tw11593313769391102899:=0
def tw11646687019905382501:=0
def tw11673846200961985694:=0
def tw1182864466100912003:=0
def tw11857444244861927739:=0
def tw11866214756924080850:=0
def tw11941510289454273629:=0
def tw12074758396443037852:=0
def tw12080875573097995989:=0
def tw12127314969974364793:=0
def tw12150503370243993137:=0
def tw12169136527564225964:=0
def tw12256834859191748944:=0
def tw12286629497783483755:=0
def tw12304108522505399350:=0
def tw12337326074519765387:=0
def tw12348645241217065979:=0
def tw12400278772929351543:=0
def tw12401010276543793463:=0
def tw12454836004461544938:=0
def tw12477999714394265788:=0
def tw1251586957927825399:=0
def tw12564022357199723830:=0
def tw12668328206821402860:=0
def tw12724637916701278432:=0
def tw1273393046411723967:=0
def tw12760025799360489154:=0
def tw12781729274441206209:=0
def tw12845973316889448785:=0
def tw12922158339608584891:=0
def tw12926911131972267252:=0
def tw13076596613361273021:=0
def tw13080797485419478001:=0
def tw13226656167345317403:=0
def tw13229335856353837593:=0
def tw13247613456470696112:=0
def tw13263317236010670063:=0
def tw13286422748937331350:=0
def tw13336551270030601736:=0
def tw13345840498354567856:=0
def tw13407030021097324749:=0
def tw1342058163110446490:=0
def tw13461362193560254381:=0
def tw13465740646657380284:=0
def tw13517162756653812772:=0
def tw13536083208887092568:=0
def tw13549385384345258386:=0
def tw13597709214348724023:=0
def tw13637465849557111379:=0
def tw13690383927882746661:=0
def tw13775629177804182420:=0
def tw1379180896493657904:=0
def tw13801670100524191107:=0
def tw13908590053244980800:=0
def tw1392836112125551467:=0
def tw13947245317758128214:=0
def tw13962709541138979718:=0
def tw13991970802005696364:=0
def tw14024318376106112245:=0
def tw14177090639753728350:=0
def tw14253887150755722331:=0
def tw14257336888459125630:=0
def tw14296801688837752639:=0
def tw14349186437013280339:=0
def tw14362022757288886588:=0
def tw14398092054865338351:=0
def tw14415480280504625753:=0
def tw14444496079905527512:=0
def tw1445579812148980451:=0
def tw14523785364806331188:=0
def tw14545401199177692729:=0
def tw14680215922314452387:=0
def tw14794532726034768812:=0
def tw14839231209567169746:=0
def tw14911611049314070402:=0
def tw14921503516157724139:=0
def tw15087551821176745137:=0
def tw15265350805185957442:=0
def tw15314438944864917204:=0
def tw15432892504555952152:=0
def tw15506134923305191201:=0
def tw15564138670838530659:=0
def tw15611590862295270995:=0
def tw15667539774656873975:=0
def tw15678745510308170756:=0
def tw15678928239732415685:=0
def tw15690416340524143943:=0
def tw15717412843400871175:=0
def tw15723453574680592166:=0
def tw15756174421480629860:=0
def tw15870476911872662353:=0
def tw1588121157849289732:=0
def tw15932556831151492678:=0
def tw15942582106261994957:=0
def tw15986161843604009287:=0
def tw16001453501383153591:=0
def tw16009139619781782236:=0
def tw16011469573405117707:=0
def tw16053802985501764980:=0
def tw16244083743454981588:=0
def tw16268674815684171267:=0
def tw16408235345932003566:=0
def tw16485673901369567584:=0
def tw16569013868429675069:=0
def tw16569921901191172473:=0
def tw16653907515416133052:=0
def tw16657014448652434152:=0
def tw16662985361990673018:=0
def tw16708658549224007094:=0
def tw1680108166352724105:=0
def tw16870565214710492508:=0
def tw16925807280752564051:=0
def tw16951516113507448504:=0
def tw16969610157743932175:=0
def tw17091247750256918448:=0
def tw17113896550876390759:=0
def tw1728860685483590328:=0
def tw17301422329181753977:=0
def tw17325226882299741740:=0
def tw17390593099720282563:=0
def tw17409055457870385655:=0
def tw17423446129134111882:=0
def tw17464651193803961820:=0
def tw17484479592720132453:=0
def tw17543964055449036855:=0
def tw17546257461922210771:=0
def tw1756620764391456632:=0
def tw17701476015797246535:=0
def tw17701592833415481006:=0
def tw17707236865589304015:=0
def tw17765909886875541068:=0
def tw17790388353333749156:=0
def tw1783480074495158700:=0
def tw17850208506539512164:=0
def tw1789804666533670186:=0
def tw17900740350630364544:=0
def tw17973520180807068600:=0
def tw1800092494623170927:=0
def tw18003651376365951266:=0
def tw18071837377415724254:=0
def tw18419790165693940858:=0
def tw1918835311210831125:=0
def tw1919979296881434175:=0
def tw1930162882131956347:=0
def tw1955522043265652285:=0
def tw2078357076600286056:=0
def tw2089317996392382977:=0
def tw2112966581554625473:=0
def tw2228043228917511218:=0
def tw2239561161382149226:=0
def tw2312217903407401583:=0
def tw2362599444998604317:=0
def tw2423710397837390993:=0
def tw2454282038420106016:=0
def tw2487769766614962061:=0
def tw2529373842561945046:=0
def tw2534818202137286096:=0
def tw2549446417958952361:=0
def tw2577806938079583505:=0
def tw2851928316802459442:=0
def tw2939790216614284005:=0
def tw3002484097234434960:=0
def tw3040128371706979001:=0
def tw305688616390877615:=0
def tw3062011956222206882:=0
def tw3083607395317995942:=0
def tw3118599934856050871:=0
def tw3194564269455642577:=0
def tw3202985161845404761:=0
def tw3285979930069123329:=0
def tw3297657518172037798:=0
def tw3314014218212713923:=0
def tw3342321092608234957:=0
def tw334827864795880913:=0
def tw3356386502576575005:=0
def tw3383477375318528892:=0
def tw3429491728945594099:=0
def tw3576918049351385609:=0
def tw3581987857695639719:=0
def tw3624554094659788604:=0
def tw3625929439427902053:=0
def tw3653422123800641262:=0
def tw3687002372945642322:=0
def tw3689891164518265227:=0
def tw3695016998449936195:=0
def tw3793524680707979055:=0
def tw3814976128687193585:=0
def tw3845704317135692570:=0
def tw3847549673749663289:=0
def tw3854526753799143217:=0
def tw403590452465973776:=0
def tw4046899206494269:=0
def tw406021584046074069:=0
def tw409225150608781234:=0
def tw409237355806090451:=0
def tw4144476122291176398:=0
def tw4244100074609134528:=0
def tw4306154032447324032:=0
def tw4306578883216613705:=0
def tw4330251738252590936:=0
def tw4393349094201130672:=0
def tw4541509017507153650:=0
def tw4568349846641808376:=0
def tw4576035574452045672:=0
def tw4612194518156445860:=0
def tw4677092277150368169:=0
def tw4712031131452269068:=0
def tw4741093522600845498:=0
def tw483710202313339106:=0
def tw4852249907068044587:=0
def tw4894138181457665641:=0
def tw4977584190286152828:=0
def tw4997707933512323380:=0
def tw5032733604013502289:=0
def tw5071016233107000738:=0
def tw5108162013696300425:=0
def tw5175555116592830487:=0
def tw5226350921077604544:=0
def tw5281281378710041121:=0
def tw5356721818543933689:=0
def tw5455183641023350912:=0
def tw5517423618872191752:=0
def tw5530953728177120713:=0
def tw5541034102408771178:=0
def tw5556450400428049710:=0
def tw5588191879950699346:=0
def tw5614224987741904733:=0
def tw5636493019549984944:=0
def tw5644882784779298340:=0
def tw5657375817318423115:=0
def tw5658631798444920520:=0
def tw5693283594556735869:=0
def tw5829025749891194088:=0
def tw5838934541963423793:=0
def tw5878677463746757681:=0
def tw5935998643223295048:=0
def tw5957027022951145576:=0
def tw6036631685016498447:=0
def tw6084740352768070396:=0
def tw6144707014198506828:=0
def tw6157714978668006686:=0
def tw6176999615732972919:=0
def tw6187270382536633383:=0
def tw6215367384122464103:=0
def tw6261350327598358100:=0
def tw6267915525940565242:=0
def tw6293287222543826487:=0
def tw6317770112351562864:=0
def tw6416928585549463577:=0
def tw6445183548568022365:=0
def tw6457762017542939531:=0
def tw6531427759815940820:=0
def tw653855154175513118:=0
def tw6547508018406401056:=0
def tw6558271288558322263:=0
def tw6602551410614365775:=0
def tw6611128238427679560:=0
def tw6613371178060456509:=0
def tw6625835167812578657:=0
def tw665211070532079039:=0
def tw676037424157613085:=0
def tw6946134869504043087:=0
def tw7000024308823494649:=0
def tw7087786524794749386:=0
def tw7107841100711945655:=0
def tw7119876820618059050:=0
def tw7140451293344478211:=0
def tw7197601966587298099:=0
def tw7275745155565651393:=0
def tw7278837825511819116:=0
def tw7300543917067259200:=0
def tw7446529539276900095:=0
def tw7480416803156225796:=0
def tw7490333287335978419:=0
def tw7588499542683175008:=0
def tw7597671149585733048:=0
def tw7615665912265211916:=0
def tw7625252868801897808:=0
def tw763762801665120635:=0
def tw7753477787659186545:=0
def tw7832122843590714166:=0
def tw7947445037285220348:=0
def tw8022996117573426737:=0
def tw8037033962276774722:=0
def tw8099922540124859126:=0
def tw8174790590801269514:=0
def tw8177528769174401822:=0
def tw823039990588348842:=0
def tw8233971168896621720:=0
def tw8290353834415533000:=0
def tw8321126124580226222:=0
def tw8327133706854805082:=0
def tw8373432123976393842:=0
def tw8446747982602099218:=0
def tw8457824371432300521:=0
def tw850276718068418241:=0
def tw8557255282679145928:=0
def tw8678716226093735721:=0
def tw8693166434572207664:=0
def tw8746349420700858168:=0
def tw8773361454993559907:=0
def tw8778808731735102556:=0
def tw880673171636379312:=0
def tw8822229777431978380:=0
def tw8880202706444623890:=0
def tw8972126803743876720:=0
def tw9010730761758874076:=0
def tw905737800339555801:=0
def tw909114042053352208:=0
def tw9235710352095865941:=0
def tw9242098960050266701:=0
def tw9254482102041614111:=0
def tw9291688507700038553:=0
def tw930169714851908404:=0
def tw9317436878342576814:=0
def tw9390302535682363761:=0
def tw9406671585271035601:=0
def tw9469330426512671986:=0
def tw9503633427790008429:=0
def tw9547363929321730166:=0
def tw9604147313870767260:=0
def tw9645601249093405015:=0
def tw9669741461906985902:=0
def tw9718937388646111045:=0
def tw9780310531910446697:=0
def tw9864492414453305149:=0
def tw986583915772984527:=0
def tw9893216379695222272:=0
def tw9893547424668504672:=0
end PySem.W.Fast
open PySem PySem.W PyProof.Rows
set_option maxRecDepth 100000 in
set_option maxHeartbeats 0 in
theorem PySem.Challenge.cw_wireparley_k67_wires_beside_holds : PySem.Challenge.rw_wireparley_k67_wires_beside.Holds := by
 w_on;o_law;k_head;(case hw=>w_witness2)
 k_fill
 refine K67.walk (l:=PySem.Challenge.rw_wireparley_k67_wires_beside) 100 ⟨rfl,by decide,by decide⟩ rfl rfl (λw h Y=>PySem.W.kIn_of Y) K67.law_true ?F
 case F=>
  intro w mg fa h KX G hmg;refine' K67.fin_mk KX G hmg ?H ?aI ?aN ?aH ?aO ?a9 ?aS ?aL ?aR ?aU ?aJ ?aT ?aK ?aF ?aG ?aE ?xm
  (case H=>intro x;cases x <;> (refine' K67.at_mk ?a ?l ?c ?k;(case a=>k_is);(case l=>k_is);(case c=>k_is);(case k=>k_is)))
  (case aI=>k_is)
  (case aN=>k_is)
  (case aH=>k_is)
  (case aO=>k_is)
  (case a9=>k_is)
  (case aS=>k_is)
  (case aL=>k_is)
  (case aR=>k_is)
  (case aU=>k_is)
  (case aJ=>k_is)
  (case aT=>k_is)
  (case aK=>k_is)
  (case aF=>k_is)
  (case aG=>k_is)
  (case aE=>k_is)
  (case xm=>refine' K67.xm_all KX G ?x_p ?x_a1 ?x_a2 ?x_a3 ?x_a4 ?x_a5 ?x_a6 ?x_a7 ?x_q ?x_nd ?x_fi ?x_l ?x_ii ?x_hf ?x_hs ?x_cc ?x_k;(case x_p=>k_is);(case x_a1=>k_is);(case x_a2=>k_is);(case x_a3=>k_is);(case x_a4=>k_is);(case x_a5=>k_is);(case x_a6=>k_is);(case x_a7=>k_is);(case x_q=>kernel_rfl);(case x_nd=>decide);(case x_fi=>k_is);(case x_l=>k_is);(case x_ii=>kernel_rfl);(case x_hf=>k_is);(case x_hs=>k_is);(case x_cc=>k_is);(case x_k=>k_is))
